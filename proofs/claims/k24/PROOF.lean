import PyProof.Rows.All
import Wide.All
import OpenK.AllK
import Wide.FinOn
import HandS.ForMost
import HandS.ForExc
import HandS.EndBits
import PyProof.ReprLen
import PyProof.ReprRoads
import PyProof.FitsInt
import HandS.TupAny
import HandS.Iter
import HandS.ExcIs
import HandS.TupMul
import HandS.IsInst
import HandS.Style
import KE.GoesMore
import KE.GoesEnum
import HandS.Rev
import HandS.Wide
import HandS.Deep
import HandS.Conv
import HandS.More
import HandS.TryOnly
import HandS.GenList
import HandS.Zip
import KE.SortData
import HandS.SortKw
import KE.DataMinMax
import KE.GoesZip
import HandS.TupSets
import PySem.Challenge.RW_coincounters_k24_best_within_steps
set_option Elab.async false
set_option linter.all false
set_option maxRecDepth 100000
set_option maxHeartbeats 4000000
/-! Part 1: promises of defs that are called where no repr is under way. -/
namespace CG
open PySem PySem.Spec PyProof.Rows L2
/-- the def at f keeps the promise sp wherever no guard is up and there is room -/
structure FnG (pr : Program) (wo : World) (K : PySem.W.Frag) (mg : Str → Option Value) (ba : Heap) (cx : CXT)
    (k : Nat) (f : Addr) (fd : FuncData) (ps : List Str) (sp : Sp) : Prop where
  len : ∀ vs H Q E, sp vs H Q E → vs.length = ps.length
  run : ∀ (A : Around) (out : List Env) (s : Shared) (H : Hp) (ar : Args) (us : List Value) (vs : List V) (Q : VK) (E : XK),
    A.guards = some [] → Room k A → Env0 pr wo K mg ba A out s H → BindsTo s fd ar (ps.zip us) → Vals vs us → sp vs H Q E →
    codeAny (model pr wo) A (.call (.ref f) ar) (CR cx out pr wo H s Q E) s
section
variable {pr : Program} {wo : World} {K : PySem.W.Frag} {mg : Str → Option Value} {ba : Heap} {cx : CXT}
theorem FnG.mono {j k : Nat} {f : Addr} {fd : FuncData} {ps : List Str} {sp : Sp} (G : FnG pr wo K mg ba cx j f fd ps sp) (h : j ≤ k) :
    FnG pr wo K mg ba cx k f fd ps sp :=
  ⟨G.len, fun A out s H ar us vs Q E hg hr => G.run A out s H ar us vs Q E hg (hr.mono h)⟩
theorem FnG.of {k : Nat} {f : Addr} {fd : FuncData} {ps : List Str} {sp : Sp} (G : FnOk pr wo K mg ba cx k f fd ps sp) :
    FnG pr wo K mg ba cx k f fd ps sp :=
  ⟨G.len, fun A out s H ar us vs Q E _ hr => G.run A out s H ar us vs Q E hr⟩
theorem FnG.imp {k : Nat} {f : Addr} {fd : FuncData} {ps : List Str} {sp sp' : Sp} (G : FnG pr wo K mg ba cx k f fd ps sp)
    (h : ∀ vs H Q E, sp' vs H Q E → sp vs H Q E) : FnG pr wo K mg ba cx k f fd ps sp' :=
  ⟨fun vs H Q E q => G.len vs H Q E (h _ _ _ _ q), fun A out s H ar us vs Q E hg hr he hb hv hs => G.run A out s H ar us vs Q E hg hr he hb hv (h _ _ _ _ hs)⟩
/-- a def by its body -/
theorem fnG_of {k : Nat} {f : Addr} {nm qu : Str} {pa : Arguments} {bd : List Stmt} {sc : Scope} {v1 v2 v3 v4 cd v5 oc : Value} {an od : Option Addr}
    {sl : Array (Option Value)} {N ps : List Str} {sp : Sp}
    (lk : K.lookup f = some ⟨oc, od, .func (PySem.W.fnOf nm qu pa bd sc v1 v2 v3 v4 an cd v5), sl⟩)
    (hcd : PySem.W.codeIn K cd qu = true) (S : FnScope N ps sc)
    (len : ∀ vs H Q E, sp vs H Q E → vs.length = ps.length)
    (hbo : ∀ (A : Around) (out : List Env) (s : Shared) (H : Hp) (vs : List V) (Q : VK) (E : XK), A.guards = some [] →
      Room k (A.deeper (envOfC qu sc s.heap.objs.size f cd)) → sp vs H Q E →
      ∃ t, PSs (cxOf cx pr wo K mg ba N qu sc f cd A out s H E) bd t ∧ t { nx := fun _ H' => Q .non H', rt := Q } (start N vs) H) :
    FnG pr wo K mg ba cx (k + 1) f (PySem.W.fnOf nm qu pa bd sc v1 v2 v3 v4 an cd v5) ps sp := by
  refine ⟨len, fun A out s H ar us vs Q E hgd hr e0 hb r hsp => ?_⟩
  have hl := len _ _ _ _ hsp
  have kin : K.In s.heap := e0.mod.kin.keeps fun b o z => (e0.bs b o z).1
  have nol : s.heap.NoLimit := e0.mod.nolimit.keeps fun b o z => (e0.bs b o z).1
  have kinds : ∀ y ∈ ps.zip us, sc.names.lookup y.1 = some .local ∨
      (sc.names.lookup y.1 = some .cell ∧ ((cellsFrom (s.heap.objs.size + 1) sc.names []).lookup y.1).isSome = true) := by
    rintro ⟨n, v⟩ hy
    rcases S.par n (List.of_mem_zip hy).1 with z | z
    · exact .inl z
    · exact .inr ⟨z, PySem.W.cellsFrom_some _ _ _ (.inl z)⟩
  refine codeAny_call_function hr.depth (kin _ _ lk) rfl S.co S.gen rfl (PySem.W.codeRec_of kin hcd) (hb _ _ _ _ ?_)
  refine wpAny_newFunctionEnv_cells S.kind kinds fun ev hev s1 x => ?_
  subst hev
  refine ⟨nol.keeps x.toInCall.keep, codeAny_func ?_⟩
  obtain ⟨t, ht, hq⟩ := hbo A out s H vs Q E hgd (hr.deeper _) hsp
  have I0 : Inv (cxOf cx pr wo K mg ba N qu sc f cd A out s H E) [] (start N vs) H s1 := inv_start S hr.hd e0 hl r x
  refine wpAny_mono (ht.run [] s1 (start N vs) H _ I0 hq) (fun fl s2 hs => ?_) fun e s2 hs => hs
  have done : ∀ {τ : L2.St} {H2 : Hp} {v : V} {u : Value}, Inv (cxOf cx pr wo K mg ba N qu sc f cd A out s H E) [] τ H2 s2 →
      RelV v u → Q v H2 → CE out pr wo H s Q u s2 := fun {τ H2 v u} J rv q => ⟨v, H2, J.os, J.bare, J.base, J.hok, rv, q⟩
  cases fl with
  | ret u =>
    obtain ⟨v, τ, H2, J, rv, q⟩ := hs
    exact done J rv q
  | next =>
    obtain ⟨τ, H2, J, q⟩ := hs
    exact done (v := V.non) (u := Value.none) J rfl q
  | brk =>
    obtain ⟨_, _, _, q⟩ := hs
    exact q.elim
  | cont =>
    obtain ⟨_, _, _, q⟩ := hs
    exact q.elim
theorem okG {x qu : Str} {st : Stmt} {f : Addr} {fd : FuncData} {N ps : List Str} {k : Nat} {sp : Sp} (F : Fun K x qu st f fd)
    (S : FnScope N ps (defScope st)) (len : ∀ vs H Q E, sp vs H Q E → vs.length = ps.length)
    (hbo : ∀ (cd : Value) (A : Around) (out : List Env) (s : Shared) (H : Hp) (vs : List V) (Q : VK) (E : XK), A.guards = some [] →
      Room k (A.deeper (envOfC qu (defScope st) s.heap.objs.size f cd)) → sp vs H Q E →
      ∃ t, PSs (cxOf CX0 pr wo K mg ba N qu (defScope st) f cd A out s H E).nox (defBody st) t ∧
        t { nx := fun _ H' => Q .non H', rt := Q } (start N vs) H) : FnG pr wo K mg ba CX0 (k + 1) f fd ps sp := by
  obtain ⟨oc, od, v2, v3, v4, an, cd, v5, sl, rfl, lk, hcd⟩ := F.ex
  refine fnG_of lk hcd S len fun A out s H vs Q E hg hr hsp => ?_
  obtain ⟨t, h, q⟩ := hbo cd A out s H vs Q E hg hr hsp
  exact ⟨t, h.nox, q⟩
theorem okGX {x qu : Str} {st : Stmt} {f : Addr} {fd : FuncData} {N ps : List Str} {k : Nat} {sp : Sp} (F : Fun K x qu st f fd)
    (S : FnScope N ps (defScope st)) (len : ∀ vs H Q E, sp vs H Q E → vs.length = ps.length)
    (hbo : ∀ (cd : Value) (A : Around) (out : List Env) (s : Shared) (H : Hp) (vs : List V) (Q : VK) (E : XK), A.guards = some [] →
      Room k (A.deeper (envOfC qu (defScope st) s.heap.objs.size f cd)) → sp vs H Q E →
      ∃ t, PSs (cxOf (L2.CX pr wo) pr wo K mg ba N qu (defScope st) f cd A out s H E) (defBody st) t ∧
        t { nx := fun _ H' => Q .non H', rt := Q } (start N vs) H) : FnG pr wo K mg ba (L2.CX pr wo) (k + 1) f fd ps sp := by
  obtain ⟨oc, od, v2, v3, v4, an, cd, v5, sl, rfl, lk, hcd⟩ := F.ex
  exact fnG_of lk hcd S len fun A out s H vs Q E hg hr hsp => hbo cd A out s H vs Q E hg hr hsp
end
section
variable {X : Cx} {cx : CXT} {k : Nat} {f : Addr} {fd : FuncData} {ps : List Str} {sp : Sp} {dvs : List V} {ds : List Value} {E : XK}
  {x : Str} {p pos : Pos} {e : Expr} {es : List Expr} {t : TA}
theorem runG {pins : List (Addr × Obj)} {σ : L2.St} {H : Hp} {s : Shared} {Q : VK} {us : List Value} {vs : List V}
    (G : FnG X.prog X.w X.K X.mg X.base cx k f fd ps sp) (hgd : X.A.guards = some []) (hr : Room k X.A) (hb : Binds X.K fd ps ds)
    (hd : Vals dvs ds) (hx : Passes cx X E) (I : Inv X pins σ H s) (r : Vals vs us) (h : sp (vs ++ dvs) H Q E) :
    wpAny (model X.prog X.w) X.A (call (.ref f) us) (EP X pins σ Q) X.xe s := by
  have rr : Vals (vs ++ dvs) (us ++ ds) := r.append hd
  have hl : (us ++ ds).length = ps.length := by
    rw [← rr.length]
    exact G.len _ _ _ _ h
  have go := G.run X.A X.stack s H ⟨us, []⟩ (us ++ ds) (vs ++ dvs) Q E hgd hr I.env0 (hb s us I.kIn hl) rr h
  refine wpAny_call (codeAny_mono go fun w s2 hq => ?_)
  cases w with
  | error er => exact hx pins σ H s er s2 I hq
  | ok fl =>
    cases fl with
    | ret u => exact I.after hq
    | next => exact hq.elim
    | brk => exact hq.elim
    | cont => exact hq.elim
/-- f(e, ..) -/
theorem pe_callG (G : FnG X.prog X.w X.K X.mg X.base cx k f fd ps sp) (hgd : X.A.guards = some []) (hr : Room k X.A) (hg : Gl X x)
    (hm : X.mg x = some (.ref f)) (hk : PySem.W.keepIn X.K (.ref f) = true) (hb : Binds X.K fd ps ds) (hd : Vals dvs ds)
    (hx : Passes cx X E) (ha : PA X (e :: es) t) (hdb : (x == ("__debug__" : Str)) = false := by decide)
    (he : starEach (e :: es) X.env = (false, eval e X.env) :: starEach es X.env := by rfl)
    (hpl : (backTo pos (starEach es X.env)).any (·.1) = false := by rfl) : PE X (.Call (.Name x p) (e :: es) [] pos) (tCall sp dvs E t) := by
  refine ⟨fun pins s σ H Q I h => wpAny_Call_Name_kw (ld_glob I hg hm ?_ hdb)⟩
  refine PySem.W.callWith_K (h₀ := X.base) I.ok.mod.kin hk ?_ he hpl
  exact thn (ha.run pos pins s σ H _ I h) fun us s1 ⟨vs, H1, I1, r, q⟩ => ⟨I1.kIn, runG G hgd hr hb hd hx I1 r q⟩
theorem pe_call0G (G : FnG X.prog X.w X.K X.mg X.base cx k f fd ps sp) (hgd : X.A.guards = some []) (hr : Room k X.A) (hg : Gl X x)
    (hm : X.mg x = some (.ref f)) (hk : PySem.W.keepIn X.K (.ref f) = true) (hb : Binds X.K fd ps ds) (hd : Vals dvs ds)
    (hx : Passes cx X E) (hdb : (x == ("__debug__" : Str)) = false := by decide) :
    PE X (.Call (.Name x p) [] [] pos) (tCall sp dvs E tNil) :=
  ⟨fun pins s σ H Q I h => wpAny_Call_Name_kw (ld_glob I hg hm (PySem.W.callWith_K0 I.kIn hk (runG (us := []) G hgd hr hb hd hx I .nil h)) hdb)⟩
end
/-- the law's call at the heap behind the top -/
theorem lawG {pr : Program} {wo : World} {K : PySem.W.Frag} {mg mb : Str → Option Value} {cx : CXT} {k : Nat} {fa a : Addr} {fd : FuncData}
    {x : Str} {sp : Sp} {s : Shared} {vs : List Value} {ns : List Int}
    (kin : K.In s.heap) (hns : s.heap.Ns mainGlobals mg) (hbn : s.heap.Ns builtinsNs mb) (hbb : ∀ x : Str, x ≠ "__name__" → mb x = bootBuiltins x)
    (hlim : s.heap.NoLimit) (hg : s.gens = #[]) (ha : s.heap.get? a = some { cls := .type "list", data := .seq vs.toArray })
    (hi : IntsAre vs ns) (hl : ns.length ≤ sizeLine) (hr : Room k callerA)
    (F : ∀ ba : Heap, K.In ba → ba.Ns mainGlobals mg → FnG pr wo K mg ba cx k fa fd [x] sp)
    (hbind : ∀ (s : Shared) (u : Value), BindsTo s fd ⟨[u], []⟩ [(x, u)])
    (hsp : ∀ H : Hp, Only H → SqL K H a (ns.map V.int) → sp [.ref a] H (fun v _ => v = .bl true) fun _ _ _ => False)
    (hCX : ∀ H e s', cx [] H s (fun _ _ _ => False) e s' → False) :
    codeAny (model pr wo) callerA (.call (.ref fa) ⟨[.ref a], []⟩)
      (fun r s' => r = .ok (.ret (.bool true)) ∧ OldK s.heap s'.heap ∧ s'.os = s.os ∧ AllBare s'.gens) s := by
  have rv := vals_ints hi
  have lenV := hi.length
  have core : ∀ H : Hp, Only H → SqL K H a (ns.map V.int) → HOk pr wo H s.heap → (∀ b, H b ≠ none → b = a) → (H a ≠ none → K.lookup a = none) →
      codeAny (model pr wo) callerA (.call (.ref fa) ⟨[.ref a], []⟩)
        (fun r s' => r = .ok (.ret (.bool true)) ∧ OldK s.heap s'.heap ∧ s'.os = s.os ∧ AllBare s'.gens) s := by
    intro H hO hS hok hA hK
    have down : ∀ {b : Addr} {o : Obj}, s.heap.get? b = some o → H b = none → (hidT s.heap H).get? b = some o := fun e n => hidT_get e n
    have free : ∀ {b : Addr} {o : Obj} {es : Array DictEntry} {ep : Nat}, s.heap.get? b = some o → o.data = .dict es ep → H b = none := by
      intro b o es ep z d
      cases q : H b with
      | none => rfl
      | some u =>
        have eb : b = a := hA b (by rw [q]; simp)
        subst eb
        rw [ha] at z
        cases z
        have d2 : Data.seq vs.toArray _ = Data.dict es ep := d
        cases d2
    have nsD : ∀ {b : Addr} {m : Str → Option Value}, s.heap.Ns b m → (hidT s.heap H).Ns b m := by
      rintro b m ⟨o, es, ep, z, d, r⟩
      exact ⟨o, es, ep, down z (free z d), d, r⟩
    have kinD : K.In (hidT s.heap H) := by
      intro b o z
      refine down (kin b o z) ?_
      cases q : H b with
      | none => rfl
      | some u =>
        have eb : b = a := hA b (by rw [q]; simp)
        subst eb
        rw [hK (by rw [q]; simp)] at z
        cases z
    obtain ⟨mc, l1, l2⟩ := hlim
    have md : Mod K mg (hidT s.heap H) := ⟨kinD, nsD hns, ⟨mb, nsD hbn, hbb⟩, ⟨mc, nsD l1, l2⟩⟩
    have e0 : Env0 pr wo K mg (hidT s.heap H) callerA [] s H :=
      ⟨rfl, md, fun b o z => of_hidT z, Nat.le_of_eq (hidT_size _ _), trivial, fun b hb => absurd (show b ∈ ([] : List Addr) from hb) (by simp), hok, .of_eq hg⟩
    have go := (F _ kinD (nsD hns)).run callerA [] s H ⟨[.ref a], []⟩ [.ref a] [.ref a] _ _ rfl hr e0 (hbind s (.ref a)) (.cons rfl .nil) (hsp H hO hS)
    refine codeAny_mono go fun r s' h => ?_
    cases r with
    | error er => exact (hCX H er s' h).elim
    | ok fl =>
      cases fl with
      | next => exact h.elim
      | brk => exact h.elim
      | cont => exact h.elim
      | ret u =>
        obtain ⟨v, H', os, bare, un, hok', r', q⟩ := h
        have q' : v = .bl true := q
        subst q'
        obtain rfl : u = Value.bool true := r'
        refine ⟨rfl, OldK.of_keep fun b o z => ?_, os, bare⟩
        cases q : H b with
        | none => exact un.keep b o z q (fun w => absurd (show b ∈ ([] : List Addr) from w) (by simp)) (by simp)
        | some u =>
          rcases hO b with w | ⟨ob, xs, w⟩
          · rw [q] at w
            cases w
          · have w2 := un.frzs b ob _ w
            obtain ⟨g1, _⟩ := hok b _ w
            obtain ⟨g2, _⟩ := hok' b _ w2
            rw [z] at g1
            cases g1
            exact g2
  cases hk : K.lookup a with
  | some o =>
    have e := kin a o hk
    rw [ha] at e
    cases e
    have sq : SqL K (fun _ => none) a (ns.map V.int) :=
      .inr ⟨_, vs.toArray, _, hk, rfl, rfl, rfl, by rw [List.size_toArray, lenV]; exact hl, by simpa using rv⟩
    exact core (fun _ => none) (fun _ => .inl rfl) sq (fun b u z => nomatch (show (none : Option HO) = some u from z)) (fun b z => absurd rfl z) fun z => absurd rfl z
  | none =>
    refine core (fun b => if b = a then some (.frz { cls := .type "list", data := .seq vs.toArray } (.lst (ns.map V.int))) else none)
      (fun b => ?_) (.inl (.inr ⟨{ cls := .type "list", data := .seq vs.toArray }, if_pos rfl⟩)) (fun b u z => ?_) (fun b z => ?_) fun _ => hk
    · by_cases hb : b = a
      · exact .inr ⟨_, _, if_pos hb⟩
      · exact .inl (if_neg hb)
    · by_cases hb : b = a
      · have w := (if_pos hb).symm.trans z
        cases w
        subst hb
        exact ⟨ha, by rw [List.length_map]; exact hl, vs, _, rv, ha⟩
      · have w := (if_neg hb).symm.trans z
        cases w
    · by_cases hb : b = a
      · exact hb
      · exact absurd (if_neg hb) z
/-- the end -/
theorem walkG {l : PySem.W.OpenLaw} {n k : Nat} {q : Program} {lo : List Str} {XP : (Str → Option Value) → Heap → Prop} {YP : World → Heap → Prop}
    {d : DefRec} {K : Params → PySem.W.Frag} {cx : World → CXT} {sp : World → Sp} {x : Str}
    (hn : l.most = some n) (hn2 : n ≤ sizeLine) (hdf : d.params.defaults = []) (hr : Room k callerA) (hY : ∀ (w : World) (h : Heap), YP w h → (K w.params).In h)
    (F : ∀ (w : World) (mg : Str → Option Value) (fa : Addr) (h : Heap), (K w.params).In h → h.Ns mainGlobals mg → mg d.name = some (.ref fa) →
      ∃ fd : FuncData, (∀ (s : Shared) (u : Value), BindsTo s fd ⟨[u], []⟩ [(x, u)]) ∧
        ∀ ba : Heap, (K w.params).In ba → ba.Ns mainGlobals mg → FnG l.prog w (K w.params) mg ba (cx w) k fa fd [x] (sp w))
    (hsp : ∀ (w : World) (H : Hp) (a : Addr) (ns : List Int), ns.length ≤ n → Only H → SqL (K w.params) H a (ns.map V.int) →
      sp w [.ref a] H (fun v _ => v = .bl true) fun _ _ _ => False)
    (hCX : ∀ (w : World) (H : Hp) (s : Shared) (e : Value) (s' : Shared), cx w [] H s (fun _ _ _ => False) e s' → False) :
    PySem.W.WalkO q lo XP YP l.row.toRowW d [] (fun f vs => PySem.call f vs) := by
  refine Att.attach_call hn hdf fun w s0 s1 mg mb fa o pm cd doc a vs ns G Y ho hd hcd hmg hobj hints hlen hg => ?_
  have kin := hY w _ Y
  obtain ⟨fd, hb, hF⟩ := F w mg fa _ kin G.T.g hmg
  have sp' := fun H hO hS => hsp w H a ns hlen hO hS
  exact lawG kin G.T.g G.T.b G.T.builtins G.T.nolimit hg hobj hints (Nat.le_trans hlen hn2) hr hF hb sp' fun H e s' => hCX w H s1 e s'
end CG

/-! Part 2: data held by the heap, away from the volatile places B; readings that denote data. -/
namespace CG
open PySem PySem.Spec PyProof.Rows L2
/-- the volatile places are tracked -/
def Al (B : Addr → Prop) (H : Hp) : Prop := ∀ a, B a → H a ≠ none
/-- all but the volatile places is kept -/
structure Xt (B : Addr → Prop) (H H' : Hp) : Prop where
  kp : ∀ a o, ¬ B a → H a = some o → H' a = some o
  al : Al B H'
section
variable {B : Addr → Prop} {H H1 H2 : Hp} {K : PySem.W.Frag} {a p : Addr} {xs : List V}
theorem Xt.refl (h : Al B H) : Xt B H H := ⟨fun _ _ _ e => e, h⟩
theorem Xt.trans (x : Xt B H H1) (y : Xt B H1 H2) : Xt B H H2 := ⟨fun a o n e => y.kp a o n (x.kp a o n e), y.al⟩
theorem Al.same (h : Al B H) (e : Same H H1) : Al B H1 := fun a b => by
  cases q : H a with
  | none => exact absurd q (h a b)
  | some o => rw [e a o q]; simp
theorem Xt.same (x : Xt B H H1) (e : Same H1 H2) : Xt B H H2 := ⟨fun a o n z => e a o (x.kp a o n z), x.al.same e⟩
theorem Xt.of (h : Al B H) (e : Same H H1) : Xt B H H1 := (Xt.refl h).same e
theorem Al.new (h : Al B H) (n : H p = none) : ¬ B p := fun b => h p b n
theorem same_new {o : HO} (n : H p = none) : Same H (upd H p o) := fun b z e => by
  rw [upd_ne (ne_of_none e n)]
  exact e
theorem Xt.sqT (x : Xt B H H1) (nb : ¬ B a) (h : SqT K H a xs) : SqT K H1 a xs := by
  rcases h with (h | ⟨o, h⟩) | h
  · exact .inl (.inl (x.kp _ _ nb h))
  · exact .inl (.inr ⟨o, x.kp _ _ nb h⟩)
  · exact .inr h
theorem Xt.sqL (x : Xt B H H1) (nb : ¬ B a) (h : SqL K H a xs) : SqL K H1 a xs := by
  rcases h with (h | ⟨o, h⟩) | h
  · exact .inl (.inl (x.kp _ _ nb h))
  · exact .inl (.inr ⟨o, x.kp _ _ nb h⟩)
  · exact .inr h
end
/-- a tuple of the written part -/
def KT (K : PySem.W.Frag) (a : Addr) (xs : List V) : Prop :=
  ∃ (o : Obj) (its : Array Value) (n : Nat), K.lookup a = some o ∧ o.cls = .type "tuple" ∧ o.data = .seq its n ∧ its.size ≤ sizeLine ∧ Vals xs its.toList
/-- data that is no object of its own -/
def sV : PyData → Option V
  | .none => some .non
  | .bool b => some (.bl b)
  | .int i => some (.int i)
  | .str x => some (.str x)
  | _ => none
def sK : PyData → Option Key
  | .int i => some (.inl i)
  | .str x => some (.inr x)
  | _ => none
/-- a dict of such data -/
def FlatD : List (PyData × PyData) → List (Key × V) → Prop
  | [], es => es = []
  | (k, d) :: r, es => ∃ y x t, es = (y, x) :: t ∧ sK k = some y ∧ sV d = some x ∧ FlatD r t
mutual
/-- v is the data d -/
def Rp (K : PySem.W.Frag) (B : Addr → Prop) (H : Hp) : PyData → V → Prop
  | .none, v => v = .non
  | .bool b, v => v = .bl b
  | .int i, v => v = .int i
  | .str x, v => v = .str x
  | .list ds, v => ∃ a xs, v = .ref a ∧ ¬ B a ∧ H a = some (.lst xs) ∧ RpA K B H ds xs
  | .tuple ds, v => ∃ a xs, v = .ref a ∧ (¬ B a ∨ KT K a xs) ∧ SqT K H a xs ∧ RpA K B H ds xs
  | .dict kvs, v => ∃ a es, v = .ref a ∧ ¬ B a ∧ H a = some (.dK es) ∧ FlatD kvs es
def RpA (K : PySem.W.Frag) (B : Addr → Prop) (H : Hp) : List PyData → List V → Prop
  | [], xs => xs = []
  | d :: ds, xs => ∃ x r, xs = x :: r ∧ Rp K B H d x ∧ RpA K B H ds r
end
section
variable {K : PySem.W.Frag} {B : Addr → Prop} {H H1 H2 : Hp} {v : V} {d : PyData} {ds : List PyData} {xs : List V}
theorem rp_non : Rp K B H .none v ↔ v = .non := by simp only [Rp]
theorem rp_bl {b : Bool} : Rp K B H (.bool b) v ↔ v = .bl b := by simp only [Rp]
theorem rp_int {i : Int} : Rp K B H (.int i) v ↔ v = .int i := by simp only [Rp]
theorem rp_str {x : Str} : Rp K B H (.str x) v ↔ v = .str x := by simp only [Rp]
theorem rp_lst : Rp K B H (.list ds) v ↔ ∃ a xs, v = .ref a ∧ ¬ B a ∧ H a = some (.lst xs) ∧ RpA K B H ds xs := by simp only [Rp]
theorem rp_tup : Rp K B H (.tuple ds) v ↔ ∃ a xs, v = .ref a ∧ (¬ B a ∨ KT K a xs) ∧ SqT K H a xs ∧ RpA K B H ds xs := by simp only [Rp]
theorem rp_dct {kvs : List (PyData × PyData)} : Rp K B H (.dict kvs) v ↔ ∃ a es, v = .ref a ∧ ¬ B a ∧ H a = some (.dK es) ∧ FlatD kvs es := by simp only [Rp]
theorem rpa_nil : RpA K B H [] xs ↔ xs = [] := by simp only [RpA]
theorem rpa_cons : RpA K B H (d :: ds) xs ↔ ∃ x r, xs = x :: r ∧ Rp K B H d x ∧ RpA K B H ds r := by simp only [RpA]
theorem RpA.cons (h : Rp K B H d v) (t : RpA K B H ds xs) : RpA K B H (d :: ds) (v :: xs) := rpa_cons.mpr ⟨v, xs, rfl, h, t⟩
theorem RpA.nil : RpA K B H [] [] := rpa_nil.mpr rfl
theorem RpA.inv {x : V} (h : RpA K B H (d :: ds) (x :: xs)) : Rp K B H d x ∧ RpA K B H ds xs := by
  obtain ⟨y, r, e, h1, h2⟩ := rpa_cons.mp h
  cases e
  exact ⟨h1, h2⟩
mutual
theorem Rp.mono (x : Xt B H H1) : ∀ (d : PyData) (v : V), Rp K B H d v → Rp K B H1 d v
  | .none, v, h => rp_non.mpr (rp_non.mp h)
  | .bool b, v, h => rp_bl.mpr (rp_bl.mp h)
  | .int i, v, h => rp_int.mpr (rp_int.mp h)
  | .str s, v, h => rp_str.mpr (rp_str.mp h)
  | .list ds, v, h => by
    obtain ⟨a, xs, e, nb, s, t⟩ := rp_lst.mp h
    exact rp_lst.mpr ⟨a, xs, e, nb, x.kp _ _ nb s, RpA.mono x ds xs t⟩
  | .tuple ds, v, h => by
    obtain ⟨a, xs, e, nb, s, t⟩ := rp_tup.mp h
    exact rp_tup.mpr ⟨a, xs, e, nb, nb.elim (fun nb => x.sqT nb s) .inr, RpA.mono x ds xs t⟩
  | .dict kvs, v, h => by
    obtain ⟨a, es, e, nb, s, t⟩ := rp_dct.mp h
    exact rp_dct.mpr ⟨a, es, e, nb, x.kp _ _ nb s, t⟩
theorem RpA.mono (x : Xt B H H1) : ∀ (ds : List PyData) (xs : List V), RpA K B H ds xs → RpA K B H1 ds xs
  | [], xs, h => rpa_nil.mpr (rpa_nil.mp h)
  | d :: ds, xs, h => by
    obtain ⟨y, r, e, h1, h2⟩ := rpa_cons.mp h
    exact rpa_cons.mpr ⟨y, r, e, Rp.mono x d y h1, RpA.mono x ds r h2⟩
end
theorem Rp.up (h : Rp K B H d v) (x : Xt B H H1) : Rp K B H1 d v := Rp.mono x d v h
theorem RpA.up (h : RpA K B H ds xs) (x : Xt B H H1) : RpA K B H1 ds xs := RpA.mono x ds xs h
theorem RpA.length : ∀ {ds : List PyData} {xs : List V}, RpA K B H ds xs → ds.length = xs.length
  | [], xs, h => by rw [rpa_nil.mp h]; rfl
  | d :: ds, xs, h => by
    obtain ⟨y, r, e, h1, h2⟩ := rpa_cons.mp h
    rw [e, List.length_cons, List.length_cons, RpA.length h2]
theorem RpA.get : ∀ {ds : List PyData} {xs : List V} {i : Nat} {d : PyData}, RpA K B H ds xs → ds[i]? = some d → ∃ x, xs[i]? = some x ∧ Rp K B H d x
  | [], xs, i, d, h, g => by simp at g
  | c :: ds, xs, 0, d, h, g => by
    obtain ⟨y, r, e, h1, h2⟩ := rpa_cons.mp h
    subst e
    simp only [List.getElem?_cons_zero, Option.some.injEq] at g
    subst g
    exact ⟨y, rfl, h1⟩
  | c :: ds, xs, i + 1, d, h, g => by
    obtain ⟨y, r, e, h1, h2⟩ := rpa_cons.mp h
    subst e
    rw [List.getElem?_cons_succ] at g
    obtain ⟨z, g1, g2⟩ := RpA.get h2 g
    exact ⟨z, by rw [List.getElem?_cons_succ]; exact g1, g2⟩
theorem RpA.back : ∀ {ds : List PyData} {xs : List V} {i : Nat} {x : V}, RpA K B H ds xs → xs[i]? = some x → ∃ d, ds[i]? = some d ∧ Rp K B H d x
  | [], xs, i, x, h, g => by rw [rpa_nil.mp h] at g; simp at g
  | c :: ds, xs, 0, x, h, g => by
    obtain ⟨y, r, e, h1, h2⟩ := rpa_cons.mp h
    subst e
    simp only [List.getElem?_cons_zero, Option.some.injEq] at g
    subst g
    exact ⟨c, rfl, h1⟩
  | c :: ds, xs, i + 1, x, h, g => by
    obtain ⟨y, r, e, h1, h2⟩ := rpa_cons.mp h
    subst e
    rw [List.getElem?_cons_succ] at g
    obtain ⟨z, g1, g2⟩ := RpA.back h2 g
    exact ⟨z, by rw [List.getElem?_cons_succ]; exact g1, g2⟩
theorem RpA.append : ∀ {ds es : List PyData} {xs ys : List V}, RpA K B H ds xs → RpA K B H es ys → RpA K B H (ds ++ es) (xs ++ ys)
  | [], es, xs, ys, h, k => by rw [rpa_nil.mp h]; exact k
  | c :: ds, es, xs, ys, h, k => by
    obtain ⟨y, r, e, h1, h2⟩ := rpa_cons.mp h
    subst e
    exact RpA.cons h1 (RpA.append h2 k)
theorem RpA.drop : ∀ {ds : List PyData} {xs : List V} (n : Nat), RpA K B H ds xs → RpA K B H (ds.drop n) (xs.drop n)
  | ds, xs, 0, h => h
  | [], xs, n + 1, h => by rw [rpa_nil.mp h]; exact RpA.nil
  | c :: ds, xs, n + 1, h => by
    obtain ⟨y, r, e, h1, h2⟩ := rpa_cons.mp h
    subst e
    exact RpA.drop n h2
theorem RpA.take : ∀ {ds : List PyData} {xs : List V} (n : Nat), RpA K B H ds xs → RpA K B H (ds.take n) (xs.take n)
  | ds, xs, 0, h => RpA.nil
  | [], xs, n + 1, h => by rw [rpa_nil.mp h]; exact RpA.nil
  | c :: ds, xs, n + 1, h => by
    obtain ⟨y, r, e, h1, h2⟩ := rpa_cons.mp h
    subst e
    exact RpA.cons h1 (RpA.take n h2)
theorem RpA.ints : ∀ (ns : List Int), RpA K B H (ns.map PyData.int) (ns.map V.int)
  | [] => RpA.nil
  | n :: ns => RpA.cons (rp_int.mpr rfl) (RpA.ints ns)
theorem RpA.ints_inv : ∀ {ns : List Int} {xs : List V}, RpA K B H (ns.map PyData.int) xs → xs = ns.map V.int
  | [], xs, h => rpa_nil.mp h
  | n :: ns, xs, h => by
    obtain ⟨y, r, e, h1, h2⟩ := rpa_cons.mp h
    rw [e, rp_int.mp h1, RpA.ints_inv h2]
    rfl
end
/-- B' is B with places that H does not know -/
structure Gw (B B' : Addr → Prop) (H : Hp) : Prop where
  up : ∀ a, B a → B' a
  fr : ∀ a, B' a → B a ∨ H a = none
section
variable {K : PySem.W.Frag} {B B' : Addr → Prop} {H H1 H2 : Hp}
theorem sqT_alive {a : Addr} {xs : List V} (h : SqT K H a xs) : KT K a xs ∨ H a ≠ none := by
  rcases h with (h | ⟨o, h⟩) | h
  · exact .inr (by rw [h]; simp)
  · exact .inr (by rw [h]; simp)
  · exact .inl h
mutual
theorem Rp.grow (g : Gw B B' H) : ∀ (d : PyData) (v : V), Rp K B H d v → Rp K B' H d v
  | .none, v, h => rp_non.mpr (rp_non.mp h)
  | .bool b, v, h => rp_bl.mpr (rp_bl.mp h)
  | .int i, v, h => rp_int.mpr (rp_int.mp h)
  | .str s, v, h => rp_str.mpr (rp_str.mp h)
  | .list ds, v, h => by
    obtain ⟨a, xs, e, nb, s, t⟩ := rp_lst.mp h
    refine rp_lst.mpr ⟨a, xs, e, fun z => ?_, s, RpA.grow g ds xs t⟩
    rcases g.fr a z with w | w
    · exact nb w
    · rw [s] at w
      cases w
  | .tuple ds, v, h => by
    obtain ⟨a, xs, e, nb, s, t⟩ := rp_tup.mp h
    refine rp_tup.mpr ⟨a, xs, e, ?_, s, RpA.grow g ds xs t⟩
    rcases nb with nb | nb
    · rcases sqT_alive s with k | k
      · exact .inr k
      · refine .inl fun z => ?_
        rcases g.fr a z with w | w
        · exact nb w
        · exact k w
    · exact .inr nb
  | .dict kvs, v, h => by
    obtain ⟨a, es, e, nb, s, t⟩ := rp_dct.mp h
    refine rp_dct.mpr ⟨a, es, e, fun z => ?_, s, t⟩
    rcases g.fr a z with w | w
    · exact nb w
    · rw [s] at w
      cases w
theorem RpA.grow (g : Gw B B' H) : ∀ (ds : List PyData) (xs : List V), RpA K B H ds xs → RpA K B' H ds xs
  | [], xs, h => rpa_nil.mpr (rpa_nil.mp h)
  | d :: ds, xs, h => by
    obtain ⟨y, r, e, h1, h2⟩ := rpa_cons.mp h
    exact rpa_cons.mpr ⟨y, r, e, Rp.grow g d y h1, RpA.grow g ds r h2⟩
end
mutual
theorem Rp.less (g : ∀ a, B a → B' a) : ∀ (d : PyData) (v : V), Rp K B' H d v → Rp K B H d v
  | .none, v, h => rp_non.mpr (rp_non.mp h)
  | .bool b, v, h => rp_bl.mpr (rp_bl.mp h)
  | .int i, v, h => rp_int.mpr (rp_int.mp h)
  | .str s, v, h => rp_str.mpr (rp_str.mp h)
  | .list ds, v, h => by
    obtain ⟨a, xs, e, nb, s, t⟩ := rp_lst.mp h
    exact rp_lst.mpr ⟨a, xs, e, fun z => nb (g a z), s, RpA.less g ds xs t⟩
  | .tuple ds, v, h => by
    obtain ⟨a, xs, e, nb, s, t⟩ := rp_tup.mp h
    exact rp_tup.mpr ⟨a, xs, e, nb.imp (fun nb z => nb (g a z)) id, s, RpA.less g ds xs t⟩
  | .dict kvs, v, h => by
    obtain ⟨a, es, e, nb, s, t⟩ := rp_dct.mp h
    exact rp_dct.mpr ⟨a, es, e, fun z => nb (g a z), s, t⟩
theorem RpA.less (g : ∀ a, B a → B' a) : ∀ (ds : List PyData) (xs : List V), RpA K B' H ds xs → RpA K B H ds xs
  | [], xs, h => rpa_nil.mpr (rpa_nil.mp h)
  | d :: ds, xs, h => by
    obtain ⟨y, r, e, h1, h2⟩ := rpa_cons.mp h
    exact rpa_cons.mpr ⟨y, r, e, Rp.less g d y h1, RpA.less g ds r h2⟩
end
/-- one more place -/
def Bp (B : Addr → Prop) (p : Addr) : Addr → Prop := fun a => B a ∨ a = p
theorem gw_new {p : Addr} (n : H p = none) : Gw B (Bp B p) H := ⟨fun _ h => .inl h, fun a h => h.elim .inl fun e => .inr (by rw [e]; exact n)⟩
theorem bp_up {p : Addr} : ∀ a, B a → Bp B p a := fun _ h => .inl h
theorem Xt.less (x : Xt B' H H1) (g : ∀ a, B a → B' a) (fr : ∀ a, B' a → B a ∨ H a = none) : Xt B H H1 := ⟨fun a o nb e => x.kp a o (fun z => by
  rcases fr a z with w | w
  · exact nb w
  · rw [e] at w
    cases w) e, fun a h => x.al a (g a h)⟩
end
/-! ### repr -/
section
variable {X : Cx} {pins : List (Addr × Obj)} {σ : L2.St} {H : Hp} {s : Shared} {B : Addr → Prop}
theorem flat_key {k : PyData} {y : Key} {u : Value} {s : Shared} (h : sK k = some y) (r : (mixKind X.prog X.w).is y u = true) : Reads s.heap u k [] := by
  have r' : keyIs y u = true := r
  rcases keyIs_shape r' with ⟨i, t, rfl, rfl⟩ | ⟨x, t, rfl, rfl⟩
  · cases k <;> simp only [sK, Option.some.injEq, reduceCtorEq, Sum.inl.injEq] at h
    subst h
    exact .int _ t
  · cases k <;> simp only [sK, Option.some.injEq, reduceCtorEq, Sum.inr.injEq] at h
    subst h
    exact .str _ t
theorem flat_val {d : PyData} {x : V} {u : Value} {s : Shared} (h : sV d = some x) (r : RelV x u) : Reads s.heap u d [] := by
  cases d <;> simp only [sV, Option.some.injEq, reduceCtorEq] at h <;> subst h
  · obtain rfl : u = Value.none := r
    exact .none
  · obtain rfl := (show u = Value.bool _ from r)
    exact .bool _
  · obtain ⟨t, rfl⟩ := (show ∃ t, u = Value.int _ t from r)
    exact .int _ t
  · obtain ⟨t, rfl⟩ := (show ∃ t, u = Value.str _ t from r)
    exact .str _ t
theorem flat_reads {s : Shared} : ∀ {kvs : List (PyData × PyData)} {es : List (Key × V)} {vs : List (Key × Value)} {l : List DictEntry}, FlatD kvs es → KV es vs → Pairs (mixKind X.prog X.w) l vs →
    ReadsAll s.heap (l.map (·.key)) (kvs.map (·.1)) [] ∧ ReadsAll s.heap (l.map (·.val)) (kvs.map (·.2)) []
  | [], es, vs, l, hf, hk, hp => by
    obtain rfl : es = [] := hf
    cases hk
    cases hp
    exact ⟨.nil, .nil⟩
  | (k, d) :: r, es, vs, l, hf, hk, hp => by
    obtain ⟨y, x, t, rfl, h1, h2, h3⟩ := hf
    cases hk with
    | cons a b =>
      obtain ⟨a1, a2⟩ := a
      cases hp with
      | cons c1 c2 e =>
        obtain ⟨g1, g2⟩ := flat_reads (s := s) h3 b e
        dsimp only at a1 a2
        rw [← a1] at c1
        rw [← c2] at a2
        exact ⟨.cons (as := []) (bs := []) (flat_key h1 c1) g1, .cons (as := []) (bs := []) (flat_val h2 a2) g2⟩
mutual
def noList : PyData → Bool
  | .list _ => false
  | .tuple ds => noListAll ds
  | _ => true
def noListAll : List PyData → Bool
  | [] => true
  | d :: ds => noList d && noListAll ds
end
mutual
theorem Rp.reads (I : Inv X pins σ H s) : ∀ (d : PyData) (v : V) (u : Value), Rp X.K B H d v → RelV v u → ∃ as, Reads s.heap u d as ∧ (noList d = true → sysModules ∉ as)
  | .none, v, u, h, r => by
    rw [rp_non.mp h] at r
    obtain rfl : u = Value.none := r
    exact ⟨_, .none, fun _ z => nomatch z⟩
  | .bool b, v, u, h, r => by
    rw [rp_bl.mp h] at r
    obtain rfl : u = Value.bool b := r
    exact ⟨_, .bool b, fun _ z => nomatch z⟩
  | .int i, v, u, h, r => by
    rw [rp_int.mp h] at r
    obtain ⟨t, rfl⟩ : ∃ t, u = Value.int i t := r
    exact ⟨_, .int i t, fun _ z => nomatch z⟩
  | .str x, v, u, h, r => by
    rw [rp_str.mp h] at r
    obtain ⟨t, rfl⟩ : ∃ t, u = Value.str x t := r
    exact ⟨_, .str x t, fun _ z => nomatch z⟩
  | .list ds, v, u, h, r => by
    obtain ⟨a, xs, rfl, _, sq, t⟩ := rp_lst.mp h
    obtain rfl : u = Value.ref a := r
    obtain ⟨its, rv, ⟨o, n, e, hc, _, hd⟩, _⟩ := I.list (SqL.of sq)
    obtain ⟨as, g, _⟩ := RpA.reads I ds xs its t rv
    exact ⟨_, .list e hc hd (by simpa using g), fun z => by simp only [noList] at z; cases z⟩
  | .tuple ds, v, u, h, r => by
    obtain ⟨a, xs, rfl, _, sq, t⟩ := rp_tup.mp h
    obtain rfl : u = Value.ref a := r
    obtain ⟨its, rv, ⟨o, e, hc, n, hd⟩, _⟩ := I.tuple sq
    obtain ⟨as, g, g2⟩ := RpA.reads I ds xs its t rv
    exact ⟨_, .tuple e hc hd (by simpa using g), fun z => g2 (by simpa only [noList] using z)⟩
  | .dict kvs, v, u, h, r => by
    obtain ⟨a, es, rfl, _, sq, t⟩ := rp_dct.mp h
    obtain rfl : u = Value.ref a := r
    obtain ⟨_, sy, vs, kv, o, en, ep, e, ⟨hc, _⟩, hd, _, hp, _⟩ := (show ObjOk X.prog X.w H s.heap a (.dK es) from I.hok a _ sq)
    obtain ⟨g1, g2⟩ := flat_reads (s := s) t kv hp
    refine ⟨_, .dict e hc hd g1 g2, fun _ z => ?_⟩
    have : sysModules = a := by simpa using z
    rw [this] at sy
    simp at sy
theorem RpA.reads (I : Inv X pins σ H s) : ∀ (ds : List PyData) (xs : List V) (us : List Value), RpA X.K B H ds xs → Vals xs us → ∃ as, ReadsAll s.heap us ds as ∧ (noListAll ds = true → sysModules ∉ as)
  | [], xs, us, h, r => by
    rw [rpa_nil.mp h] at r
    cases r
    exact ⟨_, .nil, fun _ z => nomatch z⟩
  | d :: ds, xs, us, h, r => by
    obtain ⟨y, rr, e, h1, h2⟩ := rpa_cons.mp h
    subst e
    cases r with
    | cons a b =>
      obtain ⟨as, g, g2⟩ := Rp.reads I d _ _ h1 a
      obtain ⟨bs, k, k2⟩ := RpA.reads I ds _ _ h2 b
      refine ⟨_, .cons g k, fun z => ?_⟩
      simp only [noListAll, Bool.and_eq_true] at z
      exact fun w => (List.mem_append.mp w).elim (g2 z.1) (k2 z.2)
end
end
/-- data whose text is known to be short: nested below n, of at most m signs -/
structure Sm (n m : Nat) (d : PyData) : Prop where
  sh : d.showable = true
  nd : d.hasDict = false
  dp : d.depth ≤ n
  ln : d.shown.length ≤ m
theorem Sm.mono {n m n' m' : Nat} {d : PyData} (h : Sm n m d) (hn : n ≤ n') (hm : m ≤ m') : Sm n' m' d :=
  ⟨h.sh, h.nd, Nat.le_trans h.dp hn, Nat.le_trans h.ln hm⟩
theorem sm_int {i : Int} (h : i.natAbs < 2 ^ 200) : Sm 0 202 (.int i) := by
  have hl : i.natAbs.log2 < 201 := by
    by_cases z : i.natAbs = 0
    · rw [z]; decide
    · have := (Nat.log2_lt z).mpr h
      omega
  refine ⟨?_, by simp only [PyData.hasDict], by simp only [PyData.depth]; exact Nat.le_refl _, ?_⟩
  · simp only [PyData.showable, decide_eq_true_eq]
    omega
  · rw [PyData.shown_int]
    have := int_text_length_le (a := i) (k := 201) (by decide) hl
    show (Str.ofString (toString i)).length ≤ 202
    rw [PySem.ofString_length]
    exact this
theorem sm_all {n m : Nat} : ∀ {ds : List PyData}, (∀ d ∈ ds, Sm n m d) →
    PyData.showableAll ds = true ∧ PyData.hasDictAll ds = false ∧ PyData.depthAll ds ≤ n ∧ ((PyData.shownAll ds).map (·.length)).sum ≤ ds.length * m
  | [], _ => by simp [PyData.showableAll, PyData.hasDictAll, PyData.depthAll, PyData.shownAll]
  | d :: ds, h => by
    obtain ⟨h1, h2, h3, h4⟩ := sm_all (ds := ds) fun x hx => h x (List.mem_cons_of_mem _ hx)
    have k := h d List.mem_cons_self
    refine ⟨?_, ?_, ?_, ?_⟩
    · simp only [PyData.showableAll, k.sh, h1, Bool.and_true]
    · simp only [PyData.hasDictAll, k.nd, h2, Bool.or_false]
    · simp only [PyData.depthAll]
      exact Nat.max_le.mpr ⟨k.dp, h3⟩
    · simp only [PyData.shownAll, List.map_cons, List.sum_cons, List.length_cons, Nat.succ_mul]
      have := k.ln
      omega
theorem sm_tup {n m : Nat} {ds : List PyData} (h : ∀ d ∈ ds, Sm n m d) : Sm (n + 1) (ds.length * m + 2 * ds.length + 3) (.tuple ds) := by
  obtain ⟨h1, h2, h3, h4⟩ := sm_all h
  refine ⟨by simpa only [PyData.showable] using h1, by simpa only [PyData.hasDict] using h2, by simp only [PyData.depth]; omega, ?_⟩
  have := tupleText_len_le (PyData.shownAll ds)
  simp only [PyData.shown]
  rw [PyData.shownAll_length] at this
  omega
theorem sm_lst {n m : Nat} {ds : List PyData} (h : ∀ d ∈ ds, Sm n m d) : Sm (n + 1) (ds.length * m + 2 * ds.length + 3) (.list ds) := by
  obtain ⟨h1, h2, h3, h4⟩ := sm_all h
  refine ⟨by simpa only [PyData.showable] using h1, by simpa only [PyData.hasDict] using h2, by simp only [PyData.depth]; omega, ?_⟩
  have := listText_len_le (PyData.shownAll ds)
  simp only [PyData.shown]
  rw [PyData.shownAll_length] at this
  omega
/-- small enough for repr -/
def Shw (d : PyData) : Prop := Sm 60 1000000 d
/-- the same for data that may hold dicts and holds no list -/
structure SmT (n m : Nat) (d : PyData) : Prop where
  sh : d.showable = true
  nl : noList d = true
  dp : d.depth ≤ n
  ln : d.shown.length ≤ m
theorem SmT.mono {n m n' m' : Nat} {d : PyData} (h : SmT n m d) (hn : n ≤ n') (hm : m ≤ m') : SmT n' m' d :=
  ⟨h.sh, h.nl, Nat.le_trans h.dp hn, Nat.le_trans h.ln hm⟩
theorem smt_of {n m : Nat} {d : PyData} (h : Sm n m d) (hl : noList d = true) : SmT n m d := ⟨h.sh, hl, h.dp, h.ln⟩
theorem smt_all {n m : Nat} : ∀ {ds : List PyData}, (∀ d ∈ ds, SmT n m d) →
    PyData.showableAll ds = true ∧ noListAll ds = true ∧ PyData.depthAll ds ≤ n ∧ ((PyData.shownAll ds).map (·.length)).sum ≤ ds.length * m
  | [], _ => by simp [PyData.showableAll, noListAll, PyData.depthAll, PyData.shownAll]
  | d :: ds, h => by
    obtain ⟨h1, h2, h3, h4⟩ := smt_all (ds := ds) fun x hx => h x (List.mem_cons_of_mem _ hx)
    have k := h d List.mem_cons_self
    refine ⟨?_, ?_, ?_, ?_⟩
    · simp only [PyData.showableAll, k.sh, h1, Bool.and_true]
    · simp only [noListAll, k.nl, h2, Bool.and_true]
    · simp only [PyData.depthAll]
      exact Nat.max_le.mpr ⟨k.dp, h3⟩
    · simp only [PyData.shownAll, List.map_cons, List.sum_cons, List.length_cons, Nat.succ_mul]
      have := k.ln
      omega
theorem smt_tup {n m : Nat} {ds : List PyData} (h : ∀ d ∈ ds, SmT n m d) : SmT (n + 1) (ds.length * m + 2 * ds.length + 3) (.tuple ds) := by
  obtain ⟨h1, h2, h3, h4⟩ := smt_all h
  refine ⟨by simpa only [PyData.showable] using h1, by simpa only [noList] using h2, by simp only [PyData.depth]; omega, ?_⟩
  have := tupleText_len_le (PyData.shownAll ds)
  simp only [PyData.shown]
  rw [PyData.shownAll_length] at this
  omega
def Shx (d : PyData) : Prop := Shw d ∨ SmT 60 1000000 d
def rRepr (K : PySem.W.Frag) : List V → Hp → VK → Prop := fun xs H Q => ∃ B v d, xs = [v] ∧ Rp K B H d v ∧ Shx d ∧ Q (.str d.shown) H
theorem call_reprD {X : Cx} (hg : X.A.guards = some []) (hu : X.A.units + 64 < cLine) : CallR X (.builtin "repr") (rRepr X.K) := by
  intro pins s σ H xs us Q I r h
  obtain ⟨B, v, d, rfl, hd, hs, q⟩ := h
  obtain ⟨u, rfl, t⟩ := vals1 r
  obtain ⟨as, rd, rs⟩ := Rp.reads I d v u hd t
  have ln : d.shown.length ≤ 1000000 := hs.elim (·.ln) (·.ln)
  have sh : d.showable = true := hs.elim (·.sh) (·.sh)
  have dp : d.depth ≤ 60 := hs.elim (·.dp) (·.dp)
  have sm : d.hasDict = true → sysModules ∉ as := hs.elim (fun h => PyData.noDict_hsm h.nd) fun h _ => rs h.nl
  have sz : d.shown.length ≤ sizeLine := Nat.le_trans ln (by decide)
  have fin : ∀ (h' : Heap) (u : Tok) (tk : Nat), (∀ b o, s.heap.get? b = some o → h'.get? b = some o) →
      EP X pins σ Q (.str d.shown u) { s with heap := h', toks := tk } := fun h' u tk hk =>
    ⟨.str d.shown, H, I.un (Un.kept hk) (I.hok.kept hk), ⟨u, rfl⟩, q⟩
  cases rd with
  | none =>
    have := fin s.heap s.toks (s.toks + 1) fun _ _ z => z
    rw [PyData.shown_none] at this
    exact PySem.P.repr_of_none this
  | bool b =>
    have := fin s.heap s.toks (s.toks + 1) fun _ _ z => z
    rw [PyData.shown_bool] at this
    refine PySem.P.repr_of_bool ?_
    cases b <;> exact this
  | int i t =>
    have := fin s.heap s.toks (s.toks + 1) fun _ _ z => z
    rw [PyData.shown_int] at this
    simp only [PyData.showable, decide_eq_true_eq] at sh
    exact PySem.P.repr_of_int sh this
  | str x t =>
    have := fin s.heap s.toks (s.toks + 1) fun _ _ z => z
    rw [PyData.shown_str] at this
    exact PySem.P.repr_of_str this (by rw [← PyData.shown_str]; exact sz)
  | list a1 a2 a3 a4 => exact repr_of_reads' (.list a1 a2 a3 a4) sh sm hg (by omega) (fun _ _ z => z) (fun h' u tk hk => fin h' u tk hk) sz
  | tuple a1 a2 a3 a4 => exact repr_of_reads' (.tuple a1 a2 a3 a4) sh sm hg (by omega) (fun _ _ z => z) (fun h' u tk hk => fin h' u tk hk) sz
  | dict a1 a2 a3 a4 a5 => exact repr_of_reads' (.dict a1 a2 a3 a4 a5) sh sm hg (by omega) (fun _ _ z => z) (fun h' u tk hk => fin h' u tk hk) sz
end CG

/-! Part 3: readings that denote data. -/
namespace CG
open PySem PySem.Spec PyProof.Rows L2
/-- the reading te gives the data d and changes nothing that stands -/
def Dn (K : PySem.W.Frag) (B : Addr → Prop) (te : TE) (σ : L2.St) (H : Hp) (d : PyData) : Prop :=
  ∀ H1, Xt B H H1 → ∀ Q : VK, (∀ v H2, Same H1 H2 → Rp K B H2 d v → Q v H2) → te σ H1 Q
def DnA (K : PySem.W.Frag) (B : Addr → Prop) (ta : TA) (σ : L2.St) (H : Hp) (ds : List PyData) : Prop :=
  ∀ H1, Xt B H H1 → ∀ Q : List V → Hp → Prop, (∀ vs H2, Same H1 H2 → RpA K B H2 ds vs → Q vs H2) → ta σ H1 Q
def DnT (B : Addr → Prop) (tt : TT) (σ : L2.St) (H : Hp) (b : Bool) : Prop :=
  ∀ H1, Xt B H H1 → ∀ Q : Bool → Hp → Prop, (∀ H2, Same H1 H2 → Q b H2) → tt σ H1 Q
def DnO (B : Addr → Prop) (to : TO) (σ : L2.St) (H : Hp) (o : Option Int) : Prop :=
  ∀ H1, Xt B H H1 → ∀ Q : Option Int → Hp → Prop, (∀ H2, Same H1 H2 → Q o H2) → to σ H1 Q
/-- operations on data -/
def RvD (K : PySem.W.Frag) (B : Addr → Prop) (r : R2) (da db d : PyData) : Prop :=
  ∀ H1 x y, Al B H1 → Rp K B H1 da x → Rp K B H1 db y → ∀ Q : VK, (∀ v H2, Same H1 H2 → Rp K B H2 d v → Q v H2) → r x y H1 Q
def RuD (K : PySem.W.Frag) (B : Addr → Prop) (r : V → Hp → VK → Prop) (da d : PyData) : Prop :=
  ∀ H1 x, Al B H1 → Rp K B H1 da x → ∀ Q : VK, (∀ v H2, Same H1 H2 → Rp K B H2 d v → Q v H2) → r x H1 Q
def RcD (K : PySem.W.Frag) (B : Addr → Prop) (r : List V → Hp → VK → Prop) (ds : List PyData) (d : PyData) : Prop :=
  ∀ H1 xs, Al B H1 → RpA K B H1 ds xs → ∀ Q : VK, (∀ v H2, Same H1 H2 → Rp K B H2 d v → Q v H2) → r xs H1 Q
/-- a def's promise over data -/
def spP (K : PySem.W.Frag) (P : List PyData → PyData → Prop) : Sp := fun vs H Q _ =>
  ∃ B ds d, Al B H ∧ RpA K B H ds vs ∧ P ds d ∧ ∀ v H', Same H H' → Rp K B H' d v → Q v H'
section
variable {K : PySem.W.Frag} {B : Addr → Prop} {σ : L2.St} {H H1 H2 : Hp} {ta tb te : TE} {tx : TA} {tt tu : TT} {v : V} {d da db dc : PyData}
  {ds es : List PyData} {r : R2} {b c : Bool}
theorem Dn.up (h : Dn K B te σ H d) (x : Xt B H H1) : Dn K B te σ H1 d := fun H2 y Q q => h H2 (x.trans y) Q q
theorem DnT.eq (h : DnT B tt σ H b) (e : b = c) : DnT B tt σ H c := e ▸ h
theorem Dn.eq (h : Dn K B te σ H d) (e : d = da) : Dn K B te σ H da := e ▸ h
theorem dn_var {i : Nat} (h : σ[i]? = some (some v)) (r : Rp K B H d v) : Dn K B (tVar i) σ H d := fun H1 x Q q =>
  ⟨v, h, q v H1 (Same.refl H1) (r.up x)⟩
theorem dn_int {i : Int} : Dn K B (tC (.int i)) σ H (.int i) := fun H1 x Q q => q _ H1 (Same.refl H1) (rp_int.mpr rfl)
theorem dn_bl : Dn K B (tC (.bl b)) σ H (.bool b) := fun H1 x Q q => q _ H1 (Same.refl H1) (rp_bl.mpr rfl)
theorem dn_non : Dn K B (tC .non) σ H .none := fun H1 x Q q => q _ H1 (Same.refl H1) (rp_non.mpr rfl)
theorem dn_str {z : Str} : Dn K B (tC (.str z)) σ H (.str z) := fun H1 x Q q => q _ H1 (Same.refl H1) (rp_str.mpr rfl)
theorem dn_op (ha : Dn K B ta σ H da) (hb : Dn K B tb σ H db) (hr : RvD K B r da db d) : Dn K B (tOp r ta tb) σ H d := fun H1 x Q q =>
  ha H1 x _ fun v H2 e2 r2 => hb H2 (x.same e2) _ fun w H3 e3 r3 =>
    hr H3 v w ((x.same e2).same e3).al (r2.up (Xt.of (x.same e2).al e3)) r3 Q fun z H4 e4 r4 => q z H4 (e2.trans (e3.trans e4)) r4
theorem dn_un {r : V → Hp → VK → Prop} (ha : Dn K B ta σ H da) (hr : RuD K B r da d) : Dn K B (tUn r ta) σ H d := fun H1 x Q q =>
  ha H1 x _ fun v H2 e2 r2 => hr H2 v (x.same e2).al r2 Q fun z H4 e4 r4 => q z H4 (e2.trans e4) r4
theorem da_nil : DnA K B tNil σ H [] := fun H1 x Q q => q [] H1 (Same.refl H1) RpA.nil
theorem da_cons (ha : Dn K B te σ H d) (hr : DnA K B tx σ H ds) : DnA K B (tCons te tx) σ H (d :: ds) := fun H1 x Q q =>
  ha H1 x _ fun v H2 e2 r2 => hr H2 (x.same e2) _ fun vs H3 e3 r3 => q (v :: vs) H3 (e2.trans e3) (.cons (r2.up (Xt.of (x.same e2).al e3)) r3)
theorem dn_tup (h : DnA K B tx σ H ds) (z : ds.length ≤ 100000) : Dn K B (tTup tx) σ H (.tuple ds) := fun H1 x Q q =>
  h H1 x _ fun vs H2 e2 r2 => ⟨by rw [← r2.length]; exact Nat.le_trans z (by decide), fun p np =>
    q (.ref p) _ (e2.trans (same_new np)) (rp_tup.mpr ⟨p, vs, rfl, .inl ((x.same e2).al.new np), SqT.of upd_same, r2.up (Xt.of (x.same e2).al (same_new np))⟩)⟩
theorem dn_lst (h : DnA K B tx σ H ds) (z : ds.length ≤ 100000) : Dn K B (tLst tx) σ H (.list ds) := fun H1 x Q q =>
  h H1 x _ fun vs H2 e2 r2 => ⟨by rw [← r2.length]; exact Nat.le_trans z (by decide), fun p np =>
    q (.ref p) _ (e2.trans (same_new np)) (rp_lst.mpr ⟨p, vs, rfl, (x.same e2).al.new np, upd_same, r2.up (Xt.of (x.same e2).al (same_new np))⟩)⟩
theorem dn_cb {r : List V → Hp → VK → Prop} (h : DnA K B tx σ H ds) (hr : RcD K B r ds d) : Dn K B (tCB r tx) σ H d := fun H1 x Q q =>
  h H1 x _ fun vs H2 e2 r2 => hr H2 vs (x.same e2).al r2 Q fun z H4 e4 r4 => q z H4 (e2.trans e4) r4
theorem dn_call {P : List PyData → PyData → Prop} {E : XK} (h : DnA K B tx σ H ds) (hp : P ds d) : Dn K B (tCall (spP K P) [] E tx) σ H d := fun H1 x Q q =>
  h H1 x _ fun vs H2 e2 r2 => ⟨B, ds, d, (x.same e2).al, by rw [List.append_nil]; exact r2, hp, fun v H' e r => q v H' (e2.trans e) r⟩
/-! tests -/
theorem dt_test (h : Dn K B te σ H (.bool b)) : DnT B (tTest te) σ H b := fun H1 x Q q => h H1 x _ fun v H2 e r => ⟨b, rp_bl.mp r, q H2 e⟩
theorem dt_B (h : Dn K B te σ H (.bool b)) : DnT B (tB te) σ H b := fun H1 x Q q => h H1 x _ fun v H2 e r => ⟨b, rp_bl.mp r, q H2 e⟩
theorem dt_not (h : DnT B tt σ H b) : DnT B (tNot tt) σ H (!b) := fun H1 x Q q => h H1 x _ fun H2 e => q H2 e
theorem dt_and (h : DnT B tt σ H b) (k : b = true → DnT B tu σ H c) : DnT B (tAnd tt tu) σ H (b && c) := fun H1 x Q q => h H1 x _ fun H2 e => by
  cases b with
  | true =>
    rw [if_pos rfl]
    exact k rfl H2 (x.same e) Q fun H3 e3 => q H3 (e.trans e3)
  | false =>
    rw [if_neg (by decide)]
    exact q H2 e
theorem dt_or (h : DnT B tt σ H b) (k : b = false → DnT B tu σ H c) : DnT B (tOr tt tu) σ H (b || c) := fun H1 x Q q => h H1 x _ fun H2 e => by
  cases b with
  | true =>
    rw [if_pos rfl]
    exact q H2 e
  | false =>
    rw [if_neg (by decide)]
    exact k rfl H2 (x.same e) Q fun H3 e3 => q H3 (e.trans e3)
theorem dn_ifx (h : DnT B tt σ H b) (k1 : b = true → Dn K B ta σ H d) (k2 : b = false → Dn K B tb σ H d) : Dn K B (tIf tt ta tb) σ H d :=
  fun H1 x Q q => h H1 x _ fun H2 e => by
  cases b with
  | true =>
    rw [if_pos rfl]
    exact k1 rfl H2 (x.same e) Q fun v H3 e3 r3 => q v H3 (e.trans e3) r3
  | false =>
    rw [if_neg (by decide)]
    exact k2 rfl H2 (x.same e) Q fun v H3 e3 r3 => q v H3 (e.trans e3) r3
theorem dn_and (ha : Dn K B ta σ H (.bool b)) (hb : b = true → Dn K B tb σ H (.bool c)) : Dn K B (tAndV ta tb) σ H (.bool (b && c)) :=
  fun H1 x Q q => ha H1 x _ fun v H2 e r => ⟨b, rp_bl.mp r, by
  cases b with
  | true =>
    rw [if_pos rfl]
    exact hb rfl H2 (x.same e) Q fun v H3 e3 r3 => q v H3 (e.trans e3) r3
  | false =>
    rw [if_neg (by decide)]
    exact q _ H2 e (rp_bl.mpr rfl)⟩
theorem dn_or (ha : Dn K B ta σ H (.bool b)) (hb : b = false → Dn K B tb σ H (.bool c)) : Dn K B (tOrV ta tb) σ H (.bool (b || c)) :=
  fun H1 x Q q => ha H1 x _ fun v H2 e r => ⟨b, rp_bl.mp r, by
  cases b with
  | true =>
    rw [if_pos rfl]
    exact q _ H2 e (rp_bl.mpr rfl)
  | false =>
    rw [if_neg (by decide)]
    exact hb rfl H2 (x.same e) Q fun v H3 e3 r3 => q v H3 (e.trans e3) r3⟩
theorem dn_not (ha : Dn K B ta σ H (.bool b)) : Dn K B (tNotV ta) σ H (.bool (!b)) := fun H1 x Q q =>
  ha H1 x _ fun v H2 e r => ⟨b, rp_bl.mp r, q _ H2 e (rp_bl.mpr rfl)⟩
theorem do_none : DnO B tNoPart σ H none := fun H1 x Q q => q H1 (Same.refl H1)
theorem do_some {i : Int} (h : Dn K B te σ H (.int i)) : DnO B (tPart te) σ H (some i) := fun H1 x Q q =>
  h H1 x _ fun v H2 e r => ⟨i, rp_int.mp r, q H2 e⟩
/-! operators on ints -/
theorem rd_I0 {g : Int → Int → Int} {i j : Int} : RvD K B (rI0 fun i j => .int (g i j)) (.int i) (.int j) (.int (g i j)) := fun H1 x y _ hx hy Q q =>
  ⟨i, j, rp_int.mp hx, rp_int.mp hy, q _ H1 (Same.refl H1) (rp_int.mpr rfl)⟩
theorem rd_B0 {g : Int → Int → Bool} {i j : Int} : RvD K B (rI0 fun i j => .bl (g i j)) (.int i) (.int j) (.bool (g i j)) := fun H1 x y _ hx hy Q q =>
  ⟨i, j, rp_int.mp hx, rp_int.mp hy, q _ H1 (Same.refl H1) (rp_bl.mpr rfl)⟩
theorem rd_I {C : Int → Int → Prop} {g : Int → Int → Int} {i j : Int} (hc : C i j) : RvD K B (rI C fun i j => .int (g i j)) (.int i) (.int j) (.int (g i j)) :=
  fun H1 x y _ hx hy Q q => ⟨i, j, rp_int.mp hx, rp_int.mp hy, hc, q _ H1 (Same.refl H1) (rp_int.mpr rfl)⟩
theorem ru_neg {i : Int} : RuD K B (rU fun i => .int (-i)) (.int i) (.int (-i)) := fun H1 x _ hx Q q => ⟨i, rp_int.mp hx, q _ H1 (Same.refl H1) (rp_int.mpr rfl)⟩
theorem rd_eqI {i j : Int} : RvD K B rEq (.int i) (.int j) (.bool (decide (i = j))) := fun H1 x y _ hx hy Q q => by
  rw [rp_int.mp hx, rp_int.mp hy]
  refine ⟨rfl, ?_⟩
  have e : decide (V.int i = V.int j) = decide (i = j) := by simp
  rw [e]
  exact q _ H1 (Same.refl H1) (rp_bl.mpr rfl)
theorem rd_neI {i j : Int} : RvD K B rNe (.int i) (.int j) (.bool (!decide (i = j))) := fun H1 x y _ hx hy Q q => by
  rw [rp_int.mp hx, rp_int.mp hy]
  refine ⟨rfl, ?_⟩
  have e : decide (V.int i = V.int j) = decide (i = j) := by simp
  rw [e]
  exact q _ H1 (Same.refl H1) (rp_bl.mpr rfl)
theorem rd_eqS {i j : Str} : RvD K B rEq (.str i) (.str j) (.bool (decide (i = j))) := fun H1 x y _ hx hy Q q => by
  rw [rp_str.mp hx, rp_str.mp hy]
  refine ⟨rfl, ?_⟩
  have e : decide (V.str i = V.str j) = decide (i = j) := by simp
  rw [e]
  exact q _ H1 (Same.refl H1) (rp_bl.mpr rfl)
theorem rd_neS {i j : Str} : RvD K B rNe (.str i) (.str j) (.bool (!decide (i = j))) := fun H1 x y _ hx hy Q q => by
  rw [rp_str.mp hx, rp_str.mp hy]
  refine ⟨rfl, ?_⟩
  have e : decide (V.str i = V.str j) = decide (i = j) := by simp
  rw [e]
  exact q _ H1 (Same.refl H1) (rp_bl.mpr rfl)
/-! places -/
theorem at_data {i : Int} {xs : List V} (h : atI ds i = some d) (r : RpA K B H ds xs) : ∃ x, atI xs i = some x ∧ Rp K B H d x := by
  unfold atI at h ⊢
  rw [← r.length]
  cases e : ixN ds.length i with
  | none => rw [e] at h; cases h
  | some j =>
    rw [e] at h
    exact r.get h
theorem rd_ixT {i : Int} (h : atI ds i = some d) : RvD K B (rIx K) (.tuple ds) (.int i) d := fun H1 x y _ hx hy Q q => by
  obtain ⟨a, xs, rfl, _, s, t⟩ := rp_tup.mp hx
  obtain ⟨z, g, rz⟩ := at_data h t
  exact .inr (.inl ⟨a, xs, i, z, rfl, rp_int.mp hy, s, g, q z H1 (Same.refl H1) rz⟩)
theorem rd_ixL {i : Int} (h : atI ds i = some d) : RvD K B (rIx K) (.list ds) (.int i) d := fun H1 x y _ hx hy Q q => by
  obtain ⟨a, xs, rfl, _, s, t⟩ := rp_lst.mp hx
  obtain ⟨z, g, rz⟩ := at_data h t
  exact .inl ⟨a, xs, i, z, rfl, rp_int.mp hy, SqL.of s, g, q z H1 (Same.refl H1) rz⟩
theorem at_ints {ns : List Int} {i n : Int} (h : atI ns i = some n) : atI (ns.map PyData.int) i = some (.int n) := by
  unfold atI at h ⊢
  rw [List.length_map]
  cases e : ixN ns.length i with
  | none => rw [e] at h; cases h
  | some j =>
    rw [e] at h
    show (ns.map PyData.int)[j]? = some (.int n)
    rw [List.getElem?_map, show ns[j]? = some n from h]
    rfl
end
/-! ### sums -/
def rAddU (K : PySem.W.Frag) : R2 := fun x y H Q => (rI0 (fun i j => .int (i + j))) x y H Q ∨ (rCatA K x y H Q ∨ rCat x y H Q)
theorem op_addU {X : Cx} : OpR X (binaryOp .Add) (rAddU X.K) := op_add.or (op_catA.or op_cat)
/-! ### slices -/
def cutD (ds : List PyData) (lo hi : Option Int) : List PyData :=
  (ds.drop (HT.sIx ds.length 0 lo)).take (HT.sIx ds.length ds.length hi - HT.sIx ds.length 0 lo)
def rSlU (K : PySem.W.Frag) : V → Option Int → Option Int → Hp → VK → Prop := fun x lo hi H Q => rSlL K x lo hi H Q ∨ rSlA K x lo hi H Q
theorem sl_U {X : Cx} : SlR X (rSlU X.K) := sl_list.or sl_tupA
section
variable {K : PySem.W.Frag} {B : Addr → Prop} {σ : L2.St} {H H1 H2 : Hp} {ta tb te : TE} {tx : TA} {tt tu : TT} {v : V} {d da db dc : PyData}
  {ds es : List PyData} {r : R2} {b c : Bool} {lo hi : Option Int} {tl th : TO}
theorem rd_add {i j : Int} : RvD K B (rAddU K) (.int i) (.int j) (.int (i + j)) := fun H1 x y al hx hy Q q => .inl (rd_I0 (g := fun i j => i + j) H1 x y al hx hy Q q)
theorem rd_catT (z : ds.length + es.length ≤ 100000) : RvD K B (rAddU K) (.tuple ds) (.tuple es) (.tuple (ds ++ es)) := fun H1 x y al hx hy Q q => by
  obtain ⟨a, xs, rfl, na, s, t⟩ := rp_tup.mp hx
  obtain ⟨b, ys, rfl, nb, s2, t2⟩ := rp_tup.mp hy
  refine .inr (.inl ⟨a, b, xs, ys, rfl, rfl, s, s2, ?_, fun e => ?_, fun _ e => ?_, fun _ _ p np => ?_⟩)
  · rw [← t.length, ← t2.length]
    exact Nat.le_trans z (by decide)
  · subst e
    obtain rfl : ds = [] := List.length_eq_zero_iff.mp t.length
    exact q _ H1 (Same.refl H1) hy
  · subst e
    obtain rfl : es = [] := List.length_eq_zero_iff.mp t2.length
    rw [List.append_nil] at q
    exact q _ H1 (Same.refl H1) hx
  · refine q (.ref p) _ (same_new np) (rp_tup.mpr ⟨p, _, rfl, .inl (al.new np), SqT.of upd_same, (t.append t2).up (Xt.of al (same_new np))⟩)
theorem rd_catL (z : ds.length + es.length ≤ 100000) : RvD K B (rAddU K) (.list ds) (.list es) (.list (ds ++ es)) := fun H1 x y al hx hy Q q => by
  obtain ⟨a, xs, rfl, na, s, t⟩ := rp_lst.mp hx
  obtain ⟨b, ys, rfl, nb, s2, t2⟩ := rp_lst.mp hy
  refine .inr (.inr ⟨a, b, xs, ys, rfl, rfl, s, s2, ?_, fun p np => ?_⟩)
  · rw [← t.length, ← t2.length]
    exact Nat.le_trans z (by decide)
  · refine q (.ref p) _ (same_new np) (rp_lst.mpr ⟨p, _, rfl, al.new np, upd_same, (t.append t2).up (Xt.of al (same_new np))⟩)
theorem RpA.cut {xs : List V} (h : RpA K B H ds xs) : RpA K B H (cutD ds lo hi) (cutV xs lo hi) := by
  unfold cutD cutV
  rw [h.length]
  exact RpA.take _ (RpA.drop _ h)
theorem cutD_full (e1 : HT.sIx ds.length 0 lo = 0) (e2 : HT.sIx ds.length ds.length hi = ds.length) : cutD ds lo hi = ds := by
  unfold cutD
  rw [e1, e2, List.drop_zero, Nat.sub_zero, List.take_length]
theorem dn_slT (h : Dn K B te σ H (.tuple ds)) (hl : DnO B tl σ H lo) (hh : DnO B th σ H hi) : Dn K B (tSl (rSlU K) te tl th) σ H (.tuple (cutD ds lo hi)) :=
  fun H1 x Q q => h H1 x _ fun v H2 e2 r2 => hl H2 (x.same e2) _ fun H3 e3 => hh H3 ((x.same e2).same e3) _ fun H4 e4 => by
    have x4 := ((x.same e2).same e3).same e4
    have r4 := r2.up (Xt.of (x.same e2).al (e3.trans e4))
    obtain ⟨a, xs, rfl, na, s, t⟩ := rp_tup.mp r4
    have e14 := e2.trans (e3.trans e4)
    refine .inr ⟨a, xs, rfl, s, fun f => ?_, fun _ p np => ?_⟩
    · rw [← t.length] at f
      rw [cutD_full f.1 f.2] at q
      exact q _ H4 e14 r4
    · exact q (.ref p) _ (e14.trans (same_new np)) (rp_tup.mpr ⟨p, _, rfl, .inl (x4.al.new np), SqT.of upd_same, (RpA.cut t).up (Xt.of x4.al (same_new np))⟩)
theorem dn_slL (h : Dn K B te σ H (.list ds)) (hl : DnO B tl σ H lo) (hh : DnO B th σ H hi) : Dn K B (tSl (rSlU K) te tl th) σ H (.list (cutD ds lo hi)) :=
  fun H1 x Q q => h H1 x _ fun v H2 e2 r2 => hl H2 (x.same e2) _ fun H3 e3 => hh H3 ((x.same e2).same e3) _ fun H4 e4 => by
    have x4 := ((x.same e2).same e3).same e4
    have r4 := r2.up (Xt.of (x.same e2).al (e3.trans e4))
    obtain ⟨a, xs, rfl, na, s, t⟩ := rp_lst.mp r4
    have e14 := e2.trans (e3.trans e4)
    refine .inl ⟨a, xs, rfl, SqL.of s, fun p np => ?_⟩
    exact q (.ref p) _ (e14.trans (same_new np)) (rp_lst.mpr ⟨p, _, rfl, x4.al.new np, upd_same, (RpA.cut t).up (Xt.of x4.al (same_new np))⟩)
/-! ### built-in calls -/
def rLenU (K : PySem.W.Frag) : List V → Hp → VK → Prop := fun xs H Q => ∃ p ys, xs = [.ref p] ∧ (SqL K H p ys ∨ SqT K H p ys) ∧ Q (.int ys.length) H
theorem call_lenU {X : Cx} : CallR X (.builtin "len") (rLenU X.K) := call_len_seq
theorem rc_lenT : RcD K B (rLenU K) [.tuple ds] (.int ds.length) := fun H1 xs al h Q q => by
  obtain ⟨y, r, rfl, h1, h2⟩ := rpa_cons.mp h
  obtain rfl := rpa_nil.mp h2
  obtain ⟨a, xs, rfl, na, s, t⟩ := rp_tup.mp h1
  exact ⟨a, xs, rfl, .inr s, q _ H1 (Same.refl H1) (rp_int.mpr (by rw [t.length]))⟩
theorem rc_lenL : RcD K B (rLenU K) [.list ds] (.int ds.length) := fun H1 xs al h Q q => by
  obtain ⟨y, r, rfl, h1, h2⟩ := rpa_cons.mp h
  obtain rfl := rpa_nil.mp h2
  obtain ⟨a, xs, rfl, na, s, t⟩ := rp_lst.mp h1
  exact ⟨a, xs, rfl, .inl (SqL.of s), q _ H1 (Same.refl H1) (rp_int.mpr (by rw [t.length]))⟩
theorem rc_reprX (h : Shx d) : RcD K B (rRepr K) [d] (.str d.shown) := fun H1 xs al k Q q => by
  obtain ⟨y, r, rfl, h1, h2⟩ := rpa_cons.mp k
  obtain rfl := rpa_nil.mp h2
  exact ⟨B, y, d, rfl, h1, h, q _ H1 (Same.refl H1) (rp_str.mpr rfl)⟩
theorem rc_repr (h : Shw d) : RcD K B (rRepr K) [d] (.str d.shown) := rc_reprX (.inl h)
def rMinU : List V → Hp → VK → Prop := fun xs H Q => ∃ i j, xs = [.int i, .int j] ∧ Q (.int (if j < i then j else i)) H
def rMaxU : List V → Hp → VK → Prop := fun xs H Q => ∃ i j, xs = [.int i, .int j] ∧ Q (.int (if j > i then j else i)) H
theorem call_minU {X : Cx} (hc : X.calm = true) : CallR X (.builtin "min") rMinU := call_min2 hc
theorem call_maxU {X : Cx} (hc : X.calm = true) : CallR X (.builtin "max") rMaxU := call_max2 hc
theorem two_ints {i j : Int} {xs : List V} (h : RpA K B H [.int i, .int j] xs) : xs = [.int i, .int j] := by
  obtain ⟨y, r, rfl, h1, h2⟩ := rpa_cons.mp h
  obtain ⟨z, r, rfl, h3, h4⟩ := rpa_cons.mp h2
  rw [rpa_nil.mp h4, rp_int.mp h1, rp_int.mp h3]
theorem rc_min {i j : Int} : RcD K B rMinU [.int i, .int j] (.int (if j < i then j else i)) := fun H1 xs al h Q q =>
  ⟨i, j, two_ints h, q _ H1 (Same.refl H1) (rp_int.mpr rfl)⟩
theorem rc_max {i j : Int} : RcD K B rMaxU [.int i, .int j] (.int (if j > i then j else i)) := fun H1 xs al h Q q =>
  ⟨i, j, two_ints h, q _ H1 (Same.refl H1) (rp_int.mpr rfl)⟩
/-! ### statements -/
variable {D : Ends} {t u : TS} {i n : Nat}
theorem sd_set (h : Dn K B te σ H d) (x : Xt B H H1) (k : ∀ v H', Same H1 H' → Rp K B H' d v → D.nx (σ.set i (some v)) H') : tAsg te (gName i) D σ H1 := h H1 x _ k
theorem sd_ret (h : Dn K B te σ H d) (x : Xt B H H1) (k : ∀ v H', Same H1 H' → Rp K B H' d v → D.rt v H') : tRet te D σ H1 := h H1 x _ k
theorem sd_if (h : DnT B tt σ H b) (x : Xt B H H1) (k1 : b = true → ∀ H', Same H1 H' → t D σ H') (k2 : b = false → ∀ H', Same H1 H' → u D σ H') :
    tIfS tt t u D σ H1 := h H1 x _ fun H' e => by
  cases b with
  | true => exact (if_pos rfl).mpr (k1 rfl H' e)
  | false => exact (if_neg (by decide)).mpr (k2 rfl H' e)
theorem sd_unp {g : TGs} (h : Dn K B te σ H (.tuple ds)) (x : Xt B H H1) (hn : ds.length = n) (k : ∀ xs H', Same H1 H' → RpA K B H' ds xs → g xs σ H' D.nx) :
    tAsg te (gTup K n g) D σ H1 := h H1 x _ fun v H' e r => by
  obtain ⟨a, xs, rfl, na, s, t⟩ := rp_tup.mp r
  exact ⟨a, xs, rfl, s, by rw [← t.length, hn], k xs H' e t⟩
end
end CG

/-! Part 4: the deck, readings that draw from it. -/
namespace CG
open PySem PySem.Spec PyProof.Rows L2
def Bk (D C : Addr) : Addr → Prop := fun a => a = D ∨ a = C
/-- a deck at D, its cells at C, t draws done; both are among the places B that data avoid -/
structure Dk (B : Addr → Prop) (H : Hp) (D C : Addr) (t : Int) : Prop where
  bD : B D
  bC : B C
  al : Al B H
  ne : D ≠ C
  nn : 0 ≤ t
  ex : ∃ cs : List Int, H D = some (.lst [.ref C, .int t]) ∧ H C = some (.lst (cs.map V.int)) ∧ cs.length ≤ 63 ∧ ∀ c ∈ cs, 0 ≤ c
section
variable {K : PySem.W.Frag} {B : Addr → Prop} {D C : Addr} {H H1 H2 : Hp} {t t' n m : Int} {σ : L2.St} {te ta tb : TE} {tx : TA} {tt tu : TT} {d : PyData} {ds : List PyData}
  {Φ Ψ Θ : PyData → Prop} {Φs Ψs : List PyData → Prop} {r : R2} {v : V}
theorem Dk.alk (k : Dk B H D C t) : Al (Bk D C) H := fun a h => by
  rcases h with rfl | rfl
  · exact k.al a k.bD
  · exact k.al a k.bC
theorem Dk.same (k : Dk B H D C t) (e : Same H H1) : Dk B H1 D C t := by
  obtain ⟨bD, bC, al, ne, nn, cs, h1, h2, h3⟩ := k
  exact ⟨bD, bC, al.same e, ne, nn, cs, e _ _ h1, e _ _ h2, h3⟩
theorem Dk.xt (k : Dk B H D C t) (e : Same H H1) : Xt (Bk D C) H H1 := Xt.of k.alk e
/-- what is kept but for the deck is kept but for B -/
theorem Dk.wd (k : Dk B H D C t) (x : Xt (Bk D C) H H1) : Xt B H H1 := ⟨fun a o nb e => x.kp a o (fun z => nb (z.elim (fun w => w ▸ k.bD) fun w => w ▸ k.bC)) e, fun a h => by
  by_cases z : Bk D C a
  · exact x.al a z
  · cases q : H a with
    | none => exact absurd q (k.al a h)
    | some o => rw [x.kp a o z q]; simp⟩
theorem Dk.free {p : Addr} (k : Dk B H D C t) (x : Xt B H1 H) (n : H p = none) : H1 p = none := by
  cases q : H1 p with
  | none => rfl
  | some o =>
    have := x.kp p o (k.al.new n) q
    rw [n] at this
    cases this
/-- .. with one more place that data avoid -/
theorem Dk.grow {p : Addr} (k : Dk B H D C t) (h : H p ≠ none) : Dk (Bp B p) H D C t :=
  ⟨.inl k.bD, .inl k.bC, fun a z => z.elim (k.al a) fun e => e ▸ h, k.ne, k.nn, k.ex⟩
theorem Dk.less {B' : Addr → Prop} (k : Dk B' H D C t) (g : ∀ a, B a → B' a) (bD : B D) (bC : B C) : Dk B H D C t :=
  ⟨bD, bC, fun a z => k.al a (g a z), k.ne, k.nn, k.ex⟩
def Lim : Int := 1000000000000
/-- te gives some data of Φ, with at most n draws -/
def Ef (K : PySem.W.Frag) (B : Addr → Prop) (D C : Addr) (n : Int) (te : TE) (σ : L2.St) (H : Hp) (Φ : PyData → Prop) : Prop :=
  ∀ H1 t, Xt B H H1 → Dk B H1 D C t → t + n ≤ Lim → ∀ Q : VK,
    (∀ v d H2 t', Xt (Bk D C) H1 H2 → Dk B H2 D C t' → t' ≤ t + n → Φ d → Rp K B H2 d v → Q v H2) → te σ H1 Q
def EfA (K : PySem.W.Frag) (B : Addr → Prop) (D C : Addr) (n : Int) (tx : TA) (σ : L2.St) (H : Hp) (Φ : List PyData → Prop) : Prop :=
  ∀ H1 t, Xt B H H1 → Dk B H1 D C t → t + n ≤ Lim → ∀ Q : List V → Hp → Prop,
    (∀ vs ds H2 t', Xt (Bk D C) H1 H2 → Dk B H2 D C t' → t' ≤ t + n → Φ ds → RpA K B H2 ds vs → Q vs H2) → tx σ H1 Q
def EfT (B : Addr → Prop) (D C : Addr) (n : Int) (tt : TT) (σ : L2.St) (H : Hp) (Φ : Bool → Prop) : Prop :=
  ∀ H1 t, Xt B H H1 → Dk B H1 D C t → t + n ≤ Lim → ∀ Q : Bool → Hp → Prop,
    (∀ b H2 t', Xt (Bk D C) H1 H2 → Dk B H2 D C t' → t' ≤ t + n → Φ b → Q b H2) → tt σ H1 Q
/-- a promise of a def whose first argument is the deck -/
def spE (K : PySem.W.Frag) (n : Int) (Pre : List PyData → Prop) (P : List PyData → PyData → Prop) : Sp := fun vs H Q _ =>
  ∃ B D C t ds ws, vs = .ref D :: ws ∧ Dk B H D C t ∧ t + n ≤ Lim ∧ RpA K B H ds ws ∧ Pre ds ∧
    ∀ v d H' t', Xt (Bk D C) H H' → Dk B H' D C t' → t' ≤ t + n → P ds d → Rp K B H' d v → Q v H'
theorem Dn.ef (h : Dn K B te σ H d) : Ef K B D C 0 te σ H (fun z => z = d) := fun H1 t x k hl Q q =>
  h H1 x Q fun v H2 e r => q v d H2 t (k.xt e) (k.same e) (by omega) rfl r
theorem DnA.ef (h : DnA K B tx σ H ds) : EfA K B D C 0 tx σ H (fun z => z = ds) := fun H1 t x k hl Q q =>
  h H1 x Q fun v H2 e r => q v ds H2 t (k.xt e) (k.same e) (by omega) rfl r
theorem Ef.weak (h : Ef K B D C n te σ H Φ) (e : ∀ d, Φ d → Ψ d) (hn : n ≤ m) : Ef K B D C m te σ H Ψ := fun H1 t x k hl Q q =>
  h H1 t x k (by omega) Q fun v d H2 t' x2 k2 h2 p r => q v d H2 t' x2 k2 (by omega) (e d p) r
theorem Ef.to (h : Ef K B D C n te σ H Φ) (e : ∀ d, Φ d → Ψ d) : Ef K B D C n te σ H Ψ := h.weak e (Int.le_refl n)
theorem EfA.weak (h : EfA K B D C n tx σ H Φs) (e : ∀ d, Φs d → Ψs d) (hn : n ≤ m) : EfA K B D C m tx σ H Ψs := fun H1 t x k hl Q q =>
  h H1 t x k (by omega) Q fun v d H2 t' x2 k2 h2 p r => q v d H2 t' x2 k2 (by omega) (e d p) r
theorem Ef.up (h : Ef K B D C n te σ H Φ) (x : Xt B H H1) : Ef K B D C n te σ H1 Φ := fun H2 t y k hl Q q => h H2 t (x.trans y) k hl Q q
theorem ef_op (ha : Ef K B D C n ta σ H Φ) (hb : Ef K B D C m tb σ H Ψ) (hr : ∀ a b, Φ a → Ψ b → ∃ c, Θ c ∧ RvD K B r a b c) (hm : 0 ≤ m) :
    Ef K B D C (n + m) (tOp r ta tb) σ H Θ := fun H1 t x k hl Q q =>
  ha H1 t x k (by omega) _ fun v a H2 t2 x2 k2 l2 pa ra => hb H2 t2 (x.trans (k.wd x2)) k2 (by omega) _ fun w b H3 t3 x3 k3 l3 pb rb => by
    obtain ⟨c, pc, rc⟩ := hr a b pa pb
    exact rc H3 v w k3.al (ra.up (k2.wd x3)) rb Q fun z H4 e4 r4 => q z c H4 t3 (x2.trans (x3.same e4)) (k3.same e4) (by omega) pc r4
theorem ef_un {r : V → Hp → VK → Prop} (ha : Ef K B D C n ta σ H Φ) (hr : ∀ a, Φ a → ∃ c, Θ c ∧ RuD K B r a c) : Ef K B D C n (tUn r ta) σ H Θ :=
  fun H1 t x k hl Q q => ha H1 t x k hl _ fun v a H2 t2 x2 k2 l2 pa ra => by
    obtain ⟨c, pc, rc⟩ := hr a pa
    exact rc H2 v k2.al ra Q fun z H4 e4 r4 => q z c H4 t2 (x2.same e4) (k2.same e4) l2 pc r4
theorem ea_nil : EfA K B D C 0 tNil σ H (fun ds => ds = []) := fun H1 t x k hl Q q => q [] [] H1 t (Xt.refl k.alk) k (by omega) rfl RpA.nil
theorem ea_cons (ha : Ef K B D C n te σ H Φ) (hb : EfA K B D C m tx σ H Ψs) (hm : 0 ≤ m) : EfA K B D C (n + m) (tCons te tx) σ H (fun ds => ∃ d r, ds = d :: r ∧ Φ d ∧ Ψs r) :=
  fun H1 t x k hl Q q => ha H1 t x k (by omega) _ fun v a H2 t2 x2 k2 l2 pa ra => hb H2 t2 (x.trans (k.wd x2)) k2 (by omega) _ fun ws ds H3 t3 x3 k3 l3 pb rb =>
    q (v :: ws) (a :: ds) H3 t3 (x2.trans x3) k3 (by omega) ⟨a, ds, rfl, pa, pb⟩ (.cons (ra.up (k2.wd x3)) rb)
theorem ef_tup (h : EfA K B D C n tx σ H Φs) (z : ∀ ds, Φs ds → ds.length ≤ 100000) : Ef K B D C n (tTup tx) σ H (fun d => ∃ ds, d = .tuple ds ∧ Φs ds) :=
  fun H1 t x k hl Q q => h H1 t x k hl _ fun ws ds H2 t2 x2 k2 l2 pa ra => ⟨by rw [← ra.length]; exact Nat.le_trans (z ds pa) (by decide), fun p np =>
    q (.ref p) _ _ t2 (x2.same (same_new np)) (k2.same (same_new np)) l2 ⟨ds, rfl, pa⟩
      (rp_tup.mpr ⟨p, ws, rfl, .inl (k2.al.new np), SqT.of upd_same, ra.up (Xt.of k2.al (same_new np))⟩)⟩
theorem ef_lst (h : EfA K B D C n tx σ H Φs) (z : ∀ ds, Φs ds → ds.length ≤ 100000) : Ef K B D C n (tLst tx) σ H (fun d => ∃ ds, d = .list ds ∧ Φs ds) :=
  fun H1 t x k hl Q q => h H1 t x k hl _ fun ws ds H2 t2 x2 k2 l2 pa ra => ⟨by rw [← ra.length]; exact Nat.le_trans (z ds pa) (by decide), fun p np =>
    q (.ref p) _ _ t2 (x2.same (same_new np)) (k2.same (same_new np)) l2 ⟨ds, rfl, pa⟩
      (rp_lst.mpr ⟨p, ws, rfl, k2.al.new np, upd_same, ra.up (Xt.of k2.al (same_new np))⟩)⟩
theorem ef_cb {r : List V → Hp → VK → Prop} (h : EfA K B D C n tx σ H Φs) (hr : ∀ ds, Φs ds → ∃ c, Θ c ∧ RcD K B r ds c) : Ef K B D C n (tCB r tx) σ H Θ :=
  fun H1 t x k hl Q q => h H1 t x k hl _ fun ws ds H2 t2 x2 k2 l2 pa ra => by
    obtain ⟨c, pc, rc⟩ := hr ds pa
    exact rc H2 ws k2.al ra Q fun z H4 e4 r4 => q z c H4 t2 (x2.same e4) (k2.same e4) l2 pc r4
theorem ef_call {P : List PyData → PyData → Prop} {E : XK} (h : EfA K B D C n tx σ H Φs) (hp : ∀ ds, Φs ds → ∃ c, P ds c ∧ Θ c) :
    Ef K B D C n (tCall (spP K P) [] E tx) σ H Θ := fun H1 t x k hl Q q => h H1 t x k hl _ fun ws ds H2 t2 x2 k2 l2 pa ra => by
    obtain ⟨c, pc, tc⟩ := hp ds pa
    refine ⟨B, ds, c, k2.al, by rw [List.append_nil]; exact ra, pc, fun v H' e r => ?_⟩
    exact q v c H' t2 (x2.same e) (k2.same e) l2 tc r
/-- a def that draws -/
theorem ef_callE {i : Nat} {Pre : List PyData → Prop} {P : List PyData → PyData → Prop} {E : XK} (hs : σ[i]? = some (some (.ref D))) (h : EfA K B D C m tx σ H Φs)
    (hp : ∀ ds, Φs ds → Pre ds ∧ ∀ c, P ds c → Θ c) (hn : 0 ≤ n) : Ef K B D C (m + n) (tCall (spE K n Pre P) [] E (tCons (tVar i) tx)) σ H Θ :=
  fun H1 t x k hl Q q => ⟨.ref D, hs, h H1 t x k (by omega) _ fun ws ds H2 t2 x2 k2 l2 pa ra => by
    obtain ⟨p1, p2⟩ := hp ds pa
    refine ⟨B, D, C, t2, ds, ws, by rw [List.append_nil], k2, by omega, ra, p1, fun v d H' t' x3 k3 l3 pd rd => ?_⟩
    exact q v d H' t' (x2.trans x3) k3 (by omega) (p2 d pd) rd⟩
theorem et_test {Θ : Bool → Prop} (h : Ef K B D C n te σ H Φ) (hr : ∀ d, Φ d → ∃ b, d = .bool b ∧ Θ b) : EfT B D C n (tTest te) σ H Θ := fun H1 t x k hl Q q =>
  h H1 t x k hl _ fun v d H2 t2 x2 k2 l2 pa ra => by
    obtain ⟨b, rfl, pb⟩ := hr d pa
    exact ⟨b, rp_bl.mp ra, q b H2 t2 x2 k2 l2 pb⟩
theorem et_B {Θ : Bool → Prop} (h : Ef K B D C n te σ H Φ) (hr : ∀ d, Φ d → ∃ b, d = .bool b ∧ Θ b) : EfT B D C n (tB te) σ H Θ := fun H1 t x k hl Q q =>
  h H1 t x k hl _ fun v d H2 t2 x2 k2 l2 pa ra => by
    obtain ⟨b, rfl, pb⟩ := hr d pa
    exact ⟨b, rp_bl.mp ra, q b H2 t2 x2 k2 l2 pb⟩
end
/-- where a def of the text stands -/
structure Has (K : PySem.W.Frag) (mg : Str → Option Value) (x : Str) (st : Stmt) (ps : List Str) (f : Addr) (fd : FuncData) : Prop where
  F : Fun K x x st f fd
  m : mg x = some (.ref f)
  b : Binds K fd ps []
/-- the promise of a draw -/
def PreDraw (ds : List PyData) : Prop := ∃ n : Int, ds = [.int n] ∧ 0 < n ∧ n < 1073741824
def PDraw (ds : List PyData) (d : PyData) : Prop := ∃ n r : Int, ds = [.int n] ∧ d = .int r ∧ 0 ≤ r ∧ r < n
def spDraw (K : PySem.W.Frag) : Sp := spE K 1 PreDraw PDraw
def spDeck (K : PySem.W.Frag) : Sp := fun vs H Q _ => ∃ (a : Addr) (ns : List Int), vs = [.ref a] ∧ SqL K H a (ns.map V.int) ∧
  ∀ D C H', Same H H' → H D = none → H C = none → Dk (fun a => a = D ∨ a = C) H' D C 0 → Q (.ref D) H'
def PSame (ds : List PyData) (d : PyData) : Prop := ∃ a b, ds = [a, b] ∧ Shw a ∧ Shw b ∧ d = .bool (decide (a.shown = b.shown))
section
variable {K : PySem.W.Frag} {B : Addr → Prop} {D C : Addr} {H H1 H2 : Hp} {t n : Int} {σ : L2.St}
/-- _law_draw(deck, n), n written or computed -/
theorem ef_draw {i : Nat} {E : XK} {tx : TA} {Φs : List PyData → Prop} {m : Int} (hs : σ[i]? = some (some (.ref D))) (h : EfA K B D C m tx σ H Φs) (hp : ∀ ds, Φs ds → PreDraw ds) :
    Ef K B D C (m + 1) (tCall (spDraw K) [] E (tCons (tVar i) tx)) σ H (fun d => ∃ ds n r, Φs ds ∧ ds = [.int n] ∧ d = .int r ∧ 0 ≤ r ∧ r < n) :=
  fun H1 t x k hl Q q => ⟨.ref D, hs, h H1 t x k (by omega) _ fun ws ds H2 t2 x2 k2 l2 pa ra => by
    refine ⟨B, D, C, t2, ds, ws, by rw [List.append_nil], k2, by omega, ra, hp ds pa, fun v d H' t' x3 k3 l3 pd rd => ?_⟩
    obtain ⟨n, r, e, pd⟩ := pd
    exact q v d H' t' (x2.trans x3) k3 (by omega) ⟨ds, n, r, pa, e, pd⟩ rd⟩
theorem ef_drawN {i : Nat} {E : XK} (hs : σ[i]? = some (some (.ref D))) (h0 : 0 < n) (h1 : n < 1073741824) :
    Ef K B D C 1 (tCall (spDraw K) [] E (tCons (tVar i) (tCons (tC (.int n)) tNil))) σ H (fun d => ∃ r, d = .int r ∧ 0 ≤ r ∧ r < n) := by
  have a : EfA K B D C 0 (tCons (tC (.int n)) tNil) σ H (fun z => z = [.int n]) := (da_cons dn_int da_nil).ef
  have b := ef_draw (E := E) hs a fun ds e => ⟨n, e, h0, h1⟩
  refine b.weak (fun d p => ?_) (by omega)
  obtain ⟨ds, n', r, e1, e2, p⟩ := p
  subst e1
  simp only [List.cons.injEq, PyData.int.injEq, and_true] at e2
  subst e2
  exact ⟨r, p⟩
end
end CG
namespace CG
open PySem PySem.Spec PyProof.Rows L2
/-- the built-in names are still the built-in ones -/
structure Bz (mg : Str → Option Value) : Prop where
  z_len : mg "len" = none
  z_abs : mg "abs" = none
  z_range : mg "range" = none
  z_repr : mg "repr" = none
  z_min : mg "min" = none
  z_max : mg "max" = none
  z_int : mg "int" = none
  z_tuple : mg "tuple" = none
  z_list : mg "list" = none
  z_bool : mg "bool" = none
  z_isinstance : mg "isinstance" = none
  z_enumerate : mg "enumerate" = none
end CG

/-! Part 5: comprehensions. -/
namespace CG
open PySem PySem.Spec PyProof.Rows L2
section
variable {K : PySem.W.Frag} {B : Addr → Prop} {D C : Addr} {H H1 H2 : Hp} {t c : Int} {σ : L2.St} {te ta tb : TE} {tx : TA} {j n : Nat}
theorem wipe1 {v : V} : wipe ((wipe σ [j]).set j (some v)) [j] = wipe σ [j] := by
  show ((σ.set j none).set j (some v)).set j none = σ.set j none
  rw [List.set_set, List.set_set]
/-- [e for x in range(n)], with draws -/
theorem ef_lcR {Φ : Nat → PyData → Prop} (hx : DnA K B tx σ H [.int n]) (hn : n ≤ 1000) (hc : 0 ≤ c)
    (he : ∀ B', Gw B B' H → ∀ i, i < n → Ef K B' D C c te ((σ.set j none).set j (some (.int (0 + i)))) H (Φ i)) :
    Ef K B D C (n * c) (tLc (iRng1 tx) (gName j) tYes te [j]) σ H (fun d => ∃ ds, d = .list ds ∧ ds.length = n ∧ ∀ i d, ds[i]? = some d → Φ i d) := by
  intro H1 t x k hl Q q
  refine hx H1 x _ fun vs H2 e2 r2 => ?_
  obtain rfl : vs = [.int n] := RpA.ints_inv (ns := [(n : Int)]) r2
  refine ⟨n, rfl, by omega, by omega, fun L nL => ?_⟩
  have k2 := k.same e2
  have x2 := k.xt e2
  have xH : Xt B H H2 := x.trans (k.wd x2)
  have nLH : H L = none := k2.free xH nL
  have nLB : ¬ B L := k2.al.new nL
  have gw : Gw B (Bp B L) H := gw_new nLH
  refine lc_range (lo := 0) (n := n) (fun i H' => ∃ (t' : Int) (ds : List PyData) (vs : List V), Xt (Bk D C) H2 H' ∧ Dk (Bp B L) H' D C t' ∧ t' ≤ t + i * c ∧ H' L = some (.lst vs) ∧
      RpA K (Bp B L) H' ds vs ∧ ds.length = i ∧ ∀ i d, ds[i]? = some d → Φ i d) ?_ ?_ ?_
  · refine ⟨t, [], [], k2.xt (same_new nL), (k2.same (same_new nL)).grow (by rw [upd_same]; simp), by simp, upd_same, RpA.nil, rfl, fun i d h => by simp at h⟩
  · rintro i H' hi ⟨t', ds, vs, x', k', l', hL, ra, hlen, hΦ⟩
    refine ⟨wipe1, ?_⟩
    have xx : Xt (Bp B L) H H' := by
      have y := xH.trans (k2.wd x')
      exact ⟨fun a o nb e => y.kp a o (fun z => nb (.inl z)) e, k'.al⟩
    have bud : t' + c ≤ Lim := by
      have h1 : (i : Int) * c + c ≤ n * c := by
        have : ((i : Int) + 1) * c ≤ n * c := Int.mul_le_mul_of_nonneg_right (by omega) hc
        rw [Int.add_mul, Int.one_mul] at this
        exact this
      omega
    refine he (Bp B L) gw i hi H' t' xx k' bud _ fun v d H3 t3 x3 k3 l3 pd rd => ?_
    have nLk : ¬ Bk D C L := fun z => nLB (z.elim (fun w => w ▸ k2.bD) fun w => w ▸ k2.bC)
    have hL3 : H3 L = some (.lst vs) := x3.kp _ _ nLk hL
    have ra3 := ra.up (k'.wd x3)
    -- the list grows
    have sm : ∀ a o, ¬ Bp B L a → H3 a = some o → (upd H3 L (.lst (vs ++ [v]))) a = some o := fun a o nb e => by
      rw [upd_ne (fun z => nb (.inr z))]
      exact e
    have al4 : Al (Bp B L) (upd H3 L (.lst (vs ++ [v]))) := fun a h => by
      by_cases z : a = L
      · rw [z, upd_same]; simp
      · rw [upd_ne z]
        exact k3.al a h
    have x4 : Xt (Bp B L) H3 (upd H3 L (.lst (vs ++ [v]))) := ⟨sm, al4⟩
    have lv : vs.length = i := by rw [← ra.length, hlen]
    have neD : D ≠ L := fun z => nLB (z ▸ k2.bD)
    have neC : C ≠ L := fun z => nLB (z ▸ k2.bC)
    refine ⟨vs, hL3, Nat.lt_of_lt_of_le (show vs.length < 1001 by omega) (by decide), t3, ds ++ [d], vs ++ [v], ⟨fun a o nb e => ?_, fun a h => ?_⟩, ?_, ?_, upd_same, ?_, ?_, ?_⟩
    · by_cases z : a = L
      · subst z
        rw [nL] at e
        cases e
      · rw [upd_ne z]
        exact x3.kp a o nb (x'.kp a o nb e)
    · exact al4 a (h.elim (fun w => .inl (w ▸ k2.bD)) fun w => .inl (w ▸ k2.bC))
    · obtain ⟨bD, bC, al, ne, nn, cs, h1, h2, h3⟩ := k3
      exact ⟨bD, bC, al4, ne, nn, cs, by rw [upd_ne neD]; exact h1, by rw [upd_ne neC]; exact h2, h3⟩
    · have : ((i + 1 : Nat) : Int) * c = i * c + c := by
        rw [Int.natCast_add, Int.add_mul]
        simp
      rw [this]
      omega
    · exact RpA.append (ra3.up x4) (.cons (rd.up x4) .nil)
    · rw [List.length_append, hlen]
      rfl
    · intro m e h
      by_cases z : m < ds.length
      · rw [List.getElem?_append_left z] at h
        exact hΦ m e h
      · rw [List.getElem?_append_right (by omega)] at h
        have e0 : m - ds.length = 0 := by
          cases w : m - ds.length with
          | zero => rfl
          | succ u => rw [w] at h; simp at h
        rw [e0] at h
        simp only [List.getElem?_cons_zero, Option.some.injEq] at h
        subst h
        have : m = i := by omega
        rw [this]
        exact pd
  · rintro H' ⟨t', ds, vs, x', k', l', hL, ra, hlen, hΦ⟩
    have kB := k'.less bp_up k2.bD k2.bC
    exact q (.ref L) (.list ds) H' t' (x2.trans x') kB l' ⟨ds, rfl, hlen, hΦ⟩ (rp_lst.mpr ⟨L, vs, rfl, nLB, hL, RpA.less bp_up ds vs ra⟩)
/-! statements that draw -/
variable {Φ : PyData → Prop} {Dd : Ends} {m : Int} {tt : TT} {ts tu : TS} {Θ : Bool → Prop} {i : Nat}
theorem se_ret (h : Ef K B D C m te σ H Φ) (x : Xt B H H1) (k : Dk B H1 D C t) (hl : t + m ≤ Lim)
    (q : ∀ v d H2 t', Xt (Bk D C) H1 H2 → Dk B H2 D C t' → t' ≤ t + m → Φ d → Rp K B H2 d v → Dd.rt v H2) : tRet te Dd σ H1 := h H1 t x k hl _ q
theorem se_set (h : Ef K B D C m te σ H Φ) (x : Xt B H H1) (k : Dk B H1 D C t) (hl : t + m ≤ Lim)
    (q : ∀ v d H2 t', Xt (Bk D C) H1 H2 → Dk B H2 D C t' → t' ≤ t + m → Φ d → Rp K B H2 d v → Dd.nx (σ.set i (some v)) H2) : tAsg te (gName i) Dd σ H1 := h H1 t x k hl _ q
theorem se_expr (h : Ef K B D C m te σ H Φ) (x : Xt B H H1) (k : Dk B H1 D C t) (hl : t + m ≤ Lim)
    (q : ∀ v d H2 t', Xt (Bk D C) H1 H2 → Dk B H2 D C t' → t' ≤ t + m → Φ d → Rp K B H2 d v → Dd.nx σ H2) : tDrop te Dd σ H1 := h H1 t x k hl _ q
theorem se_if (h : EfT B D C m tt σ H Θ) (x : Xt B H H1) (k : Dk B H1 D C t) (hl : t + m ≤ Lim)
    (q1 : ∀ H2 t', Xt (Bk D C) H1 H2 → Dk B H2 D C t' → t' ≤ t + m → Θ true → ts Dd σ H2)
    (q2 : ∀ H2 t', Xt (Bk D C) H1 H2 → Dk B H2 D C t' → t' ≤ t + m → Θ false → tu Dd σ H2) : tIfS tt ts tu Dd σ H1 :=
  h H1 t x k hl _ fun b H2 t' x2 k2 l2 p => by
    cases b with
    | true => exact (if_pos rfl).mpr (q1 H2 t' x2 k2 l2 p)
    | false => exact (if_neg (by decide)).mpr (q2 H2 t' x2 k2 l2 p)
theorem se_par {i j : Nat} {Φs : List PyData → Prop} (h : EfA K B D C m tx σ H Φs) (hp : ∀ ds, Φs ds → ds.length = 2) (x : Xt B H H1) (k : Dk B H1 D C t) (hl : t + m ≤ Lim)
    (q : ∀ v w a b H2 t', Xt (Bk D C) H1 H2 → Dk B H2 D C t' → t' ≤ t + m → Φs [a, b] → Rp K B H2 a v → Rp K B H2 b w → Dd.nx ((σ.set i (some v)).set j (some w)) H2) :
    tPar i j tx Dd σ H1 := h H1 t x k hl _ fun vs ds H2 t' x2 k2 l2 p r => by
  have e := hp ds p
  match ds, e with
  | [a, b], _ =>
    obtain ⟨v, r1, rfl, h1, h2⟩ := rpa_cons.mp r
    obtain ⟨w, r2, rfl, h3, h4⟩ := rpa_cons.mp h2
    obtain rfl := rpa_nil.mp h4
    exact ⟨v, w, rfl, q v w a b H2 t' x2 k2 l2 p h1 h3⟩
/-- a, b = e, .. : the first one draws -/
theorem se_par1 {i j : Nat} (h : Ef K B D C m te σ H Φ) (x : Xt B H H1) (k : Dk B H1 D C t) (hl : t + m ≤ Lim)
    (q : ∀ v d H2 t', Xt (Bk D C) H1 H2 → Dk B H2 D C t' → t' ≤ t + m → Φ d → Rp K B H2 d v →
      tx σ H2 fun xs H3 => ∃ v' w, v :: xs = [v', w] ∧ Dd.nx ((σ.set i (some v')).set j (some w)) H3) : tPar i j (tCons te tx) Dd σ H1 := h H1 t x k hl _ q
end
end CG

/-! Part 6: counters and boards as data; further built-in calls; a list of one's own that grows. -/
namespace CG
open PySem PySem.Spec PyProof.Rows L2
structure Ctr where
  s : Int
  t : Int
  g : Int
  e : Int
def Ctr.d (c : Ctr) : PyData := .tuple [.int c.s, .int c.t, .int c.g, .int c.e]
structure Ctr.Ok (n : Int) (c : Ctr) : Prop where
  s0 : 0 ≤ c.s
  s1 : c.s < n
  t0 : 0 ≤ c.t
  t1 : c.t < n
  ne : c.s ≠ c.t
  g0 : 1 ≤ c.g
  g1 : c.g ≤ 5
  e0 : 1 ≤ c.e
  e1 : c.e ≤ 5
def rowsD (cs : List Ctr) : PyData := .tuple (cs.map Ctr.d)
def boardD (n : Int) (cs : List Ctr) : PyData := .tuple [.int n, rowsD cs]
/-- a drawn counter -/
def IsCtr (n : Int) (d : PyData) : Prop := ∃ c : Ctr, d = c.d ∧ c.Ok n
def IsBoard (most many : Int) (d : PyData) : Prop := ∃ (n : Int) (cs : List Ctr), d = boardD n cs ∧ 1 ≤ n ∧ n ≤ most ∧ (cs.length : Int) ≤ many ∧ ∀ c ∈ cs, c.Ok n
def PreCtr (ds : List PyData) : Prop := ∃ n : Int, ds = [.int n] ∧ 2 ≤ n ∧ n ≤ 4
def PCtr (ds : List PyData) (d : PyData) : Prop := ∃ n : Int, ds = [.int n] ∧ IsCtr n d
def PreBoard (ds : List PyData) : Prop := ∃ a b : Int, ds = [.int a, .int b] ∧ 1 ≤ a ∧ a ≤ 4 ∧ 0 ≤ b ∧ b ≤ 100
def PBoard (ds : List PyData) (d : PyData) : Prop := ∃ a b : Int, ds = [.int a, .int b] ∧ IsBoard a b d
theorem step_ne {s p n : Int} (h1 : 0 ≤ s) (h2 : s < n) (h3 : 1 ≤ p) (h4 : p < n) (h5 : n ≤ 4) : s ≠ (s + p) % n := by
  have c : n = 2 ∨ n = 3 ∨ n = 4 := by omega
  rcases c with rfl | rfl | rfl <;> omega
theorem sm_ctr {n : Int} {c : Ctr} (h : c.Ok n) (hn : n ≤ 100) : Sm 1 900 c.d := by
  refine (sm_tup (n := 0) (m := 202) (ds := [.int c.s, .int c.t, .int c.g, .int c.e]) fun d hd => ?_).mono (by decide) (by show 4 * 202 + 2 * 4 + 3 ≤ 900; decide)
  obtain ⟨h1, h2, h3, h4, _, h5, h6, h7, h8⟩ := h
  simp only [List.mem_cons, List.not_mem_nil, or_false] at hd
  rcases hd with rfl | rfl | rfl | rfl <;> exact sm_int (by omega)
theorem sm_rows {n : Int} {cs : List Ctr} (h : ∀ c ∈ cs, c.Ok n) (hn : n ≤ 100) (hl : cs.length ≤ 100) : Sm 2 100000 (rowsD cs) := by
  refine (sm_tup (n := 1) (m := 900) (ds := cs.map Ctr.d) fun d hd => ?_).mono (by decide) (by rw [List.length_map]; omega)
  obtain ⟨c, hc, rfl⟩ := List.mem_map.mp hd
  exact sm_ctr (h c hc) hn
theorem sm_board {n : Int} {cs : List Ctr} (h : ∀ c ∈ cs, c.Ok n) (hn0 : 0 ≤ n) (hn : n ≤ 100) (hl : cs.length ≤ 100) : Sm 3 200020 (boardD n cs) := by
  refine (sm_tup (n := 2) (m := 100000) (ds := [.int n, rowsD cs]) fun d hd => ?_).mono (by decide) (by show 2 * 100000 + 2 * 2 + 3 ≤ 200020; decide)
  simp only [List.mem_cons, List.not_mem_nil, or_false] at hd
  rcases hd with rfl | rfl
  · exact (sm_int (by omega)).mono (by decide) (by decide)
  · exact sm_rows h hn hl
/-! built-in types called -/
theorem boot_intU : bootBuiltins "int" = some (.type "int") := by decide +kernel
theorem boot_tupleU : bootBuiltins "tuple" = some (.type "tuple") := by decide +kernel
theorem boot_listU : bootBuiltins "list" = some (.type "list") := by decide +kernel
theorem boot_boolU : bootBuiltins "bool" = some (.type "bool") := by decide +kernel
def rIntU : List V → Hp → VK → Prop := fun xs H Q => (∃ i, xs = [.int i] ∧ Q (.int i) H) ∨ ∃ k, xs = [.bl k] ∧ Q (.int (if k then 1 else 0)) H
theorem call_intU {X : Cx} : CallR X (.type "int") rIntU := call_int1
def rTupU (K : PySem.W.Frag) : List V → Hp → VK → Prop := fun xs H Q => ∃ p ys, xs = [.ref p] ∧ ((SqL K H p ys ∧ ∀ l, H l = none → Q (.ref l) (upd H l (.tup ys))) ∨ (SqT K H p ys ∧ Q (.ref p) H))
theorem call_tupU {X : Cx} : CallR X (.type "tuple") (rTupU X.K) := call_tuple_of
def rLstU (K : PySem.W.Frag) : List V → Hp → VK → Prop := fun xs H Q => ∃ p ys, xs = [.ref p] ∧ (SqL K H p ys ∨ SqT K H p ys) ∧ ∀ l, H l = none → Q (.ref l) (upd H l (.lst ys))
theorem call_lstU {X : Cx} : CallR X (.type "list") (rLstU X.K) := call_list_of
section
variable {K : PySem.W.Frag} {B : Addr → Prop} {D C L : Addr} {H H1 H2 : Hp} {t : Int} {σ : L2.St} {ds : List PyData} {d : PyData}
theorem rpa_one {x : V} {xs : List V} (h : RpA K B H [d] xs) : ∃ x, xs = [x] ∧ Rp K B H d x := by
  obtain ⟨y, r, rfl, h1, h2⟩ := rpa_cons.mp h
  obtain rfl := rpa_nil.mp h2
  exact ⟨y, rfl, h1⟩
theorem rc_intB {b : Bool} : RcD K B rIntU [.bool b] (.int (if b then 1 else 0)) := fun H1 xs al h Q q => by
  obtain ⟨y, r, rfl, h1, h2⟩ := rpa_cons.mp h
  obtain rfl := rpa_nil.mp h2
  rw [rp_bl.mp h1]
  exact .inr ⟨b, rfl, q _ H1 (Same.refl H1) (rp_int.mpr rfl)⟩
theorem rc_tupL : RcD K B (rTupU K) [.list ds] (.tuple ds) := fun H1 xs al h Q q => by
  obtain ⟨y, r, rfl, h1, h2⟩ := rpa_cons.mp h
  obtain rfl := rpa_nil.mp h2
  obtain ⟨a, ys, rfl, na, s, t⟩ := rp_lst.mp h1
  refine ⟨a, ys, rfl, .inl ⟨SqL.of s, fun l nl => ?_⟩⟩
  exact q _ _ (same_new nl) (rp_tup.mpr ⟨l, ys, rfl, .inl (al.new nl), SqT.of upd_same, t.up (Xt.of al (same_new nl))⟩)
theorem rc_tupT : RcD K B (rTupU K) [.tuple ds] (.tuple ds) := fun H1 xs al h Q q => by
  obtain ⟨y, r, rfl, h1, h2⟩ := rpa_cons.mp h
  obtain rfl := rpa_nil.mp h2
  obtain ⟨a, ys, rfl, na, s, t⟩ := rp_tup.mp h1
  exact ⟨a, ys, rfl, .inr ⟨s, q _ H1 (Same.refl H1) h1⟩⟩
theorem rc_lstT : RcD K B (rLstU K) [.tuple ds] (.list ds) := fun H1 xs al h Q q => by
  obtain ⟨y, r, rfl, h1, h2⟩ := rpa_cons.mp h
  obtain rfl := rpa_nil.mp h2
  obtain ⟨a, ys, rfl, na, s, t⟩ := rp_tup.mp h1
  refine ⟨a, ys, rfl, .inr s, fun l nl => ?_⟩
  exact q _ _ (same_new nl) (rp_lst.mpr ⟨l, ys, rfl, al.new nl, upd_same, t.up (Xt.of al (same_new nl))⟩)
theorem rc_lstL : RcD K B (rLstU K) [.list ds] (.list ds) := fun H1 xs al h Q q => by
  obtain ⟨y, r, rfl, h1, h2⟩ := rpa_cons.mp h
  obtain rfl := rpa_nil.mp h2
  obtain ⟨a, ys, rfl, na, s, t⟩ := rp_lst.mp h1
  refine ⟨a, ys, rfl, .inl (SqL.of s), fun l nl => ?_⟩
  exact q _ _ (same_new nl) (rp_lst.mpr ⟨l, ys, rfl, al.new nl, upd_same, t.up (Xt.of al (same_new nl))⟩)
/-! a list of one's own at L is written -/
theorem Al.put {o : HO} (al : Al (Bp B L) H) : Al (Bp B L) (upd H L o) := fun a h => by
  by_cases z : a = L
  · rw [z, upd_same]; simp
  · rw [upd_ne z]
    exact al a h
theorem xt_put {o : HO} (al : Al (Bp B L) H) : Xt (Bp B L) H (upd H L o) := ⟨fun a o nb e => by
  rw [upd_ne (fun z => nb (.inr z))]
  exact e, al.put⟩
theorem Dk.put {o : HO} (k : Dk (Bp B L) H D C t) (nD : D ≠ L) (nC : C ≠ L) : Dk (Bp B L) (upd H L o) D C t := by
  obtain ⟨bD, bC, al, ne, nn, cs, h1, h2, h3⟩ := k
  exact ⟨bD, bC, al.put, ne, nn, cs, by rw [upd_ne nD]; exact h1, by rw [upd_ne nC]; exact h2, h3⟩
theorem xt_keep {o : HO} (x : Xt (Bk D C) H H1) (n : H L = none) (nD : D ≠ L) (nC : C ≠ L) : Xt (Bk D C) H (upd H1 L o) := ⟨fun a u nb e => by
  rw [upd_ne (ne_of_none e n)]
  exact x.kp a u nb e, fun a h => by
  have : a ≠ L := by
    rcases h with rfl | rfl
    · exact nD
    · exact nC
  rw [upd_ne this]
  exact x.al a h⟩
/-! ### loops -/
variable {te : TE} {tx : TA} {m : Int} {g : TG} {tb : TS} {Dd : Ends} {Φs : List PyData → Prop}
/-- for x in range(n), n drawn -/
theorem se_forR (h : EfA K B D C m tx σ H Φs) (hp : ∀ ds, Φs ds → ∃ n : Nat, ds = [.int n] ∧ n ≤ 1000000) (x : Xt B H H1) (k : Dk B H1 D C t) (hl : t + m ≤ Lim)
    (q : ∀ (n : Nat) H2 t', Xt (Bk D C) H1 H2 → Dk B H2 D C t' → t' ≤ t + m → Φs [.int n] → ∃ Pv : Nat → L2.St → Hp → Prop, Pv 0 σ H2 ∧
      (∀ i τ H', i < n → Pv i τ H' → g (.int (0 + i)) τ H' fun σ2 H3 => tb { Dd with nx := Pv (i + 1), ct := Pv (i + 1), bk := Dd.nx } σ2 H3) ∧ ∀ τ H', Pv n τ H' → Dd.nx τ H') :
    tFor (iRng1 tx) g tb Dd σ H1 := h H1 t x k hl _ fun vs ds H2 t2 x2 k2 l2 p r => by
  obtain ⟨n, rfl, hn⟩ := hp ds p
  obtain rfl : vs = [.int n] := RpA.ints_inv (ns := [(n : Int)]) r
  refine ⟨n, rfl, by omega, by omega, ?_⟩
  obtain ⟨Pv, h0, hs, hd⟩ := q n H2 t2 x2 k2 l2 p
  exact for_range (lo := 0) (n := n) Pv h0 hs hd
theorem sd_forR {n : Nat} (h : DnA K B tx σ H [.int n]) (hn : n ≤ 1000000) (x : Xt B H H1)
    (q : ∀ H2, Same H1 H2 → ∃ Pv : Nat → L2.St → Hp → Prop, Pv 0 σ H2 ∧
      (∀ i τ H', i < n → Pv i τ H' → g (.int (0 + i)) τ H' fun σ2 H3 => tb { Dd with nx := Pv (i + 1), ct := Pv (i + 1), bk := Dd.nx } σ2 H3) ∧ ∀ τ H', Pv n τ H' → Dd.nx τ H') :
    tFor (iRng1 tx) g tb Dd σ H1 := h H1 x _ fun vs H2 e2 r => by
  obtain rfl : vs = [.int n] := RpA.ints_inv (ns := [(n : Int)]) r
  refine ⟨n, rfl, by omega, by omega, ?_⟩
  obtain ⟨Pv, h0, hs, hd⟩ := q H2 e2
  exact for_range (lo := 0) (n := n) Pv h0 hs hd
/-- for x in a tuple -/
theorem sd_forT (h : Dn K B te σ H (.tuple ds)) (x : Xt B H H1)
    (q : ∀ H2, Same H1 H2 → ∃ Pv : Nat → L2.St → Hp → Prop, Pv 0 σ H2 ∧ (∀ i τ H', Pv i τ H' → Xt B H2 H') ∧
      (∀ i d v τ H', ds[i]? = some d → Rp K B H' d v → Pv i τ H' → g v τ H' fun σ2 H3 => tb { Dd with nx := Pv (i + 1), ct := Pv (i + 1), bk := Dd.nx } σ2 H3) ∧ ∀ τ H', Pv ds.length τ H' → Dd.nx τ H') :
    tFor (iTup K te) g tb Dd σ H1 := h H1 x _ fun v H2 e2 r => by
  obtain ⟨a, xs, rfl, na, s, t⟩ := rp_tup.mp r
  obtain ⟨Pv, h0, hx, hs, hd⟩ := q H2 e2
  have sq : ∀ i τ H', Pv i τ H' → SqT K H' a xs := fun i τ H' p => na.elim (fun na => (hx i τ H' p).sqT na s) .inr
  refine ⟨a, rfl, ⟨_, s⟩, for_tup (xs := xs) Pv h0 (fun i τ H' _ p => sq i τ H' p) (fun i y τ H' gy p => ?_) fun τ H' p => hd τ H' (by rw [t.length]; exact p)⟩
  obtain ⟨d, gd, rd⟩ := (t.up (hx i τ H' p)).back gy
  exact hs i d y τ H' gd rd p
/-- for x in a list -/
theorem sd_forL (h : Dn K B te σ H (.list ds)) (x : Xt B H H1)
    (q : ∀ H2, Same H1 H2 → ∃ Pv : Nat → L2.St → Hp → Prop, Pv 0 σ H2 ∧ (∀ i τ H', Pv i τ H' → Xt B H2 H') ∧
      (∀ i d v τ H', ds[i]? = some d → Rp K B H' d v → Pv i τ H' → g v τ H' fun σ2 H3 => tb { Dd with nx := Pv (i + 1), ct := Pv (i + 1), bk := Dd.nx } σ2 H3) ∧ ∀ τ H', Pv ds.length τ H' → Dd.nx τ H') :
    tFor (iList K te) g tb Dd σ H1 := h H1 x _ fun v H2 e2 r => by
  obtain ⟨a, xs, rfl, na, s, t⟩ := rp_lst.mp r
  obtain ⟨Pv, h0, hx, hs, hd⟩ := q H2 e2
  have sq : ∀ i τ H', Pv i τ H' → SqL K H' a xs := fun i τ H' p => SqL.of ((hx i τ H' p).kp _ _ na s)
  refine ⟨a, rfl, ⟨_, SqL.of s⟩, for_list (xs := xs) Pv h0 (fun i τ H' _ p => sq i τ H' p) (fun i y τ H' gy p => ?_) fun τ H' p => hd τ H' (by rw [t.length]; exact p)⟩
  obtain ⟨d, gd, rd⟩ := (t.up (hx i τ H' p)).back gy
  exact hs i d y τ H' gd rd p
/-- .. the list made with draws -/
theorem se_forL {Φ : PyData → Prop} (h : Ef K B D C m te σ H Φ) (x : Xt B H H1) (k : Dk B H1 D C t) (hl : t + m ≤ Lim) (hp : ∀ d, Φ d → ∃ ds, d = .list ds)
    (q : ∀ ds H2 t', Φ (.list ds) → Xt (Bk D C) H1 H2 → Dk B H2 D C t' → t' ≤ t + m → ∃ Pv : Nat → L2.St → Hp → Prop, Pv 0 σ H2 ∧ (∀ i τ H', Pv i τ H' → Xt B H2 H') ∧
      (∀ i d v τ H', ds[i]? = some d → Rp K B H' d v → Pv i τ H' → g v τ H' fun σ2 H3 => tb { Dd with nx := Pv (i + 1), ct := Pv (i + 1), bk := Dd.nx } σ2 H3) ∧ ∀ τ H', Pv ds.length τ H' → Dd.nx τ H') :
    tFor (iList K te) g tb Dd σ H1 := h H1 t x k hl _ fun v d H2 t2 x2 k2 l2 p r => by
  obtain ⟨ds, rfl⟩ := hp d p
  obtain ⟨a, xs, rfl, na, s, t⟩ := rp_lst.mp r
  obtain ⟨Pv, h0, hx, hs, hd⟩ := q ds H2 t2 p x2 k2 l2
  have sq : ∀ i τ H', Pv i τ H' → SqL K H' a xs := fun i τ H' p => SqL.of ((hx i τ H' p).kp _ _ na s)
  refine ⟨a, rfl, ⟨_, SqL.of s⟩, for_list (xs := xs) Pv h0 (fun i τ H' _ p => sq i τ H' p) (fun i y τ H' gy p => ?_) fun τ H' p => hd τ H' (by rw [t.length]; exact p)⟩
  obtain ⟨d, gd, rd⟩ := (t.up (hx i τ H' p)).back gy
  exact hs i d y τ H' gd rd p
end
end CG

/-! Part 7: errors of one's own, isinstance of a caught one; products of lists and tuples; comprehensions without draws. -/
namespace CG
open PySem PySem.Spec PyProof.Rows L2
section
variable {X : Cx} {C : Addr} {bmB : List Value} {B newId initId : String}
/-- X() of an own class without own __init__ -/
theorem pmk_own0 {x : Str} {p pos : Pos} (F : ExcBaseFacts B newId initId bmB) (q : PySem.W.excIn X.K C bmB newId = true) (gC : X.mg x = some (.ref C))
    (kC : PySem.W.keepIn X.K (.ref C) = true) (r : Raises X (.ref C)) (hg : Gl X x) (hdb : (x == ("__debug__" : Str)) = false := by decide) :
    PMk X (.Call (.Name x p) [] [] pos) (fun _ H Q => Q (.ref C) none H) := by
  intro pins s σ H Q I h
  refine wpAny_Call_Name_kw (ld_glob I hg gC ?_ hdb)
  refine PySem.W.callWith_K0 I.kIn kC ?_
  obtain ⟨bm, N, nm, qn, bs, hd, sn, sub, ab, col, dd, k0, k1, k2, k3, k5, mN, hC, hN, hni, T⟩ := exc_obj I.kIn q
  refine wpAny_call_exc_subT F T hC hN hni (fun h' e hm => ?_) (by show 0 ≤ sizeLine; omega)
  exact mk_of I hm r h (I.hok.gone hm.new)
end
/-- f(e, ..) where what is raised is wished for at the slots -/
theorem pe_callSG {X : Cx} {cx : CXT} {k : Nat} {f : Addr} {fd : FuncData} {ps : List Str} {sp : Sp} {E : L2.St → XK} {x : Str} {p pos : Pos} {e : Expr} {es : List Expr} {t : TA}
    (G : FnG X.prog X.w X.K X.mg X.base cx k f fd ps sp) (hgd : X.A.guards = some []) (hr : Room k X.A) (hg : Gl X x) (hm : X.mg x = some (.ref f))
    (hk : PySem.W.keepIn X.K (.ref f) = true) (hb : Binds X.K fd ps []) (hx : ∀ σ, PassesAt cx X σ (E σ)) (ha : PA X (e :: es) t)
    (hdb : (x == ("__debug__" : Str)) = false := by decide) (he : starEach (e :: es) X.env = (false, eval e X.env) :: starEach es X.env := by rfl)
    (hpl : (backTo pos (starEach es X.env)).any (·.1) = false := by rfl) : PE X (.Call (.Name x p) (e :: es) [] pos) (tCallS sp E t) := by
  refine ⟨fun pins s σ H Q I h => wpAny_Call_Name_kw (ld_glob I hg hm ?_ hdb)⟩
  refine PySem.W.callWith_K (h₀ := X.base) I.ok.mod.kin hk ?_ he hpl
  refine thn (ha.run pos pins s σ H _ I h) fun us s1 ⟨vs, H1, I1, r, q⟩ => ⟨I1.kIn, ?_⟩
  have hl : us.length = ps.length := by
    rw [← r.length]
    exact G.len _ _ _ _ q
  have b := hb s1 us I1.kIn (by rw [List.append_nil]; exact hl)
  rw [List.append_nil] at b
  refine wpAny_call (codeAny_mono (G.run X.A X.stack s1 H1 ⟨us, []⟩ us vs Q (E σ) hgd hr I1.env0 b r q) fun w s2 hq => ?_)
  cases w with
  | error er => exact hx σ pins H1 s1 er s2 I1 hq
  | ok fl =>
    cases fl with
    | ret u => exact I1.after hq
    | next => exact hq.elim
    | brk => exact hq.elim
    | cont => exact hq.elim
/-- isinstance(e, c), isinstance(e, (c1, ..)) in an except suite, e of the class cls -/
def rIsX (K : PySem.W.Frag) (cls : Value) (d : Option Addr) (a : Addr) : List V → Hp → VK → Prop := fun xs H Q => ∃ D : Addr, cls = .ref D ∧ d = none ∧ ExcC K D ∧
  ((∃ (c : Addr) (b : Bool), xs = [.ref a, .ref c] ∧ PySem.W.kitOne K (.ref D) (.ref c) = some b ∧ Q (.bl b) H) ∨
    ∃ (t : Addr) (cs : List Addr) (b : Bool), xs = [.ref a, .ref t] ∧ H t = some (.tup (cs.map V.ref)) ∧ PySem.W.kitAny K (.ref D) (cs.map Value.ref) = some b ∧ Q (.bl b) H)
theorem vals_refs : ∀ {cs : List Addr} {us : List Value}, Vals (cs.map V.ref) us → us = cs.map Value.ref
  | [], _, .nil => rfl
  | c :: cs, _, .cons r t => by
    rw [vals_refs t]
    obtain rfl := (show _ = Value.ref c from r)
    rfl
theorem call_isX {X : Cx} {a : Addr} {cls : Value} {d : Option Addr} {oe : Obj} {pn : List (Addr × Obj)} (hz : Zc cls d oe) (hf : ∃ vs, oe.data = .fields vs) :
    CallR (X.suite a ((a, oe) :: pn)) (.builtin "isinstance") (rIsX X.K cls d a) := by
  intro pins s σ H xs us Q I r h
  obtain ⟨D, rfl, rfl, C, h⟩ := h
  obtain ⟨hget, _⟩ := I.pin (a, oe) (List.mem_append.mpr (.inl List.mem_cons_self))
  obtain ⟨fs, hv⟩ := hf
  have J : PySem.W.InstAt s.heap a oe D none := by
    obtain ⟨oc, od, oda, osl⟩ := oe
    obtain ⟨h1, h2⟩ := hz
    dsimp only at h1 h2 hv
    subst h1 h2 hv
    exact ⟨hget, rfl, rfl, trivial⟩
  have Z := PySem.W.handS_kitx_exc (x := a) (ox := oe) C.hg C.hk C.hs C.hd C.ha C.hn C.ht C.hm
  rcases h with ⟨c, b, rfl, e, q⟩ | ⟨t, cs, b, rfl, hT, e, q⟩
  · obtain ⟨u1, u2, rfl, r1, r2⟩ := vals2 r
    obtain rfl := (show u1 = Value.ref a from r1)
    obtain rfl := (show u2 = Value.ref c from r2)
    exact PySem.W.kia_one Z I.kIn J e (fun z => nomatch z) fun tk => ⟨.bl b, H, I.kept (t' := tk) fun _ _ z => z, rfl, q⟩
  · obtain ⟨u1, u2, rfl, r1, r2⟩ := vals2 r
    obtain rfl := (show u1 = Value.ref a from r1)
    obtain rfl := (show u2 = Value.ref t from r2)
    obtain ⟨_, its, rv, o, h1, h2, n, h3⟩ := (show ObjOk X.prog X.w H s.heap t (.tup (cs.map V.ref)) from I.hok t _ hT)
    obtain rfl := vals_refs rv
    obtain ⟨oc, od, dt, sl⟩ := o
    simp only at h2 h3
    subst h2 h3
    exact PySem.W.kia_tup Z I.kIn J h1 e (fun z => nomatch z) fun tk => ⟨.bl b, H, I.kept (t' := tk) fun _ _ z => z, rfl, q⟩
theorem pe_ref {X : Cx} {x : Str} {C : Addr} {pos : Pos} (hg : Gl X x) (hm : X.mg x = some (.ref C)) (hdb : (x == ("__debug__" : Str)) = false := by decide) : PE X (.Name x pos) (tC (.ref C)) := pe_glob hg hm rfl hdb
/-- what the top says of an error class without own __init__ -/
structure XC (K : PySem.W.Frag) (mg : Str → Option Value) (x : Str) (C : Addr) : Prop where
  g : mg x = some (.ref C)
  q : PySem.W.excIn K C [.type "ValueError", .type "Exception", .type "BaseException", .type "object"] "ValueError.__new__" = true
  k : PySem.W.keepIn K (.ref C) = true
  s : PySem.W.subIn K (.ref C) (.type "BaseException") = some true
  t : PySem.W.typeIn K (.ref C) = some (.type "type")
  c : ExcC K C
/-- isinstance of one class against another one, by what the top says -/
theorem kit_ref {K : PySem.W.Frag} {C D : Addr} {b : Bool} (ne : C ≠ D) (hd : PySem.W.hasDictIn K D = true) (ht : PySem.W.typeIn K (.ref D) = some (.type "type"))
    (hs : PySem.W.subIn K (.ref C) (.ref D) = some b) : PySem.W.kitOne K (.ref C) (.ref D) = some b := by
  obtain ⟨cd, hc, _⟩ := PySem.W.any_some hd
  have e1 : ¬ ((Value.ref C == Value.ref D) = true) := fun z => ne (Value.ref.inj (beq_iff_eq.mp z))
  have e2 : ((PySem.W.clsIn K D).isSome && PySem.W.typeIn K (.ref D) == some (.type "type")) = true := by rw [hc, ht] <;> rfl
  unfold PySem.W.kitOne PySem.W.kitCls
  rw [if_neg e1]
  dsimp only
  rw [if_pos e2]
  exact hs
theorem kit_self {K : PySem.W.Frag} {C : Addr} : PySem.W.kitOne K (.ref C) (.ref C) = some true := by
  unfold PySem.W.kitOne
  rw [if_pos (beq_iff_eq.mpr rfl)]
theorem kit_nil {K : PySem.W.Frag} {C : Addr} : PySem.W.kitAny K (.ref C) [] = some false := rfl
theorem kit_cons {K : PySem.W.Frag} {C : Addr} {v : Value} {vs : List Value} (h : PySem.W.kitOne K (.ref C) v = some false) (t : PySem.W.kitAny K (.ref C) vs = some false) :
    PySem.W.kitAny K (.ref C) (v :: vs) = some false := by
  unfold PySem.W.kitAny
  rw [h]
  exact t
/-- a promise that may also raise C -/
def spPX (K : PySem.W.Frag) (C : Addr) (P : List PyData → PyData → Prop) (R : List PyData → Prop) : Sp := fun vs H Q E =>
  ∃ B ds, Al B H ∧ RpA K B H ds vs ∧ ((∃ d, P ds d ∧ ∀ v H', Same H H' → Rp K B H' d v → Q v H') ∨ (R ds ∧ ∀ H', Same H H' → E (.ref C) none H'))
/-! ### products -/
def rMulU (K : PySem.W.Frag) : R2 := fun x y H Q => (rI CMul (fun i j => .int (i * j))) x y H Q ∨ (rRepT K x y H Q ∨ rRep x y H Q)
theorem op_mulU {X : Cx} : OpR X (binaryOp .Mult) (rMulU X.K) := op_mul.or (op_repT.or op_rep)
section
variable {K : PySem.W.Frag} {B : Addr → Prop} {D C L : Addr} {H H1 H2 : Hp} {t : Int} {σ : L2.St} {ds : List PyData} {d : PyData} {te : TE} {tx : TA} {j n : Nat}
theorem rpa_flat {xs : List V} (h : RpA K B H ds xs) : ∀ m : Nat, RpA K B H (List.replicate m ds).flatten (List.replicate m xs).flatten
  | 0 => RpA.nil
  | m + 1 => by
    rw [List.replicate_succ, List.replicate_succ, List.flatten_cons, List.flatten_cons]
    exact RpA.append h (rpa_flat h m)
theorem rd_repT {k : Int} (h0 : ds ≠ []) (h1 : 2 ≤ k) (h2 : k ≤ 1000) (hl : ds.length ≤ 1000) : RvD K B (rMulU K) (.tuple ds) (.int k) (.tuple (List.replicate k.toNat ds).flatten) :=
  fun H1 x y al hx hy Q q => by
  obtain ⟨a, xs, rfl, na, s, t⟩ := rp_tup.mp hx
  refine .inr (.inl ⟨a, k, xs, rfl, rp_int.mp hy, s, fun z => ?_, h1, h2, by rw [← t.length]; exact hl, fun p np => ?_⟩)
  · subst z
    exact h0 (List.length_eq_zero_iff.mp t.length)
  · exact q _ _ (same_new np) (rp_tup.mpr ⟨p, _, rfl, .inl (al.new np), SqT.of upd_same, (rpa_flat t _).up (Xt.of al (same_new np))⟩)
theorem rd_repL {k : Int} (h1 : 0 ≤ k) (h2 : k ≤ 1000) (hl : ds.length ≤ 1000) : RvD K B (rMulU K) (.list ds) (.int k) (.list (List.replicate k.toNat ds).flatten) :=
  fun H1 x y al hx hy Q q => by
  obtain ⟨a, xs, rfl, na, s, t⟩ := rp_lst.mp hx
  refine .inr (.inr ⟨a, k, xs, rfl, rp_int.mp hy, s, by omega, by omega, ?_, fun p np => ?_⟩)
  · rw [← t.length]
    refine Nat.le_trans (Nat.mul_le_mul hl (show k.toNat ≤ 1000 by omega)) (by decide)
  · exact q _ _ (same_new np) (rp_lst.mpr ⟨p, _, rfl, al.new np, upd_same, (rpa_flat t _).up (Xt.of al (same_new np))⟩)
theorem rd_mulI {i k : Int} (h : CMul i k) : RvD K B (rMulU K) (.int i) (.int k) (.int (i * k)) := fun H1 x y al hx hy Q q => .inl (rd_I (g := fun i j => i * j) h H1 x y al hx hy Q q)
/-! ### comprehensions without draws: es, item by item -/
/-- what stands while the list at L is made: i items are there -/
def LcI (K : PySem.W.Frag) (B : Addr → Prop) (L : Addr) (H : Hp) (es : List PyData) (i : Nat) (H' : Hp) : Prop :=
  Same H H' ∧ Al (Bp B L) H' ∧ ∃ vs, H' L = some (.lst vs) ∧ RpA K (Bp B L) H' (es.take i) vs
theorem lc_begin {es : List PyData} (al : Al B H) (nL : H L = none) : LcI K B L H es 0 (upd H L (.lst [])) :=
  ⟨same_new nL, fun a h => h.elim (fun b => (al.same (same_new nL)) a b) fun e => by rw [e, upd_same]; simp, [], upd_same, RpA.nil⟩
theorem lc_step {es : List PyData} {e : PyData} {i : Nat} {H' : Hp} (nL : H L = none) (p : LcI K B L H es i H') (hi : i < 100000) (ge : es[i]? = some e) (he : Dn K (Bp B L) te σ H' e) :
    te σ H' fun y H4 => ∃ acc, H4 L = some (.lst acc) ∧ acc.length < sizeLine ∧ LcI K B L H es (i + 1) (upd H4 L (.lst (acc ++ [y]))) := by
  obtain ⟨s1, al, vs, hL, ra⟩ := p
  refine he H' (Xt.refl al) _ fun y H4 s4 r4 => ?_
  have al4 := al.same s4
  have x4 : Xt (Bp B L) H4 (upd H4 L (.lst (vs ++ [y]))) := xt_put al4
  refine ⟨vs, s4 _ _ hL, ?_, fun b o eb => ?_, x4.al, vs ++ [y], upd_same, ?_⟩
  · have e1 := ra.length
    rw [List.length_take] at e1
    exact Nat.lt_of_lt_of_le (show vs.length < 100001 by omega) (by decide)
  · rw [upd_ne (ne_of_none eb nL)]
    exact s4 _ _ (s1 b o eb)
  · rw [List.take_add_one, ge]
    exact RpA.append ((ra.up (Xt.of al s4)).up x4) (.cons (r4.up x4) .nil)
theorem lc_end {es : List PyData} {H' : Hp} (nB : ¬ B L) (hn : es.length ≤ n) (p : LcI K B L H es n H') : Same H H' ∧ Rp K B H' (.list es) (.ref L) := by
  obtain ⟨s1, al, vs, hL, ra⟩ := p
  rw [List.take_of_length_le hn] at ra
  exact ⟨s1, rp_lst.mpr ⟨L, vs, rfl, nB, hL, RpA.less bp_up _ _ ra⟩⟩
/-- [e for x in range(n)] -/
theorem dn_lcR {es : List PyData} (hx : DnA K B tx σ H [.int n]) (hn : n ≤ 1000) (hes : es.length = n)
    (he : ∀ B', Gw B B' H → ∀ (i : Nat) e, es[i]? = some e → Dn K B' te ((σ.set j none).set j (some (.int (0 + i)))) H e) :
    Dn K B (tLc (iRng1 tx) (gName j) tYes te [j]) σ H (.list es) := fun H1 x Q q => hx H1 x _ fun vs H2 e2 r2 => by
  obtain rfl : vs = [.int n] := RpA.ints_inv (ns := [(n : Int)]) r2
  refine ⟨n, rfl, by omega, by omega, fun L nL => ?_⟩
  have x2 := x.same e2
  have nB : ¬ B L := x2.al.new nL
  have nLH : H L = none := by
    cases e : H L with
    | none => rfl
    | some o =>
      have := x2.kp L o nB e
      rw [nL] at this
      cases this
  refine lc_range (lo := 0) (n := n) (LcI K B L H2 es) (lc_begin x2.al nL) (fun i H' hi p => ⟨wipe1, ?_⟩) fun H' p => ?_
  · obtain ⟨e, ge⟩ : ∃ e, es[i]? = some e := ⟨es[i]'(by omega), List.getElem?_eq_getElem (by omega)⟩
    refine lc_step nL p (by omega) ge ((he (Bp B L) (gw_new nLH) i e ge).up ⟨fun a o nb z => p.1 a o (x2.kp a o (fun w => nb (.inl w)) z), p.2.1⟩)
  · obtain ⟨s1, r1⟩ := lc_end nB (by omega) p
    exact q _ H' (e2.trans s1) r1
/-- [e for .. in a tuple], any target -/
theorem dn_lcT {t0 : TE} {g : TG} {es : List PyData} {vs : List Nat} (h : Dn K B t0 σ H (.tuple ds)) (hl : ds.length ≤ 1000) (hes : es.length = ds.length)
    (he : ∀ B', Gw B B' H → ∀ (i : Nat) d e v H1, ds[i]? = some d → es[i]? = some e → Xt B' H H1 → Rp K B' H1 d v → ∀ Q : L2.St → Hp → Prop,
      (∀ σ2, wipe σ2 vs = wipe σ vs → Dn K B' te σ2 H1 e → Q σ2 H1) → g v (wipe σ vs) H1 Q) :
    Dn K B (tLc (iTup K t0) g tYes te vs) σ H (.list es) := fun H1 x Q q => h H1 x _ fun v H2 e2 r2 => by
  obtain ⟨a, xs, rfl, na, s, t⟩ := rp_tup.mp r2
  refine ⟨a, rfl, ⟨_, s⟩, fun L nL => ?_⟩
  have x2 := x.same e2
  have nB : ¬ B L := x2.al.new nL
  have nLH : H L = none := by
    cases e : H L with
    | none => rfl
    | some o =>
      have := x2.kp L o nB e
      rw [nL] at this
      cases this
  have xl := t.length
  have t' := RpA.grow (gw_new nL) _ _ t
  have up : ∀ {i H'}, LcI K B L H2 es i H' → Xt (Bp B L) H2 H' := fun p => ⟨fun a o _ z => p.1 a o z, p.2.1⟩
  have na' : ∀ {H' : Hp}, Xt (Bp B L) H2 H' → SqT K H' a xs := fun y => by
    rcases na with na | na
    · rcases sqT_alive s with z | z
      · exact .inr z
      · refine y.sqT (fun w => w.elim na fun e => z ?_) s
        rw [e]
        exact nL
    · exact .inr na
  refine lc_tup (xs := xs) (LcI K B L H2 es) (lc_begin x2.al nL) (fun i H' _ p => na' (up p)) (fun i y H' gy p => ?_) fun H' p => ?_
  · have hi : i < xs.length := (List.getElem?_eq_some_iff.mp gy).1
    obtain ⟨d, gd, rd⟩ := (t'.up (up p)).back gy
    obtain ⟨e, ge⟩ : ∃ e, es[i]? = some e := ⟨es[i]'(by omega), List.getElem?_eq_getElem (by omega)⟩
    refine he (Bp B L) (gw_new nLH) i d e y H' gd ge ⟨fun a o nb z => p.1 a o (x2.kp a o (fun w => nb (.inl w)) z), p.2.1⟩ rd _ fun σ2 hw hd => ⟨hw, ?_⟩
    exact lc_step nL p (by omega) ge hd
  · obtain ⟨s1, r1⟩ := lc_end nB (by omega) p
    exact q _ H' (e2.trans s1) r1
/-! slices -/
theorem cutD_take (k : Nat) : cutD ds none (some (k : Int)) = ds.take k := by
  unfold cutD
  rw [HT.sIx_none, HT.sIx_nat, List.drop_zero, Nat.sub_zero, List.take_eq_take_iff]
  omega
theorem cutD_drop (k : Nat) : cutD ds (some (k : Int)) none = ds.drop k := by
  unfold cutD
  rw [HT.sIx_none, HT.sIx_nat]
  by_cases h : k ≤ ds.length
  · rw [Nat.min_eq_left h, List.take_of_length_le (by rw [List.length_drop]; omega)]
  · rw [Nat.min_eq_right (by omega), List.drop_length, List.drop_of_length_le (by omega)]
    exact List.take_nil
/-! isinstance of the caught error -/
theorem dn_isC {a c D : Addr} {i : Nat} {b : Bool} (X : ExcC K D) (h : σ[i]? = some (some (.ref a))) (hk : PySem.W.kitOne K (.ref D) (.ref c) = some b) :
    Dn K B (tCB (rIsX K (.ref D) none a) (tCons (tVar i) (tCons (tC (.ref c)) tNil))) σ H (.bool b) := fun H1 x Q q =>
  ⟨.ref a, h, D, rfl, rfl, X, .inl ⟨c, b, rfl, hk, q _ H1 (Same.refl H1) (rp_bl.mpr rfl)⟩⟩
theorem dn_isT {a D : Addr} {cs : List Addr} {i : Nat} {b : Bool} {tc : TA} (X : ExcC K D) (h : σ[i]? = some (some (.ref a))) (hc : ∀ H1 (Q : List V → Hp → Prop), Q (cs.map V.ref) H1 → tc σ H1 Q)
    (hl : cs.length ≤ 1000) (hk : PySem.W.kitAny K (.ref D) (cs.map Value.ref) = some b) :
    Dn K B (tCB (rIsX K (.ref D) none a) (tCons (tVar i) (tCons (tTup tc) tNil))) σ H (.bool b) := fun H1 x Q q =>
  ⟨.ref a, h, hc H1 _ ⟨by rw [List.length_map]; exact Nat.le_trans hl (by decide), fun p np => ⟨D, rfl, rfl, X, .inr ⟨p, cs, b, rfl, upd_same, hk, q _ _ (same_new np) (rp_bl.mpr rfl)⟩⟩⟩⟩
end
/-- a statement, then the rest, with a word between -/
def tMid (t u : TS) : TS := fun Dd σ H => ∃ M : L2.St → Hp → Prop, t { Dd with nx := M } σ H ∧ ∀ σ' H', M σ' H' → u Dd σ' H'
theorem pss_mid {X : Cx} {st : Stmt} {rest : List Stmt} {t u : TS} (h1 : PS X st t) (h2 : PSs X rest u) : PSs X (st :: rest) (tMid t u) := by
  refine ⟨fun pins s σ H Dd I h => ?_⟩
  obtain ⟨M, hm, hu⟩ := h
  refine wpAny_execs_cons (thn (h1.run pins s σ H { Dd with nx := M } I hm) fun f s1 q => ?_)
  cases f with
  | next =>
    obtain ⟨τ, H1, I1, q⟩ := q
    exact h2.run pins s1 τ H1 Dd I1 (hu τ H1 q)
  | ret v => exact q
  | brk => exact q
  | cont => exact q
end CG

/-! Part 8: enumerate of a tuple, t[::-1], isinstance of data, dict displays. -/
namespace CG
open PySem PySem.Spec PyProof.Rows L2
/-! ### t[::-1] -/
section
variable {prog : Program} {w : World} {A : Around} {E : Value → Shared → Prop} {s : Shared}
theorem rev_adjust (n : Nat) : Builtin.Slice.sliceAdjust none none (-1) (n : Int) = ((n : Int) - 1, -1) := by
  unfold Builtin.Slice.sliceAdjust
  simp
theorem rev_places (n : Nat) : Builtin.Slice.slicePlaces ((n : Int) - 1) (-1) (-1) = n := by
  unfold Builtin.Slice.slicePlaces
  simp
  omega
theorem rev_applied {sl : Addr} {vs : Value} {n : Nat} {Q : Int × Int × Nat → Shared → Prop} (hs : s.heap.IsSliceOf sl .none .none vs) (ps : IsPart vs (some (-1))) (h : Q ((n : Int) - 1, -1, n) s) :
    wpAny (model prog w) A (Builtin.Slice.sliceApplied (.ref sl) (pure (n : Int))) Q E s := by
  obtain ⟨os, hos, hcs, hds⟩ := id hs
  unfold Builtin.Slice.sliceApplied Builtin.Slice.sliceFields
  refine wpAny_bind (wpAny_bind (wpAny_field hos hds (x := .none) rfl (wpAny_bind (wpAny_field hos hds (x := .none) rfl (wpAny_bind (wpAny_field hos hds (x := vs) rfl (wpAny_pure ?_)))))))
  refine wpAny_bind (HT.slicePart_ ps ?_)
  show wpAny _ _ (if ((-1 : Int) == 0) = true then _ else _) _ _ s
  rw [if_neg (by decide)]
  refine wpAny_bind (HT.slicePart_ .none (wpAny_bind (HT.slicePart_ .none (wpAny_bind (wpAny_pure ?_)))))
  show wpAny _ _ (match Builtin.Slice.sliceAdjust none none (-1) (n : Int) with | (lo, hi) => pure (lo, (-1 : Int), Builtin.Slice.slicePlaces lo hi (-1))) _ _ s
  rw [rev_adjust n]
  show wpAny _ _ (pure ((n : Int) - 1, (-1 : Int), Builtin.Slice.slicePlaces ((n : Int) - 1) (-1) (-1))) _ _ s
  rw [rev_places]
  exact wpAny_pure h
theorem fm_all {α β : Type} {f : α → Option β} {g : α → β} : ∀ {l : List α}, (∀ a ∈ l, f a = some (g a)) → l.filterMap f = l.map g
  | [], _ => rfl
  | a :: l, h => by
    rw [List.filterMap_cons, h a List.mem_cons_self, List.map_cons, fm_all fun b hb => h b (List.mem_cons_of_mem _ hb)]
theorem rev_pick (xs : List Value) : ((List.range xs.toArray.size).filterMap fun (k : Nat) => xs.toArray[(((xs.toArray.size : Nat) : Int) - 1 + (k : Int) * -1).toNat]?) = xs.reverse := by
  apply List.ext_getElem?
  intro i
  have e : (List.range xs.toArray.size).filterMap (fun (k : Nat) => xs.toArray[(((xs.toArray.size : Nat) : Int) - 1 + (k : Int) * -1).toNat]?) =
      (List.range xs.length).map (fun k => xs.reverse.getD k .none) := by
    rw [List.size_toArray]
    refine fm_all fun k hk => ?_
    have hk' : k < xs.length := List.mem_range.mp hk
    have e1 : (((xs.length : Nat) : Int) - 1 + (k : Int) * -1).toNat = xs.length - 1 - k := by omega
    rw [e1]
    simp only [List.getElem?_toArray, List.getD_eq_getElem?_getD]
    rw [List.getElem?_reverse hk', List.getElem?_eq_getElem (by omega)]
    rfl
  rw [e, List.getElem?_map]
  by_cases hi : i < xs.length
  · rw [List.getElem?_range hi, List.getElem?_reverse hi, List.getElem?_eq_getElem (by omega)]
    simp only [Option.map_some, List.getD_eq_getElem?_getD]
    rw [List.getElem?_reverse hi, List.getElem?_eq_getElem (by omega)]
    rfl
  · rw [List.getElem?_eq_none (by rw [List.length_range]; omega), List.getElem?_eq_none (by rw [List.length_reverse]; omega)]
    rfl
theorem rev_item {t sl : Addr} {its : List Value} {vs : Value} {Q : Value → Shared → Prop} (ht : IsTup s.heap t its.toArray) (hs : s.heap.IsSliceOf sl .none .none vs) (ps : IsPart vs (some (-1)))
    (h : Q (.ref s.heap.objs.size) { s with heap := s.heap.push { cls := .type "tuple", data := .seq its.reverse.toArray } })
    (hsz : its.length ≤ sizeLine) : wpAny (model prog w) A (getItem (.ref t) (.ref sl)) Q E s := by
  have hok : sizeOk (.seq its.reverse.toArray) := by
    show its.reverse.toArray.size ≤ sizeLine
    rw [List.size_toArray, List.length_reverse]
    exact hsz
  obtain ⟨os, hos, hcs, hds⟩ := id hs
  have hTs : s.TypeIs (.ref sl) "slice" := ⟨os, hos, hcs⟩
  unfold getItem
  try with_reducible refine wpAny_holding ?_
  first | refine wpAny_bind (wpAny_pure ?_) | skip
  refine wpAny_bind (wpAny_sequenceKey ht.typeIs (by decide) ?_)
  refine wpAny_bind (wpAny_callSpecial?_slot (name := Str.ofString "__getitem__") ht.typeIs PyProof.Rows.slot_tuple_getitem
    (wpAny_call_entry PyProof.Rows.slot_tuple_getitem ht.typeIs entry_tuple_getitem ?_ (args_tuple_getitem _ _)))
  show wpAny _ _ (Builtin.Tuple.tupleItemsOf (.ref t) >>= _) _ _ s
  refine wpAny_bind (tupleItemsOf_ ht ?_)
  refine wpAny_bind (wpAny_typeOf hTs ?_)
  rw [if_pos (by decide)]
  refine wpAny_bind (rev_applied hs ps ?_)
  have hno : ¬ ((((its.toArray.size : Nat) : Int) - 1 == 0 && (-1 : Int) == 1 && its.toArray.size == its.toArray.size) = true) := by
    intro q
    rw [Bool.and_eq_true, Bool.and_eq_true] at q
    exact absurd (eq_of_beq q.1.2) (by decide)
  show wpAny _ _ (if (((its.toArray.size : Nat) : Int) - 1 == 0 && (-1 : Int) == 1 && its.toArray.size == its.toArray.size) = true then _ else _) _ _ s
  rw [if_neg hno, rev_pick]
  first
    | exact wpAny_bind (m := Builtin.Tuple.tupleExact _) (wpAny_newObj_type (wpAny_pure ⟨_, rfl, wpAny_pure h⟩) hok)
    | exact wpAny_bind (m := Builtin.Tuple.tupleExact _) (wpAny_newObj_type (wpAny_bind (wpAny_pure (wpAny_pure ⟨_, rfl, wpAny_pure h⟩))) hok)
    | exact wpAny_bind (wpAny_bind (m := Builtin.Tuple.tupleExact _) (wpAny_newObj_type (wpAny_pure (wpAny_pure ⟨_, rfl, wpAny_pure h⟩)) hok))
    | exact wpAny_bind (wpAny_bind (m := Builtin.Tuple.tupleExact _) (wpAny_newObj_type (wpAny_pure ⟨_, rfl, wpAny_pure h⟩) hok))
end
/-- t[::-1] -/
def tRevT (K : PySem.W.Frag) (te : TE) : TE := fun σ H Q => te σ H fun x H1 => ∃ a xs, x = .ref a ∧ SqT K H1 a xs ∧ ∀ p, H1 p = none → Q (.ref p) (upd H1 p (.tup xs.reverse))
theorem pe_revT {X : Cx} {e : Expr} {te : TE} {k : Nat} {p1 p2 p3 pos : Pos} (he : PE X e te) :
    PE X (.Subscript e (.Slice none none (some (.UnaryOp .USub (.Constant (.int 1) k p1) p2)) p3) pos) (tRevT X.K te) := by
  refine ⟨fun pins s σ H Q I h => ?_⟩
  refine Subscript_ (thn (he.run pins s σ H _ I h) fun v s1 ⟨x, H1, I1, r1, q1⟩ => ?_)
  obtain ⟨a, xs, rfl, hx, q⟩ := q1
  cases r1
  have hst : PO X (some (.UnaryOp .USub (.Constant (.int 1) k p1) p2)) (tPart (tUn (rU fun i => .int (-i)) (tC (.int 1)))) := po_some (pe_un un_neg pe_int)
  refine wpAny_Slice (thn (po_none.run pins s1 σ H1 (fun o G => o = none ∧ G = H1) I1 ⟨rfl, rfl⟩) fun vl s2 ⟨l, H2, I2, pl, el, e2⟩ => ?_)
  subst el e2
  refine thn (po_none.run pins s2 σ H2 (fun o G => o = none ∧ G = H2) I2 ⟨rfl, rfl⟩) fun vu s3 ⟨u, H3, I3, pu, eu, e3⟩ => ?_
  subst eu e3
  refine thn (hst.run pins s3 σ H3 (fun o G => o = some (-1) ∧ G = H3) I3 ⟨1, rfl, -1, rfl, rfl, rfl⟩) fun vs s4 ⟨o, H4, I4, ps, eo, e4⟩ => ?_
  subst eo e4
  have I5 : Inv X pins σ H4 { s4 with heap := s4.heap.push { cls := .type "slice", data := .fields #[vl, vu, vs] } } := I4.kept (t' := s4.toks) fun b ob q => Heap.get?_push_of_some _ q
  obtain ⟨its, r, ht, hz⟩ := I5.tuple hx
  obtain rfl : vl = Value.none := by cases pl; rfl
  obtain rfl : vu = Value.none := by cases pu; rfl
  show wpAny (model X.prog X.w) X.A (subscriptTail e (.Slice none none (some (.UnaryOp .USub (.Constant (.int 1) k p1) p2)) p3) (.ref a) (.ref s4.heap.objs.size)) (EP X pins σ Q) X.xe { s4 with heap := s4.heap.push { cls := .type "slice", data := .fields #[.none, .none, vs] } }
  refine tail_any (ops := [.ref a, .ref s4.heap.objs.size]) ht.typeIs (PyProof.Rows.slot_tuple_getitem.lookup) ?_ (by with_unfolding_all rfl)
  refine rev_item ht (Heap.IsSliceOf.new _ .none .none vs) ps ?_ (by rw [← r.length]; exact hz)
  refine ⟨.ref _, _, I5.laid (t' := s4.toks) (o := .tup xs.reverse) (fun b ob q => Heap.get?_push_of_some _ q) (Nat.le_refl _) ?_, rfl, q _ (I5.hok.fresh (Nat.le_refl _))⟩
  exact ⟨by rw [List.length_reverse]; exact hz, _, r.reverse, IsTup.new _ _⟩
theorem RpA.rev {K : PySem.W.Frag} {B : Addr → Prop} {H : Hp} : ∀ {ds : List PyData} {xs : List V}, RpA K B H ds xs → RpA K B H ds.reverse xs.reverse
  | [], xs, h => by rw [rpa_nil.mp h]; exact .nil
  | d :: ds, xs, h => by
    obtain ⟨x, r, rfl, h1, h2⟩ := rpa_cons.mp h
    rw [List.reverse_cons, List.reverse_cons]
    exact RpA.append (RpA.rev h2) (.cons h1 .nil)
theorem dn_revT {K : PySem.W.Frag} {B : Addr → Prop} {te : TE} {σ : L2.St} {H : Hp} {ds : List PyData} (h : Dn K B te σ H (.tuple ds)) : Dn K B (tRevT K te) σ H (.tuple ds.reverse) :=
  fun H1 x Q q => h H1 x _ fun v H2 e2 r2 => by
  obtain ⟨a, xs, rfl, na, s, t⟩ := rp_tup.mp r2
  have al := (x.same e2).al
  exact ⟨a, xs, rfl, s, fun p np => q _ _ (e2.trans (same_new np)) (rp_tup.mpr ⟨p, _, rfl, .inl (al.new np), SqT.of upd_same, (RpA.rev t).up (Xt.of al (same_new np))⟩)⟩
/-! ### enumerate of a tuple -/
theorem meets_enumT (l : Addr) (items : Array Value) (n : Nat) (dct : Option Addr) (sl : Array (Option Value)) :
    Meets (Builtin.«enumerate.__new__» ⟨[.type "enumerate", .ref l], []⟩) (fun _ R s => s.heap.get? l = some { cls := .type "tuple", dict := dct, data := .seq items n, slots := sl } ∧
      R (.ok (.ret (.ref (s.heap.push { cls := .type "tuple_iterator", data := .fields #[.ref l, .int 0 0] }).objs.size)))
        { s with heap := (s.heap.push { cls := .type "tuple_iterator", data := .fields #[.ref l, .int 0 0] }).push { cls := .type "enumerate", data := .fields #[.none, .bool false, .ref s.heap.objs.size, rawInt 0, .none, .none] } }) :=
  .of_wp fun prog w A R s h => by
    obtain ⟨hp, g, d, tk, os⟩ := s
    obtain ⟨hl, h⟩ := h
    have hsub := sub_enumerate
    have hL : Heap.IsTuple (Shared.heap ⟨hp, g, d, tk, os⟩) l items := ⟨_, hl, rfl, n, rfl⟩
    wp_walk using AutoSeq1.wpAny_loadPart' hl
    refine wpAny_stack_any fun st => wpAny_pure ?_
    split
    · rename_i c _ _ _ _ _
      cases (c == Value.type "enumerate")
      · wp_walk using AutoSeq1.wpAny_loadPart' hl, wpAny_pyIter_tuple hL
        exact ⟨_, rfl, h⟩
      · wp_walk using AutoSeq1.wpAny_loadPart' hl, wpAny_pyIter_tuple hL
        exact ⟨_, rfl, h⟩
    · wp_walk using AutoSeq1.wpAny_loadPart' hl, wpAny_pyIter_tuple hL
      exact ⟨_, rfl, h⟩
theorem call_enumT {prog : Program} {w : World} {A : Around} {E : Value → Shared → Prop} {s : Shared} {l : Addr} {items : Array Value} {Q : Value → Shared → Prop} (hL : s.heap.IsTuple l items)
    (h : ∀ h', IsEnum h' (s.heap.objs.size + 1) s.heap.objs.size 0 .none → h'.IsTupleIter s.heap.objs.size l 0 →
      (∀ b o, s.heap.get? b = some o → h'.get? b = some o) → Q (.ref (s.heap.objs.size + 1)) { s with heap := h' }) :
    wpAny (model prog w) A (call (.type "enumerate") [.ref l]) Q E s := by
  obtain ⟨⟨c, dct, dt, sl⟩, hl, hc, n, hd⟩ := hL
  replace hc : c = .type "tuple" := hc
  replace hd : dt = .seq items n := hd
  subst hc hd
  refine callType_new F.called_enumerate (by decide) (F.typeCall_enumerate_1 _) (F.newCall_enumerate_1 _) (fun obj => F.args_object_init_2 obj _) F.entry_enumerate_new
    (meets_enumT l items n dct sl) ⟨hl, ?_⟩
  have hz : (s.heap.push { cls := .type "tuple_iterator", data := .fields #[.ref l, .int 0 0] }).objs.size = s.heap.objs.size + 1 := Heap.size_push ..
  show _ ∧ _
  rw [hz]
  have he : IsEnum ((s.heap.push { cls := .type "tuple_iterator", data := .fields #[.ref l, .int 0 0] }).push
      { cls := .type "enumerate", data := .fields #[.none, .bool false, .ref s.heap.objs.size, rawInt 0, .none, .none] }) (s.heap.objs.size + 1) s.heap.objs.size 0 .none := by
    have := Heap.get?_push_size (s.heap.push { cls := .type "tuple_iterator", data := .fields #[.ref l, .int 0 0] })
      (o := { cls := .type "enumerate", data := .fields #[.none, .bool false, .ref s.heap.objs.size, rawInt 0, .none, .none] }) rfl
    rw [hz] at this
    exact this
  exact ⟨⟨_, he, rfl⟩, h _ he ⟨_, Heap.get?_push_of_some _ (Heap.get?_push_size _ rfl), rfl, rfl⟩ fun b o x => Heap.get?_push_of_some _ (Heap.get?_push_of_some _ x)⟩
/-- the tuple at a as it stands, each item in a new pair -/
def IteT (K : PySem.W.Frag) (a : Addr) : It :=
  ⟨fun i H => ∃ (xs : List V) (x : V), SqT K H a xs ∧ xs[i]? = some x,
    fun i H v H' => ∃ T x, v = .ref T ∧ H T = none ∧ H' = upd H T (.tup [.int (i : Nat), x]) ∧ ∀ xs, SqT K H a xs → xs[i]? = some x, fun i H => ∃ xs : List V, SqT K H a xs ∧ xs.length = i⟩
theorem turn_enumT {P : Program} {w : World} {K : PySem.W.Frag} {elts : List Expr} {kk : Nat} {tpos : Pos} (a e it : Addr) :
    Turn P w K (.Tuple elts kk tpos) (IteT K a) [e, it] e (fun i h => (∃ old, IsEnum h e it ((i : Nat) : Int) old) ∧ h.IsTupleIter it a i ∧ e ≠ it) where
  mem := by simp
  obj := fun i h st b hb => by
    obtain ⟨⟨old, he⟩, ⟨o, ho, hc, hd⟩, _⟩ := st
    have z : b = e ∨ b = it := by simpa using hb
    rcases z with z | z
    · rw [z]; exact ⟨_, he, fun v q => nomatch q⟩
    · rw [z]; exact ⟨o, ho, fun v q => by rw [hd] at q; cases q⟩
  keep := fun i h h' st k => let ⟨⟨old, he⟩, hi, hne⟩ := st; ⟨⟨old, k e (by simp) _ he⟩, hi.at fun o q => k it (by simp) o q, hne⟩
  item := by
    intro X hP hw hK hc i pins s σ H E I hf st hg
    subst hP hw hK
    obtain ⟨⟨old, he⟩, hit, hne⟩ := st
    obtain ⟨xs, x, hq, hx⟩ := hg
    obtain ⟨its, rv, p, hz⟩ := I.tuple hq
    obtain ⟨u, hu, ru⟩ := rv.get hx
    have hel : e < s.heap.objs.size := Heap.lt_size he
    have hil : it < s.heap.objs.size := by obtain ⟨_, q, _⟩ := hit; exact Heap.lt_size q
    have nea : e ≠ a := fun z => by
      obtain ⟨o, ho, hoc, _⟩ := p
      rw [← z] at ho
      have he' := he
      unfold IsEnum at he'
      rw [he'] at ho
      cases ho
      exact absurd (show Value.type "enumerate" = Value.type "tuple" from hoc) (by decide)
    have nia : a ≠ it := fun z => by
      obtain ⟨o, ho, hoc, _⟩ := p
      obtain ⟨o2, ho2, hoc2, _⟩ := hit
      rw [z, ho2] at ho
      cases ho
      rw [hoc2] at hoc
      exact absurd hoc (by decide)
    have hlt : i < its.toArray.size := by
      rw [List.size_toArray]
      exact (List.getElem?_eq_some_iff.mp hu).1
    have hh : X.A.in1.handled = none := I.ok.hd hc
    refine wpAny_pyNext_enum_itemD (Draws.tuple hh it a nia its.toArray) he ⟨hit, p⟩ hlt hne (by simp [hne, nea]) fun y h' tk py ho hst' hT hsz hk => ?_
    have hyu : y = u := by
      have : its.toArray[i]? = some u := by simpa using hu
      rw [this] at py
      exact (Option.some.inj py).symm
    subst hyu
    refine ⟨_, rfl, wpAny_letOwnedTupleGo_enum (s := { s with heap := h', toks := tk + 1 }) ho fun h2 he' sb => ?_⟩
    have hT2 : h2.get? s.heap.objs.size = some { cls := .type "tuple", data := .seq #[.int i tk, y] } := (sb.2 _ (Nat.ne_of_gt hel)).trans hT
    have new : ObjOk X.prog X.w (upd H s.heap.objs.size (.tup [.int (i : Nat), x])) h2 s.heap.objs.size (.tup [.int (i : Nat), x]) :=
      ⟨by show 2 ≤ sizeLine; decide, [.int i tk, y], .cons ⟨_, rfl⟩ (.cons ru .nil), ⟨_, hT2, rfl, _, rfl⟩⟩
    have I1 : Inv X pins σ (upd H s.heap.objs.size (.tup [.int (i : Nat), x])) { s with heap := h2, toks := tk + 1 } :=
      I.turnedNew (ch := [e, it]) (fun b ob hb q => (sb.2 b (fun z => hb (by simp [z]))).trans (hk b ob (fun z => hb (by simp [z])) (fun z => hb (by simp [z])) q)) hf (Nat.le_refl _) new
    refine ⟨.ref s.heap.objs.size, _, I1, rfl, ⟨_, x, rfl, I.hok.fresh (Nat.le_refl _), rfl, fun ys hy => by rw [I.tuple_inj hy hq]; exact hx⟩, ⟨⟨y, ?_⟩, hst'.1.at fun o q => (sb.2 it (Ne.symm hne)).trans q, hne⟩, fun b hb => ?_⟩
    · have e1 : ((i + 1 : Nat) : Int) = (i : Int) + 1 := by omega
      rw [e1]
      exact he'
    · have hb' : b < s.heap.objs.size := by
        have z : b = e ∨ b = it := by simpa using hb
        rcases z with z | z
        · rw [z]; exact hel
        · rw [z]; exact hil
      rw [upd_ne (Nat.ne_of_lt hb')]
      exact (hf b hb).1
  done := by
    intro X hP hw hK hc i pins s σ H E I hf st hg
    subst hP hw hK
    obtain ⟨⟨old, he⟩, hit, hne⟩ := st
    obtain ⟨xs, hq, hx⟩ := hg
    obtain ⟨its, rv, p, hz⟩ := I.tuple hq
    obtain ⟨f0, f1, f2, f3, f4, f5⟩ := hf it (by simp)
    have nia : a ≠ it := fun z => by
      obtain ⟨o, ho, hoc, _⟩ := p
      obtain ⟨o2, ho2, hoc2, _⟩ := hit
      rw [z, ho2] at ho
      cases ho
      rw [hoc2] at hoc
      exact absurd hoc (by decide)
    have hl : its.toArray.size = i := by rw [List.size_toArray, ← rv.length, hx]
    have hh : X.A.in1.handled = none := I.ok.hd hc
    exact wpAny_pyNext_enum_endD (Draws.tuple hh it a nia its.toArray) he (by rw [hl]; exact ⟨hit, p⟩) fun h' eb => ⟨rfl, I.turned (t' := s.toks) (fun b o hb q => eb b o hb q) f0 f1 f3 f4 f5⟩
  self := fun A i s Q E st h => let ⟨⟨_, he⟩, _⟩ := st; wpAny_pyIter_enum he h
def iEnumT (K : PySem.W.Frag) (ta : TA) : TI := fun σ H R => ta σ H fun vs H1 => ∃ a xs, vs = [.ref a] ∧ SqT K H1 a xs ∧ R (IteT K a) H1
theorem pi_enumT {X : Cx} {e : Expr} {ta : TA} {p pos tpos : Pos} {elts : List Expr} {kk : Nat} (hg : Gl X "enumerate") (hm : X.mg "enumerate" = none) (ha : PA X [e] ta)
    (hs : starEach [e] X.env = [(false, eval e X.env)] := by rfl) : PI X (.Tuple elts kk tpos) (.Call (.Name "enumerate" p) [e] [] pos) (iEnumT X.K ta) := by
  refine ⟨fun pins s σ H R I h => ?_⟩
  refine Call_ (ld_blt I hg hm boot_enumerate (PyProof.Rows.callWith_type1 (thn (ha.run pos pins s σ H _ I h) fun us s1 ⟨vs, H1, I1, r1, q1⟩ => ?_) hs rfl))
  obtain ⟨a, xs, rfl, hq, q⟩ := q1
  cases r1 with
  | cons r rr =>
    cases rr
    cases r
    obtain ⟨its, rv, p', hz⟩ := I1.tuple hq
    refine call_enumT p' fun h' he hit hk => wpAny_pyIter_enum he ?_
    have I2 : Inv X pins σ H1 { s1 with heap := h' } := I1.kept (t' := s1.toks) hk
    refine ⟨s1.heap.objs.size + 1, [s1.heap.objs.size + 1, s1.heap.objs.size], _, _, H1, rfl, I2, turn_enumT a (s1.heap.objs.size + 1) s1.heap.objs.size, ⟨⟨.none, he⟩, hit, Nat.succ_ne_self _⟩, fun b hb => ?_, q⟩
    have z : b = s1.heap.objs.size + 1 ∨ b = s1.heap.objs.size := by simpa using hb
    have hle : s1.heap.objs.size ≤ b := by
      rcases z with z | z
      · rw [z]; exact Nat.le_add_right _ _
      · rw [z]; exact Nat.le_refl _
    exact I1.fpOk hle (I1.hok.fresh hle)
/-- for i, x in enumerate(a tuple) -/
theorem sd_enumT {K : PySem.W.Frag} {B : Addr → Prop} {te : TE} {σ : L2.St} {H H1 : Hp} {ds : List PyData} {g : TG} {tb : TS} {Dd : Ends} (h : Dn K B te σ H (.tuple ds)) (x : Xt B H H1)
    (q : ∀ H2, Same H1 H2 → ∃ Pv : Nat → L2.St → Hp → Prop, Pv 0 σ H2 ∧ (∀ i τ H', Pv i τ H' → Xt B H2 H') ∧
      (∀ (i : Nat) d p τ H', ds[i]? = some d → Rp K B H' (.tuple [.int i, d]) (.ref p) → (∃ H0, Pv i τ H0 ∧ Same H0 H') → g (.ref p) τ H' fun σ2 H3 => tb { Dd with nx := Pv (i + 1), ct := Pv (i + 1), bk := Dd.nx } σ2 H3) ∧
      ∀ τ H', Pv ds.length τ H' → Dd.nx τ H') : tFor (iEnumT K (tCons te tNil)) g tb Dd σ H1 := h H1 x _ fun v H2 e2 r => by
  obtain ⟨a, xs, rfl, na, s, t⟩ := rp_tup.mp r
  obtain ⟨Pv, h0, hx, hs, hd⟩ := q H2 e2
  have tl := t.length
  have sq : ∀ i τ H', Pv i τ H' → SqT K H' a xs := fun i τ H' p => na.elim (fun na => (hx i τ H' p).sqT na s) .inr
  refine ⟨a, xs, rfl, s, fun i m τ H' => m = ds.length - i ∧ i ≤ ds.length ∧ Pv i τ H', ⟨ds.length, by simp, Nat.zero_le _, h0⟩, ?_⟩
  rintro i m τ H' ⟨rfl, hi, p⟩
  have sqi := sq i τ H' p
  by_cases hlt : i < ds.length
  · refine .inr ⟨⟨xs, xs[i]'(by omega), sqi, by simp⟩, Pv (i + 1), fun τ2 G p2 => ⟨ds.length - (i + 1), by omega, rfl, hlt, p2⟩, fun y G hy => ?_⟩
    obtain ⟨T, z, rfl, nT, rfl, fz⟩ := hy
    have gz := fz xs sqi
    have al := (hx i τ H' p).al
    obtain ⟨d, gd, rd⟩ := (t.up (hx i τ H' p)).back gz
    refine hs i d T τ _ gd (rp_tup.mpr ⟨T, _, rfl, .inl (al.new nT), SqT.of upd_same, .cons (rp_int.mpr rfl) (.cons (rd.up (Xt.of al (same_new nT))) .nil)⟩) ⟨H', p, same_new nT⟩
  · have e : i = ds.length := by omega
    subst e
    exact .inl ⟨⟨xs, sqi, by omega⟩, hd τ H' p⟩
/-! ### isinstance of data -/
def tyName : PyData → String
  | .none => "NoneType"
  | .bool _ => "bool"
  | .int _ => "int"
  | .str _ => "str"
  | .list _ => "list"
  | .tuple _ => "tuple"
  | .dict _ => "dict"
theorem Rp.ty {K : PySem.W.Frag} {B : Addr → Prop} {H : Hp} {v : V} : ∀ {d : PyData}, Rp K B H d v → TyX K H v (.type (tyName d))
  | .none, h => by rw [rp_non.mp h]; exact .base .non
  | .bool b, h => by rw [rp_bl.mp h]; exact .base (.bl b)
  | .int i, h => by rw [rp_int.mp h]; exact .base (.int i)
  | .str x, h => by rw [rp_str.mp h]; exact .base (.str x)
  | .list ds, h => by
    obtain ⟨a, xs, rfl, _, s, _⟩ := rp_lst.mp h
    exact .base (.lst s)
  | .tuple ds, h => by
    obtain ⟨a, xs, rfl, _, s, _⟩ := rp_tup.mp h
    rcases s with (s | ⟨o, s⟩) | ⟨o, its, n, s, c, _⟩
    · exact .base (.tup s)
    · exact .fTuple s
    · exact .kTuple s c
  | .dict kvs, h => by
    obtain ⟨a, es, rfl, _, s, _⟩ := rp_dct.mp h
    exact .base (.dK s)
theorem pe_ty {X : Cx} {x : Str} {T : String} {pos : Pos} (hg : Gl X x) (hm : X.mg x = none) (hv : bootBuiltins x = some (.type T)) (hn : x ≠ "__name__" := by decide) (hdb : (x == ("__debug__" : Str)) = false := by decide) :
    PE X (.Name x pos) (tC (.ty T)) := pe_bltn hg hm hv rfl hn hdb
theorem dn_isi {K : PySem.W.Frag} {B : Addr → Prop} {te : TE} {σ : L2.St} {H : Hp} {d : PyData} {T : String} {b : Bool} (h : Dn K B te σ H d) (hk : kitB (tyName d) T = some b) :
    Dn K B (tCB (rIsi K) (tCons te (tCons (tC (.ty T)) tNil))) σ H (.bool b) := fun H1 x Q q => h H1 x _ fun v H2 e2 r2 =>
  ⟨v, .ty T, _, _, b, rfl, .ty T, r2.ty, kit_ty hk, q _ H2 e2 (rp_bl.mpr rfl)⟩
def isInt : PyData → Bool
  | .int _ => true
  | .bool _ => true
  | _ => false
def isBool : PyData → Bool
  | .bool _ => true
  | _ => false
def isTup : PyData → Bool
  | .tuple _ => true
  | _ => false
theorem kit_int : ∀ d, kitB (tyName d) "int" = some (isInt d)
  | .none => (by decide +kernel : kitB "NoneType" "int" = some false)
  | .bool _ => (by decide +kernel : kitB "bool" "int" = some true)
  | .int _ => (by decide +kernel : kitB "int" "int" = some true)
  | .str _ => (by decide +kernel : kitB "str" "int" = some false)
  | .list _ => (by decide +kernel : kitB "list" "int" = some false)
  | .tuple _ => (by decide +kernel : kitB "tuple" "int" = some false)
  | .dict _ => (by decide +kernel : kitB "dict" "int" = some false)
theorem kit_bool : ∀ d, kitB (tyName d) "bool" = some (isBool d)
  | .none => (by decide +kernel : kitB "NoneType" "bool" = some false)
  | .bool _ => (by decide +kernel : kitB "bool" "bool" = some true)
  | .int _ => (by decide +kernel : kitB "int" "bool" = some false)
  | .str _ => (by decide +kernel : kitB "str" "bool" = some false)
  | .list _ => (by decide +kernel : kitB "list" "bool" = some false)
  | .tuple _ => (by decide +kernel : kitB "tuple" "bool" = some false)
  | .dict _ => (by decide +kernel : kitB "dict" "bool" = some false)
theorem kit_tup : ∀ d, kitB (tyName d) "tuple" = some (isTup d)
  | .none => (by decide +kernel : kitB "NoneType" "tuple" = some false)
  | .bool _ => (by decide +kernel : kitB "bool" "tuple" = some false)
  | .int _ => (by decide +kernel : kitB "int" "tuple" = some false)
  | .str _ => (by decide +kernel : kitB "str" "tuple" = some false)
  | .list _ => (by decide +kernel : kitB "list" "tuple" = some false)
  | .tuple _ => (by decide +kernel : kitB "tuple" "tuple" = some true)
  | .dict _ => (by decide +kernel : kitB "dict" "tuple" = some false)
end CG

/-! Part 9: chains, is None, deep comparisons, dict displays, comprehensions with a test. -/
namespace CG
open PySem PySem.Spec PyProof.Rows L2
def rIsNU : R2 := fun x y H Q => y = .non ∧ Q (.bl (decide (x = .non))) H
theorem op_isNU {X : Cx} : OpR X (compareOp .Is) rIsNU := op_isN
def isNone : PyData → Bool
  | .none => true
  | _ => false
def rNeU (K : PySem.W.Frag) : R2 := fun x y H Q => rNe x y H Q ∨ rNeD K x y H Q
theorem op_neU {X : Cx} (hu : X.A.units + 64 < cLine) : OpR X (compareOp .NotEq) (rNeU X.K) := op_ne.or (op_neD hu)
def rEqU (K : PySem.W.Frag) : R2 := fun x y H Q => rEq x y H Q ∨ rEqD K x y H Q
theorem op_eqU {X : Cx} (hu : X.A.units + 64 < cLine) : OpR X (compareOp .Eq) (rEqU X.K) := op_eq.or (op_eqD hu)
section
variable {K : PySem.W.Frag} {B : Addr → Prop} {D C L : Addr} {H H1 H2 : Hp} {t : Int} {σ : L2.St} {ds : List PyData} {d da db dc : PyData} {te ta tb tc : TE} {tx : TA} {tt : TT} {j n : Nat} {r r' : R2} {b c : Bool}
theorem dn_chain (ha : Dn K B ta σ H da) (hb : Dn K B tb σ H db) (h1 : RvD K B r da db (.bool b)) (hc : b = true → Dn K B tc σ H dc) (h2 : b = true → RvD K B r' db dc (.bool c)) :
    Dn K B (tChain r r' ta tb tc) σ H (.bool (b && c)) := fun H1 x Q q =>
  ha H1 x _ fun v H2 e2 r2 => hb H2 (x.same e2) _ fun w H3 e3 r3 => h1 H3 v w ((x.same e2).same e3).al (r2.up (Xt.of (x.same e2).al e3)) r3 _ fun z H4 e4 r4 => ⟨b, rp_bl.mp r4, by
    have x4 := ((x.same e2).same e3).same e4
    have s14 := e2.trans (e3.trans e4)
    cases b with
    | true =>
      rw [if_pos rfl]
      refine hc rfl H4 x4 _ fun u H5 e5 r5 => ?_
      refine h2 rfl H5 w u (x4.same e5).al (r3.up (Xt.of ((x.same e2).same e3).al (e4.trans e5))) r5 Q fun y H6 e6 r6 => ?_
      exact q y H6 (s14.trans (e5.trans e6)) r6
    | false =>
      rw [if_neg (by decide)]
      exact q _ H4 s14 (rp_bl.mpr rfl)⟩
theorem rd_isN : RvD K B rIsNU d .none (.bool (isNone d)) := fun H1 x y al hx hy Q q => by
  refine ⟨rp_non.mp hy, ?_⟩
  have e : decide (x = V.non) = isNone d := by
    cases d with
    | none => rw [rp_non.mp hx]; rfl
    | bool b => rw [rp_bl.mp hx]; rfl
    | int i => rw [rp_int.mp hx]; rfl
    | str s => rw [rp_str.mp hx]; rfl
    | list ds =>
      obtain ⟨a, xs, rfl, _⟩ := rp_lst.mp hx
      rfl
    | tuple ds =>
      obtain ⟨a, xs, rfl, _⟩ := rp_tup.mp hx
      rfl
    | dict kvs =>
      obtain ⟨a, xs, rfl, _⟩ := rp_dct.mp hx
      rfl
  rw [e]
  exact q _ H1 (Same.refl H1) (rp_bl.mpr rfl)
mutual
theorem Rp.dp : ∀ (d : PyData) (v : V), Rp K B H d v → d.hasDict = false → Dp K H v d
  | .none, v, h, _ => by rw [rp_non.mp h]; exact .non
  | .bool b, v, h, _ => by rw [rp_bl.mp h]; exact .bl b
  | .int i, v, h, _ => by rw [rp_int.mp h]; exact .int i
  | .str x, v, h, _ => by rw [rp_str.mp h]; exact .str x
  | .list ds, v, h, hd => by
    obtain ⟨a, xs, rfl, _, s, t⟩ := rp_lst.mp h
    exact .lst (SqL.of s) (RpA.dp ds xs t (by simpa only [PyData.hasDict] using hd))
  | .tuple ds, v, h, hd => by
    obtain ⟨a, xs, rfl, _, s, t⟩ := rp_tup.mp h
    exact .tup s (RpA.dp ds xs t (by simpa only [PyData.hasDict] using hd))
  | .dict kvs, v, h, hd => by
    simp only [PyData.hasDict] at hd
    cases hd
theorem RpA.dp : ∀ (ds : List PyData) (xs : List V), RpA K B H ds xs → PyData.hasDictAll ds = false → DpAll K H xs ds
  | [], xs, h, _ => by rw [rpa_nil.mp h]; exact .nil
  | d :: ds, xs, h, hd => by
    obtain ⟨x, r, rfl, h1, h2⟩ := rpa_cons.mp h
    simp only [PyData.hasDictAll, Bool.or_eq_false_iff] at hd
    exact .cons (Rp.dp d x h1 hd.1) (RpA.dp ds r h2 hd.2)
end
theorem rd_neD (ha : da.hasDict = false) (hb : db.hasDict = false) (sa : SeqAt.shaped da = true) (sb : SeqAt.shaped db = true) : RvD K B (rNeU K) da db (.bool (!PyData.eqv da db)) := fun H1 x y al hx hy Q q =>
  .inr ⟨da, db, Rp.dp _ _ hx ha, Rp.dp _ _ hy hb, sa, sb, q _ H1 (Same.refl H1) (rp_bl.mpr rfl)⟩
theorem rd_eqD (ha : da.hasDict = false) (hb : db.hasDict = false) (sa : SeqAt.shaped da = true) (sb : SeqAt.shaped db = true) : RvD K B (rEqU K) da db (.bool (PyData.eqv da db)) := fun H1 x y al hx hy Q q =>
  .inr ⟨da, db, Rp.dp _ _ hx ha, Rp.dp _ _ hy hb, sa, sb, q _ H1 (Same.refl H1) (rp_bl.mpr rfl)⟩
theorem dn_dict0 : Dn K B tDNewK σ H (.dict []) := fun H1 x Q q p np =>
  q _ _ (same_new np) (rp_dct.mpr ⟨p, [], rfl, x.al.new np, upd_same, rfl⟩)
theorem dn_dict1 {k : Str} {i : Int} : Dn K B (tDisp [(tC (.str k), tC (.int i))]) σ H (.dict [(.str k, .int i)]) := fun H1 x Q q p np => by
  have e : upd (upd H1 p (.dK [])) p (.dK (mergeK [] [((Sum.inr k : Key), V.int i)])) = upd H1 p (.dK [((Sum.inr k : Key), V.int i)]) := upd_upd
  refine ⟨upd_same, [(Sum.inr k, .int i)], rfl, by show (1 : Nat) ≤ 15; decide, ?_⟩
  rw [e]
  exact q _ _ (same_new np) (rp_dct.mpr ⟨p, _, rfl, x.al.new np, upd_same, ⟨_, _, _, rfl, rfl, rfl, rfl⟩⟩)
/-- [e for x in range(n) if test] -/
theorem dn_lcRF {f : Nat → PyData} {p : Nat → Bool} (hx : DnA K B tx σ H [.int n]) (hn : n ≤ 1000)
    (ht : ∀ B', Gw B B' H → ∀ i : Nat, i < n → DnT B' tt ((σ.set j none).set j (some (.int (0 + i)))) H (p i))
    (he : ∀ B', Gw B B' H → ∀ i : Nat, i < n → Dn K B' te ((σ.set j none).set j (some (.int (0 + i)))) H (f i)) :
    Dn K B (tLc (iRng1 tx) (gName j) tt te [j]) σ H (.list (((List.range n).filter p).map f)) := fun H1 x Q q => hx H1 x _ fun vs H2 e2 r2 => by
  obtain rfl : vs = [.int n] := RpA.ints_inv (ns := [(n : Int)]) r2
  refine ⟨n, rfl, by omega, by omega, fun L nL => ?_⟩
  have x2 := x.same e2
  have nB : ¬ B L := x2.al.new nL
  have nLH : H L = none := by
    cases e : H L with
    | none => rfl
    | some o =>
      have := x2.kp L o nB e
      rw [nL] at this
      cases this
  have gw : Gw B (Bp B L) H := gw_new nLH
  refine lc_range (lo := 0) (n := n) (fun i H' => Same H2 H' ∧ Al (Bp B L) H' ∧ ∃ vs, H' L = some (.lst vs) ∧ RpA K (Bp B L) H' (((List.range i).filter p).map f) vs) ?_ ?_ ?_
  · obtain ⟨s1, al, vs, hL, ra⟩ := lc_begin (K := K) (es := []) x2.al nL
    exact ⟨s1, al, [], upd_same, RpA.nil⟩
  · rintro i H' hi ⟨s1, al, vs, hL, ra⟩
    refine ⟨wipe1, ?_⟩
    have xH : Xt (Bp B L) H H' := ⟨fun a o nb z => s1 a o (x2.kp a o (fun w => nb (.inl w)) z), al⟩
    refine ht (Bp B L) gw i hi H' xH _ fun H3 s3 => ?_
    have al3 := al.same s3
    cases hp : p i with
    | true =>
      rw [if_pos rfl]
      refine he (Bp B L) gw i hi H3 (xH.same s3) _ fun y H4 s4 r4 => ?_
      have al4 := al3.same s4
      have x4 : Xt (Bp B L) H4 (upd H4 L (.lst (vs ++ [y]))) := xt_put al4
      refine ⟨vs, s4 _ _ (s3 _ _ hL), ?_, fun b o eb => ?_, x4.al, vs ++ [y], upd_same, ?_⟩
      · have e1 := ra.length
        have e2 : ((List.range i).filter p).length ≤ i := Nat.le_trans (List.length_filter_le _ _) (by rw [List.length_range]; exact Nat.le_refl _)
        rw [List.length_map] at e1
        exact Nat.lt_of_lt_of_le (show vs.length < 1001 by omega) (by decide)
      · rw [upd_ne (ne_of_none eb nL)]
        exact s4 _ _ (s3 _ _ (s1 b o eb))
      · rw [List.range_succ, List.filter_append, List.map_append]
        have e3 : [i].filter p = [i] := by rw [List.filter_cons, hp]; rfl
        rw [e3]
        exact RpA.append ((ra.up (Xt.of al (s3.trans s4))).up x4) (.cons (r4.up x4) .nil)
    | false =>
      rw [if_neg (by decide)]
      refine ⟨s1.trans s3, al3, vs, s3 _ _ hL, ?_⟩
      have e3 : [i].filter p = [] := by rw [List.filter_cons, hp]; rfl
      rw [List.range_succ, List.filter_append, List.map_append, e3, List.map_nil, List.append_nil]
      exact ra.up (Xt.of al s3)
  · rintro H' ⟨s1, al, vs, hL, ra⟩
    exact q _ H' (e2.trans s1) (rp_lst.mpr ⟨L, vs, rfl, nB, hL, RpA.less bp_up _ _ ra⟩)
/-- a, b = x, y without draws -/
theorem sd_par {Dd : Ends} {i j : Nat} (h : DnA K B tx σ H [da, db]) (x : Xt B H H1)
    (k : ∀ v w H2, Same H1 H2 → Rp K B H2 da v → Rp K B H2 db w → Dd.nx ((σ.set i (some v)).set j (some w)) H2) : tPar i j tx Dd σ H1 := h H1 x _ fun vs H2 e r => by
  obtain ⟨v, r1, rfl, h1, h2⟩ := rpa_cons.mp r
  obtain ⟨w, r2, rfl, h3, h4⟩ := rpa_cons.mp h2
  obtain rfl := rpa_nil.mp h4
  exact ⟨v, w, rfl, k v w H2 e h1 h3⟩
end
end CG

/-! Part 10: small data of any kind; places drawn. -/
namespace CG
open PySem PySem.Spec PyProof.Rows L2
theorem at_some {ds : List PyData} {r : Int} (h0 : 0 ≤ r) (h1 : r < ds.length) : ∃ d, d ∈ ds ∧ atI ds r = some d := by
  obtain ⟨i, rfl⟩ : ∃ i : Nat, r = i := ⟨r.toNat, by omega⟩
  have hi : i < ds.length := by omega
  refine ⟨ds[i], List.getElem_mem hi, ?_⟩
  unfold atI ixN
  rw [if_pos (by omega)]
  simp [hi]
theorem at_nat {ds : List PyData} {i : Nat} (h : i < ds.length) : atI ds i = some ds[i] := by
  unfold atI ixN
  rw [if_pos (by omega)]
  simp [h]
/-- small, and without lists or without dicts -/
def Sx (n m : Nat) (d : PyData) : Prop := Sm n m d ∨ SmT n m d
/-- small, without both -/
structure Tm (n m : Nat) (d : PyData) : Prop where
  a : Sm n m d
  b : SmT n m d
section
variable {n m n' m' : Nat} {d x : PyData} {ds : List PyData}
theorem Tm.sx (h : Tm n m d) : Sx n m d := .inl h.a
theorem Tm.mono (h : Tm n m d) (hn : n ≤ n') (hm : m ≤ m') : Tm n' m' d := ⟨h.a.mono hn hm, h.b.mono hn hm⟩
theorem Sx.mono (h : Sx n m d) (hn : n ≤ n') (hm : m ≤ m') : Sx n' m' d := h.imp (·.mono hn hm) (·.mono hn hm)
theorem Sx.shx (h : Sx n m d) (hn : n ≤ 60) (hm : m ≤ 1000000) : Shx d := h.imp (·.mono hn hm) (·.mono hn hm)
theorem tm_int {i : Int} (h : i.natAbs < 2 ^ 200) : Tm 0 202 (.int i) := ⟨sm_int h, smt_of (sm_int h) rfl⟩
theorem tm_bool {b : Bool} : Tm 0 202 (.bool b) := by
  cases b <;> exact ⟨⟨by decide +kernel, by decide +kernel, by decide +kernel, by decide +kernel⟩, ⟨by decide +kernel, by decide +kernel, by decide +kernel, by decide +kernel⟩⟩
theorem tm_tup (h : ∀ d ∈ ds, Tm n m d) : Tm (n + 1) (ds.length * m + 2 * ds.length + 3) (.tuple ds) := ⟨sm_tup fun d hd => (h d hd).a, smt_tup fun d hd => (h d hd).b⟩
/-- a tuple of small data, one of them of any kind -/
theorem sx_mix (h : Sx n m x) (ht : ∀ d ∈ ds, Tm n m d ∨ d = x) : Sx (n + 1) (ds.length * m + 2 * ds.length + 3) (.tuple ds) := by
  rcases h with h | h
  · exact .inl (sm_tup fun d hd => (ht d hd).elim (·.a) fun e => e ▸ h)
  · exact .inr (smt_tup fun d hd => (ht d hd).elim (·.b) fun e => e ▸ h)
theorem tm_ctr {k : Int} {c : Ctr} (h : c.Ok k) (hk : k ≤ 100) : Tm 1 900 c.d := ⟨sm_ctr h hk, smt_of (sm_ctr h hk) rfl⟩
theorem nl_ctrs : ∀ (cs : List Ctr), noListAll (cs.map Ctr.d) = true
  | [] => rfl
  | c :: cs => by
    rw [List.map_cons]
    simp only [noListAll, nl_ctrs cs, Bool.and_true]
    rfl
theorem tm_rows {k : Int} {cs : List Ctr} (h : ∀ c ∈ cs, c.Ok k) (hk : k ≤ 100) (hl : cs.length ≤ 100) : Tm 2 100000 (rowsD cs) :=
  ⟨sm_rows h hk hl, smt_of (sm_rows h hk hl) (by unfold rowsD; simp only [noList]; exact nl_ctrs cs)⟩
theorem tm_board {k : Int} {cs : List Ctr} (h : ∀ c ∈ cs, c.Ok k) (h0 : 0 ≤ k) (hk : k ≤ 100) (hl : cs.length ≤ 100) : Tm 3 200020 (boardD k cs) :=
  ⟨sm_board h h0 hk hl, smt_of (sm_board h h0 hk hl) (by unfold boardD rowsD; simp only [noList, noListAll, nl_ctrs cs, Bool.and_true])⟩
end
end CG

/-! Part 11: lists of one's own that grow. -/
namespace CG
open PySem PySem.Spec PyProof.Rows L2
/-- all but the place L is kept -/
def Pt (L : Addr) (H H2 : Hp) : Prop := ∀ a o, a ≠ L → H a = some o → H2 a = some o
/-- the list at L holds ds; no other data reaches it -/
structure Own (K : PySem.W.Frag) (B : Addr → Prop) (L : Addr) (H : Hp) (ds : List PyData) : Prop where
  nB : ¬ B L
  ex : ∃ vs, H L = some (.lst vs) ∧ RpA K (Bp B L) H ds vs
section
variable {K : PySem.W.Frag} {B : Addr → Prop} {D C L : Addr} {H H0 H1 H2 : Hp} {t t' n m : Int} {σ : L2.St} {te ta tb : TE} {tx : TA} {tt tu : TT} {d : PyData} {ds : List PyData}
  {Φ Ψ Θ : PyData → Prop} {Φs Ψs : List PyData → Prop} {Dd : Ends} {i : Nat}
theorem Pt.refl : Pt L H H := fun _ _ _ e => e
theorem Pt.trans (h : Pt L H H1) (k : Pt L H1 H2) : Pt L H H2 := fun a o n e => k a o n (h a o n e)
theorem Pt.same (h : Pt L H H1) (k : Same H1 H2) : Pt L H H2 := fun a o n e => k a o (h a o n e)
theorem Pt.of (k : Same H H1) : Pt L H H1 := fun a o _ e => k a o e
theorem Pt.put {o : HO} : Pt L H (upd H L o) := fun a u n e => by rw [upd_ne n]; exact e
theorem Pt.xt (h : Pt L H H1) (al : Al (Bp B L) H1) : Xt (Bp B L) H H1 := ⟨fun a o nb e => h a o (fun z => nb (.inr z)) e, al⟩
theorem Dk.nD (k : Dk B H D C t) (nB : ¬ B L) : D ≠ L := fun e => nB (e ▸ k.bD)
theorem Dk.nC (k : Dk B H D C t) (nB : ¬ B L) : C ≠ L := fun e => nB (e ▸ k.bC)
theorem Dk.pt (k : Dk (Bp B L) H D C t) (h : Pt L H H1) (al : Al (Bp B L) H1) (nD : D ≠ L) (nC : C ≠ L) : Dk (Bp B L) H1 D C t := by
  obtain ⟨bD, bC, _, ne, nn, cs, h1, h2, h3⟩ := k
  exact ⟨bD, bC, al, ne, nn, cs, h _ _ nD h1, h _ _ nC h2, h3⟩
theorem Pt.xk (x : Xt (Bk D C) H0 H) (n : H0 L = none) (h : Pt L H H1) (nD : D ≠ L) (nC : C ≠ L) : Xt (Bk D C) H0 H1 := ⟨fun a o nb e => h a o (ne_of_none e n) (x.kp a o nb e), fun a z => by
  cases q : H a with
  | none => exact absurd q (x.al a z)
  | some o =>
    have : a ≠ L := by
      rcases z with rfl | rfl
      · exact nD
      · exact nC
    rw [h a o this q]
    simp⟩
theorem Own.same (o : Own K B L H ds) (al : Al (Bp B L) H) (e : Same H H1) : Own K B L H1 ds := by
  obtain ⟨nB, vs, h1, h2⟩ := o
  exact ⟨nB, vs, e _ _ h1, h2.up (Xt.of al e)⟩
/-- .. over draws -/
theorem Own.xk (o : Own K B L H ds) (k : Dk (Bp B L) H D C t) (nD : D ≠ L) (nC : C ≠ L) (x : Xt (Bk D C) H H1) : Own K B L H1 ds := by
  obtain ⟨nB, vs, h1, h2⟩ := o
  exact ⟨nB, vs, x.kp _ _ (fun z => z.elim (fun w => nD w.symm) fun w => nC w.symm) h1, h2.up (k.wd x)⟩
theorem Own.rp (o : Own K B L H ds) : Rp K B H (.list ds) (.ref L) := by
  obtain ⟨nB, vs, h1, h2⟩ := o
  exact rp_lst.mpr ⟨L, vs, rfl, nB, h1, RpA.less bp_up _ _ h2⟩
theorem al_new {o : HO} (al : Al B H) : Al (Bp B L) (upd H L o) := fun a h => by
  by_cases z : a = L
  · rw [z, upd_same]; simp
  · rw [upd_ne z]
    exact h.elim (al a) fun e => absurd e z
/-- x = [..]: a list that will grow -/
theorem se_newL (h : EfA K B D C m tx σ H Φs) (z : ∀ ds, Φs ds → ds.length ≤ 100000) (x : Xt B H H1) (k : Dk B H1 D C t) (hl : t + m ≤ Lim)
    (q : ∀ L H2 t' ds, H1 L = none → Xt (Bk D C) H1 H2 → Dk (Bp B L) H2 D C t' → t' ≤ t + m → Φs ds → Own K B L H2 ds → (∀ {d v}, Rp K B H1 d v → Rp K (Bp B L) H2 d v) → Dd.nx (σ.set i (some (.ref L))) H2) :
    tAsg (tLst tx) (gName i) Dd σ H1 := h H1 t x k hl _ fun vs ds H2 t' x2 k2 l2 p r => by
  refine ⟨by rw [← r.length]; exact Nat.le_trans (z ds p) (by decide), fun L nL => ?_⟩
  have nB : ¬ B L := k2.al.new nL
  have s2 : Same H2 (upd H2 L (.lst vs)) := same_new nL
  have al := al_new (o := .lst vs) (L := L) k2.al
  have n1 : H1 L = none := k2.free (k.wd x2) nL
  have gw : Gw B (Bp B L) H2 := gw_new nL
  have y : Xt (Bp B L) H2 (upd H2 L (.lst vs)) := ⟨fun a o _ e => s2 a o e, al⟩
  refine q L _ t' ds n1 (x2.same s2) ((k2.same s2).grow (by rw [upd_same]; simp)) l2 p ⟨nB, vs, upd_same, (RpA.grow gw _ _ r).up y⟩ fun r => ?_
  exact (Rp.grow gw _ _ (r.up (k.wd x2))).up y
theorem sd_newL (h : DnA K B tx σ H ds) (z : ds.length ≤ 100000) (x : Xt B H H1)
    (q : ∀ L H2, H1 L = none → Same H1 H2 → Al (Bp B L) H2 → Own K B L H2 ds → (∀ {d v}, Rp K B H1 d v → Rp K (Bp B L) H2 d v) → Dd.nx (σ.set i (some (.ref L))) H2) :
    tAsg (tLst tx) (gName i) Dd σ H1 := h H1 x _ fun vs H2 e2 r => by
  refine ⟨by rw [← r.length]; exact Nat.le_trans z (by decide), fun L nL => ?_⟩
  have x2 := x.same e2
  have nB : ¬ B L := x2.al.new nL
  have s2 : Same H2 (upd H2 L (.lst vs)) := same_new nL
  have al := al_new (o := .lst vs) (L := L) x2.al
  have n1 : H1 L = none := by
    cases q : H1 L with
    | none => rfl
    | some o =>
      have := e2 L o q
      rw [nL] at this
      cases this
  have gw : Gw B (Bp B L) H2 := gw_new nL
  have y : Xt (Bp B L) H2 (upd H2 L (.lst vs)) := ⟨fun a o _ e => s2 a o e, al⟩
  refine q L _ n1 (e2.trans s2) al ⟨nB, vs, upd_same, (RpA.grow gw _ _ r).up y⟩ fun r => ?_
  exact (Rp.grow gw _ _ (r.up (Xt.of x.al e2))).up y
/-- x.append(..) -/
theorem sd_append (hs : σ[i]? = some (some (.ref L))) (h : DnA K (Bp B L) tx σ H [d]) (x : Xt (Bp B L) H H1) (o : Own K B L H1 ds) (hl : ds.length < 100000)
    (q : ∀ H2, Pt L H1 H2 → Al (Bp B L) H2 → Own K B L H2 (ds ++ [d]) → Dd.nx σ H2) : tDrop (tBM K "list" rAppend (tVar i) tx) Dd σ H1 := by
  obtain ⟨nB, vs, h1, h2⟩ := o
  refine ⟨.ref L, hs, .inl ⟨rfl, _, SqL.of h1⟩, h H1 x _ fun ws H2 e2 r2 => ?_⟩
  obtain ⟨v, r, rfl, rv, rn⟩ := rpa_cons.mp r2
  obtain rfl := rpa_nil.mp rn
  have al2 := (x.same e2).al
  refine ⟨L, vs, v, rfl, rfl, e2 _ _ h1, by rw [← h2.length]; exact Nat.lt_of_lt_of_le hl (by decide), ?_⟩
  have y : Xt (Bp B L) H2 (upd H2 L (.lst (vs ++ [v]))) := xt_put al2
  exact q _ ((Pt.of e2).trans Pt.put) y.al ⟨nB, _, upd_same, RpA.append ((h2.up (Xt.of x.al e2)).up y) (.cons (rv.up y) .nil)⟩
theorem se_append (hs : σ[i]? = some (some (.ref L))) (h : EfA K (Bp B L) D C m tx σ H Φs) (hp : ∀ es, Φs es → es.length = 1) (x : Xt (Bp B L) H H1) (k : Dk (Bp B L) H1 D C t) (hb : t + m ≤ Lim)
    (nD : D ≠ L) (nC : C ≠ L) (o : Own K B L H1 ds) (hl : ds.length < 100000)
    (q : ∀ H2 H3 t' d, Xt (Bk D C) H1 H2 → Pt L H2 H3 → Dk (Bp B L) H3 D C t' → t' ≤ t + m → Φs [d] → Xt (Bp B L) H1 H3 → Own K B L H3 (ds ++ [d]) → Dd.nx σ H3) : tDrop (tBM K "list" rAppend (tVar i) tx) Dd σ H1 := by
  obtain ⟨nB, vs, h1, h2⟩ := o
  refine ⟨.ref L, hs, .inl ⟨rfl, _, SqL.of h1⟩, h H1 t x k hb _ fun ws es H2 t' x2 k2 l2 p r2 => ?_⟩
  match es, hp es p with
  | [d], _ =>
    obtain ⟨v, r, rfl, rv, rn⟩ := rpa_cons.mp r2
    obtain rfl := rpa_nil.mp rn
    have nk : ¬ Bk D C L := fun z => z.elim (fun w => nD w.symm) fun w => nC w.symm
    refine ⟨L, vs, v, rfl, rfl, x2.kp _ _ nk h1, by rw [← h2.length]; exact Nat.lt_of_lt_of_le hl (by decide), ?_⟩
    have y : Xt (Bp B L) H2 (upd H2 L (.lst (vs ++ [v]))) := xt_put k2.al
    exact q H2 _ t' d x2 Pt.put (k2.pt Pt.put y.al nD nC) l2 p ((k.wd x2).trans y) ⟨nB, _, upd_same, RpA.append ((h2.up (k.wd x2)).up y) (.cons (rv.up y) .nil)⟩
end
end CG

/-! Part 12: programs over data: what the slots hold, readings with their wish over data. -/
namespace CG
open PySem PySem.Spec PyProof.Rows L2
/-- a thing that is drawn from: its places, where it stands, what is true of it after t draws -/
structure Dck where
  pl : Addr → Prop
  D : Addr
  ok : Hp → Int → Prop
  live : ∀ {H : Hp} {t : Int} {a : Addr}, ok H t → pl a → H a ≠ none
  stay : ∀ {H H1 : Hp} {t : Int}, ok H t → (∀ a o, pl a → H a = some o → H1 a = some o) → ok H1 t
/-- nothing to draw from -/
def Dck.no : Dck := ⟨fun _ => False, (0 : Nat), fun _ _ => True, fun _ h => h.elim, fun _ _ => trivial⟩
/-- what a slot holds -/
inductive Sl where
  | un
  | dat (d : PyData)
  | own (ds : List PyData)
  | deck (M : Dck → Prop)
abbrev En := List Sl
def RepS (K : PySem.W.Frag) (m : Dck) (B0 B : Addr → Prop) (H : Hp) : Option Sl → Option (Option V) → Prop
  | some (.dat d), x => ∃ v, x = some (some v) ∧ Rp K B H d v
  | some (.own ds), x => ∃ p vs, x = some (some (.ref p)) ∧ B p ∧ ¬ B0 p ∧ ¬ m.pl p ∧ H p = some (.lst vs) ∧ RpA K B H ds vs
  | some (.deck M), x => x = some (some (.ref m.D)) ∧ M m
  | _, _ => True
/-- the slots σ over the heap H hold what e says -/
structure Rep (K : PySem.W.Frag) (m : Dck) (B0 B : Addr → Prop) (e : En) (σ : L2.St) (H : Hp) (t : Int) : Prop where
  al : Al B H
  pb : ∀ a, m.pl a → B a
  b0 : ∀ a, B0 a → B a
  ok : m.ok H t
  ln : e.length = σ.length
  sl : ∀ i : Nat, RepS K m B0 B H e[i]? σ[i]?
  ow : ∀ (i j : Nat) (p : Addr) (ds es : List PyData), e[i]? = some (.own ds) → e[j]? = some (.own es) → σ[i]? = some (some (.ref p)) → σ[j]? = some (some (.ref p)) → i = j
section
variable {K : PySem.W.Frag} {m : Dck} {B0 B B' : Addr → Prop} {H H0 H1 H2 : Hp} {t t' : Int} {e : En} {σ : L2.St} {i : Nat}
theorem Dck.al (m : Dck) (h : m.ok H t) : Al m.pl H := fun a p => m.live h p
/-- what is kept but for the deck is kept but for B -/
theorem xt_wd (al : Al B H) (pb : ∀ a, m.pl a → B a) (x : Xt m.pl H H1) : Xt B H H1 := ⟨fun a o nb e => x.kp a o (fun z => nb (pb a z)) e, fun a h => by
  by_cases z : m.pl a
  · exact x.al a z
  · cases q : H a with
    | none => exact absurd q (al a h)
    | some o => rw [x.kp a o z q]; simp⟩
theorem Dck.same (m : Dck) (h : m.ok H t) (s : Same H H1) : m.ok H1 t := m.stay h fun a o _ e => s a o e
theorem Dck.xs (m : Dck) (h : m.ok H t) (s : Same H H1) : Xt m.pl H H1 := Xt.of (m.al h) s
theorem RepS.up {x : Option Sl} {y : Option (Option V)} (h : RepS K m B0 B H x y) (pb : ∀ a, m.pl a → B a) (al : Al B H) (z : Xt m.pl H H1) : RepS K m B0 B H1 x y := by
  have w := xt_wd al pb z
  match x, h with
  | some (.dat d), h =>
    obtain ⟨v, rfl, r⟩ := h
    exact ⟨v, rfl, r.up w⟩
  | some (.own ds), h =>
    obtain ⟨p, vs, rfl, b, b0, np, hp, r⟩ := h
    exact ⟨p, vs, rfl, b, b0, np, z.kp p _ np hp, r.up w⟩
  | some (.deck M), h => exact h
  | some .un, _ => trivial
  | none, _ => trivial
theorem Rep.up (r : Rep K m B0 B e σ H t) (x : Xt m.pl H H1) (k : m.ok H1 t') : Rep K m B0 B e σ H1 t' :=
  ⟨(xt_wd r.al r.pb x).al, r.pb, r.b0, k, r.ln, fun i => (r.sl i).up r.pb r.al x, r.ow⟩
theorem Rep.wd (r : Rep K m B0 B e σ H t) (x : Xt m.pl H H1) : Xt B H H1 := xt_wd r.al r.pb x
theorem Rep.same (r : Rep K m B0 B e σ H t) (s : Same H H1) : Rep K m B0 B e σ H1 t := r.up (m.xs r.ok s) (m.same r.ok s)
/-- reading a slot -/
def rdS : Option Sl → (PyData → Prop) → Prop
  | some (.dat d), k => k d
  | _, _ => False
theorem rdS_dat {d : PyData} {k : PyData → Prop} : rdS (some (.dat d)) k = k d := rfl
theorem Rep.var {k : PyData → Prop} (r : Rep K m B0 B e σ H t) (h : rdS e[i]? k) : ∃ d v, σ[i]? = some (some v) ∧ k d ∧ Rp K B H d v ∧ e[i]? = some (.dat d) := by
  have s := r.sl i
  cases q : e[i]? with
  | none => rw [q] at h; exact h.elim
  | some x =>
    rw [q] at h s
    cases x with
    | dat d =>
      obtain ⟨v, e1, r1⟩ := s
      exact ⟨d, v, e1, h, r1, rfl⟩
    | un => exact h.elim
    | own ds => exact h.elim
    | deck M => exact h.elim
/-- a slot is set -/
theorem Rep.set {d : PyData} {v : V} (r : Rep K m B0 B e σ H t) (rv : Rp K B H d v) : Rep K m B0 B (e.set i (.dat d)) (σ.set i (some v)) H t := by
  refine ⟨r.al, r.pb, r.b0, r.ok, by rw [List.length_set, List.length_set]; exact r.ln, fun j => ?_, fun a b p ds es h1 h2 h3 h4 => ?_⟩
  · by_cases z : i = j
    · subst z
      by_cases hl : i < e.length
      · rw [List.getElem?_set_self hl, List.getElem?_set_self (by rw [← r.ln]; exact hl)]
        exact ⟨v, rfl, rv⟩
      · rw [List.getElem?_eq_none (by rw [List.length_set]; omega)]
        trivial
    · rw [List.getElem?_set_ne z, List.getElem?_set_ne z]
      exact r.sl j
  · have na : i ≠ a := fun z => by
      subst z
      by_cases hl : i < e.length
      · rw [List.getElem?_set_self hl] at h1; cases h1
      · rw [List.getElem?_eq_none (by rw [List.length_set]; omega)] at h1; cases h1
    have nb : i ≠ b := fun z => by
      subst z
      by_cases hl : i < e.length
      · rw [List.getElem?_set_self hl] at h2; cases h2
      · rw [List.getElem?_eq_none (by rw [List.length_set]; omega)] at h2; cases h2
    rw [List.getElem?_set_ne na] at h1 h3
    rw [List.getElem?_set_ne nb] at h2 h4
    exact r.ow a b p ds es h1 h2 h3 h4
/-- a slot is forgotten -/
theorem Rep.drop {x : Option V} (r : Rep K m B0 B e σ H t) : Rep K m B0 B (e.set i .un) (σ.set i x) H t := by
  refine ⟨r.al, r.pb, r.b0, r.ok, by rw [List.length_set, List.length_set]; exact r.ln, fun j => ?_, fun a b p ds es h1 h2 h3 h4 => ?_⟩
  · by_cases z : i = j
    · subst z
      by_cases hl : i < e.length
      · rw [List.getElem?_set_self hl]
        trivial
      · rw [List.getElem?_eq_none (by rw [List.length_set]; omega)]
        trivial
    · rw [List.getElem?_set_ne z, List.getElem?_set_ne z]
      exact r.sl j
  · have na : i ≠ a := fun z => by
      subst z
      by_cases hl : i < e.length
      · rw [List.getElem?_set_self hl] at h1; cases h1
      · rw [List.getElem?_eq_none (by rw [List.length_set]; omega)] at h1; cases h1
    have nb : i ≠ b := fun z => by
      subst z
      by_cases hl : i < e.length
      · rw [List.getElem?_set_self hl] at h2; cases h2
      · rw [List.getElem?_eq_none (by rw [List.length_set]; omega)] at h2; cases h2
    rw [List.getElem?_set_ne na] at h1 h3
    rw [List.getElem?_set_ne nb] at h2 h4
    exact r.ow a b p ds es h1 h2 h3 h4
/-- more places are avoided -/
theorem RepS.grow {x : Option Sl} {y : Option (Option V)} (g : Gw B B' H) (h : RepS K m B0 B H x y) : RepS K m B0 B' H x y := by
  match x, h with
  | some (.dat d), h =>
    obtain ⟨v, rfl, r⟩ := h
    exact ⟨v, rfl, Rp.grow g _ _ r⟩
  | some (.own ds), h =>
    obtain ⟨p, vs, rfl, b, b0, np, hp, r⟩ := h
    exact ⟨p, vs, rfl, g.up p b, b0, np, hp, RpA.grow g _ _ r⟩
  | some (.deck M), h => exact h
  | some .un, _ => trivial
  | none, _ => trivial
/-- a place that came later is avoided -/
theorem Rep.under {L : Addr} (r : Rep K m B0 B e σ H t) (n : H L = none) (x : Xt m.pl H H1) (k : m.ok H1 t') (h1 : H1 L ≠ none) : Rep K m B0 (Bp B L) e σ H1 t' := by
  have g : Gw B (Bp B L) H := gw_new n
  have al : Al (Bp B L) H1 := fun a h => h.elim (fun b => (xt_wd r.al r.pb x).al a b) fun e => e ▸ h1
  have y : Xt (Bp B L) H H1 := ⟨fun a u nb e => x.kp a u (fun z => nb (.inl (r.pb a z))) e, al⟩
  refine ⟨al, fun a p => .inl (r.pb a p), fun a p => .inl (r.b0 a p), k, r.ln, fun i => ?_, r.ow⟩
  have h := RepS.grow g (r.sl i)
  revert h
  generalize e[i]? = y
  generalize σ[i]? = z
  intro h
  match y, h with
  | some (.dat d), h =>
    obtain ⟨v, rfl, r⟩ := h
    exact ⟨v, rfl, r.up (by assumption)⟩
  | some (.own ds), h =>
    obtain ⟨p, vs, rfl, b, b0, np, hp, r⟩ := h
    exact ⟨p, vs, rfl, b, b0, np, x.kp p _ np hp, r.up (by assumption)⟩
  | some (.deck M), h => exact h
  | some .un, _ => trivial
  | none, _ => trivial
end
/-! ### readings -/
abbrev PK := PyData → Int → Prop
/-- a reading, its wish over data -/
structure AE (K : PySem.W.Frag) where
  te : TE
  wp : En → Int → PK → Prop
  ok : ∀ {m : Dck} {B0 B : Addr → Prop} {e : En} {σ : L2.St} {H : Hp} {t : Int} {k : PK}, Rep K m B0 B e σ H t → wp e t k → ∀ Q : VK,
    (∀ v d H2 t', Xt m.pl H H2 → m.ok H2 t' → k d t' → Rp K B H2 d v → Q v H2) → te σ H Q
structure AA (K : PySem.W.Frag) where
  ta : TA
  wp : En → Int → (List PyData → Int → Prop) → Prop
  ok : ∀ {m : Dck} {B0 B : Addr → Prop} {e : En} {σ : L2.St} {H : Hp} {t : Int} {k : List PyData → Int → Prop}, Rep K m B0 B e σ H t → wp e t k → ∀ Q : List V → Hp → Prop,
    (∀ vs ds H2 t', Xt m.pl H H2 → m.ok H2 t' → k ds t' → RpA K B H2 ds vs → Q vs H2) → ta σ H Q
structure AT (K : PySem.W.Frag) where
  tt : TT
  wp : En → Int → (Bool → Int → Prop) → Prop
  ok : ∀ {m : Dck} {B0 B : Addr → Prop} {e : En} {σ : L2.St} {H : Hp} {t : Int} {k : Bool → Int → Prop}, Rep K m B0 B e σ H t → wp e t k → ∀ Q : Bool → Hp → Prop,
    (∀ b H2 t', Xt m.pl H H2 → m.ok H2 t' → k b t' → Q b H2) → tt σ H Q
structure AO (K : PySem.W.Frag) where
  tO : TO
  wp : En → Int → (Option Int → Int → Prop) → Prop
  ok : ∀ {m : Dck} {B0 B : Addr → Prop} {e : En} {σ : L2.St} {H : Hp} {t : Int} {k : Option Int → Int → Prop}, Rep K m B0 B e σ H t → wp e t k → ∀ Q : Option Int → Hp → Prop,
    (∀ b H2 t', Xt m.pl H H2 → m.ok H2 t' → k b t' → Q b H2) → tO σ H Q
/-- an operation on data -/
structure A2 (K : PySem.W.Frag) where
  r : R2
  f : PyData → PyData → (PyData → Prop) → Prop
  ok : ∀ {B : Addr → Prop} {a b : PyData} {k : PyData → Prop}, f a b k → ∃ c, k c ∧ RvD K B r a b c
structure A1 (K : PySem.W.Frag) where
  r : V → Hp → VK → Prop
  f : PyData → (PyData → Prop) → Prop
  ok : ∀ {B : Addr → Prop} {a : PyData} {k : PyData → Prop}, f a k → ∃ c, k c ∧ RuD K B r a c
structure AC (K : PySem.W.Frag) where
  r : List V → Hp → VK → Prop
  f : List PyData → (PyData → Prop) → Prop
  ok : ∀ {B : Addr → Prop} {as : List PyData} {k : PyData → Prop}, f as k → ∃ c, k c ∧ RcD K B r as c
/-- what a def does to data: the result and the draws -/
structure Pm where
  w : List PyData → Int → PK → Prop
  mono : ∀ {ds : List PyData} {t : Int} {k k' : PK}, (∀ d t', k d t' → k' d t') → w ds t k → w ds t k'
/-- the promise of a def over data -/
def spA (K : PySem.W.Frag) (p : Pm) : Sp := fun vs H Q _ => ∃ (m : Dck) (B : Addr → Prop) (t : Int) (ds : List PyData), Al B H ∧ (∀ a, m.pl a → B a) ∧ m.ok H t ∧ RpA K B H ds vs ∧
  p.w ds t fun d t' => ∀ v H', Xt m.pl H H' → m.ok H' t' → Rp K B H' d v → Q v H'
/-- .. whose first argument is what is drawn from -/
def spD (K : PySem.W.Frag) (M : Dck → Prop) (p : Pm) : Sp := fun vs H Q _ => ∃ (m : Dck) (B : Addr → Prop) (t : Int) (ds : List PyData) (ws : List V), vs = .ref m.D :: ws ∧ M m ∧ Al B H ∧ (∀ a, m.pl a → B a) ∧ m.ok H t ∧ RpA K B H ds ws ∧
  p.w ds t fun d t' => ∀ v H', Xt m.pl H H' → m.ok H' t' → Rp K B H' d v → Q v H'
section
variable {K : PySem.W.Frag}
def AE.var (K : PySem.W.Frag) (i : Nat) : AE K := ⟨tVar i, fun e t k => rdS e[i]? fun d => k d t, fun {m B0 B e σ H t k} r h Q q => by
  obtain ⟨d, v, e1, hk, rv, _⟩ := r.var h
  exact ⟨v, e1, q v d H t (Xt.refl (m.al r.ok)) r.ok hk rv⟩⟩
def AE.int (K : PySem.W.Frag) (i : Int) : AE K := ⟨tC (.int i), fun _ t k => k (.int i) t, fun {m B0 B e σ H t k} r h Q q => q _ _ H t (Xt.refl (m.al r.ok)) r.ok h (rp_int.mpr rfl)⟩
def AE.bl (K : PySem.W.Frag) (b : Bool) : AE K := ⟨tC (.bl b), fun _ t k => k (.bool b) t, fun {m B0 B e σ H t k} r h Q q => q _ _ H t (Xt.refl (m.al r.ok)) r.ok h (rp_bl.mpr rfl)⟩
def AE.str (K : PySem.W.Frag) (z : Str) : AE K := ⟨tC (.str z), fun _ t k => k (.str z) t, fun {m B0 B e σ H t k} r h Q q => q _ _ H t (Xt.refl (m.al r.ok)) r.ok h (rp_str.mpr rfl)⟩
def AE.non (K : PySem.W.Frag) : AE K := ⟨tC .non, fun _ t k => k .none t, fun {m B0 B e σ H t k} r h Q q => q _ _ H t (Xt.refl (m.al r.ok)) r.ok h (rp_non.mpr rfl)⟩
def AE.op (o : A2 K) (a b : AE K) : AE K := ⟨tOp o.r a.te b.te, fun e t k => a.wp e t fun x t1 => b.wp e t1 fun y t2 => o.f x y fun z => k z t2, fun {m B0 B e σ H t k} r h Q q =>
  a.ok r h _ fun v x H1 t1 x1 k1 h1 r1 => b.ok (r.up x1 k1) h1 _ fun w y H2 t2 x2 k2 h2 r2 => by
    obtain ⟨c, hc, rc⟩ := o.ok (B := B) h2
    have s1 := r.up x1 k1
    have s2 := s1.up x2 k2
    exact rc H2 v w s2.al (r1.up (s1.wd x2)) r2 Q fun z H3 e3 r3 => q z c H3 t2 (x1.trans (x2.trans (m.xs k2 e3))) (m.same k2 e3) hc r3⟩
def AE.un (o : A1 K) (a : AE K) : AE K := ⟨tUn o.r a.te, fun e t k => a.wp e t fun x t1 => o.f x fun z => k z t1, fun {m B0 B e σ H t k} r h Q q =>
  a.ok r h _ fun v x H1 t1 x1 k1 h1 r1 => by
    obtain ⟨c, hc, rc⟩ := o.ok (B := B) h1
    exact rc H1 v (r.up x1 k1).al r1 Q fun z H3 e3 r3 => q z c H3 t1 (x1.trans (m.xs k1 e3)) (m.same k1 e3) hc r3⟩
def AA.nil (K : PySem.W.Frag) : AA K := ⟨tNil, fun _ t k => k [] t, fun {m B0 B e σ H t k} r h Q q => q _ _ H t (Xt.refl (m.al r.ok)) r.ok h RpA.nil⟩
def AA.cons (a : AE K) (b : AA K) : AA K := ⟨tCons a.te b.ta, fun e t k => a.wp e t fun x t1 => b.wp e t1 fun xs t2 => k (x :: xs) t2, fun {m B0 B e σ H t k} r h Q q =>
  a.ok r h _ fun v x H1 t1 x1 k1 h1 r1 => b.ok (r.up x1 k1) h1 _ fun vs xs H2 t2 x2 k2 h2 r2 =>
    q _ _ H2 t2 (x1.trans x2) k2 h2 (.cons (r1.up ((r.up x1 k1).wd x2)) r2)⟩
def AE.tup (a : AA K) : AE K := ⟨tTup a.ta, fun e t k => a.wp e t fun ds t1 => ds.length ≤ 100000 ∧ k (.tuple ds) t1, fun {m B0 B e σ H t k} r h Q q =>
  a.ok r h _ fun vs ds H1 t1 x1 k1 h1 r1 => ⟨by rw [← r1.length]; exact Nat.le_trans h1.1 (by decide), fun p np =>
    q _ _ _ t1 (x1.trans (m.xs k1 (same_new np))) (m.same k1 (same_new np)) h1.2
      (rp_tup.mpr ⟨p, vs, rfl, .inl ((r.up x1 k1).al.new np), SqT.of upd_same, r1.up (Xt.of (r.up x1 k1).al (same_new np))⟩)⟩⟩
def AE.lst (a : AA K) : AE K := ⟨tLst a.ta, fun e t k => a.wp e t fun ds t1 => ds.length ≤ 100000 ∧ k (.list ds) t1, fun {m B0 B e σ H t k} r h Q q =>
  a.ok r h _ fun vs ds H1 t1 x1 k1 h1 r1 => ⟨by rw [← r1.length]; exact Nat.le_trans h1.1 (by decide), fun p np =>
    q _ _ _ t1 (x1.trans (m.xs k1 (same_new np))) (m.same k1 (same_new np)) h1.2
      (rp_lst.mpr ⟨p, vs, rfl, (r.up x1 k1).al.new np, upd_same, r1.up (Xt.of (r.up x1 k1).al (same_new np))⟩)⟩⟩
def AE.cb (o : AC K) (a : AA K) : AE K := ⟨tCB o.r a.ta, fun e t k => a.wp e t fun ds t1 => o.f ds fun z => k z t1, fun {m B0 B e σ H t k} r h Q q =>
  a.ok r h _ fun vs ds H1 t1 x1 k1 h1 r1 => by
    obtain ⟨c, hc, rc⟩ := o.ok (B := B) h1
    exact rc H1 vs (r.up x1 k1).al r1 Q fun z H3 e3 r3 => q z c H3 t1 (x1.trans (m.xs k1 e3)) (m.same k1 e3) hc r3⟩
/-- f(..) -/
def AE.call (p : Pm) (E : XK) (a : AA K) : AE K := ⟨tCall (spA K p) [] E a.ta, fun e t k => a.wp e t fun ds t1 => p.w ds t1 k, fun {m B0 B e σ H t k} r h Q q =>
  a.ok r h _ fun vs ds H1 t1 x1 k1 h1 r1 => by
    have s := r.up x1 k1
    refine ⟨m, B, t1, ds, s.al, s.pb, k1, by rw [List.append_nil]; exact r1, p.mono (fun d t' hk => ?_) h1⟩
    exact fun v H' x k2 rv => q v d H' t' (x1.trans x) k2 hk rv⟩
def dkS : Option Sl → (Dck → Prop) → Prop
  | some (.deck M), N => M = N
  | _, _ => False
theorem Rep.dk {m : Dck} {B0 B : Addr → Prop} {e : En} {σ : L2.St} {H : Hp} {t : Int} {i : Nat} {M : Dck → Prop} (r : Rep K m B0 B e σ H t) (h : dkS e[i]? M) : σ[i]? = some (some (.ref m.D)) ∧ M m := by
  have s := r.sl i
  cases q : e[i]? with
  | none => rw [q] at h; exact h.elim
  | some x =>
    rw [q] at h s
    cases x with
    | deck N =>
      obtain rfl : N = M := h
      exact s
    | un => exact h.elim
    | own ds => exact h.elim
    | dat M => exact h.elim
/-- f(deck, ..) -/
def AE.callD (M : Dck → Prop) (p : Pm) (E : XK) (i : Nat) (a : AA K) : AE K := ⟨tCall (spD K M p) [] E (tCons (tVar i) a.ta), fun e t k => dkS e[i]? M ∧ a.wp e t fun ds t1 => p.w ds t1 k, fun {m B0 B e σ H t k} r h Q q => by
  obtain ⟨h1, h2⟩ := r.dk h.1
  refine ⟨.ref m.D, h1, a.ok r h.2 _ fun vs ds H1 t1 x1 k1 h3 r1 => ?_⟩
  have s := r.up x1 k1
  refine ⟨m, B, t1, ds, vs, by rw [List.append_nil], h2, s.al, s.pb, k1, r1, p.mono (fun d t' hk => ?_) h3⟩
  exact fun v H' x k2 rv => q v d H' t' (x1.trans x) k2 hk rv⟩
/-! tests -/
def unB : PyData → (Bool → Prop) → Prop
  | .bool b, k => k b
  | _, _ => False
theorem unB_of {d : PyData} {k : Bool → Prop} (h : unB d k) : ∃ b, d = .bool b ∧ k b := by
  cases d with
  | bool b => exact ⟨b, rfl, h⟩
  | _ => exact h.elim
def AT.test (a : AE K) : AT K := ⟨tTest a.te, fun e t k => a.wp e t fun d t1 => unB d fun b => k b t1, fun {m B0 B e σ H t k} r h Q q =>
  a.ok r h _ fun v d H1 t1 x1 k1 h1 r1 => by
    obtain ⟨b, rfl, hb⟩ := unB_of h1
    exact ⟨b, rp_bl.mp r1, q b H1 t1 x1 k1 hb⟩⟩
def AT.b (a : AE K) : AT K := ⟨tB a.te, fun e t k => a.wp e t fun d t1 => unB d fun b => k b t1, fun {m B0 B e σ H t k} r h Q q =>
  a.ok r h _ fun v d H1 t1 x1 k1 h1 r1 => by
    obtain ⟨b, rfl, hb⟩ := unB_of h1
    exact ⟨b, rp_bl.mp r1, q b H1 t1 x1 k1 hb⟩⟩
def AT.not (a : AT K) : AT K := ⟨tNot a.tt, fun e t k => a.wp e t fun b t1 => k (!b) t1, fun {m B0 B e σ H t k} r h Q q =>
  a.ok r h _ fun b H1 t1 x1 k1 h1 => q _ H1 t1 x1 k1 h1⟩
def AT.and (a b : AT K) : AT K := ⟨tAnd a.tt b.tt, fun e t k => a.wp e t fun c t1 => if c = true then b.wp e t1 k else k false t1, fun {m B0 B e σ H t k} r h Q q =>
  a.ok r h _ fun c H1 t1 x1 k1 h1 => by
    cases c with
    | true =>
      rw [if_pos rfl] at h1 ⊢
      exact b.ok (r.up x1 k1) h1 _ fun c H2 t2 x2 k2 h2 => q c H2 t2 (x1.trans x2) k2 h2
    | false =>
      rw [if_neg (by decide)] at h1 ⊢
      exact q _ H1 t1 x1 k1 h1⟩
def AT.or (a b : AT K) : AT K := ⟨tOr a.tt b.tt, fun e t k => a.wp e t fun c t1 => if c = true then k true t1 else b.wp e t1 k, fun {m B0 B e σ H t k} r h Q q =>
  a.ok r h _ fun c H1 t1 x1 k1 h1 => by
    cases c with
    | true =>
      rw [if_pos rfl] at h1 ⊢
      exact q _ H1 t1 x1 k1 h1
    | false =>
      rw [if_neg (by decide)] at h1 ⊢
      exact b.ok (r.up x1 k1) h1 _ fun c H2 t2 x2 k2 h2 => q c H2 t2 (x1.trans x2) k2 h2⟩
def AT.yes (K : PySem.W.Frag) : AT K := ⟨tYes, fun _ t k => k true t, fun {m B0 B e σ H t k} r h Q q => q _ H t (Xt.refl (m.al r.ok)) r.ok h⟩
def AE.ifx (c : AT K) (a b : AE K) : AE K := ⟨tIf c.tt a.te b.te, fun e t k => c.wp e t fun z t1 => if z = true then a.wp e t1 k else b.wp e t1 k, fun {m B0 B e σ H t k} r h Q q =>
  c.ok r h _ fun z H1 t1 x1 k1 h1 => by
    cases z with
    | true =>
      rw [if_pos rfl] at h1 ⊢
      exact a.ok (r.up x1 k1) h1 _ fun v d H2 t2 x2 k2 h2 r2 => q v d H2 t2 (x1.trans x2) k2 h2 r2
    | false =>
      rw [if_neg (by decide)] at h1 ⊢
      exact b.ok (r.up x1 k1) h1 _ fun v d H2 t2 x2 k2 h2 r2 => q v d H2 t2 (x1.trans x2) k2 h2 r2⟩
def AE.and (a b : AE K) : AE K := ⟨tAndV a.te b.te, fun e t k => a.wp e t fun d t1 => unB d fun c => if c = true then b.wp e t1 k else k (.bool false) t1, fun {m B0 B e σ H t k} r h Q q =>
  a.ok r h _ fun v d H1 t1 x1 k1 h1 r1 => by
    obtain ⟨c, rfl, h3⟩ := unB_of h1
    clear h1
    refine ⟨c, rp_bl.mp r1, ?_⟩
    cases c with
    | true =>
      rw [if_pos rfl] at h3 ⊢
      exact b.ok (r.up x1 k1) h3 _ fun v d H2 t2 x2 k2 h2 r2 => q v d H2 t2 (x1.trans x2) k2 h2 r2
    | false =>
      rw [if_neg (by decide)] at h3 ⊢
      exact q _ _ H1 t1 x1 k1 h3 (rp_bl.mpr rfl)⟩
def AE.or (a b : AE K) : AE K := ⟨tOrV a.te b.te, fun e t k => a.wp e t fun d t1 => unB d fun c => if c = true then k (.bool true) t1 else b.wp e t1 k, fun {m B0 B e σ H t k} r h Q q =>
  a.ok r h _ fun v d H1 t1 x1 k1 h1 r1 => by
    obtain ⟨c, rfl, h3⟩ := unB_of h1
    clear h1
    refine ⟨c, rp_bl.mp r1, ?_⟩
    cases c with
    | true =>
      rw [if_pos rfl] at h3 ⊢
      exact q _ _ H1 t1 x1 k1 h3 (rp_bl.mpr rfl)
    | false =>
      rw [if_neg (by decide)] at h3 ⊢
      exact b.ok (r.up x1 k1) h3 _ fun v d H2 t2 x2 k2 h2 r2 => q v d H2 t2 (x1.trans x2) k2 h2 r2⟩
def AE.not (a : AE K) : AE K := ⟨tNotV a.te, fun e t k => a.wp e t fun d t1 => unB d fun c => k (.bool (!c)) t1, fun {m B0 B e σ H t k} r h Q q =>
  a.ok r h _ fun v d H1 t1 x1 k1 h1 r1 => by
    obtain ⟨c, rfl, h3⟩ := unB_of h1
    clear h1
    exact ⟨c, rp_bl.mp r1, q _ _ H1 t1 x1 k1 h3 (rp_bl.mpr rfl)⟩⟩
def AO.none (K : PySem.W.Frag) : AO K := ⟨tNoPart, fun _ t k => k .none t, fun {m B0 B e σ H t k} r h Q q => q _ H t (Xt.refl (m.al r.ok)) r.ok h⟩
def unI : PyData → (Int → Prop) → Prop
  | .int i, k => k i
  | _, _ => False
theorem unI_of {d : PyData} {k : Int → Prop} (h : unI d k) : ∃ b, d = .int b ∧ k b := by
  cases d with
  | int b => exact ⟨b, rfl, h⟩
  | _ => exact h.elim
def AO.some (a : AE K) : AO K := ⟨tPart a.te, fun e t k => a.wp e t fun d t1 => unI d fun i => k (.some i) t1, fun {m B0 B e σ H t k} r h Q q =>
  a.ok r h _ fun v d H1 t1 x1 k1 h1 r1 => by
    obtain ⟨c, rfl, h1⟩ := unI_of h1
    exact ⟨c, rp_int.mp r1, q _ H1 t1 x1 k1 h1⟩⟩
end
end CG

/-! Part 13: walks, targets, comprehensions, lists of one's own. -/
namespace CG
open PySem PySem.Spec PyProof.Rows L2
/-- the walk J goes over ds as long as what stands in H2 but for B stands -/
structure Sq (K : PySem.W.Frag) (J : It) (B : Addr → Prop) (H2 : Hp) (ds : List PyData) : Prop where
  go : ∀ i H' B', i < ds.length → Gw B B' H2 → Xt B' H2 H' → J.go i H'
  st : ∀ H' B', Gw B B' H2 → Xt B' H2 H' → J.stop ds.length H'
  yl : ∀ (i : Nat) d x H' H3 B', ds[i]? = some d → Gw B B' H2 → Xt B' H2 H' → J.yld i H' x H3 → Same H' H3 ∧ Rp K B' H3 d x
structure AI (K : PySem.W.Frag) where
  ti : TI
  wp : En → Int → (List PyData → Int → Prop) → Prop
  ok : ∀ {m : Dck} {B0 B : Addr → Prop} {e : En} {σ : L2.St} {H : Hp} {t : Int} {k : List PyData → Int → Prop}, Rep K m B0 B e σ H t → wp e t k → ∀ R : It → Hp → Prop,
    (∀ J ds H2 t', Xt m.pl H H2 → m.ok H2 t' → k ds t' → Sq K J B H2 ds → R J H2) → ti σ H R
def unT : PyData → (List PyData → Prop) → Prop
  | .tuple ds, k => k ds
  | _, _ => False
def unL : PyData → (List PyData → Prop) → Prop
  | .list ds, k => k ds
  | _, _ => False
theorem unT_of {d : PyData} {k : List PyData → Prop} (h : unT d k) : ∃ b, d = .tuple b ∧ k b := by
  cases d with
  | tuple b => exact ⟨b, rfl, h⟩
  | _ => exact h.elim
theorem unL_of {d : PyData} {k : List PyData → Prop} (h : unL d k) : ∃ b, d = .list b ∧ k b := by
  cases d with
  | list b => exact ⟨b, rfl, h⟩
  | _ => exact h.elim
section
variable {K : PySem.W.Frag} {B B' : Addr → Prop} {H H' : Hp} {a : Addr} {xs : List V} {ds : List PyData}
theorem sqT_on (na : ¬ B a ∨ KT K a xs) (s : SqT K H a xs) (g : Gw B B' H) (x : Xt B' H H') : SqT K H' a xs := by
  rcases na with na | na
  · rcases sqT_alive s with z | z
    · exact .inr z
    · exact x.sqT (fun w => (g.fr a w).elim na z) s
  · exact .inr na
theorem sqL_on (na : ¬ B a) (s : H a = some (.lst xs)) (g : Gw B B' H) (x : Xt B' H H') : H' a = some (.lst xs) :=
  x.kp _ _ (fun w => (g.fr a w).elim na fun z => by rw [s] at z; cases z) s
theorem sq_tup (na : ¬ B a ∨ KT K a xs) (s : SqT K H a xs) (t : RpA K B H ds xs) : Sq K (Itt K a) B H ds := by
  refine ⟨fun i H' B' hi g x => ?_, fun H' B' g x => ⟨xs, sqT_on na s g x, by rw [t.length]; exact Nat.le_refl _⟩, fun i d y H' H3 B' hd g x z => ?_⟩
  · obtain ⟨y, hy, _⟩ := t.get (i := i) (d := ds[i]) (List.getElem?_eq_getElem hi)
    exact ⟨xs, y, sqT_on na s g x, hy⟩
  · obtain ⟨rfl, z⟩ := z
    obtain ⟨y', hy, ry⟩ := t.get hd
    have e := z xs (sqT_on na s g x)
    rw [hy] at e
    cases e
    exact ⟨Same.refl _, (Rp.grow g _ _ ry).up x⟩
theorem sq_lst (na : ¬ B a) (s : H a = some (.lst xs)) (t : RpA K B H ds xs) : Sq K (Itl K a) B H ds := by
  refine ⟨fun i H' B' hi g x => ?_, fun H' B' g x => ⟨xs, SqL.of (sqL_on na s g x), by rw [t.length]; exact Nat.le_refl _⟩, fun i d y H' H3 B' hd g x z => ?_⟩
  · obtain ⟨y, hy, _⟩ := t.get (i := i) (d := ds[i]) (List.getElem?_eq_getElem hi)
    exact ⟨xs, y, SqL.of (sqL_on na s g x), hy⟩
  · obtain ⟨rfl, z⟩ := z
    obtain ⟨y', hy, ry⟩ := t.get hd
    have e := z xs (SqL.of (sqL_on na s g x))
    rw [hy] at e
    cases e
    exact ⟨Same.refl _, (Rp.grow g _ _ ry).up x⟩
/-- enumerate(..) of data -/
def enumD (ds : List PyData) : List PyData := (List.range ds.length).map fun i : Nat => .tuple [.int (i : Int), ds.getD i .none]
theorem enumD_length : (enumD ds).length = ds.length := by unfold enumD; rw [List.length_map, List.length_range]
theorem enumD_get {i : Nat} {d : PyData} (h : (enumD ds)[i]? = some d) : ∃ y, ds[i]? = some y ∧ d = .tuple [.int i, y] := by
  unfold enumD at h
  rw [List.getElem?_map] at h
  by_cases hi : i < ds.length
  · rw [List.getElem?_range hi] at h
    simp only [Option.map_some, Option.some.injEq] at h
    refine ⟨ds[i], List.getElem?_eq_getElem hi, ?_⟩
    rw [← h, List.getD_eq_getElem?_getD, List.getElem?_eq_getElem hi]
    rfl
  · rw [List.getElem?_eq_none (by rw [List.length_range]; omega)] at h
    cases h
theorem sq_enumT (na : ¬ B a ∨ KT K a xs) (s : SqT K H a xs) (t : RpA K B H ds xs) : Sq K (IteT K a) B H (enumD ds) := by
  refine ⟨fun i H' B' hi g x => ?_, fun H' B' g x => ⟨xs, sqT_on na s g x, by rw [enumD_length]; exact t.length.symm⟩, fun i d y H' H3 B' hd g x z => ?_⟩
  · rw [enumD_length] at hi
    obtain ⟨y, hy, _⟩ := t.get (i := i) (d := ds[i]) (List.getElem?_eq_getElem hi)
    exact ⟨xs, y, sqT_on na s g x, hy⟩
  · obtain ⟨T, x', rfl, nT, rfl, z⟩ := z
    obtain ⟨w, hw, rfl⟩ := enumD_get hd
    obtain ⟨y', hy, ry⟩ := t.get hw
    have e := z xs (sqT_on na s g x)
    rw [hy] at e
    cases e
    have s2 : Same H' (upd H' T (.tup [.int i, x'])) := same_new nT
    exact ⟨s2, rp_tup.mpr ⟨T, _, rfl, .inl (x.al.new nT), SqT.of upd_same, .cons (rp_int.mpr rfl) (.cons (((Rp.grow g _ _ ry).up x).up (Xt.of x.al s2)) .nil)⟩⟩
theorem sq_rng {lo : Int} {n : Nat} : Sq K (Itr lo n) B H ((List.range n).map fun i : Nat => .int (lo + (i : Int))) := by
  refine ⟨fun i H' B' hi g x => ?_, fun H' B' g x => ?_, fun i d y H' H3 B' hd g x z => ?_⟩
  · rw [List.length_map, List.length_range] at hi
    exact hi
  · show n ≤ _
    rw [List.length_map, List.length_range]
    exact Nat.le_refl _
  · obtain ⟨rfl, rfl⟩ := z
    rw [List.getElem?_map] at hd
    cases q : (List.range n)[i]? with
    | none => rw [q] at hd; cases hd
    | some j =>
      rw [q] at hd
      obtain ⟨hi, e⟩ := List.getElem?_eq_some_iff.mp q
      rw [List.getElem_range] at e
      subst e
      cases hd
      exact ⟨Same.refl _, rp_int.mpr rfl⟩
end
section
variable {K : PySem.W.Frag}
def AI.tup (a : AE K) : AI K := ⟨iTup K a.te, fun e t k => a.wp e t fun d t1 => unT d fun ds => k ds t1, fun {m B0 B e σ H t k} r h R q =>
  a.ok r h _ fun v d H1 t1 x1 k1 h1 r1 => by
    obtain ⟨ds, rfl, hk⟩ := unT_of h1
    obtain ⟨a, xs, rfl, na, s, t⟩ := rp_tup.mp r1
    exact ⟨a, rfl, ⟨_, s⟩, q _ ds H1 t1 x1 k1 hk (sq_tup na s t)⟩⟩
def AI.lst (a : AE K) : AI K := ⟨iList K a.te, fun e t k => a.wp e t fun d t1 => unL d fun ds => k ds t1, fun {m B0 B e σ H t k} r h R q =>
  a.ok r h _ fun v d H1 t1 x1 k1 h1 r1 => by
    obtain ⟨ds, rfl, hk⟩ := unL_of h1
    obtain ⟨a, xs, rfl, na, s, t⟩ := rp_lst.mp r1
    exact ⟨a, rfl, ⟨_, SqL.of s⟩, q _ ds H1 t1 x1 k1 hk (sq_lst na s t)⟩⟩
def rngD (lo hi : Int) : List PyData := (List.range (hi - lo).toNat).map fun i : Nat => .int (lo + (i : Int))
def unI1 : List PyData → (Int → Prop) → Prop
  | [.int i], k => k i
  | _, _ => False
theorem unI1_of {ds : List PyData} {k : Int → Prop} (h : unI1 ds k) : ∃ i, ds = [.int i] ∧ k i := by
  unfold unI1 at h
  split at h
  · exact ⟨_, rfl, h⟩
  · exact h.elim
def unI2 : List PyData → (Int → Int → Prop) → Prop
  | [.int i, .int j], k => k i j
  | _, _ => False
theorem unI2_of {ds : List PyData} {k : Int → Int → Prop} (h : unI2 ds k) : ∃ i j, ds = [.int i, .int j] ∧ k i j := by
  unfold unI2 at h
  split at h
  · exact ⟨_, _, rfl, h⟩
  · exact h.elim
def AI.rng (a : AA K) : AI K := ⟨iRng1 a.ta, fun e t k => a.wp e t fun ds t1 => unI1 ds fun n => (-(2 ^ 62) ≤ n ∧ n < 2 ^ 62) ∧ k (rngD 0 n) t1, fun {m B0 B e σ H t k} r h R q =>
  a.ok r h _ fun vs ds H1 t1 x1 k1 h1 r1 => by
    obtain ⟨n, rfl, hb, hk⟩ := unI1_of h1
    obtain rfl : vs = [.int n] := RpA.ints_inv (ns := [n]) r1
    refine ⟨n, rfl, hb.1, hb.2, q _ _ H1 t1 x1 k1 hk ?_⟩
    unfold rngD
    rw [Int.sub_zero]
    exact sq_rng⟩
def AI.rng2 (a : AA K) : AI K := ⟨iRng2 a.ta, fun e t k => a.wp e t fun ds t1 => unI2 ds fun i j => (-(2 ^ 62) ≤ i ∧ i < 2 ^ 62 ∧ -(2 ^ 62) ≤ j ∧ j < 2 ^ 62) ∧ k (rngD i j) t1, fun {m B0 B e σ H t k} r h R q =>
  a.ok r h _ fun vs ds H1 t1 x1 k1 h1 r1 => by
    obtain ⟨i, j, rfl, hb, hk⟩ := unI2_of h1
    obtain rfl : vs = [.int i, .int j] := RpA.ints_inv (ns := [i, j]) r1
    exact ⟨i, j, rfl, hb, q _ _ H1 t1 x1 k1 hk sq_rng⟩⟩
def unT1 : List PyData → (List PyData → Prop) → Prop
  | [.tuple ds], k => k ds
  | _, _ => False
theorem unT1_of {ds : List PyData} {k : List PyData → Prop} (h : unT1 ds k) : ∃ i, ds = [.tuple i] ∧ k i := by
  unfold unT1 at h
  split at h
  · exact ⟨_, rfl, h⟩
  · exact h.elim
def AI.enum (a : AA K) : AI K := ⟨iEnumT K a.ta, fun e t k => a.wp e t fun ds t1 => unT1 ds fun es => k (enumD es) t1, fun {m B0 B e σ H t k} r h R q =>
  a.ok r h _ fun vs ds H1 t1 x1 k1 h1 r1 => by
    obtain ⟨es, rfl, hk⟩ := unT1_of h1
    obtain ⟨v, w, rfl, rv, rw⟩ := rpa_cons.mp r1
    obtain rfl := rpa_nil.mp rw
    obtain ⟨a, xs, rfl, na, s, t⟩ := rp_tup.mp rv
    exact ⟨a, xs, rfl, s, q _ _ H1 t1 x1 k1 hk (sq_enumT na s t)⟩⟩
theorem sq_revT {B : Addr → Prop} {H : Hp} {a : Addr} {xs : List V} {ds : List PyData} (na : ¬ B a ∨ KT K a xs) (s : SqT K H a xs) (t : RpA K B H ds xs) : Sq K (RT.ItvT K a xs.length) B H ds.reverse := by
  have tl := t.length
  have tr := RpA.rev t
  refine ⟨fun i H' B' hi g x => ?_, fun H' B' g x => ?_, fun i d y H' H3 B' hd g x z => ?_⟩
  · rw [List.length_reverse] at hi
    refine ⟨by omega, xs, xs[xs.length - 1 - i], sqT_on na s g x, List.getElem?_eq_getElem (by omega)⟩
  · show xs.length ≤ _
    rw [List.length_reverse, tl]
    exact Nat.le_refl _
  · obtain ⟨rfl, z⟩ := z
    obtain ⟨y', hy, ry⟩ := tr.get hd
    have e := z xs (sqT_on na s g x)
    have hi : i < xs.length := by
      have := (List.getElem?_eq_some_iff.mp hy).1
      rwa [List.length_reverse] at this
    rw [List.getElem?_reverse hi, e] at hy
    cases hy
    exact ⟨Same.refl _, (Rp.grow g _ _ ry).up x⟩
def AI.rev (a : AE K) : AI K := ⟨RT.iRevA K a.te, fun e t k => a.wp e t fun d t1 => unT d fun ds => k ds.reverse t1, fun {m B0 B e σ H t k} r h R q =>
  a.ok r h _ fun v d H1 t1 x1 k1 h1 r1 => by
    obtain ⟨ds, rfl, hk⟩ := unT_of h1
    obtain ⟨a, xs, rfl, na, s, t⟩ := rp_tup.mp r1
    exact ⟨a, xs, rfl, .inr ⟨s, q _ _ H1 t1 x1 k1 hk (sq_revT na s t)⟩⟩⟩
/-! ### targets -/
structure AG (K : PySem.W.Frag) where
  tg : TG
  sl : List Nat
  wp : PyData → En → (En → Prop) → Prop
  ok : ∀ {m : Dck} {B0 B : Addr → Prop} {e : En} {σ : L2.St} {H : Hp} {t : Int} {k : En → Prop} {d : PyData} {v : V}, Rep K m B0 B e σ H t → Rp K B H d v → wp d e k → ∀ Q : L2.St → Hp → Prop,
    (∀ e' σ', k e' → Rep K m B0 B e' σ' H t → σ'.length = σ.length → (∀ j : Nat, j ∉ sl → σ'[j]? = σ[j]?) → Q σ' H) → tg v σ H Q
structure AGs (K : PySem.W.Frag) where
  tg : TGs
  n : Nat
  sl : List Nat
  wp : List PyData → En → (En → Prop) → Prop
  ok : ∀ {m : Dck} {B0 B : Addr → Prop} {e : En} {σ : L2.St} {H : Hp} {t : Int} {k : En → Prop} {ds : List PyData} {vs : List V}, Rep K m B0 B e σ H t → RpA K B H ds vs → wp ds e k → ds.length = n ∧ ∀ Q : L2.St → Hp → Prop,
    (∀ e' σ', k e' → Rep K m B0 B e' σ' H t → σ'.length = σ.length → (∀ j : Nat, j ∉ sl → σ'[j]? = σ[j]?) → Q σ' H) → tg vs σ H Q
def AG.name (K : PySem.W.Frag) (i : Nat) : AG K := ⟨gName i, [i], fun d e k => k (e.set i (.dat d)), fun {m B0 B e σ H t k d v} r rv h Q q =>
  q _ _ h (r.set rv) (List.length_set) fun j hj => List.getElem?_set_ne (fun z => hj (by rw [z]; simp))⟩
def AGs.nil (K : PySem.W.Frag) : AGs K := ⟨gNil, 0, [], fun ds e k => ds = [] ∧ k e, fun {m B0 B e σ H t k ds vs} r rv h => ⟨by rw [h.1]; rfl, fun Q q => by
  obtain ⟨rfl, hk⟩ := h
  exact ⟨rpa_nil.mp rv, q _ _ hk r rfl fun _ _ => rfl⟩⟩⟩
def hdW : List PyData → (PyData → List PyData → Prop) → Prop
  | d :: ds, k => k d ds
  | [], _ => False
def AGs.cons (i : Nat) (g : AGs K) : AGs K := ⟨gCons (gName i) g.tg, g.n + 1, i :: g.sl, fun ds e k => hdW ds fun d ds => g.wp ds (e.set i (.dat d)) k, fun {m B0 B e σ H t k ds vs} r rv h => by
  match ds, rv, h with
  | d :: ds, rv, h =>
    obtain ⟨v, ws, rfl, h1, h2⟩ := rpa_cons.mp rv
    obtain ⟨hn, hq⟩ := g.ok (r.set (i := i) h1) h2 h
    refine ⟨by rw [List.length_cons, hn], fun Q q => ⟨v, ws, rfl, hq Q fun e' σ' hk r' hl hj => ?_⟩⟩
    refine q e' σ' hk r' (by rw [hl, List.length_set]) fun j hn => ?_
    rw [hj j (fun z => hn (List.mem_cons_of_mem _ z)), List.getElem?_set_ne (fun z => hn (by rw [z]; simp))]⟩
def AG.tup (g : AGs K) : AG K := ⟨gTup K g.n g.tg, g.sl, fun d e k => unT d fun ds => g.wp ds e k, fun {m B0 B e σ H t k d v} r rv h Q q => by
  obtain ⟨ds, rfl, h⟩ := unT_of h
  obtain ⟨a, xs, rfl, na, s, t⟩ := rp_tup.mp rv
  obtain ⟨hn, hq⟩ := g.ok r t h
  exact ⟨a, xs, rfl, s, by rw [← t.length, hn], hq Q q⟩⟩
/-! ### slots that a comprehension hides -/
def wipeE (e : En) : List Nat → En
  | [] => e
  | v :: vs => (wipeE e vs).set v .un
theorem Rep.wipe {m : Dck} {B0 B : Addr → Prop} {e : En} {σ : L2.St} {H : Hp} {t : Int} (r : Rep K m B0 B e σ H t) : ∀ vs : List Nat, Rep K m B0 B (wipeE e vs) (L2.wipe σ vs) H t
  | [] => r
  | v :: vs => by
    unfold wipeE L2.wipe
    exact (Rep.wipe r vs).drop
theorem wipe_eq {σ σ' : L2.St} : ∀ {vs : List Nat}, σ'.length = σ.length → (∀ j : Nat, j ∉ vs → σ'[j]? = σ[j]?) → L2.wipe σ' vs = L2.wipe σ vs := by
  have key : ∀ (vs : List Nat) (τ : L2.St) (j : Nat), (L2.wipe τ vs)[j]? = if j ∈ vs ∧ j < τ.length then some none else τ[j]? := by
    intro vs
    induction vs with
    | nil => intro τ j; simp [L2.wipe]
    | cons v vs ih =>
      intro τ j
      unfold L2.wipe
      by_cases e : v = j
      · subst e
        by_cases hl : v < τ.length
        · rw [List.getElem?_set_self (by rw [wipe_length]; exact hl), if_pos ⟨by simp, hl⟩]
        · rw [List.getElem?_eq_none (by rw [List.length_set, wipe_length]; omega), if_neg (fun z => hl z.2), List.getElem?_eq_none (by omega)]
      · rw [List.getElem?_set_ne e, ih]
        have : (j ∈ v :: vs) ↔ j ∈ vs := by simp [Ne.symm e]
        simp only [this]
  intro vs hl h
  apply List.ext_getElem?
  intro j
  rw [key, key, hl]
  by_cases hj : j ∈ vs
  · by_cases hlt : j < σ.length
    · rw [if_pos ⟨hj, hlt⟩, if_pos ⟨hj, hlt⟩]
    · rw [if_neg (fun z => hlt z.2), if_neg (fun z => hlt z.2), List.getElem?_eq_none (by omega), List.getElem?_eq_none (by omega)]
  · rw [if_neg (fun z => hj z.1), if_neg (fun z => hj z.1), h j hj]
theorem wipe_off {σ : L2.St} : ∀ {vs : List Nat} {j : Nat}, j ∉ vs → (L2.wipe σ vs)[j]? = σ[j]?
  | [], j, _ => rfl
  | v :: vs, j, h => by
    unfold L2.wipe
    rw [List.getElem?_set_ne (fun z => h (by rw [z]; simp)), wipe_off (fun z => h (List.mem_cons_of_mem _ z))]
/-! ### lists that are new -/
structure AF (K : PySem.W.Frag) where
  te : TE
  wp : En → Int → (List PyData → Int → Prop) → Prop
  ok : ∀ {m : Dck} {B0 B : Addr → Prop} {e : En} {σ : L2.St} {H : Hp} {t : Int} {k : List PyData → Int → Prop}, Rep K m B0 B e σ H t → wp e t k → ∀ Q : VK,
    (∀ L ds vs H2 t', H L = none → Xt m.pl H H2 → m.ok H2 t' → k ds t' → H2 L = some (.lst vs) → RpA K (Bp B L) H2 ds vs → Q (.ref L) H2) → te σ H Q
def AF.ae (a : AF K) : AE K := ⟨a.te, fun e t k => a.wp e t fun ds t1 => k (.list ds) t1, fun {m B0 B e σ H t k} r h Q q =>
  a.ok r h Q fun L ds vs H2 t' nL x k2 hk hL ra => q _ _ H2 t' x k2 hk (rp_lst.mpr ⟨L, vs, rfl, r.al.new nL, hL, RpA.less bp_up _ _ ra⟩)⟩
theorem none_back {m : Dck} {H H1 : Hp} {t : Int} {L : Addr} (k : m.ok H t) (x : Xt m.pl H H1) (n : H1 L = none) : H L = none := by
  cases q : H L with
  | none => rfl
  | some o =>
    by_cases z : m.pl L
    · exact absurd n (x.al L z)
    · rw [x.kp L o z q] at n
      cases n
def AF.lst (a : AA K) : AF K := ⟨tLst a.ta, fun e t k => a.wp e t fun ds t1 => ds.length ≤ 100000 ∧ k ds t1, fun {m B0 B e σ H t k} r h Q q =>
  a.ok r h _ fun vs ds H1 t1 x1 k1 h1 r1 => ⟨by rw [← r1.length]; exact Nat.le_trans h1.1 (by decide), fun p np => by
    have s := same_new (o := .lst vs) np
    have r2 := (r.up x1 k1)
    exact q p ds vs _ t1 (none_back r.ok x1 np) (x1.trans (m.xs k1 s)) (m.same k1 s) h1.2 upd_same ((RpA.grow (gw_new np) _ _ r1).up ⟨fun a o _ e => s a o e, al_new r2.al⟩)⟩⟩
/-- [a for g in it if c] -/
def AF.lc (it : AI K) (g : AG K) (c : AT K) (a : AE K) (vs : List Nat) (hs : ∀ j ∈ g.sl, j ∈ vs) : AF K :=
  ⟨tLc it.ti g.tg c.tt a.te vs, fun e t k => it.wp e t fun ds t1 => ds.length ≤ 1000000 ∧ ∃ I : Nat → List PyData → Int → Prop, I 0 [] t1 ∧
    (∀ (i : Nat) d acc t', ds[i]? = some d → I i acc t' → g.wp d (wipeE e vs) fun e2 => c.wp e2 t' fun b t3 => if b = true then a.wp e2 t3 fun x t4 => I (i + 1) (acc ++ [x]) t4 else I (i + 1) acc t3) ∧
    ∀ acc t', I ds.length acc t' → k acc t', fun {m B0 B e σ H t k} r h Q q => by
  refine it.ok r h _ fun J ds H1 t1 x1 k1 h1 sq => ?_
  obtain ⟨hl, I, i0, is, ie⟩ := h1
  intro L nL
  have r1 := r.up x1 k1
  have nB : ¬ B L := r1.al.new nL
  have nP : ¬ m.pl L := fun z => nB (r.pb L z)
  have gw : Gw B (Bp B L) H1 := gw_new nL
  refine ⟨fun i mm H' => mm = ds.length - i ∧ i ≤ ds.length ∧ ∃ acc ws t', I i acc t' ∧ Xt m.pl H1 H' ∧ m.ok H' t' ∧ H' L = some (.lst ws) ∧ RpA K (Bp B L) H' acc ws ∧ acc.length ≤ i, ⟨ds.length, by simp, Nat.zero_le _, [], [], t1, i0, m.xs k1 (same_new nL), m.same k1 (same_new nL), upd_same, RpA.nil, Nat.le_refl _⟩, ?_⟩
  rintro i mm H' ⟨rfl, hi, acc, ws, t', hI, x', k', hL, ra, hal⟩
  have rep := r1.under nL x' k' (by rw [hL]; simp)
  have xw : Xt (Bp B L) H1 H' := ⟨fun a u nb e => x'.kp a u (fun z => nb (.inl (r.pb a z))) e, rep.al⟩
  by_cases hlt : i < ds.length
  · refine .inr ⟨sq.go i H' _ hlt gw xw, fun H'' => ∃ acc ws t', I (i + 1) acc t' ∧ Xt m.pl H1 H'' ∧ m.ok H'' t' ∧ H'' L = some (.lst ws) ∧ RpA K (Bp B L) H'' acc ws ∧ acc.length ≤ i + 1, fun H'' p => ⟨ds.length - (i + 1), by omega, rfl, hlt, p⟩, fun x H3 y => ?_⟩
    obtain ⟨s3, rx⟩ := sq.yl i ds[i] x H' H3 _ (List.getElem?_eq_getElem hlt) gw xw y
    have rep3 := rep.same s3
    refine g.ok (rep3.wipe vs) rx (is i ds[i] acc t' (List.getElem?_eq_getElem hlt) hI) _ fun e2 σ2 hk2 rep4 hln hof => ⟨?_, ?_⟩
    · have e1 : L2.wipe σ2 vs = L2.wipe (L2.wipe σ vs) vs := wipe_eq hln fun j hj => hof j fun z => hj (hs j z)
      rw [e1]
      exact wipe_eq (wipe_length _ _) fun j hj => wipe_off hj
    · refine c.ok rep4 hk2 _ fun b H5 t5 x5 k5 h5 => ?_
      have rep5 := rep4.up x5 k5
      have x15 : Xt m.pl H1 H5 := (x'.trans (m.xs rep.ok s3)).trans x5
      have hL5 : H5 L = some (.lst ws) := x5.kp _ _ nP (s3 _ _ hL)
      have ra5 := (ra.up (Xt.of rep.al s3)).up (rep3.wd x5)
      cases b with
      | true =>
        rw [if_pos rfl] at h5 ⊢
        refine a.ok rep5 h5 _ fun z d H6 t6 x6 k6 h6 r6 => ?_
        have hL6 : H6 L = some (.lst ws) := x6.kp _ _ nP hL5
        have al6 := (rep5.up x6 k6).al
        have y6 : Xt (Bp B L) H6 (upd H6 L (.lst (ws ++ [z]))) := xt_put al6
        refine ⟨ws, hL6, ?_, acc ++ [d], ws ++ [z], t6, h6, ⟨fun b o nb e => ?_, fun b hb => ?_⟩, m.stay k6 fun b o hb e => ?_, upd_same, ?_, by rw [List.length_append]; show acc.length + 1 ≤ _; omega⟩
        · rw [← ra.length]
          exact Nat.lt_of_lt_of_le (show acc.length < 1000001 by omega) (by decide)
        · rw [upd_ne (ne_of_none e nL)]
          exact x6.kp b o nb (x15.kp b o nb e)
        · rw [upd_ne (fun w : b = L => nP (w ▸ hb))]
          exact x6.al b hb
        · rw [upd_ne (fun w : b = L => nP (w ▸ hb))]
          exact e
        · exact RpA.append ((ra5.up (rep5.wd x6)).up y6) (.cons (r6.up y6) .nil)
      | false =>
        rw [if_neg (by decide)] at h5 ⊢
        exact ⟨acc, ws, t5, h5, x15, k5, hL5, ra5, by omega⟩
  · have e1 : i = ds.length := by omega
    subst e1
    exact .inl ⟨sq.st H' _ gw xw, q L acc ws H' t' (none_back r.ok x1 nL) (x1.trans x') k' (ie acc t' hI) hL ra⟩⟩
/-- list(x) -/
def unS1 : List PyData → (List PyData → Prop) → Prop
  | [.tuple ds], k => k ds
  | [.list ds], k => k ds
  | _, _ => False
def AF.list (a : AA K) : AF K := ⟨tCB (rLstU K) a.ta, fun e t k => a.wp e t fun ds t1 => unS1 ds fun es => k es t1, fun {m B0 B e σ H t k} r h Q q =>
  a.ok r h _ fun vs ds H1 t1 x1 k1 h1 r1 => by
    have r2 := (r.up x1 k1)
    have fin : ∀ (p : Addr) (es : List PyData) (ws : List V), H1 p = none → RpA K B H1 es ws → k es t1 → Q (.ref p) (upd H1 p (.lst ws)) := fun p es ws np re hk => by
      have s := same_new (o := .lst ws) np
      exact q p es ws _ t1 (none_back r.ok x1 np) (x1.trans (m.xs k1 s)) (m.same k1 s) hk upd_same ((RpA.grow (gw_new np) _ _ re).up ⟨fun a o _ e => s a o e, al_new r2.al⟩)
    unfold unS1 at h1
    split at h1
    · obtain ⟨v, w, rfl, rv, rw⟩ := rpa_cons.mp r1
      obtain rfl := rpa_nil.mp rw
      obtain ⟨b, xs, rfl, na, s, t⟩ := rp_tup.mp rv
      exact ⟨b, xs, rfl, .inr s, fun l nl => fin l _ xs nl t h1⟩
    · obtain ⟨v, w, rfl, rv, rw⟩ := rpa_cons.mp r1
      obtain rfl := rpa_nil.mp rw
      obtain ⟨b, xs, rfl, na, s, t⟩ := rp_lst.mp rv
      exact ⟨b, xs, rfl, .inl (SqL.of s), fun l nl => fin l _ xs nl t h1⟩
    · exact h1.elim⟩
end
end CG

/-! Part 14: operations on data; statements; defs. -/
namespace CG
open PySem PySem.Spec PyProof.Rows L2
section
variable {K : PySem.W.Frag}
/-! ### operations -/
def addF : PyData → PyData → (PyData → Prop) → Prop
  | .int i, .int j, k => k (.int (i + j))
  | .tuple ds, .tuple es, k => ds.length + es.length ≤ 100000 ∧ k (.tuple (ds ++ es))
  | .list ds, .list es, k => ds.length + es.length ≤ 100000 ∧ k (.list (ds ++ es))
  | _, _, _ => False
def aAdd (K : PySem.W.Frag) : A2 K := ⟨rAddU K, addF, fun {B a b k} h => by
  unfold addF at h
  split at h
  · exact ⟨_, h, rd_add⟩
  · exact ⟨_, h.2, rd_catT h.1⟩
  · exact ⟨_, h.2, rd_catL h.1⟩
  · exact h.elim⟩
def intF (C : Int → Int → Prop) (g : Int → Int → Int) : PyData → PyData → (PyData → Prop) → Prop
  | .int i, .int j, k => C i j ∧ k (.int (g i j))
  | _, _, _ => False
def intF0 (g : Int → Int → Int) : PyData → PyData → (PyData → Prop) → Prop
  | .int i, .int j, k => k (.int (g i j))
  | _, _, _ => False
def boolF0 (g : Int → Int → Bool) : PyData → PyData → (PyData → Prop) → Prop
  | .int i, .int j, k => k (.bool (g i j))
  | _, _, _ => False
def aI (K : PySem.W.Frag) (C : Int → Int → Prop) (g : Int → Int → Int) : A2 K := ⟨rI C fun i j => .int (g i j), intF C g, fun {B a b k} h => by
  unfold intF at h
  split at h
  · exact ⟨_, h.2, rd_I h.1⟩
  · exact h.elim⟩
def aI0 (K : PySem.W.Frag) (g : Int → Int → Int) : A2 K := ⟨rI0 fun i j => .int (g i j), intF0 g, fun {B a b k} h => by
  unfold intF0 at h
  split at h
  · exact ⟨_, h, rd_I0⟩
  · exact h.elim⟩
def aB0 (K : PySem.W.Frag) (g : Int → Int → Bool) : A2 K := ⟨rI0 fun i j => .bl (g i j), boolF0 g, fun {B a b k} h => by
  unfold boolF0 at h
  split at h
  · exact ⟨_, h, rd_B0⟩
  · exact h.elim⟩
abbrev aSub (K : PySem.W.Frag) : A2 K := aI0 K fun i j => i - j
abbrev aDiv (K : PySem.W.Frag) : A2 K := aI K CDiv fun i j => i / j
abbrev aMod (K : PySem.W.Frag) : A2 K := aI K (fun _ j => 0 < j) fun i j => i % j
abbrev aPow (K : PySem.W.Frag) : A2 K := aI K CPow fun i j => i ^ j.toNat
abbrev aLt (K : PySem.W.Frag) : A2 K := aB0 K fun i j => decide (i < j)
abbrev aLe (K : PySem.W.Frag) : A2 K := aB0 K fun i j => decide (i ≤ j)
abbrev aGt (K : PySem.W.Frag) : A2 K := aB0 K fun i j => decide (j < i)
abbrev aGe (K : PySem.W.Frag) : A2 K := aB0 K fun i j => decide (j ≤ i)
def mulF : PyData → PyData → (PyData → Prop) → Prop
  | .int i, .int j, k => CMul i j ∧ k (.int (i * j))
  | .tuple ds, .int n, k => (ds ≠ [] ∧ 2 ≤ n ∧ n ≤ 1000 ∧ ds.length ≤ 1000) ∧ k (.tuple (List.replicate n.toNat ds).flatten)
  | .list ds, .int n, k => (0 ≤ n ∧ n ≤ 1000 ∧ ds.length ≤ 1000) ∧ k (.list (List.replicate n.toNat ds).flatten)
  | _, _, _ => False
def aMul (K : PySem.W.Frag) : A2 K := ⟨rMulU K, mulF, fun {B a b k} h => by
  unfold mulF at h
  split at h
  · exact ⟨_, h.2, rd_mulI h.1⟩
  · exact ⟨_, h.2, rd_repT h.1.1 h.1.2.1 h.1.2.2.1 h.1.2.2.2⟩
  · exact ⟨_, h.2, rd_repL h.1.1 h.1.2.1 h.1.2.2⟩
  · exact h.elim⟩
def Cmp (a b : PyData) : Prop := (a.hasDict = false ∧ SeqAt.shaped a = true) ∧ b.hasDict = false ∧ SeqAt.shaped b = true
def eqF : PyData → PyData → (PyData → Prop) → Prop
  | .int i, .int j, k => k (.bool (decide (i = j)))
  | .str i, .str j, k => k (.bool (decide (i = j)))
  | a, b, k => Cmp a b ∧ k (.bool (PyData.eqv a b))
def neF : PyData → PyData → (PyData → Prop) → Prop
  | .int i, .int j, k => k (.bool (!decide (i = j)))
  | .str i, .str j, k => k (.bool (!decide (i = j)))
  | a, b, k => Cmp a b ∧ k (.bool (!PyData.eqv a b))
def aEq (K : PySem.W.Frag) : A2 K := ⟨rEqU K, eqF, fun {B a b k} h => by
  unfold eqF at h
  split at h
  · exact ⟨_, h, fun H1 x y al hx hy Q q => .inl (rd_eqI H1 x y al hx hy Q q)⟩
  · exact ⟨_, h, fun H1 x y al hx hy Q q => .inl (rd_eqS H1 x y al hx hy Q q)⟩
  · exact ⟨_, h.2, rd_eqD h.1.1.1 h.1.2.1 h.1.1.2 h.1.2.2⟩⟩
def aNe (K : PySem.W.Frag) : A2 K := ⟨rNeU K, neF, fun {B a b k} h => by
  unfold neF at h
  split at h
  · exact ⟨_, h, fun H1 x y al hx hy Q q => .inl (rd_neI H1 x y al hx hy Q q)⟩
  · exact ⟨_, h, fun H1 x y al hx hy Q q => .inl (rd_neS H1 x y al hx hy Q q)⟩
  · exact ⟨_, h.2, rd_neD h.1.1.1 h.1.2.1 h.1.1.2 h.1.2.2⟩⟩
def isNF : PyData → PyData → (PyData → Prop) → Prop
  | a, .none, k => k (.bool (isNone a))
  | _, _, _ => False
def notNF : PyData → PyData → (PyData → Prop) → Prop
  | a, .none, k => k (.bool (!isNone a))
  | _, _, _ => False
def aIsN (K : PySem.W.Frag) : A2 K := ⟨rIsNU, isNF, fun {B a b k} h => by
  unfold isNF at h
  split at h
  · exact ⟨_, h, rd_isN⟩
  · exact h.elim⟩
def rNotNU : R2 := fun x y H Q => y = .non ∧ Q (.bl (!decide (x = .non))) H
theorem op_notNU {X : Cx} : OpR X (compareOp .IsNot) rNotNU := op_notN
theorem rd_notN {B : Addr → Prop} {d : PyData} : RvD K B rNotNU d .none (.bool (!isNone d)) := fun H1 x y al hx hy Q q => by
  refine ⟨rp_non.mp hy, ?_⟩
  refine (rd_isN (K := K) (B := B) (d := d) H1 x y al hx hy (fun v H' => ∀ b, v = .bl b → Q (.bl (!b)) H') fun v H2 s r b e => ?_).2 _ rfl
  obtain rfl : isNone d = b := by
    have := rp_bl.mp r
    rw [e] at this
    exact (V.bl.inj this).symm
  exact q _ H2 s (rp_bl.mpr rfl)
def aNotN (K : PySem.W.Frag) : A2 K := ⟨rNotNU, notNF, fun {B a b k} h => by
  unfold notNF at h
  split at h
  · exact ⟨_, h, rd_notN⟩
  · exact h.elim⟩
/-- a place of a list, tuple -/
def atW (ds : List PyData) (i : Int) (k : PyData → Prop) : Prop := ∃ d, atI ds i = some d ∧ k d
def ixF : PyData → PyData → (PyData → Prop) → Prop
  | .tuple ds, .int i, k => atW ds i k
  | .list ds, .int i, k => atW ds i k
  | _, _, _ => False
def aIx (K : PySem.W.Frag) : A2 K := ⟨rIx K, ixF, fun {B a b k} h => by
  unfold ixF at h
  split at h
  · obtain ⟨d, e, hk⟩ := h
    exact ⟨d, hk, rd_ixT e⟩
  · obtain ⟨d, e, hk⟩ := h
    exact ⟨d, hk, rd_ixL e⟩
  · exact h.elim⟩
def negF : PyData → (PyData → Prop) → Prop
  | .int i, k => k (.int (-i))
  | _, _ => False
def aNeg (K : PySem.W.Frag) : A1 K := ⟨rU fun i => .int (-i), negF, fun {B a k} h => by
  unfold negF at h
  split at h
  · exact ⟨_, h, ru_neg⟩
  · exact h.elim⟩
def lenF : List PyData → (PyData → Prop) → Prop
  | [.tuple ds], k => k (.int ds.length)
  | [.list ds], k => k (.int ds.length)
  | _, _ => False
def aLen (K : PySem.W.Frag) : AC K := ⟨rLenU K, lenF, fun {B as k} h => by
  unfold lenF at h
  split at h
  · exact ⟨_, h, rc_lenT⟩
  · exact ⟨_, h, rc_lenL⟩
  · exact h.elim⟩
def reprF : List PyData → (PyData → Prop) → Prop
  | [d], k => Shx d ∧ k (.str d.shown)
  | _, _ => False
def aRepr (K : PySem.W.Frag) : AC K := ⟨rRepr K, reprF, fun {B as k} h => by
  unfold reprF at h
  split at h
  · exact ⟨_, h.2, rc_reprX h.1⟩
  · exact h.elim⟩
def twoF (g : Int → Int → Int) : List PyData → (PyData → Prop) → Prop
  | [.int i, .int j], k => k (.int (g i j))
  | _, _ => False
def aMin (K : PySem.W.Frag) : AC K := ⟨rMinU, twoF fun i j => if j < i then j else i, fun {B as k} h => by
  unfold twoF at h
  split at h
  · exact ⟨_, h, rc_min⟩
  · exact h.elim⟩
def aMax (K : PySem.W.Frag) : AC K := ⟨rMaxU, twoF fun i j => if j > i then j else i, fun {B as k} h => by
  unfold twoF at h
  split at h
  · exact ⟨_, h, rc_max⟩
  · exact h.elim⟩
def intBF : List PyData → (PyData → Prop) → Prop
  | [.bool b], k => k (.int (if b then 1 else 0))
  | _, _ => False
def aInt (K : PySem.W.Frag) : AC K := ⟨rIntU, intBF, fun {B as k} h => by
  unfold intBF at h
  split at h
  · exact ⟨_, h, rc_intB⟩
  · exact h.elim⟩
def tupF : List PyData → (PyData → Prop) → Prop
  | [.tuple ds], k => k (.tuple ds)
  | [.list ds], k => k (.tuple ds)
  | _, _ => False
def aTup (K : PySem.W.Frag) : AC K := ⟨rTupU K, tupF, fun {B as k} h => by
  unfold tupF at h
  split at h
  · exact ⟨_, h, rc_tupT⟩
  · exact ⟨_, h, rc_tupL⟩
  · exact h.elim⟩
/-! slices -/
def slF : PyData → Option Int → Option Int → (PyData → Prop) → Prop
  | .tuple ds, lo, hi, k => k (.tuple (cutD ds lo hi))
  | .list ds, lo, hi, k => k (.list (cutD ds lo hi))
  | _, _, _, _ => False
def AE.sl (a : AE K) (lo hi : AO K) : AE K := ⟨tSl (rSlU K) a.te lo.tO hi.tO, fun e t k => a.wp e t fun d t1 => lo.wp e t1 fun l t2 => hi.wp e t2 fun u t3 => slF d l u fun z => k z t3, fun {m B0 B e σ H t k} r h Q q =>
  a.ok r h _ fun v d H1 t1 x1 k1 h1 r1 => lo.ok (r.up x1 k1) h1 _ fun l H2 t2 x2 k2 h2 => hi.ok ((r.up x1 k1).up x2 k2) h2 _ fun u H3 t3 x3 k3 h3 => by
    have s1 := r.up x1 k1
    have s2 := s1.up x2 k2
    have s3 := s2.up x3 k3
    have r3 := (r1.up (s1.wd x2)).up (s2.wd x3)
    have x13 := x1.trans (x2.trans x3)
    unfold slF at h3
    split at h3
    · obtain ⟨a, xs, rfl, na, s, t⟩ := rp_tup.mp r3
      refine .inr ⟨a, xs, rfl, s, fun f => ?_, fun _ p np => ?_⟩
      · rw [← t.length] at f
        rw [cutD_full f.1 f.2] at h3
        exact q _ _ H3 t3 x13 k3 h3 r3
      · exact q (.ref p) _ _ t3 (x13.trans (m.xs k3 (same_new np))) (m.same k3 (same_new np)) h3 (rp_tup.mpr ⟨p, _, rfl, .inl (s3.al.new np), SqT.of upd_same, (RpA.cut t).up (Xt.of s3.al (same_new np))⟩)
    · obtain ⟨a, xs, rfl, na, s, t⟩ := rp_lst.mp r3
      refine .inl ⟨a, xs, rfl, SqL.of s, fun p np => ?_⟩
      exact q (.ref p) _ _ t3 (x13.trans (m.xs k3 (same_new np))) (m.same k3 (same_new np)) h3 (rp_lst.mpr ⟨p, _, rfl, s3.al.new np, upd_same, (RpA.cut t).up (Xt.of s3.al (same_new np))⟩)
    · exact h3.elim⟩
/-- t[::-1] -/
def AE.revT (a : AE K) : AE K := ⟨tRevT K a.te, fun e t k => a.wp e t fun d t1 => unT d fun ds => k (.tuple ds.reverse) t1, fun {m B0 B e σ H t k} r h Q q =>
  a.ok r h _ fun v d H1 t1 x1 k1 h1 r1 => by
    obtain ⟨ds, rfl, hk⟩ := unT_of h1
    obtain ⟨a, xs, rfl, na, s, t⟩ := rp_tup.mp r1
    have al := (r.up x1 k1).al
    exact ⟨a, xs, rfl, s, fun p np => q _ _ _ t1 (x1.trans (m.xs k1 (same_new np))) (m.same k1 (same_new np)) hk (rp_tup.mpr ⟨p, _, rfl, .inl (al.new np), SqT.of upd_same, (RpA.rev t).up (Xt.of al (same_new np))⟩)⟩⟩
/-- a < b < c -/
def AE.chain (o o' : A2 K) (a b c : AE K) : AE K := ⟨tChain o.r o'.r a.te b.te c.te, fun e t k => a.wp e t fun x t1 => b.wp e t1 fun y t2 => o.f x y fun z => unB z fun u => if u = true then c.wp e t2 fun w t3 => o'.f y w fun z => unB z fun u' => k (.bool u') t3 else k (.bool false) t2, fun {m B0 B e σ H t k} r h Q q =>
  a.ok r h _ fun v x H1 t1 x1 k1 h1 r1 => b.ok (r.up x1 k1) h1 _ fun w y H2 t2 x2 k2 h2 r2 => by
    obtain ⟨z, hz, rz⟩ := o.ok (B := B) h2
    obtain ⟨u, rfl, hu⟩ := unB_of hz
    clear hz
    have s1 := r.up x1 k1
    have s2 := s1.up x2 k2
    refine rz H2 v w s2.al (r1.up (s1.wd x2)) r2 _ fun z' H3 e3 r3 => ⟨u, rp_bl.mp r3, ?_⟩
    have s3 := s2.same e3
    have x13 := x1.trans (x2.trans (m.xs k2 e3))
    cases u with
    | true =>
      rw [if_pos rfl] at hu ⊢
      refine c.ok s3 hu _ fun w' d' H4 t4 x4 k4 h4 r4 => ?_
      obtain ⟨z2, hz2, rz2⟩ := o'.ok (B := B) h4
      obtain ⟨u2, rfl, hu2⟩ := unB_of hz2
      have s4 := s3.up x4 k4
      refine rz2 H4 w w' s4.al ((r2.up (Xt.of s2.al e3)).up (s3.wd x4)) r4 Q fun z' H5 e5 r5 => ?_
      exact q z' _ H5 t4 (x13.trans (x4.trans (m.xs k4 e5))) (m.same k4 e5) hu2 r5
    | false =>
      rw [if_neg (by decide)] at hu ⊢
      exact q _ _ H3 t2 x13 s3.ok hu (rp_bl.mpr rfl)⟩
/-- isinstance(e, T) -/
def AE.isi (T : String) (f : PyData → Bool) (hf : ∀ d, kitB (tyName d) T = some (f d)) (a : AE K) : AE K := ⟨tCB (rIsi K) (tCons a.te (tCons (tC (.ty T)) tNil)), fun e t k => a.wp e t fun d t1 => k (.bool (f d)) t1, fun {m B0 B e σ H t k} r h Q q =>
  a.ok r h _ fun v d H1 t1 x1 k1 h1 r1 => ⟨v, .ty T, _, _, f d, rfl, .ty T, r1.ty, kit_ty (hf d), q _ _ H1 t1 x1 k1 h1 (rp_bl.mpr rfl)⟩⟩
/-! ### lists of one's own are looked at -/
def viewE (e : En) : En := e.map fun x => match x with
  | .own ds => .dat (.list ds)
  | x => x
theorem Rep.view {m : Dck} {B0 B : Addr → Prop} {e : En} {σ : L2.St} {H : Hp} {t : Int} (r : Rep K m B0 B e σ H t) : Rep K m m.pl m.pl (viewE e) σ H t := by
  refine ⟨m.al r.ok, fun _ h => h, fun _ h => h, r.ok, by unfold viewE; rw [List.length_map]; exact r.ln, fun i => ?_, fun i j p ds es h1 => ?_⟩
  · have s := r.sl i
    have e1 : (viewE e)[i]? = (e[i]?).map (fun x => match x with | .own ds => .dat (.list ds) | x => x) := by unfold viewE; rw [List.getElem?_map]
    rw [e1]
    revert s
    generalize e[i]? = y
    generalize σ[i]? = z
    intro h
    match y, h with
    | some (.dat d), h =>
      obtain ⟨v, rfl, r2⟩ := h
      exact ⟨v, rfl, Rp.less r.pb _ _ r2⟩
    | some (.own ds), h =>
      obtain ⟨p, vs, rfl, b, b0, np, hp, r2⟩ := h
      exact ⟨.ref p, rfl, rp_lst.mpr ⟨p, vs, rfl, np, hp, RpA.less r.pb _ _ r2⟩⟩
    | some (.deck M), h => exact h
    | some .un, _ => trivial
    | none, _ => trivial
  · exfalso
    unfold viewE at h1
    rw [List.getElem?_map] at h1
    cases q : e[i]? with
    | none => rw [q] at h1; cases h1
    | some x => rw [q] at h1; cases x <;> cases h1
def flat : PyData → Bool
  | .none => true
  | .bool _ => true
  | .int _ => true
  | .str _ => true
  | _ => false
theorem rp_flat {B B' : Addr → Prop} {H : Hp} {d : PyData} {v : V} (h : flat d = true) (r : Rp K B H d v) : Rp K B' H d v := by
  cases d with
  | none => exact rp_non.mpr (rp_non.mp r)
  | bool b => exact rp_bl.mpr (rp_bl.mp r)
  | int i => exact rp_int.mpr (rp_int.mp r)
  | str s => exact rp_str.mpr (rp_str.mp r)
  | _ => cases h
/-- a reading of flat data, lists of one's own among what is read -/
def AE.view (a : AE K) : AE K := ⟨a.te, fun e t k => a.wp (viewE e) t fun d t1 => flat d = true ∧ k d t1, fun {m B0 B e σ H t k} r h Q q =>
  a.ok r.view h _ fun v d H1 t1 x1 k1 h1 r1 => q v d H1 t1 x1 k1 h1.2 (rp_flat h1.1 r1)⟩
def AT.view (a : AT K) : AT K := ⟨a.tt, fun e t k => a.wp (viewE e) t k, fun {m B0 B e σ H t k} r h Q q => a.ok r.view h _ q⟩
def owS : Option Sl → (List PyData → Prop) → Prop
  | some (.own ds), k => k ds
  | _, _ => False
theorem Rep.own {m : Dck} {B0 B : Addr → Prop} {e : En} {σ : L2.St} {H : Hp} {t : Int} {i : Nat} {k : List PyData → Prop} (r : Rep K m B0 B e σ H t) (h : owS e[i]? k) :
    ∃ ds p vs, e[i]? = some (.own ds) ∧ σ[i]? = some (some (.ref p)) ∧ B p ∧ ¬ B0 p ∧ ¬ m.pl p ∧ H p = some (.lst vs) ∧ RpA K B H ds vs ∧ k ds := by
  have s := r.sl i
  cases q : e[i]? with
  | none => rw [q] at h; exact h.elim
  | some x =>
    rw [q] at h s
    cases x with
    | own ds =>
      obtain ⟨p, vs, e1, b, b0, np, hp, r1⟩ := s
      exact ⟨ds, p, vs, rfl, e1, b, b0, np, hp, r1, h⟩
    | un => exact h.elim
    | deck ds => exact h.elim
    | dat M => exact h.elim
/-- x[b], x a list of one's own -/
def AE.ownIx (i : Nat) (b : AE K) : AE K := ⟨tOp (rIx K) (tVar i) b.te, fun e t k => owS e[i]? fun ds => b.wp e t fun y t1 => unI y fun j => atW ds j fun d => k d t1, fun {m B0 B e σ H t k} r h Q q => by
  obtain ⟨ds, p, vs, e1, e2, _, _, np, hp, ra, h⟩ := r.own h
  refine ⟨.ref p, e2, b.ok r h _ fun w y H2 t2 x2 k2 h2 r2 => ?_⟩
  obtain ⟨j, rfl, d, ed, hk⟩ := unI_of h2
  obtain ⟨z, g, rz⟩ := at_data ed (ra.up (r.wd x2))
  exact .inl ⟨p, vs, j, z, rfl, rp_int.mp r2, SqL.of (x2.kp _ _ np hp), g, q z d H2 t2 x2 k2 hk rz⟩⟩
/-- tuple(x) -/
def AE.ownTup (K : PySem.W.Frag) (i : Nat) : AE K := ⟨tCB (rTupU K) (tCons (tVar i) tNil), fun e t k => owS e[i]? fun ds => k (.tuple ds) t, fun {m B0 B e σ H t k} r h Q q => by
  obtain ⟨ds, p, vs, e1, e2, _, _, np, hp, ra, h⟩ := r.own h
  refine ⟨.ref p, e2, p, vs, rfl, .inl ⟨SqL.of hp, fun l nl => ?_⟩⟩
  have s := same_new (o := .tup vs) nl
  exact q _ _ _ t (m.xs r.ok s) (m.same r.ok s) h (rp_tup.mpr ⟨l, vs, rfl, .inl (r.al.new nl), SqT.of upd_same, ra.up (Xt.of r.al s)⟩)⟩
/-- x[lo:hi] -/
def AE.ownSl (i : Nat) (lo hi : AO K) : AE K := ⟨tSl (rSlU K) (tVar i) lo.tO hi.tO, fun e t k => owS e[i]? fun ds => lo.wp e t fun l t2 => hi.wp e t2 fun u t3 => k (.list (cutD ds l u)) t3, fun {m B0 B e σ H t k} r h Q q => by
  obtain ⟨ds, p, vs, e1, e2, _, _, np, hp, ra, h⟩ := r.own h
  refine ⟨.ref p, e2, lo.ok r h _ fun l H2 t2 x2 k2 h2 => hi.ok (r.up x2 k2) h2 _ fun u H3 t3 x3 k3 h3 => .inl ⟨p, vs, rfl, SqL.of (x3.kp _ _ np (x2.kp _ _ np hp)), fun p' np' => ?_⟩⟩
  have s2 := r.up x2 k2
  have s3 := s2.up x3 k3
  have s := same_new (o := .lst (cutV vs l u)) np'
  exact q _ _ _ t3 (x2.trans (x3.trans (m.xs k3 s))) (m.same k3 s) h3 (rp_lst.mpr ⟨p', _, rfl, s3.al.new np', upd_same, (RpA.cut ((ra.up (r.wd x2)).up (s2.wd x3))).up (Xt.of s3.al s)⟩)⟩
/-! ### statements -/
structure Kn where
  nx : En → Int → Prop
  rt : PK
  bk : En → Int → Prop := fun _ _ => False
  ct : En → Int → Prop := fun _ _ => False
/-- from the def's start (B0, H0) and from the loop's (B1, H1) to here -/
structure Fr (m : Dck) (B0 : Addr → Prop) (H0 : Hp) (B1 : Addr → Prop) (H1 : Hp) (B : Addr → Prop) (H : Hp) : Prop where
  g0 : Gw B0 B H0
  x0 : Xt m.pl H0 H
  f1 : ∀ a, B a → B1 a ∨ H1 a = none
  x1 : Xt B1 H1 H
structure Cn (K : PySem.W.Frag) (m : Dck) (B0 : Addr → Prop) (H0 : Hp) (B1 : Addr → Prop) (H1 : Hp) (k : Kn) (Dd : Ends) : Prop where
  nx : ∀ {B e σ H t}, Fr m B0 H0 B1 H1 B H → Rep K m B0 B e σ H t → k.nx e t → Dd.nx σ H
  bk : ∀ {B e σ H t}, Fr m B0 H0 B1 H1 B H → Rep K m B0 B e σ H t → k.bk e t → Dd.bk σ H
  ct : ∀ {B e σ H t}, Fr m B0 H0 B1 H1 B H → Rep K m B0 B e σ H t → k.ct e t → Dd.ct σ H
  rt : ∀ {v d H t}, Xt m.pl H0 H → m.ok H t → k.rt d t → Rp K B0 H d v → Dd.rt v H
structure AS (K : PySem.W.Frag) where
  ts : TS
  wp : En → Int → Kn → Prop
  ok : ∀ {m : Dck} {B0 B1 : Addr → Prop} {H0 H1 : Hp} {Dd : Ends} {k : Kn}, Cn K m B0 H0 B1 H1 k Dd → ∀ {B : Addr → Prop} {e : En} {σ : L2.St} {H : Hp} {t : Int}, Fr m B0 H0 B1 H1 B H → Rep K m B0 B e σ H t → wp e t k → ts Dd σ H
end
section
variable {K : PySem.W.Frag} {m : Dck} {B0 B1 B B' : Addr → Prop} {H0 H1 H H2 : Hp} {e : En} {σ : L2.St} {t t' : Int} {L p : Addr} {i : Nat}
theorem Gw.refl : Gw B B H := ⟨fun _ h => h, fun _ h => .inl h⟩
theorem Fr.step (f : Fr m B0 H0 B1 H1 B H) (r : Rep K m B0 B e σ H t) (x : Xt m.pl H H2) : Fr m B0 H0 B1 H1 B H2 := by
  refine ⟨f.g0, f.x0.trans x, f.f1, ⟨fun a o nb z => x.kp a o (fun w => (f.f1 a (r.pb a w)).elim nb fun u => by rw [u] at z; cases z) (f.x1.kp a o nb z), fun a h => ?_⟩⟩
  by_cases w : m.pl a
  · exact x.al a w
  · cases q : H a with
    | none => exact absurd q (f.x1.al a h)
    | some o => rw [x.kp a o w q]; simp
theorem Fr.put (f : Fr m B0 H0 B1 H1 B H) (r : Rep K m B0 B e σ H t) (b : B p) (nb0 : ¬ B0 p) (np : ¬ m.pl p) {o : HO} : Fr m B0 H0 B1 H1 B (upd H p o) := by
  have h0 : H0 p = none := (f.g0.fr p b).elim (fun z => absurd z nb0) id
  refine ⟨f.g0, ⟨fun a u nb z => ?_, fun a h => ?_⟩, f.f1, ⟨fun a u nb z => ?_, fun a h => ?_⟩⟩
  · rw [upd_ne (ne_of_none z h0)]
    exact f.x0.kp a u nb z
  · rw [upd_ne (fun w : a = p => np (w ▸ h))]
    exact f.x0.al a h
  · have : a ≠ p := fun w => (f.f1 p b).elim (fun u => nb (w ▸ u)) fun u => by rw [w, u] at z; cases z
    rw [upd_ne this]
    exact f.x1.kp a u nb z
  · by_cases w : a = p
    · rw [w, upd_same]; simp
    · rw [upd_ne w]
      exact f.x1.al a h
theorem Fr.new (f : Fr m B0 H0 B1 H1 B H) (r : Rep K m B0 B e σ H t) (n : H L = none) (x : Xt m.pl H H2) : Fr m B0 H0 B1 H1 (Bp B L) H2 := by
  have s := f.step r x
  have h0 : H0 L = none := by
    cases q : H0 L with
    | none => rfl
    | some o =>
      by_cases z : m.pl L
      · exact absurd n (f.x0.al L z)
      · rw [f.x0.kp L o z q] at n
        cases n
  have h1 : H1 L = none := by
    cases q : H1 L with
    | none => rfl
    | some o =>
      by_cases z : B1 L
      · exact absurd n (f.x1.al L z)
      · rw [f.x1.kp L o z q] at n
        cases n
  exact ⟨⟨fun a h => .inl (s.g0.up a h), fun a h => h.elim (s.g0.fr a) fun z => .inr (z ▸ h0)⟩, s.x0, fun a h => h.elim (s.f1 a) fun z => .inr (z ▸ h1), s.x1⟩
/-- the loop's frame ends -/
theorem Fr.comp (f : Fr m B0 H0 B1 H1 B H) (g : Fr m B0 H0 B H B' H2) : Fr m B0 H0 B1 H1 B' H2 := by
  refine ⟨g.g0, g.x0, fun a h => ?_, ⟨fun a o nb z => ?_, fun a h => ?_⟩⟩
  · rcases g.f1 a h with z | z
    · exact f.f1 a z
    · cases q : H1 a with
      | none => exact .inr rfl
      | some o =>
        by_cases w : B1 a
        · exact .inl w
        · rw [f.x1.kp a o w q] at z
          cases z
  · exact g.x1.kp a o (fun w => (f.f1 a w).elim nb fun u => by rw [u] at z; cases z) (f.x1.kp a o nb z)
  · by_cases w : B a
    · exact g.x1.al a w
    · cases q : H a with
      | none => exact absurd q (f.x1.al a h)
      | some o => rw [g.x1.kp a o w q]; simp
/-- the frame at a loop's start -/
theorem Fr.here (f : Fr m B0 H0 B1 H1 B H) (r : Rep K m B0 B e σ H t) : Fr m B0 H0 B H B H := ⟨f.g0, f.x0, fun _ h => .inl h, Xt.refl r.al⟩
/-- what is read behind the loop's start -/
theorem Fr.sq {J : It} {ds : List PyData} (f : Fr m B0 H0 B1 H1 B H) (r : Rep K m B0 B e σ H t) (s : Sq K J B1 H1 ds) : (∀ i, i < ds.length → J.go i H) ∧ J.stop ds.length H ∧
    ∀ (i : Nat) d x H3, ds[i]? = some d → J.yld i H x H3 → Same H H3 ∧ Rp K B H3 d x := by
  have g : Gw B1 (fun a => B1 a ∨ B a) H1 := ⟨fun _ h => .inl h, fun a h => h.elim .inl (f.f1 a)⟩
  have x : Xt (fun a => B1 a ∨ B a) H1 H := ⟨fun a o nb z => f.x1.kp a o (fun w => nb (.inl w)) z, fun a h => h.elim (f.x1.al a) (r.al a)⟩
  refine ⟨fun i hi => s.go i H _ hi g x, s.st H _ g x, fun i d y H3 hd hy => ?_⟩
  obtain ⟨s3, ry⟩ := s.yl i d y H H3 _ hd g x hy
  exact ⟨s3, Rp.less (fun a h => .inr h) _ _ ry⟩
theorem Fr.less (f : Fr m B0 H0 B1 H1 B H) (h : ∀ a, B' a → B a) (h0 : ∀ a, B0 a → B' a) : Fr m B0 H0 B1 H1 B' H :=
  ⟨⟨h0, fun a z => f.g0.fr a (h a z)⟩, f.x0, fun a z => f.f1 a (h a z), f.x1⟩
/-- a list of one's own is put into a slot -/
theorem Rep.setOwn {ds : List PyData} {vs : List V} (r : Rep K m B0 B e σ H t) (n : H L = none) (x : Xt m.pl H H2) (k : m.ok H2 t') (hL : H2 L = some (.lst vs)) (ra : RpA K (Bp B L) H2 ds vs) :
    Rep K m B0 (Bp B L) (e.set i (.own ds)) (σ.set i (some (.ref L))) H2 t' := by
  have r2 := r.under n x k (by rw [hL]; simp)
  have nB : ¬ B L := r.al.new n
  have nP : ¬ m.pl L := fun z => nB (r.pb L z)
  have alone : ∀ (j : Nat) (ds : List PyData), e[j]? = some (.own ds) → σ[j]? ≠ some (some (.ref L)) := fun j es h z => by
    have s := r.sl j
    rw [h] at s
    obtain ⟨p, vs, e1, b, _⟩ := s
    rw [e1] at z
    cases z
    exact nB b
  have self : ∀ (j : Nat), i = j → ∀ {x : Sl}, (e.set i x)[j]? = some x ∨ (e.set i x)[j]? = none := fun j z x => by
    subst z
    by_cases hl : i < e.length
    · exact .inl (List.getElem?_set_self hl)
    · exact .inr (List.getElem?_eq_none (by rw [List.length_set]; omega))
  refine ⟨r2.al, r2.pb, r2.b0, k, by rw [List.length_set, List.length_set]; exact r2.ln, fun j => ?_, fun a b p ds1 es h1 h2 h3 h4 => ?_⟩
  · by_cases z : i = j
    · subst z
      by_cases hl : i < e.length
      · rw [List.getElem?_set_self hl, List.getElem?_set_self (by rw [← r.ln]; exact hl)]
        exact ⟨L, vs, rfl, .inr rfl, fun z => nB (r.b0 L z), nP, hL, ra⟩
      · rw [List.getElem?_eq_none (by rw [List.length_set]; omega)]
        trivial
    · rw [List.getElem?_set_ne z, List.getElem?_set_ne z]
      exact r2.sl j
  · have hit : ∀ (c : Nat) (q : Addr), i = c → (σ.set i (some (.ref L)))[c]? = some (some (.ref q)) → q = L := fun c q z w => by
      subst z
      by_cases hl : i < σ.length
      · rw [List.getElem?_set_self hl] at w
        cases w
        rfl
      · rw [List.getElem?_eq_none (by rw [List.length_set]; omega)] at w
        cases w
    by_cases za : i = a
    · by_cases zb : i = b
      · exact za.symm.trans zb
      · have := hit a p za h3
        subst this
        rw [List.getElem?_set_ne zb] at h2 h4
        exact absurd h4 (alone b es h2)
    · by_cases zb : i = b
      · have := hit b p zb h4
        subst this
        rw [List.getElem?_set_ne za] at h1 h3
        exact absurd h3 (alone a ds1 h1)
      · rw [List.getElem?_set_ne za] at h1 h3
        rw [List.getElem?_set_ne zb] at h2 h4
        exact r2.ow a b p ds1 es h1 h2 h3 h4
/-- a list of one's own is written -/
theorem Rep.put {ds es : List PyData} {ws : List V} (r : Rep K m B0 B e σ H t) (he : e[i]? = some (.own ds)) (hs : σ[i]? = some (some (.ref p))) (b : B p) (np : ¬ m.pl p) (ra : RpA K B H es ws) :
    Rep K m B0 B (e.set i (.own es)) σ (upd H p (.lst ws)) t := by
  have al : Al B (upd H p (.lst ws)) := fun a h => by
    by_cases w : a = p
    · rw [w, upd_same]; simp
    · rw [upd_ne w]
      exact r.al a h
  have x : Xt B H (upd H p (.lst ws)) := ⟨fun a o nb z => by
    rw [upd_ne (fun w : a = p => nb (w ▸ b))]
    exact z, al⟩
  have hl : i < e.length := (List.getElem?_eq_some_iff.mp he).1
  have b0 : ¬ B0 p := by
    have s := r.sl i
    rw [he, hs] at s
    obtain ⟨q, vs, e1, _, h, _⟩ := s
    cases e1
    exact h
  refine ⟨al, r.pb, r.b0, m.stay r.ok fun a o h z => ?_, by rw [List.length_set]; exact r.ln, fun j => ?_, fun a c q ds1 es1 h1 h2 h3 h4 => ?_⟩
  · rw [upd_ne (fun w : a = p => np (w ▸ h))]
    exact z
  · by_cases z : i = j
    · subst z
      rw [List.getElem?_set_self hl, hs]
      exact ⟨p, ws, rfl, b, b0, np, upd_same, ra.up x⟩
    · rw [List.getElem?_set_ne z]
      have s := r.sl j
      cases q : e[j]? with
      | none => trivial
      | some y =>
        rw [q] at s
        cases y with
        | un => trivial
        | deck M => exact s
        | dat d =>
          obtain ⟨v, e1, r1⟩ := s
          exact ⟨v, e1, r1.up x⟩
        | own fs =>
          obtain ⟨p2, vs2, e1, b2, b02, np2, hp2, r2⟩ := s
          have ne : p2 ≠ p := fun w => by
            subst w
            exact z (r.ow i j p2 ds fs he q hs e1)
          exact ⟨p2, vs2, e1, b2, b02, np2, by rw [upd_ne ne]; exact hp2, r2.up x⟩
  · have own_of : ∀ (c : Nat) (fs : List PyData), (e.set i (.own es))[c]? = some (.own fs) → ∃ gs, e[c]? = some (.own gs) := fun c fs h => by
      by_cases z : i = c
      · subst z
        exact ⟨ds, he⟩
      · rw [List.getElem?_set_ne z] at h
        exact ⟨fs, h⟩
    obtain ⟨g1, k1⟩ := own_of a ds1 h1
    obtain ⟨g2, k2⟩ := own_of c es1 h2
    exact r.ow a c q g1 g2 k1 k2 h3 h4
/-- a list of one's own becomes data -/
theorem Rep.frz {ds : List PyData} (r : Rep K m B0 B e σ H t) (he : e[i]? = some (.own ds)) : ∃ B', (∀ a, B' a → B a) ∧ (∀ a, B0 a → B' a) ∧ Rep K m B0 B' (e.set i (.dat (.list ds))) σ H t := by
  have s := r.sl i
  rw [he] at s
  obtain ⟨p, vs, hs, b, b0, np, hp, ra⟩ := s
  have hl : i < e.length := (List.getElem?_eq_some_iff.mp he).1
  have ls : ∀ a, (B a ∧ a ≠ p) → B a := fun a h => h.1
  refine ⟨fun a => B a ∧ a ≠ p, ls, fun a h => ⟨r.b0 a h, fun w => b0 (w ▸ h)⟩, fun a h => r.al a h.1, fun a h => ⟨r.pb a h, fun w => np (w ▸ h)⟩, fun a h => ⟨r.b0 a h, fun w => b0 (w ▸ h)⟩, r.ok, by rw [List.length_set]; exact r.ln, fun j => ?_, fun a c q ds1 es1 h1 h2 h3 h4 => ?_⟩
  · by_cases z : i = j
    · subst z
      rw [List.getElem?_set_self hl, hs]
      exact ⟨.ref p, rfl, rp_lst.mpr ⟨p, vs, rfl, fun w => w.2 rfl, hp, RpA.less ls _ _ ra⟩⟩
    · rw [List.getElem?_set_ne z]
      have s := r.sl j
      cases q : e[j]? with
      | none => trivial
      | some y =>
        rw [q] at s
        cases y with
        | un => trivial
        | deck M => exact s
        | dat d =>
          obtain ⟨v, e1, r1⟩ := s
          exact ⟨v, e1, Rp.less ls _ _ r1⟩
        | own fs =>
          obtain ⟨p2, vs2, e1, b2, b02, np2, hp2, r2⟩ := s
          have ne : p2 ≠ p := fun w => by
            subst w
            exact z (r.ow i j p2 ds fs he q hs e1)
          exact ⟨p2, vs2, e1, ⟨b2, ne⟩, b02, np2, hp2, RpA.less ls _ _ r2⟩
  · have na : i ≠ a := fun z => by subst z; rw [List.getElem?_set_self hl] at h1; cases h1
    have nc : i ≠ c := fun z => by subst z; rw [List.getElem?_set_self hl] at h2; cases h2
    rw [List.getElem?_set_ne na] at h1
    rw [List.getElem?_set_ne nc] at h2
    exact r.ow a c q ds1 es1 h1 h2 h3 h4
end
end CG

/-! Part 15: statements and defs. -/
namespace CG
open PySem PySem.Spec PyProof.Rows L2
section
variable {K : PySem.W.Frag}
theorem RpA.set {B : Addr → Prop} {H : Hp} {d : PyData} {v : V} (h : Rp K B H d v) : ∀ {ds : List PyData} {xs : List V} {j : Nat}, RpA K B H ds xs → RpA K B H (ds.set j d) (xs.set j v)
  | [], xs, j, r => by rw [rpa_nil.mp r]; exact .nil
  | c :: ds, xs, 0, r => by
    obtain ⟨y, w, rfl, h1, h2⟩ := rpa_cons.mp r
    exact .cons h h2
  | c :: ds, xs, j + 1, r => by
    obtain ⟨y, w, rfl, h1, h2⟩ := rpa_cons.mp r
    exact .cons h1 (RpA.set h h2)
def AS.nop (K : PySem.W.Frag) : AS K := ⟨tNext, fun e t k => k.nx e t, fun {m B0 B1 H0 H1 Dd k} c {B e σ H t} f r h => c.nx f r h⟩
def AS.brk (K : PySem.W.Frag) : AS K := ⟨tBreak, fun e t k => k.bk e t, fun {m B0 B1 H0 H1 Dd k} c {B e σ H t} f r h => c.bk f r h⟩
def AS.cnt (K : PySem.W.Frag) : AS K := ⟨tCont, fun e t k => k.ct e t, fun {m B0 B1 H0 H1 Dd k} c {B e σ H t} f r h => c.ct f r h⟩
def AS.seq (a b : AS K) : AS K := ⟨tSeq a.ts b.ts, fun e t k => a.wp e t { k with nx := fun e' t' => b.wp e' t' k }, fun {m B0 B1 H0 H1 Dd k} c {B e σ H t} f r h =>
  a.ok (Dd := { Dd with nx := b.ts Dd }) (k := { k with nx := fun e' t' => b.wp e' t' k }) ⟨fun f' r' h' => b.ok c f' r' h', c.bk, c.ct, c.rt⟩ f r h⟩
def AS.set (i : Nat) (a : AE K) : AS K := ⟨tAsg a.te (gName i), fun e t k => a.wp e t fun d t1 => k.nx (e.set i (.dat d)) t1, fun {m B0 B1 H0 H1 Dd k} c {B e σ H t} f r h =>
  a.ok r h _ fun v d H2 t2 x2 k2 h2 r2 => c.nx (f.step r x2) ((r.up x2 k2).set r2) h2⟩
def AS.asg (a : AE K) (g : AG K) : AS K := ⟨tAsg a.te g.tg, fun e t k => a.wp e t fun d t1 => g.wp d e fun e' => k.nx e' t1, fun {m B0 B1 H0 H1 Dd k} c {B e σ H t} f r h =>
  a.ok r h _ fun v d H2 t2 x2 k2 h2 r2 => g.ok (r.up x2 k2) r2 h2 _ fun e' σ' hk r' _ _ => c.nx (f.step r x2) r' hk⟩
def AS.drop (a : AE K) : AS K := ⟨tDrop a.te, fun e t k => a.wp e t fun _ t1 => k.nx e t1, fun {m B0 B1 H0 H1 Dd k} c {B e σ H t} f r h =>
  a.ok r h _ fun v d H2 t2 x2 k2 h2 r2 => c.nx (f.step r x2) (r.up x2 k2) h2⟩
def un2 : List PyData → (PyData → PyData → Prop) → Prop
  | [a, b], k => k a b
  | _, _ => False
def un3 : List PyData → (PyData → PyData → PyData → Prop) → Prop
  | [a, b, c], k => k a b c
  | _, _ => False
/-- x, y = a, b -/
def AS.par (i j : Nat) (a : AA K) : AS K := ⟨tPar i j a.ta, fun e t k => a.wp e t fun ds t1 => un2 ds fun x y => k.nx ((e.set i (.dat x)).set j (.dat y)) t1, fun {m B0 B1 H0 H1 Dd k} c {B e σ H t} f r h =>
  a.ok r h _ fun vs ds H2 t2 x2 k2 h2 r2 => by
    unfold un2 at h2
    split at h2
    · obtain ⟨v, w, rfl, q1, q2⟩ := rpa_cons.mp r2
      obtain ⟨v2, w2, rfl, q3, q4⟩ := rpa_cons.mp q2
      obtain rfl := rpa_nil.mp q4
      exact ⟨v, v2, rfl, c.nx (f.step r x2) (((r.up x2 k2).set q1).set q3) h2⟩
    · exact h2.elim⟩
def AS.par3 (i j l : Nat) (a : AA K) : AS K := ⟨tPar3 i j l a.ta, fun e t k => a.wp e t fun ds t1 => un3 ds fun x y z => k.nx (((e.set i (.dat x)).set j (.dat y)).set l (.dat z)) t1, fun {m B0 B1 H0 H1 Dd k} c {B e σ H t} f r h =>
  a.ok r h _ fun vs ds H2 t2 x2 k2 h2 r2 => by
    unfold un3 at h2
    split at h2
    · obtain ⟨v, w, rfl, q1, q2⟩ := rpa_cons.mp r2
      obtain ⟨v2, w2, rfl, q3, q4⟩ := rpa_cons.mp q2
      obtain ⟨v3, w3, rfl, q5, q6⟩ := rpa_cons.mp q4
      obtain rfl := rpa_nil.mp q6
      exact ⟨v, v2, v3, rfl, c.nx (f.step r x2) ((((r.up x2 k2).set q1).set q3).set q5) h2⟩
    · exact h2.elim⟩
def AS.ret (a : AE K) : AS K := ⟨tRet a.te, fun e t k => a.wp e t k.rt, fun {m B0 B1 H0 H1 Dd k} c {B e σ H t} f r h =>
  a.ok r h _ fun v d H2 t2 x2 k2 h2 r2 => c.rt (f.x0.trans x2) k2 h2 (Rp.less f.g0.up _ _ r2)⟩
def AS.retN (K : PySem.W.Frag) : AS K := ⟨tRetN, fun e t k => k.rt .none t, fun {m B0 B1 H0 H1 Dd k} c {B e σ H t} f r h => c.rt f.x0 r.ok h (rp_non.mpr rfl)⟩
def AS.ifS (c : AT K) (a b : AS K) : AS K := ⟨tIfS c.tt a.ts b.ts, fun e t k => c.wp e t fun z t1 => if z = true then a.wp e t1 k else b.wp e t1 k, fun {m B0 B1 H0 H1 Dd k} cn {B e σ H t} f r h =>
  c.ok r h _ fun z H2 t2 x2 k2 h2 => by
    cases z with
    | true =>
      rw [if_pos rfl] at h2 ⊢
      exact a.ok cn (f.step r x2) (r.up x2 k2) h2
    | false =>
      rw [if_neg (by decide)] at h2 ⊢
      exact b.ok cn (f.step r x2) (r.up x2 k2) h2⟩
/-- for g in it: s -/
def AS.for (it : AI K) (g : AG K) (s : AS K) : AS K := ⟨tFor it.ti g.tg s.ts, fun e t k => it.wp e t fun ds t1 => ∃ I : Nat → En → Int → Prop, I 0 e t1 ∧
    (∀ (i : Nat) d e' t', ds[i]? = some d → I i e' t' → g.wp d e' fun e2 => s.wp e2 t' { k with nx := I (i + 1), ct := I (i + 1), bk := k.nx }) ∧ ∀ e' t', I ds.length e' t' → k.nx e' t', fun {m B0 B1 H0 H1 Dd k} c {B e σ H t} f r h =>
  it.ok r h _ fun J ds H2 t2 x2 k2 h2 sq => by
    obtain ⟨I, i0, is, ie⟩ := h2
    have f2 := f.step r x2
    have r2 := r.up x2 k2
    have fh := f2.here r2
    refine ⟨fun i mm σ' H' => mm = ds.length - i ∧ i ≤ ds.length ∧ ∃ B' e' t', Fr m B0 H0 B H2 B' H' ∧ Rep K m B0 B' e' σ' H' t' ∧ I i e' t', ⟨ds.length, by simp, Nat.zero_le _, B, e, t2, fh, r2, i0⟩, ?_⟩
    rintro i mm σ' H' ⟨rfl, hi, B', e', t', f', r', hI⟩
    obtain ⟨sg, ss, sy⟩ := f'.sq r' sq
    by_cases hlt : i < ds.length
    · refine .inr ⟨sg i hlt, fun σ3 H3 => ∃ B' e' t', Fr m B0 H0 B H2 B' H3 ∧ Rep K m B0 B' e' σ3 H3 t' ∧ I (i + 1) e' t', fun σ3 H3 p => ⟨ds.length - (i + 1), by omega, rfl, hlt, p⟩, fun x H3 y => ?_⟩
      obtain ⟨s3, rx⟩ := sy i ds[i] x H3 (List.getElem?_eq_getElem hlt) y
      have r3 := r'.same s3
      have f3 := f'.step r' (m.xs r'.ok s3)
      refine g.ok r3 rx (is i ds[i] e' t' (List.getElem?_eq_getElem hlt) hI) _ fun e4 σ4 hk r4 _ _ => ?_
      refine s.ok (B1 := B) (H1 := H2) (Dd := { Dd with nx := fun σ3 H3 => ∃ B' e' t', Fr m B0 H0 B H2 B' H3 ∧ Rep K m B0 B' e' σ3 H3 t' ∧ I (i + 1) e' t', ct := fun σ3 H3 => ∃ B' e' t', Fr m B0 H0 B H2 B' H3 ∧ Rep K m B0 B' e' σ3 H3 t' ∧ I (i + 1) e' t', bk := Dd.nx }) (k := { k with nx := I (i + 1), ct := I (i + 1), bk := k.nx }) ⟨fun f5 r5 h5 => ⟨_, _, _, f5, r5, h5⟩, fun f5 r5 h5 => c.nx (f2.comp f5) r5 h5, fun f5 r5 h5 => ⟨_, _, _, f5, r5, h5⟩, c.rt⟩ f3 r4 hk
    · have e1 : i = ds.length := by omega
      subst e1
      exact .inl ⟨ss, c.nx (f2.comp f') r' (ie e' t' hI)⟩⟩
/-- while c: s -/
def AS.while (c : AT K) (s : AS K) : AS K := ⟨tWhile c.tt s.ts, fun e t k => ∃ I : Nat → En → Int → Prop, (∃ n, I n e t) ∧
    ∀ n e' t', I n e' t' → c.wp e' t' fun b t1 => if b = true then s.wp e' t1 { k with nx := fun e2 t2 => ∃ n', n' < n ∧ I n' e2 t2, ct := fun e2 t2 => ∃ n', n' < n ∧ I n' e2 t2, bk := k.nx } else k.nx e' t1, fun {m B0 B1 H0 H1 Dd k} cn {B e σ H t} f r h => by
  obtain ⟨I, ⟨n0, i0⟩, is⟩ := h
  have fh := f.here r
  refine ⟨fun n σ' H' => ∃ B' e' t', Fr m B0 H0 B H B' H' ∧ Rep K m B0 B' e' σ' H' t' ∧ I n e' t', ⟨n0, B, e, t, fh, r, i0⟩, ?_⟩
  rintro n σ' H' ⟨B', e', t', f', r', hI⟩
  refine c.ok r' (is n e' t' hI) _ fun b H3 t3 x3 k3 h3 => ?_
  have f3 := f'.step r' x3
  have r3 := r'.up x3 k3
  cases b with
  | true =>
    rw [if_pos rfl] at h3 ⊢
    refine ⟨fun σ4 H4 => ∃ n', n' < n ∧ ∃ B' e' t', Fr m B0 H0 B H B' H4 ∧ Rep K m B0 B' e' σ4 H4 t' ∧ I n' e' t', fun σ4 H4 p => p, ?_⟩
    refine s.ok (B1 := B) (H1 := H) (Dd := { Dd with nx := fun σ4 H4 => ∃ n', n' < n ∧ ∃ B' e' t', Fr m B0 H0 B H B' H4 ∧ Rep K m B0 B' e' σ4 H4 t' ∧ I n' e' t', ct := fun σ4 H4 => ∃ n', n' < n ∧ ∃ B' e' t', Fr m B0 H0 B H B' H4 ∧ Rep K m B0 B' e' σ4 H4 t' ∧ I n' e' t', bk := Dd.nx }) (k := { k with nx := fun e2 t2 => ∃ n', n' < n ∧ I n' e2 t2, ct := fun e2 t2 => ∃ n', n' < n ∧ I n' e2 t2, bk := k.nx }) ⟨fun f5 r5 h5 => ?_, fun f5 r5 h5 => cn.nx (f.comp f5) r5 h5, fun f5 r5 h5 => ?_, cn.rt⟩ f3 r3 h3
    · obtain ⟨n', hn, hi⟩ := h5
      exact ⟨n', hn, _, _, _, f5, r5, hi⟩
    · obtain ⟨n', hn, hi⟩ := h5
      exact ⟨n', hn, _, _, _, f5, r5, hi⟩
  | false =>
    rw [if_neg (by decide)] at h3 ⊢
    exact cn.nx (f.comp f3) r3 h3⟩
/-! lists of one's own -/
def AS.setOwn (i : Nat) (a : AF K) : AS K := ⟨tAsg a.te (gName i), fun e t k => a.wp e t fun ds t1 => k.nx (e.set i (.own ds)) t1, fun {m B0 B1 H0 H1 Dd k} c {B e σ H t} f r h =>
  a.ok r h _ fun L ds vs H2 t2 nL x2 k2 h2 hL ra => c.nx (f.new r nL x2) (r.setOwn nL x2 k2 hL ra) h2⟩
/-- x, y = [..], b -/
def un1 : List PyData → (PyData → Prop) → Prop
  | [a], k => k a
  | _, _ => False
/-- x.append(a) -/
def AS.append (i : Nat) (a : AA K) : AS K := ⟨tDrop (tBM K "list" rAppend (tVar i) a.ta), fun e t k => owS e[i]? fun ds => ds.length < 100000 ∧ a.wp e t fun es t1 => un1 es fun d => k.nx (e.set i (.own (ds ++ [d]))) t1, fun {m B0 B1 H0 H1 Dd k} c {B e σ H t} f r h => by
  obtain ⟨ds, p, vs, e1, e2, b, b0, np, hp, ra, hl, h⟩ := r.own h
  refine ⟨.ref p, e2, .inl ⟨rfl, _, SqL.of hp⟩, a.ok r h _ fun ws es H2 t2 x2 k2 h2 r2 => ?_⟩
  unfold un1 at h2
  split at h2
  · obtain ⟨v, w, rfl, q1, q2⟩ := rpa_cons.mp r2
    obtain rfl := rpa_nil.mp q2
    have s2 := r.up x2 k2
    have ra2 := ra.up (r.wd x2)
    refine ⟨p, vs, v, rfl, rfl, x2.kp _ _ np hp, by rw [← ra.length]; exact Nat.lt_of_lt_of_le hl (by decide), ?_⟩
    exact c.nx ((f.step r x2).put s2 b b0 np) (s2.put e1 e2 b np (RpA.append ra2 (.cons q1 .nil))) h2
  · exact h2.elim⟩
/-- x[a] = b -/
def AS.setAt (i : Nat) (a b : AE K) : AS K := ⟨tAsg b.te (gSub (tVar i) a.te rSetL), fun e t k => owS e[i]? fun ds => b.wp e t fun d t1 => a.wp e t1 fun y t2 => unI y fun n => ∃ j, ixN ds.length n = some j ∧ k.nx (e.set i (.own (ds.set j d))) t2, fun {m B0 B1 H0 H1 Dd k} c {B e σ H t} f r h => by
  obtain ⟨ds, p, vs, e1, e2, bp, b0, np, hp, ra, h⟩ := r.own h
  refine b.ok r h _ fun v d H2 t2 x2 k2 h2 r2 => ?_
  have s2 := r.up x2 k2
  refine ⟨.ref p, e2, a.ok s2 h2 _ fun w y H3 t3 x3 k3 h3 r3 => ?_⟩
  have s3 := s2.up x3 k3
  obtain ⟨n, rfl, j, hj, h3⟩ := unI_of h3
  have ra3 := (ra.up (r.wd x2)).up (s2.wd x3)
  refine ⟨p, vs, n, j, rfl, rp_int.mp r3, x3.kp _ _ np (x2.kp _ _ np hp), by rw [← ra.length]; exact hj, ?_⟩
  exact c.nx (((f.step r x2).step s2 x3).put s3 bp b0 np) (s3.put e1 e2 bp np (RpA.set (r2.up (s2.wd x3)) ra3)) h3⟩
/-- from here on the list is data -/
def AS.frz (i : Nat) (s : AS K) : AS K := ⟨s.ts, fun e t k => owS e[i]? fun ds => s.wp (e.set i (.dat (.list ds))) t k, fun {m B0 B1 H0 H1 Dd k} c {B e σ H t} f r h => by
  obtain ⟨ds, p, vs, e1, e2, b, b0, np, hp, ra, h⟩ := r.own h
  obtain ⟨B', h1, h2, r'⟩ := r.frz e1
  exact s.ok c (f.less h1 h2) r' h⟩
/-- what a slot holds is forgotten -/
def AS.fgt (i : Nat) (s : AS K) : AS K := ⟨s.ts, fun e t k => s.wp (e.set i .un) t k, fun {m B0 B1 H0 H1 Dd k} c {B e σ H t} f r h => by
  have r' : Rep K m B0 B (e.set i .un) (σ.set i (σ[i]?.getD none)) H t := r.drop
  have e1 : σ.set i (σ[i]?.getD none) = σ := by
    apply List.ext_getElem?
    intro j
    by_cases z : i = j
    · subst z
      by_cases hl : i < σ.length
      · rw [List.getElem?_set_self hl, List.getElem?_eq_getElem hl]
        rfl
      · rw [List.getElem?_eq_none (by rw [List.length_set]; omega), List.getElem?_eq_none (by omega)]
    · rw [List.getElem?_set_ne z]
  rw [e1] at r'
  exact s.ok c f r' h⟩
end
end CG

/-! Part 16: more statements; defs by their body over data. -/
namespace CG
open PySem PySem.Spec PyProof.Rows L2
/-- // by a positive divisor below 2^64 -/
def CDv (_ j : Int) : Prop := 0 < j ∧ j < 18446744073709551616
theorem op_dvU {X : Cx} : OpR X (binaryOp .FloorDiv) (rI CDv fun i j => .int (i / j)) := by
  intro pins s σ H x y v u Q I rx ry h
  obtain ⟨i, j, e1, e2, hc, q⟩ := h
  refine op_fdivW pins s σ H x y v u Q I rx ry ⟨i, j, e1, e2, ⟨hc.1, ?_⟩, q⟩
  obtain ⟨h1, h2⟩ := hc
  have h3 : j.natAbs < 2 ^ 64 := by omega
  have h4 : j.natAbs ≠ 0 := by omega
  have := (Nat.log2_lt h4).mpr h3
  omega
section
variable {K : PySem.W.Frag}
abbrev aDv (K : PySem.W.Frag) : A2 K := aI K CDv fun i j => i / j
abbrev aMulI (K : PySem.W.Frag) : A2 K := aI K CMul fun i j => i * j
abbrev aAddI (K : PySem.W.Frag) : A2 K := aI0 K fun i j => i + j
def AS.never (K : PySem.W.Frag) : AS K := ⟨tNever, fun _ _ _ => False, fun {m B0 B1 H0 H1 Dd k} c {B e σ H t} f r h => h⟩
/-- x is True -/
def isBF : PyData → PyData → (PyData → Prop) → Prop
  | .bool a, .bool b, k => k (.bool (decide (a = b)))
  | _, _, _ => False
def aIsB (K : PySem.W.Frag) : A2 K := ⟨rIsB, isBF, fun {B a b k} h => by
  unfold isBF at h
  split at h
  · refine ⟨_, h, fun H1 x y _ hx hy Q q => ?_⟩
    exact ⟨_, _, rp_bl.mp hx, rp_bl.mp hy, q _ H1 (Same.refl H1) (rp_bl.mpr rfl)⟩
  · exact h.elim⟩
def isNotBF : PyData → PyData → (PyData → Prop) → Prop
  | .bool a, .bool b, k => k (.bool (!decide (a = b)))
  | _, _, _ => False
def aIsNotB (K : PySem.W.Frag) : A2 K := ⟨rNotB, isNotBF, fun {B a b k} h => by
  unfold isNotBF at h
  split at h
  · refine ⟨_, h, fun H1 x y _ hx hy Q q => ?_⟩
    exact ⟨_, _, rp_bl.mp hx, rp_bl.mp hy, q _ H1 (Same.refl H1) (rp_bl.mpr rfl)⟩
  · exact h.elim⟩
/-- x in a list, a tuple of flat things -/
def rInU (K : PySem.W.Frag) : R2 := fun x y H Q => rInD K x y H Q ∨ rIn K false x y H Q
def rNotInU (K : PySem.W.Frag) : R2 := fun x y H Q => rNotInD K x y H Q ∨ rIn K true x y H Q
theorem op_inU {X : Cx} (hu : X.A.units + 65 < cLine) : OpR X (compareOp .In) (rInU X.K) := (op_inD hu).or op_in_seq
theorem op_notInU {X : Cx} (hu : X.A.units + 65 < cLine) : OpR X (compareOp .NotIn) (rNotInU X.K) := (op_notInD hu).or op_notIn_seq
theorem Room.un65 {k : Nat} {A : Around} (r : Room k A) : A.units + 65 < cLine := by have := r.un; omega
def isI : PyData → Bool
  | .int _ => true
  | _ => false
def inF : PyData → PyData → (PyData → Prop) → Prop
  | d, .list ds, k => Cmp d (.list ds) ∧ k (.bool (ds.any fun z => PyData.eqv z d))
  | .int i, .tuple ds, k => ds.all isI = true ∧ k (.bool (ds.any fun z => PyData.eqv z (.int i)))
  | _, _, _ => False
def notInF : PyData → PyData → (PyData → Prop) → Prop
  | d, .list ds, k => Cmp d (.list ds) ∧ k (.bool (!ds.any fun z => PyData.eqv z d))
  | .int i, .tuple ds, k => ds.all isI = true ∧ k (.bool (!ds.any fun z => PyData.eqv z (.int i)))
  | _, _, _ => False
theorem ints_all {B : Addr → Prop} {H : Hp} {i : Int} : ∀ {ds : List PyData} {xs : List V}, ds.all isI = true → RpA K B H ds xs → xs.all flatV = true ∧ inV (.int i) xs = ds.any fun z => PyData.eqv z (.int i)
  | [], xs, _, r => by rw [rpa_nil.mp r]; exact ⟨rfl, rfl⟩
  | d :: ds, xs, h, r => by
    obtain ⟨x, t, rfl, h1, h2⟩ := rpa_cons.mp r
    rw [List.all_cons, Bool.and_eq_true] at h
    obtain ⟨g1, g2⟩ := ints_all (i := i) h.2 h2
    cases d with
    | int j =>
      obtain rfl := rp_int.mp h1
      refine ⟨by rw [List.all_cons, g1]; rfl, ?_⟩
      unfold inV at g2 ⊢
      rw [List.any_cons, List.any_cons, g2]
      congr 1
    | _ => cases h.1
def aIn (K : PySem.W.Frag) : A2 K := ⟨rInU K, inF, fun {B a b k} h => by
  unfold inF at h
  split at h
  · refine ⟨_, h.2, fun H1 x y al hx hy Q q => .inl ⟨_, _, Rp.dp _ _ hx h.1.1.1, Rp.dp _ _ hy h.1.2.1, h.1.1.2, h.1.2.2, q _ H1 (Same.refl H1) (rp_bl.mpr rfl)⟩⟩
  · refine ⟨_, h.2, fun H1 x y al hx hy Q q => ?_⟩
    obtain ⟨p, xs, rfl, na, s, t⟩ := rp_tup.mp hy
    obtain rfl := rp_int.mp hx
    obtain ⟨g1, g2⟩ := ints_all h.1 t
    refine .inr ⟨p, xs, rfl, .inr s, rfl, g1, ?_⟩
    rw [if_neg (by decide), g2]
    exact q _ H1 (Same.refl H1) (rp_bl.mpr rfl)
  · exact h.elim⟩
def aNotIn (K : PySem.W.Frag) : A2 K := ⟨rNotInU K, notInF, fun {B a b k} h => by
  unfold notInF at h
  split at h
  · refine ⟨_, h.2, fun H1 x y al hx hy Q q => .inl ⟨_, _, Rp.dp _ _ hx h.1.1.1, Rp.dp _ _ hy h.1.2.1, h.1.1.2, h.1.2.2, q _ H1 (Same.refl H1) (rp_bl.mpr rfl)⟩⟩
  · refine ⟨_, h.2, fun H1 x y al hx hy Q q => ?_⟩
    obtain ⟨p, xs, rfl, na, s, t⟩ := rp_tup.mp hy
    obtain rfl := rp_int.mp hx
    obtain ⟨g1, g2⟩ := ints_all h.1 t
    refine .inr ⟨p, xs, rfl, .inr s, rfl, g1, ?_⟩
    rw [if_pos rfl, g2]
    exact q _ H1 (Same.refl H1) (rp_bl.mpr rfl)
  · exact h.elim⟩
/-! range as an argument -/
theorem rgV_rp {B : Addr → Prop} {H : Hp} {a b : Int} : RpA K B H (rngD a b) (rgV a b) := by
  have e1 : rngD a b = ((List.range (b - a).toNat).map fun i : Nat => a + (i : Int)).map PyData.int := by unfold rngD; rw [List.map_map]; rfl
  have e2 : rgV a b = ((List.range (b - a).toNat).map fun i : Nat => a + (i : Int)).map V.int := by unfold rgV; rw [List.map_map]; rfl
  rw [e1, e2]
  exact RpA.ints _
def RgB (a b : Int) : Prop := -4611686018427387904 ≤ a ∧ a ≤ 1000000 ∧ -4611686018427387904 ≤ b ∧ b ≤ 1000000 ∧ b - a ≤ 1000000
theorem RgB.ok {a b : Int} (h : RgB a b) : RgOk a b := by
  obtain ⟨h1, h2, h3, h4, h5⟩ := h
  exact ⟨by omega, by omega, by omega, by omega, by omega⟩
def AF.lstRg (a : AE K) : AF K := ⟨tLstRg (tRg1 a.te), fun e t k => a.wp e t fun d t1 => unI d fun n => RgB 0 n ∧ k (rngD 0 n) t1, fun {m B0 B e σ H t k} r h Q q =>
  a.ok r h _ fun v d H1 t1 x1 k1 h1 r1 => by
    obtain ⟨n, rfl, hb, hk⟩ := unI_of h1
    have r2 := (r.up x1 k1)
    refine ⟨n, rp_int.mp r1, hb.ok, fun p np => ?_⟩
    have s := same_new (o := .lst (rgV 0 n)) np
    exact q p _ _ _ t1 (none_back r.ok x1 np) (x1.trans (m.xs k1 s)) (m.same k1 s) hk upd_same rgV_rp⟩
def AE.tupRg (a : AE K) : AE K := ⟨tTupRg (tRg1 a.te), fun e t k => a.wp e t fun d t1 => unI d fun n => RgB 0 n ∧ k (.tuple (rngD 0 n)) t1, fun {m B0 B e σ H t k} r h Q q =>
  a.ok r h _ fun v d H1 t1 x1 k1 h1 r1 => by
    obtain ⟨n, rfl, hb, hk⟩ := unI_of h1
    have r2 := (r.up x1 k1)
    refine ⟨n, rp_int.mp r1, hb.ok, fun p np => ?_⟩
    have s := same_new (o := .tup (rgV 0 n)) np
    exact q _ _ _ t1 (x1.trans (m.xs k1 s)) (m.same k1 s) hk (rp_tup.mpr ⟨p, _, rfl, .inl (r2.al.new np), SqT.of upd_same, rgV_rp⟩)⟩
/-- x.insert(a, b) -/
def rInsU : V → List V → Hp → VK → Prop := fun x vs H Q => ∃ (l : Addr) (xs : List V) (i : Int) (y : V), x = .ref l ∧ vs = [.int i, y] ∧ H l = some (.lst xs) ∧ xs.length < sizeLine ∧ 0 ≤ i ∧ i < 2 ^ 63 ∧
    Q .non (upd H l (.lst (xs.take i.toNat ++ [y] ++ xs.drop i.toNat)))
theorem mt_insU {X : Cx} : MtR X "list.insert" rInsU := mt_insert
def AS.insert (i : Nat) (a : AA K) : AS K := ⟨tDrop (tBM K "list" rInsU (tVar i) a.ta), fun e t k => owS e[i]? fun ds => a.wp e t fun es t1 => un2 es fun x d => unI x fun j => (ds.length < 100000 ∧ 0 ≤ j ∧ j < 1000000) ∧ k.nx (e.set i (.own (ds.take j.toNat ++ [d] ++ ds.drop j.toNat))) t1, fun {m B0 B1 H0 H1 Dd k} c {B e σ H t} f r h => by
  obtain ⟨ds, p, vs, e1, e2, b, b0, np, hp, ra, h⟩ := r.own h
  refine ⟨.ref p, e2, .inl ⟨rfl, _, SqL.of hp⟩, a.ok r h _ fun ws es H2 t2 x2 k2 h2 r2 => ?_⟩
  unfold un2 at h2
  split at h2
  · obtain ⟨v, w, rfl, q1, q2⟩ := rpa_cons.mp r2
    obtain ⟨v2, w2, rfl, q3, q4⟩ := rpa_cons.mp q2
    obtain rfl := rpa_nil.mp q4
    obtain ⟨j, rfl, ⟨hl, j0, j1⟩, h2⟩ := unI_of h2
    obtain rfl := rp_int.mp q1
    have s2 := r.up x2 k2
    have ra2 := ra.up (r.wd x2)
    refine ⟨p, vs, j, v2, rfl, rfl, x2.kp _ _ np hp, by rw [← ra.length]; exact Nat.lt_of_lt_of_le hl (by decide), j0, by omega, ?_⟩
    exact c.nx ((f.step r x2).put s2 b b0 np) (s2.put e1 e2 b np (RpA.append (RpA.append (RpA.take _ ra2) (.cons q3 .nil)) (RpA.drop _ ra2))) h2
  · exact h2.elim⟩
/-- x op= a -/
def AS.aug (i : Nat) (o : A2 K) (a : AE K) : AS K := ⟨tAug i a.te o.r, fun e t k => rdS e[i]? fun x => a.wp e t fun y t1 => o.f x y fun z => k.nx (e.set i (.dat z)) t1, fun {m B0 B1 H0 H1 Dd k} c {B e σ H t} f r h => by
  obtain ⟨d, v, e1, h, rv, _⟩ := r.var h
  refine ⟨v, e1, a.ok r h _ fun w y H2 t2 x2 k2 h2 r2 => ?_⟩
  obtain ⟨z, hz, rz⟩ := o.ok (B := B) h2
  have s2 := r.up x2 k2
  refine rz H2 v w s2.al (rv.up (r.wd x2)) r2 _ fun u H3 e3 r3 => ?_
  exact c.nx ((f.step r x2).step s2 (m.xs k2 e3)) ((s2.same e3).set r3) hz⟩
/-- x, y = a, [..] -/
def AS.parB (i j : Nat) (hij : i ≠ j) (a : AE K) (b : AF K) : AS K := ⟨tPar i j (tCons a.te (tCons b.te tNil)), fun e t k => a.wp e t fun x t1 => b.wp e t1 fun ds t2 => k.nx ((e.set i (.dat x)).set j (.own ds)) t2, fun {m B0 B1 H0 H1 Dd k} c {B e σ H t} f r h =>
  a.ok r h _ fun v x H2 t2 x2 k2 h2 r2 => by
    have s2 := r.up x2 k2
    refine b.ok s2 h2 _ fun L ds vs H3 t3 nL x3 k3 h3 hL ra => ⟨v, .ref L, rfl, ?_⟩
    have nB : ¬ B L := s2.al.new nL
    have s2' := s2.set (i := i) r2
    exact c.nx ((f.step r x2).new s2 nL x3) (s2'.setOwn nL x3 k3 hL ra) h3⟩
/-- x, y, z = a, b, [..] -/
def AS.par3B (i j l : Nat) (a b : AE K) (d : AF K) : AS K := ⟨tPar3 i j l (tCons a.te (tCons b.te (tCons d.te tNil))), fun e t k => a.wp e t fun x t1 => b.wp e t1 fun y t2 => d.wp e t2 fun ds t3 => k.nx (((e.set i (.dat x)).set j (.dat y)).set l (.own ds)) t3, fun {m B0 B1 H0 H1 Dd k} c {B e σ H t} f r h =>
  a.ok r h _ fun v x H2 t2 x2 k2 h2 r2 => by
    have s2 := r.up x2 k2
    refine b.ok s2 h2 _ fun w y H3 t3 x3 k3 h3 r3 => ?_
    have s3 := s2.up x3 k3
    refine d.ok s3 h3 _ fun L ds vs H4 t4 nL x4 k4 h4 hL ra => ⟨v, w, .ref L, rfl, ?_⟩
    have s3' := (s3.set (i := i) (r2.up (s2.wd x3))).set (i := j) r3
    exact c.nx (((f.step r x2).step s2 x3).new s3 nL x4) (s3'.setOwn nL x4 k4 hL ra) h4⟩
/-- x, y = [..], b -/
def AS.parA (i j : Nat) (hij : i ≠ j) (a : AF K) (b : AE K) : AS K := ⟨tPar i j (tCons a.te (tCons b.te tNil)), fun e t k => a.wp e t fun ds t1 => b.wp e t1 fun y t2 => k.nx ((e.set i (.own ds)).set j (.dat y)) t2, fun {m B0 B1 H0 H1 Dd k} c {B e σ H t} f r h =>
  a.ok r h _ fun L ds vs H2 t2 nL x2 k2 h2 hL ra => by
    have s2 : Rep K m B0 (Bp B L) e σ H2 t2 := r.under nL x2 k2 (by rw [hL]; simp)
    have nP : ¬ m.pl L := fun z => r.al.new nL (r.pb L z)
    refine b.ok s2 h2 _ fun w y H3 t3 x3 k3 h3 r3 => ⟨.ref L, w, rfl, ?_⟩
    have s3 := r.setOwn (i := i) nL (x2.trans x3) k3 (x3.kp _ _ nP hL) (ra.up (s2.wd x3))
    exact c.nx (f.new r nL (x2.trans x3)) (s3.set r3) h3⟩
/-- x, y = ([..], b) -/
def AS.tupA (i j : Nat) (a : AF K) (b : AE K) : AS K := ⟨tAsg (tTup (tCons a.te (tCons b.te tNil))) (gTup K 2 (gCons (gName i) (gCons (gName j) gNil))), fun e t k => a.wp e t fun ds t1 => b.wp e t1 fun y t2 => k.nx ((e.set i (.own ds)).set j (.dat y)) t2, fun {m B0 B1 H0 H1 Dd k} c {B e σ H t} f r h =>
  a.ok r h _ fun L ds vs H2 t2 nL x2 k2 h2 hL ra => by
    have s2 : Rep K m B0 (Bp B L) e σ H2 t2 := r.under nL x2 k2 (by rw [hL]; simp)
    have nP : ¬ m.pl L := fun z => r.al.new nL (r.pb L z)
    refine b.ok s2 h2 _ fun w y H3 t3 x3 k3 h3 r3 => ⟨by show 2 ≤ sizeLine; decide, fun p np => ?_⟩
    have s := same_new (o := .tup [.ref L, w]) np
    refine ⟨p, _, rfl, SqT.of upd_same, rfl, .ref L, _, rfl, w, _, rfl, rfl, ?_⟩
    have s3 := s2.up x3 k3
    have x4 := x3.trans (m.xs k3 s)
    have s4 := r.setOwn (i := i) nL (x2.trans x4) (m.same k3 s) (x4.kp _ _ nP hL) (ra.up (s2.wd x4))
    exact c.nx (f.new r nL (x2.trans x4)) (s4.set (r3.up (Xt.of s3.al s))) h3⟩
/-- x, y = (a, [..]) -/
def AS.tupB (i j : Nat) (a : AE K) (b : AF K) : AS K := ⟨tAsg (tTup (tCons a.te (tCons b.te tNil))) (gTup K 2 (gCons (gName i) (gCons (gName j) gNil))), fun e t k => a.wp e t fun x t1 => b.wp e t1 fun ds t2 => k.nx ((e.set i (.dat x)).set j (.own ds)) t2, fun {m B0 B1 H0 H1 Dd k} c {B e σ H t} f r h =>
  a.ok r h _ fun v x H2 t2 x2 k2 h2 r2 => by
    have s2 := r.up x2 k2
    refine b.ok s2 h2 _ fun L ds vs H3 t3 nL x3 k3 h3 hL ra => ⟨by show 2 ≤ sizeLine; decide, fun p np => ?_⟩
    have s := same_new (o := .tup [v, .ref L]) np
    refine ⟨p, _, rfl, SqT.of upd_same, rfl, v, _, rfl, .ref L, _, rfl, rfl, ?_⟩
    have s2' := s2.set (i := i) r2
    have s3 := s2.under nL x3 k3 (by rw [hL]; simp)
    have x4 := x3.trans (m.xs k3 s)
    exact c.nx ((f.step r x2).new s2 nL x4) (s2'.setOwn nL x4 (m.same k3 s) (s _ _ hL) (ra.up (Xt.of s3.al s))) h3⟩
/-! ### defs -/
def startE (N : List Str) (xs : List Sl) : En := xs ++ List.replicate (N.length - xs.length) .un
theorem rep_args {m : Dck} {B : Addr → Prop} {H : Hp} {t : Int} {N : List Str} (al : Al B H) (pb : ∀ a, m.pl a → B a) (ok : m.ok H t) : ∀ {xs : List Sl} {vs : List V}, xs.length = vs.length →
    (∀ i : Nat, RepS K m B B H xs[i]? (vs[i]?.map some)) → (∀ x ∈ xs, ∀ ds, x ≠ .own ds) → Rep K m B B (startE N xs) (L2.start N vs) H t := by
  intro xs vs hl hs hn
  refine ⟨al, pb, fun _ h => h, ok, ?_, fun i => ?_, fun i j p ds es h1 => ?_⟩
  · unfold startE L2.start
    rw [List.length_append, List.length_append, List.length_map, List.length_replicate, List.length_replicate, hl]
  · unfold startE L2.start
    by_cases hi : i < xs.length
    · rw [List.getElem?_append_left hi, List.getElem?_append_left (by rw [List.length_map, ← hl]; exact hi), List.getElem?_map]
      exact hs i
    · rw [List.getElem?_append_right (by omega)]
      cases q : (List.replicate (N.length - xs.length) Sl.un)[i - xs.length]? with
      | none => trivial
      | some y =>
        rw [List.getElem?_replicate] at q
        split at q
        · cases q
          trivial
        · cases q
  · exfalso
    unfold startE at h1
    by_cases hi : i < xs.length
    · rw [List.getElem?_append_left hi, List.getElem?_eq_getElem hi] at h1
      exact hn _ (List.getElem_mem hi) ds (Option.some.inj h1)
    · rw [List.getElem?_append_right (by omega), List.getElem?_replicate] at h1
      split at h1
      · cases h1
      · cases h1
theorem rep_dats {m : Dck} {B : Addr → Prop} {H : Hp} : ∀ {ds : List PyData} {vs : List V}, RpA K B H ds vs → ∀ i : Nat, RepS K m B B H (ds.map Sl.dat)[i]? (vs[i]?.map some) := by
  intro ds vs r i
  rw [List.getElem?_map]
  cases q : ds[i]? with
  | none => trivial
  | some d =>
    obtain ⟨v, hv, rv⟩ := r.get q
    exact ⟨v, by rw [hv]; rfl, rv⟩
theorem cn_def {m : Dck} {B : Addr → Prop} {H : Hp} {Q : VK} {k : PK} (hq : ∀ v d H' t', Xt m.pl H H' → m.ok H' t' → k d t' → Rp K B H' d v → Q v H') :
    Cn K m B H B H { nx := fun _ t' => k .none t', rt := k } { nx := fun _ H' => Q .non H', rt := Q } :=
  ⟨fun f r h => hq .non .none _ _ f.x0 r.ok h (rp_non.mpr rfl), fun _ _ h => h.elim, fun _ _ h => h.elim, fun x k h r => hq _ _ _ _ x k h r⟩
/-- a def over data -/
theorem okA {P : Program} {w : World} {mg : Str → Option Value} {base : Heap} {x : Str} {st : Stmt} {f : Addr} {fd : FuncData} {N ps : List Str} {k : Nat} (h : Has K mg x st ps f fd) (S : FnScope N ps (defScope st)) (b : AS K) (p : Pm)
    (hb : ∀ (cd : Value) (A : Around) (out : List Env) (s : Shared) (H : Hp) (E : XK), A.guards = some [] → Room k (A.deeper (envOfC x (defScope st) s.heap.objs.size f cd)) → ∃ ts, PSs (cxOf CX0 P w K mg base N x (defScope st) f cd A out s H E).nox (defBody st) ts ∧ ts = b.ts)
    (hw : ∀ ds t (kk : PK), p.w ds t kk → ds.length = ps.length ∧ b.wp (startE N (ds.map Sl.dat)) t { nx := fun _ t' => kk .none t', rt := kk }) : FnG P w K mg base CX0 (k + 1) f fd ps (spA K p) := by
  refine okG h.F S (fun vs H Q E h => ?_) (fun cd A out s H vs Q E hgd hr h => ?_)
  · obtain ⟨m, B, t, ds, al, pb, ok, ra, hp⟩ := h
    rw [← ra.length]
    exact (hw ds t _ hp).1
  · obtain ⟨m, B, t, ds, al, pb, ok, ra, hp⟩ := h
    obtain ⟨ts, hts, rfl⟩ := hb cd A out s H E hgd hr
    refine ⟨_, hts, ?_⟩
    have r : Rep K m B B (startE N (ds.map Sl.dat)) (L2.start N vs) H t := rep_args al pb ok (by rw [List.length_map]; exact ra.length) (rep_dats ra) (fun x hx es => by
      obtain ⟨d, _, rfl⟩ := List.mem_map.mp hx
      intro z
      cases z)
    refine b.ok (cn_def (k := fun d t' => ∀ v H', Xt m.pl H H' → m.ok H' t' → Rp K B H' d v → Q v H') fun v d H' t' x k hk rv => hk v H' x k rv) ⟨⟨fun _ h => h, fun _ h => .inl h⟩, Xt.refl (m.al ok), fun _ h => .inl h, Xt.refl al⟩ r (hw ds t _ hp).2
theorem okD {P : Program} {w : World} {mg : Str → Option Value} {base : Heap} {x : Str} {st : Stmt} {f : Addr} {fd : FuncData} {N ps : List Str} {k : Nat} {M : Dck → Prop} (h : Has K mg x st ps f fd) (S : FnScope N ps (defScope st)) (b : AS K) (p : Pm)
    (hb : ∀ (cd : Value) (A : Around) (out : List Env) (s : Shared) (H : Hp) (E : XK), A.guards = some [] → Room k (A.deeper (envOfC x (defScope st) s.heap.objs.size f cd)) → ∃ ts, PSs (cxOf CX0 P w K mg base N x (defScope st) f cd A out s H E).nox (defBody st) ts ∧ ts = b.ts)
    (hw : ∀ ds t (kk : PK), p.w ds t kk → ds.length + 1 = ps.length ∧ b.wp (startE N (.deck M :: ds.map Sl.dat)) t { nx := fun _ t' => kk .none t', rt := kk }) : FnG P w K mg base CX0 (k + 1) f fd ps (spD K M p) := by
  refine okG h.F S (fun vs H Q E h => ?_) (fun cd A out s H vs Q E hgd hr h => ?_)
  · obtain ⟨m, B, t, ds, ws, rfl, hM, al, pb, ok, ra, hp⟩ := h
    rw [List.length_cons, ← ra.length]
    exact (hw ds t _ hp).1
  · obtain ⟨m, B, t, ds, ws, rfl, hM, al, pb, ok, ra, hp⟩ := h
    obtain ⟨ts, hts, rfl⟩ := hb cd A out s H E hgd hr
    refine ⟨_, hts, ?_⟩
    have r : Rep K m B B (startE N (.deck M :: ds.map Sl.dat)) (L2.start N (.ref m.D :: ws)) H t := rep_args al pb ok (by rw [List.length_cons, List.length_cons, List.length_map, ra.length]) (fun i => by
      cases i with
      | zero => exact ⟨rfl, hM⟩
      | succ i =>
        rw [List.getElem?_cons_succ, List.getElem?_cons_succ]
        exact rep_dats ra i) (fun x hx es => by
      rcases List.mem_cons.mp hx with rfl | hx
      · intro z
        cases z
      · obtain ⟨d, _, rfl⟩ := List.mem_map.mp hx
        intro z
        cases z)
    refine b.ok (cn_def (k := fun d t' => ∀ v H', Xt m.pl H H' → m.ok H' t' → Rp K B H' d v → Q v H') fun v d H' t' x k hk rv => hk v H' x k rv) ⟨⟨fun _ h => h, fun _ h => .inl h⟩, Xt.refl (m.al ok), fun _ h => .inl h, Xt.refl al⟩ r (hw ds t _ hp).2
/-! ### the law -/
def spLaw (K : PySem.W.Frag) : Sp := fun vs H Q _ => ∃ (a : Addr) (ns : List Int), vs = [.ref a] ∧ SqL K H a (ns.map V.int) ∧ ∀ H', Q (.bl true) H'
/-- the deck is made -/
def spM (K : PySem.W.Frag) (M : Dck → Prop) : Sp := fun vs H Q _ => ∃ (a : Addr) (ns : List Int), vs = [.ref a] ∧ SqL K H a (ns.map V.int) ∧ ∀ m H', M m → m.ok H' 0 → Q (.ref m.D) H'
theorem okLaw {P : Program} {w : World} {mg : Str → Option Value} {base : Heap} {x : Str} {st : Stmt} {f : Addr} {fd : FuncData} {N : List Str} {p : Str} {k : Nat} {M : Dck → Prop} (h : Has K mg x st [p] f fd) (S : FnScope N [p] (defScope st)) (b : AS K)
    (hb : ∀ (cd : Value) (A : Around) (out : List Env) (s : Shared) (H : Hp) (E : XK), A.guards = some [] → Room k (A.deeper (envOfC x (defScope st) s.heap.objs.size f cd)) → ∃ ts, PSs (cxOf CX0 P w K mg base N x (defScope st) f cd A out s H E).nox (defBody st) ts ∧ ts = tSeq (tAsg (tCall (spM K M) [] E0 (tCons (tVar 0) tNil)) (gName 1)) b.ts)
    (hN : 2 ≤ N.length) (hw : b.wp (startE N [.un, .deck M]) 0 { nx := fun _ _ => False, rt := fun d _ => d = .bool true }) : FnG P w K mg base CX0 (k + 1) f fd [p] (spLaw K) := by
  refine okG h.F S (fun vs H Q E h => ?_) (fun cd A out s H vs Q E hgd hr h => ?_)
  · obtain ⟨a, ns, rfl, _⟩ := h
    rfl
  · obtain ⟨a, ns, rfl, hS, q⟩ := h
    obtain ⟨ts, hts, rfl⟩ := hb cd A out s H E hgd hr
    refine ⟨_, hts, ?_⟩
    refine ⟨.ref a, rfl, a, ns, rfl, hS, fun m H' hM ok => ?_⟩
    have e1 : (L2.start N [V.ref a]).set 1 (some (.ref m.D)) = L2.start N [.ref a, .ref m.D] := by
      unfold L2.start
      match N, hN with
      | x :: y :: r, _ => rfl
    show b.ts _ ((L2.start N [V.ref a]).set 1 (some (.ref m.D))) H'
    rw [e1]
    have r : Rep K m m.pl m.pl (startE N [.un, .deck M]) (L2.start N [.ref a, .ref m.D]) H' 0 := rep_args (m.al ok) (fun _ h => h) ok rfl (fun i => by
      match i with
      | 0 => trivial
      | 1 => exact ⟨rfl, hM⟩
      | i + 2 => trivial) (fun x hx es => by
      simp only [List.mem_cons, List.not_mem_nil, or_false] at hx
      rcases hx with rfl | rfl <;> (intro z; cases z))
    refine b.ok (B1 := m.pl) (H1 := H') (k := { nx := fun _ _ => False, rt := fun d _ => d = .bool true }) ⟨fun _ _ h => h.elim, fun _ _ h => h.elim, fun _ _ h => h.elim, fun {v d H t} x k h r => ?_⟩ ⟨⟨fun _ h => h, fun _ h => .inl h⟩, Xt.refl (m.al ok), fun _ h => .inl h, Xt.refl (m.al ok)⟩ r hw
    obtain rfl : d = .bool true := h
    rw [rp_bl.mp r]
    exact q _
end
end CG

/-! Part 17: the wishes, as equations. -/
namespace CG
open PySem PySem.Spec PyProof.Rows L2
section
variable {K : PySem.W.Frag}
theorem w_AE_var  (i : Nat) : (AE.var K i).wp = fun e t k => rdS e[i]? fun d => k d t := rfl
theorem t_AE_var  (i : Nat) : (AE.var K i).te = tVar i := rfl
theorem w_AE_int  (i : Int) : (AE.int K i).wp = fun _ t k => k (.int i) t := rfl
theorem t_AE_int  (i : Int) : (AE.int K i).te = tC (.int i) := rfl
theorem w_AE_bl  (b : Bool) : (AE.bl K b).wp = fun _ t k => k (.bool b) t := rfl
theorem t_AE_bl  (b : Bool) : (AE.bl K b).te = tC (.bl b) := rfl
theorem w_AE_str  (z : Str) : (AE.str K z).wp = fun _ t k => k (.str z) t := rfl
theorem t_AE_str  (z : Str) : (AE.str K z).te = tC (.str z) := rfl
theorem w_AE_non  : (AE.non K).wp = fun _ t k => k .none t := rfl
theorem t_AE_non  : (AE.non K).te = tC .non := rfl
theorem w_AE_op (o : A2 K) (a b : AE K) : (AE.op o a b).wp = fun e t k => a.wp e t fun x t1 => b.wp e t1 fun y t2 => o.f x y fun z => k z t2 := rfl
theorem t_AE_op (o : A2 K) (a b : AE K) : (AE.op o a b).te = tOp o.r a.te b.te := rfl
theorem w_AE_un (o : A1 K) (a : AE K) : (AE.un o a).wp = fun e t k => a.wp e t fun x t1 => o.f x fun z => k z t1 := rfl
theorem t_AE_un (o : A1 K) (a : AE K) : (AE.un o a).te = tUn o.r a.te := rfl
theorem w_AA_nil  : (AA.nil K).wp = fun _ t k => k [] t := rfl
theorem t_AA_nil  : (AA.nil K).ta = tNil := rfl
theorem w_AA_cons (a : AE K) (b : AA K) : (AA.cons a b).wp = fun e t k => a.wp e t fun x t1 => b.wp e t1 fun xs t2 => k (x :: xs) t2 := rfl
theorem t_AA_cons (a : AE K) (b : AA K) : (AA.cons a b).ta = tCons a.te b.ta := rfl
theorem w_AE_tup (a : AA K) : (AE.tup a).wp = fun e t k => a.wp e t fun ds t1 => ds.length ≤ 100000 ∧ k (.tuple ds) t1 := rfl
theorem t_AE_tup (a : AA K) : (AE.tup a).te = tTup a.ta := rfl
theorem w_AE_lst (a : AA K) : (AE.lst a).wp = fun e t k => a.wp e t fun ds t1 => ds.length ≤ 100000 ∧ k (.list ds) t1 := rfl
theorem t_AE_lst (a : AA K) : (AE.lst a).te = tLst a.ta := rfl
theorem w_AE_cb (o : AC K) (a : AA K) : (AE.cb o a).wp = fun e t k => a.wp e t fun ds t1 => o.f ds fun z => k z t1 := rfl
theorem t_AE_cb (o : AC K) (a : AA K) : (AE.cb o a).te = tCB o.r a.ta := rfl
theorem w_AE_call (p : Pm) (E : XK) (a : AA K) : (AE.call p E a).wp = fun e t k => a.wp e t fun ds t1 => p.w ds t1 k := rfl
theorem t_AE_call (p : Pm) (E : XK) (a : AA K) : (AE.call p E a).te = tCall (spA K p) [] E a.ta := rfl
theorem w_AE_callD (M : Dck → Prop) (p : Pm) (E : XK) (i : Nat) (a : AA K) : (AE.callD M p E i a).wp = fun e t k => dkS e[i]? M ∧ a.wp e t fun ds t1 => p.w ds t1 k := rfl
theorem t_AE_callD (M : Dck → Prop) (p : Pm) (E : XK) (i : Nat) (a : AA K) : (AE.callD M p E i a).te = tCall (spD K M p) [] E (tCons (tVar i) a.ta) := rfl
theorem w_AT_test (a : AE K) : (AT.test a).wp = fun e t k => a.wp e t fun d t1 => unB d fun b => k b t1 := rfl
theorem t_AT_test (a : AE K) : (AT.test a).tt = tTest a.te := rfl
theorem w_AT_b (a : AE K) : (AT.b a).wp = fun e t k => a.wp e t fun d t1 => unB d fun b => k b t1 := rfl
theorem t_AT_b (a : AE K) : (AT.b a).tt = tB a.te := rfl
theorem w_AT_not (a : AT K) : (AT.not a).wp = fun e t k => a.wp e t fun b t1 => k (!b) t1 := rfl
theorem t_AT_not (a : AT K) : (AT.not a).tt = tNot a.tt := rfl
theorem w_AT_and (a b : AT K) : (AT.and a b).wp = fun e t k => a.wp e t fun c t1 => if c = true then b.wp e t1 k else k false t1 := rfl
theorem t_AT_and (a b : AT K) : (AT.and a b).tt = tAnd a.tt b.tt := rfl
theorem w_AT_or (a b : AT K) : (AT.or a b).wp = fun e t k => a.wp e t fun c t1 => if c = true then k true t1 else b.wp e t1 k := rfl
theorem t_AT_or (a b : AT K) : (AT.or a b).tt = tOr a.tt b.tt := rfl
theorem w_AT_yes  : (AT.yes K).wp = fun _ t k => k true t := rfl
theorem t_AT_yes  : (AT.yes K).tt = tYes := rfl
theorem w_AE_ifx (c : AT K) (a b : AE K) : (AE.ifx c a b).wp = fun e t k => c.wp e t fun z t1 => if z = true then a.wp e t1 k else b.wp e t1 k := rfl
theorem t_AE_ifx (c : AT K) (a b : AE K) : (AE.ifx c a b).te = tIf c.tt a.te b.te := rfl
theorem w_AE_and (a b : AE K) : (AE.and a b).wp = fun e t k => a.wp e t fun d t1 => unB d fun c => if c = true then b.wp e t1 k else k (.bool false) t1 := rfl
theorem t_AE_and (a b : AE K) : (AE.and a b).te = tAndV a.te b.te := rfl
theorem w_AE_or (a b : AE K) : (AE.or a b).wp = fun e t k => a.wp e t fun d t1 => unB d fun c => if c = true then k (.bool true) t1 else b.wp e t1 k := rfl
theorem t_AE_or (a b : AE K) : (AE.or a b).te = tOrV a.te b.te := rfl
theorem w_AE_not (a : AE K) : (AE.not a).wp = fun e t k => a.wp e t fun d t1 => unB d fun c => k (.bool (!c)) t1 := rfl
theorem t_AE_not (a : AE K) : (AE.not a).te = tNotV a.te := rfl
theorem w_AO_none  : (AO.none K).wp = fun _ t k => k .none t := rfl
theorem t_AO_none  : (AO.none K).tO = tNoPart := rfl
theorem w_AO_some (a : AE K) : (AO.some a).wp = fun e t k => a.wp e t fun d t1 => unI d fun i => k (.some i) t1 := rfl
theorem t_AO_some (a : AE K) : (AO.some a).tO = tPart a.te := rfl
theorem w_AI_tup (a : AE K) : (AI.tup a).wp = fun e t k => a.wp e t fun d t1 => unT d fun ds => k ds t1 := rfl
theorem t_AI_tup (a : AE K) : (AI.tup a).ti = iTup K a.te := rfl
theorem w_AI_lst (a : AE K) : (AI.lst a).wp = fun e t k => a.wp e t fun d t1 => unL d fun ds => k ds t1 := rfl
theorem t_AI_lst (a : AE K) : (AI.lst a).ti = iList K a.te := rfl
theorem w_AI_rng (a : AA K) : (AI.rng a).wp = fun e t k => a.wp e t fun ds t1 => unI1 ds fun n => (-(2 ^ 62) ≤ n ∧ n < 2 ^ 62) ∧ k (rngD 0 n) t1 := rfl
theorem t_AI_rng (a : AA K) : (AI.rng a).ti = iRng1 a.ta := rfl
theorem w_AI_rng2 (a : AA K) : (AI.rng2 a).wp = fun e t k => a.wp e t fun ds t1 => unI2 ds fun i j => (-(2 ^ 62) ≤ i ∧ i < 2 ^ 62 ∧ -(2 ^ 62) ≤ j ∧ j < 2 ^ 62) ∧ k (rngD i j) t1 := rfl
theorem t_AI_rng2 (a : AA K) : (AI.rng2 a).ti = iRng2 a.ta := rfl
theorem w_AI_enum (a : AA K) : (AI.enum a).wp = fun e t k => a.wp e t fun ds t1 => unT1 ds fun es => k (enumD es) t1 := rfl
theorem t_AI_enum (a : AA K) : (AI.enum a).ti = iEnumT K a.ta := rfl
theorem w_AI_rev (a : AE K) : (AI.rev a).wp = fun e t k => a.wp e t fun d t1 => unT d fun ds => k ds.reverse t1 := rfl
theorem t_AI_rev (a : AE K) : (AI.rev a).ti = RT.iRevA K a.te := rfl
theorem w_AG_name  (i : Nat) : (AG.name K i).wp = fun d e k => k (e.set i (.dat d)) := rfl
theorem t_AG_name  (i : Nat) : (AG.name K i).tg = gName i := rfl
theorem w_AGs_nil  : (AGs.nil K).wp = fun ds e k => ds = [] ∧ k e := rfl
theorem t_AGs_nil  : (AGs.nil K).tg = gNil := rfl
theorem n_AGs_nil  : (AGs.nil K).n = 0 := rfl
theorem w_AGs_cons (i : Nat) (g : AGs K) : (AGs.cons i g).wp = fun ds e k => hdW ds fun d ds => g.wp ds (e.set i (.dat d)) k := rfl
theorem t_AGs_cons (i : Nat) (g : AGs K) : (AGs.cons i g).tg = gCons (gName i) g.tg := rfl
theorem n_AGs_cons (i : Nat) (g : AGs K) : (AGs.cons i g).n = g.n + 1 := rfl
theorem w_AG_tup (g : AGs K) : (AG.tup g).wp = fun d e k => unT d fun ds => g.wp ds e k := rfl
theorem t_AG_tup (g : AGs K) : (AG.tup g).tg = gTup K g.n g.tg := rfl
theorem w_AF_ae (a : AF K) : (AF.ae a).wp = fun e t k => a.wp e t fun ds t1 => k (.list ds) t1 := rfl
theorem t_AF_ae (a : AF K) : (AF.ae a).te = a.te := rfl
theorem w_AF_lst (a : AA K) : (AF.lst a).wp = fun e t k => a.wp e t fun ds t1 => ds.length ≤ 100000 ∧ k ds t1 := rfl
theorem t_AF_lst (a : AA K) : (AF.lst a).te = tLst a.ta := rfl
theorem w_AF_lc (it : AI K) (g : AG K) (c : AT K) (a : AE K) (vs : List Nat) (hs : ∀ j ∈ g.sl, j ∈ vs) : (AF.lc it g c a vs hs).wp = fun e t k => it.wp e t fun ds t1 => ds.length ≤ 1000000 ∧ ∃ I : Nat → List PyData → Int → Prop, I 0 [] t1 ∧
    (∀ (i : Nat) d acc t', ds[i]? = some d → I i acc t' → g.wp d (wipeE e vs) fun e2 => c.wp e2 t' fun b t3 => if b = true then a.wp e2 t3 fun x t4 => I (i + 1) (acc ++ [x]) t4 else I (i + 1) acc t3) ∧
    ∀ acc t', I ds.length acc t' → k acc t' := rfl
theorem t_AF_lc (it : AI K) (g : AG K) (c : AT K) (a : AE K) (vs : List Nat) (hs : ∀ j ∈ g.sl, j ∈ vs) : (AF.lc it g c a vs hs).te = tLc it.ti g.tg c.tt a.te vs := rfl
theorem w_AF_list (a : AA K) : (AF.list a).wp = fun e t k => a.wp e t fun ds t1 => unS1 ds fun es => k es t1 := rfl
theorem t_AF_list (a : AA K) : (AF.list a).te = tCB (rLstU K) a.ta := rfl
theorem w_AE_sl (a : AE K) (lo hi : AO K) : (AE.sl a lo hi).wp = fun e t k => a.wp e t fun d t1 => lo.wp e t1 fun l t2 => hi.wp e t2 fun u t3 => slF d l u fun z => k z t3 := rfl
theorem t_AE_sl (a : AE K) (lo hi : AO K) : (AE.sl a lo hi).te = tSl (rSlU K) a.te lo.tO hi.tO := rfl
theorem w_AE_revT (a : AE K) : (AE.revT a).wp = fun e t k => a.wp e t fun d t1 => unT d fun ds => k (.tuple ds.reverse) t1 := rfl
theorem t_AE_revT (a : AE K) : (AE.revT a).te = tRevT K a.te := rfl
theorem w_AE_chain (o o' : A2 K) (a b c : AE K) : (AE.chain o o' a b c).wp = fun e t k => a.wp e t fun x t1 => b.wp e t1 fun y t2 => o.f x y fun z => unB z fun u => if u = true then c.wp e t2 fun w t3 => o'.f y w fun z => unB z fun u' => k (.bool u') t3 else k (.bool false) t2 := rfl
theorem t_AE_chain (o o' : A2 K) (a b c : AE K) : (AE.chain o o' a b c).te = tChain o.r o'.r a.te b.te c.te := rfl
theorem w_AE_isi (T : String) (f : PyData → Bool) (hf : ∀ d, kitB (tyName d) T = some (f d)) (a : AE K) : (AE.isi T f hf a).wp = fun e t k => a.wp e t fun d t1 => k (.bool (f d)) t1 := rfl
theorem t_AE_isi (T : String) (f : PyData → Bool) (hf : ∀ d, kitB (tyName d) T = some (f d)) (a : AE K) : (AE.isi T f hf a).te = tCB (rIsi K) (tCons a.te (tCons (tC (.ty T)) tNil)) := rfl
theorem w_AE_view (a : AE K) : (AE.view a).wp = fun e t k => a.wp (viewE e) t fun d t1 => flat d = true ∧ k d t1 := rfl
theorem t_AE_view (a : AE K) : (AE.view a).te = a.te := rfl
theorem w_AT_view (a : AT K) : (AT.view a).wp = fun e t k => a.wp (viewE e) t k := rfl
theorem t_AT_view (a : AT K) : (AT.view a).tt = a.tt := rfl
theorem w_AE_ownIx (i : Nat) (b : AE K) : (AE.ownIx i b).wp = fun e t k => owS e[i]? fun ds => b.wp e t fun y t1 => unI y fun j => atW ds j fun d => k d t1 := rfl
theorem t_AE_ownIx (i : Nat) (b : AE K) : (AE.ownIx i b).te = tOp (rIx K) (tVar i) b.te := rfl
theorem w_AE_ownTup  (i : Nat) : (AE.ownTup K i).wp = fun e t k => owS e[i]? fun ds => k (.tuple ds) t := rfl
theorem t_AE_ownTup  (i : Nat) : (AE.ownTup K i).te = tCB (rTupU K) (tCons (tVar i) tNil) := rfl
theorem w_AE_ownSl (i : Nat) (lo hi : AO K) : (AE.ownSl i lo hi).wp = fun e t k => owS e[i]? fun ds => lo.wp e t fun l t2 => hi.wp e t2 fun u t3 => k (.list (cutD ds l u)) t3 := rfl
theorem t_AE_ownSl (i : Nat) (lo hi : AO K) : (AE.ownSl i lo hi).te = tSl (rSlU K) (tVar i) lo.tO hi.tO := rfl
theorem w_AS_nop  : (AS.nop K).wp = fun e t k => k.nx e t := rfl
theorem t_AS_nop  : (AS.nop K).ts = tNext := rfl
theorem w_AS_brk  : (AS.brk K).wp = fun e t k => k.bk e t := rfl
theorem t_AS_brk  : (AS.brk K).ts = tBreak := rfl
theorem w_AS_cnt  : (AS.cnt K).wp = fun e t k => k.ct e t := rfl
theorem t_AS_cnt  : (AS.cnt K).ts = tCont := rfl
theorem w_AS_seq (a b : AS K) : (AS.seq a b).wp = fun e t k => a.wp e t { k with nx := fun e' t' => b.wp e' t' k } := rfl
theorem t_AS_seq (a b : AS K) : (AS.seq a b).ts = tSeq a.ts b.ts := rfl
theorem w_AS_set (i : Nat) (a : AE K) : (AS.set i a).wp = fun e t k => a.wp e t fun d t1 => k.nx (e.set i (.dat d)) t1 := rfl
theorem t_AS_set (i : Nat) (a : AE K) : (AS.set i a).ts = tAsg a.te (gName i) := rfl
theorem w_AS_asg (a : AE K) (g : AG K) : (AS.asg a g).wp = fun e t k => a.wp e t fun d t1 => g.wp d e fun e' => k.nx e' t1 := rfl
theorem t_AS_asg (a : AE K) (g : AG K) : (AS.asg a g).ts = tAsg a.te g.tg := rfl
theorem w_AS_drop (a : AE K) : (AS.drop a).wp = fun e t k => a.wp e t fun _ t1 => k.nx e t1 := rfl
theorem t_AS_drop (a : AE K) : (AS.drop a).ts = tDrop a.te := rfl
theorem w_AS_par (i j : Nat) (a : AA K) : (AS.par i j a).wp = fun e t k => a.wp e t fun ds t1 => un2 ds fun x y => k.nx ((e.set i (.dat x)).set j (.dat y)) t1 := rfl
theorem t_AS_par (i j : Nat) (a : AA K) : (AS.par i j a).ts = tPar i j a.ta := rfl
theorem w_AS_par3 (i j l : Nat) (a : AA K) : (AS.par3 i j l a).wp = fun e t k => a.wp e t fun ds t1 => un3 ds fun x y z => k.nx (((e.set i (.dat x)).set j (.dat y)).set l (.dat z)) t1 := rfl
theorem t_AS_par3 (i j l : Nat) (a : AA K) : (AS.par3 i j l a).ts = tPar3 i j l a.ta := rfl
theorem w_AS_ret (a : AE K) : (AS.ret a).wp = fun e t k => a.wp e t k.rt := rfl
theorem t_AS_ret (a : AE K) : (AS.ret a).ts = tRet a.te := rfl
theorem w_AS_retN  : (AS.retN K).wp = fun e t k => k.rt .none t := rfl
theorem t_AS_retN  : (AS.retN K).ts = tRetN := rfl
theorem w_AS_ifS (c : AT K) (a b : AS K) : (AS.ifS c a b).wp = fun e t k => c.wp e t fun z t1 => if z = true then a.wp e t1 k else b.wp e t1 k := rfl
theorem t_AS_ifS (c : AT K) (a b : AS K) : (AS.ifS c a b).ts = tIfS c.tt a.ts b.ts := rfl
theorem w_AS_for (it : AI K) (g : AG K) (s : AS K) : (AS.for it g s).wp = fun e t k => it.wp e t fun ds t1 => ∃ I : Nat → En → Int → Prop, I 0 e t1 ∧
    (∀ (i : Nat) d e' t', ds[i]? = some d → I i e' t' → g.wp d e' fun e2 => s.wp e2 t' { k with nx := I (i + 1), ct := I (i + 1), bk := k.nx }) ∧ ∀ e' t', I ds.length e' t' → k.nx e' t' := rfl
theorem t_AS_for (it : AI K) (g : AG K) (s : AS K) : (AS.for it g s).ts = tFor it.ti g.tg s.ts := rfl
theorem w_AS_while (c : AT K) (s : AS K) : (AS.while c s).wp = fun e t k => ∃ I : Nat → En → Int → Prop, (∃ n, I n e t) ∧
    ∀ n e' t', I n e' t' → c.wp e' t' fun b t1 => if b = true then s.wp e' t1 { k with nx := fun e2 t2 => ∃ n', n' < n ∧ I n' e2 t2, ct := fun e2 t2 => ∃ n', n' < n ∧ I n' e2 t2, bk := k.nx } else k.nx e' t1 := rfl
theorem t_AS_while (c : AT K) (s : AS K) : (AS.while c s).ts = tWhile c.tt s.ts := rfl
theorem w_AS_setOwn (i : Nat) (a : AF K) : (AS.setOwn i a).wp = fun e t k => a.wp e t fun ds t1 => k.nx (e.set i (.own ds)) t1 := rfl
theorem t_AS_setOwn (i : Nat) (a : AF K) : (AS.setOwn i a).ts = tAsg a.te (gName i) := rfl
theorem w_AS_append (i : Nat) (a : AA K) : (AS.append i a).wp = fun e t k => owS e[i]? fun ds => ds.length < 100000 ∧ a.wp e t fun es t1 => un1 es fun d => k.nx (e.set i (.own (ds ++ [d]))) t1 := rfl
theorem t_AS_append (i : Nat) (a : AA K) : (AS.append i a).ts = tDrop (tBM K "list" rAppend (tVar i) a.ta) := rfl
theorem w_AS_setAt (i : Nat) (a b : AE K) : (AS.setAt i a b).wp = fun e t k => owS e[i]? fun ds => b.wp e t fun d t1 => a.wp e t1 fun y t2 => unI y fun n => ∃ j, ixN ds.length n = some j ∧ k.nx (e.set i (.own (ds.set j d))) t2 := rfl
theorem t_AS_setAt (i : Nat) (a b : AE K) : (AS.setAt i a b).ts = tAsg b.te (gSub (tVar i) a.te rSetL) := rfl
theorem w_AS_frz (i : Nat) (s : AS K) : (AS.frz i s).wp = fun e t k => owS e[i]? fun ds => s.wp (e.set i (.dat (.list ds))) t k := rfl
theorem t_AS_frz (i : Nat) (s : AS K) : (AS.frz i s).ts = s.ts := rfl
theorem w_AS_fgt (i : Nat) (s : AS K) : (AS.fgt i s).wp = fun e t k => s.wp (e.set i .un) t k := rfl
theorem t_AS_fgt (i : Nat) (s : AS K) : (AS.fgt i s).ts = s.ts := rfl
theorem w_AS_never  : (AS.never K).wp = fun _ _ _ => False := rfl
theorem t_AS_never  : (AS.never K).ts = tNever := rfl
theorem w_AF_lstRg (a : AE K) : (AF.lstRg a).wp = fun e t k => a.wp e t fun d t1 => unI d fun n => RgB 0 n ∧ k (rngD 0 n) t1 := rfl
theorem t_AF_lstRg (a : AE K) : (AF.lstRg a).te = tLstRg (tRg1 a.te) := rfl
theorem w_AE_tupRg (a : AE K) : (AE.tupRg a).wp = fun e t k => a.wp e t fun d t1 => unI d fun n => RgB 0 n ∧ k (.tuple (rngD 0 n)) t1 := rfl
theorem t_AE_tupRg (a : AE K) : (AE.tupRg a).te = tTupRg (tRg1 a.te) := rfl
theorem w_AS_insert (i : Nat) (a : AA K) : (AS.insert i a).wp = fun e t k => owS e[i]? fun ds => a.wp e t fun es t1 => un2 es fun x d => unI x fun j => (ds.length < 100000 ∧ 0 ≤ j ∧ j < 1000000) ∧ k.nx (e.set i (.own (ds.take j.toNat ++ [d] ++ ds.drop j.toNat))) t1 := rfl
theorem t_AS_insert (i : Nat) (a : AA K) : (AS.insert i a).ts = tDrop (tBM K "list" rInsU (tVar i) a.ta) := rfl
theorem w_AS_aug (i : Nat) (o : A2 K) (a : AE K) : (AS.aug i o a).wp = fun e t k => rdS e[i]? fun x => a.wp e t fun y t1 => o.f x y fun z => k.nx (e.set i (.dat z)) t1 := rfl
theorem t_AS_aug (i : Nat) (o : A2 K) (a : AE K) : (AS.aug i o a).ts = tAug i a.te o.r := rfl
theorem w_AS_parB (i j : Nat) (hij : i ≠ j) (a : AE K) (b : AF K) : (AS.parB i j hij a b).wp = fun e t k => a.wp e t fun x t1 => b.wp e t1 fun ds t2 => k.nx ((e.set i (.dat x)).set j (.own ds)) t2 := rfl
theorem t_AS_parB (i j : Nat) (hij : i ≠ j) (a : AE K) (b : AF K) : (AS.parB i j hij a b).ts = tPar i j (tCons a.te (tCons b.te tNil)) := rfl
theorem w_AS_par3B (i j l : Nat) (a b : AE K) (d : AF K) : (AS.par3B i j l a b d).wp = fun e t k => a.wp e t fun x t1 => b.wp e t1 fun y t2 => d.wp e t2 fun ds t3 => k.nx (((e.set i (.dat x)).set j (.dat y)).set l (.own ds)) t3 := rfl
theorem t_AS_par3B (i j l : Nat) (a b : AE K) (d : AF K) : (AS.par3B i j l a b d).ts = tPar3 i j l (tCons a.te (tCons b.te (tCons d.te tNil))) := rfl
theorem w_AS_parA (i j : Nat) (hij : i ≠ j) (a : AF K) (b : AE K) : (AS.parA i j hij a b).wp = fun e t k => a.wp e t fun ds t1 => b.wp e t1 fun y t2 => k.nx ((e.set i (.own ds)).set j (.dat y)) t2 := rfl
theorem t_AS_parA (i j : Nat) (hij : i ≠ j) (a : AF K) (b : AE K) : (AS.parA i j hij a b).ts = tPar i j (tCons a.te (tCons b.te tNil)) := rfl
theorem w_AS_tupA (i j : Nat) (a : AF K) (b : AE K) : (AS.tupA i j a b).wp = fun e t k => a.wp e t fun ds t1 => b.wp e t1 fun y t2 => k.nx ((e.set i (.own ds)).set j (.dat y)) t2 := rfl
theorem t_AS_tupA (i j : Nat) (a : AF K) (b : AE K) : (AS.tupA i j a b).ts = tAsg (tTup (tCons a.te (tCons b.te tNil))) (gTup K 2 (gCons (gName i) (gCons (gName j) gNil))) := rfl
theorem w_AS_tupB (i j : Nat) (a : AE K) (b : AF K) : (AS.tupB i j a b).wp = fun e t k => a.wp e t fun x t1 => b.wp e t1 fun ds t2 => k.nx ((e.set i (.dat x)).set j (.own ds)) t2 := rfl
theorem t_AS_tupB (i j : Nat) (a : AE K) (b : AF K) : (AS.tupB i j a b).ts = tAsg (tTup (tCons a.te (tCons b.te tNil))) (gTup K 2 (gCons (gName i) (gCons (gName j) gNil))) := rfl
theorem f_aAdd : (aAdd K).f = addF := rfl
theorem f_aMul : (aMul K).f = mulF := rfl
theorem f_aEq : (aEq K).f = eqF := rfl
theorem f_aNe : (aNe K).f = neF := rfl
theorem f_aIsN : (aIsN K).f = isNF := rfl
theorem f_aNotN : (aNotN K).f = notNF := rfl
theorem f_aIx : (aIx K).f = ixF := rfl
theorem f_aNeg : (aNeg K).f = negF := rfl
theorem f_aLen : (aLen K).f = lenF := rfl
theorem f_aRepr : (aRepr K).f = reprF := rfl
theorem f_aInt : (aInt K).f = intBF := rfl
theorem f_aIn : (aIn K).f = inF := rfl
theorem f_aNotIn : (aNotIn K).f = notInF := rfl
theorem f_aIsB : (aIsB K).f = isBF := rfl
theorem f_aIsNotB : (aIsNotB K).f = isNotBF := rfl
theorem f_aTup : (aTup K).f = tupF := rfl
theorem f_aI {C : Int → Int → Prop} {g : Int → Int → Int} : (aI K C g).f = intF C g := rfl
theorem f_aI0 {g : Int → Int → Int} : (aI0 K g).f = intF0 g := rfl
theorem f_aB0 {g : Int → Int → Bool} : (aB0 K g).f = boolF0 g := rfl
theorem f_aMin : (aMin K).f = twoF fun i j => if j < i then j else i := rfl
theorem f_aMax : (aMax K).f = twoF fun i j => if j > i then j else i := rfl
theorem t_aAdd : (aAdd K).r = rAddU K := rfl
theorem t_aMul : (aMul K).r = rMulU K := rfl
theorem t_aEq : (aEq K).r = rEqU K := rfl
theorem t_aNe : (aNe K).r = rNeU K := rfl
theorem t_aIsN : (aIsN K).r = rIsNU := rfl
theorem t_aNotN : (aNotN K).r = rNotNU := rfl
theorem t_aIx : (aIx K).r = rIx K := rfl
theorem t_aNeg : (aNeg K).r = rU fun i => .int (-i) := rfl
theorem t_aLen : (aLen K).r = rLenU K := rfl
theorem t_aRepr : (aRepr K).r = rRepr K := rfl
theorem t_aInt : (aInt K).r = rIntU := rfl
theorem t_aIn : (aIn K).r = rInU K := rfl
theorem t_aNotIn : (aNotIn K).r = rNotInU K := rfl
theorem t_aIsB : (aIsB K).r = rIsB := rfl
theorem t_aIsNotB : (aIsNotB K).r = rNotB := rfl
theorem t_aTup : (aTup K).r = rTupU K := rfl
theorem t_aMin : (aMin K).r = rMinU := rfl
theorem t_aMax : (aMax K).r = rMaxU := rfl
theorem t_aI {C : Int → Int → Prop} {g : Int → Int → Int} : (aI K C g).r = rI C fun i j => .int (g i j) := rfl
theorem t_aI0 {g : Int → Int → Int} : (aI0 K g).r = rI0 fun i j => .int (g i j) := rfl
theorem t_aB0 {g : Int → Int → Bool} : (aB0 K g).r = rI0 fun i j => .bl (g i j) := rfl
theorem dkS_deck {M : Dck → Prop} : dkS (some (.deck M)) M = True := by show (M = M) = True; simp
theorem rngD_length {lo hi : Int} : (rngD lo hi).length = (hi - lo).toNat := by unfold rngD; rw [List.length_map, List.length_range]
theorem rngD_get {lo hi : Int} {i : Nat} {d : PyData} (h : (rngD lo hi)[i]? = some d) : i < (hi - lo).toNat ∧ d = .int (lo + i) := by
  unfold rngD at h
  rw [List.getElem?_map] at h
  cases q : (List.range (hi - lo).toNat)[i]? with
  | none => rw [q] at h; cases h
  | some j =>
    rw [q] at h
    obtain ⟨hi, e⟩ := List.getElem?_eq_some_iff.mp q
    rw [List.getElem_range] at e
    subst e
    rw [List.length_range] at hi
    exact ⟨hi, (Option.some.inj h).symm⟩
theorem atW_of {ds : List PyData} {i : Int} {d : PyData} {k : PyData → Prop} (h : atI ds i = some d) (q : k d) : atW ds i k := ⟨d, h, q⟩
theorem atI_nn {α : Type} {xs : List α} {i : Nat} : atI xs (i : Int) = xs[i]? := by
  unfold atI ixN
  by_cases h : i < xs.length
  · rw [if_pos (by omega), if_pos (by omega)]
    simp
  · rw [if_pos (by omega), if_neg (by omega), List.getElem?_eq_none (by omega)]
    rfl
theorem atW_nn {ds : List PyData} {i : Int} {k : PyData → Prop} (h0 : 0 ≤ i) (h1 : i < ds.length) (h : k (ds.getD i.toNat .none)) : atW ds i k := by
  obtain ⟨j, rfl⟩ : ∃ j : Nat, i = j := ⟨i.toNat, by omega⟩
  refine ⟨_, ?_, h⟩
  have hj : j < ds.length := by omega
  have e1 : ((j : Int)).toNat = j := by omega
  rw [atI_nn, e1, List.getD_eq_getElem?_getD, List.getElem?_eq_getElem hj]
  rfl
theorem q_inL {d : PyData} {ds : List PyData} {k : PyData → Prop} : inF d (.list ds) k = (Cmp d (.list ds) ∧ k (.bool (ds.any fun z => PyData.eqv z d))) := by cases d <;> rfl
theorem q_inT {i : Int} {ds : List PyData} {k : PyData → Prop} : inF (.int i) (.tuple ds) k = (ds.all isI = true ∧ k (.bool (ds.any fun z => PyData.eqv z (.int i)))) := rfl
theorem q_notInL {d : PyData} {ds : List PyData} {k : PyData → Prop} : notInF d (.list ds) k = (Cmp d (.list ds) ∧ k (.bool (!ds.any fun z => PyData.eqv z d))) := by cases d <;> rfl
theorem q_notInT {i : Int} {ds : List PyData} {k : PyData → Prop} : notInF (.int i) (.tuple ds) k = (ds.all isI = true ∧ k (.bool (!ds.any fun z => PyData.eqv z (.int i)))) := rfl
theorem q_isB {a b : Bool} {k : PyData → Prop} : isBF (.bool a) (.bool b) k = k (.bool (decide (a = b))) := rfl
theorem q_isNotB {a b : Bool} {k : PyData → Prop} : isNotBF (.bool a) (.bool b) k = k (.bool (!decide (a = b))) := rfl
theorem q_addI {i j : Int} {k : PyData → Prop} : addF (.int i) (.int j) k = k (.int (i + j)) := rfl
theorem q_addT {ds es : List PyData} {k : PyData → Prop} : addF (.tuple ds) (.tuple es) k = (ds.length + es.length ≤ 100000 ∧ k (.tuple (ds ++ es))) := rfl
theorem q_addL {ds es : List PyData} {k : PyData → Prop} : addF (.list ds) (.list es) k = (ds.length + es.length ≤ 100000 ∧ k (.list (ds ++ es))) := rfl
theorem q_int {C : Int → Int → Prop} {g : Int → Int → Int} {i j : Int} {k : PyData → Prop} : intF C g (.int i) (.int j) k = (C i j ∧ k (.int (g i j))) := rfl
theorem q_int0 {g : Int → Int → Int} {i j : Int} {k : PyData → Prop} : intF0 g (.int i) (.int j) k = k (.int (g i j)) := rfl
theorem q_bool0 {g : Int → Int → Bool} {i j : Int} {k : PyData → Prop} : boolF0 g (.int i) (.int j) k = k (.bool (g i j)) := rfl
theorem q_mulI {i j : Int} {k : PyData → Prop} : mulF (.int i) (.int j) k = (CMul i j ∧ k (.int (i * j))) := rfl
theorem q_mulT {ds : List PyData} {n : Int} {k : PyData → Prop} : mulF (.tuple ds) (.int n) k = ((ds ≠ [] ∧ 2 ≤ n ∧ n ≤ 1000 ∧ ds.length ≤ 1000) ∧ k (.tuple (List.replicate n.toNat ds).flatten)) := rfl
theorem q_mulL {ds : List PyData} {n : Int} {k : PyData → Prop} : mulF (.list ds) (.int n) k = ((0 ≤ n ∧ n ≤ 1000 ∧ ds.length ≤ 1000) ∧ k (.list (List.replicate n.toNat ds).flatten)) := rfl
theorem q_eqI {i j : Int} {k : PyData → Prop} : eqF (.int i) (.int j) k = k (.bool (decide (i = j))) := rfl
theorem q_eqS {i j : Str} {k : PyData → Prop} : eqF (.str i) (.str j) k = k (.bool (decide (i = j))) := rfl
theorem q_neI {i j : Int} {k : PyData → Prop} : neF (.int i) (.int j) k = k (.bool (!decide (i = j))) := rfl
theorem q_neS {i j : Str} {k : PyData → Prop} : neF (.str i) (.str j) k = k (.bool (!decide (i = j))) := rfl
theorem q_isN {a : PyData} {k : PyData → Prop} : isNF a .none k = k (.bool (isNone a)) := by cases a <;> rfl
theorem q_notN {a : PyData} {k : PyData → Prop} : notNF a .none k = k (.bool (!isNone a)) := by cases a <;> rfl
theorem q_ixT {ds : List PyData} {i : Int} {k : PyData → Prop} : ixF (.tuple ds) (.int i) k = atW ds i k := rfl
theorem q_ixL {ds : List PyData} {i : Int} {k : PyData → Prop} : ixF (.list ds) (.int i) k = atW ds i k := rfl
theorem q_neg {i : Int} {k : PyData → Prop} : negF (.int i) k = k (.int (-i)) := rfl
theorem q_lenT {ds : List PyData} {k : PyData → Prop} : lenF [.tuple ds] k = k (.int ds.length) := rfl
theorem q_lenL {ds : List PyData} {k : PyData → Prop} : lenF [.list ds] k = k (.int ds.length) := rfl
theorem q_repr {d : PyData} {k : PyData → Prop} : reprF [d] k = (Shx d ∧ k (.str d.shown)) := rfl
theorem q_two {g : Int → Int → Int} {i j : Int} {k : PyData → Prop} : twoF g [.int i, .int j] k = k (.int (g i j)) := rfl
theorem q_intB {b : Bool} {k : PyData → Prop} : intBF [.bool b] k = k (.int (if b then 1 else 0)) := rfl
theorem q_tupT {ds : List PyData} {k : PyData → Prop} : tupF [.tuple ds] k = k (.tuple ds) := rfl
theorem q_tupL {ds : List PyData} {k : PyData → Prop} : tupF [.list ds] k = k (.tuple ds) := rfl
theorem q_slT {ds : List PyData} {lo hi : Option Int} {k : PyData → Prop} : slF (.tuple ds) lo hi k = k (.tuple (cutD ds lo hi)) := rfl
theorem q_slL {ds : List PyData} {lo hi : Option Int} {k : PyData → Prop} : slF (.list ds) lo hi k = k (.list (cutD ds lo hi)) := rfl
theorem q_unB {b : Bool} {k : Bool → Prop} : unB (.bool b) k = k b := rfl
theorem q_unI {i : Int} {k : Int → Prop} : unI (.int i) k = k i := rfl
theorem q_unT {ds : List PyData} {k : List PyData → Prop} : unT (.tuple ds) k = k ds := rfl
theorem q_unL {ds : List PyData} {k : List PyData → Prop} : unL (.list ds) k = k ds := rfl
theorem q_unI1 {i : Int} {k : Int → Prop} : unI1 [.int i] k = k i := rfl
theorem q_unI2 {i j : Int} {k : Int → Int → Prop} : unI2 [.int i, .int j] k = k i j := rfl
theorem q_unT1 {ds : List PyData} {k : List PyData → Prop} : unT1 [.tuple ds] k = k ds := rfl
theorem q_unS1T {ds : List PyData} {k : List PyData → Prop} : unS1 [.tuple ds] k = k ds := rfl
theorem q_unS1L {ds : List PyData} {k : List PyData → Prop} : unS1 [.list ds] k = k ds := rfl
theorem q_un1 {a : PyData} {k : PyData → Prop} : un1 [a] k = k a := rfl
theorem q_un2 {a b : PyData} {k : PyData → PyData → Prop} : un2 [a, b] k = k a b := rfl
theorem q_un3 {a b c : PyData} {k : PyData → PyData → PyData → Prop} : un3 [a, b, c] k = k a b c := rfl
theorem q_hd {a : PyData} {ds : List PyData} {k : PyData → List PyData → Prop} : hdW (a :: ds) k = k a ds := rfl
theorem q_rd {d : PyData} {k : PyData → Prop} : rdS (some (.dat d)) k = k d := rfl
theorem q_ow {ds : List PyData} {k : List PyData → Prop} : owS (some (.own ds)) k = k ds := rfl
theorem q_ctrT {c : Ctr} {k : List PyData → Prop} : unT c.d k = k [.int c.s, .int c.t, .int c.g, .int c.e] := rfl
theorem q_ctrI {c : Ctr} {i : Int} {k : PyData → Prop} : ixF c.d (.int i) k = atW [.int c.s, .int c.t, .int c.g, .int c.e] i k := rfl
theorem q_ctrS {c : Ctr} {k : PyData → Prop} : slF c.d (some 2) none k = k (.tuple [.int c.g, .int c.e]) := rfl
theorem q_ctrS2 {c : Ctr} {k : PyData → Prop} : slF c.d none (some 2) k = k (.tuple [.int c.s, .int c.t]) := rfl
theorem q_brdT {n : Int} {cs : List Ctr} {k : List PyData → Prop} : unT (boardD n cs) k = k [.int n, rowsD cs] := rfl
theorem q_brd0 {n : Int} {cs : List Ctr} {k : PyData → Prop} : ixF (boardD n cs) (.int 0) k = k (.int n) := by
  refine propext ⟨fun ⟨d, e, h⟩ => ?_, fun h => ⟨_, rfl, h⟩⟩
  cases e
  exact h
theorem q_brd1 {n : Int} {cs : List Ctr} {k : PyData → Prop} : ixF (boardD n cs) (.int 1) k = k (rowsD cs) := by
  refine propext ⟨fun ⟨d, e, h⟩ => ?_, fun h => ⟨_, rfl, h⟩⟩
  cases e
  exact h
theorem q_rowI {cs : List Ctr} {i : Int} {k : PyData → Prop} : ixF (rowsD cs) (.int i) k = atW (cs.map Ctr.d) i k := rfl
theorem q_rowT {cs : List Ctr} {k : List PyData → Prop} : unT (rowsD cs) k = k (cs.map Ctr.d) := rfl
theorem q_rowT1 {cs : List Ctr} {k : List PyData → Prop} : unT1 [rowsD cs] k = k (cs.map Ctr.d) := rfl
theorem q_rowL {cs : List Ctr} {k : PyData → Prop} : lenF [rowsD cs] k = k (.int cs.length) := by
  show k (.int (cs.map Ctr.d).length) = _
  rw [List.length_map]
theorem q_at0 {a : PyData} {ds : List PyData} {k : PyData → Prop} : atW (a :: ds) 0 k = k a := by
  refine propext ⟨fun ⟨d, e, h⟩ => ?_, fun h => ⟨_, ?_, h⟩⟩
  · have : atI (a :: ds) ((0 : Nat) : Int) = some d := e
    rw [atI_nn] at this
    cases this
    exact h
  · show atI (a :: ds) ((0 : Nat) : Int) = _
    rw [atI_nn]
    rfl
theorem q_at1 {a b : PyData} {ds : List PyData} {k : PyData → Prop} : atW (a :: b :: ds) 1 k = k b := by
  refine propext ⟨fun ⟨d, e, h⟩ => ?_, fun h => ⟨_, ?_, h⟩⟩
  · have : atI (a :: b :: ds) ((1 : Nat) : Int) = some d := e
    rw [atI_nn] at this
    cases this
    exact h
  · show atI (a :: b :: ds) ((1 : Nat) : Int) = _
    rw [atI_nn]
    rfl
theorem q_at2 {a b c : PyData} {ds : List PyData} {k : PyData → Prop} : atW (a :: b :: c :: ds) 2 k = k c := by
  refine propext ⟨fun ⟨d, e, h⟩ => ?_, fun h => ⟨_, ?_, h⟩⟩
  · have : atI (a :: b :: c :: ds) ((2 : Nat) : Int) = some d := e
    rw [atI_nn] at this
    cases this
    exact h
  · show atI (a :: b :: c :: ds) ((2 : Nat) : Int) = _
    rw [atI_nn]
    rfl
theorem q_at3 {a b c d' : PyData} {ds : List PyData} {k : PyData → Prop} : atW (a :: b :: c :: d' :: ds) 3 k = k d' := by
  refine propext ⟨fun ⟨d, e, h⟩ => ?_, fun h => ⟨_, ?_, h⟩⟩
  · have : atI (a :: b :: c :: d' :: ds) ((3 : Nat) : Int) = some d := e
    rw [atI_nn] at this
    cases this
    exact h
  · show atI (a :: b :: c :: d' :: ds) ((3 : Nat) : Int) = _
    rw [atI_nn]
    rfl
end
end CG

/-! Part 18: routes as lists of numbers; data that can be compared and shown. -/
namespace CG
open PySem PySem.Spec PyProof.Rows L2
def viewS : Sl → Sl
  | .own ds => .dat (.list ds)
  | x => x
theorem viewE_cons {x : Sl} {e : En} : viewE (x :: e) = viewS x :: viewE e := by cases x <;> rfl
theorem viewE_nil : viewE [] = [] := rfl
theorem viewS_own {ds : List PyData} : viewS (.own ds) = .dat (.list ds) := rfl
theorem viewS_dat {d : PyData} : viewS (.dat d) = .dat d := rfl
theorem viewS_deck {M : Dck → Prop} : viewS (.deck M) = .deck M := rfl
theorem flat_int {i : Int} : flat (.int i) = true := rfl
theorem flat_bool {i : Bool} : flat (.bool i) = true := rfl
theorem flat_str {i : Str} : flat (.str i) = true := rfl
theorem rng0_get {n : Int} {i : Nat} {d : PyData} (h : (rngD 0 n)[i]? = some d) : i < n.toNat ∧ d = .int (i : Int) := by
  obtain ⟨h1, h2⟩ := rngD_get h
  rw [Int.sub_zero] at h1
  rw [Int.zero_add] at h2
  exact ⟨h1, h2⟩
def ctr (cs : List Ctr) (i : Nat) : Ctr := cs.getD i ⟨0, 1, 1, 1⟩
theorem ctr_get {cs : List Ctr} {i : Nat} (h : i < cs.length) : cs[i]? = some (ctr cs i) := by
  unfold ctr
  rw [List.getD_eq_getElem?_getD, List.getElem?_eq_getElem h]
  rfl
theorem ctr_mem {cs : List Ctr} {i : Nat} (h : i < cs.length) : ctr cs i ∈ cs := List.mem_of_getElem? (ctr_get h)
/-- a route from the kind k -/
def Rt (cs : List Ctr) : Int → List Nat → Prop
  | _, [] => True
  | k, i :: is => i < cs.length ∧ (ctr cs i).s = k ∧ Rt cs (ctr cs i).t is
def endK (cs : List Ctr) : Int → List Nat → Int
  | k, [] => k
  | _, i :: is => endK cs (ctr cs i).t is
/-- the coins behind a route -/
def coins (cs : List Ctr) : List Nat → Int → Int
  | [], a => a
  | i :: is, a => coins cs is (a / (ctr cs i).g * (ctr cs i).e)
def gProd (cs : List Ctr) : List Nat → Int
  | [] => 1
  | i :: is => (ctr cs i).g * gProd cs is
def eProd (cs : List Ctr) : List Nat → Int
  | [] => 1
  | i :: is => (ctr cs i).e * eProd cs is
def rtD (is : List Nat) : PyData := .tuple (is.map fun i : Nat => .int (i : Int))
/-- all numbers are those of counters -/
def InC (cs : List Ctr) (is : List Nat) : Prop := ∀ i ∈ is, i < cs.length
section
variable {cs : List Ctr} {is js : List Nat} {k a : Int} {n : Int} {i j : Nat}
theorem Rt.inC : ∀ {is : List Nat} {k : Int}, Rt cs k is → InC cs is
  | [], _, _ => fun i h => by simp at h
  | j :: is, k, h => fun i hi => by
    rcases List.mem_cons.mp hi with rfl | hi
    · exact h.1
    · exact Rt.inC h.2.2 i hi
theorem Rt.app : ∀ {is : List Nat} {k : Int}, Rt cs k (is ++ js) ↔ Rt cs k is ∧ Rt cs (endK cs k is) js
  | [], k => by simp [Rt, endK]
  | i :: is, k => by
    simp only [List.cons_append, Rt, endK, Rt.app (is := is)]
    constructor
    · rintro ⟨h1, h2, h3, h4⟩
      exact ⟨⟨h1, h2, h3⟩, h4⟩
    · rintro ⟨⟨h1, h2, h3⟩, h4⟩
      exact ⟨h1, h2, h3, h4⟩
theorem endK_app : ∀ {is : List Nat} {k : Int}, endK cs k (is ++ js) = endK cs (endK cs k is) js
  | [], k => rfl
  | i :: is, k => by
    simp only [List.cons_append, endK]
    exact endK_app
theorem coins_app : ∀ {is : List Nat} {a : Int}, coins cs (is ++ js) a = coins cs js (coins cs is a)
  | [], k => rfl
  | i :: is, k => by
    simp only [List.cons_append, coins]
    exact coins_app
theorem gProd_app : ∀ {is : List Nat}, gProd cs (is ++ js) = gProd cs is * gProd cs js
  | [] => by simp [gProd]
  | i :: is => by
    simp only [List.cons_append, gProd]
    rw [gProd_app, Int.mul_assoc]
theorem eProd_app : ∀ {is : List Nat}, eProd cs (is ++ js) = eProd cs is * eProd cs js
  | [] => by simp [eProd]
  | i :: is => by
    simp only [List.cons_append, eProd]
    rw [eProd_app, Int.mul_assoc]
theorem prods_pos (hok : ∀ c ∈ cs, c.Ok n) : ∀ {is : List Nat}, InC cs is → 1 ≤ gProd cs is ∧ gProd cs is ≤ 5 ^ is.length ∧ 1 ≤ eProd cs is ∧ eProd cs is ≤ 5 ^ is.length
  | [], _ => ⟨by show (1 : Int) ≤ 1; decide, by show (1 : Int) ≤ 5 ^ 0; decide, by show (1 : Int) ≤ 1; decide, by show (1 : Int) ≤ 5 ^ 0; decide⟩
  | i :: is, h => by
    obtain ⟨h1, h2, h3, h4⟩ := prods_pos hok (is := is) fun j hj => h j (List.mem_cons_of_mem _ hj)
    have c := hok _ (ctr_mem (h i List.mem_cons_self))
    have mul : ∀ (x y m : Int), 1 ≤ x → x ≤ 5 → 1 ≤ y → y ≤ m → 1 ≤ x * y ∧ x * y ≤ m * 5 := fun x y m a1 a2 b1 b2 => by
      refine ⟨Int.le_trans b1 ?_, ?_⟩
      · have := Int.mul_le_mul_of_nonneg_right a1 (show (0 : Int) ≤ y by omega)
        rw [Int.one_mul] at this
        exact this
      · have h1 := Int.mul_le_mul_of_nonneg_right a2 (show (0 : Int) ≤ y by omega)
        have h2 := Int.mul_le_mul_of_nonneg_left b2 (show (0 : Int) ≤ 5 by omega)
        rw [Int.mul_comm m 5]
        exact Int.le_trans h1 h2
    obtain ⟨p1, p2⟩ := mul _ _ _ c.g0 c.g1 h1 h2
    obtain ⟨q1, q2⟩ := mul _ _ _ c.e0 c.e1 h3 h4
    simp only [gProd, eProd, List.length_cons, Int.pow_succ]
    exact ⟨p1, p2, q1, q2⟩
theorem coins_more (hok : ∀ c ∈ cs, c.Ok n) : ∀ {is : List Nat} {a m : Int}, InC cs is → coins cs is (a + gProd cs is * m) = coins cs is a + eProd cs is * m
  | [], a, m, _ => by simp [coins, gProd, eProd]
  | i :: is, a, m, h => by
    have c := hok _ (ctr_mem (h i List.mem_cons_self))
    simp only [coins, gProd, eProd]
    have g0 : (ctr cs i).g ≠ 0 := by have := c.g0; omega
    have e1 : (a + (ctr cs i).g * gProd cs is * m) / (ctr cs i).g = a / (ctr cs i).g + gProd cs is * m := by
      rw [Int.mul_assoc, Int.add_mul_ediv_left _ _ g0]
    rw [e1, Int.add_mul]
    have e2 : gProd cs is * m * (ctr cs i).e = gProd cs is * (m * (ctr cs i).e) := by rw [Int.mul_assoc]
    rw [e2, coins_more hok fun j hj => h j (List.mem_cons_of_mem _ hj)]
    have e3 : eProd cs is * (m * (ctr cs i).e) = (ctr cs i).e * eProd cs is * m := by
      rw [Int.mul_comm m, ← Int.mul_assoc, Int.mul_comm (eProd cs is)]
    rw [e3]
theorem coins_nn (hok : ∀ c ∈ cs, c.Ok n) : ∀ {is : List Nat} {a : Int}, InC cs is → 0 ≤ a → 0 ≤ coins cs is a
  | [], a, _, h0 => h0
  | i :: is, a, h, h0 => by
    have c := hok _ (ctr_mem (h i List.mem_cons_self))
    show 0 ≤ coins cs is _
    refine coins_nn hok (fun j hj => h j (List.mem_cons_of_mem _ hj)) ?_
    exact Int.mul_nonneg (Int.ediv_nonneg h0 (by have := c.g0; omega)) (by have := c.e0; omega)
theorem coins_le (hok : ∀ c ∈ cs, c.Ok n) : ∀ {is : List Nat} {a : Int}, InC cs is → 0 ≤ a → coins cs is a ≤ a * 5 ^ is.length
  | [], a, _, h0 => by simp [coins]
  | i :: is, a, h, h0 => by
    have c := hok _ (ctr_mem (h i List.mem_cons_self))
    have g0 := c.g0
    have e0 := c.e0
    have e1 := c.e1
    have q0 : 0 ≤ a / (ctr cs i).g := Int.ediv_nonneg h0 (by omega)
    have q1 : a / (ctr cs i).g ≤ a := Int.ediv_le_self _ h0
    have m0 : 0 ≤ a / (ctr cs i).g * (ctr cs i).e := Int.mul_nonneg q0 (by omega)
    have m1 : a / (ctr cs i).g * (ctr cs i).e ≤ a * 5 := Int.mul_le_mul q1 e1 (by omega) h0
    have ih := coins_le hok (is := is) (fun j hj => h j (List.mem_cons_of_mem _ hj)) m0
    show coins cs is _ ≤ _
    refine Int.le_trans ih ?_
    rw [List.length_cons, Int.pow_succ, Int.mul_comm (5 ^ is.length) 5, ← Int.mul_assoc]
    exact Int.mul_le_mul_of_nonneg_right m1 (Int.pow_nonneg (by decide))
theorem take_next {α : Type} {xs : List α} {x : α} {i : Nat} (h : xs[i]? = some x) : xs.take (i + 1) = xs.take i ++ [x] := by
  rw [List.take_add_one, h]
  rfl
theorem rt_get {d : PyData} (h : (is.map fun i : Nat => PyData.int (i : Int))[j]? = some d) : ∃ i, is[j]? = some i ∧ d = .int (i : Int) := by
  rw [List.getElem?_map] at h
  cases q : is[j]? with
  | none => rw [q] at h; cases h
  | some x =>
    rw [q] at h
    exact ⟨x, rfl, (Option.some.inj h).symm⟩
theorem at_ctr (h : i < cs.length) : atI (cs.map Ctr.d) (i : Int) = some (ctr cs i).d := by
  rw [atI_nn, List.getElem?_map, ctr_get h]
  rfl
end
theorem ctrs_inj : ∀ {cs cs' : List Ctr}, cs.map Ctr.d = cs'.map Ctr.d → cs = cs'
  | [], [], _ => rfl
  | [], c :: cs, h => by cases h
  | c :: cs, [], h => by cases h
  | ⟨a, b, g, e⟩ :: cs, ⟨a', b', g', e'⟩ :: cs', h => by
    simp only [List.map_cons, List.cons.injEq, Ctr.d, PyData.tuple.injEq, PyData.int.injEq, and_true] at h
    obtain ⟨⟨rfl, rfl, rfl, rfl⟩, h2⟩ := h
    rw [ctrs_inj h2]
theorem board_inj {n n' : Int} {cs cs' : List Ctr} (h : boardD n cs = boardD n' cs') : n = n' ∧ cs = cs' := by
  simp only [boardD, rowsD, PyData.tuple.injEq, List.cons.injEq, PyData.int.injEq, and_true] at h
  exact ⟨h.1, ctrs_inj h.2⟩
theorem at_nums {is : List Nat} {r : Int} (h0 : 0 ≤ r) (h1 : r < is.length) : ∃ x, x ∈ is ∧ atI (is.map fun i : Nat => PyData.int (i : Int)) r = some (.int (x : Int)) := by
  obtain ⟨j, rfl⟩ : ∃ j : Nat, r = j := ⟨r.toNat, by omega⟩
  have hj : j < is.length := by omega
  refine ⟨is[j], List.getElem_mem hj, ?_⟩
  rw [atI_nn, List.getElem?_map, List.getElem?_eq_getElem hj]
  rfl
theorem at_last {ds : List PyData} {d : PyData} : atI (ds ++ [d]) (-1) = some d := by
  unfold atI ixN
  have e : (ds ++ [d]).length = ds.length + 1 := by simp
  have h1 : (1 : Int) ≤ (ds.length : Int) + 1 := by omega
  rw [if_neg (by decide), e]
  simp [h1]
  have e2 : ((-1 + ((ds.length : Int) + 1)) : Int).toNat = ds.length := by omega
  rw [e2]
  simp
theorem nums_app {is : List Nat} {x : Nat} : (is.map fun i : Nat => PyData.int (i : Int)) ++ [.int (x : Int)] = (is ++ [x]).map fun i : Nat => PyData.int (i : Int) := by
  rw [List.map_append]
  rfl
/-- the least amount ahead of a counter, of a route -/
def bef (c : Ctr) (w : Int) : Int := c.g * ((w + c.e - 1) / c.e)
def lst (cs : List Ctr) : List Nat → Int → Int
  | [], w => w
  | i :: is, w => bef (ctr cs i) (lst cs is w)
theorem bef_iff {c : Ctr} {n a w : Int} (h : c.Ok n) : w ≤ a / c.g * c.e ↔ bef c w ≤ a := by
  have g0 : 0 < c.g := by have := h.g0; omega
  have e0 : 0 < c.e := by have := h.e0; omega
  unfold bef
  rw [Int.mul_comm c.g, ← Int.le_ediv_iff_mul_le g0]
  generalize a / c.g = q
  have e1 : (w + c.e - 1) / c.e ≤ q ↔ (w + c.e - 1) / c.e < q + 1 := by omega
  rw [e1, Int.ediv_lt_iff_lt_mul e0, Int.add_mul, Int.one_mul]
  omega
theorem bef_nn {c : Ctr} {n w : Int} (h : c.Ok n) (hw : 0 ≤ w) : 0 ≤ bef c w := by
  have := h.g0
  have := h.e0
  exact Int.mul_nonneg (by omega) (Int.ediv_nonneg (by omega) (by omega))
theorem lst_iff {cs : List Ctr} {n : Int} (hok : ∀ c ∈ cs, c.Ok n) : ∀ {is : List Nat} {a w : Int}, InC cs is → (w ≤ coins cs is a ↔ lst cs is w ≤ a)
  | [], a, w, _ => Iff.rfl
  | i :: is, a, w, h => by
    show w ≤ coins cs is _ ↔ bef (ctr cs i) (lst cs is w) ≤ a
    rw [lst_iff hok fun j hj => h j (List.mem_cons_of_mem _ hj)]
    exact bef_iff (hok _ (ctr_mem (h i List.mem_cons_self)))
theorem coins_mono {cs : List Ctr} {n : Int} (hok : ∀ c ∈ cs, c.Ok n) {is : List Nat} {a b : Int} (hin : InC cs is) (h : a ≤ b) : coins cs is a ≤ coins cs is b :=
  (lst_iff hok hin).mpr (Int.le_trans ((lst_iff hok hin).mp (Int.le_refl _)) h)
theorem lst_exact {cs : List Ctr} {n : Int} (hok : ∀ c ∈ cs, c.Ok n) {is : List Nat} {a : Int} (hin : InC cs is) : lst cs is (coins cs is a) ≤ a ∧ coins cs is (lst cs is (coins cs is a)) = coins cs is a := by
  have h1 : lst cs is (coins cs is a) ≤ a := (lst_iff hok hin).mp (Int.le_refl _)
  have h2 := coins_mono hok hin h1
  have h3 : coins cs is a ≤ coins cs is (lst cs is (coins cs is a)) := (lst_iff hok hin).mpr (Int.le_refl _)
  exact ⟨h1, by omega⟩
theorem coins_add {cs : List Ctr} {n : Int} (hok : ∀ c ∈ cs, c.Ok n) : ∀ {is : List Nat} {a b : Int}, InC cs is → coins cs is a + coins cs is b ≤ coins cs is (a + b)
  | [], a, b, _ => Int.le_refl _
  | i :: is, a, b, h => by
    have c := hok _ (ctr_mem (h i List.mem_cons_self))
    have hin : InC cs is := fun j hj => h j (List.mem_cons_of_mem _ hj)
    show coins cs is _ + coins cs is _ ≤ coins cs is _
    refine Int.le_trans (coins_add hok hin) (coins_mono hok hin ?_)
    rw [← Int.add_mul]
    have g0 : 0 < (ctr cs i).g := by have := c.g0; omega
    refine Int.mul_le_mul_of_nonneg_right ?_ (by have := c.e0; omega)
    rw [Int.le_ediv_iff_mul_le g0, Int.add_mul]
    have h1 := Int.ediv_mul_le a (show (ctr cs i).g ≠ 0 by omega)
    have h2 := Int.ediv_mul_le b (show (ctr cs i).g ≠ 0 by omega)
    omega
theorem ctr_app {cs xs : List Ctr} {i : Nat} (h : i < cs.length) : ctr (cs ++ xs) i = ctr cs i := by
  unfold ctr
  rw [List.getD_eq_getElem?_getD, List.getD_eq_getElem?_getD, List.getElem?_append_left h]
theorem coins_wide {cs xs : List Ctr} : ∀ {is : List Nat} {a : Int}, InC cs is → coins (cs ++ xs) is a = coins cs is a
  | [], a, _ => rfl
  | i :: is, a, h => by
    show coins (cs ++ xs) is _ = coins cs is _
    rw [ctr_app (h i List.mem_cons_self), coins_wide fun j hj => h j (List.mem_cons_of_mem _ hj)]
theorem endK_wide {cs xs : List Ctr} : ∀ {is : List Nat} {a : Int}, InC cs is → endK (cs ++ xs) a is = endK cs a is
  | [], a, _ => rfl
  | i :: is, a, h => by
    show endK (cs ++ xs) _ is = endK cs _ is
    rw [ctr_app (h i List.mem_cons_self), endK_wide fun j hj => h j (List.mem_cons_of_mem _ hj)]
theorem lst_wide {cs xs : List Ctr} : ∀ {is : List Nat} {a : Int}, InC cs is → lst (cs ++ xs) is a = lst cs is a
  | [], a, _ => rfl
  | i :: is, a, h => by
    show bef _ _ = bef _ _
    rw [ctr_app (h i List.mem_cons_self), lst_wide fun j hj => h j (List.mem_cons_of_mem _ hj)]
theorem Rt.wide {cs xs : List Ctr} : ∀ {is : List Nat} {k : Int}, Rt cs k is → Rt (cs ++ xs) k is
  | [], _, _ => trivial
  | i :: is, k, h => by
    obtain ⟨h1, h2, h3⟩ := h
    refine ⟨by rw [List.length_append]; omega, ?_, ?_⟩
    · rw [ctr_app h1]
      exact h2
    · rw [ctr_app h1]
      exact Rt.wide h3
theorem endK_range {cs : List Ctr} {n : Int} (hok : ∀ c ∈ cs, c.Ok n) : ∀ {is : List Nat} {k : Int}, InC cs is → 0 ≤ k → k < n → 0 ≤ endK cs k is ∧ endK cs k is < n
  | [], k, _, h0, h1 => ⟨h0, h1⟩
  | i :: is, k, h, _, _ => by
    have c := hok _ (ctr_mem (h i List.mem_cons_self))
    exact endK_range (is := is) hok (fun j hj => h j (List.mem_cons_of_mem _ hj)) c.t0 c.t1
theorem Rt.drop {cs : List Ctr} {is : List Nat} {k : Int} (h : Rt cs k is) (m : Nat) : Rt cs (endK cs k (is.take m)) (is.drop m) := by
  rw [← List.take_append_drop m is, Rt.app] at h
  exact h.2
theorem InC.take {cs : List Ctr} {is : List Nat} (h : InC cs is) (m : Nat) : InC cs (is.take m) := fun i hi => h i (List.mem_of_mem_take hi)
theorem InC.drop {cs : List Ctr} {is : List Nat} (h : InC cs is) (m : Nat) : InC cs (is.drop m) := fun i hi => h i (List.mem_of_mem_drop hi)
theorem Rt.take {cs : List Ctr} {is : List Nat} {k : Int} (h : Rt cs k is) (m : Nat) : Rt cs k (is.take m) := by
  rw [← List.take_append_drop m is, Rt.app] at h
  exact h.1
theorem lst_nn {cs : List Ctr} {n : Int} (hok : ∀ c ∈ cs, c.Ok n) : ∀ {is : List Nat} {w : Int}, InC cs is → 0 ≤ w → 0 ≤ lst cs is w
  | [], w, _, h => h
  | i :: is, w, h, hw => bef_nn (hok _ (ctr_mem (h i List.mem_cons_self))) (lst_nn hok (fun j hj => h j (List.mem_cons_of_mem _ hj)) hw)
theorem lst_app {cs : List Ctr} {js : List Nat} {w : Int} : ∀ {is : List Nat}, lst cs (is ++ js) w = lst cs is (lst cs js w)
  | [] => rfl
  | i :: is => by
    show bef (ctr cs i) (lst cs (is ++ js) w) = bef (ctr cs i) (lst cs is (lst cs js w))
    rw [lst_app]
theorem rev_drop {α : Type} {xs : List α} {x : α} {i : Nat} (h : xs.reverse[i]? = some x) : xs.drop (xs.length - (i + 1)) = x :: xs.drop (xs.length - i) := by
  have hi : i < xs.length := by
    have := (List.getElem?_eq_some_iff.mp h).1
    rwa [List.length_reverse] at this
  rw [List.getElem?_reverse hi] at h
  have e : xs.length - i = xs.length - (i + 1) + 1 := by omega
  have e2 : xs.length - 1 - i = xs.length - (i + 1) := by omega
  rw [e2] at h
  rw [e, List.drop_eq_getElem_cons (by omega)]
  rw [List.getElem?_eq_getElem (by omega)] at h
  rw [Option.some.inj h]
/-- a loop of at most four counters -/
def hd0 (is : List Nat) : Nat := is.headD 0
structure IsLoop (cs : List Ctr) (is : List Nat) : Prop where
  l0 : 0 < is.length
  l4 : is.length ≤ 4
  rt : Rt cs (ctr cs (hd0 is)).s is
  en : endK cs (ctr cs (hd0 is)).s is = (ctr cs (hd0 is)).s
/-- turned again and again -/
def itr (f : Int → Int) : Nat → Int → Int
  | 0, a => a
  | n + 1, a => f (itr f n a)
theorem itr_fix {f : Int → Int} {a : Int} {n : Nat} (h : f (itr f n a) = itr f n a) : ∀ m, itr f (n + m) a = itr f n a
  | 0 => rfl
  | m + 1 => by
    show f (itr f (n + m) a) = _
    rw [itr_fix h m]
    exact h
theorem itr_same {f : Int → Int} {a : Int} {n m : Nat} (h : f (itr f n a) = itr f n a) (k : f (itr f m a) = itr f m a) : itr f n a = itr f m a := by
  rcases Nat.le_total n m with l | l
  · obtain ⟨d, rfl⟩ := Nat.le.dest l
    exact (itr_fix h d).symm
  · obtain ⟨d, rfl⟩ := Nat.le.dest l
    exact itr_fix k d
/-- all from a on are turned into more -/
def Gr (f : Int → Int) (a : Int) : Prop := ∀ b, a ≤ b → b < f b
theorem Gr.itr {f : Int → Int} {a : Int} (h : Gr f a) : ∀ n, a ≤ itr f n a
  | 0 => Int.le_refl _
  | n + 1 => by
    have h1 := Gr.itr h n
    have h2 := h _ h1
    show a ≤ f (CG.itr f n a)
    omega
def wStays : PyData := .str "stays"
def wFalls : PyData := .str "falls"
def wRises : PyData := .str "rises"
def wGrows : PyData := .str "grows"
def fateD (a z : Int) : PyData := if z = a then .tuple [wStays, .int a] else if z < a then .tuple [wFalls, .int z] else .tuple [wRises, .int z]
def IsFate (f : Int → Int) (a : Int) (d : PyData) : Prop := (Gr f a ∧ d = .tuple [wGrows]) ∨ ∃ n, f (itr f n a) = itr f n a ∧ d = fateD a (itr f n a)
theorem fate_uniq {f : Int → Int} {a : Int} {d e : PyData} (h : IsFate f a d) (k : IsFate f a e) : d = e := by
  rcases h with ⟨g, rfl⟩ | ⟨n, h1, rfl⟩
  · rcases k with ⟨_, rfl⟩ | ⟨m, k1, _⟩
    · rfl
    · have := g _ (g.itr m)
      omega
  · rcases k with ⟨g, _⟩ | ⟨m, k1, rfl⟩
    · have := g _ (g.itr n)
      omega
    · rw [itr_same h1 k1]
theorem coins_frac (hok : ∀ c ∈ cs, c.Ok n) : ∀ {is : List Nat} {a : Int}, InC cs is → 0 ≤ a → gProd cs is * coins cs is a ≤ eProd cs is * a
  | [], a, _, h0 => by simp [coins, gProd, eProd]
  | i :: is, a, h, h0 => by
    have c := hok _ (ctr_mem (h i List.mem_cons_self))
    have hin : InC cs is := fun j hj => h j (List.mem_cons_of_mem _ hj)
    have g0 := c.g0
    have e0 := c.e0
    have q0 : 0 ≤ a / (ctr cs i).g := Int.ediv_nonneg h0 (by omega)
    have m0 : 0 ≤ a / (ctr cs i).g * (ctr cs i).e := Int.mul_nonneg q0 (by omega)
    have ih := coins_frac hok hin m0
    obtain ⟨_, _, E0, _⟩ := prods_pos hok hin
    show (ctr cs i).g * gProd cs is * coins cs is _ ≤ (ctr cs i).e * eProd cs is * a
    have h1 : (ctr cs i).g * (gProd cs is * coins cs is (a / (ctr cs i).g * (ctr cs i).e)) ≤ (ctr cs i).g * (eProd cs is * (a / (ctr cs i).g * (ctr cs i).e)) := Int.mul_le_mul_of_nonneg_left ih (by omega)
    have h2 : a / (ctr cs i).g * (ctr cs i).g ≤ a := Int.ediv_mul_le a (by omega)
    have h3 : (ctr cs i).e * eProd cs is * (a / (ctr cs i).g * (ctr cs i).g) ≤ (ctr cs i).e * eProd cs is * a := Int.mul_le_mul_of_nonneg_left h2 (Int.mul_nonneg (by omega) (by omega))
    have e4 : (ctr cs i).g * (eProd cs is * (a / (ctr cs i).g * (ctr cs i).e)) = (ctr cs i).e * eProd cs is * (a / (ctr cs i).g * (ctr cs i).g) := by
      generalize a / (ctr cs i).g = q
      generalize (ctr cs i).g = g
      generalize (ctr cs i).e = e
      generalize eProd cs is = E
      simp only [Int.mul_comm, Int.mul_left_comm, Int.mul_assoc]
    rw [Int.mul_assoc]
    omega
/-! ### small data -/
theorem sm_intB {i : Int} {k : Nat} (hk0 : 1 ≤ k) (hk : k ≤ 1900) (h : i.natAbs < 2 ^ k) : Sm 0 (k + 2) (.int i) := by
  have hl : i.natAbs.log2 < k + 1 := by
    by_cases z : i.natAbs = 0
    · rw [z]
      have : Nat.log2 0 = 0 := by decide
      omega
    · have := (Nat.log2_lt z).mpr h
      omega
  refine ⟨?_, by simp only [PyData.hasDict], by simp only [PyData.depth]; exact Nat.le_refl _, ?_⟩
  · simp only [PyData.showable, decide_eq_true_eq]
    omega
  · rw [PyData.shown_int]
    have := int_text_length_le (a := i) (k := k + 1) (by omega) hl
    show (Str.ofString (toString i)).length ≤ k + 2
    rw [PySem.ofString_length]
    exact this
/-! ### comparisons -/
/-- numbers, and lists and tuples of them, not deep -/
def Pl (n : Nat) (d : PyData) : Prop := d.hasDict = false ∧ d.canLay0 = true ∧ d.depth ≤ n
section
variable {n m : Nat} {d a b : PyData} {ds : List PyData}
theorem pl_int {i : Int} : Pl n (.int i) := ⟨by simp only [PyData.hasDict], by simp only [PyData.canLay0], by simp only [PyData.depth]; exact Nat.zero_le _⟩
theorem pl_bool {i : Bool} : Pl n (.bool i) := ⟨by simp only [PyData.hasDict], by simp only [PyData.canLay0], by simp only [PyData.depth]; exact Nat.zero_le _⟩
theorem pl_none : Pl n .none := ⟨by simp only [PyData.hasDict], by simp only [PyData.canLay0], by simp only [PyData.depth]; exact Nat.zero_le _⟩
theorem pl_all : ∀ {ds : List PyData}, (∀ d ∈ ds, Pl n d) → PyData.hasDictAll ds = false ∧ PyData.canLayAll0 ds = true ∧ PyData.depthAll ds ≤ n
  | [], _ => ⟨by simp only [PyData.hasDictAll], by simp only [PyData.canLayAll0], by simp only [PyData.depthAll]; exact Nat.zero_le _⟩
  | d :: ds, h => by
    obtain ⟨h1, h2, h3⟩ := pl_all (ds := ds) fun x hx => h x (List.mem_cons_of_mem _ hx)
    obtain ⟨k1, k2, k3⟩ := h d List.mem_cons_self
    exact ⟨by simp only [PyData.hasDictAll, k1, h1, Bool.or_false], by simp only [PyData.canLayAll0, k2, h2, Bool.and_true], by simp only [PyData.depthAll]; exact Nat.max_le.mpr ⟨k3, h3⟩⟩
theorem pl_tup (h : ∀ d ∈ ds, Pl n d) : Pl (n + 1) (.tuple ds) := by
  obtain ⟨h1, h2, h3⟩ := pl_all h
  exact ⟨by simpa only [PyData.hasDict] using h1, by simpa only [PyData.canLay0] using h2, by simp only [PyData.depth]; omega⟩
theorem pl_lst (h : ∀ d ∈ ds, Pl n d) : Pl (n + 1) (.list ds) := by
  obtain ⟨h1, h2, h3⟩ := pl_all h
  exact ⟨by simpa only [PyData.hasDict] using h1, by simpa only [PyData.canLay0] using h2, by simp only [PyData.depth]; omega⟩
theorem Pl.mono (h : Pl n d) (hn : n ≤ m) : Pl m d := ⟨h.1, h.2.1, Nat.le_trans h.2.2 hn⟩
theorem cmp_pl (ha : Pl 64 a) (hb : Pl 64 b) : Cmp a b := by
  refine ⟨⟨ha.1, ?_⟩, hb.1, ?_⟩
  · simp only [SeqAt.shaped, ha.2.1, Bool.true_and, decide_eq_true_eq]
    exact ha.2.2
  · simp only [SeqAt.shaped, hb.2.1, Bool.true_and, decide_eq_true_eq]
    exact hb.2.2
theorem eqv_self (ha : Pl n a) : PyData.eqv a a = true := SeqAt.eqv_refl a ha.2.1
theorem neL {es : List PyData} {k : PyData → Prop} (ha : Pl 64 (.list ds)) (hb : Pl 64 (.list es)) (h : k (.bool (!PyData.eqv (.list ds) (.list es)))) : neF (.list ds) (.list es) k := ⟨cmp_pl ha hb, h⟩
theorem neT {es : List PyData} {k : PyData → Prop} (ha : Pl 64 (.tuple ds)) (hb : Pl 64 (.tuple es)) (h : k (.bool (!PyData.eqv (.tuple ds) (.tuple es)))) : neF (.tuple ds) (.tuple es) k := ⟨cmp_pl ha hb, h⟩
theorem eqL {es : List PyData} {k : PyData → Prop} (ha : Pl 64 (.list ds)) (hb : Pl 64 (.list es)) (h : k (.bool (PyData.eqv (.list ds) (.list es)))) : eqF (.list ds) (.list es) k := ⟨cmp_pl ha hb, h⟩
theorem eqT {es : List PyData} {k : PyData → Prop} (ha : Pl 64 (.tuple ds)) (hb : Pl 64 (.tuple es)) (h : k (.bool (PyData.eqv (.tuple ds) (.tuple es)))) : eqF (.tuple ds) (.tuple es) k := ⟨cmp_pl ha hb, h⟩
theorem q_neB {a b : Bool} {k : PyData → Prop} : neF (.bool a) (.bool b) k = k (.bool (!decide (a = b))) := by
  have e : PyData.eqv (.bool a) (.bool b) = decide (a = b) := by cases a <;> cases b <;> simp [PyData.eqv]
  refine propext ⟨fun h => by rw [← e]; exact h.2, fun h => ⟨cmp_pl pl_bool pl_bool, by rw [e]; exact h⟩⟩
theorem q_eqB {a b : Bool} {k : PyData → Prop} : eqF (.bool a) (.bool b) k = k (.bool (decide (a = b))) := by
  have e : PyData.eqv (.bool a) (.bool b) = decide (a = b) := by cases a <;> cases b <;> simp [PyData.eqv]
  refine propext ⟨fun h => by rw [← e]; exact h.2, fun h => ⟨cmp_pl pl_bool pl_bool, by rw [e]; exact h⟩⟩
theorem q_isiR {is : List Nat} : isTup (rtD is) = true := rfl
theorem q_rtT {is : List Nat} {k : List PyData → Prop} : unT (rtD is) k = k (is.map fun i : Nat => .int (i : Int)) := rfl
theorem q_rtT1 {is : List Nat} {k : List PyData → Prop} : unT1 [rtD is] k = k (is.map fun i : Nat => .int (i : Int)) := rfl
theorem q_rtI {is : List Nat} {i : Int} {k : PyData → Prop} : ixF (rtD is) (.int i) k = atW (is.map fun i : Nat => .int (i : Int)) i k := rfl
theorem q_rtA {is : List Nat} {i : Nat} {k : PyData → Prop} : addF (rtD is) (.tuple [.int (i : Int)]) k = (is.length + 1 ≤ 100000 ∧ k (rtD (is ++ [i]))) := by
  show ((is.map _).length + 1 ≤ 100000 ∧ k (.tuple (is.map _ ++ [.int (i : Int)]))) = _
  rw [List.length_map, nums_app]
  rfl
theorem q_rtL {is : List Nat} {k : PyData → Prop} : lenF [rtD is] k = k (.int is.length) := by
  show k (.int (is.map _).length) = _
  rw [List.length_map]
theorem q_rtS0 {is : List Nat} {m : Nat} {k : PyData → Prop} : slF (rtD is) none (some (m : Int)) k = k (rtD (is.take m)) := by
  show k (.tuple (cutD _ _ _)) = _
  rw [cutD_take, ← List.map_take]
  rfl
theorem q_rtS1 {is : List Nat} {m : Nat} {k : PyData → Prop} : slF (rtD is) (some (m : Int)) none k = k (rtD (is.drop m)) := by
  show k (.tuple (cutD _ _ _)) = _
  rw [cutD_drop, ← List.map_drop]
  rfl
theorem pl_nums {is : List Nat} : Pl 1 (.list (is.map fun i : Nat => PyData.int (i : Int))) := pl_lst fun d hd => by
  obtain ⟨i, _, rfl⟩ := List.mem_map.mp hd
  exact pl_int
theorem eqv_nums {is : List Nat} : PyData.eqv (.list (is.map fun i : Nat => PyData.int (i : Int))) (.list []) = is.isEmpty := by
  cases is <;> simp [PyData.eqv, PyData.eqvAll]
theorem pl_rt {is : List Nat} : Pl 1 (rtD is) := pl_tup fun d hd => by
  obtain ⟨i, _, rfl⟩ := List.mem_map.mp hd
  exact pl_int
theorem pl_ctr {c : Ctr} : Pl 1 c.d := pl_tup fun d hd => by
  simp only [List.mem_cons, List.not_mem_nil, or_false] at hd
  rcases hd with rfl | rfl | rfl | rfl <;> exact pl_int
theorem pl_rows {cs : List Ctr} : Pl 2 (rowsD cs) := pl_tup fun d hd => by
  obtain ⟨i, _, rfl⟩ := List.mem_map.mp hd
  exact pl_ctr
theorem pl_board {k : Int} {cs : List Ctr} : Pl 3 (boardD k cs) := pl_tup fun d hd => by
  simp only [List.mem_cons, List.not_mem_nil, or_false] at hd
  rcases hd with rfl | rfl
  · exact pl_int
  · exact pl_rows
theorem eqv_ints {is : List Int} : PyData.eqv (.list (is.map PyData.int)) (.list []) = is.isEmpty := by
  cases is <;> simp [PyData.eqv, PyData.eqvAll]
end
theorem sm_rt {is : List Nat} (h : ∀ i ∈ is, i < 1000) (hl : is.length ≤ 400) : Sm 1 100000 (rtD is) := by
  refine (sm_tup (n := 0) (m := 202) (ds := is.map fun i : Nat => PyData.int (i : Int)) fun d hd => ?_).mono (by decide) (by rw [List.length_map]; omega)
  obtain ⟨i, hi, rfl⟩ := List.mem_map.mp hd
  exact sm_int (by have := h i hi; omega)
end CG

namespace CG
open PySem PySem.Spec PyProof.Rows L2
/-- how far turning may still go -/
def far (f : Int → Int) (B a : Int) : Nat := if f a < a then a.toNat + 1 else if f a = a then 0 else (B + 1 - a).toNat + 1
theorem far_lt {f : Int → Int} {B a : Int} (mono : ∀ a b, a ≤ b → f a ≤ f b) (nn : 0 ≤ f a) (ha : f a ≠ a) (hb : f a < a ∨ a ≤ B) : far f B (f a) < far f B a := by
  unfold far
  by_cases l : f a < a
  · rw [if_pos l]
    have m := mono _ _ (Int.le_of_lt l)
    by_cases l2 : f (f a) < f a
    · rw [if_pos l2]
      omega
    · rw [if_neg l2, if_pos (by omega)]
      omega
  · rw [if_neg l, if_neg ha]
    have m := mono a (f a) (by omega)
    rw [if_neg (by omega)]
    by_cases l2 : f (f a) = f a
    · rw [if_pos l2]
      omega
    · rw [if_neg l2]
      omega
theorem itr_below {f : Int → Int} {B a : Int} (mono : ∀ a b, a ≤ b → f a ≤ f b) (hB : f B ≤ B) (ha : a ≤ B) : ∀ n, itr f n a ≤ B
  | 0 => ha
  | n + 1 => by
    have := mono _ _ (itr_below mono hB ha n)
    show f (itr f n a) ≤ B
    omega
theorem itr_nn {f : Int → Int} {a : Int} (nn : ∀ a, 0 ≤ a → 0 ≤ f a) (ha : 0 ≤ a) : ∀ n, 0 ≤ itr f n a
  | 0 => ha
  | n + 1 => nn _ (itr_nn nn ha n)
theorem gr_of {f : Int → Int} {a L : Int} {n : Nat} (mono : ∀ a b, a ≤ b → f a ≤ f b) (hL : Gr f L) (h : L ≤ itr f n a) : Gr f a := by
  intro b hb
  by_cases l : b < f b
  · exact l
  · have h1 := itr_below mono (by omega : f b ≤ b) hb n
    exact absurd (hL b (by omega)) l
section
variable {cs : List Ctr} {n : Int} {is : List Nat}
theorem coins_zero (hok : ∀ c ∈ cs, c.Ok n) (hin : InC cs is) : coins cs is 0 = 0 := by
  have h0 := coins_nn hok hin (Int.le_refl 0)
  have h1 := coins_le hok hin (Int.le_refl 0)
  omega
theorem coins_shrink (hok : ∀ c ∈ cs, c.Ok n) (hin : InC cs is) (h : eProd cs is ≤ gProd cs is) {a : Int} (a0 : 0 ≤ a) : coins cs is a ≤ a := by
  have h1 := coins_frac hok hin a0
  obtain ⟨g0, _, _, _⟩ := prods_pos hok hin
  have h2 : eProd cs is * a ≤ gProd cs is * a := Int.mul_le_mul_of_nonneg_right h a0
  exact Int.le_of_mul_le_mul_left (Int.le_trans h1 h2) (by omega)
/-- where growth is sure -/
def sure (cs : List Ctr) (is : List Nat) : Int := ((gProd cs is - 1) / (eProd cs is - gProd cs is) + 1) * gProd cs is
theorem sure_le (hok : ∀ c ∈ cs, c.Ok n) (hl : IsLoop cs is) (h : gProd cs is < eProd cs is) : 1 ≤ sure cs is ∧ sure cs is ≤ 390625 := by
  obtain ⟨g0, g1, _, _⟩ := prods_pos hok hl.rt.inC
  have p5 : (5 : Int) ^ is.length ≤ 625 := by
    have h4 := hl.l4
    have c : is.length = 0 ∨ is.length = 1 ∨ is.length = 2 ∨ is.length = 3 ∨ is.length = 4 := by omega
    rcases c with e | e | e | e | e <;> rw [e] <;> decide
  unfold sure
  generalize gProd cs is = G at *
  generalize eProd cs is = E at *
  have q0 : 0 ≤ (G - 1) / (E - G) := Int.ediv_nonneg (by omega) (by omega)
  have q1 : (G - 1) / (E - G) ≤ G - 1 := Int.ediv_le_self _ (by omega)
  generalize (G - 1) / (E - G) = q at *
  have h1 : (q + 1) * G ≤ 625 * 625 := Int.mul_le_mul (by omega) (by omega) (by omega) (by omega)
  have h2 : 1 * 1 ≤ (q + 1) * G := Int.mul_le_mul (by omega) (by omega) (by omega) (by omega)
  omega
theorem sure_gr (hok : ∀ c ∈ cs, c.Ok n) (hin : InC cs is) (h : gProd cs is < eProd cs is) : Gr (coins cs is) (sure cs is) := by
  intro b hb
  obtain ⟨g0, g1, _, _⟩ := prods_pos hok hin
  have e1 := coins_more hok (a := b % gProd cs is) (m := b / gProd cs is) hin
  have m0 := Int.emod_nonneg b (by omega : gProd cs is ≠ 0)
  have m1 := Int.emod_lt_of_pos b (by omega : 0 < gProd cs is)
  rw [Int.emod_add_mul_ediv] at e1
  have c0 := coins_nn hok hin m0
  have hs : (gProd cs is - 1) / (eProd cs is - gProd cs is) + 1 ≤ b / gProd cs is := (Int.le_ediv_iff_mul_le (by omega)).mpr hb
  have ed := Int.emod_add_mul_ediv b (gProd cs is)
  rw [e1]
  generalize hq : b / gProd cs is = q at *
  generalize b % gProd cs is = r at *
  generalize gProd cs is = G at *
  generalize eProd cs is = E at *
  have h3 := Int.lt_ediv_add_one_mul_self (G - 1) (by omega : 0 < E - G)
  have h4 : ((G - 1) / (E - G) + 1) * (E - G) ≤ q * (E - G) := Int.mul_le_mul_of_nonneg_right hs (by omega)
  have h5 : q * (E - G) = E * q - G * q := by rw [Int.mul_sub, Int.mul_comm q, Int.mul_comm q]
  omega
theorem grow_step (hok : ∀ c ∈ cs, c.Ok n) (hin : InC cs is) {z : Int} (z0 : 0 ≤ z) (h : Gr (coins cs is) (z + 1)) (hz : z < coins cs is z) : 0 ≤ lst cs is z - 1 ∧ lst cs is z - 1 < z ∧ Gr (coins cs is) (lst cs is z - 1 + 1) := by
  have l1 : lst cs is z ≤ z := (lst_iff hok hin).mp (by omega)
  have c0 := coins_zero hok hin
  have l2 : ¬ lst cs is z ≤ 0 := fun k => by
    have := (lst_iff hok hin).mpr k
    rw [c0] at this
    have : z = 0 := by omega
    subst this
    omega
  refine ⟨by omega, by omega, fun b hb => ?_⟩
  by_cases e : z + 1 ≤ b
  · exact h b e
  · by_cases e2 : b = z
    · subst e2
      exact hz
    · have := (lst_iff hok hin (a := b) (w := z)).mpr (by omega)
      omega
theorem end_grows (hok : ∀ c ∈ cs, c.Ok n) (hl : IsLoop cs is) {a : Int} {m : Nat} (a0 : 0 ≤ a) (h : 490000 < itr (coins cs is) m a) (hg : itr (coins cs is) m a < coins cs is (itr (coins cs is) m a)) : Gr (coins cs is) a := by
  have hin := hl.rt.inC
  have hge : gProd cs is < eProd cs is := by
    by_cases c : gProd cs is < eProd cs is
    · exact c
    · have := coins_shrink hok hin (a := itr (coins cs is) m a) (by omega) (by omega)
      omega
  exact gr_of (n := m) (fun _ _ l => coins_mono hok hin l) (sure_gr hok hin hge) (by have := sure_le hok hl hge; omega)
theorem loop_hd (hl : IsLoop cs is) : hd0 is ∈ is := by
  have := hl.l0
  cases is with
  | nil => simp at this
  | cons a is => simp [hd0]
end
end CG

namespace CG
open PySem PySem.Spec PyProof.Rows L2
/-- the products of so many rates -/
def prods : Nat → List Int
  | 0 => [1]
  | n + 1 => ((prods n).flatMap fun x => [1 * x, 2 * x, 3 * x, 4 * x, 5 * x]).eraseDups
theorem prods_cons {n : Nat} {x g : Int} (h : x ∈ prods n) (g0 : 1 ≤ g) (g1 : g ≤ 5) : g * x ∈ prods (n + 1) := by
  unfold prods
  rw [List.mem_eraseDups, List.mem_flatMap]
  refine ⟨x, h, ?_⟩
  have c : g = 1 ∨ g = 2 ∨ g = 3 ∨ g = 4 ∨ g = 5 := by omega
  rcases c with rfl | rfl | rfl | rfl | rfl <;> simp
theorem prods_up {n : Nat} {x : Int} (h : x ∈ prods n) : x ∈ prods (n + 1) := by
  have := prods_cons h (Int.le_refl 1) (by decide)
  rwa [Int.one_mul] at this
theorem prods_le {n m : Nat} (h : n ≤ m) {x : Int} (hx : x ∈ prods n) : x ∈ prods m := by
  induction h with
  | refl => exact hx
  | step _ ih => exact prods_up ih
section
variable {cs : List Ctr} {n : Int}
theorem gProd_in (hok : ∀ c ∈ cs, c.Ok n) : ∀ {is : List Nat}, InC cs is → gProd cs is ∈ prods is.length
  | [], _ => by simp [gProd, prods]
  | i :: is, h => by
    have c := hok _ (ctr_mem (h i List.mem_cons_self))
    exact prods_cons (gProd_in hok fun j hj => h j (List.mem_cons_of_mem _ hj)) c.g0 c.g1
theorem eProd_in (hok : ∀ c ∈ cs, c.Ok n) : ∀ {is : List Nat}, InC cs is → eProd cs is ∈ prods is.length
  | [], _ => by simp [eProd, prods]
  | i :: is, h => by
    have c := hok _ (ctr_mem (h i List.mem_cons_self))
    exact prods_cons (eProd_in hok fun j hj => h j (List.mem_cons_of_mem _ hj)) c.e0 c.e1
theorem prods_all : ((prods 4).all fun g => (prods 4).all fun e => decide (e ≤ g) || decide (((g - 1) / (e - g) + 1) * g ≤ 90000)) = true := by decide +kernel
theorem sure_le2 {is : List Nat} (hok : ∀ c ∈ cs, c.Ok n) (hl : IsLoop cs is) (h : gProd cs is < eProd cs is) : sure cs is ≤ 90000 := by
  have hg := prods_le hl.l4 (gProd_in hok hl.rt.inC)
  have he := prods_le hl.l4 (eProd_in hok hl.rt.inC)
  have h1 := List.all_eq_true.mp (List.all_eq_true.mp prods_all _ hg) _ he
  rw [Bool.or_eq_true, decide_eq_true_eq, decide_eq_true_eq] at h1
  unfold sure
  omega
/-- the end of falling is the greatest that stands -/
theorem fix_above {f : Int → Int} {z a : Int} {m : Nat} (mono : ∀ a b, a ≤ b → f a ≤ f b) (az : a ≤ z) (ha : f a = a) : a ≤ itr f m z := by
  induction m with
  | zero => exact az
  | succ m ih =>
    have := mono _ _ ih
    show a ≤ f (itr f m z)
    omega
end
section
variable {K : PySem.W.Frag}
theorem ints_of {B : Addr → Prop} {H : Hp} : ∀ {is : List Int} {xs : List V}, RpA K B H (is.map PyData.int) xs → xs = is.map V.int
  | [], xs, h => rpa_nil.mp h
  | i :: is, xs, h => by
    obtain ⟨y, r, rfl, h1, h2⟩ := rpa_cons.mp h
    rw [rp_int.mp h1, ints_of h2]
    rfl
def minLF : List PyData → (PyData → Prop) → Prop
  | [.list ds], k => ∃ (is : List Int) (m : Int), ds = is.map PyData.int ∧ m ∈ is ∧ (∀ y ∈ is, m ≤ y) ∧ k (.int m)
  | _, _ => False
def aMinL (K : PySem.W.Frag) : AC K := ⟨rMin K, minLF, fun {B as k} h => by
  unfold minLF at h
  split at h
  · obtain ⟨is, m, rfl, hm, hy, hk⟩ := h
    refine ⟨_, hk, fun H1 xs al h Q q => ?_⟩
    obtain ⟨y, r, rfl, h1, h2⟩ := rpa_cons.mp h
    obtain rfl := rpa_nil.mp h2
    obtain ⟨a, xs, rfl, na, s, t⟩ := rp_lst.mp h1
    have e := ints_of t
    subst e
    refine ⟨a, is, rfl, SqL.of s, List.length_pos_of_mem hm, fun m' h3 h4 => q _ H1 (Same.refl H1) (rp_int.mpr ?_)⟩
    have h5 := hy _ h3
    have h6 := h4 _ hm
    have h7 : m' = m := by omega
    rw [h7]
  · exact h.elim⟩
theorem f_aMinL : (aMinL K).f = minLF := rfl
theorem t_aMinL : (aMinL K).r = rMin K := rfl
end
theorem min_of : ∀ {is : List Int}, 0 < is.length → ∃ m ∈ is, ∀ y ∈ is, m ≤ y
  | [i], _ => ⟨i, List.mem_cons_self, fun y hy => by rw [List.mem_singleton.mp hy]; exact Int.le_refl _⟩
  | i :: j :: is, _ => by
    obtain ⟨m, hm, h⟩ := min_of (is := j :: is) (by simp)
    by_cases c : i ≤ m
    · refine ⟨i, List.mem_cons_self, fun y hy => ?_⟩
      rcases List.mem_cons.mp hy with rfl | hy
      · exact Int.le_refl _
      · have := h y hy
        omega
    · refine ⟨m, List.mem_cons_of_mem _ hm, fun y hy => ?_⟩
      rcases List.mem_cons.mp hy with rfl | hy
      · omega
      · exact h y hy
end CG

/-! Part 19: generators. -/
namespace CG
open PySem PySem.Spec PyProof.Rows L2
/-- no exception leaves it -/
theorem passF {X : Cx} : Passes (L2.CX X.prog X.w) X E0 := fun pins σ H s e s' I h => by
  obtain ⟨a, B, H', cls, d, z1, fl, z2, ub, z3, z4, z5, z6⟩ := h
  exact z6.elim
theorem noStopF {K : PySem.W.Frag} : NoStop K E0 := fun _ _ _ h => h.elim
/-! ### if in a generator -/
def tGIf (c : TT) (t u : TGn) : TGn := fun D ys σ H => c σ H fun b H1 => if b = true then t D ys σ H1 else u D ys σ H1
theorem gs_if {X : Cx} {c : Expr} {a b : List Stmt} {pos : Pos} {tc : TT} {t u : TGn} (hc : PT X c tc) (ha : GSs X a t) (hb : GSs X b u) : GS X (.If c a b pos) (tGIf tc t u) := by
  refine ⟨fun A S ip R n ys s₀ cd fs K J gd lv s σ H D g hn k hI ht => ?_⟩
  obtain ⟨acc, cc, r, I⟩ := hI
  rw [arm_exec_If]
  refine seg_bind_wrap ?_
  rw [g.over]
  refine wpAny_standAt ?_
  refine seg_bind_wrap ?_
  rw [g.over]
  refine wpAny_mono (hc.run _ s σ H _ I ht) (fun d s' hd => ?_) fun x s' hx => k.exc n s₀ x s' hx
  obtain ⟨H1, I1, q⟩ := hd
  cases d with
  | true => exact ha.run A S ip R n ys s₀ cd fs K J gd lv s' σ H1 D g hn k ⟨acc, cc, r, I1⟩ q
  | false => exact hb.run A S ip R n ys s₀ cd fs K J gd lv s' σ H1 D g hn k ⟨acc, cc, r, I1⟩ q
/-- a def over data that shows nothing: it may be called anywhere -/
theorem okO {K : PySem.W.Frag} {P : Program} {w : World} {mg : Str → Option Value} {base : Heap} {x : Str} {st : Stmt} {f : Addr} {fd : FuncData} {N ps : List Str} {k : Nat} (h : Has K mg x st ps f fd) (S : FnScope N ps (defScope st)) (b : AS K) (p : Pm)
    (hb : ∀ (cd : Value) (A : Around) (out : List Env) (s : Shared) (H : Hp) (E : XK), Room k (A.deeper (envOfC x (defScope st) s.heap.objs.size f cd)) → ∃ ts, PSs (cxOf CX0 P w K mg base N x (defScope st) f cd A out s H E).nox (defBody st) ts ∧ ts = b.ts)
    (hw : ∀ ds t (kk : PK), p.w ds t kk → ds.length = ps.length ∧ b.wp (startE N (ds.map Sl.dat)) t { nx := fun _ t' => kk .none t', rt := kk }) : FnOk P w K mg base CX0 (k + 1) f fd ps (spA K p) := by
  refine h.F.ok S (fun vs H Q E h => ?_) (fun cd A out s H vs Q E hr h => ?_)
  · obtain ⟨m, B, t, ds, al, pb, ok, ra, hp⟩ := h
    rw [← ra.length]
    exact (hw ds t _ hp).1
  · obtain ⟨m, B, t, ds, al, pb, ok, ra, hp⟩ := h
    obtain ⟨ts, hts, rfl⟩ := hb cd A out s H E hr
    refine ⟨_, hts, ?_⟩
    have r : Rep K m B B (startE N (ds.map Sl.dat)) (L2.start N vs) H t := rep_args al pb ok (by rw [List.length_map]; exact ra.length) (rep_dats ra) (fun x hx es => by
      obtain ⟨d, _, rfl⟩ := List.mem_map.mp hx
      intro z
      cases z)
    refine b.ok (cn_def (k := fun d t' => ∀ v H', Xt m.pl H H' → m.ok H' t' → Rp K B H' d v → Q v H') fun v d H' t' x k hk rv => hk v H' x k rv) ⟨⟨fun _ h => h, fun _ h => .inl h⟩, Xt.refl (m.al ok), fun _ h => .inl h, Xt.refl al⟩ r (hw ds t _ hp).2
/-! ### list(f(..)) of a generator def that hands out numbers -/
/-- what a generator def hands out, over data -/
structure Pg where
  w : List PyData → (List Int → Prop) → Prop
  mono : ∀ {ds : List PyData} {k k' : List Int → Prop}, (∀ ns, k ns → k' ns) → w ds k → w ds k'
def spN (K : PySem.W.Frag) (p : Pg) : SpG := fun vs H Q _ => ∃ (m : Dck) (B : Addr → Prop) (t : Int) (ds : List PyData), Al B H ∧ (∀ a, m.pl a → B a) ∧ m.ok H t ∧ RpA K B H ds vs ∧
  p.w ds fun ns => ∀ H', Xt m.pl H H' → m.ok H' t → Q (ns.map V.int) H'
def AE.listG {K : PySem.W.Frag} (p : Pg) (E : XK) (a : AA K) : AE K := ⟨tListG (tCallG (spN K p) [] E a.ta), fun e t k => a.wp e t fun ds t1 => p.w ds fun ns => k (.list (ns.map PyData.int)) t1, fun {m B0 B e σ H t k} r h Q q =>
  a.ok r h _ fun vs ds H1 t1 x1 k1 h1 r1 => by
    have s := r.up x1 k1
    refine ⟨m, B, t1, ds, s.al, s.pb, k1, by rw [List.append_nil]; exact r1, p.mono (fun ns hk => ?_) h1⟩
    exact fun H' x k2 P np => q _ _ _ t1 (x1.trans (x.trans (m.xs k2 (same_new np)))) (m.same k2 (same_new np)) hk
      (rp_lst.mpr ⟨P, _, rfl, (s.up x k2).al.new np, upd_same, RpA.ints ns⟩)⟩
theorem w_listG {K : PySem.W.Frag} {p : Pg} {E : XK} {a : AA K} {e : En} {t : Int} {k : PK} : (AE.listG p E a).wp e t k = a.wp e t fun ds t1 => p.w ds fun ns => k (.list (ns.map PyData.int)) t1 := rfl
theorem t_listG {K : PySem.W.Frag} {p : Pg} {E : XK} {a : AA K} : (AE.listG p E a).te = tListG (tCallG (spN K p) [] E a.ta) := rfl
/-! ### statements of a generator that hands out numbers -/
structure Yn where
  nx : En → List Int → Int → Prop
structure CnY (K : PySem.W.Frag) (m : Dck) (B0 : Addr → Prop) (H0 : Hp) (B1 : Addr → Prop) (H1 : Hp) (k : Yn) (D : GEnds) : Prop where
  nx : ∀ {B e σ H t ns}, Fr m B0 H0 B1 H1 B H → Rep K m B0 B e σ H t → k.nx e ns t → D.nx (ns.map V.int) σ H
structure AY (K : PySem.W.Frag) where
  ts : TGn
  wp : En → List Int → Int → Yn → Prop
  ok : ∀ {m : Dck} {B0 B1 : Addr → Prop} {H0 H1 : Hp} {D : GEnds} {k : Yn}, CnY K m B0 H0 B1 H1 k D → ∀ {B : Addr → Prop} {e : En} {σ : L2.St} {H : Hp} {t : Int} {ns : List Int}, Fr m B0 H0 B1 H1 B H → Rep K m B0 B e σ H t → wp e ns t k → ts D (ns.map V.int) σ H
section
variable {K : PySem.W.Frag}
def AY.pl (b : AS K) : AY K := ⟨tPlain b.ts, fun e ns t k => b.wp e t { nx := fun e' t' => k.nx e' ns t', rt := fun _ _ => False }, fun {m B0 B1 H0 H1 D k} c {B e σ H t ns} f r h =>
  b.ok (Dd := D.at (ns.map V.int)) (k := { nx := fun e' t' => k.nx e' ns t', rt := fun _ _ => False }) ⟨fun f' r' h' => c.nx f' r' h', fun _ _ h => h.elim, fun _ _ h => h.elim, fun _ _ h => h.elim⟩ f r h⟩
def AY.nil (K : PySem.W.Frag) : AY K := ⟨tG0, fun e ns t k => k.nx e ns t, fun {m B0 B1 H0 H1 D k} c {B e σ H t ns} f r h => c.nx f r h⟩
def AY.seq (a b : AY K) : AY K := ⟨tGThen a.ts b.ts, fun e ns t k => a.wp e ns t { nx := fun e' ns' t' => b.wp e' ns' t' k }, fun {m B0 B1 H0 H1 D k} c {B e σ H t ns} f r h =>
  a.ok (D := { D with nx := fun ys' σ' H' => b.ts D ys' σ' H' }) (k := { nx := fun e' ns' t' => b.wp e' ns' t' k }) ⟨fun f' r' h' => b.ok c f' r' h'⟩ f r h⟩
def AY.ifS (c : AT K) (a b : AY K) : AY K := ⟨tGIf c.tt a.ts b.ts, fun e ns t k => c.wp e t fun z t1 => if z = true then a.wp e ns t1 k else b.wp e ns t1 k, fun {m B0 B1 H0 H1 D k} cn {B e σ H t ns} f r h =>
  c.ok r h _ fun z H2 t2 x2 k2 h2 => by
    cases z with
    | true =>
      rw [if_pos rfl] at h2 ⊢
      exact a.ok cn (f.step r x2) (r.up x2 k2) h2
    | false =>
      rw [if_neg (by decide)] at h2 ⊢
      exact b.ok cn (f.step r x2) (r.up x2 k2) h2⟩
def AY.yld (a : AE K) : AY K := ⟨tGYield a.te, fun e ns t k => ns.length < 10000000 ∧ a.wp e t fun d t1 => unI d fun i => k.nx e (ns ++ [i]) t1, fun {m B0 B1 H0 H1 D k} c {B e σ H t ns} f r h =>
  ⟨by rw [List.length_map]; exact Nat.lt_of_lt_of_le h.1 (by decide), a.ok r h.2 _ fun v d H2 t2 x2 k2 h2 r2 => by
    obtain ⟨i, rfl, h3⟩ := unI_of h2
    obtain rfl := rp_int.mp r2
    have z := c.nx (f.step r x2) (r.up x2 k2) h3
    rw [List.map_append] at z
    exact z⟩⟩
def AY.whl (c : AT K) (s : AY K) : AY K := ⟨tGWhile c.tt s.ts, fun e ns t k => ∃ I : Nat → En → List Int → Int → Prop, (∃ n, I n e ns t) ∧
    ∀ n e' ns' t', I n e' ns' t' → c.wp e' t' fun b t1 => if b = true then s.wp e' ns' t1 { nx := fun e2 ns2 t2 => ∃ n', n' < n ∧ I n' e2 ns2 t2 } else k.nx e' ns' t1, fun {m B0 B1 H0 H1 D k} cn {B e σ H t ns} f r h => by
  obtain ⟨I, ⟨n0, i0⟩, is⟩ := h
  have fh := f.here r
  refine ⟨fun n ys σ' H' => ∃ B' e' ns' t', ys = ns'.map V.int ∧ Fr m B0 H0 B H B' H' ∧ Rep K m B0 B' e' σ' H' t' ∧ I n e' ns' t', ⟨n0, B, e, ns, t, rfl, fh, r, i0⟩, ?_⟩
  rintro n ys σ' H' ⟨B', e', ns', t', rfl, f', r', hI⟩
  refine c.ok r' (is n e' ns' t' hI) _ fun b H3 t3 x3 k3 h3 => ?_
  have f3 := f'.step r' x3
  have r3 := r'.up x3 k3
  cases b with
  | true =>
    rw [if_pos rfl] at h3 ⊢
    refine ⟨fun ys4 σ4 H4 => ∃ n', n' < n ∧ ∃ B' e' ns' t', ys4 = ns'.map V.int ∧ Fr m B0 H0 B H B' H4 ∧ Rep K m B0 B' e' σ4 H4 t' ∧ I n' e' ns' t', fun ys4 σ4 H4 p => p, ?_⟩
    refine s.ok (B1 := B) (H1 := H) (k := { nx := fun e2 ns2 t2 => ∃ n', n' < n ∧ I n' e2 ns2 t2 }) ⟨fun {B e σ H t ns} f5 r5 h5 => ?_⟩ f3 r3 h3
    obtain ⟨n', hn, hi⟩ := h5
    exact ⟨n', hn, _, _, _, _, rfl, f5, r5, hi⟩
  | false =>
    rw [if_neg (by decide)] at h3 ⊢
    exact cn.nx (f.comp f3) r3 h3⟩
/-- a generator def over data -/
theorem okY {P : Program} {w : World} {mg : Str → Option Value} {base : Heap} {x : Str} {st : Stmt} {f : Addr} {fd : FuncData} {N ps : List Str} {k : Nat} (h : Has K mg x st ps f fd) (S : GScope N ps (defScope st)) (b : AY K) (p : Pg)
    (hb : ∀ (cd : Value) (A : Around) (out : List Env) (s : Shared) (H : Hp) (E : XK) (pn : List (Addr × Obj)), Room k (A.deeper (envOfC x (defScope st) s.heap.objs.size f cd)) → ∃ ts, GSs (gcxOf P w K mg base N x (defScope st) f cd A out s H E pn) (defBody st) ts ∧ ts = b.ts)
    (hw : ∀ ds (kk : List Int → Prop), p.w ds kk → ds.length = ps.length ∧ ∀ t : Int, b.wp (startE N (ds.map Sl.dat)) [] t { nx := fun _ ns t' => kk ns ∧ t' = t }) : GFn P w K mg base (k + 1) f fd ps (spN K p) := by
  obtain ⟨oc, od, kV, doc, pm, an, cdv, ct, osl, rfl, lk, hcd⟩ := h.F.ex
  refine gfn_of lk hcd S (fun vs H Q E h => ?_) (fun A out s H vs Q E pn hr h => ?_)
  · obtain ⟨m, B, t, ds, al, pb, ok, ra, hp⟩ := h
    rw [← ra.length]
    exact (hw ds _ hp).1
  · obtain ⟨m, B, t, ds, al, pb, ok, ra, hp⟩ := h
    obtain ⟨ts, hts, rfl⟩ := hb cdv A out s H E pn hr
    refine ⟨_, hts, ?_⟩
    have r : Rep K m B B (startE N (ds.map Sl.dat)) (L2.start N vs) H t := rep_args al pb ok (by rw [List.length_map]; exact ra.length) (rep_dats ra) (fun x hx es => by
      obtain ⟨d, _, rfl⟩ := List.mem_map.mp hx
      intro z
      cases z)
    refine b.ok (B1 := B) (H1 := H) (ns := []) (k := { nx := fun _ ns t' => (∀ H', Xt m.pl H H' → m.ok H' t → Q (ns.map V.int) H') ∧ t' = t }) ⟨fun {B' e' σ' H' t' ns} f' r' h' => ?_⟩ ⟨⟨fun _ h => h, fun _ h => .inl h⟩, Xt.refl (m.al ok), fun _ h => .inl h, Xt.refl al⟩ r ((hw ds _ hp).2 t)
    obtain ⟨h1, rfl⟩ := h'
    exact h1 _ f'.x0 r'.ok
theorem y_pl (b : AS K) : (AY.pl b).wp = fun e ns t k => b.wp e t { nx := fun e' t' => k.nx e' ns t', rt := fun _ _ => False } := rfl
theorem y_nil : (AY.nil K).wp = fun e ns t k => k.nx e ns t := rfl
theorem y_seq (a b : AY K) : (AY.seq a b).wp = fun e ns t k => a.wp e ns t { nx := fun e' ns' t' => b.wp e' ns' t' k } := rfl
theorem y_ifS (c : AT K) (a b : AY K) : (AY.ifS c a b).wp = fun e ns t k => c.wp e t fun z t1 => if z = true then a.wp e ns t1 k else b.wp e ns t1 k := rfl
theorem y_yld (a : AE K) : (AY.yld a).wp = fun e ns t k => ns.length < 10000000 ∧ a.wp e t fun d t1 => unI d fun i => k.nx e (ns ++ [i]) t1 := rfl
theorem y_whl (c : AT K) (s : AY K) : (AY.whl c s).wp = fun e ns t k => ∃ I : Nat → En → List Int → Int → Prop, (∃ n, I n e ns t) ∧
    ∀ n e' ns' t', I n e' ns' t' → c.wp e' t' fun b t1 => if b = true then s.wp e' ns' t1 { nx := fun e2 ns2 t2 => ∃ n', n' < n ∧ I n' e2 ns2 t2 } else k.nx e' ns' t1 := rfl
theorem z_pl (b : AS K) : (AY.pl b).ts = tPlain b.ts := rfl
theorem z_nil : (AY.nil K).ts = tG0 := rfl
theorem z_seq (a b : AY K) : (AY.seq a b).ts = tGThen a.ts b.ts := rfl
theorem z_ifS (c : AT K) (a b : AY K) : (AY.ifS c a b).ts = tGIf c.tt a.ts b.ts := rfl
theorem z_yld (a : AE K) : (AY.yld a).ts = tGYield a.te := rfl
theorem z_whl (c : AT K) (s : AY K) : (AY.whl c s).ts = tGWhile c.tt s.ts := rfl
end
/-- fixed points below a number -/
def fixL (f : Int → Int) (a : Int) : List Int := ((List.range a.toNat).map fun i : Nat => (i : Int)).filter fun x => f x == x
theorem fixL_succ {f : Int → Int} {a : Int} (a0 : 0 ≤ a) : fixL f (a + 1) = fixL f a ++ if f a = a then [a] else [] := by
  unfold fixL
  rw [show (a + 1).toNat = a.toNat + 1 by omega, List.range_succ, List.map_append, List.filter_append]
  congr 1
  rw [show ([a.toNat].map fun i : Nat => (i : Int)) = [a] by simp; omega]
  by_cases z : f a = a
  · rw [if_pos z]; simp [z]
  · rw [if_neg z]; simp [z]
theorem fixL_skip {f : Int → Int} {a b : Int} (a0 : 0 ≤ a) (h : ∀ x, a ≤ x → x < b → f x ≠ x) (hab : a ≤ b) : fixL f b = fixL f a := by
  obtain ⟨n, rfl⟩ : ∃ n : Nat, b = a + n := ⟨(b - a).toNat, by omega⟩
  clear hab
  induction n with
  | zero => simp
  | succ n ih =>
    rw [show a + ((n + 1 : Nat) : Int) = a + n + 1 by omega, fixL_succ (by omega), ih fun x h1 h2 => h x h1 (by omega), if_neg (h _ (by omega) (by omega)), List.append_nil]
theorem fixL_mem {f : Int → Int} {a x : Int} : x ∈ fixL f a ↔ 0 ≤ x ∧ x < a ∧ f x = x := by
  unfold fixL
  rw [List.mem_filter, List.mem_map]
  constructor
  · rintro ⟨⟨i, hi, rfl⟩, h⟩
    have := List.mem_range.mp hi
    exact ⟨by omega, by omega, by simpa using h⟩
  · rintro ⟨h0, h1, h2⟩
    exact ⟨⟨x.toNat, List.mem_range.mpr (by omega), by omega⟩, by simpa using h2⟩
theorem fixL_length {f : Int → Int} {a : Int} : (fixL f a).length ≤ a.toNat := by
  unfold fixL
  refine Nat.le_trans (List.length_filter_le _ _) ?_
  simp
theorem fixL_sorted {f : Int → Int} {a : Int} : (fixL f a).Pairwise (· < ·) := by
  unfold fixL
  refine List.Pairwise.filter _ ?_
  rw [List.pairwise_map]
  exact List.pairwise_lt_range.imp fun h => by omega
end CG

/-! Part 20: items taken out of lists of one's own. -/
namespace CG
open PySem PySem.Spec PyProof.Rows L2
section
variable {K : PySem.W.Frag}
theorem RpA.erase {B : Addr → Prop} {H : Hp} : ∀ {ds : List PyData} {xs : List V} {j : Nat}, RpA K B H ds xs → RpA K B H (ds.eraseIdx j) (xs.eraseIdx j)
  | [], xs, j, r => by rw [rpa_nil.mp r]; exact .nil
  | c :: ds, xs, 0, r => by
    obtain ⟨y, w, rfl, h1, h2⟩ := rpa_cons.mp r
    exact h2
  | c :: ds, xs, j + 1, r => by
    obtain ⟨y, w, rfl, h1, h2⟩ := rpa_cons.mp r
    exact .cons h1 (RpA.erase h2)
theorem seqIx_nn {i : Int} {n : Nat} (h0 : 0 ≤ i) (h1 : i < n) : seqIndex? i n = some i.toNat := by
  unfold seqIndex?
  have h : ¬ i < 0 := by omega
  simp only [h, if_false]
  rw [if_pos]
  rw [Bool.and_eq_true, decide_eq_true_eq, decide_eq_true_eq]
  exact ⟨h0, h1⟩
abbrev aMulW (K : PySem.W.Frag) : A2 K := aI K CMulW fun i j => i * j
abbrev aDvW (K : PySem.W.Frag) : A2 K := aI K CDivW fun i j => i / j
/-- x, y, z = a, [..], [..] -/
def AS.par3C (i j l : Nat) (a : AE K) (b d : AF K) : AS K := ⟨tPar3 i j l (tCons a.te (tCons b.te (tCons d.te tNil))), fun e t k => a.wp e t fun x t1 => b.wp e t1 fun ys t2 => d.wp e t2 fun ds t3 => k.nx (((e.set i (.dat x)).set j (.own ys)).set l (.own ds)) t3, fun {m B0 B1 H0 H1 Dd k} c {B e σ H t} f r h =>
  a.ok r h _ fun v x H2 t2 x2 k2 h2 r2 => by
    have s2 := r.up x2 k2
    refine b.ok s2 h2 _ fun L1 ys ws H3 t3 nL1 x3 k3 h3 hL1 ra1 => ?_
    have s3 : Rep K m B0 (Bp B L1) e σ H3 t3 := s2.under nL1 x3 k3 (by rw [hL1]; simp)
    refine d.ok s3 h3 _ fun L2 ds vs H4 t4 nL2 x4 k4 h4 hL2 ra2 => ⟨v, .ref L1, .ref L2, rfl, ?_⟩
    have s4 := ((s2.set (i := i) r2).setOwn (i := j) nL1 x3 k3 hL1 ra1).setOwn (i := l) nL2 x4 k4 hL2 ra2
    exact c.nx (((f.step r x2).new s2 nL1 x3).new s3 nL2 x4) s4 h4⟩
/-- x.append(y.pop(a)) -/
def AS.appPop (i j : Nat) (hij : i ≠ j) (a : AA K) : AS K := ⟨tDrop (tBM K "list" rAppend (tVar i) (tCons (tBM K "list" rPopAt (tVar j) a.ta) tNil)), fun e t k => owS e[i]? fun ds => ds.length < 100000 ∧ owS e[j]? fun es => a.wp e t fun ys t1 => unI1 ys fun n => ∃ d, (0 ≤ n ∧ n < es.length ∧ es.length ≤ 100000) ∧ es[n.toNat]? = some d ∧ k.nx ((e.set j (.own (es.eraseIdx n.toNat))).set i (.own (ds ++ [d]))) t1, fun {m B0 B1 H0 H1 Dd k} c {B e σ H t} f r h => by
  obtain ⟨ds, p, vs, e1, e2, b, b0, np, hp, ra, hl, h⟩ := r.own h
  obtain ⟨es, q, ws, e3, e4, bq, b0q, nq, hq, raq, h⟩ := r.own h
  have pq : p ≠ q := fun z => hij (r.ow i j p ds es e1 e3 e2 (by rw [z]; exact e4))
  refine ⟨.ref p, e2, .inl ⟨rfl, _, SqL.of hp⟩, .ref q, e4, .inl ⟨rfl, _, SqL.of hq⟩, a.ok r h _ fun us ys H2 t2 x2 k2 h2 r2 => ?_⟩
  obtain ⟨n, rfl, d, ⟨n0, n1, n2⟩, hd, h2⟩ := unI1_of h2
  obtain ⟨v, w, rfl, q1, q2⟩ := rpa_cons.mp r2
  obtain rfl := rpa_nil.mp q2
  obtain rfl := rp_int.mp q1
  have s2 := r.up x2 k2
  have ra2 := ra.up (r.wd x2)
  have raq2 := raq.up (r.wd x2)
  obtain ⟨y, hy, ry⟩ := raq2.get hd
  have lq : ws.length = es.length := raq.length.symm
  refine ⟨q, ws, n, n.toNat, y, rfl, rfl, x2.kp _ _ nq hq, by omega, by omega, seqIx_nn n0 (by omega), hy, ?_⟩
  have s3 := s2.put e3 e4 bq nq (RpA.erase (j := n.toNat) raq2)
  have f3 := (f.step r x2).put s2 bq b0q nq (o := .lst (ws.eraseIdx n.toNat))
  have xq : Xt B H2 (upd H2 q (.lst (ws.eraseIdx n.toNat))) := ⟨fun a o nb z => by rw [upd_ne (fun w => nb (by rw [w]; exact bq))]; exact z, s3.al⟩
  refine ⟨p, vs, y, rfl, rfl, by rw [upd_ne pq]; exact x2.kp _ _ np hp, by rw [← ra.length]; exact Nat.lt_of_lt_of_le hl (by decide), ?_⟩
  exact c.nx (f3.put s3 b b0 np) (s3.put (by rw [List.getElem?_set_ne (Ne.symm hij)]; exact e1) e2 b np (RpA.append (ra2.up xq) (.cons (ry.up xq) .nil))) h2⟩
theorem w_AS_par3C (i j l : Nat) (a : AE K) (b d : AF K) : (AS.par3C i j l a b d).wp = fun e t k => a.wp e t fun x t1 => b.wp e t1 fun ys t2 => d.wp e t2 fun ds t3 => k.nx (((e.set i (.dat x)).set j (.own ys)).set l (.own ds)) t3 := rfl
theorem t_AS_par3C (i j l : Nat) (a : AE K) (b d : AF K) : (AS.par3C i j l a b d).ts = tPar3 i j l (tCons a.te (tCons b.te (tCons d.te tNil))) := rfl
theorem w_AS_appPop (i j : Nat) (hij : i ≠ j) (a : AA K) : (AS.appPop i j hij a).wp = fun e t k => owS e[i]? fun ds => ds.length < 100000 ∧ owS e[j]? fun es => a.wp e t fun ys t1 => unI1 ys fun n => ∃ d, (0 ≤ n ∧ n < es.length ∧ es.length ≤ 100000) ∧ es[n.toNat]? = some d ∧ k.nx ((e.set j (.own (es.eraseIdx n.toNat))).set i (.own (ds ++ [d]))) t1 := rfl
theorem t_AS_appPop (i j : Nat) (hij : i ≠ j) (a : AA K) : (AS.appPop i j hij a).ts = tDrop (tBM K "list" rAppend (tVar i) (tCons (tBM K "list" rPopAt (tVar j) a.ta) tNil)) := rfl
end
end CG

/-! Part 21: comprehensions with two sources, sorted rows, len(set(..)), x += [..]. -/
namespace CG
open PySem PySem.Spec PyProof.Rows L2
open PySem.W (dataLe dataLt dataLt_tuple rowLt dataLt_ints EachIs sorted_data AllAlike Sortable alike alike_ints depth_ints dataLe_rows)
/-! ### sorted(rows) -/
def rSortR (K : PySem.W.Frag) : List V → Hp → VK → Prop := fun vs H Q => ∃ (a : Addr) (bs : List (V × List Int)), vs = [V.ref a] ∧ SqL K H a (bs.map Prod.fst) ∧ (∀ b ∈ bs, Dp K H b.1 (.tuple (b.2.map PyData.int))) ∧ (∀ b ∈ bs, b.2 ≠ []) ∧ bs.length ≤ sizeLine ∧
  ∀ p, H p = none → Q (.ref p) (upd H p (.lst ((bs.mergeSort fun x y => decide (x.2 ≤ y.2)).map Prod.fst)))
theorem dataLe_tups {β : Type} (x : β → List Int) : dataLe false (fun b => .tuple ((x b).map .int)) = fun p q => decide (x p ≤ x q) := by
  funext p q
  show (!dataLt (.tuple ((x q).map .int)) (.tuple ((x p).map .int))) = _
  rw [dataLt_tuple]
  show (!rowLt ((x q).map .int) ((x p).map .int)) = _
  rw [dataLt_ints]
  by_cases h : x q < x p
  · have h' : ¬ x p ≤ x q := fun r => List.not_lt.mpr r h
    simp [h, h']
  · have h' : x p ≤ x q := List.not_lt.mp h
    simp [h, h']
theorem each_vals : ∀ {bs : List (V × List Int)} {us : List Value}, Vals (bs.map Prod.fst) us → EachIs (fun u (b : V × List Int) => RelV b.1 u) us bs
  | [], _, .nil => .nil
  | b :: bs, _, .cons r t => .cons r (each_vals t)
theorem vals_each : ∀ {bs : List (V × List Int)} {us : List Value}, EachIs (fun u (b : V × List Int) => RelV b.1 u) us bs → Vals (bs.map Prod.fst) us
  | [], _, .nil => .nil
  | b :: bs, _, .cons r t => .cons r (vals_each t)
theorem each_reads {X : Cx} {pins : List (Addr × Obj)} {σ : L2.St} {H : Hp} {s : Shared} (I : Inv X pins σ H s) : ∀ {bs : List (V × List Int)} {us : List Value}, (∀ b ∈ bs, Dp X.K H b.1 (.tuple (b.2.map PyData.int))) → Vals (bs.map Prod.fst) us → EachIs (fun u (b : V × List Int) => ∃ as, Reads s.heap u (.tuple (b.2.map PyData.int)) as) us bs
  | [], _, _, .nil => .nil
  | b :: bs, _, h, .cons r t => .cons (Dp.reads I _ _ _ (h b (by simp)) r) (each_reads I (fun c hc => h c (by simp [hc])) t)
theorem call_sortR {X : Cx} (hu : X.A.units + 64 < cLine) : CallR X (.builtin "sorted") (rSortR X.K) := by
  intro pins s σ H vs us Q I r h
  obtain ⟨a, bs, rfl, hs, ht, hne, hL, q⟩ := h
  obtain ⟨its, rv, hl, _⟩ := I.list hs
  rw [Vals.ref1 r]
  refine sorted_data (R := fun u (b : V × List Int) => RelV b.1 u) (enc := fun b : V × List Int => .tuple (b.2.map PyData.int)) hl.isList (each_vals rv) (each_reads I ht rv) ?_ ?_ hL ?_ fun out h1 h2 => ?_
  · exact PySem.W.AllAlike.of fun b b' => by simp [alike, alike_ints]
  · refine .inl fun d hd => ?_
    obtain ⟨b, hb, rfl⟩ := List.mem_map.mp hd
    have hn := hne b hb
    cases e : b.2 with
    | nil => exact absurd e hn
    | cons x r => exact ⟨.int x, r.map .int, rfl⟩
  · intro b hb
    show X.A.units + 2 + (PyData.depthAll (b.2.map PyData.int) + 1) < cLine
    rw [depth_ints]
    omega
  · obtain ⟨ep, he'⟩ := PyProof.Rows.sortedAll_at s.heap its out.toArray
    rw [dataLe_tups (fun b : V × List Int => b.2)] at h2
    have hlen : ((bs.mergeSort fun x y => decide (x.2 ≤ y.2)).map Prod.fst).length ≤ sizeLine := by rw [List.length_map, List.length_mergeSort]; exact hL
    exact ⟨.ref _, upd H (s.heap.objs.size + 1) (.lst ((bs.mergeSort fun x y => decide (x.2 ≤ y.2)).map Prod.fst)), I.laid (t' := s.toks) (fun _ _ => PyProof.Rows.sortedAll_old) (Nat.le_succ _) ⟨hlen, out, ep, vals_each h2, by simpa using he'⟩, rfl, q _ (I.hok.fresh (Nat.le_succ _))⟩
/-- rows, sorted -/
def sortR (rs : List (List Int)) : List (List Int) := rs.mergeSort fun x y => decide (x ≤ y)
theorem sortR_perm (rs : List (List Int)) : (sortR rs).Perm rs := List.mergeSort_perm _ _
theorem sortR_eq {rs qs : List (List Int)} (h : rs.Perm qs) : sortR rs = sortR qs := by
  have tr : ∀ a b c : List Int, decide (a ≤ b) = true → decide (b ≤ c) = true → decide (a ≤ c) = true := fun a b c h1 h2 => decide_eq_true (List.le_trans (of_decide_eq_true h1) (of_decide_eq_true h2))
  have to : ∀ a b : List Int, (decide (a ≤ b) || decide (b ≤ a)) = true := fun a b => by
    rcases List.le_total (α := Int) a b with h | h <;> simp [h]
  refine List.Perm.eq_of_pairwise (le := fun x y : List Int => decide (x ≤ y) = true) (fun a b _ _ h1 h2 => List.le_antisymm (of_decide_eq_true h1) (of_decide_eq_true h2)) (List.pairwise_mergeSort tr to rs) (List.pairwise_mergeSort tr to qs) ?_
  exact ((sortR_perm rs).trans h).trans (sortR_perm qs).symm
section
variable {K : PySem.W.Frag}
def rowT (r : List Int) : PyData := .tuple (r.map PyData.int)
def sortRF : List PyData → (PyData → Prop) → Prop
  | [.list ds], k => ∃ rs : List (List Int), ds = rs.map rowT ∧ (∀ r ∈ rs, r ≠ []) ∧ rs.length ≤ 1000000 ∧ k (.list ((sortR rs).map rowT))
  | _, _ => False
theorem rows_of {B : Addr → Prop} {H : Hp} : ∀ {rs : List (List Int)} {xs : List V}, RpA K B H (rs.map rowT) xs → ∃ bs : List (V × List Int), xs = bs.map Prod.fst ∧ rs = bs.map Prod.snd ∧ ∀ b ∈ bs, Rp K B H (rowT b.2) b.1
  | [], xs, h => ⟨[], rpa_nil.mp h, rfl, fun b hb => by simp at hb⟩
  | r :: rs, xs, h => by
    obtain ⟨y, z, rfl, h1, h2⟩ := rpa_cons.mp h
    obtain ⟨bs, rfl, rfl, hb⟩ := rows_of h2
    refine ⟨(y, r) :: bs, rfl, rfl, fun b hb' => ?_⟩
    rcases List.mem_cons.mp hb' with rfl | hb'
    · exact h1
    · exact hb b hb'
theorem rpa_map {B : Addr → Prop} {H : Hp} : ∀ {bs : List (V × List Int)}, (∀ b ∈ bs, Rp K B H (rowT b.2) b.1) → RpA K B H ((bs.map Prod.snd).map rowT) (bs.map Prod.fst)
  | [], _ => RpA.nil
  | b :: bs, h => .cons (h b (by simp)) (rpa_map fun c hc => h c (by simp [hc]))
theorem dp_row {B : Addr → Prop} {H : Hp} {r : List Int} {v : V} (h : Rp K B H (rowT r) v) : Dp K H v (.tuple (r.map PyData.int)) := by
  obtain ⟨a, xs, rfl, na, s, t⟩ := rp_tup.mp h
  rw [ints_of t] at s
  refine .tup s ?_
  clear s t h
  induction r with
  | nil => exact .nil
  | cons i r ih => exact .cons (.int i) ih
def aSortR (K : PySem.W.Frag) : AC K := ⟨rSortR K, sortRF, fun {B as k} h => by
  unfold sortRF at h
  split at h
  · obtain ⟨rs, rfl, hne, hl, hk⟩ := h
    refine ⟨_, hk, fun H1 xs al h Q q => ?_⟩
    obtain ⟨y, r, rfl, h1, h2⟩ := rpa_cons.mp h
    obtain rfl := rpa_nil.mp h2
    obtain ⟨a, xs, rfl, na, s, t⟩ := rp_lst.mp h1
    obtain ⟨bs, rfl, rfl, hb⟩ := rows_of t
    refine ⟨a, bs, rfl, SqL.of s, fun b h => dp_row (hb b h), fun b h => hne _ (List.mem_map.mpr ⟨b, h, rfl⟩), ?_, fun p np => ?_⟩
    · rw [List.length_map] at hl
      exact Nat.le_trans hl (by decide)
    · refine q _ _ (same_new np) (rp_lst.mpr ⟨p, _, rfl, al.new np, upd_same, ?_⟩)
      have e : sortR (bs.map Prod.snd) = (bs.mergeSort fun x y => decide (x.2 ≤ y.2)).map Prod.snd := (List.map_mergeSort (s := fun x y : List Int => decide (x ≤ y)) (f := Prod.snd) fun _ _ _ _ => rfl).symm
      rw [e]
      refine rpa_map fun b hb' => ?_
      exact (hb b ((List.mergeSort_perm _ _).mem_iff.mp hb')).up (Xt.of al (same_new np))
  · exact h.elim⟩
theorem f_aSortR : (aSortR K).f = sortRF := rfl
theorem t_aSortR : (aSortR K).r = rSortR K := rfl
end
/-! ### len(set(ints)) -/
def dl (ns : List Int) : Nat := (PyProof.Rows.firstMet (fun i => ns.getD i 0) ns.length).length
theorem dl_fold : ∀ (ns acc : List Int), (ns.foldl step_dedup acc).length ≤ acc.length + ns.length ∧ ((ns.foldl step_dedup acc).length = acc.length + ns.length ↔ ns.Nodup ∧ ∀ x ∈ ns, x ∉ acc)
  | [], acc => by simp
  | x :: ns, acc => by
    rw [List.foldl_cons]
    by_cases h : x ∈ acc
    · have e : step_dedup acc x = acc := by
        unfold step_dedup
        rw [if_pos]
        exact List.any_eq_true.mpr ⟨x, h, by simp⟩
      rw [e]
      obtain ⟨h1, h2⟩ := dl_fold ns acc
      refine ⟨by rw [List.length_cons]; omega, ⟨fun z => by rw [List.length_cons] at z; omega, fun z => absurd h (z.2 x (by simp))⟩⟩
    · have e : step_dedup acc x = acc ++ [x] := by
        unfold step_dedup
        rw [if_neg]
        intro z
        obtain ⟨y, hy, e⟩ := List.any_eq_true.mp z
        have : y = x := eq_of_beq e
        exact h (this ▸ hy)
      rw [e]
      obtain ⟨h1, h2⟩ := dl_fold ns (acc ++ [x])
      rw [List.length_append, List.length_singleton] at h1 h2
      refine ⟨by rw [List.length_cons]; omega, ?_⟩
      rw [List.length_cons, show acc.length + (ns.length + 1) = acc.length + 1 + ns.length by omega, h2, List.nodup_cons]
      constructor
      · rintro ⟨a, b⟩
        refine ⟨⟨fun z => b x z (by simp), a⟩, fun y hy => ?_⟩
        rcases List.mem_cons.mp hy with rfl | hy
        · exact h
        · exact fun z => b y hy (by simp [z])
      · rintro ⟨⟨a, b⟩, c⟩
        refine ⟨b, fun y hy z => ?_⟩
        rcases List.mem_append.mp z with z | z
        · exact c y (by simp [hy]) z
        · rw [List.mem_singleton] at z
          exact a (z ▸ hy)
theorem dl_iff {ns : List Int} : dl ns = ns.length ↔ ns.Nodup := by
  have e : (List.range ns.length).map (fun i => ns.getD i 0) = ns := by
    refine List.ext_getElem (by simp) fun i h1 h2 => ?_
    rw [List.getElem_map, List.getElem_range]
    simp [h2]
  have := (dl_fold ns []).2
  unfold dl PyProof.Rows.firstMet
  rw [e]
  simpa using this
def tLenSetU (K : PySem.W.Frag) (ta : TE) : TE := fun σ H Q => ta σ H fun x H1 => ∃ (l : Addr) (ns : List Int), x = .ref l ∧ SqL K H1 l (ns.map V.int) ∧ ns.length ≤ 4000 ∧ Q (.int (dl ns : Nat)) H1
theorem pe_lenSetU {X : Cx} {a : Expr} {ta : TE} {p p2 q pos : Pos} (hg : Gl X "len") (hm : X.mg "len" = none) (hg2 : Gl X "set") (hm2 : X.mg "set" = none) (ha : PE X a ta) (hc : X.calm = true := by rfl)
    (na : starEach [a] X.env = (false, eval a X.env) :: starEach [] X.env := by rfl) : PE X (.Call (.Name "len" p) [.Call (.Name "set" p2) [a] [] q] [] pos) (tLenSetU X.K ta) := by
  refine ⟨fun pins s σ H Q I h => ?_⟩
  refine Call_ (ld_blt I hg hm PySem.boot_len ?_)
  refine PyProof.Rows.callWith_builtin1 (PyProof.Rows.args_cons ?_ rfl) rfl rfl
  refine Call_ (ld_blt I hg2 hm2 PyProof.Rows.boot_set ?_)
  refine PyProof.Rows.callWith_type1 (PyProof.Rows.args_cons (thn (ha.run pins s σ H _ I h) fun v s1 ⟨x, H1, I1, r1, q1⟩ => PyProof.Rows.args_nil ?_) na) na rfl
  obtain ⟨l, ns, rfl, hq, hl, q1⟩ := q1
  cases r1
  obtain ⟨its, r, pl, hz⟩ := I1.list hq
  have hlen : its.toArray.size = ns.length := by rw [List.size_toArray, ← r.length, List.length_map]
  refine call_set_list (I1.ok.hd hc) pl.isList (by simpa using RZ.intsAre_vals r) (by rw [hlen]; unfold scanBound; omega) fun h' tk hS hk => ?_
  refine PyProof.Rows.args_nil ?_
  rw [hlen] at hS
  obtain ⟨o, es, ep, t, ho, hex, hd, _, _, _, hf, hn⟩ := hS
  have I2 : Inv X pins σ H1 { s1 with heap := h', toks := tk } := I1.kept fun b o e => hk b o (Heap.lt_size e) e
  have hle : dl ns ≤ ns.length := PyProof.Rows.firstMet_length_le _ _
  have hn' : es.size = dl ns := hn
  exact call_len_set ho hex hd hf (by rw [hn'] <;> omega) ⟨.int (dl ns : Nat), H1, I2.tok _, ⟨_, by rw [hn']⟩, q1⟩
section
variable {K : PySem.W.Frag}
def AE.lenSet (a : AE K) : AE K := ⟨tLenSetU K a.te, fun e t k => a.wp e t fun d t1 => ∃ ns : List Int, d = .list (ns.map PyData.int) ∧ ns.length ≤ 4000 ∧ k (.int (dl ns : Nat)) t1, fun {m B0 B e σ H t k} r h Q q =>
  a.ok r h _ fun v d H1 t1 x1 k1 h1 r1 => by
    obtain ⟨ns, rfl, hl, hk⟩ := h1
    obtain ⟨a, xs, rfl, na, s, t⟩ := rp_lst.mp r1
    rw [ints_of t] at s
    exact ⟨a, ns, rfl, SqL.of s, hl, q _ _ H1 t1 x1 k1 hk (rp_int.mpr rfl)⟩⟩
theorem w_lenSet {a : AE K} {e : En} {t : Int} {k : PK} : (AE.lenSet a).wp e t k = a.wp e t fun d t1 => ∃ ns : List Int, d = .list (ns.map PyData.int) ∧ ns.length ≤ 4000 ∧ k (.int (dl ns : Nat)) t1 := rfl
theorem t_lenSet {a : AE K} : (AE.lenSet a).te = tLenSetU K a.te := rfl
/-! ### x += [..], x a list of one's own -/
theorem set_at {α : Type} {l : List α} {i : Nat} {x : α} (h : l[i]? = some x) : l.set i x = l := by
  obtain ⟨hi, rfl⟩ := List.getElem?_eq_some_iff.mp h
  exact List.set_getElem_self hi

def AS.ext (i : Nat) (a : AF K) : AS K := ⟨tAug i a.te rExt2, fun e t k => owS e[i]? fun ds => a.wp e t fun es t1 => ds.length + es.length ≤ 100000 ∧ k.nx (e.set i (.own (ds ++ es))) t1, fun {m B0 B1 H0 H1 Dd k} c {B e σ H t} f r h => by
  obtain ⟨ds, p, vs, e1, e2, b, b0, np, hp, ra, h⟩ := r.own h
  refine ⟨.ref p, e2, a.ok r h _ fun L es ws H2 t2 nL x2 k2 h2 hL r2 => ?_⟩
  have s2 := r.up x2 k2
  have ra2 := ra.up (r.wd x2)
  have r3 : RpA K B H2 es ws := RpA.less bp_up _ _ r2
  refine ⟨p, L, vs, ws, rfl, rfl, x2.kp _ _ np hp, hL, by rw [← ra.length, ← r2.length]; exact Nat.le_trans h2.1 (by decide), ?_⟩
  show Dd.nx (σ.set i (some (V.ref p))) _
  rw [set_at e2]
  exact c.nx ((f.step r x2).put s2 b b0 np) (s2.put e1 e2 b np (RpA.append ra2 r3)) h2.2⟩
theorem w_ext {i : Nat} {a : AF K} {e : En} {t : Int} {k : Kn} : (AS.ext i a).wp e t k = owS e[i]? fun ds => a.wp e t fun es t1 => ds.length + es.length ≤ 100000 ∧ k.nx (e.set i (.own (ds ++ es))) t1 := rfl
theorem t_ext {i : Nat} {a : AF K} : (AS.ext i a).ts = tAug i a.te rExt2 := rfl
/-! ### comprehensions with two sources -/
theorem Rep.under0 {m : Dck} {B0 B : Addr → Prop} {e : En} {σ : L2.St} {H H1 : Hp} {t t' : Int} {L : Addr} (r : Rep K m B0 B e σ H t) (n : H L = none) (x : Xt m.pl H H1) (k : m.ok H1 t') (h1 : H1 L ≠ none) : Rep K m (Bp B0 L) (Bp B L) e σ H1 t' := by
  have g : Gw B (Bp B L) H := gw_new n
  have al : Al (Bp B L) H1 := fun a h => h.elim (fun b => (xt_wd r.al r.pb x).al a b) fun e => e ▸ h1
  have y : Xt (Bp B L) H H1 := ⟨fun a u nb e => x.kp a u (fun z => nb (.inl (r.pb a z))) e, al⟩
  refine ⟨al, fun a p => .inl (r.pb a p), fun a p => p.elim (fun z => .inl (r.b0 a z)) .inr, k, r.ln, fun i => ?_, r.ow⟩
  have h := RepS.grow g (r.sl i)
  revert h
  generalize e[i]? = y
  generalize σ[i]? = z
  intro h
  match y, h with
  | some (.dat d), h =>
    obtain ⟨v, rfl, r⟩ := h
    exact ⟨v, rfl, r.up (by assumption)⟩
  | some (.own ds), h =>
    obtain ⟨p, vs, rfl, b, b0, np, hp, r⟩ := h
    refine ⟨p, vs, rfl, b, fun z => z.elim b0 fun w => ?_, np, x.kp p _ np hp, r.up (by assumption)⟩
    rw [w, n] at hp
    cases hp
  | some (.deck M), h => exact h
  | some .un, _ => trivial
  | none, _ => trivial
/-- only L and the deck have changed -/
structure Off (m : Dck) (L : Addr) (H H1 : Hp) : Prop where
  kp : ∀ a o, a ≠ L → ¬ m.pl a → H a = some o → H1 a = some o
theorem Off.trans {m : Dck} {L : Addr} {H H1 H2 : Hp} (x : Off m L H H1) (y : Off m L H1 H2) : Off m L H H2 := ⟨fun a o h1 h2 h3 => y.kp a o h1 h2 (x.kp a o h1 h2 h3)⟩
theorem Off.of {m : Dck} {L : Addr} {H H1 : Hp} (x : Xt m.pl H H1) : Off m L H H1 := ⟨fun a o _ h2 h3 => x.kp a o h2 h3⟩
theorem Rep.chg {m : Dck} {B0 B : Addr → Prop} {e : En} {σ : L2.St} {H H1 : Hp} {t t' : Int} {L : Addr} (r : Rep K m (Bp B0 L) B e σ H t) (x : Off m L H H1) (k : m.ok H1 t') (h1 : H1 L ≠ none) : Rep K m (Bp B0 L) B e σ H1 t' := by
  have bL : B L := r.b0 L (.inr rfl)
  have y : Xt B H H1 := ⟨fun a u nb e => x.kp a u (fun z => nb (z ▸ bL)) (fun z => nb (r.pb a z)) e, fun a h => by
    by_cases z : a = L
    · rw [z]; exact h1
    · by_cases w : m.pl a
      · exact m.live k w
      · cases q : H a with
        | none => exact absurd q (r.al a h)
        | some o => rw [x.kp a o z w q]; simp⟩
  refine ⟨y.al, r.pb, r.b0, k, r.ln, fun i => ?_, r.ow⟩
  have h := r.sl i
  revert h
  generalize e[i]? = y
  generalize σ[i]? = z
  intro h
  match y, h with
  | some (.dat d), h =>
    obtain ⟨v, rfl, r⟩ := h
    exact ⟨v, rfl, r.up (by assumption)⟩
  | some (.own ds), h =>
    obtain ⟨p, vs, rfl, b, b0, np, hp, r⟩ := h
    exact ⟨p, vs, rfl, b, b0, np, x.kp p _ (fun z => b0 (.inr z)) np hp, r.up (by assumption)⟩
  | some (.deck M), h => exact h
  | some .un, _ => trivial
  | none, _ => trivial
/-- [a for g in it if c for g1 in it1 if c1] -/
def AF.lc2 (it : AI K) (g : AG K) (c : AT K) (it1 : AI K) (g1 : AG K) (c1 : AT K) (a : AE K) (vs vs1 : List Nat) (hs : ∀ j ∈ g.sl, j ∈ vs) (hs1 : ∀ j ∈ g1.sl, j ∈ vs1) : AF K :=
  ⟨tLc2 it.ti g.tg c.tt it1.ti g1.tg c1.tt a.te vs vs1, fun e t k => it.wp e t fun ds t1 => ds.length ≤ 10000 ∧ ∃ I : Nat → List PyData → Int → Prop, I 0 [] t1 ∧
    (∀ (i : Nat) d acc t', ds[i]? = some d → I i acc t' → g.wp d (wipeE e vs) fun e2 => c.wp e2 t' fun b t3 => if b = true then it1.wp e2 t3 fun ds1 t4 => ds1.length ≤ 1000 ∧ ∃ I1 : Nat → List PyData → Int → Prop, I1 0 acc t4 ∧
      (∀ (j : Nat) d1 acc1 t5, ds1[j]? = some d1 → I1 j acc1 t5 → g1.wp d1 (wipeE e2 vs1) fun e3 => c1.wp e3 t5 fun b t6 => if b = true then a.wp e3 t6 fun x t7 => I1 (j + 1) (acc1 ++ [x]) t7 else I1 (j + 1) acc1 t6) ∧
      ∀ acc1 t5, I1 ds1.length acc1 t5 → I (i + 1) acc1 t5 else I (i + 1) acc t3) ∧
    ∀ acc t', I ds.length acc t' → k acc t', fun {m B0 B e σ H t k} r h Q q => by
  refine it.ok r h _ fun J ds H1 t1 x1 k1 h1 sq => ?_
  obtain ⟨hl, I, i0, is, ie⟩ := h1
  intro L nL
  have r1 := r.up x1 k1
  have nB : ¬ B L := r1.al.new nL
  have nP : ¬ m.pl L := fun z => nB (r.pb L z)
  have gw : Gw B (Bp B L) H1 := gw_new nL
  refine ⟨fun i mm H' => mm = ds.length - i ∧ i ≤ ds.length ∧ ∃ acc ws t', I i acc t' ∧ Xt m.pl H1 H' ∧ m.ok H' t' ∧ H' L = some (.lst ws) ∧ RpA K (Bp B L) H' acc ws ∧ acc.length ≤ 1000 * i, ⟨ds.length, by simp, Nat.zero_le _, [], [], t1, i0, m.xs k1 (same_new nL), m.same k1 (same_new nL), upd_same, RpA.nil, Nat.le_refl _⟩, ?_⟩
  rintro i mm H' ⟨rfl, hi, acc, ws, t', hI, x', k', hL, ra, hal⟩
  have rep := r1.under0 nL x' k' (by rw [hL]; simp)
  have xw : Xt (Bp B L) H1 H' := ⟨fun a u nb e => x'.kp a u (fun z => nb (.inl (r.pb a z))) e, rep.al⟩
  by_cases hlt : i < ds.length
  · refine .inr ⟨sq.go i H' _ hlt gw xw, fun H'' => ∃ acc ws t', I (i + 1) acc t' ∧ Xt m.pl H1 H'' ∧ m.ok H'' t' ∧ H'' L = some (.lst ws) ∧ RpA K (Bp B L) H'' acc ws ∧ acc.length ≤ 1000 * (i + 1), fun H'' p => ⟨ds.length - (i + 1), by omega, rfl, hlt, p⟩, fun x H3 y => ?_⟩
    obtain ⟨s3, rx⟩ := sq.yl i ds[i] x H' H3 _ (List.getElem?_eq_getElem hlt) gw xw y
    have rep3 := rep.same s3
    refine g.ok (rep3.wipe vs) rx (is i ds[i] acc t' (List.getElem?_eq_getElem hlt) hI) _ fun e2 σ2 hk2 rep4 hln hof => ⟨?_, ?_⟩
    · have e1 : L2.wipe σ2 vs = L2.wipe (L2.wipe σ vs) vs := wipe_eq hln fun j hj => hof j fun z => hj (hs j z)
      rw [e1]
      exact wipe_eq (wipe_length _ _) fun j hj => wipe_off hj
    · refine c.ok rep4 hk2 _ fun b H5 t5 x5 k5 h5 => ?_
      have rep5 := rep4.up x5 k5
      have x15 : Xt m.pl H1 H5 := (x'.trans (m.xs rep.ok s3)).trans x5
      have hL5 : H5 L = some (.lst ws) := x5.kp _ _ nP (s3 _ _ hL)
      have ra5 := (ra.up (Xt.of rep.al s3)).up (rep3.wd x5)
      cases b with
      | false =>
        rw [if_neg (by decide)] at h5 ⊢
        exact ⟨acc, ws, t5, h5, x15, k5, hL5, ra5, by omega⟩
      | true =>
        rw [if_pos rfl] at h5 ⊢
        refine it1.ok rep5 h5 _ fun J1 ds1 H6 t6 x6 k6 h6 sq1 => ?_
        obtain ⟨hl1, I1, j0, js, je⟩ := h6
        have rep6 := rep5.up x6 k6
        have hL6 : H6 L = some (.lst ws) := x6.kp _ _ nP hL5
        have ra6 := ra5.up (rep5.wd x6)
        have x16 : Xt m.pl H1 H6 := x15.trans x6
        refine ⟨fun j mm H' => mm = ds1.length - j ∧ j ≤ ds1.length ∧ ∃ acc1 ws1 t', I1 j acc1 t' ∧ Off m L H6 H' ∧ m.ok H' t' ∧ H' L = some (.lst ws1) ∧ RpA K (Bp B L) H' acc1 ws1 ∧ acc1.length ≤ 1000 * i + j, ⟨ds1.length, by simp, Nat.zero_le _, acc, ws, t6, j0, ⟨fun _ _ _ _ e => e⟩, k6, hL6, ra6, by omega⟩, ?_⟩
        rintro j mm H7 ⟨rfl, hj, acc1, ws1, t7, hI1, x7, k7, hL7, ra7, hal7⟩
        have rep7 := rep6.chg x7 k7 (by rw [hL7]; simp)
        have xw7 : Xt (Bp B L) H6 H7 := ⟨fun a u nb e => x7.kp a u (fun z => nb (.inr z)) (fun z => nb (.inl (r.pb a z))) e, rep7.al⟩
        have gw7 : Gw (Bp B L) (Bp B L) H6 := ⟨fun _ h => h, fun _ h => .inl h⟩
        by_cases hlt1 : j < ds1.length
        · refine .inr ⟨sq1.go j H7 _ hlt1 gw7 xw7, fun H'' => ∃ acc1 ws1 t', I1 (j + 1) acc1 t' ∧ Off m L H6 H'' ∧ m.ok H'' t' ∧ H'' L = some (.lst ws1) ∧ RpA K (Bp B L) H'' acc1 ws1 ∧ acc1.length ≤ 1000 * i + (j + 1), fun H'' p => ⟨ds1.length - (j + 1), by omega, rfl, hlt1, p⟩, fun x H8 y => ?_⟩
          obtain ⟨s8, rx8⟩ := sq1.yl j ds1[j] x H7 H8 _ (List.getElem?_eq_getElem hlt1) gw7 xw7 y
          have rep8 := rep7.same s8
          refine g1.ok (rep8.wipe vs1) rx8 (js j ds1[j] acc1 t7 (List.getElem?_eq_getElem hlt1) hI1) _ fun e3 σ3 hk3 rep9 hln3 hof3 => ⟨?_, ?_⟩
          · have e1 : L2.wipe σ3 vs1 = L2.wipe (L2.wipe σ2 vs1) vs1 := wipe_eq hln3 fun j hj => hof3 j fun z => hj (hs1 j z)
            rw [e1]
            exact wipe_eq (wipe_length _ _) fun j hj => wipe_off hj
          · refine c1.ok rep9 hk3 _ fun b H10 t10 x10 k10 h10 => ?_
            have rep10 := rep9.up x10 k10
            have of10 : Off m L H6 H10 := (x7.trans (Off.of (m.xs rep7.ok s8))).trans (Off.of x10)
            have hL10 : H10 L = some (.lst ws1) := x10.kp _ _ nP (s8 _ _ hL7)
            have ra10 := (ra7.up (Xt.of rep7.al s8)).up (rep8.wd x10)
            cases b with
            | true =>
              rw [if_pos rfl] at h10 ⊢
              refine a.ok rep10 h10 _ fun z d H11 t11 x11 k11 h11 r11 => ?_
              have hL11 : H11 L = some (.lst ws1) := x11.kp _ _ nP hL10
              have al11 := (rep10.up x11 k11).al
              have y11 : Xt (Bp B L) H11 (upd H11 L (.lst (ws1 ++ [z]))) := xt_put al11
              refine ⟨ws1, hL11, ?_, acc1 ++ [d], ws1 ++ [z], t11, h11, (of10.trans (Off.of x11)).trans ⟨fun b o hb _ e => by rw [upd_ne hb]; exact e⟩, m.stay k11 fun b o hb e => ?_, upd_same, ?_, by rw [List.length_append]; show acc1.length + 1 ≤ _; omega⟩
              · rw [← ra7.length]
                exact Nat.lt_of_lt_of_le (show acc1.length < 10001001 by omega) (by decide)
              · rw [upd_ne (fun w : b = L => nP (w ▸ hb))]
                exact e
              · exact RpA.append ((ra10.up (rep10.wd x11)).up y11) (.cons (r11.up y11) .nil)
            | false =>
              rw [if_neg (by decide)] at h10 ⊢
              exact ⟨acc1, ws1, t10, h10, of10, k10, hL10, ra10, by omega⟩
        · have e1 : j = ds1.length := by omega
          subst e1
          refine .inl ⟨sq1.st H7 _ gw7 xw7, acc1, ws1, t7, je acc1 t7 hI1, ⟨fun b o nb e => ?_, fun b hb => m.live k7 hb⟩, k7, hL7, ra7, by omega⟩
          exact x7.kp b o (ne_of_none e nL) nb (x16.kp b o nb e)
  · have e1 : i = ds.length := by omega
    subst e1
    exact .inl ⟨sq.st H' _ gw xw, q L acc ws H' t' (none_back r.ok x1 nL) (x1.trans x') k' (ie acc t' hI) hL ra⟩⟩
theorem w_lc2 {it : AI K} {g : AG K} {c : AT K} {it1 : AI K} {g1 : AG K} {c1 : AT K} {a : AE K} {vs vs1 : List Nat} {hs : ∀ j ∈ g.sl, j ∈ vs} {hs1 : ∀ j ∈ g1.sl, j ∈ vs1} {e : En} {t : Int} {k : List PyData → Int → Prop} : (AF.lc2 it g c it1 g1 c1 a vs vs1 hs hs1).wp e t k = it.wp e t fun ds t1 => ds.length ≤ 10000 ∧ ∃ I : Nat → List PyData → Int → Prop, I 0 [] t1 ∧
    (∀ (i : Nat) d acc t', ds[i]? = some d → I i acc t' → g.wp d (wipeE e vs) fun e2 => c.wp e2 t' fun b t3 => if b = true then it1.wp e2 t3 fun ds1 t4 => ds1.length ≤ 1000 ∧ ∃ I1 : Nat → List PyData → Int → Prop, I1 0 acc t4 ∧
      (∀ (j : Nat) d1 acc1 t5, ds1[j]? = some d1 → I1 j acc1 t5 → g1.wp d1 (wipeE e2 vs1) fun e3 => c1.wp e3 t5 fun b t6 => if b = true then a.wp e3 t6 fun x t7 => I1 (j + 1) (acc1 ++ [x]) t7 else I1 (j + 1) acc1 t6) ∧
      ∀ acc1 t5, I1 ds1.length acc1 t5 → I (i + 1) acc1 t5 else I (i + 1) acc t3) ∧
    ∀ acc t', I ds.length acc t' → k acc t' := rfl
theorem t_lc2 {it : AI K} {g : AG K} {c : AT K} {it1 : AI K} {g1 : AG K} {c1 : AT K} {a : AE K} {vs vs1 : List Nat} {hs : ∀ j ∈ g.sl, j ∈ vs} {hs1 : ∀ j ∈ g1.sl, j ∈ vs1} : (AF.lc2 it g c it1 g1 c1 a vs vs1 hs hs1).te = tLc2 it.ti g.tg c.tt it1.ti g1.tg c1.tt a.te vs vs1 := rfl
end
/-! ### sources inside a comprehension -/
theorem pi_enumTK {X : Cx} {K : PySem.W.Frag} {e : Expr} {ta : TA} {p pos tpos : Pos} {elts : List Expr} {kk : Nat} (hg : Gl X "enumerate") (hm : X.mg "enumerate" = none) (ha : PA X [e] ta) (hK : X.K = K := by rfl)
    (hs : starEach [e] X.env = [(false, eval e X.env)] := by rfl) : PI X (.Tuple elts kk tpos) (.Call (.Name "enumerate" p) [e] [] pos) (iEnumT K ta) := hK ▸ pi_enumT hg hm ha hs
theorem pi_tupK {X : Cx} {K : PySem.W.Frag} {l tg : Expr} {tl : TE} (hl : PE X l tl) (hK : X.K = K := by rfl) : PI X tg l (iTup K tl) := hK ▸ pi_tup hl
theorem pi_listK {X : Cx} {K : PySem.W.Frag} {l tg : Expr} {tl : TE} (hl : PE X l tl) (hK : X.K = K := by rfl) : PI X tg l (iList K tl) := hK ▸ pi_list hl
end CG

/-! Part 22: simple loops, listed in two ways. -/
namespace CG
open PySem PySem.Spec PyProof.Rows L2
/-- the kinds that a route comes to -/
def kds (cs : List Ctr) (k : Int) (is : List Nat) : List Int := k :: is.map fun i => (ctr cs i).t
def srcs (cs : List Ctr) (is : List Nat) : List Int := is.map fun i => (ctr cs i).s
section
variable {cs : List Ctr} {k : Int} {is r : List Nat} {j x : Nat} {n : Int}
theorem kds_app : kds cs k (is ++ [j]) = kds cs k is ++ [(ctr cs j).t] := by unfold kds; simp
theorem endK_snoc : endK cs k (is ++ [j]) = (ctr cs j).t := by rw [endK_app]; rfl
theorem kds_end : ∀ {is : List Nat} {k : Int}, ∃ ys, kds cs k is = ys ++ [endK cs k is] ∧ (Rt cs k is → ys = srcs cs is)
  | [], k => ⟨[], rfl, fun _ => rfl⟩
  | i :: is, k => by
    obtain ⟨ys, h1, h2⟩ := kds_end (is := is) (k := (ctr cs i).t)
    refine ⟨k :: ys, ?_, fun h => ?_⟩
    · show k :: kds cs (ctr cs i).t is = _
      rw [h1]
      rfl
    · rw [h2 h.2.2, ← h.2.1]
      rfl
theorem endK_ne {k' : Int} (h : is ≠ []) : endK cs k is = endK cs k' is := by
  cases is with
  | nil => exact absurd rfl h
  | cons i is => rfl
theorem Rt.snoc : Rt cs k (is ++ [j]) ↔ Rt cs k is ∧ j < cs.length ∧ (ctr cs j).s = endK cs k is := by
  rw [Rt.app]
  simp only [Rt, and_true]
def exts (cs : List Ctr) (k : Int) (is : List Nat) : List (List Nat) := ((List.range cs.length).filter fun j => decide ((ctr cs j).s = endK cs k is)).map fun j => is ++ [j]
def ext (cs : List Ctr) (k : Int) (ps : List (List Nat)) : List (List Nat) := ps.flatMap (exts cs k)
theorem mem_exts : r ∈ exts cs k is ↔ ∃ j, j < cs.length ∧ (ctr cs j).s = endK cs k is ∧ r = is ++ [j] := by
  unfold exts
  rw [List.mem_map]
  constructor
  · rintro ⟨j, hj, rfl⟩
    rw [List.mem_filter, List.mem_range, decide_eq_true_iff] at hj
    exact ⟨j, hj.1, hj.2, rfl⟩
  · rintro ⟨j, h1, h2, rfl⟩
    exact ⟨j, by rw [List.mem_filter, List.mem_range, decide_eq_true_iff]; exact ⟨h1, h2⟩, rfl⟩
theorem mem_ext {ps : List (List Nat)} : r ∈ ext cs k ps ↔ ∃ is ∈ ps, ∃ j, j < cs.length ∧ (ctr cs j).s = endK cs k is ∧ r = is ++ [j] := by
  unfold ext
  rw [List.mem_flatMap]
  simp only [mem_exts]
theorem exts_length : (exts cs k is).length ≤ cs.length := by
  unfold exts
  rw [List.length_map]
  exact Nat.le_trans (List.length_filter_le _ _) (by simp)
theorem ext_length (hl : cs.length ≤ 8) : ∀ {ps : List (List Nat)}, (ext cs k ps).length ≤ 8 * ps.length
  | [] => by simp [ext]
  | p :: ps => by
    have h := ext_length hl (ps := ps)
    have h2 := exts_length (cs := cs) (k := k) (is := p)
    show (exts cs k p ++ ext cs k ps).length ≤ _
    rw [List.length_append, List.length_cons]
    omega
theorem ext_nodup {ps : List (List Nat)} (h : ps.Nodup) : (ext cs k ps).Nodup := by
  unfold ext
  refine List.pairwise_flatMap.mpr ⟨fun p hp => ?_, ?_⟩
  · unfold exts
    rw [List.pairwise_map]
    refine (List.Pairwise.filter _ List.nodup_range).imp fun {a b} h z => h ?_
    have := List.append_cancel_left z
    simpa using this
  · refine List.Pairwise.imp (fun {a b} h x hx y hy z => h ?_) h
    obtain ⟨i, _, _, rfl⟩ := mem_exts.mp hx
    obtain ⟨j, _, _, rfl⟩ := mem_exts.mp hy
    exact (List.append_inj' z rfl).1
/-- simple ways from k -/
def pth (cs : List Ctr) (k : Int) : Nat → List (List Nat)
  | 0 => [[]]
  | x + 1 => (ext cs k (pth cs k x)).filter fun r => decide (endK cs k r ∉ (kds cs k r).dropLast)
theorem nodup_snoc {α : Type} {l : List α} {a : α} : (l ++ [a]).Nodup ↔ l.Nodup ∧ a ∉ l := by
  rw [List.nodup_append]
  constructor
  · rintro ⟨h1, _, h3⟩
    exact ⟨h1, fun z => h3 a z a (by simp) rfl⟩
  · rintro ⟨h1, h2⟩
    refine ⟨h1, by simp, fun x hx y hy e => ?_⟩
    rw [List.mem_singleton] at hy
    exact h2 (hy ▸ e ▸ hx)
theorem mem_pth : ∀ {x : Nat} {r : List Nat}, r ∈ pth cs k x ↔ r.length = x ∧ Rt cs k r ∧ (kds cs k r).Nodup
  | 0, r => by
    show r ∈ [[]] ↔ _
    rw [List.mem_singleton]
    constructor
    · rintro rfl
      exact ⟨rfl, trivial, by simp [kds]⟩
    · rintro ⟨h, _⟩
      exact List.length_eq_zero_iff.mp h
  | x + 1, r => by
    show r ∈ (ext cs k (pth cs k x)).filter _ ↔ _
    rw [List.mem_filter, mem_ext, decide_eq_true_iff]
    constructor
    · rintro ⟨⟨is, hi, j, h1, h2, rfl⟩, h3⟩
      obtain ⟨g1, g2, g3⟩ := mem_pth.mp hi
      rw [kds_app, List.dropLast_concat, endK_snoc] at h3
      refine ⟨by simp [g1], Rt.snoc.mpr ⟨g2, h1, h2⟩, ?_⟩
      rw [kds_app]
      exact nodup_snoc.mpr ⟨g3, h3⟩
    · rintro ⟨h1, h2, h3⟩
      rcases List.eq_nil_or_concat r with rfl | ⟨is, j, rfl⟩
      · simp at h1
      rw [List.concat_eq_append] at *
      rw [kds_app] at h3 ⊢
      obtain ⟨g1, g2⟩ := nodup_snoc.mp h3
      obtain ⟨k1, k2, k3⟩ := Rt.snoc.mp h2
      refine ⟨⟨is, mem_pth.mpr ⟨by simpa using h1, k1, g1⟩, j, k2, k3, rfl⟩, ?_⟩
      rw [List.dropLast_concat, endK_snoc]
      exact g2
theorem pth_nodup : ∀ {x : Nat}, (pth cs k x).Nodup
  | 0 => by simp [pth]
  | x + 1 => List.Pairwise.filter _ (ext_nodup pth_nodup)
theorem pth_length (hl : cs.length ≤ 8) : ∀ {x : Nat}, (pth cs k x).length ≤ 8 ^ x
  | 0 => by simp [pth]
  | x + 1 => by
    have h := pth_length hl (x := x)
    have h2 := ext_length hl (k := k) (ps := pth cs k x)
    refine Nat.le_trans (List.length_filter_le _ _) ?_
    rw [Nat.pow_succ]
    omega
/-- simple loops at k -/
def lps (cs : List Ctr) (k : Int) : Nat → List (List Nat)
  | 0 => []
  | x + 1 => lps cs k x ++ (ext cs k (pth cs k x)).filter fun r => decide (endK cs k r = k)
structure SL (cs : List Ctr) (k : Int) (r : List Nat) : Prop where
  ne : r ≠ []
  rt : Rt cs k r
  en : endK cs k r = k
  nd : (srcs cs r).Nodup
theorem srcs_of (h : Rt cs k r) : kds cs k r = srcs cs r ++ [endK cs k r] := by
  obtain ⟨ys, h1, h2⟩ := kds_end (cs := cs) (is := r) (k := k)
  rw [h1, h2 h]
theorem mem_new {x : Nat} {r : List Nat} : r ∈ (ext cs k (pth cs k x)).filter (fun r => decide (endK cs k r = k)) ↔ SL cs k r ∧ r.length = x + 1 := by
  rw [List.mem_filter, mem_ext, decide_eq_true_iff]
  constructor
  · rintro ⟨⟨is, hi, j, h1, h2, rfl⟩, h3⟩
    obtain ⟨g1, g2, g3⟩ := mem_pth.mp hi
    have rt : Rt cs k (is ++ [j]) := Rt.snoc.mpr ⟨g2, h1, h2⟩
    refine ⟨⟨by simp, rt, h3, ?_⟩, by simp [g1]⟩
    have e := srcs_of rt
    rw [kds_app] at e
    rw [← (List.append_inj' e rfl).1]
    exact g3
  · rintro ⟨⟨h1, h2, h3, h4⟩, h5⟩
    rcases List.eq_nil_or_concat r with rfl | ⟨is, j, rfl⟩
    · exact absurd rfl h1
    rw [List.concat_eq_append] at *
    obtain ⟨k1, k2, k3⟩ := Rt.snoc.mp h2
    have e := srcs_of h2
    rw [kds_app] at e
    rw [← (List.append_inj' e rfl).1] at h4
    exact ⟨⟨is, mem_pth.mpr ⟨by simpa using h5, k1, h4⟩, j, k2, k3, rfl⟩, h3⟩
theorem mem_lps : ∀ {x : Nat} {r : List Nat}, r ∈ lps cs k x ↔ SL cs k r ∧ r.length ≤ x
  | 0, r => by
    constructor
    · intro h; simp [lps] at h
    · rintro ⟨h, h2⟩
      exact absurd (List.length_eq_zero_iff.mp (Nat.le_zero.mp h2)) h.ne
  | x + 1, r => by
    show r ∈ lps cs k x ++ _ ↔ _
    rw [List.mem_append, mem_lps, mem_new]
    constructor
    · rintro (⟨h, h2⟩ | ⟨h, h2⟩)
      · exact ⟨h, by omega⟩
      · exact ⟨h, by omega⟩
    · rintro ⟨h, h2⟩
      by_cases z : r.length ≤ x
      · exact .inl ⟨h, z⟩
      · exact .inr ⟨h, by omega⟩
theorem lps_nodup : ∀ {x : Nat}, (lps cs k x).Nodup
  | 0 => by simp [lps]
  | x + 1 => by
    refine List.nodup_append.mpr ⟨lps_nodup, List.Pairwise.filter _ (ext_nodup pth_nodup), fun a ha b hb e => ?_⟩
    have h1 := (mem_lps.mp ha).2
    have h2 := (mem_new.mp hb).2
    rw [e] at h1
    omega
theorem new_length (hl : cs.length ≤ 8) {x : Nat} : ((ext cs k (pth cs k x)).filter (fun r => decide (endK cs k r = k))).length ≤ 8 ^ (x + 1) := by
  have h := pth_length hl (k := k) (x := x)
  have h2 := ext_length hl (k := k) (ps := pth cs k x)
  refine Nat.le_trans (List.length_filter_le _ _) ?_
  rw [Nat.pow_succ]
  omega
theorem lps_length (hl : cs.length ≤ 8) : ∀ {x : Nat}, (lps cs k x).length ≤ x * 8 ^ x
  | 0 => by simp [lps]
  | x + 1 => by
    have h := lps_length hl (x := x)
    have h2 := new_length hl (k := k) (x := x)
    show (lps cs k x ++ _).length ≤ _
    rw [List.length_append, Nat.succ_mul]
    have h3 : x * 8 ^ x ≤ x * 8 ^ (x + 1) := Nat.mul_le_mul_left _ (Nat.pow_le_pow_right (by decide) (by omega))
    omega
/-! ### the law's own list -/
def rts (cs : List Ctr) : Nat → List (List Nat)
  | 0 => (List.range cs.length).map fun i => [i]
  | x + 1 => ext cs 0 (rts cs x)
theorem hd0_snoc (h : is ≠ []) : hd0 (is ++ [j]) = hd0 is := by
  cases is with
  | nil => exact absurd rfl h
  | cons a is => rfl
theorem mem_rts : ∀ {x : Nat} {r : List Nat}, r ∈ rts cs x ↔ r.length = x + 1 ∧ Rt cs (ctr cs (hd0 r)).s r
  | 0, r => by
    show r ∈ (List.range cs.length).map (fun i => [i]) ↔ _
    rw [List.mem_map]
    constructor
    · rintro ⟨i, hi, rfl⟩
      exact ⟨rfl, List.mem_range.mp hi, rfl, trivial⟩
    · rintro ⟨h, h2⟩
      match r, h, h2 with
      | [i], _, h2 => exact ⟨i, List.mem_range.mpr h2.1, rfl⟩
  | x + 1, r => by
    show r ∈ ext cs 0 (rts cs x) ↔ _
    rw [mem_ext]
    constructor
    · rintro ⟨is, hi, j, h1, h2, rfl⟩
      obtain ⟨g1, g2⟩ := mem_rts.mp hi
      have ne : is ≠ [] := fun z => by rw [z] at g1; simp at g1
      refine ⟨by simp [g1], ?_⟩
      rw [hd0_snoc ne]
      exact Rt.snoc.mpr ⟨g2, h1, by rw [h2]; exact endK_ne ne⟩
    · rintro ⟨h1, h2⟩
      rcases List.eq_nil_or_concat r with rfl | ⟨is, j, rfl⟩
      · simp at h1
      rw [List.concat_eq_append] at *
      have g1 : is.length = x + 1 := by simpa using h1
      have ne : is ≠ [] := fun z => by rw [z] at g1; simp at g1
      rw [hd0_snoc ne] at h2
      obtain ⟨k1, k2, k3⟩ := Rt.snoc.mp h2
      exact ⟨is, mem_rts.mpr ⟨g1, k1⟩, j, k2, by rw [k3]; exact endK_ne ne, rfl⟩
theorem rts_nodup : ∀ {x : Nat}, (rts cs x).Nodup
  | 0 => by
    show ((List.range cs.length).map fun i => [i]).Nodup
    unfold List.Nodup
    rw [List.pairwise_map]
    exact List.nodup_range.imp fun {a b} h z => h (by simpa using z)
  | x + 1 => ext_nodup rts_nodup
theorem rts_length (hl : cs.length ≤ 8) : ∀ {x : Nat}, (rts cs x).length ≤ 8 ^ (x + 1)
  | 0 => by simp [rts]; exact hl
  | x + 1 => by
    have h := rts_length hl (x := x)
    have h2 := ext_length hl (k := 0) (ps := rts cs x)
    rw [Nat.pow_succ]
    exact Nat.le_trans h2 (by omega)
def isl (cs : List Ctr) (r : List Nat) : Bool := decide (endK cs 0 r = (ctr cs (hd0 r)).s)
def fnd (cs : List Ctr) : Nat → List (List Nat)
  | 0 => []
  | x + 1 => fnd cs x ++ (rts cs x).filter (isl cs)
theorem mem_fnd : ∀ {x : Nat} {r : List Nat}, r ∈ fnd cs x ↔ r ≠ [] ∧ r.length ≤ x ∧ Rt cs (ctr cs (hd0 r)).s r ∧ endK cs 0 r = (ctr cs (hd0 r)).s
  | 0, r => by
    constructor
    · intro h; simp [fnd] at h
    · rintro ⟨h, h2, _⟩
      exact absurd (List.length_eq_zero_iff.mp (Nat.le_zero.mp h2)) h
  | x + 1, r => by
    show r ∈ fnd cs x ++ (rts cs x).filter (isl cs) ↔ _
    rw [List.mem_append, mem_fnd, List.mem_filter, mem_rts]
    unfold isl
    rw [decide_eq_true_iff]
    constructor
    · rintro (⟨h, h2, h3⟩ | ⟨⟨h, h2⟩, h3⟩)
      · exact ⟨h, by omega, h3⟩
      · exact ⟨fun z => by rw [z] at h; simp at h, by omega, h2, h3⟩
    · rintro ⟨h, h2, h3, h4⟩
      by_cases z : r.length ≤ x
      · exact .inl ⟨h, z, h3, h4⟩
      · exact .inr ⟨⟨by omega, h3⟩, h4⟩
theorem fnd_nodup : ∀ {x : Nat}, (fnd cs x).Nodup
  | 0 => by simp [fnd]
  | x + 1 => by
    refine List.nodup_append.mpr ⟨fnd_nodup, List.Pairwise.filter _ rts_nodup, fun a ha b hb e => ?_⟩
    have h1 := (mem_fnd.mp ha).2.1
    have h2 := (mem_rts.mp (List.mem_filter.mp hb).1).1
    rw [e] at h1
    omega
theorem fnd_length (hl : cs.length ≤ 8) : ∀ {x : Nat}, (fnd cs x).length ≤ x * 8 ^ x
  | 0 => by simp [fnd]
  | x + 1 => by
    have h := fnd_length hl (x := x)
    have h2 : ((rts cs x).filter (isl cs)).length ≤ 8 ^ (x + 1) := Nat.le_trans (List.length_filter_le _ _) (rts_length hl)
    show (fnd cs x ++ _).length ≤ _
    rw [List.length_append, Nat.succ_mul]
    have h3 : x * 8 ^ x ≤ x * 8 ^ (x + 1) := Nat.mul_le_mul_left _ (Nat.pow_le_pow_right (by decide) (by omega))
    omega
def smp (cs : List Ctr) (k : Int) (r : List Nat) : Bool := decide ((ctr cs (hd0 r)).s = k) && decide (srcs cs r).Nodup
/-- a simple loop has at most so many counters as there are kinds -/
theorem SL.len (h : SL cs k r) {m : Nat} (hk : ∀ c ∈ cs, 0 ≤ c.s ∧ c.s < (m : Int)) : r.length ≤ m := by
  have h1 : (srcs cs r).length ≤ ((List.range m).map fun i : Nat => (i : Int)).length := by
    refine List.Nodup.length_le_of_subset h.nd fun x hx => ?_
    obtain ⟨i, hi, rfl⟩ := List.mem_map.mp hx
    obtain ⟨a, b⟩ := hk _ (ctr_mem (h.rt.inC i hi))
    exact List.mem_map.mpr ⟨(ctr cs i).s.toNat, List.mem_range.mpr (by omega), by omega⟩
  simpa [srcs] using h1
theorem SL.hd (h : SL cs k r) : (ctr cs (hd0 r)).s = k := by
  cases r with
  | nil => exact absurd rfl h.ne
  | cons i r => exact h.rt.2.1
theorem fnd_perm {m : Nat} (hm : m ≤ 4) (hk : ∀ c ∈ cs, 0 ≤ c.s ∧ c.s < (m : Int)) : ((fnd cs 4).filter (smp cs k)).Perm (lps cs k m) := by
  refine (List.perm_ext_iff_of_nodup (List.Pairwise.filter _ fnd_nodup) lps_nodup).mpr fun r => ?_
  rw [List.mem_filter, mem_fnd, mem_lps]
  unfold smp
  rw [Bool.and_eq_true, decide_eq_true_iff, decide_eq_true_iff]
  constructor
  · rintro ⟨⟨h1, h2, h3, h4⟩, h5, h6⟩
    rw [h5] at h3 h4
    have s : SL cs k r := ⟨h1, h3, (endK_ne h1).trans h4, h6⟩
    exact ⟨s, s.len hk⟩
  · rintro ⟨h, h2⟩
    have e := h.hd
    exact ⟨⟨h.ne, by omega, e ▸ h.rt, by rw [e, ← h.en]; exact (endK_ne h.ne).trans (by rw [h.en])⟩, e, h.nd⟩
/-- a turned loop is a loop -/
theorem SL.turn {i : Nat} {r : List Nat} (h : SL cs k (i :: r)) : SL cs (ctr cs i).t (r ++ [i]) := by
  obtain ⟨h1, h2, h3⟩ := h.rt
  have en : endK cs (ctr cs i).t r = k := h.en
  refine ⟨by simp, Rt.snoc.mpr ⟨h3, h1, by rw [en]; exact h2⟩, endK_snoc, ?_⟩
  have nd := h.nd
  unfold srcs at nd ⊢
  rw [List.map_append]
  refine (List.Perm.nodup ?_ nd)
  exact (List.perm_append_comm (l₁ := [i].map fun i => (ctr cs i).s) (l₂ := r.map fun i => (ctr cs i).s))
end
end CG

/-! Part 23: min(.., default=None), zip, x.pop() unpacked, list(x), x[::-1] of a list. -/
namespace CG
open PySem PySem.Spec PyProof.Rows L2
/-! ### min(xs, default=None) -/
def rMinD (K : PySem.W.Frag) : List V → List V → Hp → VK → Prop := fun xs zs H Q => ∃ (a : Addr) (ns : List Int), xs = [V.ref a] ∧ zs = [V.non] ∧ SqL K H a (ns.map V.int) ∧ (ns = [] → Q .non H) ∧ ∀ m, m ∈ ns → (∀ y ∈ ns, m ≤ y) → Q (.int m) H
theorem foldl_min : ∀ (ns : List Int) (n : Int), ns.foldl min n ∈ n :: ns ∧ ∀ y ∈ n :: ns, ns.foldl min n ≤ y
  | [], n => by simp
  | x :: ns, n => by
    obtain ⟨h1, h2⟩ := foldl_min ns (min n x)
    rw [List.foldl_cons]
    have h3 := h2 (min n x) (by simp)
    refine ⟨?_, fun y hy => ?_⟩
    · rcases List.mem_cons.mp h1 with h | h
      · rw [h]
        by_cases z : n ≤ x
        · rw [Int.min_eq_left z]; simp
        · rw [Int.min_eq_right (by omega)]; simp
      · simp [h]
    · rcases List.mem_cons.mp hy with rfl | hy
      · omega
      · rcases List.mem_cons.mp hy with rfl | hy
        · omega
        · exact h2 y (by simp [hy])
theorem dp_ints {K : PySem.W.Frag} {H : Hp} : ∀ ns : List Int, DpAll K H (ns.map V.int) (ns.map PyData.int)
  | [] => .nil
  | n :: ns => .cons (.int n) (dp_ints ns)
theorem cr_minD {X : Cx} (hc : X.calm = true) (hu : X.A.units + 64 < cLine) : CallRK X (.builtin "min") ["default"] (rMinD X.K) := by
  intro pins s σ H xs zs us ws Q I r1 r2 h
  obtain ⟨a, ns, rfl, rfl, hs, q0, q1⟩ := h
  obtain ⟨its, rv, hl, _⟩ := I.list hs
  rw [Vals.ref1 r1]
  cases r2 with
  | cons r2 r3 =>
    cases r3
    cases r2
    obtain ⟨as, rd⟩ := Dp.readsAll I _ _ _ (dp_ints ns) rv
    show wpAny _ _ (call (.builtin "min") [.ref a] [(Str.ofString "default", .none)]) _ _ s
    refine PySem.W.min_list_default (xs := ns.map PyData.int) (I.ok.hd hc) hl.isList (by simpa using rd) ⟨fun x hx y hy => ?_, fun x hx => ?_⟩ (by rw [PySem.W.depth_ints]; omega) (fun e h' tk hk => ?_) (fun y ys i v h' tk bs e hv hr hk => ?_)
    · obtain ⟨i, _, rfl⟩ := List.mem_map.mp hx
      obtain ⟨j, _, rfl⟩ := List.mem_map.mp hy
      simp [PySem.W.alike]
    · obtain ⟨i, _, rfl⟩ := List.mem_map.mp hx
      simp
    · exact ⟨.non, H, I.kept hk, rfl, q0 (by simpa using e)⟩
    · cases ns with
      | nil => cases e
      | cons n ns =>
        simp only [List.map_cons, List.cons.injEq] at e
        obtain ⟨rfl, rfl⟩ := e
        rw [PySem.W.minD_ints] at hr
        obtain ⟨h1, h2⟩ := foldl_min ns n
        cases hr
        exact ⟨.int _, H, I.kept hk, ⟨_, rfl⟩, q1 _ h1 h2⟩
section
variable {K : PySem.W.Frag}
def AE.minD (a : AE K) : AE K := ⟨tCKw (rMinD K) (tCons a.te tNil) (tCons (tC .non) tNil), fun e t k => a.wp e t fun d t1 => ∃ ns : List Int, d = .list (ns.map PyData.int) ∧ (ns = [] → k .none t1) ∧ ∀ m, m ∈ ns → (∀ y ∈ ns, m ≤ y) → k (.int m) t1, fun {m B0 B e σ H t k} r h Q q =>
  a.ok r h _ fun v d H1 t1 x1 k1 h1 r1 => by
    obtain ⟨ns, rfl, h2, h3⟩ := h1
    obtain ⟨a, xs, rfl, na, s, t⟩ := rp_lst.mp r1
    rw [ints_of t] at s
    exact ⟨a, ns, rfl, rfl, SqL.of s, fun z => q _ _ H1 t1 x1 k1 (h2 z) (rp_non.mpr rfl), fun m hm hy => q _ _ H1 t1 x1 k1 (h3 m hm hy) (rp_int.mpr rfl)⟩⟩
theorem w_minD {a : AE K} {e : En} {t : Int} {k : PK} : (AE.minD a).wp e t k = a.wp e t fun d t1 => ∃ ns : List Int, d = .list (ns.map PyData.int) ∧ (ns = [] → k .none t1) ∧ ∀ m, m ∈ ns → (∀ y ∈ ns, m ≤ y) → k (.int m) t1 := rfl
theorem t_minD {a : AE K} : (AE.minD a).te = tCKw (rMinD K) (tCons a.te tNil) (tCons (tC .non) tNil) := rfl
/-! ### zip of two tuples -/
def zipD (xs ys : List PyData) : List PyData := (xs.zip ys).map fun p => .tuple [p.1, p.2]
def unTT : List PyData → (List PyData → List PyData → Prop) → Prop
  | [.tuple xs, .tuple ys], k => k xs ys
  | _, _ => False
theorem zipD_get {xs ys : List PyData} {i : Nat} {d : PyData} (h : (zipD xs ys)[i]? = some d) : ∃ x y, xs[i]? = some x ∧ ys[i]? = some y ∧ d = .tuple [x, y] := by
  unfold zipD at h
  rw [List.getElem?_map] at h
  cases q : (xs.zip ys)[i]? with
  | none => rw [q] at h; cases h
  | some p =>
    rw [q] at h
    cases h
    obtain ⟨a, b⟩ := List.getElem?_zip_eq_some.mp q
    exact ⟨_, _, a, b, rfl⟩
theorem zipD_length {xs ys : List PyData} : (zipD xs ys).length = min xs.length ys.length := by unfold zipD; rw [List.length_map, List.length_zip]
theorem sq_zipT {B : Addr → Prop} {H : Hp} {a b : Addr} {xs ys : List V} {ds es : List PyData} (na : ¬ B a ∨ KT K a xs) (s : SqT K H a xs) (t : RpA K B H ds xs) (nb : ¬ B b ∨ KT K b ys) (s2 : SqT K H b ys) (t2 : RpA K B H es ys) : Sq K (RZ.ItzT K a b) B H (zipD ds es) := by
  have l1 := t.length
  have l2 := t2.length
  refine ⟨fun i H' B' hi g x => ?_, fun H' B' g x => ⟨xs, ys, sqT_on na s g x, sqT_on nb s2 g x, by rw [zipD_length]; omega⟩, fun i d y H' H3 B' hd g x z => ?_⟩
  · rw [zipD_length] at hi
    obtain ⟨y, hy, _⟩ := t.get (i := i) (d := ds[i]) (List.getElem?_eq_getElem (by omega))
    obtain ⟨y2, hy2, _⟩ := t2.get (i := i) (d := es[i]) (List.getElem?_eq_getElem (by omega))
    exact ⟨xs, ys, y, y2, sqT_on na s g x, sqT_on nb s2 g x, hy, hy2⟩
  · obtain ⟨T, x', y', rfl, nT, rfl, z1, z2⟩ := z
    obtain ⟨w, w2, hw, hw2, rfl⟩ := zipD_get hd
    obtain ⟨u, hu, ru⟩ := t.get hw
    obtain ⟨u2, hu2, ru2⟩ := t2.get hw2
    have e := z1 xs (sqT_on na s g x)
    rw [hu] at e
    cases e
    have e := z2 ys (sqT_on nb s2 g x)
    rw [hu2] at e
    cases e
    have s3 : Same H' (upd H' T (.tup [x', y'])) := same_new nT
    exact ⟨s3, rp_tup.mpr ⟨T, _, rfl, .inl (x.al.new nT), SqT.of upd_same, .cons (((Rp.grow g _ _ ru).up x).up (Xt.of x.al s3)) (.cons (((Rp.grow g _ _ ru2).up x).up (Xt.of x.al s3)) .nil)⟩⟩
def AI.zip (a : AA K) : AI K := ⟨RZ.iZipA K a.ta, fun e t k => a.wp e t fun ds t1 => unTT ds fun xs ys => k (zipD xs ys) t1, fun {m B0 B e σ H t k} r h R q =>
  a.ok r h _ fun vs ds H1 t1 x1 k1 h1 r1 => by
    unfold unTT at h1
    split at h1
    · obtain ⟨v, w, rfl, rv, rw⟩ := rpa_cons.mp r1
      obtain ⟨v2, w2, rfl, rv2, rw2⟩ := rpa_cons.mp rw
      obtain rfl := rpa_nil.mp rw2
      obtain ⟨a, xs, rfl, na, s, t⟩ := rp_tup.mp rv
      obtain ⟨b, ys, rfl, nb, s2, t2⟩ := rp_tup.mp rv2
      exact ⟨a, b, xs, ys, rfl, .inr ⟨s, s2, q _ _ H1 t1 x1 k1 h1 (sq_zipT na s t nb s2 t2)⟩⟩
    · exact h1.elim⟩
theorem w_AI_zip (a : AA K) : (AI.zip a).wp = fun e t k => a.wp e t fun ds t1 => unTT ds fun xs ys => k (zipD xs ys) t1 := rfl
theorem t_AI_zip (a : AA K) : (AI.zip a).ti = RZ.iZipA K a.ta := rfl
theorem q_unTT {xs ys : List PyData} {k : List PyData → List PyData → Prop} : unTT [.tuple xs, .tuple ys] k = k xs ys := rfl
/-! ### a, b = x.pop() -/
theorem RpA.dropL {B : Addr → Prop} {H : Hp} {ds : List PyData} {d : PyData} {xs : List V} (h : RpA K B H (ds ++ [d]) xs) : ∃ y, xs[xs.length - 1]? = some y ∧ Rp K B H d y ∧ RpA K B H ds xs.dropLast := by
  have hl := h.length
  rw [List.length_append, List.length_singleton] at hl
  obtain ⟨y, hy, ry⟩ := h.get (i := ds.length) (d := d) (by simp)
  have h2 := RpA.take ds.length h
  rw [List.take_left'  rfl] at h2
  refine ⟨y, by rw [← hl]; exact hy, ry, ?_⟩
  rw [List.dropLast_eq_take, ← hl]
  exact h2
def AS.asgPop (i : Nat) (g : AG K) : AS K := ⟨tAsg (tBM0 K "list" rPop (tVar i)) g.tg, fun e t k => owS e[i]? fun ds => ∃ ds' d, ds = ds' ++ [d] ∧ g.wp d (e.set i (.own ds')) fun e' => k.nx e' t, fun {m B0 B1 H0 H1 Dd k} c {B e σ H t} f r h => by
  obtain ⟨ds, p, vs, e1, e2, b, b0, np, hp, ra, ds', d, rfl, h⟩ := r.own h
  obtain ⟨y, hy, ry, rd⟩ := RpA.dropL ra
  have s3 := r.put e1 e2 b np rd
  have xq : Xt B H (upd H p (.lst vs.dropLast)) := ⟨fun a o nb z => by rw [upd_ne (fun w => nb (by rw [w]; exact b))]; exact z, s3.al⟩
  refine ⟨.ref p, e2, .inl ⟨rfl, _, SqL.of hp⟩, p, vs, y, rfl, rfl, hp, hy, ?_⟩
  exact g.ok s3 (ry.up xq) h _ fun e' σ' hk r' _ _ => c.nx (f.put r b b0 np) r' hk⟩
theorem w_asgPop {i : Nat} {g : AG K} {e : En} {t : Int} {k : Kn} : (AS.asgPop i g).wp e t k = owS e[i]? fun ds => ∃ ds' d, ds = ds' ++ [d] ∧ g.wp d (e.set i (.own ds')) fun e' => k.nx e' t := rfl
theorem t_asgPop {i : Nat} {g : AG K} : (AS.asgPop i g).ts = tAsg (tBM0 K "list" rPop (tVar i)) g.tg := rfl
/-! ### list(x), x a list of one's own -/
def AF.ownLst (K : PySem.W.Frag) (i : Nat) : AF K := ⟨tCB (rLstU K) (tCons (tVar i) tNil), fun e t k => owS e[i]? fun ds => k ds t, fun {m B0 B e σ H t k} r h Q q => by
  obtain ⟨ds, p, vs, e1, e2, _, _, np, hp, ra, h⟩ := r.own h
  refine ⟨.ref p, e2, p, vs, rfl, .inl (SqL.of hp), fun l nl => ?_⟩
  have s := same_new (o := .lst vs) nl
  exact q l ds vs _ t nl (m.xs r.ok s) (m.same r.ok s) h upd_same ((RpA.grow (gw_new nl) _ _ ra).up ⟨fun a o _ e => s a o e, al_new r.al⟩)⟩
theorem w_ownLst {i : Nat} {e : En} {t : Int} {k : List PyData → Int → Prop} : (AF.ownLst K i).wp e t k = owS e[i]? fun ds => k ds t := rfl
theorem t_ownLst {i : Nat} : (AF.ownLst K i).te = tCB (rLstU K) (tCons (tVar i) tNil) := rfl
end
/-! ### xs[::-1] of a list -/
theorem pick_rev (its : List Value) : slicePick its.toArray none none (some (-1)) = its.reverse.toArray := by
  unfold slicePick sliceBounds
  simp only [Option.getD_some]
  congr 1
  rw [List.size_toArray]
  have e : sliceRange (if (-1 : Int) > 0 then 0 else (its.length : Int) - 1) (if (-1 : Int) > 0 then (its.length : Int) else -1) (-1) = (List.range its.length).map fun k : Nat => ((its.length : Int) - 1 + -1 * (k : Int)).toNat := by
    rw [if_neg (by decide), if_neg (by decide)]
    unfold sliceRange
    simp only
    rw [if_neg (by decide)]
    congr 2
    rw [show - -(1 : Int) = 1 from rfl, Int.ediv_one]
    split <;> omega
  rw [e, List.filterMap_map]
  have h := rev_pick its
  rw [List.size_toArray] at h
  rw [← h]
  congr 1
  funext k
  simp only [Function.comp]
  congr 2
  omega
def tRevL (K : PySem.W.Frag) (te : TE) : TE := fun σ H Q => te σ H fun x H1 => ∃ a xs, x = .ref a ∧ SqL K H1 a xs ∧ ∀ p, H1 p = none → Q (.ref p) (upd H1 p (.lst xs.reverse))
theorem pe_revL {X : Cx} {e : Expr} {te : TE} {k : Nat} {p1 p2 p3 pos : Pos} (he : PE X e te) :
    PE X (.Subscript e (.Slice none none (some (.UnaryOp .USub (.Constant (.int 1) k p1) p2)) p3) pos) (tRevL X.K te) := by
  refine ⟨fun pins s σ H Q I h => ?_⟩
  refine Subscript_ (thn (he.run pins s σ H _ I h) fun v s1 ⟨x, H1, I1, r1, q1⟩ => ?_)
  obtain ⟨a, xs, rfl, hx, q⟩ := q1
  cases r1
  have hst : PO X (some (.UnaryOp .USub (.Constant (.int 1) k p1) p2)) (tPart (tUn (rU fun i => .int (-i)) (tC (.int 1)))) := po_some (pe_un un_neg pe_int)
  refine wpAny_Slice (thn (po_none.run pins s1 σ H1 (fun o G => o = none ∧ G = H1) I1 ⟨rfl, rfl⟩) fun vl s2 ⟨l, H2, I2, pl, el, e2⟩ => ?_)
  subst el e2
  refine thn (po_none.run pins s2 σ H2 (fun o G => o = none ∧ G = H2) I2 ⟨rfl, rfl⟩) fun vu s3 ⟨u, H3, I3, pu, eu, e3⟩ => ?_
  subst eu e3
  refine thn (hst.run pins s3 σ H3 (fun o G => o = some (-1) ∧ G = H3) I3 ⟨1, rfl, -1, rfl, rfl, rfl⟩) fun vs s4 ⟨o, H4, I4, ps, eo, e4⟩ => ?_
  subst eo e4
  have I5 : Inv X pins σ H4 { s4 with heap := s4.heap.push { cls := .type "slice", data := .fields #[vl, vu, vs] } } := I4.kept (t' := s4.toks) fun b ob q => Heap.get?_push_of_some _ q
  obtain ⟨its, r, ht, hz⟩ := I5.list hx
  obtain rfl : vl = Value.none := by cases pl; rfl
  obtain rfl : vu = Value.none := by cases pu; rfl
  show wpAny (model X.prog X.w) X.A (subscriptTail e (.Slice none none (some (.UnaryOp .USub (.Constant (.int 1) k p1) p2)) p3) (.ref a) (.ref s4.heap.objs.size)) (EP X pins σ Q) X.xe { s4 with heap := s4.heap.push { cls := .type "slice", data := .fields #[.none, .none, vs] } }
  refine tail_any (ops := [.ref a, .ref s4.heap.objs.size]) ht.isList.typeIs (slot_list_getitem.lookup) ?_ (by with_unfolding_all rfl)
  refine wpAny_getItem_list_slice ht.isList (Heap.IsSliceOf.new _ .none .none vs) .none .none ps (by simp) ?_ (by rw [List.size_toArray, ← r.length]; exact hz)
  rw [pick_rev]
  refine ⟨.ref _, _, I5.laid (t' := s4.toks) (o := .lst xs.reverse) (fun b ob q => Heap.get?_push_of_some _ q) (Nat.le_refl _) ?_, rfl, q _ (I5.hok.fresh (Nat.le_refl _))⟩
  exact ⟨by rw [List.length_reverse]; exact hz, _, 0, r.reverse, Heap.get?_push_size _ rfl⟩
section
variable {K : PySem.W.Frag}
def unL0 : PyData → (List PyData → Prop) → Prop
  | .list ds, k => k ds
  | _, _ => False
def AE.revL (a : AE K) : AE K := ⟨tRevL K a.te, fun e t k => a.wp e t fun d t1 => unL0 d fun ds => k (.list ds.reverse) t1, fun {m B0 B e σ H t k} r h Q q =>
  a.ok r h _ fun v d H1 t1 x1 k1 h1 r1 => by
    unfold unL0 at h1
    split at h1
    · obtain ⟨a, xs, rfl, na, s, t⟩ := rp_lst.mp r1
      refine ⟨a, xs, rfl, SqL.of s, fun p np => ?_⟩
      have sm := same_new (o := .lst xs.reverse) np
      have r2 := r.up x1 k1
      exact q _ _ _ t1 (x1.trans (m.xs k1 sm)) (m.same k1 sm) h1 (rp_lst.mpr ⟨p, _, rfl, r2.al.new np, upd_same, (RpA.rev t).up (Xt.of r2.al sm)⟩)
    · exact h1.elim⟩
theorem w_revL {a : AE K} {e : En} {t : Int} {k : PK} : (AE.revL a).wp e t k = a.wp e t fun d t1 => unL0 d fun ds => k (.list ds.reverse) t1 := rfl
theorem t_revL {a : AE K} : (AE.revL a).te = tRevL K a.te := rfl
theorem q_unL0 {ds : List PyData} {k : List PyData → Prop} : unL0 (.list ds) k = k ds := rfl
/-! ### x, y = [..], [..] -/
def AS.parO (i j : Nat) (b d : AF K) : AS K := ⟨tPar i j (tCons b.te (tCons d.te tNil)), fun e t k => b.wp e t fun ys t2 => d.wp e t2 fun ds t3 => k.nx ((e.set i (.own ys)).set j (.own ds)) t3, fun {m B0 B1 H0 H1 Dd k} c {B e σ H t} f r h => by
  refine b.ok r h _ fun L1 ys ws H3 t3 nL1 x3 k3 h3 hL1 ra1 => ?_
  have s3 : Rep K m B0 (Bp B L1) e σ H3 t3 := r.under nL1 x3 k3 (by rw [hL1]; simp)
  refine d.ok s3 h3 _ fun L2 ds vs H4 t4 nL2 x4 k4 h4 hL2 ra2 => ⟨.ref L1, .ref L2, rfl, ?_⟩
  have s4 := (r.setOwn (i := i) nL1 x3 k3 hL1 ra1).setOwn (i := j) nL2 x4 k4 hL2 ra2
  exact c.nx ((f.new r nL1 x3).new s3 nL2 x4) s4 h4⟩
theorem w_parO {i j : Nat} {b d : AF K} {e : En} {t : Int} {k : Kn} : (AS.parO i j b d).wp e t k = b.wp e t fun ys t2 => d.wp e t2 fun ds t3 => k.nx ((e.set i (.own ys)).set j (.own ds)) t3 := rfl
theorem t_parO {i j : Nat} {b d : AF K} : (AS.parO i j b d).ts = tPar i j (tCons b.te (tCons d.te tNil)) := rfl
/-! ### [..] * n, new -/
def AF.rep (a : AF K) (b : AE K) : AF K := ⟨tOp (rMulU K) a.te b.te, fun e t k => a.wp e t fun ds t1 => b.wp e t1 fun y t2 => unI y fun n => (0 ≤ n ∧ n ≤ 1000 ∧ ds.length ≤ 1000) ∧ k (List.replicate n.toNat ds).flatten t2, fun {m B0 B e σ H t k} r h Q q => by
  refine a.ok r h _ fun L ds vs H2 t2 nL x2 k2 h2 hL ra => ?_
  have s2 := r.up x2 k2
  refine b.ok s2 h2 _ fun w y H3 t3 x3 k3 h3 r3 => ?_
  obtain ⟨n, rfl, ⟨n0, n1, nl⟩, h3⟩ := unI_of h3
  have nP : ¬ m.pl L := fun z => r.al.new nL (r.pb L z)
  have ra2 : RpA K B H3 ds vs := (RpA.less bp_up _ _ ra).up (s2.wd x3)
  refine .inr (.inr ⟨L, n, vs, rfl, rp_int.mp r3, x3.kp _ _ nP hL, by omega, by omega, ?_, fun p np => ?_⟩)
  · rw [← ra.length]
    exact Nat.le_trans (Nat.mul_le_mul nl (show n.toNat ≤ 1000 by omega)) (by decide)
  · have s := same_new (o := .lst (List.replicate n.toNat vs).flatten) np
    have s3 := s2.up x3 k3
    have np0 : H p = none := none_back r.ok (x2.trans x3) np
    exact q p _ _ _ t3 np0 ((x2.trans x3).trans (m.xs k3 s)) (m.same k3 s) h3 upd_same ((RpA.grow (gw_new np) _ _ (rpa_flat ra2 _)).up ⟨fun a o _ e => s a o e, al_new s3.al⟩)⟩
theorem w_AF_rep {a : AF K} {b : AE K} {e : En} {t : Int} {k : List PyData → Int → Prop} : (AF.rep a b).wp e t k = a.wp e t fun ds t1 => b.wp e t1 fun y t2 => unI y fun n => (0 ≤ n ∧ n ≤ 1000 ∧ ds.length ≤ 1000) ∧ k (List.replicate n.toNat ds).flatten t2 := rfl
theorem t_AF_rep {a : AF K} {b : AE K} : (AF.rep a b).te = tOp (rMulU K) a.te b.te := rfl
end
end CG

/-! Part 24: greatest numbers, found in two ways. -/
namespace CG
open PySem PySem.Spec PyProof.Rows L2
/-! ### numbers of coins, none: without end -/
abbrev Num := Option Int
abbrev Vec := Int → Num
def nle (a b : Num) : Prop := ∀ y, b = some y → ∃ x, a = some x ∧ x ≤ y
def vle (x y : Vec) : Prop := ∀ j, nle (x j) (y j)
theorem nle_refl (a : Num) : nle a a := fun y h => ⟨y, h, Int.le_refl _⟩
theorem nle_none (a : Num) : nle a none := fun y h => by cases h
theorem nle_trans {a b c : Num} (h : nle a b) (k : nle b c) : nle a c := fun y hy => by
  obtain ⟨x, hx, l⟩ := k y hy
  obtain ⟨w, hw, l2⟩ := h x hx
  exact ⟨w, hw, by omega⟩
theorem nle_anti {a b : Num} (h : nle a b) (k : nle b a) : a = b := by
  cases a with
  | none =>
    cases b with
    | none => rfl
    | some y => obtain ⟨x, hx, _⟩ := h y rfl; cases hx
  | some x =>
    obtain ⟨y, hy, l⟩ := k x rfl
    obtain ⟨z, hz, l2⟩ := h y hy
    cases hz
    rw [hy]
    congr 1
    omega
theorem vle_refl (x : Vec) : vle x x := fun j => nle_refl _
theorem vle_trans {x y z : Vec} (h : vle x y) (k : vle y z) : vle x z := fun j => nle_trans (h j) (k j)
theorem vle_anti {x y : Vec} (h : vle x y) (k : vle y x) : x = y := funext fun j => nle_anti (h j) (k j)
def nmax : Num → Num → Num
  | some a, some b => some (if a < b then b else a)
  | _, _ => none
theorem le_nmax_l (a b : Num) : nle a (nmax a b) := fun y h => by
  cases a with
  | none => simp [nmax] at h
  | some x =>
    cases b with
    | none => simp [nmax] at h
    | some z =>
      simp only [nmax, Option.some.injEq] at h
      refine ⟨x, rfl, ?_⟩
      rw [← h]
      split <;> omega
theorem le_nmax_r (a b : Num) : nle b (nmax a b) := fun y h => by
  cases a with
  | none => simp [nmax] at h
  | some x =>
    cases b with
    | none => simp [nmax] at h
    | some z =>
      simp only [nmax, Option.some.injEq] at h
      refine ⟨z, rfl, ?_⟩
      rw [← h]
      split <;> omega
theorem nmax_le {a b c : Num} (h : nle a c) (k : nle b c) : nle (nmax a b) c := fun y hy => by
  obtain ⟨x, rfl, l⟩ := h y hy
  obtain ⟨z, rfl, l2⟩ := k y hy
  refine ⟨_, rfl, ?_⟩
  split <;> omega
theorem nmax_or {a b : Num} {v : Int} (h : nmax a b = some v) : a = some v ∨ b = some v := by
  cases a with
  | none => simp [nmax] at h
  | some x =>
    cases b with
    | none => simp [nmax] at h
    | some z =>
      simp only [nmax, Option.some.injEq] at h
      by_cases c : x < z
      · rw [if_pos c] at h; exact .inr (by rw [h])
      · rw [if_neg c] at h; exact .inl (by rw [h])
def fc (c : Ctr) (a : Num) : Num := a.map fun x => x / c.g * c.e
theorem fc_mono {c : Ctr} {n : Int} (hc : c.Ok n) {a b : Num} (h : nle a b) : nle (fc c a) (fc c b) := fun y hy => by
  cases b with
  | none => simp [fc] at hy
  | some w =>
    obtain ⟨x, rfl, l⟩ := h w rfl
    simp only [fc, Option.map_some, Option.some.injEq] at hy
    refine ⟨x / c.g * c.e, rfl, ?_⟩
    rw [← hy]
    have g0 := hc.g0
    have e0 := hc.e0
    exact Int.mul_le_mul_of_nonneg_right (Int.ediv_le_ediv (by omega) l) (by omega)
/-- one counter: x what is handed in, y what has been found -/
def rel (c : Ctr) (x y : Vec) : Vec := fun j => if j = c.t then nmax (y j) (fc c (x c.s)) else y j
theorem rel_ge {c : Ctr} {x y : Vec} : vle y (rel c x y) := fun j => by
  unfold rel
  split
  · exact le_nmax_l _ _
  · exact nle_refl _
theorem rel_has {c : Ctr} {x y : Vec} : nle (fc c (x c.s)) (rel c x y c.t) := by
  unfold rel
  rw [if_pos rfl]
  exact le_nmax_r _ _
theorem rel_le {c : Ctr} {x y z : Vec} (h : vle y z) (k : nle (fc c (x c.s)) (z c.t)) : vle (rel c x y) z := fun j => by
  unfold rel
  split
  · rename_i e
    rw [e]
    exact nmax_le (h _) k
  · exact h j
def foldA (cs : List Ctr) (x y : Vec) : Vec := cs.foldl (fun y c => rel c x y) y
def foldG (cs : List Ctr) (y : Vec) : Vec := cs.foldl (fun y c => rel c y y) y
theorem foldA_ge : ∀ {cs : List Ctr} {x y : Vec}, vle y (foldA cs x y)
  | [], _, _ => vle_refl _
  | c :: cs, x, y => vle_trans rel_ge (foldA_ge (cs := cs))
theorem foldA_has : ∀ {cs : List Ctr} {x y : Vec} {c : Ctr}, c ∈ cs → nle (fc c (x c.s)) (foldA cs x y c.t)
  | c :: cs, x, y, d, h => by
    rcases List.mem_cons.mp h with rfl | h
    · exact nle_trans rel_has (foldA_ge (cs := cs) _)
    · exact foldA_has (cs := cs) h
theorem foldA_le : ∀ {cs : List Ctr} {x y z : Vec}, vle y z → (∀ c ∈ cs, nle (fc c (x c.s)) (z c.t)) → vle (foldA cs x y) z
  | [], _, _, _, h, _ => h
  | c :: cs, x, y, z, h, k => foldA_le (cs := cs) (rel_le h (k c (by simp))) fun d hd => k d (by simp [hd])
theorem foldA_from : ∀ {cs : List Ctr} {x y : Vec} {j v : Int}, foldA cs x y j = some v → y j = some v ∨ ∃ c ∈ cs, c.t = j ∧ fc c (x c.s) = some v
  | [], _, _, _, _, h => .inl h
  | c :: cs, x, y, j, v, h => by
    rcases foldA_from (cs := cs) h with h | ⟨d, hd, h⟩
    · replace h : rel c x y j = some v := h
      unfold rel at h
      split at h
      · rename_i e
        rcases nmax_or h with h | h
        · exact .inl h
        · exact .inr ⟨c, by simp, e.symm, h⟩
      · exact .inl h
    · exact .inr ⟨d, by simp [hd], h⟩
theorem foldG_ge : ∀ {cs : List Ctr} {y : Vec}, vle y (foldG cs y)
  | [], _ => vle_refl _
  | c :: cs, y => vle_trans rel_ge (foldG_ge (cs := cs))
theorem foldG_has {n : Int} : ∀ {cs : List Ctr} {y : Vec} {c : Ctr}, (∀ c ∈ cs, c.Ok n) → c ∈ cs → nle (fc c (y c.s)) (foldG cs y c.t)
  | c :: cs, y, d, hok, h => by
    rcases List.mem_cons.mp h with rfl | h
    · exact nle_trans rel_has (foldG_ge (cs := cs) _)
    · exact nle_trans (fc_mono (hok d (by simp [h])) (rel_ge _)) (foldG_has (cs := cs) (fun c hc => hok c (by simp [hc])) h)
theorem foldG_le {n : Int} : ∀ {cs : List Ctr} {y z : Vec}, (∀ c ∈ cs, c.Ok n) → vle y z → (∀ c ∈ cs, nle (fc c (z c.s)) (z c.t)) → vle (foldG cs y) z
  | [], _, _, _, h, _ => h
  | c :: cs, y, z, hok, h, k => foldG_le (cs := cs) (fun c hc => hok c (by simp [hc])) (rel_le h (nle_trans (fc_mono (hok c (by simp)) (h _)) (k c (by simp)))) fun d hd => k d (by simp [hd])
/-- what grows has no end -/
def grw (st x : Vec) : Vec := fun j => match x j, st j with
  | some v, some s => if s ≤ v then none else some v
  | a, _ => a
theorem grw_ge {st x : Vec} : vle x (grw st x) := fun j => by
  unfold grw
  split
  · split
    · exact nle_none _
    · rename_i h _ _; rw [h]; exact nle_refl _
  · exact nle_refl _
theorem grw_lt {st x : Vec} {j s v : Int} (hs : st j = some s) (h : grw st x j = some v) : v < s := by
  unfold grw at h
  rw [hs] at h
  cases q : x j with
  | none => rw [q] at h; cases h
  | some w =>
    rw [q] at h
    simp only at h
    split at h
    · cases h
    · cases h; omega
theorem grw_some {st x : Vec} {j v : Int} (h : grw st x j = some v) : x j = some v := by
  unfold grw at h
  cases q : x j with
  | none => rw [q] at h; cases h
  | some w =>
    rw [q] at h
    cases q2 : st j with
    | none => rw [q2] at h; exact h
    | some s =>
      rw [q2] at h
      simp only at h
      split at h
      · cases h
      · exact h
theorem grw_le {st x z : Vec} (h : vle x z) (k : ∀ j s v, st j = some s → z j = some v → v < s) : vle (grw st x) z := fun j y hy => by
  obtain ⟨x', hx, l⟩ := h j y hy
  refine ⟨x', ?_, l⟩
  unfold grw
  rw [hx]
  cases q : st j with
  | none => rfl
  | some s =>
    have := k j s y q hy
    simp only
    rw [if_neg (by omega)]
theorem grw_mono {st x y : Vec} (h : vle x y) : vle (grw st x) (grw st y) := grw_le (vle_trans h grw_ge) fun j s v hs hv => grw_lt hs hv
structure Cl (cs : List Ctr) (st z : Vec) : Prop where
  c : ∀ c ∈ cs, nle (fc c (z c.s)) (z c.t)
  g : ∀ j s v, st j = some s → z j = some v → v < s
def s0 (k a : Int) : Vec := fun j => if j = k then some a else some 0
structure IsBest (cs : List Ctr) (st : Vec) (k a : Int) (z : Vec) : Prop where
  ge : vle (s0 k a) z
  cl : Cl cs st z
  le : ∀ w, vle (s0 k a) w → Cl cs st w → vle z w
theorem best_uniq {cs : List Ctr} {st y z : Vec} {k a : Int} (h : IsBest cs st k a y) (g : IsBest cs st k a z) : y = z := vle_anti (h.le z g.ge g.cl) (g.le y h.ge h.cl)
/-! ### the program's way -/
def stepP (cs : List Ctr) (st x : Vec) : Vec := foldA cs (grw st x) (grw st x)
def xsP (cs : List Ctr) (st : Vec) (k a : Int) : Nat → Vec
  | 0 => s0 k a
  | i + 1 => stepP cs st (xsP cs st k a i)
section
variable {cs : List Ctr} {st : Vec} {k a : Int} {n : Int}
theorem stepP_ge {x : Vec} : vle x (stepP cs st x) := vle_trans grw_ge foldA_ge
theorem xsP_ge : ∀ {i : Nat}, vle (s0 k a) (xsP cs st k a i)
  | 0 => vle_refl _
  | i + 1 => vle_trans xsP_ge stepP_ge
theorem stepP_le (hok : ∀ c ∈ cs, c.Ok n) {x z : Vec} (h : vle x z) (g : Cl cs st z) : vle (stepP cs st x) z :=
  foldA_le (grw_le h g.g) fun c hc => nle_trans (fc_mono (hok c hc) (grw_le h g.g _)) (g.c c hc)
theorem xsP_le (hok : ∀ c ∈ cs, c.Ok n) {z : Vec} (h : vle (s0 k a) z) (g : Cl cs st z) : ∀ {i : Nat}, vle (xsP cs st k a i) z
  | 0 => h
  | i + 1 => stepP_le hok (xsP_le hok h g) g
theorem stepP_cl {x : Vec} (h : stepP cs st x = x) : Cl cs st x := by
  have e1 : grw st x = x := vle_anti (by
    have := foldA_ge (cs := cs) (x := grw st x) (y := grw st x)
    unfold stepP at h
    rw [h] at this
    exact this) grw_ge
  refine ⟨fun c hc => ?_, fun j s v hs hv => ?_⟩
  · have := foldA_has (x := grw st x) (y := grw st x) hc
    unfold stepP at h
    rw [h, e1] at this
    exact this
  · rw [← e1] at hv
    exact grw_lt hs hv
theorem xsP_best (hok : ∀ c ∈ cs, c.Ok n) {i : Nat} (h : xsP cs st k a (i + 1) = xsP cs st k a i) : IsBest cs st k a (xsP cs st k a i) :=
  ⟨xsP_ge, stepP_cl h, fun w h1 h2 => xsP_le hok h1 h2⟩
/-! ### the law's way -/
def stepL (cs : List Ctr) (st x : Vec) : Vec := grw st (foldG cs x)
def xsL (cs : List Ctr) (st : Vec) (k a : Int) : Nat → Vec
  | 0 => s0 k a
  | i + 1 => stepL cs st (xsL cs st k a i)
theorem stepL_ge {x : Vec} : vle x (stepL cs st x) := vle_trans foldG_ge grw_ge
theorem xsL_ge : ∀ {i : Nat}, vle (s0 k a) (xsL cs st k a i)
  | 0 => vle_refl _
  | i + 1 => vle_trans xsL_ge stepL_ge
theorem stepL_le (hok : ∀ c ∈ cs, c.Ok n) {x z : Vec} (h : vle x z) (g : Cl cs st z) : vle (stepL cs st x) z := grw_le (foldG_le hok h g.c) g.g
theorem xsL_le (hok : ∀ c ∈ cs, c.Ok n) {z : Vec} (h : vle (s0 k a) z) (g : Cl cs st z) : ∀ {i : Nat}, vle (xsL cs st k a i) z
  | 0 => h
  | i + 1 => stepL_le hok (xsL_le hok h g) g
theorem stepL_cl (hok : ∀ c ∈ cs, c.Ok n) {x : Vec} (h : stepL cs st x = x) : Cl cs st x := by
  have e1 : foldG cs x = x := vle_anti (by
    have := grw_ge (st := st) (x := foldG cs x)
    unfold stepL at h
    rw [h] at this
    exact this) foldG_ge
  refine ⟨fun c hc => ?_, fun j s v hs hv => ?_⟩
  · have := foldG_has (y := x) hok hc
    rw [e1] at this
    exact this
  · rw [← h] at hv
    exact grw_lt hs hv
theorem xsL_best (hok : ∀ c ∈ cs, c.Ok n) {i : Nat} (h : xsL cs st k a (i + 1) = xsL cs st k a i) : IsBest cs st k a (xsL cs st k a i) :=
  ⟨xsL_ge, stepL_cl hok h, fun w h1 h2 => xsL_le hok h1 h2⟩
theorem xsPL (hok : ∀ c ∈ cs, c.Ok n) : ∀ {i : Nat}, vle (grw st (xsP cs st k a i)) (xsL cs st k a (i + 1))
  | 0 => grw_mono foldG_ge
  | i + 1 => by
    have ih := xsPL hok (i := i)
    refine grw_mono ?_
    show vle (foldA cs (grw st (xsP cs st k a i)) (grw st (xsP cs st k a i))) (foldG cs (xsL cs st k a (i + 1)))
    exact foldA_le (vle_trans ih foldG_ge) fun c hc => nle_trans (fc_mono (hok c hc) (ih _)) (foldG_has hok hc)
/-- where the program's way ends, the law's ends, too -/
theorem xsL_ends (hok : ∀ c ∈ cs, c.Ok n) {i : Nat} (h : xsP cs st k a (i + 1) = xsP cs st k a i) : xsL cs st k a (i + 2) = xsL cs st k a (i + 1) := by
  have b := xsP_best hok h
  have e : ∀ j, i ≤ j → vle (xsP cs st k a i) (xsL cs st k a (j + 1)) := fun j hj => by
    obtain ⟨d, rfl⟩ : ∃ d, j = i + d := ⟨j - i, by omega⟩
    clear hj
    induction d with
    | zero => exact vle_trans grw_ge (xsPL hok)
    | succ d ih => exact vle_trans ih stepL_ge
  have u : ∀ j, vle (xsL cs st k a j) (xsP cs st k a i) := fun j => xsL_le hok b.ge b.cl
  rw [vle_anti (u (i + 2)) (e (i + 1) (by omega)), vle_anti (u (i + 1)) (e i (by omega))]
/-! ### no number is greater than what a simple way gives -/
structure IsTop (cs : List Ctr) (is : List Nat) (z : Int) : Prop where
  ge : gProd cs is < eProd cs is
  z0 : 0 ≤ z
  zb : z < sure cs is
  zs : coins cs is z ≤ z
  gr : Gr (coins cs is) (z + 1)
theorem top_uniq {is : List Nat} {y z : Int} (h : IsTop cs is y) (k : IsTop cs is z) : y = z := by
  by_cases a : y < z
  · have := h.gr z (by omega)
    have := k.zs
    omega
  · by_cases b : z < y
    · have := k.gr y (by omega)
      have := h.zs
      omega
    · omega
structure StOk (cs : List Ctr) (m : Nat) (st : Vec) : Prop where
  out : ∀ j, ¬ (0 ≤ j ∧ j < (m : Int)) → st j = none
  no : ∀ j, st j = none → ∀ r, SL cs j r → eProd cs r ≤ gProd cs r
  yes : ∀ j s, st j = some s → (∃ r z, SL cs j r ∧ IsTop cs r z ∧ s = z + 1) ∧ ∀ r z, SL cs j r → IsTop cs r z → s ≤ z + 1
theorem st_uniq {m : Nat} {s t : Vec} (h : StOk cs m s) (g : StOk cs m t) : s = t := funext fun j => by
  cases e1 : s j with
  | none =>
    cases e2 : t j with
    | none => rfl
    | some y =>
      obtain ⟨⟨r, z, h1, h2, _⟩, _⟩ := g.yes j y e2
      have := h.no j e1 r h1
      have := h2.ge
      omega
  | some x =>
    cases e2 : t j with
    | none =>
      obtain ⟨⟨r, z, h1, h2, _⟩, _⟩ := h.yes j x e1
      have := g.no j e2 r h1
      have := h2.ge
      omega
    | some y =>
      obtain ⟨⟨r, z, h1, h2, h3⟩, h4⟩ := h.yes j x e1
      obtain ⟨⟨r', z', g1, g2, g3⟩, g4⟩ := g.yes j y e2
      have := h4 r' z' g1 g2
      have := g4 r z h1 h2
      congr 1
      omega
theorem SL.loop {r : List Nat} {m : Nat} (h : SL cs k r) (hm : m ≤ 4) (hok : ∀ c ∈ cs, c.Ok (m : Int)) : IsLoop cs r := by
  have e := h.hd
  refine ⟨List.length_pos_iff.mpr h.ne, Nat.le_trans (h.len fun c hc => ⟨(hok c hc).s0, (hok c hc).s1⟩) hm, e ▸ h.rt, ?_⟩
  rw [e]
  exact h.en
theorem StOk.bd {m : Nat} {st : Vec} (h : StOk cs m st) (hm : m ≤ 4) (hok : ∀ c ∈ cs, c.Ok (m : Int)) {j s : Int} (hs : st j = some s) : 1 ≤ s ∧ s ≤ 390625 := by
  obtain ⟨⟨r, z, h1, h2, rfl⟩, _⟩ := h.yes j s hs
  have := sure_le hok (h1.loop hm hok) h2.ge
  have := h2.z0
  have := h2.zb
  omega
theorem mem_kds : ∀ {p : List Nat} {u t : Int}, t ∈ kds cs u p → ∃ p1 p2, p = p1 ++ p2 ∧ endK cs u p1 = t
  | [], u, t, h => by
    simp only [kds, List.map_nil, List.mem_singleton] at h
    exact ⟨[], [], rfl, h.symm⟩
  | i :: p, u, t, h => by
    rcases List.mem_cons.mp h with h | h
    · exact ⟨[], i :: p, rfl, h.symm⟩
    · rcases p with _ | ⟨q, p⟩
      · simp only [List.map_cons, List.map_nil, List.mem_singleton] at h
        exact ⟨[i], [], rfl, h.symm⟩
      · have h' : t ∈ kds cs (ctr cs i).t (q :: p) := h
        obtain ⟨p1, p2, e, h2⟩ := mem_kds (p := q :: p) h'
        exact ⟨i :: p1, p2, by rw [e]; rfl, h2⟩
theorem kds_split : ∀ {p1 p2 : List Nat} {u : Int}, ∃ ys, kds cs u (p1 ++ p2) = ys ++ kds cs (endK cs u p1) p2 ∧ kds cs u p1 = ys ++ [endK cs u p1]
  | [], p2, u => ⟨[], rfl, rfl⟩
  | i :: p1, p2, u => by
    obtain ⟨ys, h1, h2⟩ := kds_split (p1 := p1) (p2 := p2) (u := (ctr cs i).t)
    refine ⟨u :: ys, ?_, ?_⟩
    · show u :: kds cs (ctr cs i).t (p1 ++ p2) = _
      rw [h1]
      rfl
    · show u :: kds cs (ctr cs i).t p1 = _
      rw [h2]
      rfl
theorem ctr_ix {c : Ctr} (h : c ∈ cs) : ∃ i, i < cs.length ∧ ctr cs i = c := by
  obtain ⟨i, hi, e⟩ := List.mem_iff_getElem.mp h
  refine ⟨i, hi, ?_⟩
  have := ctr_get hi
  rw [List.getElem?_eq_getElem hi, e] at this
  exact (Option.some.inj this).symm
structure Way (cs : List Ctr) (M v t : Int) (u b : Int) (p : List Nat) : Prop where
  rt : Rt cs u p
  en : endK cs u p = t
  nd : (kds cs u p).Nodup
  b0 : 0 ≤ b
  b1 : b ≤ M
  le : v ≤ coins cs p b
theorem ys_way {m : Nat} {M : Int} (hm : m ≤ 4) (hok : ∀ c ∈ cs, c.Ok (m : Int)) (hs : StOk cs m st) (a0 : 0 ≤ a) (aM : a ≤ M) (M0 : 390625 ≤ M) :
    ∀ (i : Nat) {t v : Int}, grw st (xsP cs st k a i) t = some v → 0 ≤ v ∧ ∃ u b p, Way cs M v t u b p := by
  have nn : ∀ (i : Nat) {t v : Int}, grw st (xsP cs st k a i) t = some v → 0 ≤ v := fun i t v h => by
    have h1 := vle_trans (xsP_ge (cs := cs) (st := st) (k := k) (a := a) (i := i)) (grw_ge (st := st)) t v h
    obtain ⟨x, hx, l⟩ := h1
    unfold s0 at hx
    split at hx <;> cases hx <;> omega
  intro i
  induction i with
  | zero =>
    intro t v h
    have v0 := nn 0 h
    have h1 := grw_some h
    refine ⟨v0, t, v, [], trivial, rfl, by simp [kds], v0, ?_, Int.le_refl _⟩
    simp only [xsP, s0] at h1
    split at h1 <;> cases h1 <;> omega
  | succ i ih =>
    intro t v h
    have v0 := nn (i + 1) h
    refine ⟨v0, ?_⟩
    have h1 : foldA cs (grw st (xsP cs st k a i)) (grw st (xsP cs st k a i)) t = some v := grw_some h
    rcases foldA_from h1 with h2 | ⟨c, hc, rfl, h2⟩
    · exact (ih h2).2
    · cases hq : st c.t with
      | some s =>
        have h3 := grw_lt hq h
        have h4 := (hs.bd hm hok hq).2
        exact ⟨c.t, v, [], trivial, rfl, by simp [kds], v0, by omega, Int.le_refl _⟩
      | none =>
        cases hw : grw st (xsP cs st k a i) c.s with
        | none => rw [hw] at h2; cases h2
        | some w =>
          rw [hw] at h2
          simp only [fc, Option.map_some, Option.some.injEq] at h2
          obtain ⟨w0, u, b, p, hp⟩ := ih hw
          obtain ⟨j, hj, ej⟩ := ctr_ix hc
          have cok := hok c hc
          have rt2 : Rt cs u (p ++ [j]) := Rt.snoc.mpr ⟨hp.rt, hj, by rw [ej]; exact hp.en.symm⟩
          have lv : v ≤ coins cs (p ++ [j]) b := by
            rw [coins_app, ← h2]
            show w / c.g * c.e ≤ coins cs p b / (ctr cs j).g * (ctr cs j).e
            rw [ej]
            have := cok.g0
            have := cok.e0
            exact Int.mul_le_mul_of_nonneg_right (Int.ediv_le_ediv (by omega) hp.le) (by omega)
          by_cases z : c.t ∈ kds cs u p
          · obtain ⟨p1, p2, rfl, e1⟩ := mem_kds z
            obtain ⟨ys, k1, k2⟩ := kds_split (cs := cs) (p1 := p1) (p2 := p2) (u := u)
            obtain ⟨r1, r2⟩ := Rt.app.mp hp.rt
            have nd := hp.nd
            rw [k1, e1] at nd
            have nd2 : (kds cs c.t p2).Nodup := (List.nodup_append.mp nd).2.1
            have nd1 : (kds cs u p1).Nodup := by
              rw [k2, e1]
              refine nodup_snoc.mpr ⟨(List.nodup_append.mp nd).1, fun y => ?_⟩
              exact (List.nodup_append.mp nd).2.2 _ y c.t (by unfold kds; simp) rfl
            have rt3 : Rt cs c.t (p2 ++ [j]) := by
              rw [List.append_assoc] at rt2
              have := (Rt.app.mp rt2).2
              rw [e1] at this
              exact this
            have en3 : endK cs c.t (p2 ++ [j]) = c.t := by rw [endK_snoc, ej]
            have sl : SL cs c.t (p2 ++ [j]) := by
              refine ⟨by simp, rt3, en3, ?_⟩
              have e := srcs_of rt3
              rw [kds_app] at e
              rw [← (List.append_inj' e rfl).1]
              exact nd2
            have sh := coins_shrink hok rt3.inC (hs.no _ hq _ sl) (coins_nn hok r1.inC hp.b0)
            refine ⟨u, b, p1, r1, e1, nd1, hp.b0, hp.b1, ?_⟩
            rw [List.append_assoc, coins_app] at lv
            exact Int.le_trans lv sh
          · refine ⟨u, b, p ++ [j], rt2, by rw [endK_snoc, ej], ?_, hp.b0, hp.b1, lv⟩
            rw [kds_app, ej]
            exact nodup_snoc.mpr ⟨hp.nd, z⟩
theorem way_len {m : Nat} {M v t u b : Int} {p : List Nat} (hm : m ≤ 4) (hok : ∀ c ∈ cs, c.Ok (m : Int)) (h : Way cs M v t u b p) : v ≤ 125 * M := by
  have hin := h.rt.inC
  have hl : p.length ≤ 3 := by
    rcases p with _ | ⟨i, p⟩
    · simp
    · have h1 : (kds cs u (i :: p)).length ≤ ((List.range m).map fun i : Nat => (i : Int)).length := by
        refine List.Nodup.length_le_of_subset h.nd fun x hx => ?_
        have hx2 : 0 ≤ x ∧ x < (m : Int) := by
          rcases List.mem_cons.mp hx with rfl | hx
          · have := hok _ (ctr_mem h.rt.1)
            rw [← h.rt.2.1]
            exact ⟨this.s0, this.s1⟩
          · obtain ⟨q, hq, rfl⟩ := List.mem_map.mp hx
            have := hok _ (ctr_mem (hin q hq))
            exact ⟨this.t0, this.t1⟩
        exact List.mem_map.mpr ⟨x.toNat, List.mem_range.mpr (by omega), by omega⟩
      unfold kds at h1
      simp at h1
      simp
      omega
  have h1 := coins_le hok hin h.b0
  have p5 : (5 : Int) ^ p.length ≤ 125 := by
    have c : p.length = 0 ∨ p.length = 1 ∨ p.length = 2 ∨ p.length = 3 := by omega
    rcases c with e | e | e | e <;> rw [e] <;> decide
  have p50 : (0 : Int) ≤ 5 ^ p.length := Int.pow_nonneg (by decide)
  have h2 : b * 5 ^ p.length ≤ M * 125 := Int.mul_le_mul h.b1 p5 p50 (by have := h.b0; have := h.b1; omega)
  have := h.le
  omega
/-! ### it ends -/
def psi (M : Int) : Num → Nat
  | none => 0
  | some v => (M - v).toNat + 1
theorem psi_le {M : Int} {a b : Num} (h : nle a b) : psi M b ≤ psi M a := by
  cases b with
  | none => exact Nat.zero_le _
  | some y =>
    obtain ⟨x, rfl, l⟩ := h y rfl
    simp only [psi]
    omega
theorem psi_lt {M : Int} {a b : Num} (h : nle a b) (ne : a ≠ b) (hb : ∀ v, b = some v → v ≤ M) : psi M b < psi M a := by
  cases b with
  | none =>
    cases a with
    | none => exact absurd rfl ne
    | some x => simp only [psi]; omega
  | some y =>
    obtain ⟨x, rfl, l⟩ := h y rfl
    have := hb y rfl
    have : x ≠ y := fun e => ne (by rw [e])
    simp only [psi]
    omega
def phi (M : Int) (m : Nat) (y : Vec) : Nat := ((List.range m).map fun j : Nat => psi M (y (j : Int))).sum
theorem sum_le : ∀ {l : List Nat} {f g : Nat → Nat}, (∀ x ∈ l, f x ≤ g x) → (l.map f).sum ≤ (l.map g).sum
  | [], _, _, _ => Nat.le_refl _
  | x :: l, f, g, h => by
    simp only [List.map_cons, List.sum_cons]
    have := sum_le (l := l) fun y hy => h y (by simp [hy])
    have := h x (by simp)
    omega
theorem sum_lt : ∀ {l : List Nat} {f g : Nat → Nat}, (∀ x ∈ l, f x ≤ g x) → (∃ x ∈ l, f x < g x) → (l.map f).sum < (l.map g).sum
  | [], _, _, _, h => by obtain ⟨x, hx, _⟩ := h; simp at hx
  | x :: l, f, g, h, k => by
    simp only [List.map_cons, List.sum_cons]
    obtain ⟨y, hy, lt⟩ := k
    have h2 := h x (by simp)
    rcases List.mem_cons.mp hy with rfl | hy
    · have := sum_le (l := l) fun y hy => h y (by simp [hy])
      omega
    · have := sum_lt (l := l) (fun y hy => h y (by simp [hy])) ⟨y, hy, lt⟩
      omega
theorem phi_lt {M : Int} {m : Nat} {x y : Vec} (h : vle x y) (hb : ∀ j v, y j = some v → v ≤ M) {j : Int} (hj : 0 ≤ j ∧ j < (m : Int)) (ne : x j ≠ y j) : phi M m y < phi M m x := by
  refine sum_lt (fun i _ => psi_le (h _)) ⟨j.toNat, List.mem_range.mpr (by omega), ?_⟩
  rw [show ((j.toNat : Nat) : Int) = j by omega]
  exact psi_lt (h j) ne fun v hv => hb j v hv
theorem foldA_out : ∀ {cs : List Ctr} {x y : Vec} {j : Int}, (∀ c ∈ cs, c.t ≠ j) → foldA cs x y j = y j
  | [], _, _, _, _ => rfl
  | c :: cs, x, y, j, h => by
    show foldA cs x (rel c x y) j = _
    rw [foldA_out fun d hd => h d (by simp [hd])]
    unfold rel
    rw [if_neg (fun e => h c (by simp) e.symm)]
theorem grw_out {m : Nat} {j : Int} {x : Vec} (hs : StOk cs m st) (h : ¬ (0 ≤ j ∧ j < (m : Int))) : grw st x j = x j := by
  unfold grw
  rw [hs.out j h]
  split <;> simp_all
theorem xsP_out {m : Nat} {j : Int} (hok : ∀ c ∈ cs, c.Ok (m : Int)) (hs : StOk cs m st) (h : ¬ (0 ≤ j ∧ j < (m : Int))) : ∀ i, xsP cs st k a i j = s0 k a j
  | 0 => rfl
  | i + 1 => by
    show foldA cs (grw st (xsP cs st k a i)) (grw st (xsP cs st k a i)) j = _
    rw [foldA_out fun c hc e => h (by have := hok c hc; rw [← e]; exact ⟨this.t0, this.t1⟩), grw_out hs h, xsP_out hok hs h i]
/-- the program's way ends -/
theorem xsP_ends {m : Nat} (hm : m ≤ 4) (hok : ∀ c ∈ cs, c.Ok (m : Int)) (hs : StOk cs m st) (a0 : 0 ≤ a) : ∃ i, xsP cs st k a (i + 1) = xsP cs st k a i := by
  obtain ⟨M, aM, M0⟩ : ∃ M : Int, a ≤ M ∧ 390625 ≤ M := ⟨a + 390625, by omega, by omega⟩
  have bd : ∀ (i : Nat) {t v : Int}, grw st (xsP cs st k a i) t = some v → v ≤ 125 * M := fun i t v h => by
    obtain ⟨_, u, b, p, hp⟩ := ys_way hm hok hs a0 aM M0 i h
    exact way_len hm hok hp
  have mono : ∀ i, vle (grw st (xsP cs st k a i)) (grw st (xsP cs st k a (i + 1))) := fun i => grw_mono stepP_ge
  have key : ∀ (N i : Nat), phi (125 * M) m (grw st (xsP cs st k a i)) ≤ N → ∃ j, grw st (xsP cs st k a (j + 1)) = grw st (xsP cs st k a j) := by
    intro N
    induction N with
    | zero =>
      intro i h
      refine ⟨i, funext fun j => ?_⟩
      by_cases hj : 0 ≤ j ∧ j < (m : Int)
      · by_cases ne : grw st (xsP cs st k a i) j = grw st (xsP cs st k a (i + 1)) j
        · exact ne.symm
        · have := phi_lt (mono i) (fun j v hv => bd (i + 1) hv) hj ne
          omega
      · rw [grw_out hs hj, grw_out hs hj, xsP_out hok hs hj, xsP_out hok hs hj]
    | succ N ih =>
      intro i h
      by_cases c : grw st (xsP cs st k a (i + 1)) = grw st (xsP cs st k a i)
      · exact ⟨i, c⟩
      · have : ∃ j, grw st (xsP cs st k a i) j ≠ grw st (xsP cs st k a (i + 1)) j := Classical.byContradiction fun z => c (funext fun j => Classical.byContradiction fun w => z ⟨j, fun e => w e.symm⟩)
        obtain ⟨j, ne⟩ := this
        have hj : 0 ≤ j ∧ j < (m : Int) := Classical.byContradiction fun z => ne (by rw [grw_out hs z, grw_out hs z, xsP_out hok hs z, xsP_out hok hs z])
        have := phi_lt (mono i) (fun j v hv => bd (i + 1) hv) hj ne
        exact ih (i + 1) (by omega)
  obtain ⟨j, hj⟩ := key _ 0 (Nat.le_refl _)
  refine ⟨j + 1, ?_⟩
  show foldA cs (grw st (xsP cs st k a (j + 1))) (grw st (xsP cs st k a (j + 1))) = foldA cs (grw st (xsP cs st k a j)) (grw st (xsP cs st k a j))
  rw [hj]
/-- greatest numbers are bounded -/
theorem best_bd {m : Nat} {M : Int} {z : Vec} (hm : m ≤ 4) (hok : ∀ c ∈ cs, c.Ok (m : Int)) (hs : StOk cs m st) (a0 : 0 ≤ a) (aM : a ≤ M) (M0 : 390625 ≤ M) (h : IsBest cs st k a z) {j v : Int} (hv : z j = some v) : 0 ≤ v ∧ v ≤ 125 * M := by
  obtain ⟨i, hi⟩ := xsP_ends (k := k) hm hok hs a0
  have b := xsP_best hok hi
  have e := best_uniq h b
  have e1 : grw st z = z := vle_anti (grw_le (vle_refl _) h.cl.g) grw_ge
  rw [← e1, e] at hv
  obtain ⟨v0, u, b, p, hp⟩ := ys_way hm hok hs a0 aM M0 i hv
  exact ⟨v0, way_len hm hok hp⟩
end
end CG

/-! Part 25: greatest numbers of boards with fewer counters, fewer coins. -/
namespace CG
open PySem PySem.Spec PyProof.Rows L2
section
variable {cs ds : List Ctr} {m : Nat} {n : Int}
theorem tr_ix (h : ∀ c ∈ ds, c ∈ cs) : ∀ {r : List Nat}, InC ds r → ∃ q, InC cs q ∧ q.map (ctr cs) = r.map (ctr ds)
  | [], _ => ⟨[], fun i hi => by simp at hi, rfl⟩
  | i :: r, hr => by
    obtain ⟨q, h1, h2⟩ := tr_ix h (r := r) fun j hj => hr j (by simp [hj])
    obtain ⟨j, hj, e⟩ := ctr_ix (h _ (ctr_mem (hr i (by simp))))
    exact ⟨j :: q, fun x hx => by
      rcases List.mem_cons.mp hx with rfl | hx
      · exact hj
      · exact h1 x hx, by simp [h2, e]⟩
theorem tr_coins : ∀ {q r : List Nat} {a : Int}, q.map (ctr cs) = r.map (ctr ds) → coins cs q a = coins ds r a
  | [], [], _, _ => rfl
  | i :: q, j :: r, a, h => by
    simp only [List.map_cons, List.cons.injEq] at h
    simp only [coins, h.1]
    exact tr_coins h.2
theorem tr_g : ∀ {q r : List Nat}, q.map (ctr cs) = r.map (ctr ds) → gProd cs q = gProd ds r
  | [], [], _ => rfl
  | i :: q, j :: r, h => by
    simp only [List.map_cons, List.cons.injEq] at h
    simp only [gProd, h.1, tr_g h.2]
theorem tr_e : ∀ {q r : List Nat}, q.map (ctr cs) = r.map (ctr ds) → eProd cs q = eProd ds r
  | [], [], _ => rfl
  | i :: q, j :: r, h => by
    simp only [List.map_cons, List.cons.injEq] at h
    simp only [eProd, h.1, tr_e h.2]
theorem tr_rt : ∀ {q r : List Nat} {k : Int}, q.map (ctr cs) = r.map (ctr ds) → InC cs q → Rt ds k r → Rt cs k q
  | [], [], _, _, _, _ => trivial
  | i :: q, j :: r, k, h, hi, hr => by
    simp only [List.map_cons, List.cons.injEq] at h
    refine ⟨hi i (by simp), by rw [h.1]; exact hr.2.1, ?_⟩
    rw [h.1]
    exact tr_rt h.2 (fun x hx => hi x (by simp [hx])) hr.2.2
theorem tr_end : ∀ {q r : List Nat} {k : Int}, q.map (ctr cs) = r.map (ctr ds) → endK cs k q = endK ds k r
  | [], [], _, _ => rfl
  | i :: q, j :: r, k, h => by
    simp only [List.map_cons, List.cons.injEq] at h
    simp only [endK, h.1]
    exact tr_end h.2
theorem tr_srcs {q r : List Nat} (h : q.map (ctr cs) = r.map (ctr ds)) : srcs cs q = srcs ds r := by
  have := congrArg (List.map Ctr.s) h
  simpa [srcs, Function.comp_def] using this
theorem tr_sl (h : ∀ c ∈ ds, c ∈ cs) {k : Int} {r : List Nat} (hr : SL ds k r) : ∃ q, SL cs k q ∧ q.map (ctr cs) = r.map (ctr ds) := by
  obtain ⟨q, h1, h2⟩ := tr_ix h hr.rt.inC
  refine ⟨q, ⟨fun e => hr.ne ?_, tr_rt h2 h1 hr.rt, ?_, ?_⟩, h2⟩
  · rw [e] at h2
    simpa using h2.symm
  · rw [tr_end h2]; exact hr.en
  · rw [tr_srcs h2]; exact hr.nd
theorem tr_top {q r : List Nat} {z : Int} (h : q.map (ctr cs) = r.map (ctr ds)) (t : IsTop ds r z) : IsTop cs q z := by
  refine ⟨by rw [tr_g h, tr_e h]; exact t.ge, t.z0, ?_, by rw [tr_coins h]; exact t.zs, fun b hb => by rw [tr_coins h]; exact t.gr b hb⟩
  unfold sure
  rw [tr_g h, tr_e h]
  exact t.zb
/-- with fewer counters no number is greater -/
theorem sub_cl {st st' z : Vec} (h : ∀ c ∈ ds, c ∈ cs) (hs : StOk cs m st) (hs' : StOk ds m st') (hc : Cl cs st z) : Cl ds st' z := by
  refine ⟨fun c hc' => hc.c c (h c hc'), fun j s v h1 h2 => ?_⟩
  obtain ⟨⟨r, y, h3, h4, rfl⟩, _⟩ := hs'.yes j s h1
  obtain ⟨q, h5, h6⟩ := tr_sl h h3
  have h7 := tr_top h6 h4
  cases e : st j with
  | none =>
    have := hs.no j e q h5
    have := h7.ge
    omega
  | some s0 =>
    have := (hs.yes j s0 e).2 q y h5 h7
    have := hc.g j s0 v e h2
    omega
theorem sub_le {st st' z z' : Vec} {k a : Int} (h : ∀ c ∈ ds, c ∈ cs) (hs : StOk cs m st) (hs' : StOk ds m st') (b : IsBest cs st k a z) (b' : IsBest ds st' k a z') : vle z' z := b'.le z b.ge (sub_cl h hs hs' b.cl)
/-- with fewer coins no number is greater -/
theorem less_le {st st' z z' : Vec} {k a a' : Int} (h : a' ≤ a) (hs : StOk cs m st) (hs' : StOk cs m st') (b : IsBest cs st k a z) (b' : IsBest cs st' k a' z') : vle z' z := by
  rw [st_uniq hs' hs] at b'
  refine b'.le z (vle_trans (fun j => ?_) b.ge) b.cl
  unfold s0
  split
  · exact fun y hy => ⟨a', rfl, by cases hy; exact h⟩
  · exact nle_refl _
end
end CG

/-! Part 26: zip of a tuple and a list. -/
namespace CG
open PySem PySem.Spec PyProof.Rows L2
/-- a tuple's items beside a list's -/
def ItM (K : PySem.W.Frag) (a b : Addr) : It :=
  ⟨fun j H => ∃ (us ws : List V) (u w : V), SqT K H a us ∧ SqL K H b ws ∧ us[j]? = some u ∧ ws[j]? = some w,
    fun j H v H' => ∃ N u w, v = .ref N ∧ H N = none ∧ H' = upd H N (.tup [u, w]) ∧ (∀ us, SqT K H a us → us[j]? = some u) ∧ ∀ ws, SqL K H b ws → ws[j]? = some w,
    fun j H => ∃ us ws : List V, SqT K H a us ∧ SqL K H b ws ∧ ((us.length = j ∧ j ≤ ws.length) ∨ (ws.length = j ∧ j ≤ us.length))⟩
def MixAt (n : Nat) (a b : Addr) (j : Nat) (h : Heap) : Prop := IsZip h (n + 4) (n + 2) (n + 3) .none ∧ IsTupOf2 h (n + 2) (.ref n) (.ref (n + 1)) ∧ (∃ x y, IsTupOf2 h (n + 3) x y) ∧ h.IsTupleIter n a j ∧ h.IsListIter (n + 1) b j
def five (n : Nat) : List Addr := [n + 4, n + 2, n + 3, n, n + 1]
theorem five_mem {n : Nat} {c : Addr} (h : c ∈ five n) : c = n + 4 ∨ c = n + 2 ∨ c = n + 3 ∨ c = n ∨ c = n + 1 := by simpa [five] using h
theorem mix_sep {n : Nat} {a b : Addr} (ha : a < n) (hb : b < n) : ZipSep2 (n + 4) (n + 2) (n + 3) n (n + 1) [n, a] [n + 1, b] := by
  have ne : ∀ {x y : Nat}, x ≠ y → (x : Addr) ≠ y := fun h => h
  constructor
  · exact ne (by omega)
  · exact ne (by omega)
  · exact ne (by omega)
  · exact ne (by omega)
  · simp
  · intro z
    rcases List.mem_cons.mp z with z | z
    · exact ne (show n + 4 ≠ n by omega) z
    · exact Nat.ne_of_gt (Nat.lt_of_lt_of_le ha (Nat.le_add_right n 4)) (List.mem_singleton.mp z)
  · intro z
    rcases List.mem_cons.mp z with z | z
    · exact ne (show n + 3 ≠ n by omega) z
    · exact Nat.ne_of_gt (Nat.lt_of_lt_of_le ha (Nat.le_add_right n 3)) (List.mem_singleton.mp z)
  · exact ne (by omega)
  · simp
  · intro z
    rcases List.mem_cons.mp z with z | z
    · exact ne (show n + 4 ≠ n + 1 by omega) z
    · exact Nat.ne_of_gt (Nat.lt_of_lt_of_le hb (Nat.le_add_right n 4)) (List.mem_singleton.mp z)
  · intro z
    rcases List.mem_cons.mp z with z | z
    · exact ne (show n + 3 ≠ n + 1 by omega) z
    · exact Nat.ne_of_gt (Nat.lt_of_lt_of_le hb (Nat.le_add_right n 3)) (List.mem_singleton.mp z)
  · intro z
    rcases List.mem_cons.mp z with z | z
    · exact ne (show n ≠ n + 1 by omega) z
    · exact Nat.ne_of_gt hb (List.mem_singleton.mp z)
  · intro z
    rcases List.mem_cons.mp z with z | z
    · exact ne (show n + 1 ≠ n by omega) z
    · exact Nat.ne_of_gt (Nat.lt_of_lt_of_le ha (Nat.le_add_right n 1)) (List.mem_singleton.mp z)
theorem mix_ne {n : Nat} {c : Addr} (h : c ∉ five n) : c ≠ n + 4 ∧ c ≠ n + 2 ∧ c ≠ n + 3 ∧ c ≠ n ∧ c ≠ n + 1 := by
  refine ⟨fun z => h ?_, fun z => h ?_, fun z => h ?_, fun z => h ?_, fun z => h ?_⟩ <;> simp [five, z]
theorem turn_mix {P : Program} {w : World} {K : PySem.W.Frag} {elts : List Expr} {kk : Nat} {tpos : Pos} {n : Nat} {a b : Addr} (ha : a < n) (hb : b < n) :
    Turn P w K (.Tuple elts kk tpos) (ItM K a b) (five n) (n + 4) (MixAt n a b) where
  mem := by simp [five]
  obj := fun j h st c hc => by
    obtain ⟨s1, s2, ⟨x, y, s3⟩, ⟨p, p1, _, p2⟩, ⟨q, q1, _, q2⟩⟩ := st
    rcases five_mem hc with e | e | e | e | e <;> rw [e]
    · exact ⟨_, s1, fun v z => nomatch z⟩
    · exact ⟨_, s2, fun v z => nomatch z⟩
    · exact ⟨_, s3, fun v z => nomatch z⟩
    · exact ⟨p, p1, fun v z => by rw [p2] at z; cases z⟩
    · exact ⟨q, q1, fun v z => by rw [q2] at z; cases z⟩
  keep := fun j h h' st k => by
    obtain ⟨s1, s2, ⟨x, y, s3⟩, s4, s5⟩ := st
    exact ⟨k _ (by simp [five]) _ s1, k _ (by simp [five]) _ s2, ⟨x, y, k _ (by simp [five]) _ s3⟩, s4.at fun o z => k _ (by simp [five]) o z, s5.at fun o z => k _ (by simp [five]) o z⟩
  item := by
    intro X eP ew eK cm j pins s σ H E I ff st go
    subst eP ew eK
    obtain ⟨us, ws, u, v, tu, tw, gu, gw⟩ := go
    obtain ⟨s1, s2, ⟨x0, y0, s3⟩, s4, s5⟩ := st
    obtain ⟨iu, ru, pu, _⟩ := I.tuple tu
    obtain ⟨iw, rw', pw, _⟩ := I.list tw
    obtain ⟨f, gf, rf⟩ := ru.get gu
    obtain ⟨g, gg, rg⟩ := rw'.get gw
    have lz : n + 4 < s.heap.objs.size := Heap.lt_size s1
    have na : a ≠ n := Nat.ne_of_lt ha
    have nb : b ≠ n + 1 := Nat.ne_of_lt (Nat.lt_succ_of_lt hb)
    have lu : j < iu.toArray.size := by
      have := (List.getElem?_eq_some_iff.mp gf).1
      simpa using this
    have lw : j < iw.toArray.size := by
      have := (List.getElem?_eq_some_iff.mp gg).1
      simpa using this
    have D1 := Draws.tuple (prog := X.prog) (w := X.w) (A := X.A.in1) (I.ok.hd cm) n a na iu.toArray
    have D2 := Draws.list (prog := X.prog) (w := X.w) (A := X.A.in1) (I.ok.hd cm) (n + 1) b nb iw.toArray
    refine wpAny_pyNext_zipD2_item (mix_sep ha hb) D1 D2 s1 s2 s3 ⟨s4, pu⟩ ⟨s5, pw.isList⟩ lu lw fun f' g' h' tk ef eg zz tt d1 d2 nn sz kp => ?_
    have ef' : f' = f := by
      have e1 : iu.toArray[j]? = some f := by simpa using gf
      rw [e1] at ef
      exact (Option.some.inj ef).symm
    have eg' : g' = g := by
      have e1 : iw.toArray[j]? = some g := by simpa using gg
      rw [e1] at eg
      exact (Option.some.inj eg).symm
    subst ef' eg'
    refine ⟨_, rfl, wpAny_letOwnedTupleGo_zip (s := { s with heap := h', toks := tk }) zz fun h2 z2 sb => ?_⟩
    have nN : s.heap.objs.size ≠ n + 4 := Nat.ne_of_gt lz
    have gN : h2.get? s.heap.objs.size = some { cls := .type "tuple", data := .seq #[f', g'] } := (sb.2 _ nN).trans nn
    have okN : ObjOk X.prog X.w (upd H s.heap.objs.size (.tup [u, v])) h2 s.heap.objs.size (.tup [u, v]) := ⟨by show 2 ≤ sizeLine; decide, [f', g'], .cons rf (.cons rg .nil), ⟨_, gN, rfl, _, rfl⟩⟩
    have I2 : Inv X pins σ (upd H s.heap.objs.size (.tup [u, v])) { s with heap := h2, toks := tk } := I.turnedNew (t' := tk) (ch := five n) (fun c o hc e => by
      obtain ⟨c1, c2, c3, c4, c5⟩ := mix_ne hc
      exact (sb.2 c c1).trans (kp c o c1 c3 c4 c5 e)) ff (Nat.le_refl _) okN
    have nz : ∀ {x y : Nat}, x ≠ y → (x : Addr) ≠ y := fun h => h
    refine ⟨.ref s.heap.objs.size, _, I2, rfl, ⟨_, u, v, rfl, I.hok.fresh (Nat.le_refl _), rfl, fun l hl => by rw [I.tuple_inj hl tu]; exact gu, fun l hl => by rw [I.list_inj hl tw]; exact gw⟩, ⟨z2, ?_, ⟨f', g', ?_⟩, ?_, ?_⟩, fun c hc => ?_⟩
    · exact (sb.2 _ (nz (by omega))).trans (kp _ _ (nz (by omega)) (nz (by omega)) (nz (by omega)) (nz (by omega)) s2)
    · exact (sb.2 _ (nz (by omega))).trans tt
    · exact d1.1.at fun o e => (sb.2 _ (nz (by omega))).trans e
    · exact d2.1.at fun o e => (sb.2 _ (nz (by omega))).trans e
    · have lc : c < s.heap.objs.size := by
        rcases five_mem hc with e | e | e | e | e <;> rw [e]
        · exact lz
        · exact Heap.lt_size s2
        · exact Heap.lt_size s3
        · obtain ⟨_, e1, _⟩ := s4; exact Heap.lt_size e1
        · obtain ⟨_, e1, _⟩ := s5; exact Heap.lt_size e1
      rw [upd_ne (Nat.ne_of_lt lc)]
      exact (ff c hc).1
  done := by
    intro X eP ew eK cm j pins s σ H E I ff st stp
    subst eP ew eK
    obtain ⟨us, ws, tu, tw, en⟩ := stp
    obtain ⟨s1, s2, ⟨x0, y0, s3⟩, s4, s5⟩ := st
    obtain ⟨iu, ru, pu, _⟩ := I.tuple tu
    obtain ⟨iw, rw', pw, _⟩ := I.list tw
    have lu := ru.length
    have lw := rw'.length
    have na : a ≠ n := Nat.ne_of_lt ha
    have nb : b ≠ n + 1 := Nat.ne_of_lt (Nat.lt_succ_of_lt hb)
    have su : iu.toArray.size = us.length := by rw [List.size_toArray, lu]
    have sw : iw.toArray.size = ws.length := by rw [List.size_toArray, lw]
    have D1 := Draws.tuple (prog := X.prog) (w := X.w) (A := X.A.in1) (I.ok.hd cm) n a na iu.toArray
    have D2 := Draws.list (prog := X.prog) (w := X.w) (A := X.A.in1) (I.ok.hd cm) (n + 1) b nb iw.toArray
    refine wpAny_pyNext_zipD2_end (mix_sep ha hb) D1 D2 s1 s2 s3 ⟨s4, pu⟩ ⟨s5, pw.isList⟩ (by omega) (by omega) (by omega) fun h' tk kp => ⟨rfl, I.turnedL (t' := tk) (ch := five n) (fun c o hc e => ?_) ff⟩
    obtain ⟨c1, c2, c3, c4, c5⟩ := mix_ne hc
    exact kp c o c1 c3 c4 c5 e
  self := fun A j s Q E st h => wpAny_pyIter_zip st.1 h
def iZipM (K : PySem.W.Frag) (ta : TA) : TI := fun σ H R => ta σ H fun vs H1 => ∃ a b us ws, vs = [.ref a, .ref b] ∧ SqT K H1 a us ∧ SqL K H1 b ws ∧ R (ItM K a b) H1
theorem pi_zipM {X : Cx} {e e2 : Expr} {ta : TA} {p pos tpos : Pos} {elts : List Expr} {kk : Nat} (gl : Gl X "zip") (gm : X.mg "zip" = none) (ga : PA X [e, e2] ta)
    (g1 : starEach [e, e2] X.env = (false, eval e X.env) :: starEach [e2] X.env := by rfl) (g2 : (backTo pos (starEach [e2] X.env)).any (·.1) = false := by rfl) :
    PI X (.Tuple elts kk tpos) (.Call (.Name "zip" p) [e, e2] [] pos) (iZipM X.K ta) := by
  refine ⟨fun pins s σ H R I hw => Call_ (ld_blt I gl gm PyProof.Rows.boot_zip (PyProof.Rows.callWith_type1 (thn (ga.run pos pins s σ H _ I hw) fun vs s2 ⟨xs, H2, I2, rx, q2⟩ => ?_) g1 g2))⟩
  obtain ⟨a, b, us, ws, rfl, tu, tw, qq⟩ := q2
  obtain ⟨v1, v2, rfl, r1, r2⟩ := Vals.two rx
  cases r1
  cases r2
  obtain ⟨iu, ru, pu, _⟩ := I2.tuple tu
  obtain ⟨iw, rw', pw, _⟩ := I2.list tw
  have la : a < s2.heap.objs.size := pu.lt
  have lb : b < s2.heap.objs.size := pw.lt
  refine zip_begins2 (begins_tuple a iu.toArray) (begins_list b iw.toArray) pu pw.isList fun h' z1 z2 z3 o1 o2 sz kp => wpAny_pyIter_zip z1 ?_
  have I3 : Inv X pins σ H2 { s2 with heap := h' } := I2.kept (t' := s2.toks) kp
  refine ⟨s2.heap.objs.size + 4, five s2.heap.objs.size, _, _, H2, rfl, I3, turn_mix la lb, ⟨z1, z2, ⟨_, _, z3⟩, ⟨_, o1, rfl, rfl⟩, ⟨_, o2, rfl, rfl⟩⟩, fun c hc => ?_, qq⟩
  have hc' := five_mem hc
  have le : s2.heap.objs.size ≤ c := by
    rcases hc' with e | e | e | e | e <;> rw [e] <;> first | exact Nat.le_refl _ | exact Nat.le_add_right _ _
  exact I2.fpOk le (I2.hok.fresh le)
section
variable {K : PySem.W.Frag}
def unTL : List PyData → (List PyData → List PyData → Prop) → Prop
  | [.tuple xs, .list ys], k => k xs ys
  | _, _ => False
theorem sq_zipM {B : Addr → Prop} {H : Hp} {a b : Addr} {xs ys : List V} {ds es : List PyData} (na : ¬ B a ∨ KT K a xs) (s : SqT K H a xs) (t : RpA K B H ds xs) (nb : ¬ B b) (s2 : H b = some (.lst ys)) (t2 : RpA K B H es ys) : Sq K (ItM K a b) B H (zipD ds es) := by
  have l1 := t.length
  have l2 := t2.length
  refine ⟨fun i H' B' hi g x => ?_, fun H' B' g x => ⟨xs, ys, sqT_on na s g x, SqL.of (sqL_on nb s2 g x), by rw [zipD_length]; omega⟩, fun i d y H' H3 B' hd g x z => ?_⟩
  · rw [zipD_length] at hi
    obtain ⟨y, hy, _⟩ := t.get (i := i) (d := ds[i]) (List.getElem?_eq_getElem (by omega))
    obtain ⟨y2, hy2, _⟩ := t2.get (i := i) (d := es[i]) (List.getElem?_eq_getElem (by omega))
    exact ⟨xs, ys, y, y2, sqT_on na s g x, SqL.of (sqL_on nb s2 g x), hy, hy2⟩
  · obtain ⟨T, x', y', rfl, nT, rfl, z1, z2⟩ := z
    obtain ⟨w, w2, hw, hw2, rfl⟩ := zipD_get hd
    obtain ⟨u, hu, ru⟩ := t.get hw
    obtain ⟨u2, hu2, ru2⟩ := t2.get hw2
    have e := z1 xs (sqT_on na s g x)
    rw [hu] at e
    cases e
    have e := z2 ys (SqL.of (sqL_on nb s2 g x))
    rw [hu2] at e
    cases e
    have s3 : Same H' (upd H' T (.tup [x', y'])) := same_new nT
    exact ⟨s3, rp_tup.mpr ⟨T, _, rfl, .inl (x.al.new nT), SqT.of upd_same, .cons (((Rp.grow g _ _ ru).up x).up (Xt.of x.al s3)) (.cons (((Rp.grow g _ _ ru2).up x).up (Xt.of x.al s3)) .nil)⟩⟩
def AI.zipM (a : AA K) : AI K := ⟨iZipM K a.ta, fun e t k => a.wp e t fun ds t1 => unTL ds fun xs ys => k (zipD xs ys) t1, fun {m B0 B e σ H t k} r h R q =>
  a.ok r h _ fun vs ds H1 t1 x1 k1 h1 r1 => by
    unfold unTL at h1
    split at h1
    · obtain ⟨v, w, rfl, rv, rw⟩ := rpa_cons.mp r1
      obtain ⟨v2, w2, rfl, rv2, rw2⟩ := rpa_cons.mp rw
      obtain rfl := rpa_nil.mp rw2
      obtain ⟨a, xs, rfl, na, s, t⟩ := rp_tup.mp rv
      obtain ⟨b, ys, rfl, nb, s2, t2⟩ := rp_lst.mp rv2
      exact ⟨a, b, xs, ys, rfl, s, SqL.of s2, q _ _ H1 t1 x1 k1 h1 (sq_zipM na s t nb s2 t2)⟩
    · exact h1.elim⟩
theorem w_AI_zipM (a : AA K) : (AI.zipM a).wp = fun e t k => a.wp e t fun ds t1 => unTL ds fun xs ys => k (zipD xs ys) t1 := rfl
theorem t_AI_zipM (a : AA K) : (AI.zipM a).ti = iZipM K a.ta := rfl
theorem q_unTL {xs ys : List PyData} {k : List PyData → List PyData → Prop} : unTL [.tuple xs, .list ys] k = k xs ys := rfl
end
end CG

/-! Part 27: least amounts needed. -/
namespace CG
open PySem PySem.Spec PyProof.Rows L2
def Lead (cs : List Ctr) (k t : Int) : Prop := ∃ r, Rt cs k r ∧ endK cs k r = t
theorem lead_self {cs : List Ctr} {k : Int} : Lead cs k k := ⟨[], trivial, rfl⟩
theorem lead_cons {cs : List Ctr} {c : Ctr} {t : Int} (hc : c ∈ cs) (h : Lead cs c.t t) : Lead cs c.s t := by
  obtain ⟨r, h1, h2⟩ := h
  obtain ⟨i, hi, e⟩ := ctr_ix hc
  exact ⟨i :: r, ⟨hi, by rw [e], by rw [e]; exact h1⟩, by simp only [endK, e]; exact h2⟩
theorem lead_snoc {cs : List Ctr} {c : Ctr} {k : Int} (hc : c ∈ cs) (h : Lead cs k c.s) : Lead cs k c.t := by
  obtain ⟨r, h1, h2⟩ := h
  obtain ⟨i, hi, e⟩ := ctr_ix hc
  exact ⟨r ++ [i], Rt.snoc.mpr ⟨h1, hi, by rw [e]; exact h2.symm⟩, by rw [endK_snoc, e]⟩
/-- what is kept backward by each counter holds for all that leads there -/
theorem lead_back {cs : List Ctr} {t : Int} {p : Int → Prop} (h0 : p t) (h : ∀ c ∈ cs, p c.t → p c.s) : ∀ {k : Int}, Lead cs k t → p k := by
  have key : ∀ (r : List Nat) (k : Int), Rt cs k r → endK cs k r = t → p k := by
    intro r
    induction r with
    | nil =>
      intro k _ e
      have e' : k = t := e
      rw [e']
      exact h0
    | cons i r ih =>
      intro k hr e
      have := h _ (ctr_mem hr.1) (ih _ hr.2.2 e)
      rw [hr.2.1] at this
      exact this
  rintro k ⟨r, h1, h2⟩
  exact key r k h1 h2
theorem lead_fwd {cs : List Ctr} {k : Int} {p : Int → Prop} (h0 : p k) (h : ∀ c ∈ cs, p c.s → p c.t) {t : Int} (hl : Lead cs k t) : p t := by
  have key : ∀ (r : List Nat) (k : Int), p k → Rt cs k r → p (endK cs k r) := by
    intro r
    induction r with
    | nil => intro k hk _; exact hk
    | cons i r ih =>
      intro k hk hr
      refine ih _ (h _ (ctr_mem hr.1) ?_) hr.2.2
      rw [hr.2.1]
      exact hk
  obtain ⟨r, h1, rfl⟩ := hl
  exact key r k h0 h1
/-- the least that a counter wants -/
def lbf (c : Ctr) (w : Int) : Int := c.g * ((w + c.e - 1) / c.e)
theorem lbf_iff {c : Ctr} {n : Int} (hc : c.Ok n) {w x : Int} : lbf c w ≤ x ↔ w ≤ x / c.g * c.e := by
  have g0 := hc.g0
  have e0 := hc.e0
  unfold lbf
  constructor
  · intro h
    have h1 : (w + c.e - 1) / c.e ≤ x / c.g := (Int.le_ediv_iff_mul_le (by omega)).mpr (by rw [Int.mul_comm]; exact h)
    have h2 : w ≤ (w + c.e - 1) / c.e * c.e := by
      have a := Int.emod_add_mul_ediv (w + c.e - 1) c.e
      have b := Int.emod_lt_of_pos (w + c.e - 1) (show 0 < c.e by omega)
      rw [Int.mul_comm] at a
      omega
    exact Int.le_trans h2 (Int.mul_le_mul_of_nonneg_right h1 (by omega))
  · intro h
    have h1 : (w + c.e - 1) / c.e ≤ x / c.g := by
      have a : w + c.e - 1 < (x / c.g + 1) * c.e := by rw [Int.add_mul, Int.one_mul]; omega
      have := Int.ediv_lt_of_lt_mul (show 0 < c.e by omega) a
      omega
    have h2 : x / c.g * c.g ≤ x := Int.ediv_mul_le x (by omega)
    have h3 := Int.mul_le_mul_of_nonneg_right h1 (show 0 ≤ c.g by omega)
    rw [Int.mul_comm]
    omega
theorem lbf_pos {c : Ctr} {n : Int} (hc : c.Ok n) {w : Int} (h : 1 ≤ w) : 1 ≤ lbf c w := by
  by_cases z : 1 ≤ lbf c w
  · exact z
  · have := (lbf_iff hc (w := w) (x := 0)).mp (by omega)
    simp at this
    omega
def nmin : Num → Num → Num
  | none, b => b
  | a, none => a
  | some a, some b => some (if b < a then b else a)
theorem nmin_l (a b : Num) : nle (nmin a b) a := fun y h => by
  subst h
  cases b with
  | none => exact ⟨y, rfl, Int.le_refl _⟩
  | some b => exact ⟨_, rfl, by split <;> omega⟩
theorem nmin_r (a b : Num) : nle (nmin a b) b := fun y h => by
  subst h
  cases a with
  | none => exact ⟨y, rfl, Int.le_refl _⟩
  | some a => exact ⟨_, rfl, by split <;> omega⟩
theorem nmin_or {a b : Num} {v : Int} (h : nmin a b = some v) : a = some v ∨ b = some v := by
  cases a with
  | none => exact .inr h
  | some x =>
    cases b with
    | none => exact .inl h
    | some y =>
      simp only [nmin, Option.some.injEq] at h
      by_cases c : y < x
      · rw [if_pos c] at h; exact .inr (by rw [h])
      · rw [if_neg c] at h; exact .inl (by rw [h])
def relN (c : Ctr) (u y : Vec) : Vec := fun j => if j = c.s then nmin (y j) ((u c.t).map (lbf c)) else y j
def foldN (cs : List Ctr) (u y : Vec) : Vec := cs.foldl (fun y c => relN c u y) y
theorem relN_le {c : Ctr} {u y : Vec} : vle (relN c u y) y := fun j => by
  unfold relN
  split
  · exact nmin_l _ _
  · exact nle_refl _
theorem foldN_le : ∀ {cs : List Ctr} {u y : Vec}, vle (foldN cs u y) y
  | [], _, _ => vle_refl _
  | c :: cs, u, y => vle_trans (foldN_le (cs := cs)) relN_le
theorem foldN_has : ∀ {cs : List Ctr} {u y : Vec} {c : Ctr}, c ∈ cs → nle (foldN cs u y c.s) ((u c.t).map (lbf c))
  | c :: cs, u, y, d, h => by
    rcases List.mem_cons.mp h with rfl | h
    · refine nle_trans (foldN_le (cs := cs) _) ?_
      show nle (relN d u y d.s) _
      unfold relN
      rw [if_pos rfl]
      exact nmin_r _ _
    · exact foldN_has (cs := cs) h
theorem foldN_from : ∀ {cs : List Ctr} {u y : Vec} {j v : Int}, foldN cs u y j = some v → y j = some v ∨ ∃ c ∈ cs, c.s = j ∧ (u c.t).map (lbf c) = some v
  | [], _, _, _, _, h => .inl h
  | c :: cs, u, y, j, v, h => by
    rcases foldN_from (cs := cs) h with h | ⟨d, hd, h⟩
    · replace h : relN c u y j = some v := h
      unfold relN at h
      split at h
      · rename_i e
        rcases nmin_or h with h | h
        · exact .inl h
        · exact .inr ⟨c, by simp, e.symm, h⟩
      · exact .inl h
    · exact .inr ⟨d, by simp [hd], h⟩
theorem foldN_out : ∀ {cs : List Ctr} {u y : Vec} {j : Int}, (∀ c ∈ cs, c.s ≠ j) → foldN cs u y j = y j
  | [], _, _, _, _ => rfl
  | c :: cs, u, y, j, h => by
    show foldN cs u (relN c u y) j = _
    rw [foldN_out fun d hd => h d (by simp [hd])]
    unfold relN
    rw [if_neg (fun e => h c (by simp) e.symm)]
open Classical in
noncomputable def u0 (cs : List Ctr) (st : Vec) (t w : Int) : Vec := fun j => nmin (if j = t then some w else none) (if Lead cs j t then st j else none)
noncomputable def us (cs : List Ctr) (st : Vec) (t w : Int) : Nat → Vec
  | 0 => u0 cs st t w
  | i + 1 => foldN cs (us cs st t w i) (us cs st t w i)
structure IsNeed (cs : List Ctr) (st : Vec) (t w : Int) (u : Vec) : Prop where
  n1 : ∀ c ∈ cs, ∀ y, u c.t = some y → ∃ x, u c.s = some x ∧ x ≤ lbf c y
  n2 : ∃ x, u t = some x ∧ x ≤ w
  n3 : ∀ j s, st j = some s → Lead cs j t → ∃ x, u j = some x ∧ x ≤ s
  n4 : ∀ j x, u j = some x → 1 ≤ x ∧ Lead cs j t ∧ ∀ z, Cl cs st z → (∀ v, z j = some v → x ≤ v) → ∀ v, z t = some v → w ≤ v
section
variable {cs : List Ctr} {st : Vec} {t w : Int} {m : Nat}
theorem us_le : ∀ {i : Nat}, vle (us cs st t w (i + 1)) (us cs st t w i) := foldN_le
theorem us_n4 (hok : ∀ c ∈ cs, c.Ok (m : Int)) (hs1 : ∀ j s, st j = some s → 1 ≤ s) (w1 : 1 ≤ w) : ∀ (i : Nat) (j x : Int), us cs st t w i j = some x → 1 ≤ x ∧ Lead cs j t ∧ ∀ z, Cl cs st z → (∀ v, z j = some v → x ≤ v) → ∀ v, z t = some v → w ≤ v
  | 0, j, x, h => by
    rcases nmin_or h with h | h
    · split at h
      · rename_i e
        cases h
        subst e
        exact ⟨w1, lead_self, fun z _ hz v hv => hz v hv⟩
      · cases h
    · split at h
      · rename_i e
        refine ⟨hs1 j x h, e, fun z hc hz v hv => ?_⟩
        have zj : z j = none := by
          cases q : z j with
          | none => rfl
          | some y =>
            have := hc.g j x y h q
            have := hz y q
            omega
        have zt : z t = none := lead_fwd (p := fun j => z j = none) zj (fun c hc' hn => by
          have := hc.c c hc'
          rw [hn] at this
          cases q : z c.t with
          | none => rfl
          | some y => obtain ⟨_, hx, _⟩ := this y q; cases hx) e
        rw [zt] at hv
        cases hv
      · cases h
  | i + 1, j, x, h => by
    rcases foldN_from h with h5 | ⟨c, hc, rfl, h5⟩
    · exact us_n4 hok hs1 w1 i j x h5
    · cases q : us cs st t w i c.t with
      | none => rw [q] at h5; cases h5
      | some y =>
        rw [q] at h5
        simp only [Option.map_some, Option.some.injEq] at h5
        subst h5
        obtain ⟨h1, h2, h3⟩ := us_n4 hok hs1 w1 i c.t y q
        refine ⟨lbf_pos (hok c hc) h1, lead_cons hc h2, fun z hz hx v hv => h3 z hz (fun v' hv' => ?_) v hv⟩
        obtain ⟨p, hp, lp⟩ := hz.c c hc v' hv'
        cases qs : z c.s with
        | none => rw [qs] at hp; cases hp
        | some a =>
          rw [qs] at hp
          simp only [fc, Option.map_some, Option.some.injEq] at hp
          have := (lbf_iff (hok c hc)).mp (hx a qs)
          omega
theorem us_need (hok : ∀ c ∈ cs, c.Ok (m : Int)) (hs1 : ∀ j s, st j = some s → 1 ≤ s) (w1 : 1 ≤ w) {i : Nat} (h : us cs st t w (i + 1) = us cs st t w i) : IsNeed cs st t w (us cs st t w i) := by
  have le0 : vle (us cs st t w i) (us cs st t w 0) := by
    clear h
    induction i with
    | zero => exact vle_refl _
    | succ i ih => exact vle_trans us_le ih
  refine ⟨fun c hc y hy => ?_, ?_, fun j s hs hl => ?_, us_n4 hok hs1 w1 i⟩
  · have := foldN_has (u := us cs st t w i) (y := us cs st t w i) hc
    rw [hy] at this
    obtain ⟨x, hx, l⟩ := this _ rfl
    replace hx : us cs st t w (i + 1) c.s = some x := hx
    rw [h] at hx
    exact ⟨x, hx, l⟩
  · have : nle (us cs st t w 0 t) (some w) := by
      show nle (nmin _ _) _
      rw [if_pos rfl]
      exact nmin_l _ _
    exact nle_trans (le0 t) this w rfl
  · have : nle (us cs st t w 0 j) (some s) := by
      show nle (nmin _ _) _
      rw [if_pos hl, hs]
      exact nmin_r _ _
    exact nle_trans (le0 j) this s rfl
/-! ### enough, and not enough -/
theorem need_enough {u z : Vec} {k a x : Int} (h : IsNeed cs st t w u) (hb : IsBest cs st k a z) (hx : u k = some x) (ha : x ≤ a) : ∀ v, z t = some v → w ≤ v := by
  refine (h.n4 k x hx).2.2 z hb.cl fun v hv => ?_
  obtain ⟨y, hy, l⟩ := hb.ge k v hv
  unfold s0 at hy
  rw [if_pos rfl] at hy
  cases hy
  omega
theorem need_less {u z : Vec} {k a x : Int} (hok : ∀ c ∈ cs, c.Ok (m : Int)) (h : IsNeed cs st t w u) (hb : IsBest cs st k a z) (hx : u k = some x) (ha : a < x) : ∃ v, z t = some v ∧ v < w := by
  have le := hb.le (fun j => (u j).map fun y => y - 1) (fun j => ?_) ⟨fun c hc y hy => ?_, fun j s v hs hv => ?_⟩
  · obtain ⟨y, hy, l⟩ := h.n2
    obtain ⟨v, hv, l2⟩ := le t (y - 1) (by simp only [hy, Option.map_some])
    exact ⟨v, hv, by omega⟩
  · intro y hy
    cases q : u j with
    | none => simp only [q] at hy; cases hy
    | some v =>
      simp only [q, Option.map_some, Option.some.injEq] at hy
      unfold s0
      by_cases e : j = k
      · subst e
        rw [if_pos rfl]
        rw [q] at hx
        cases hx
        exact ⟨a, rfl, by omega⟩
      · rw [if_neg e]
        have := (h.n4 j v q).1
        exact ⟨0, rfl, by omega⟩
  · cases q : u c.t with
    | none => simp only [q] at hy; cases hy
    | some v =>
      simp only [q, Option.map_some, Option.some.injEq] at hy
      obtain ⟨p, hp, lp⟩ := h.n1 c hc v q
      refine ⟨(p - 1) / c.g * c.e, by simp only [hp, Option.map_some, fc], ?_⟩
      have := mt (lbf_iff (hok c hc) (w := v) (x := p - 1)).mpr (by omega)
      omega
  · cases q : u j with
    | none => simp only [q] at hv; cases hv
    | some y =>
      simp only [q, Option.map_some, Option.some.injEq] at hv
      obtain ⟨p, hp, lp⟩ := h.n3 j s hs (h.n4 j y q).2.1
      rw [q] at hp
      cases hp
      omega
theorem need_none {u : Vec} {k : Int} (h : IsNeed cs st t w u) : u k = none ↔ ¬ Lead cs k t := by
  constructor
  · intro hn hl
    have : ∃ x, u k = some x := lead_back (p := fun j => ∃ x, u j = some x) (let ⟨x, hx, _⟩ := h.n2; ⟨x, hx⟩) (fun c hc ⟨y, hy⟩ => let ⟨x, hx, _⟩ := h.n1 c hc y hy; ⟨x, hx⟩) hl
    obtain ⟨x, hx⟩ := this
    rw [hn] at hx
    cases hx
  · intro hl
    cases q : u k with
    | none => rfl
    | some x => exact absurd (h.n4 k x q).2.1 hl
open Classical in
theorem lead_zero {z : Vec} {k a : Int} (hok : ∀ c ∈ cs, c.Ok (m : Int)) (hs1 : ∀ j s, st j = some s → 1 ≤ s) (hb : IsBest cs st k a z) (hl : ¬ Lead cs k t) : ∃ v, z t = some v ∧ v ≤ 0 := by
  have le := hb.le (fun j => if Lead cs j t then some 0 else none) (fun j => ?_) ⟨fun c hc y hy => ?_, fun j s v hs hv => ?_⟩
  · obtain ⟨v, hv, l⟩ := le t 0 (if_pos lead_self)
    exact ⟨v, hv, l⟩
  · intro y hy
    by_cases e : Lead cs j t
    · simp only [if_pos e] at hy
      cases hy
      unfold s0
      rw [if_neg (fun z : j = k => hl (z ▸ e))]
      exact ⟨0, rfl, Int.le_refl _⟩
    · simp only [if_neg e] at hy
      cases hy
  · by_cases e : Lead cs c.t t
    · simp only [if_pos e] at hy
      cases hy
      refine ⟨0, ?_, Int.le_refl _⟩
      simp only [if_pos (lead_cons hc e), fc, Option.map_some]
      simp
    · simp only [if_neg e] at hy
      cases hy
  · by_cases e : Lead cs j t
    · simp only [if_pos e] at hv
      cases hv
      have := hs1 j s hs
      omega
    · simp only [if_neg e] at hv
      cases hv
/-- there is one answer -/
theorem need_uniq {st' u u' : Vec} {k : Int} (hm : m ≤ 4) (hok : ∀ c ∈ cs, c.Ok (m : Int)) (hs : StOk cs m st) (hs' : StOk cs m st') (h : IsNeed cs st t w u) (h' : IsNeed cs st' t w u') : u k = u' k := by
  rw [st_uniq hs' hs] at h'
  have key : ∀ {u u' : Vec} {x x' : Int}, IsNeed cs st t w u → IsNeed cs st t w u' → u k = some x → u' k = some x' → ¬ x < x' := fun {u u' x x'} g g' e e' lt => by
    have x1 := (g.n4 k x e).1
    obtain ⟨i, hi⟩ := xsP_ends (k := k) (a := x) hm hok hs (by omega)
    have b := xsP_best hok hi
    obtain ⟨v, hv, l⟩ := need_less hok g' b e' lt
    have := need_enough g b e (Int.le_refl _) v hv
    omega
  cases e : u k with
  | none => rw [(need_none h').mpr ((need_none h).mp e)]
  | some x =>
    cases e' : u' k with
    | none =>
      rw [(need_none h).mpr ((need_none h').mp e')] at e
      cases e
    | some x' =>
      have a := key h h' e e'
      have b := key h' h e' e
      congr 1
      omega
/-! ### it ends -/
def nones (m : Nat) (u : Vec) : Nat := ((List.range m).map fun j : Nat => if u (j : Int) = none then 1 else 0).sum
def sums (m : Nat) (u : Vec) : Nat := ((List.range m).map fun j : Nat => match u (j : Int) with | none => 0 | some v => v.toNat).sum
theorem us_out (hok : ∀ c ∈ cs, c.Ok (m : Int)) {j : Int} (h : ¬ (0 ≤ j ∧ j < (m : Int))) : ∀ i, us cs st t w i j = us cs st t w 0 j
  | 0 => rfl
  | i + 1 => by
    show foldN cs _ _ j = _
    rw [foldN_out fun c hc e => h (by have := hok c hc; rw [← e]; exact ⟨this.s0, this.s1⟩), us_out hok h i]
theorem us_drop (hok : ∀ c ∈ cs, c.Ok (m : Int)) (hs1 : ∀ j s, st j = some s → 1 ≤ s) (w1 : 1 ≤ w) {i : Nat} {j : Int} (hj : 0 ≤ j ∧ j < (m : Int)) (ne : us cs st t w (i + 1) j ≠ us cs st t w i j) :
    nones m (us cs st t w (i + 1)) < nones m (us cs st t w i) ∨ (nones m (us cs st t w (i + 1)) ≤ nones m (us cs st t w i) ∧ sums m (us cs st t w (i + 1)) < sums m (us cs st t w i)) := by
  have le := us_le (cs := cs) (st := st) (t := t) (w := w) (i := i)
  have p1 := us_n4 (t := t) hok hs1 w1 (i + 1)
  generalize us cs st t w (i + 1) = y at le ne p1
  generalize us cs st t w i = x at le ne
  have n1 : ∀ q ∈ List.range m, (if y (q : Int) = none then 1 else 0) ≤ (if x (q : Int) = none then 1 else 0) := fun q _ => by
    by_cases e : x (q : Int) = none
    · rw [if_pos e]; split <;> omega
    · cases e2 : x (q : Int) with
      | none => exact absurd e2 e
      | some v =>
        obtain ⟨u, hu, _⟩ := le q v e2
        rw [hu]
        simp
  by_cases hn : ∃ q ∈ List.range m, (if y (q : Int) = none then 1 else 0) < (if x (q : Int) = none then 1 else 0)
  · exact .inl (sum_lt n1 hn)
  · refine .inr ⟨sum_le n1, ?_⟩
    have same : ∀ q : Nat, q < m → (x (q : Int) = none ↔ y (q : Int) = none) := fun q hq => by
      constructor
      · intro e
        cases e2 : y (q : Int) with
        | none => rfl
        | some v => exact absurd ⟨q, List.mem_range.mpr hq, by rw [e, e2]; simp⟩ hn
      · intro e
        cases e2 : x (q : Int) with
        | none => rfl
        | some v =>
          obtain ⟨u, hu, _⟩ := le q v e2
          rw [e] at hu
          cases hu
    refine sum_lt (fun q hq => ?_) ⟨j.toNat, List.mem_range.mpr (by omega), ?_⟩
    · have s := same q (List.mem_range.mp hq)
      cases e : x (q : Int) with
      | none => rw [s.mp e]; exact Nat.le_refl _
      | some v =>
        obtain ⟨u, hu, l⟩ := le q v e
        rw [hu]
        show u.toNat ≤ v.toNat
        omega
    · rw [show ((j.toNat : Nat) : Int) = j by omega]
      have s := same j.toNat (by omega)
      rw [show ((j.toNat : Nat) : Int) = j by omega] at s
      cases e : x j with
      | none => exact absurd ((s.mp e).trans e.symm) ne
      | some v =>
        obtain ⟨u, hu, l⟩ := le j v e
        have h1 := (p1 j u hu).1
        have : u ≠ v := fun z => ne (by rw [hu, e, z])
        rw [hu]
        show u.toNat < v.toNat
        omega
theorem us_ends (hok : ∀ c ∈ cs, c.Ok (m : Int)) (hs1 : ∀ j s, st j = some s → 1 ≤ s) (w1 : 1 ≤ w) : ∃ i, us cs st t w (i + 1) = us cs st t w i := by
  have key : ∀ (A B i : Nat), nones m (us cs st t w i) ≤ A → sums m (us cs st t w i) ≤ B → ∃ i, us cs st t w (i + 1) = us cs st t w i := by
    intro A
    induction A with
    | zero =>
      intro B
      induction B with
      | zero =>
        intro i hA hB
        refine ⟨i, Classical.byContradiction fun c => ?_⟩
        have : ∃ j, us cs st t w (i + 1) j ≠ us cs st t w i j := Classical.byContradiction fun z => c (funext fun j => Classical.byContradiction fun w => z ⟨j, w⟩)
        obtain ⟨j, ne⟩ := this
        have hj : 0 ≤ j ∧ j < (m : Int) := Classical.byContradiction fun z => ne (by rw [us_out hok z (i + 1), us_out hok z i])
        have lt := us_drop hok hs1 w1 hj ne
        omega
      | succ B ih =>
        intro i hA hB
        by_cases c : us cs st t w (i + 1) = us cs st t w i
        · exact ⟨i, c⟩
        · have : ∃ j, us cs st t w (i + 1) j ≠ us cs st t w i j := Classical.byContradiction fun z => c (funext fun j => Classical.byContradiction fun w => z ⟨j, w⟩)
          obtain ⟨j, ne⟩ := this
          have hj : 0 ≤ j ∧ j < (m : Int) := Classical.byContradiction fun z => ne (by rw [us_out hok z (i + 1), us_out hok z i])
          have lt := us_drop hok hs1 w1 hj ne
          exact ih (i + 1) (by omega) (by omega)
    | succ A ihA =>
      intro B
      induction B with
      | zero =>
        intro i hA hB
        by_cases c : us cs st t w (i + 1) = us cs st t w i
        · exact ⟨i, c⟩
        · have : ∃ j, us cs st t w (i + 1) j ≠ us cs st t w i j := Classical.byContradiction fun z => c (funext fun j => Classical.byContradiction fun w => z ⟨j, w⟩)
          obtain ⟨j, ne⟩ := this
          have hj : 0 ≤ j ∧ j < (m : Int) := Classical.byContradiction fun z => ne (by rw [us_out hok z (i + 1), us_out hok z i])
          have lt := us_drop hok hs1 w1 hj ne
          exact ihA _ (i + 1) (by omega) (Nat.le_refl _)
      | succ B ih =>
        intro i hA hB
        by_cases c : us cs st t w (i + 1) = us cs st t w i
        · exact ⟨i, c⟩
        · have : ∃ j, us cs st t w (i + 1) j ≠ us cs st t w i j := Classical.byContradiction fun z => c (funext fun j => Classical.byContradiction fun w => z ⟨j, w⟩)
          obtain ⟨j, ne⟩ := this
          have hj : 0 ≤ j ∧ j < (m : Int) := Classical.byContradiction fun z => ne (by rw [us_out hok z (i + 1), us_out hok z i])
          have lt := us_drop hok hs1 w1 hj ne
          by_cases d : nones m (us cs st t w (i + 1)) < nones m (us cs st t w i)
          · exact ihA _ (i + 1) (by omega) (Nat.le_refl _)
          · exact ih (i + 1) (by omega) (by omega)
  exact key _ _ 0 (Nat.le_refl _) (Nat.le_refl _)
end
end CG

/-! Part 110: sets of tuples of ints, up to 4,000 of them: the table. -/
namespace CG
open PySem PySem.Spec PyProof.Rows L2
/-! the round of i -> 5 i + 1 modulo a power of two -/
def gS : Nat → Nat
  | 0 => 0
  | n + 1 => 5 * gS n + 1
theorem gS_add (a : Nat) : ∀ b, gS (a + b) = 5 ^ b * gS a + gS b
  | 0 => by simp [gS]
  | b + 1 => by
    show 5 * gS (a + b) + 1 = 5 ^ (b + 1) * gS a + (5 * gS b + 1)
    rw [gS_add a b, Nat.pow_succ, Nat.mul_add, Nat.mul_comm (5 ^ b) 5, Nat.mul_assoc, Nat.add_assoc]
theorem gS_pow : ∀ n, 4 * gS n + 1 = 5 ^ n
  | 0 => rfl
  | n + 1 => by
    show 4 * (5 * gS n + 1) + 1 = 5 ^ (n + 1)
    rw [Nat.pow_succ, ← gS_pow n]
    omega
theorem odd_mul (a b : Nat) : (2 * a + 1) * (2 * b + 1) = 2 * (2 * a * b + a + b) + 1 := by
  rw [Nat.add_mul, Nat.mul_add, Nat.mul_add, Nat.mul_add, Nat.one_mul]
  have e : 2 * a * (2 * b) = 2 * (2 * a * b) := Nat.mul_left_comm (2 * a) 2 b
  omega
theorem gS_two : ∀ k, ∃ c, gS (2 ^ k) = 2 ^ k * (2 * c + 1)
  | 0 => ⟨0, rfl⟩
  | k + 1 => by
    obtain ⟨c, hc⟩ := gS_two k
    refine ⟨2 * c * gS (2 ^ k) + c + gS (2 ^ k), ?_⟩
    rw [show 2 ^ (k + 1) = 2 ^ k + 2 ^ k by rw [Nat.pow_succ]; omega, gS_add, ← gS_pow (2 ^ k)]
    have e1 : (4 * gS (2 ^ k) + 1) * gS (2 ^ k) + gS (2 ^ k) = 2 * (gS (2 ^ k) * (2 * gS (2 ^ k) + 1)) := by
      rw [Nat.add_mul, Nat.one_mul, Nat.mul_add, Nat.mul_add, Nat.mul_one, Nat.mul_assoc, Nat.mul_left_comm (gS (2 ^ k)) 2]
      omega
    have e2 : gS (2 ^ k) * (2 * gS (2 ^ k) + 1) = 2 ^ k * ((2 * c + 1) * (2 * gS (2 ^ k) + 1)) := by
      conv => lhs; lhs; rw [hc]
      rw [Nat.mul_assoc]
    rw [e1, e2, odd_mul]
    generalize 2 * (2 * c * gS (2 ^ k) + c + gS (2 ^ k)) + 1 = y
    rw [Nat.add_mul]
    omega
theorem gS_all : ∀ k j, j < 2 ^ k → ∃ n, n < 2 ^ k ∧ gS n % 2 ^ k = j
  | 0, j, h => ⟨0, by decide, by rw [Nat.pow_zero] at h ⊢; simp [gS]; omega⟩
  | k + 1, j, h => by
    have hp : 0 < 2 ^ k := Nat.pow_pos (by decide)
    obtain ⟨c, hc⟩ := gS_two k
    rw [show 2 ^ (k + 1) = 2 * 2 ^ k by rw [Nat.pow_succ, Nat.mul_comm]] at h ⊢
    obtain ⟨n, hn, e⟩ := gS_all k (j % 2 ^ k) (Nat.mod_lt _ hp)
    have d5 : 5 ^ n = 2 * (2 * gS n) + 1 := by rw [← gS_pow n]; omega
    have g2 : gS (2 ^ k + n) = gS n + 2 ^ k + 2 * 2 ^ k * (2 * (2 * gS n) * c + 2 * gS n + c) := by
      rw [gS_add, hc, d5, Nat.mul_left_comm, odd_mul, Nat.mul_add, Nat.mul_one]
      rw [show 2 ^ k * (2 * (2 * (2 * gS n) * c + 2 * gS n + c)) = 2 * 2 ^ k * (2 * (2 * gS n) * c + 2 * gS n + c) by rw [← Nat.mul_assoc, Nat.mul_comm (2 ^ k) 2]]
      omega
    generalize 2 ^ k = p at *
    have q1 : gS n % (2 * p) % p = j % p := by rw [Nat.mod_mul_left_mod, e]
    have q2 : gS n % (2 * p) < 2 * p := Nat.mod_lt _ (by omega)
    by_cases z : gS n % (2 * p) = j
    · exact ⟨n, by omega, z⟩
    · refine ⟨p + n, by omega, ?_⟩
      rw [g2, Nat.add_mul_mod_self_left, Nat.add_mod, Nat.mod_eq_of_lt (show p < 2 * p by omega)]
      generalize gS n % (2 * p) = r at q1 q2 z ⊢
      have r1 := Nat.div_add_mod r p
      have j1 := Nat.div_add_mod j p
      have r2 : r / p < 2 := Nat.div_lt_of_lt_mul (by rw [Nat.mul_comm]; exact q2)
      have j2 : j / p < 2 := Nat.div_lt_of_lt_mul (by rw [Nat.mul_comm]; exact h)
      have mlt := Nat.mod_lt r hp
      have two : ∀ x : Nat, x < 2 → x = 0 ∨ x = 1 := fun x hx => by omega
      rcases two _ r2 with a | a <;> rcases two _ j2 with b | b <;> rw [a] at r1 <;> rw [b] at j1 <;> simp only [Nat.mul_zero, Nat.mul_one] at r1 j1
      · omega
      · rw [Nat.mod_eq_of_lt (by omega)]
        omega
      · rw [show r + p = j + 2 * p by omega, Nat.add_mod_right, Nat.mod_eq_of_lt h]
      · omega
/-- the masks up to 4,000 entries -/
def Mk6 (m : Nat) : Prop := m = 7 ∨ m = 31 ∨ m = 127 ∨ m = 511 ∨ m = 2047 ∨ m = 8191
theorem Mk6.pow {m : Nat} (h : Mk6 m) : ∃ k, m + 1 = 2 ^ k := by
  rcases h with rfl | rfl | rfl | rfl | rfl | rfl
  · exact ⟨3, rfl⟩
  · exact ⟨5, rfl⟩
  · exact ⟨7, rfl⟩
  · exact ⟨9, rfl⟩
  · exact ⟨11, rfl⟩
  · exact ⟨13, rfl⟩
theorem Mk6.le {m : Nat} (h : Mk6 m) : m ≤ 8191 := by rcases h with rfl | rfl | rfl | rfl | rfl | rfl <;> decide
theorem lcgN_gS (m : Nat) : ∀ n, lcgN m n = gS n % (m + 1)
  | 0 => (Nat.zero_mod _).symm
  | n + 1 => by
    show (lcgN m n * 5 + 1) % (m + 1) = (5 * gS n + 1) % (m + 1)
    rw [lcgN_gS m n, Nat.mul_comm 5, Nat.add_mod, Nat.mul_mod, Nat.mod_mod, ← Nat.mul_mod, ← Nat.add_mod]
/-- each place is met from each other one -/
theorem round_all {m i j : Nat} (hm : Mk6 m) (hi : i ≤ m) (hj : j ≤ m) : ∃ n, n ≤ m ∧ lcgI m i n = j := by
  obtain ⟨k, hk⟩ := hm.pow
  obtain ⟨x, x1, x2⟩ := gS_all k i (by omega)
  obtain ⟨y, y1, y2⟩ := gS_all k j (by omega)
  rw [← hk] at x1 x2 y1 y2
  have ex : lcgN m x = i := by rw [lcgN_gS, x2]
  rw [← ex]
  by_cases c : x ≤ y
  · exact ⟨y - x, by omega, by rw [lcgN_add, lcgN_gS, show x + (y - x) = y by omega, y2]⟩
  · refine ⟨m + 1 + y - x, by omega, ?_⟩
    obtain ⟨c, hc⟩ := gS_two k
    rw [lcgN_add, lcgN_gS, show x + (m + 1 + y - x) = m + 1 + y by omega, gS_add]
    rw [← hk] at hc
    rw [hc, Nat.mul_left_comm, Nat.mul_add_mod, y2]
theorem starts_all {m j : Nat} (hm : Mk6 m) (v : Int) (hj : j ≤ m) : ∃ n, n ≤ m + 12 ∧ runI m (SetTable.bits v) n = j := by
  obtain ⟨n, n1, n2⟩ := round_all hm (runI_le m (SetTable.bits v) 12) hj
  exact ⟨12 + n, by omega, (runI_tail (bits_lt v) n).trans n2⟩
theorem way_top (m : Nat) (v : Int) (n : Nat) : way m v n ≤ m := by
  have h0 : SetTable.bits v % (m + 1) ≤ m := Nat.le_of_lt_succ (Nat.mod_lt _ (Nat.succ_pos m))
  have h1 := runEnd_bd h0
  have h2 := nth_in (m := m) n (runAt m (SetTable.bits v % (m + 1)) (SetTable.bits v)) (show SetTable.bits v % (m + 1) + (SetTable.runEnd m (SetTable.bits v % (m + 1)) - SetTable.bits v % (m + 1)) ≤ m by omega)
  exact Nat.le_trans (Nat.le_add_right _ _) h2
theorem way_all {m j : Nat} (hm : Mk6 m) (v : Int) (hj : j ≤ m) : ∃ n, n < 10 * SetTable.turns m ∧ way m v n = j := by
  obtain ⟨a, a1, a2⟩ := starts_all hm v hj
  obtain ⟨n, n1, n2⟩ := run_nth m (SetTable.bits v) a
  exact ⟨n, by show n < 10 * (m + 15); omega, (congrArg SetTable.Probe.j n2).trans a2⟩
/-! the table's word -/
structure Tab (t : SetTable) (vs : List Int) : Prop where
  up : Ris t.place.toList
  nod : t.dummies = #[]
  len : t.place.size = vs.length
  six : Mk6 t.mask
  top : ∀ z ∈ t.place.toList, z ≤ t.mask
  fnd : ∀ (i : Nat) (v : Int) (j : Nat), vs[i]? = some v → t.place.toList[i]? = some j → ∃ n, way t.mask v n = j ∧ ∀ n', n' < n → way t.mask v n' ∈ t.place.toList
theorem Tab.free {t : SetTable} {vs : List Int} (T : Tab t vs) (hl : vs.length ≤ t.mask) (v : Int) : ∃ N, N < 10 * SetTable.turns t.mask ∧ way t.mask v N ∉ t.place.toList ∧ ∀ n, n < N → way t.mask v n ∈ t.place.toList := by
  obtain ⟨j, j1, j2⟩ := st_missing t.place.toList (t.mask + 1) (by have := T.len; rw [Array.length_toList]; omega)
  obtain ⟨a, a1, a2⟩ := way_all T.six v (Nat.le_of_lt_succ j1)
  obtain ⟨N, n1, n2, n3⟩ := st_least (p := fun n => way t.mask v n ∉ t.place.toList) a (fun z => j2 (a2 ▸ z))
  exact ⟨N, Nat.lt_of_le_of_lt n1 a1, n2, fun n hn => Classical.not_not.mp (n3 n hn)⟩
theorem Tab.ahead {t : SetTable} {vs : List Int} (T : Tab t vs) {v : Int} {N i j : Nat} (hN : way t.mask v N ∉ t.place.toList) (hi : vs[i]? = some v) (hj : t.place.toList[i]? = some j) : ∃ n, n < N ∧ way t.mask v n = j := by
  obtain ⟨n, e, z⟩ := T.fnd i v j hi hj
  refine ⟨n, Nat.lt_of_not_le fun c => ?_, e⟩
  rcases Nat.lt_or_ge N n with q | q
  · exact hN (z N q)
  · rw [show N = n by omega, e] at hN
    exact hN (List.mem_of_getElem? hj)
/-- one more -/
theorem Tab.put {t : SetTable} {vs : List Int} (T : Tab t vs) {v : Int} {N p j : Nat} (ej : way t.mask v N = j) (ep : SetTable.below t.place j = p) (hN : j ∉ t.place.toList) (hb : ∀ n, n < N → way t.mask v n ∈ t.place.toList) :
    p ≤ vs.length ∧ Tab (t.put j).1 (vs.take p ++ v :: vs.drop p) ∧ (t.put j).1.fill = vs.length + 1 := by
  subst ep
  have c1 : SetTable.below t.place j ≤ t.place.size := (below_cut T.up j).1
  have l1 : SetTable.below t.place j ≤ t.place.toList.length := c1
  have l2 : SetTable.below t.place j ≤ vs.length := T.len ▸ c1
  have pl := put_place t j
  have nw : t.place[SetTable.below t.place j]? ≠ some j := fun e => hN (List.mem_of_getElem? (Array.getElem?_toList.trans e))
  have sz : (t.put j).1.place.size = vs.length + 1 := by
    rw [← Array.length_toList, pl, len_ins _ l1, Array.length_toList, T.len]
  have old : ∀ {z : Nat}, z ∈ t.place.toList → z ∈ (t.put j).1.place.toList := fun hz => by
    rw [pl]
    exact mem_ins.2 (.inr hz)
  refine ⟨l2, ⟨ris_insert T.up nw, put_dm T.nod j, by rw [len_ins _ l2, sz], T.six, fun z hz => ?_, fun i u y h1 h2 => ?_⟩, ?_⟩
  · rw [pl] at hz
    rcases mem_ins.1 hz with e | e
    · rw [e, ← ej]
      exact way_top _ _ _
    · exact T.top z e
  · rw [tins_get _ l2] at h1
    rw [pl, tins_get _ l1] at h2
    have back : ∀ i', vs[i']? = some u → t.place.toList[i']? = some y → ∃ n, way t.mask u n = y ∧ ∀ n', n' < n → way t.mask u n' ∈ (t.put j).1.place.toList := fun i' g1 g2 => by
      obtain ⟨n, e, q⟩ := T.fnd i' u y g1 g2
      exact ⟨n, e, fun n' hn => old (q n' hn)⟩
    show ∃ n, way t.mask u n = y ∧ ∀ n', n' < n → way t.mask u n' ∈ (t.put j).1.place.toList
    split at h1
    · rename_i c
      rw [if_pos c] at h2
      exact back i h1 h2
    · rename_i c
      rw [if_neg c] at h2
      split at h1
      · rename_i d
        rw [if_pos d] at h2
        cases h1
        cases h2
        exact ⟨N, ej, fun n' hn => old (hb n' hn)⟩
      · rename_i d
        rw [if_neg d] at h2
        exact back (i - 1) h1 h2
  · show (t.put j).1.place.size + (t.put j).1.dummies.size = _
    rw [sz, put_dm T.nod j]
    rfl
/-! all laid anew -/
theorem free_at {m j : Nat} (hm : Mk6 m) (ow : Array (Option Nat)) (v : Int) (hj : j ≤ m) (hf : oAt ow j = none) :
    ∃ N, SetTable.layClean.free m ow (SetTable.turns m) (SetTable.bits v % (m + 1)) (SetTable.bits v) = some (way m v N) ∧ oAt ow (way m v N) = none ∧ ∀ n, n < N → oAt ow (way m v n) ≠ none := by
  obtain ⟨a, a1, a2⟩ := starts_all hm v hj
  have e0 : way m v (off m (SetTable.bits v % (m + 1)) (SetTable.bits v) a) = j := by
    refine (congrArg SetTable.Probe.j (nth_off m a _ _)).trans ?_
    rw [itL_run]
    exact a2
  obtain ⟨N, n1, n2, n3⟩ := st_least (p := fun n => oAt ow (way m v n) = none) _ (show oAt ow (way m v (off m (SetTable.bits v % (m + 1)) (SetTable.bits v) a)) = none by rw [e0]; exact hf)
  refine ⟨N, free_spec m ow _ a _ _ N (by show a < m + 15; omega) n1 (fun n hn => ?_) (by show (oAt ow (way m v N)).isNone = true; rw [n2]; rfl), n2, n3⟩
  cases q : oAt ow (way m v n) with
  | none => exact absurd q (n3 n hn)
  | some _ => rfl
theorem own_step {m : Nat} (hm : Mk6 m) {done : List Int} {ow : Array (Option Nat)} (W : L2.Own m done ow) (hl : done.length ≤ m) (v : Int) :
    ∃ j, SetTable.layClean.free m ow (SetTable.turns m) (SetTable.bits v % (m + 1)) (SetTable.bits v) = some j ∧ L2.Own m (done ++ [v]) (ow.setIfInBounds j (some done.length)) := by
  obtain ⟨ps, p1, p2⟩ := W.ps
  obtain ⟨f, f1, f2⟩ := st_missing ps (m + 1) (by omega)
  have f3 : oAt ow f = none := Classical.byContradiction fun z => f2 (p2 f (Nat.le_of_lt_succ f1) z)
  obtain ⟨N, e1, e2, e3⟩ := free_at hm ow v (Nat.le_of_lt_succ f1) f3
  have top := way_top m v N
  generalize ej : way m v N = j at e1 e2 top
  have me := oAt_set_self (some done.length) (show j < ow.size by rw [W.sz]; omega)
  have ne : ∀ {i : Nat}, oAt ow i ≠ none → i ≠ j := fun h z => h (z ▸ e2)
  have kp : ∀ {i : Nat}, oAt ow i ≠ none → oAt (ow.setIfInBounds j (some done.length)) i ≠ none := fun h => by
    rw [oAt_set_ne _ (ne h)]
    exact h
  refine ⟨j, e1, (Array.size_setIfInBounds ..).trans W.sz, fun i k hi e => ?_, fun k hk => ?_, j :: ps, by simp [p1], fun i hi e => ?_⟩
  · by_cases c : i = j
    · rw [c, me] at e
      cases e
      exact ⟨v, N, by simp, ej.trans c.symm, fun n hn => kp (e3 n hn)⟩
    · rw [oAt_set_ne _ c] at e
      obtain ⟨u, n, b1, b2, b3⟩ := W.at_ i k hi e
      exact ⟨u, n, by rw [List.getElem?_append_left (List.getElem?_eq_some_iff.mp b1).1]; exact b1, b2, fun n' hn => kp (b3 n' hn)⟩
  · rw [List.length_append] at hk
    by_cases c : k < done.length
    · obtain ⟨i, i1, i2⟩ := W.all k c
      exact ⟨i, i1, by rw [oAt_set_ne _ (ne (by rw [i2]; exact fun z => nomatch z))]; exact i2⟩
    · obtain rfl : k = done.length := by have : k < done.length + 1 := hk; omega
      exact ⟨j, top, me⟩
  · by_cases c : i = j
    · rw [c]
      exact List.mem_cons_self
    · rw [oAt_set_ne _ c] at e
      exact List.mem_cons_of_mem _ (p2 i hi e)
theorem own_fold {m : Nat} (hm : Mk6 m) : ∀ (more done : List Int) (ow : Array (Option Nat)), L2.Own m done ow → done.length + more.length ≤ m →
    ∃ ow', more.foldl (stepF m) (some (ow, done.length)) = some (ow', (done ++ more).length) ∧ L2.Own m (done ++ more) ow'
  | [], done, ow, W, _ => ⟨ow, by simp, by simpa using W⟩
  | v :: more, done, ow, W, hl => by
    have h2 : done.length + (more.length + 1) ≤ m := hl
    obtain ⟨j, e, W1⟩ := own_step hm W (by omega) v
    obtain ⟨ow', g1, g2⟩ := own_fold hm more (done ++ [v]) _ W1 (by rw [List.length_append]; show done.length + 1 + more.length ≤ m; omega)
    rw [List.append_assoc] at g1 g2
    refine ⟨ow', ?_, g2⟩
    rw [List.foldl_cons, stepF_some e]
    rw [List.length_append] at g1
    exact g1
theorem lay_all {m : Nat} (hm : Mk6 m) {vs : Array Int} (hn : vs.size ≤ m) : ∃ ow, SetTable.layClean m vs = some ow ∧ L2.Own m vs.toList ow := by
  obtain ⟨ow, g1, g2⟩ := own_fold hm vs.toList [] _ (L2.Own.init m) (by simpa using hn)
  refine ⟨ow, (layClean_eq m vs).trans ?_, g2⟩
  have g3 : vs.toList.foldl (stepF m) (some (Array.replicate (m + 1) none, 0)) = some (ow, vs.toList.length) := g1
  rw [g3]
  rfl
theorem lay_anew (t : SetTable) {vs : Array Int} {want M : Nat} (hw : SetTable.sizeAbove want - 1 = M) (hM : Mk6 M) (hn : vs.size ≤ M) :
    ∃ t' ord, t.relaid vs want = some (t', ord) ∧ ord.toList.Perm (List.range vs.size) ∧ Tab t' (ord.toList.map fun i => vs.getD i 0) ∧ t'.mask = M ∧ t'.led = t.led ∧ t'.plain = t.plain := by
  obtain ⟨ow, e, W⟩ := lay_all hM hn
  have rs := ris_live (fun j => ow.getD j none) (List.range (M + 1)) (show List.Pairwise (· < ·) (List.range (M + 1)) from List.pairwise_lt_range)
  have u1 : Ris ((liveOf M ow).map (·.1)) := rs.1
  have u2 : ∀ z ∈ (liveOf M ow).map (·.1), z ∈ List.range (M + 1) := rs.2
  have hav : ∀ k, k < vs.size → k ∈ (liveOf M ow).map (·.2) := fun k hk => by
    obtain ⟨j, b1, b2⟩ := W.all k (by simpa using hk)
    exact List.mem_map.mpr ⟨(j, k), (mem_live W.sz).2 ⟨b1, b2⟩, rfl⟩
  have nd : ((liveOf M ow).map (·.1)).Nodup := List.Pairwise.imp (R := (· < ·)) (fun {a b} (h : a < b) => Nat.ne_of_lt h) u1
  have cnt : (liveOf M ow).length = vs.size := by
    obtain ⟨ps, p1, p2⟩ := W.ps
    have h1 := nat_nodup_len _ ps nd fun z hz => by
      obtain ⟨⟨y, k⟩, hq, rfl⟩ := List.mem_map.mp hz
      obtain ⟨b1, b2⟩ := (mem_live W.sz).1 hq
      exact p2 y b1 (by rw [b2]; exact fun z => nomatch z)
    have h2 := nat_nodup_len (List.range vs.size) ((liveOf M ow).map (·.2)) List.nodup_range fun k hk => hav k (List.mem_range.mp hk)
    simp only [List.length_map, List.length_range, Array.length_toList] at h1 h2 p1
    omega
  refine ⟨tabOf t M ow, ((liveOf M ow).map (·.2)).toArray, by rw [relaid_eq, hw, e]; rfl, perm_range _ _ (by simpa using cnt) hav, ⟨u1, rfl, by show ((liveOf M ow).map (·.1)).toArray.size = _; simp, hM, fun z hz => Nat.le_of_lt_succ (List.mem_range.mp (u2 z hz)), fun i u j h1 h2 => ?_⟩, rfl, rfl, rfl⟩
  have g1 : (((liveOf M ow).map (·.2)).map fun i => vs.getD i 0)[i]? = some u := h1
  have g2 : ((liveOf M ow).map (·.1))[i]? = some j := h2
  simp only [List.getElem?_map, Option.map_map] at g1 g2
  obtain ⟨⟨y, k⟩, q1, q2⟩ := Option.map_eq_some_iff.mp g2
  rw [q1] at g1
  obtain rfl : y = j := q2
  obtain rfl : vs.getD k 0 = u := Option.some.inj g1
  obtain ⟨b1, b2⟩ := (mem_live W.sz).1 (List.mem_of_getElem? q1)
  obtain ⟨u0, n, a1, a2, a3⟩ := W.at_ y k b1 b2
  obtain rfl : vs.getD k 0 = u0 := by rw [Array.getD_eq_getD_getElem?, ← Array.getElem?_toList, a1]; rfl
  refine ⟨n, a2, fun n' hn => ?_⟩
  show way M (vs.getD k 0) n' ∈ (liveOf M ow).map (·.1)
  obtain ⟨z, hz⟩ := Option.ne_none_iff_exists'.mp (a3 n' hn)
  exact List.mem_map.mpr ⟨(_, z), (mem_live W.sz).2 ⟨way_top _ _ _, hz⟩, rfl⟩
/-- where it grows, and how far -/
theorem grow_at {m n : Nat} (h : Mk6 m) (h1 : n * 5 < m * 3) (h2 : m * 3 ≤ (n + 1) * 5) (h3 : n ≤ 4000) : ∃ M, Mk6 M ∧ SetTable.sizeAbove (SetTable.grown (n + 1)) - 1 = M ∧ SetTable.sizeAbove (SetTable.grown (n + 1)) ≤ 8192 ∧ (n + 1) * 5 < M * 3 ∧ n + 1 ≤ m := by
  rcases h with rfl | rfl | rfl | rfl | rfl | rfl
  · obtain rfl : n = 4 := by omega
    exact ⟨31, .inr (.inl rfl), by decide +kernel, by decide +kernel, by decide, by decide⟩
  · obtain rfl : n = 18 := by omega
    exact ⟨127, .inr (.inr (.inl rfl)), by decide +kernel, by decide +kernel, by decide, by decide⟩
  · obtain rfl : n = 76 := by omega
    exact ⟨511, .inr (.inr (.inr (.inl rfl))), by decide +kernel, by decide +kernel, by decide, by decide⟩
  · obtain rfl : n = 306 := by omega
    exact ⟨2047, .inr (.inr (.inr (.inr (.inl rfl)))), by decide +kernel, by decide +kernel, by decide, by decide⟩
  · obtain rfl : n = 1228 := by omega
    exact ⟨8191, .inr (.inr (.inr (.inr (.inr rfl)))), by decide +kernel, by decide +kernel, by decide, by decide⟩
  · omega
end CG

/-! Part 111: sets of tuples of ints, up to 4,000 of them: the set itself. -/
namespace CG
open PySem PySem.Spec PyProof.Rows L2
/-- the set at a holds the rows L -/
structure SetW (P : Program) (w : World) (h : Heap) (a : Addr) (L : List (Addr × List Int)) (es : Array (Int × Value)) (ep : Nat) (t : SetTable) : Prop where
  obj : ∃ o, h.get? a = some o ∧ o.ExactSet ∧ o.data = .set es ep t
  its : es.toList = rowsOf P w L
  tbl : Tab t (L.map fun p => thash P w p.2)
  dis : (L.map (·.2)).Nodup
  all : ∀ p ∈ L, IsT P w h p.2 p.1
  pln : t.plain = true
  ord : w.params.followText "set-order" = true ∨ t.led = true
  gap : L.length * 5 < t.mask * 3
section
variable {P : Program} {w : World} {A : Around} {E : Value → Shared → Prop} {s : Shared} {a : Addr} {L : List (Addr × List Int)} {es : Array (Int × Value)} {ep : Nat} {t : SetTable}
theorem rows_size {L : List (Addr × List Int)} {es : Array (Int × Value)} (h : es.toList = rowsOf P w L) : es.size = L.length := by
  rw [← Array.length_toList, h]
  exact List.length_map _
theorem fits_of {n : Nat} (h1 : t.place.size = n) (h2 : t.dummies = #[]) (h3 : n ≤ t.mask) : t.fits n = true := by
  unfold SetTable.fits SetTable.fill
  rw [h2, h1]
  simpa using h3
theorem SetW.fit (R : SetW P w s.heap a L es ep t) : t.fits es.size = true := by
  have g := R.gap
  have q := rows_size R.its
  exact fits_of (R.tbl.len.trans ((List.length_map _).trans q.symm)) R.tbl.nod (by omega)
theorem SetW.at (R : SetW P w s.heap a L es ep t) {i : Nat} {p : Addr × List Int} (h : L[i]? = some p) : es[i]? = some (thash P w p.2, Value.ref p.1) := by
  rw [← Array.getElem?_toList, R.its]
  exact (List.getElem?_map ..).trans (by rw [h]; rfl)
theorem SetW.stays (R : SetW P w s.heap a L es ep t) : t.gaveWay = false := by
  unfold SetTable.gaveWay
  rcases R.tbl.six with e | e | e | e | e | e <;> rw [e] <;> rfl
theorem noDummy (m : Nat) : ∀ (n : Nat) (p : SetTable.Probe), p.dummy = none → (nth m p n).dummy = none
  | 0, _, h => h
  | n + 1, p, h => noDummy m n (adv m p) (by unfold adv; split <;> exact h)
/-- the n-th step of the way of a hash -/
abbrev stp (m : Nat) (v : Int) (n : Nat) : SetTable.Probe := nth m (runAt m (SetTable.bits v % (m + 1)) (SetTable.bits v)) n
theorem seek (R : SetW P w s.heap a L es ep t) {x : Addr} {k : List Int} {v : Int} (ev : v = thash P w k) (hx : IsT P w s.heap k x) (hu : A.units < cLine) {N : Nat} (top : N < 10 * SetTable.turns t.mask)
    (hN : way t.mask v N ∉ t.place.toList) (hb : ∀ c, c < N → way t.mask v c ∈ t.place.toList) {Q : SetFound → Shared → Prop}
    (yes : k ∈ L.map (·.2) → Q (.there none) s) (no : k ∉ L.map (·.2) → Q (.free (way t.mask v N) false) s) :
    ∀ (f c : Nat) (sd : Option SetTable.Probe), sd.getD (t.probeStart v) = stp t.mask v c → c ≤ N → N - c < f →
      (∀ (i : Nat) p, L[i]? = some p → p.2 = k → ∃ c', c ≤ c' ∧ c' < N ∧ t.place.toList[i]? = some (way t.mask v c')) →
      wpAny (model P w) A (setSearchFrom a (.ref x) v true f sd) Q E s
  | 0, _, _, _, _, z, _ => absurd z (Nat.not_lt_zero _)
  | f + 1, c, sd, hsd, hc, hf, still => by
    obtain ⟨o, o1, o2, o3⟩ := R.obj
    have st : ∀ q, nth t.mask (stp t.mask v c) q = stp t.mask v (c + q) := fun q => (nth_add t.mask c _ q).symm
    have sj : ∀ q, (nth t.mask (stp t.mask v c) q).j = way t.mask v (c + q) := fun q => congrArg SetTable.Probe.j (st q)
    have hs : ∀ (i : Nat) p, L[i]? = some p → (es[i]?.map (·.1)).getD 0 = thash P w p.2 := fun i p h => by rw [R.at h]; rfl
    have out := go_spec t R.tbl.up R.tbl.nod (fun i => (es[i]?.map (·.1)).getD 0) v (10 * SetTable.turns t.mask) (N - c) (stp t.mask v c) (noDummy _ _ _ rfl) (by omega)
      (fun q hq => by rw [sj]; exact hb _ (by omega)) (by rw [sj, show c + (N - c) = N by omega]; exact hN)
    rw [setSearchFrom_succ]
    refine wpAny_bind (wpAny_setState_of o1 o3 R.fit ?_)
    dsimp only
    refine wp_if_neg (by rw [R.stays]; decide) ?_
    try refine wpAny_bind (wpAny_pure ?_)
    rcases out with ⟨q, i, q1, q2, q3, q4, q5⟩ | ⟨q4, q5⟩
    · rw [st, st] at q5
      rw [sj] at q2
      have q6 : t.probe (fun i => (es[i]?.map (·.1)).getD 0) v (sd.getD (t.probeStart v)) = some (.candidate (way t.mask v (c + q)) i (stp t.mask v (c + (q + 1)))) := by
        rw [hsd]
        exact q5
      rw [q6]
      dsimp only
      have hi : i < L.length := by
        have z := (List.getElem?_eq_some_iff.mp q2).1
        rw [Array.length_toList, R.tbl.len, List.length_map] at z
        exact z
      obtain ⟨p, hp⟩ : ∃ p, L[i]? = some p := ⟨_, List.getElem?_eq_getElem hi⟩
      have pin := List.mem_of_getElem? hp
      have live := slot_live R.tbl.up q2
      have rest : wpAny (model P w) A (searchRest a (.ref x) v true f es t (way t.mask v (c + q)) i (stp t.mask v (c + (q + 1)))) Q E s := by
        unfold searchRest
        rw [R.at hp]
        dsimp only
        refine wpAny_bind (wpAny_holding (wpAny_eqBool_tuple hu (R.all p pin) hx ?_))
        refine wpAny_bind (wpAny_setState_of o1 o3 R.fit ?_)
        dsimp only
        by_cases same : p.2 = k
        · refine wp_if_pos (by simp [same]) (wpAny_pure (yes (List.mem_map.mpr ⟨p, pin, same⟩)))
        · refine wp_if_neg (by simp [same]) ?_
          try refine wpAny_bind (wpAny_pure ?_)
          rw [sameMem]
          dsimp only
          simp only [if_true, live, R.at hp]
          refine wpAny_bind (wpAny_isSame_ref_self (wpAny_bind (wpAny_pure ?_)))
          simp only [if_true]
          refine wp_if_neg (by simp [same]) ?_
          refine seek R ev hx hu top hN hb yes no f (c + (q + 1)) _ rfl (by omega) (by omega) fun i0 p0 z1 z2 => ?_
          obtain ⟨c', b1, b2, b3⟩ := still i0 p0 z1 z2
          refine ⟨c', Classical.byContradiction fun lt => ?_, b2, b3⟩
          by_cases ec : c' = c + q
          · rw [ec] at b3
            have z3 := slot_live R.tbl.up b3
            rw [live] at z3
            cases z3
            rw [hp] at z1
            cases z1
            exact same z2
          · refine q4 (c' - c) i0 (by omega) (by rw [sj, show c + (c' - c) = c' by omega]; exact b3) ?_
            rw [hs i0 p0 z1, z2, ev]
      by_cases hl : t.led = true
      · refine wp_if_neg (by simp [hl]) ?_
        try refine wpAny_bind (wpAny_pure ?_)
        exact rest
      · refine wp_if_pos (by simp [hl]) (wpAny_bind (seen_tup hx (fun y hy => ?_) ?_))
        · obtain ⟨e, e1, rfl⟩ := List.mem_map.mp hy
          have e2 : e ∈ es.toList := by
            have z : e ∈ es ∧ e.1 = v := by simpa using e1
            simpa using z.1
          rw [R.its] at e2
          obtain ⟨p2, p3, rfl⟩ := List.mem_map.mp e2
          exact ⟨p2.2, p2.1, rfl, R.all p2 p3⟩
        · refine wp_if_neg (by decide) ?_
          try refine wpAny_bind (wpAny_pure ?_)
          exact rest
    · have q6 : t.probe (fun i => (es[i]?.map (·.1)).getD 0) v (sd.getD (t.probeStart v)) = some (.empty (way t.mask v N) none) := by
        rw [sj, show c + (N - c) = N by omega] at q5
        rw [hsd]
        exact q5
      rw [q6]
      dsimp only
      refine wpAny_pure (no fun z => ?_)
      obtain ⟨p0, z1, z2⟩ := List.mem_map.mp z
      obtain ⟨i0, z3⟩ := List.mem_iff_getElem?.mp z1
      obtain ⟨c', b1, b2, b3⟩ := still i0 p0 z3 z2
      refine q4 (c' - c) i0 (by omega) (by rw [sj, show c + (c' - c) = c' by omega]; exact b3) ?_
      rw [hs i0 p0 z3, z2, ev]
theorem seek_all (R : SetW P w s.heap a L es ep t) {x : Addr} {k : List Int} (hx : IsT P w s.heap k x) (hu : A.units < cLine) {Q : SetFound → Shared → Prop}
    (yes : k ∈ L.map (·.2) → Q (.there none) s)
    (no : ∀ N, k ∉ L.map (·.2) → way t.mask (thash P w k) N ∉ t.place.toList → (∀ c, c < N → way t.mask (thash P w k) c ∈ t.place.toList) → Q (.free (way t.mask (thash P w k) N) false) s) :
    wpAny (model P w) A (setSearch a (.ref x) (thash P w k) true) Q E s := by
  have g := R.gap
  have m8 := R.tbl.six.le
  obtain ⟨N, n1, n2, n3⟩ := R.tbl.free (by rw [List.length_map]; omega) (thash P w k)
  have n4 : N < 10 * (t.mask + 15) := n1
  unfold setSearch
  refine seek R rfl hx hu n1 n2 n3 yes (fun z => no N z n2 n3) 100000 0 none rfl (Nat.zero_le _) (by omega) fun i p h e => ?_
  have h1 : (L.map fun p => thash P w p.2)[i]? = some (thash P w k) := by rw [List.getElem?_map, h, ← e]; rfl
  have h2 : i < t.place.toList.length := by
    rw [Array.length_toList, R.tbl.len]
    exact (List.getElem?_eq_some_iff.mp h1).1
  obtain ⟨c, c1, c2⟩ := R.tbl.ahead n2 h1 (List.getElem?_eq_getElem h2)
  exact ⟨c, Nat.zero_le _, c1, by rw [List.getElem?_eq_getElem h2, c2]⟩
/-- a larger table -/
theorem relayed {o : Obj} (o1 : s.heap.get? a = some o) (o2 : o.ExactSet) (o3 : o.data = .set es ep t) (its : es.toList = rowsOf P w L) (len : t.place.size = es.size) (nod : t.dummies = #[]) (low : es.size ≤ t.mask)
    (dis : (L.map (·.2)).Nodup) (all : ∀ p ∈ L, IsT P w s.heap p.2 p.1) (pln : t.plain = true) (ord : w.params.followText "set-order" = true ∨ t.led = true) {want M : Nat}
    (hw : SetTable.sizeAbove want - 1 = M) (hM : Mk6 M) (hw2 : SetTable.sizeAbove want ≤ 8192) (gap : L.length * 5 < M * 3) {Q : Unit → Shared → Prop}
    (hQ : ∀ h' L' es' ep' t', Heap.SameBut a s.heap h' → SetW P w h' a L' es' ep' t' → L'.Perm L → Q () { s with heap := h' }) : wpAny (model P w) A (setRelay a want) Q E s := by
  have z := rows_size its
  obtain ⟨t', od, e, od1, T, em, el, epl⟩ := lay_anew t (vs := es.map (·.1)) (want := want) hw hM (by rw [Array.size_map, z]; omega)
  rw [Array.size_map, z] at od1
  obtain ⟨L2, r1, r2, r3⟩ := order_rows L es od its od1
  rw [← r3] at T
  have z2 : (od.filterMap (es[·]?)).size = es.size := (rows_size r1).trans (r2.length_eq.trans z.symm)
  rw [setRelay_eq]
  refine wpAny_bind (wpAny_setState_of o1 o3 (fits_of len nod low) ?_)
  dsimp only
  refine wp_if_neg (by rw [sizeLine_eq]; omega) ?_
  try refine wpAny_bind (wpAny_pure ?_)
  rw [e]
  dsimp only
  refine wpAny_bind (wp_if_neg (by rw [z2]; simp) ?_)
  try refine wpAny_bind (wpAny_pure ?_)
  refine wpAny_pure ?_
  dsimp only
  refine wpAny_storeSet_of o1 o3 ?_ (by rw [z2, z, sizeLine_eq]; have := hM.le; omega)
  have sb : Heap.SameBut a s.heap (s.heap.update a (Obj.putSet (od.filterMap (es[·]?)) t')) := Heap.SameBut.update ..
  exact hQ _ L2 _ (ep + 1) t' sb ⟨⟨_, store_at o1 o3, ⟨o2.1, o2.2.1, o2.2.2⟩, rfl⟩, r1, T, (r2.map (·.2)).nodup_iff.mpr dis, fun p hp => isT_same (all p (r2.mem_iff.mp hp)) o1 o3 sb, epl.trans pln, by rw [el]; exact ord, by rw [r2.length_eq, em]; exact gap⟩ r2
/-- s.add(x) -/
theorem added (R : SetW P w s.heap a L es ep t) {x : Addr} {k : List Int} (hx : IsT P w s.heap k x) (hu : A.units < cLine) (hl : L.length ≤ 4000) {Q : Bool → Shared → Prop}
    (hQ : ∀ b h' L' es' ep' t', Heap.SameBut a s.heap h' → SetW P w h' a L' es' ep' t' → (k ∈ L.map (·.2) → L' = L) → (k ∉ L.map (·.2) → L'.Perm ((x, k) :: L)) → Q b { s with heap := h' }) :
    wpAny (model P w) A (setAddHashed a (.ref x) (thash P w k)) Q E s := by
  obtain ⟨o, o1, o2, o3⟩ := R.obj
  have z := rows_size R.its
  have g := R.gap
  unfold setAddHashed
  refine wpAny_holding ?_
  rw [show (100000 : Nat) = 99999 + 1 from rfl, setAddHashedIn_succ]
  refine wpAny_bind (wpAny_setState_of o1 o3 R.fit ?_)
  dsimp only
  refine wp_if_neg (by simp [byScan, Value.scannable]) ?_
  try refine wpAny_bind (wpAny_pure ?_)
  refine wpAny_bind (seek_all R hx hu (fun hm => ?_) fun N hm n1 n2 => ?_)
  · dsimp only
    exact wpAny_pure (hQ false s.heap L es ep t (Heap.SameBut.refl a s.heap) R (fun _ => rfl) fun q => absurd hm q)
  dsimp only
  refine wpAny_bind (wpAny_setState_of o1 o3 R.fit ?_)
  dsimp only
  obtain ⟨j, ej⟩ : ∃ j, way t.mask (thash P w k) N = j := ⟨_, rfl⟩
  obtain ⟨p, ep2⟩ : ∃ p, SetTable.below t.place j = p := ⟨_, rfl⟩
  rw [ej] at n1 ⊢
  obtain ⟨u1, u2, u3⟩ := R.tbl.put ej ep2 n1 n2
  have v1 : (t.put j).2 = p := ep2
  have v2 : (t.put j).1.mask = t.mask := rfl
  have v3 : (t.put j).1.plain = true := R.pln
  have v4 : w.params.followText "set-order" = true ∨ (t.put j).1.led = true := R.ord
  generalize t.put j = tp at u2 u3 v1 v2 v3 v4 ⊢
  obtain ⟨t1, p1⟩ := tp
  dsimp only at u2 u3 v1 v2 v3 v4 ⊢
  subst v1
  first
    | (refine wpAny_bind ?_; refine wp_if_pos v3 ?_; refine hashBy_tup hx ?_)
    | refine wp_if_pos v3 (wpAny_bind (hashBy_tup hx ?_))
  simp only [if_true]
  have w1 : (SetTable.insertAt es p1 (thash P w k, Value.ref x)).toList = rowsOf P w (L.take p1 ++ (x, k) :: L.drop p1) := by
    rw [SetTable.toList_insertAt, rows_put, R.its]
  have pm := put_perm L p1 (x, k)
  have u4 : (L.take p1 ++ (x, k) :: L.drop p1).map (fun p => thash P w p.2) = (L.map fun p => thash P w p.2).take p1 ++ thash P w k :: (L.map fun p => thash P w p.2).drop p1 := by
    simp only [List.map_append, List.map_cons, List.map_take, List.map_drop]
  rw [← u4] at u2
  have w2 := (rows_size w1).trans pm.length_eq
  generalize SetTable.insertAt es p1 (thash P w k, Value.ref x) = e1 at w1 w2 ⊢
  generalize L.take p1 ++ (x, k) :: L.drop p1 = L1 at pm u2 w1
  have l1 : L1.length = L.length + 1 := pm.length_eq
  have w3 : e1.size = L.length + 1 := w2
  have dis : (L1.map (·.2)).Nodup := (pm.map (·.2)).nodup_iff.mpr (List.nodup_cons.mpr ⟨hm, R.dis⟩)
  refine wpAny_bind (wpAny_storeSet_of o1 o3 ?_ (by rw [w3, sizeLine_eq]; omega))
  have sb : Heap.SameBut a s.heap (s.heap.update a (Obj.putSet e1 t1)) := Heap.SameBut.update ..
  have o4 := store_at (es' := e1) (t' := t1) o1 o3
  generalize s.heap.update a (Obj.putSet e1 t1) = h1 at sb o4 ⊢
  have al : ∀ p ∈ L1, IsT P w h1 p.2 p.1 := fun q hq => by
    rcases List.mem_cons.mp (pm.mem_iff.mp hq) with rfl | z9
    · exact isT_same hx o1 o3 sb
    · exact isT_same (R.all q z9) o1 o3 sb
  rw [List.length_map] at u3
  by_cases hf : t1.tooFull = true
  · have full : t1.mask * 3 ≤ (L.length + 1) * 5 := by
      have q := of_decide_eq_true hf
      rw [u3] at q
      exact q
    rw [v2] at full
    obtain ⟨M, m1, m2, m3, m4, m5⟩ := grow_at R.tbl.six g full hl
    first
      | (refine wpAny_bind ?_; refine wp_if_pos (by simp [hf]) ?_)
      | (refine wp_if_pos (by simp [hf]) ?_; refine wpAny_bind ?_)
    rw [z]
    refine relayed (s := { s with heap := h1 }) o4 ⟨o2.1, o2.2.1, o2.2.2⟩ rfl w1 (u2.len.trans ((List.length_map _).trans (l1.trans w3.symm))) u2.nod (by rw [w3, v2]; exact m5) dis al v3 v4 m2 m1 m3 (by rw [l1]; exact m4) fun h2 L2 es2 ep2 t2 sb2 R2 pm2 => ?_
    exact wpAny_pure (hQ true h2 L2 es2 ep2 t2 (sb.trans sb2) R2 (fun q => absurd q hm) fun _ => pm2.trans pm)
  · first
      | refine wp_if_neg (by simp [hf]) ?_
      | (refine wpAny_bind ?_; refine wp_if_neg (by simp [hf]) ?_; refine wpAny_pure ?_)
    refine wpAny_pure (hQ true h1 L1 e1 (ep + 1) t1 sb ⟨⟨_, o4, ⟨o2.1, o2.2.1, o2.2.2⟩, rfl⟩, w1, u2, dis, al, v3, v4, ?_⟩ (fun q => absurd q hm) fun _ => pm)
    have q := hf
    unfold SetTable.tooFull at q
    rw [decide_eq_true_eq, u3] at q
    omega
end
end CG

/-! Part 112: set(list of tuples), sorted(set). -/
namespace CG
open PySem PySem.Spec PyProof.Rows L2
/-- the rows that the set got from these -/
structure Has2 (ks : List (Addr × List Int)) (i : Nat) (L : List (Addr × List Int)) : Prop where
  sub : ∀ p ∈ L, p ∈ ks.take i
  all : ∀ p ∈ ks.take i, p.2 ∈ L.map (·.2)
  len : L.length ≤ i
theorem Has2.next {ks L L' : List (Addr × List Int)} {i : Nat} {x : Addr × List Int} (g : Has2 ks i L) (h : ks[i]? = some x) (h1 : x.2 ∈ L.map (·.2) → L' = L) (h2 : x.2 ∉ L.map (·.2) → L'.Perm (x :: L)) : Has2 ks (i + 1) L' := by
  have tk : ∀ p, p ∈ ks.take (i + 1) ↔ p ∈ ks.take i ∨ p = x := fun p => by rw [L2.take_next h, List.mem_append, List.mem_singleton]
  by_cases c : x.2 ∈ L.map (·.2)
  · rw [h1 c]
    refine ⟨fun p hp => (tk p).2 (.inl (g.sub p hp)), fun p hp => ?_, Nat.le_succ_of_le g.len⟩
    rcases (tk p).1 hp with q | rfl
    · exact g.all p q
    · exact c
  · have pm := h2 c
    refine ⟨fun p hp => ?_, fun p hp => ?_, ?_⟩
    · rcases List.mem_cons.mp (pm.mem_iff.mp hp) with rfl | q
      · exact (tk _).2 (.inr rfl)
      · exact (tk p).2 (.inl (g.sub p q))
    · refine (pm.map (·.2)).mem_iff.mpr ?_
      rcases (tk p).1 hp with q | rfl
      · exact List.mem_cons_of_mem _ (g.all p q)
      · exact List.mem_cons_self
    · have := g.len
      rw [pm.length_eq]
      show L.length + 1 ≤ i + 1
      omega
def emptySet (w : World) : Obj := { cls := .type "set", dict := none, data := .set #[] 0 (.fresh 0 0 (!w.params.followText "set-order")) }
theorem setW_new {P : Program} {w : World} {h : Heap} {a : Addr} (ho : h.get? a = some (emptySet w)) : SetW P w h a [] #[] 0 (.fresh 0 0 (!w.params.followText "set-order")) where
  obj := ⟨_, ho, ⟨rfl, rfl, rfl⟩, rfl⟩
  its := rfl
  tbl := ⟨.nil, rfl, rfl, .inl rfl, (fun _ h => nomatch h), fun _ _ _ h => by simp at h⟩
  dis := .nil
  all := fun _ h => nomatch h
  pln := rfl
  ord := by
    show _ ∨ (!w.params.followText "set-order") = true
    cases w.params.followText "set-order"
    · exact .inr rfl
    · exact .inl rfl
  gap := by show 0 * 5 < 7 * 3; decide
section
variable {P : Program} {w : World} {A : Around} {E : Value → Shared → Prop} {s : Shared}
theorem SetW.kept {h h' : Heap} {a : Addr} {L : List (Addr × List Int)} {es : Array (Int × Value)} {ep : Nat} {t : SetTable} (R : SetW P w h a L es ep t) (h1 : ∀ o, h.get? a = some o → h'.get? a = some o) (h2 : ∀ p ∈ L, IsT P w h' p.2 p.1) : SetW P w h' a L es ep t := by
  obtain ⟨o, q, r⟩ := R.obj
  exact ⟨⟨o, h1 o q, r⟩, R.its, R.tbl, R.dis, h2, R.pln, R.ord, R.gap⟩
/-- the loop of set(xs) -/
theorem upd_loop {I : Addr} {fp wr : List Addr} {G : Array GenState → Array GenState → Prop} {n : Nat} {Pv : Nat → Value → Prop} {St : Nat → Shared → Prop} {R : Result → Shared → Prop}
    (W : WalksS P w A.in1 I fp wr G n Pv St) (S : Addr) (nS : S ∉ fp) (ks : List (Addr × List Int)) (hn : n = ks.length) (few : ks.length ≤ 4000) (hv : ∀ i v, Pv i v → ∃ p, ks[i]? = some p ∧ v = .ref p.1)
    (h0 : Heap) (hk : ∀ p ∈ ks, IsT P w h0 p.2 p.1) (S0 : h0.get? S = none) (w0 : ∀ b ∈ wr, h0.get? b = none) (hu : A.in1.units < cLine) :
    ∀ (k i : Nat) (s : Shared), n - i = k → i ≤ n → St i s → (∀ b o, h0.get? b = some o → s.heap.get? b = some o) → (∃ L es ep t, SetW P w s.heap S L es ep t ∧ Has2 ks i L) →
      (∀ s' L es ep t, Moved (S :: wr) G s s' → SetW P w s'.heap S L es ep t → Has2 ks n L → (∀ b o, h0.get? b = some o → s'.heap.get? b = some o) → R (.ok (.ret .none)) s') →
      codeAny (model P w) A (.builtin "set.update.loop" ⟨[.ref S, .ref I], []⟩) R s := by
  have nw : S ∉ wr := fun z => nS (W.sub _ z)
  have kpt : ∀ {s1 s2 : Shared}, Moved wr G s1 s2 → (∀ b o, h0.get? b = some o → s1.heap.get? b = some o) → ∀ b o, h0.get? b = some o → s2.heap.get? b = some o := fun hm q b o e =>
    hm.heap b o (fun z => by rw [w0 b z] at e; cases e) (q b o e)
  intro k
  induction k with
  | zero =>
    intro i s1 c1 c2 st q ⟨L, es, ep, t, R1, g⟩ fin
    have ei : i = n := by omega
    rw [ei] at g st
    refine codeAny_builtin F.entry_set_update_loop ?_
    rw [Around.under_plainId F.plain_set_update_loop _]
    show wpAny _ A.in1 (pyNext (.ref I) >>= _) _ _ s1
    refine wpAny_bind (W.done s1 _ _ st fun s2 hm => ?_)
    have q2 := kpt hm q
    have sub : ∀ p ∈ L, p ∈ ks := fun p hp => List.mem_of_mem_take (g.sub p hp)
    show wpAny _ A.in1 (ret Value.none) _ _ s2
    exact wpAny_pure (fin s2 L es ep t (hm.mono fun b hb => List.mem_cons_of_mem _ hb) (R1.kept (fun o e => hm.heap S o nw e) fun p hp => isT_keep (hk p (sub p hp)) q2) g q2)
  | succ k ih =>
    intro i s1 c1 c2 st q ⟨L, es, ep, t, R1, g⟩ fin
    have li : i < n := by omega
    refine codeAny_builtin F.entry_set_update_loop ?_
    rw [Around.under_plainId F.plain_set_update_loop _]
    show wpAny _ A.in1 (pyNext (.ref I) >>= _) _ _ s1
    refine wpAny_bind (W.item i s1 _ _ li st fun v s2 pv st2 hm => ?_)
    obtain ⟨p, p1, rfl⟩ := hv i v pv
    have q2 := kpt hm q
    have sub : ∀ p ∈ L, p ∈ ks := fun p hp => List.mem_of_mem_take (g.sub p hp)
    have R2 : SetW P w s2.heap S L es ep t := R1.kept (fun o e => hm.heap S o nw e) fun z hz => isT_keep (hk z (sub z hz)) q2
    have hx : IsT P w s2.heap p.2 p.1 := isT_keep (hk p (List.mem_of_getElem? p1)) q2
    have gl := g.len
    show wpAny _ A.in1 (holding [Value.ref p.1] (setAdd S (.ref p.1)) >>= _) _ _ s2
    refine wpAny_bind (wpAny_holding ?_)
    unfold setAdd
    refine wpAny_holding (wpAny_bind (wpAny_pyHash_tuple hu hx ?_))
    refine added (s := { s2 with toks := s2.toks + (p.2.length + 1) }) R2 hx hu (by omega) fun b h3 L3 es3 ep3 t3 sb R3 d1 d2 => ?_
    have q3 : ∀ b o, h0.get? b = some o → h3.get? b = some o := fun b o e => (sb.2 b (fun z => by rw [z, S0] at e; cases e)).trans (q2 b o e)
    refine wpAny_pure ⟨plainId_quiet F.plain_set_update_loop _, ih (i + 1) _ (by omega) li (W.frame _ s2 _ _ st2 (Nat.le_add_right _ _) fun c hc o e => ?_) q3 ⟨L3, es3, ep3, t3, R3, g.next p1 d1 d2⟩ fun s4 L4 es4 ep4 t4 m4 R4 g4 q4 => ?_⟩
    · rw [sb.2 c fun z : c = S => nS (z ▸ hc)]
      exact e
    · refine fin s4 L4 es4 ep4 t4 (Moved.trans W.gtrans ((hm.mono fun b hb => List.mem_cons_of_mem _ hb).then_heap (Nat.le_add_right _ _) fun c o hc e => ?_) m4) R4 g4 q4
      rw [sb.2 c fun z : c = S => hc (z ▸ List.mem_cons_self)]
      exact e
set_option maxHeartbeats 8000000 in
/-- set(xs) -/
theorem set_of_rows {l : Addr} {its : Array Value} (ks : List (Addr × List Int)) {Q : Value → Shared → Prop} (hh : A.handled = none) (hl : s.heap.IsList l its) (hi : its.toList = ks.map fun p => Value.ref p.1)
    (hk : ∀ p ∈ ks, IsT P w s.heap p.2 p.1) (few : ks.length ≤ 4000) (hu : A.units + 3 < cLine)
    (fin : ∀ (h' : Heap) (tk : Nat) L es ep t, SetW P w h' s.heap.objs.size L es ep t → Has2 ks ks.length L → (∀ b o, s.heap.get? b = some o → h'.get? b = some o) → Q (.ref s.heap.objs.size) { s with heap := h', toks := tk }) :
    wpAny (model P w) A (call (.type "set") [.ref l]) Q E s := by
  have sz : its.size = ks.length := (Array.length_toList (xs := its)).symm.trans ((congrArg List.length hi).trans (List.length_map _))
  obtain ⟨c, tl, hmro⟩ := F.called_set.mro
  have hmade := F.called_set.made; have hsub := F.called_set.sub
  refine wpAny_call (codeAny_of_tree ?_)
  show wpAny _ _ (callAny (.type "set") _) _ _ _
  refine wpAny_pure ⟨Code.quiet_builtin _ (by decide +kernel), codeAny_builtin F.entry_type_call ?_⟩
  rw [Around.under_plain (weight_type_call_type "set" [.ref l] []) rfl]
  have h1 := F.called_set.notType; have h2 := F.called_set.canCreate; have hct := F.typeCall_set_1 (.ref l)
  repeat (any_goals (first | assumption | wp_step))
  refine codeAny_mono (code_set_led1 (.ref l) (E := E) (Q₁ := fun obj s₁ => obj = .ref s.heap.objs.size ∧ s₁ = { s with heap := s.heap.push (emptySet w) }) ⟨rfl, rfl⟩) fun r s₁ hr => ?_
  cases r with
  | error e => exact hr
  | ok fl =>
    cases fl with
    | ret obj =>
      obtain ⟨rfl, rfl⟩ := hr
      have hS : (s.heap.push (emptySet w)).get? s.heap.objs.size = some (emptySet w) := Heap.get?_push_size _ rfl
      have hT : Shared.TypeIs { s with heap := s.heap.push (emptySet w) } (.ref s.heap.objs.size) "set" := ⟨_, hS, rfl⟩
      have hli := F.called_set.init.lookup; have hbi := F.called_set.init.bind (.ref s.heap.objs.size)
      repeat (any_goals (first | assumption | wp_step))
      refine codeAny_mono (codeAny_call_builtin (R := wants (fun r s₂ => r = .none ∧ ∃ h' tk L es ep t, s₂ = { s with heap := h', toks := tk } ∧ SetW P w h' s.heap.objs.size L es ep t ∧ Has2 ks ks.length L ∧
          (∀ b o, s.heap.get? b = some o → h'.get? b = some o)) E) F.called_set.init.plain F.entry_set_init (check_set_init_1 hT ?_)) fun r₂ s₂ hr₂ => ?_
      · obtain ⟨⟨ocl, odi, oda, osl⟩, g1, g2, gn, g3⟩ := hl
        obtain rfl : ocl = .type "list" := g2
        obtain rfl : oda = .seq its gn := g3
        have k1 : ∀ b o, s.heap.get? b = some o → (s.heap.push (emptySet w)).get? b = some o := fun b o e => Heap.get?_push_of_some _ e
        have hol' := k1 _ _ g1
        have hl1 : (s.heap.push (emptySet w)).IsList l its := ⟨_, hol', rfl, gn, rfl⟩
        have hsls := F.sub_list_set; have hslf := F.sub_list_frozenset
        have hne : (Value.type "list" == Value.type "dict") = false := by decide
        unfold Builtin.«set.__init__» noKeywords Builtin.Frozenset.updateFrom
        generalize hPI : pyIter = PI
        wp_walk
        subst hPI
        refine wpAny_pyIter_list hl1 (wpAny_bind (wpAny_runValue ?_))
        have lS : l < s.heap.objs.size := Heap.lt_size g1
        have zz : (s.heap.push (emptySet w)).objs.size = s.heap.objs.size + 1 := Heap.size_push ..
        have gone : ∀ b, s.heap.objs.size ≤ b → s.heap.get? b = none := fun b hb => by
          cases q : s.heap.get? b with
          | none => rfl
          | some o => exact (Nat.lt_irrefl _ (Nat.lt_of_lt_of_le (Heap.lt_size q) hb)).elim
        refine upd_loop ((Walks.list (show A.in1.in1.in1.handled = none by simp [hh]) _ l (by rw [zz]; exact Nat.ne_of_lt (Nat.lt_succ_of_lt lS)) its).toS) s.heap.objs.size (by rw [zz]; simp only [List.mem_cons, List.not_mem_nil, or_false, not_or]; exact ⟨Nat.ne_of_lt (Nat.lt_succ_self _), Nat.ne_of_gt lS⟩) ks sz few (fun i v hv => ?_) s.heap hk (gone _ (Nat.le_refl _))
          (fun b hb => gone b (by rw [List.mem_singleton.mp hb, zz]; omega)) hu (its.size - 0) 0 _ (by omega) (Nat.zero_le _) ⟨⟨_, Heap.get?_push_size _ rfl, rfl, rfl⟩, (hl1.push _)⟩ (fun b o e => Heap.get?_push_of_some _ (k1 b o e))
          ⟨[], #[], 0, _, setW_new (Heap.get?_push_of_some _ hS), ⟨(fun _ h => nomatch h), (fun _ h => by simp at h), Nat.le_refl _⟩⟩ ?fin
        · have q : its.toList[i]? = some v := Array.getElem?_toList.trans hv
          rw [hi, List.getElem?_map] at q
          obtain ⟨p, e1, e2⟩ := Option.map_eq_some_iff.mp q
          exact ⟨p, e1, e2.symm⟩
        case fin =>
          rintro ⟨h', g', d', tk', os'⟩ L es ep t hm R4 g4 kp
          obtain rfl : g' = s.gens := hm.gens
          obtain rfl : d' = s.drawn := hm.drawn
          obtain rfl : os' = s.os := hm.os
          refine wpAny_pure ?_
          show wpAny _ _ (ret Value.none) _ _ _
          rw [sz] at g4
          exact wpAny_pure ⟨rfl, h', tk', L, es, ep, t, rfl, R4, g4, kp⟩
      · cases r₂ with
        | error e => exact hr₂
        | ok fl₂ =>
          cases fl₂ with
          | ret r =>
            obtain ⟨rfl, h', tk, L, es, ep, t, rfl, R4, g4, kp⟩ := hr₂
            repeat (any_goals (first | assumption | wp_step))
            exact fin _ _ _ _ _ _ R4 g4 kp
          | _ => exact hr₂.elim
    | _ => exact hr.elim
end
end CG

/-! Part 113: sorted(set(rows)) over data. -/
namespace CG
open PySem PySem.Spec PyProof.Rows L2
theorem perm_map_inv {α β : Type} {f : α → β} {x y : List β} (h : x.Perm y) : ∀ L : List α, y = L.map f → ∃ L1 : List α, x = L1.map f ∧ L1.Perm L := by
  induction h with
  | nil =>
    intro L e
    obtain rfl : L = [] := List.map_eq_nil_iff.mp e.symm
    exact ⟨[], rfl, .refl _⟩
  | cons z _ ih =>
    intro L e
    obtain ⟨b, L0, rfl, rfl, e3⟩ := List.map_eq_cons_iff.mp e.symm
    obtain ⟨L1, rfl, p⟩ := ih L0 e3.symm
    exact ⟨b :: L1, rfl, p.cons b⟩
  | swap u v l =>
    intro L e
    obtain ⟨b, L0, rfl, rfl, e3⟩ := List.map_eq_cons_iff.mp e.symm
    obtain ⟨c, L2, rfl, rfl, rfl⟩ := List.map_eq_cons_iff.mp e3
    exact ⟨c :: b :: L2, rfl, .swap b c L2⟩
  | trans _ _ i1 i2 =>
    intro L e
    obtain ⟨L1, e1, p1⟩ := i2 L e
    obtain ⟨L2, e2, p2⟩ := i1 L1 e1
    exact ⟨L2, e2, p2.trans p1⟩
/-- each row once -/
def nubR : List (List Int) → List (List Int)
  | [] => []
  | r :: rs => if r ∈ nubR rs then nubR rs else r :: nubR rs
theorem mem_nubR {x : List Int} : ∀ {rs : List (List Int)}, x ∈ nubR rs ↔ x ∈ rs
  | [] => Iff.rfl
  | r :: rs => by
    have ih := mem_nubR (x := x) (rs := rs)
    unfold nubR
    split
    · rename_i c
      rw [ih, List.mem_cons]
      exact ⟨.inr, fun h => h.elim (fun e => e ▸ mem_nubR.mp c) id⟩
    · rw [List.mem_cons, List.mem_cons, ih]
theorem nubR_nodup : ∀ rs : List (List Int), (nubR rs).Nodup
  | [] => .nil
  | r :: rs => by
    unfold nubR
    split
    · exact nubR_nodup rs
    · rename_i c
      exact List.nodup_cons.mpr ⟨c, nubR_nodup rs⟩
theorem nubR_le : ∀ rs : List (List Int), (nubR rs).length ≤ rs.length
  | [] => Nat.le_refl _
  | r :: rs => by
    have := nubR_le rs
    unfold nubR
    split
    · exact Nat.le_succ_of_le this
    · exact Nat.succ_le_succ this
/-- the rows in order, each once -/
def ssR (rs : List (List Int)) : List (List Int) := sortR (nubR rs)
theorem mem_ssR {x : List Int} {rs : List (List Int)} : x ∈ ssR rs ↔ x ∈ rs := (sortR_perm _).mem_iff.trans mem_nubR
theorem ssR_le {rs : List (List Int)} : (ssR rs).length ≤ rs.length := by
  rw [show (ssR rs).length = (nubR rs).length from (sortR_perm _).length_eq]
  exact nubR_le rs
section
variable {P : Program} {w : World} {A : Around} {E : Value → Shared → Prop} {s : Shared}
theorem reads_ints {h : Heap} {k : List Int} {us : List Value} (r : ItemsAre (intKind P w) k us) : ReadsAll h us (k.map PyData.int) [] := by
  induction r with
  | nil => exact .nil
  | @cons k0 v ks vs h1 _ ih =>
    obtain ⟨t, rfl⟩ := Value.isInt_shape h1
    exact .cons (.int k0 t) ih
theorem reads_row {h : Heap} {k : List Int} {b : Addr} (x : IsT P w h k b) : Reads h (.ref b) (.tuple (k.map PyData.int)) [] := by
  obtain ⟨o, items, n, h1, h2, h3, h4⟩ := x
  exact .tuple h1 h2 h3 (reads_ints h4)
/-- sorted(a set of rows) -/
theorem sorted_rows {a : Addr} {L : List (Addr × List Int)} {es : Array (Int × Value)} {ep : Nat} {t : SetTable} {Q : Value → Shared → Prop} (R : SetW P w s.heap a L es ep t) (hh : A.handled = none) (few : L.length ≤ 4000) (ne : ∀ p ∈ L, p.2 ≠ []) (hu : A.units + 8 < cLine)
    (hQ : ∀ s' p (out : List Value) (c : Nat) (L' : List (Addr × List Int)), (∀ b o, s.heap.get? b = some o → s'.heap.get? b = some o) → s'.gens = s.gens → s'.os = s.os → s.heap.objs.size ≤ p →
      s'.heap.get? p = some (seqObj "list" out.toArray c) → out = L'.map (fun q => Value.ref q.1) → L'.Perm L → L'.map (·.2) = sortR (L.map (·.2)) → Q (.ref p) s') :
    wpAny (model P w) A (call (.builtin "sorted") [.ref a]) Q E s := by
  obtain ⟨o, o1, o2, o3⟩ := R.obj
  have sz := rows_size R.its
  refine Calls.call_function_entry kind_sorted plain_sorted entry_sorted (args_sorted1 _) ?_
  unfold Builtin.«sorted»
  refine wpAny_bind (m := checkCount "sorted" 1 1 _) (wpAny_pure ?_)
  refine wpAny_bind (collect_set (A := A.in1) hh ⟨o, o1, o2.1, o3⟩ R.fit (by unfold scanBound; omega) R.tbl.up R.ord fun s1 vs k1 z1 g1 os1 pm => ?_)
  rw [show es.toList.map (·.2) = L.map fun q => Value.ref q.1 by rw [R.its]; unfold rowsOf; rw [List.map_map]; rfl] at pm
  obtain ⟨L1, rfl, p1⟩ := perm_map_inv pm L rfl
  have l1 : L1.length ≤ 4000 := by rw [p1.length_eq]; exact few
  refine wpAny_bind (wpAny_newList ?_ (by rw [List.length_map, sizeLine_eq]; omega))
  have hN : (s1.heap.push (seqObj "list" (L1.map fun q => Value.ref q.1).toArray 0)).get? s1.heap.objs.size = some (seqObj "list" (L1.map fun q => Value.ref q.1).toArray 0) := Heap.get?_push_size _ rfl
  have al : ∀ q ∈ L1, IsT P w (s1.heap.push (seqObj "list" (L1.map fun q => Value.ref q.1).toArray 0)) q.2 q.1 := fun q hq => isT_keep (R.all q (p1.mem_iff.mp hq)) fun b u e => Heap.get?_push_of_some _ (k1 b u e)
  have each : ∀ l : List (Addr × List Int), (∀ q ∈ l, q ∈ L1) → PySem.W.EachIs (fun v (q : Addr × List Int) => ∃ as, Reads (s1.heap.push (seqObj "list" (L1.map fun q => Value.ref q.1).toArray 0)) v (.tuple (q.2.map PyData.int)) as ∧ s1.heap.objs.size ∉ as) (l.map fun q => Value.ref q.1) l := by
    intro l
    induction l with
    | nil => exact fun _ => .nil
    | cons q l ih => exact fun h => .cons ⟨[], reads_row (al q (h q List.mem_cons_self)), by simp⟩ (ih fun r hr => h r (List.mem_cons_of_mem _ hr))
  have each0 : ∀ l : List (Addr × List Int), PySem.W.EachIs (fun v (q : Addr × List Int) => v = Value.ref q.1) (l.map fun q => Value.ref q.1) l := by
    intro l
    induction l with
    | nil => exact .nil
    | cons q l ih => exact .cons rfl ih
  refine wpAny_bind (wpAny_holding (PySem.W.list_sort_data (s := { s1 with heap := s1.heap.push (seqObj "list" (L1.map fun q => Value.ref q.1).toArray 0) }) (R := fun v (q : Addr × List Int) => v = Value.ref q.1) (enc := fun q : Addr × List Int => .tuple (q.2.map PyData.int)) (bs := L1) hN (each0 L1) (each L1 fun _ h => h)
    (PySem.W.AllAlike.of fun b b' => by simp [PySem.W.alike, PySem.W.alike_ints]) (.inl fun d hd => ?_) (by rw [sizeLine_eq]; omega) (fun b _ => ?_) fun out h1 h2 => ?_))
  · obtain ⟨b, hb, rfl⟩ := List.mem_map.mp hd
    have hn := ne b (p1.mem_iff.mp hb)
    cases e : b.2 with
    | nil => exact absurd e hn
    | cons x r => exact ⟨.int x, r.map .int, rfl⟩
  · show A.in1.units + 1 + (PyData.depthAll (b.2.map PyData.int) + 1) < cLine
    rw [PySem.W.depth_ints]
    show A.units + 1 + 1 + (0 + 1) < cLine
    omega
  · rw [dataLe_tups (fun b : Addr × List Int => b.2)] at h2
    have eo : ∀ {us : List Value} {l : List (Addr × List Int)}, PySem.W.EachIs (fun v (q : Addr × List Int) => v = Value.ref q.1) us l → us = l.map fun q => Value.ref q.1 := by
      intro us l h
      induction h with
      | nil => rfl
      | cons e _ ih => rw [e, ih]; rfl
    obtain ⟨c, hc⟩ := sortedHeap_at (vs := L1.map fun q => Value.ref q.1) (out := out.toArray) hN
    refine wpAny_pure ⟨_, rfl, hQ _ s1.heap.objs.size out c (L1.mergeSort fun x y => decide (x.2 ≤ y.2)) (fun b u e => ?_) g1 os1 z1 hc (eo h2) ((List.mergeSort_perm _ _).trans p1) ?_⟩
    · have q := k1 b u e
      have lt := Heap.lt_size q
      show (sortedHeap (s1.heap.push (seqObj "list" (L1.map fun q => Value.ref q.1).toArray 0)) s1.heap.objs.size (L1.map fun q => Value.ref q.1) out.toArray).get? b = some u
      rw [sortedHeap_old (Nat.ne_of_lt lt) (by rw [size_push']; exact Nat.lt_succ_of_lt lt)]
      exact Heap.get?_push_of_some _ q
    · have e : sortR (L1.map (·.2)) = (L1.mergeSort fun x y => decide (x.2 ≤ y.2)).map (·.2) := (List.map_mergeSort (s := fun x y : List Int => decide (x ≤ y)) (f := Prod.snd) fun _ _ _ _ => rfl).symm
      rw [← e]
      exact sortR_eq (p1.map _)
end
def tSortSet (K : PySem.W.Frag) (ta : TE) : TE := fun σ H Q => ta σ H fun x H1 => ∃ (l : Addr) (bs : List (V × List Int)), x = .ref l ∧ SqL K H1 l (bs.map Prod.fst) ∧ (∀ b ∈ bs, Dp K H1 b.1 (.tuple (b.2.map PyData.int))) ∧ (∀ b ∈ bs, b.2 ≠ []) ∧ bs.length ≤ 4000 ∧
  ∀ (p : Addr) (ys : List (V × List Int)), H1 p = none → (∀ y ∈ ys, y ∈ bs) → ys.map Prod.snd = ssR (bs.map Prod.snd) → Q (.ref p) (upd H1 p (.lst (ys.map Prod.fst)))
theorem dp_addr {K : PySem.W.Frag} {H : Hp} {v : V} {k : List Int} (h : Dp K H v (.tuple (k.map PyData.int))) : ∃ a, v = .ref a ∧ SqT K H a (k.map V.int) := by
  cases h with
  | tup s t =>
    refine ⟨_, rfl, ?_⟩
    have e : ∀ {xs : List V} {k : List Int}, DpAll K H xs (k.map PyData.int) → xs = k.map V.int := by
      intro xs k
      induction k generalizing xs with
      | nil => intro h; cases h; rfl
      | cons i k ih =>
        intro h
        cases h with
        | cons h1 h2 =>
          cases h1
          rw [ih h2]
          rfl
    rw [← e t]
    exact s
theorem pe_sortSet {X : Cx} {a : Expr} {ta : TE} {p p2 q pos : Pos} (hu : X.A.units + 64 < cLine) (hg : Gl X "sorted") (hm : X.mg "sorted" = none) (hg2 : Gl X "set") (hm2 : X.mg "set" = none) (ha : PE X a ta) (hc : X.calm = true := by rfl)
    (na : starEach [a] X.env = (false, eval a X.env) :: starEach [] X.env := by rfl) : PE X (.Call (.Name "sorted" p) [.Call (.Name "set" p2) [a] [] q] [] pos) (tSortSet X.K ta) := by
  refine ⟨fun pins s σ H Q I h => ?_⟩
  refine Call_ (ld_blt I hg hm (show bootBuiltins "sorted" = some (.builtin "sorted") by decide +kernel) ?_)
  refine PyProof.Rows.callWith_builtin1 (PyProof.Rows.args_cons ?_ rfl) rfl rfl
  refine Call_ (ld_blt I hg2 hm2 PyProof.Rows.boot_set ?_)
  refine PyProof.Rows.callWith_type1 (PyProof.Rows.args_cons (thn (ha.run pins s σ H _ I h) fun v s1 ⟨x, H1, I1, r1, q1⟩ => PyProof.Rows.args_nil ?_) na) na rfl
  obtain ⟨l, bs, rfl, hs, hd, hne, few, q1⟩ := q1
  cases r1
  obtain ⟨its, rv, pl, _⟩ := I1.list hs
  have ks : ∀ b ∈ bs, ∃ a, b.1 = V.ref a ∧ SqT X.K H1 a (b.2.map V.int) := fun b hb => dp_addr (hd b hb)
  have mk : ∀ l : List (V × List Int), (∀ b ∈ l, b ∈ bs) → ∃ k2 : List (Addr × List Int), l = k2.map (fun q => (V.ref q.1, q.2)) ∧ ∀ q ∈ k2, SqT X.K H1 q.1 (q.2.map V.int) := by
    intro l
    induction l with
    | nil => exact fun _ => ⟨[], rfl, fun _ h => nomatch h⟩
    | cons b l ih =>
      intro h
      obtain ⟨a, e, sa⟩ := ks b (h b List.mem_cons_self)
      obtain ⟨k2, e2, s2⟩ := ih fun c hc => h c (List.mem_cons_of_mem _ hc)
      refine ⟨(a, b.2) :: k2, by rw [List.map_cons, ← e2, ← e], fun q hq => ?_⟩
      rcases List.mem_cons.mp hq with rfl | hq
      · exact sa
      · exact s2 q hq
  obtain ⟨k2, rfl, sk⟩ := mk bs fun _ h => h
  rw [List.length_map] at few
  rw [List.map_map] at rv
  have T1 : ∀ q ∈ k2, IsT X.prog X.w s1.heap q.2 q.1 := fun q hq => I1.isT (sk q hq)
  refine set_of_rows (P := X.prog) (w := X.w) k2 (I1.ok.hd hc) pl.isList (by simpa using refs_of_vals (ks := k2) rv) T1 few (by omega) fun h' tk L es ep t R g kp => ?_
  refine PyProof.Rows.args_nil ?_
  have I2 : Inv X pins σ H1 { s1 with heap := h', toks := tk } := I1.kept kp
  have sub : ∀ p ∈ L, p ∈ k2 := fun p hp => List.mem_of_mem_take (g.sub p hp)
  refine sorted_rows (s := { s1 with heap := h', toks := tk }) R (I2.ok.hd hc) (Nat.le_trans g.len few) (fun p hp => hne _ (List.mem_map.mpr ⟨p, sub p hp, rfl⟩)) (by omega) fun s3 p out c L' k3 g3 os3 hp hat ho pm so => ?_
  have hn : H1 p = none := I2.hok.fresh hp
  have hv : Vals (L'.map fun q => V.ref q.1) out := by rw [ho]; exact vals_of_refs L'
  have J := L2.Inv.call' (s' := s3) (H' := upd H1 p (.lst (L'.map fun q => V.ref q.1))) (ch := []) I2 os3 (Un.laid k3 hp hn) (I2.hok.laid k3 hp ⟨by rw [List.length_map, pm.length_eq, sizeLine_eq]; have := g.len; omega, out, c, hv, hat⟩) (by rw [g3]; exact I2.bare) (fun _ z => nomatch z)
  refine ⟨.ref p, _, J, rfl, ?_⟩
  have fin := q1 p (L'.map fun q => (V.ref q.1, q.2)) hn (fun y hy => ?_) ?_
  · rw [List.map_map] at fin
    exact fin
  · obtain ⟨q, hq, rfl⟩ := List.mem_map.mp hy
    exact List.mem_map.mpr ⟨q, sub q (pm.mem_iff.mp hq), rfl⟩
  · rw [List.map_map, List.map_map]
    refine Eq.trans so (sortR_eq ((List.perm_ext_iff_of_nodup R.dis (nubR_nodup _)).mpr fun x => ?_))
    rw [mem_nubR]
    constructor
    · intro hx
      obtain ⟨q, hq, rfl⟩ := List.mem_map.mp hx
      exact List.mem_map.mpr ⟨q, sub q hq, rfl⟩
    · intro hx
      obtain ⟨q, hq, rfl⟩ := List.mem_map.mp hx
      exact g.all q (by rw [List.take_length]; exact hq)
section
variable {K : PySem.W.Frag}
/-- sorted(set(x)), x a list of rows -/
def AE.sortSet (a : AE K) : AE K := ⟨tSortSet K a.te, fun e t k => a.wp e t fun d t1 => ∃ rs : List (List Int), d = .list (rs.map rowT) ∧ (∀ r ∈ rs, r ≠ []) ∧ rs.length ≤ 4000 ∧ k (.list ((ssR rs).map rowT)) t1, fun {m B0 B e σ H t k} r h Q q =>
  a.ok r h _ fun v d H1 t1 x1 k1 h1 r1 => by
    obtain ⟨rs, rfl, hne, hl, hk⟩ := h1
    obtain ⟨a, xs, rfl, na, s, t⟩ := rp_lst.mp r1
    obtain ⟨bs, rfl, rfl, hb⟩ := rows_of t
    refine ⟨a, bs, rfl, SqL.of s, fun b h => dp_row (hb b h), fun b h => hne _ (List.mem_map.mpr ⟨b, h, rfl⟩), by rw [List.length_map] at hl; exact hl, fun p ys np hy he => ?_⟩
    have al := (r.up x1 k1).al
    refine q _ _ _ t1 (x1.trans (m.xs k1 (same_new np))) (m.same k1 (same_new np)) hk (rp_lst.mpr ⟨p, _, rfl, al.new np, upd_same, ?_⟩)
    rw [← he]
    exact rpa_map fun b hb' => (hb b (hy b hb')).up (Xt.of al (same_new np))⟩
theorem w_sortSet {a : AE K} {e : _} {t : _} {k : _} : (AE.sortSet a).wp e t k = a.wp e t fun d t1 => ∃ rs : List (List Int), d = .list (rs.map rowT) ∧ (∀ r ∈ rs, r ≠ []) ∧ rs.length ≤ 4000 ∧ k (.list ((ssR rs).map rowT)) t1 := rfl
theorem t_sortSet {a : AE K} : (AE.sortSet a).te = tSortSet K a.te := rfl
end
end CG

namespace CG
open PySem PySem.Spec PyProof.Rows L2
def topS (i : Nat) : Stmt := PySem.Challenge.pw_coincounters_k24_best_within_steps.main.body.getD i (.Pass ⟨0, 0, 0, 0⟩)
abbrev sPChanged : Stmt := topS 1
abbrev NscPChanged : List Str := ["counter", "amount", "give", "get"]
theorem scPChanged : FnScope NscPChanged ["counter", "amount"] (defScope sPChanged) := ⟨rfl, rfl, rfl, by decide +kernel, rfl, by decide +kernel, by decide +kernel⟩
abbrev sPStart_numbers : Stmt := topS 3
abbrev NscPStart_numbers : List Str := ["board", "kind", "amount", "each"]
theorem scPStart_numbers : FnScope NscPStart_numbers ["board", "kind", "amount"] (defScope sPStart_numbers) := ⟨rfl, rfl, rfl, by decide +kernel, rfl, by decide +kernel, by decide +kernel⟩
abbrev sPAfter_one_more : Stmt := topS 4
abbrev NscPAfter_one_more : List Str := ["board", "numbers", "after", "counter", "source", "to"]
theorem scPAfter_one_more : FnScope NscPAfter_one_more ["board", "numbers"] (defScope sPAfter_one_more) := ⟨rfl, rfl, rfl, by decide +kernel, rfl, by decide +kernel, by decide +kernel⟩
abbrev sPBest_within : Stmt := topS 5
abbrev NscPBest_within : List Str := ["board", "kind", "amount", "steps", "numbers", "step"]
theorem scPBest_within : FnScope NscPBest_within ["board", "kind", "amount", "steps"] (defScope sPBest_within) := ⟨rfl, rfl, rfl, by decide +kernel, rfl, by decide +kernel, by decide +kernel⟩
abbrev sDraws : Stmt := topS 7
abbrev NscDraws : List Str := ["_law_script", "_law_cells", "_law_cell"]
theorem scDraws : FnScope NscDraws ["_law_script"] (defScope sDraws) := ⟨rfl, rfl, rfl, by decide +kernel, rfl, by decide +kernel, by decide +kernel⟩
abbrev sNext : Stmt := topS 8
abbrev NscNext : List Str := ["_law_state", "_law_many", "_law_cells", "_law_count", "_law_rests", "_law_index", "_law_digit", "_law_mixed"]
theorem scNext : FnScope NscNext ["_law_state", "_law_many"] (defScope sNext) := ⟨rfl, rfl, rfl, by decide +kernel, rfl, by decide +kernel, by decide +kernel⟩
abbrev sBoard : Stmt := topS 9
abbrev NscBoard : List Str := ["_law_state", "_law_most", "_law_counters", "_law_kinds", "_law_way", "_law_found", "_law_k", "_law_source", "_law_rates", "_law_to", "_law_j"]
theorem scBoard : FnScope NscBoard ["_law_state", "_law_most", "_law_counters"] (defScope sBoard) := ⟨rfl, rfl, rfl, by decide +kernel, rfl, by decide +kernel, by decide +kernel⟩
abbrev sLchanged : Stmt := topS 10
abbrev NscLchanged : List Str := ["_law_counter", "_law_amount_here"]
theorem scLchanged : FnScope NscLchanged ["_law_counter", "_law_amount_here"] (defScope sLchanged) := ⟨rfl, rfl, rfl, by decide +kernel, rfl, by decide +kernel, by decide +kernel⟩
abbrev sAmount : Stmt := topS 11
abbrev NscAmount : List Str := ["_law_state"]
theorem scAmount : FnScope NscAmount ["_law_state"] (defScope sAmount) := ⟨rfl, rfl, rfl, by decide +kernel, rfl, by decide +kernel, by decide +kernel⟩
abbrev sAll : Stmt := topS 12
abbrev NscAll : List Str := ["_law_board_here", "_law_kind", "_law_amount_here", "_law_steps", "_law_ends", "_law_found", "_law_step", "_law_later", "_law_here", "_law_number", "_law_counter"]
theorem scAll : FnScope NscAll ["_law_board_here", "_law_kind", "_law_amount_here", "_law_steps"] (defScope sAll) := ⟨rfl, rfl, rfl, by decide +kernel, rfl, by decide +kernel, by decide +kernel⟩
abbrev sLayers : Stmt := topS 13
abbrev NscLayers : List Str := ["_law_board_here", "_law_kind", "_law_amount_here", "_law_steps", "_law_now", "_law_rows", "_law_step", "_law_source", "_law_to", "_law_give", "_law_get"]
theorem scLayers : FnScope NscLayers ["_law_board_here", "_law_kind", "_law_amount_here", "_law_steps"] (defScope sLayers) := ⟨rfl, rfl, rfl, by decide +kernel, rfl, by decide +kernel, by decide +kernel⟩
abbrev sLaw : Stmt := topS 14
abbrev NscLaw : List Str := ["_law_script", "_law_state", "_law_turn", "_law_board_here", "_law_amount_here", "_law_shown", "_law_many", "_law_kind", "_law_rows", "_law_steps", "_law_due", "_law_found"]
theorem scLaw : FnScope NscLaw ["_law_script"] (defScope sLaw) := ⟨rfl, rfl, rfl, by decide +kernel, rfl, by decide +kernel, by decide +kernel⟩

/-- what is drawn from: cells, a number of draws, rests -/
structure DkC (H : Hp) (D C R : Addr) (t : Int) : Prop where
  nDC : D ≠ C
  nDR : D ≠ R
  nCR : C ≠ R
  nn : 0 ≤ t
  ex : ∃ cs rs : List Int, H D = some (.lst [.ref C, .int t, .ref R]) ∧ H C = some (.lst (cs.map V.int)) ∧ H R = some (.lst (rs.map V.int)) ∧ cs.length = rs.length ∧ 0 < cs.length ∧ cs.length ≤ 64
def dkC (D C R : Addr) : Dck := ⟨fun a => a = D ∨ a = C ∨ a = R, D, fun H t => DkC H D C R t, fun {H t a} k h => by
  obtain ⟨_, _, _, _, cs, rs, h1, h2, h3, _⟩ := k
  rcases h with rfl | rfl | rfl
  · rw [h1]; simp
  · rw [h2]; simp
  · rw [h3]; simp, fun {H H1 t} k h => by
  obtain ⟨a1, a2, a3, a4, cs, rs, h1, h2, h3, h4⟩ := k
  exact ⟨a1, a2, a3, a4, cs, rs, h D _ (.inl rfl) h1, h C _ (.inr (.inl rfl)) h2, h R _ (.inr (.inr rfl)) h3, h4⟩⟩
def MC (m : Dck) : Prop := ∃ D C R, m = dkC D C R
def drawW (ds : List PyData) (t : Int) (k : PK) : Prop := unI1 ds fun n => (0 < n ∧ n < 1125899906842624) ∧ t < 10000000 ∧ ∀ r, 0 ≤ r → r < n → k (.int r) (t + 1)
def p_draw : Pm := ⟨drawW, fun {ds t k k'} h w => by
  unfold drawW at w ⊢
  obtain ⟨n, rfl, h1, h2, h3⟩ := unI1_of w
  exact ⟨h1, h2, fun r r0 r1 => h _ _ (h3 r r0 r1)⟩⟩
theorem do_set {te : TE} {g : TG} {u : TS} {Dd : Ends} {σ : L2.St} {H : Hp} (h : te σ H fun v H1 => g v σ H1 (u Dd)) : tSeq (tAsg te g) u Dd σ H := h
theorem do_if {tt : TT} {a b u : TS} {Dd : Ends} {σ : L2.St} {H : Hp} (h : tt σ H fun z H1 => if z = true then a { Dd with nx := u Dd } σ H1 else b { Dd with nx := u Dd } σ H1) : tSeq (tIfS tt a b) u Dd σ H := h
theorem do_ret2 {te : TE} {Dd : Ends} {i : Nat} {v : V} {σ : L2.St} {H : Hp} (h : te (σ.set i (some v)) H Dd.rt) : gName i v σ H (tRet te Dd) := h
theorem args2 {c : TE} {i : Int} {σ : L2.St} {H : Hp} {Q : List V → Hp → Prop} (h : c σ H fun x H1 => Q [.int i, x] H1) : tCons (tC (.int i)) (tCons c tNil) σ H Q := h
theorem do_ret {te : TE} {Dd : Ends} {σ : L2.St} {H : Hp} (h : te σ H Dd.rt) : tRet te Dd σ H := h
theorem same_of {H H1 : Hp} (x : Xt Dck.no.pl H H1) : Same H H1 := fun a o e => x.kp a o (fun z => z) e
section
variable {P : Program} {w : World} {K : PySem.W.Frag} {mg : Str → Option Value} {base : Heap}
theorem ok_next {f : Addr} {fd : FuncData} (h : Has K mg "_law_next" sNext ["_law_state", "_law_many"] f fd) (T : Bz mg) : FnG P w K mg base CX0 1 f fd ["_law_state", "_law_many"] (spD K MC p_draw) := by
  refine okG h.F scNext (fun vs H Q E h => ?_) (fun cd A out s H vs Q E hgd hr h => ?_)
  · obtain ⟨m, B, t, ds, ws, rfl, hM, al, pb, ok, ra, hp⟩ := h
    obtain ⟨n, rfl, _⟩ := unI1_of hp
    rw [List.length_cons, ← ra.length]
    rfl
  · obtain ⟨m, B, t, ds, ws, rfl, ⟨D, C, R, rfl⟩, al, pb, ok, ra, hp⟩ := h
    obtain ⟨n, rfl, ⟨n0, n1⟩, tl, hk⟩ := unI1_of hp
    obtain rfl : ws = [.int n] := RpA.ints_inv (ns := [n]) ra
    obtain ⟨nDC, nDR, nCR, nn, cs, rs, hD, hC, hR, hlen, hl0, hl1⟩ := ok
    have tt : t * t ≤ 10000000 * 10000000 := Int.mul_le_mul (by omega) (by omega) nn (by decide)
    have tt0 : 0 ≤ t * t := Int.mul_nonneg nn nn
    have fin : ∀ (H2 : Hp) (r : Int) (rs2 : List Int), (∀ b o, b ≠ D → b ≠ R → H b = some o → H2 b = some o) → H2 D = some (.lst [.ref C, .int (t + 1), .ref R]) → H2 R = some (.lst (rs2.map V.int)) →
        rs2.length = rs.length → 0 ≤ r → r < n → Q (.int r) H2 := fun H2 r rs2 k1 k2 k3 k4 r0 r1 => by
      have hC2 := k1 C _ (Ne.symm nDC) nCR hC
      refine hk r r0 r1 (.int r) H2 ⟨fun a o nb e => k1 a o (fun z => nb (.inl z)) (fun z => nb (.inr (.inr z))) e, fun a h => ?_⟩ ⟨nDC, nDR, nCR, by omega, cs, rs2, k2, hC2, k3, by omega, hl0, hl1⟩ (rp_int.mpr rfl)
      rcases h with rfl | rfl | rfl
      · rw [k2]; simp
      · rw [hC2]; simp
      · rw [k3]; simp
    refine ⟨_, (pss_cons (ps_asg (pv 0) (pg_lst rfl (pgs_cons (pg_name (i := 2) scNext.nd rfl (Or.inl rfl)) (pgs_cons (pg_name (i := 3) scNext.nd rfl (Or.inl rfl)) (pgs_cons (pg_name (i := 4) scNext.nd rfl (Or.inl rfl)) pgs_nil)))))
      (pss_cons (ps_set (i := 5) scNext.nd rfl (Or.inl rfl) (pe_op op_mod (pv 3) (pe_callB (r := rLenU K) call_lenU rfl T.z_len PySem.boot_len (pa_cons (pv 2) pa_nil))))
      (pss_cons (ps_asg (pe_op (r := rAddU K) op_addU (pv 3) pe_int) (pg_sub (pv 0) pe_int set_list))
      (pss_cons (ps_if (pt_cmpR op_gt (pe_ix (r := rIx K) ix_seq (pv 4) (pv 5) (fun _ _ => rfl)) pe_int (nomark _))
        (pss_cons (ps_set (i := 6) scNext.nd rfl (Or.inl rfl) (pe_op op_mod (pe_ix (r := rIx K) ix_seq (pv 4) (pv 5) (fun _ _ => rfl)) (pv 1)))
        (pss_cons (ps_asg (pe_op op_dvU (pe_ix (r := rIx K) ix_seq (pv 4) (pv 5) (fun _ _ => rfl)) (pv 1)) (pg_sub (pv 4) (pv 5) set_list))
        (pss_one (ps_ret (pv 6)))))
        pss_nil)
      (pss_cons (ps_set (i := 7) scNext.nd rfl (Or.inl rfl) (pe_op op_mod (pe_op op_pow (pe_op (r := rAddU K) op_addU (pe_op (r := rAddU K) op_addU (pe_op op_mod (pe_ix (r := rIx K) ix_seq (pv 2) (pv 5) (fun _ _ => rfl)) pe_int) (pe_op (r := rMulU K) op_mulU pe_int (pv 3))) pe_int) pe_int) pe_int))
      (pss_cons (ps_set (i := 7) scNext.nd rfl (Or.inl rfl) (pe_op op_mod (pe_op op_pow (pe_op (r := rAddU K) op_addU (pe_op (r := rAddU K) op_addU (pv 7) (pe_op (r := rMulU K) op_mulU (pe_op (r := rMulU K) op_mulU pe_int (pv 3)) (pv 3))) pe_int) pe_int) pe_int))
      (pss_one (ps_ret (pe_op op_mod (pe_op op_dvU (pe_op op_mod (pe_op (r := rMulU K) op_mulU (pv 7) pe_int) pe_int) pe_int) (pv 1)))))))))), ?_⟩
    rw [show L2.start NscNext [V.ref (dkC D C R).D, V.int n] = [some (.ref D), some (.int n), none, none, none, none, none, none] from rfl]
    refine ⟨.ref D, rfl, D, _, rfl, SqL.of hD, rfl, .ref C, _, rfl, .int t, _, rfl, .ref R, _, rfl, rfl, ?_⟩
    dsimp only [List.set]
    -- data at the slots
    have rC : ∀ {H' : Hp}, H' C = some (.lst (cs.map V.int)) → Rp K (fun _ => False) H' (.list (cs.map PyData.int)) (.ref C) := fun h => rp_lst.mpr ⟨C, _, rfl, fun z => z, h, RpA.ints cs⟩
    have rR : ∀ {H' : Hp}, H' R = some (.lst (rs.map V.int)) → Rp K (fun _ => False) H' (.list (rs.map PyData.int)) (.ref R) := fun h => rp_lst.mpr ⟨R, _, rfl, fun z => z, h, RpA.ints rs⟩
    have rep0 : ∀ {H' : Hp}, H' C = some (.lst (cs.map V.int)) → H' R = some (.lst (rs.map V.int)) →
        Rep K .no (fun _ => False) (fun _ => False) [.un, .dat (.int n), .dat (.list (cs.map PyData.int)), .dat (.int t), .dat (.list (rs.map PyData.int)), .un, .un, .un] [some (.ref D), some (.int n), some (.ref C), some (.int t), some (.ref R), none, none, none] H' 0 := fun {H'} h1 h2 =>
      ⟨fun _ z => z.elim, fun _ z => z, fun _ z => z, trivial, rfl, fun i => match i with
        | 0 => trivial
        | 1 => ⟨_, rfl, rp_int.mpr rfl⟩
        | 2 => ⟨_, rfl, rC h1⟩
        | 3 => ⟨_, rfl, rp_int.mpr rfl⟩
        | 4 => ⟨_, rfl, rR h2⟩
        | 5 => trivial
        | 6 => trivial
        | 7 => trivial
        | _ + 8 => trivial, fun i j p ds es h => match i, h with
        | 0, h => nomatch h
        | 1, h => nomatch h
        | 2, h => nomatch h
        | 3, h => nomatch h
        | 4, h => nomatch h
        | 5, h => nomatch h
        | 6, h => nomatch h
        | 7, h => nomatch h
        | _ + 8, h => nomatch h⟩
    -- spot
    have L0 : (0 : Int) < ((cs.map PyData.int).length : Nat) := by rw [List.length_map]; omega
    refine do_set (te := (AE.op (aMod K) (AE.var K 3) (AE.cb (aLen K) (AA.cons (AE.var K 2) (AA.nil K)))).te) ?_
    refine (AE.op (aMod K) (AE.var K 3) (AE.cb (aLen K) (AA.cons (AE.var K 2) (AA.nil K)))).ok (k := fun d _ => d = .int (t % ((cs.map PyData.int).length : Nat))) (rep0 hC hR) ⟨L0, rfl⟩ _ fun v d H1 t1 x1 _ hd rv => ?_
    subst hd
    obtain rfl := rp_int.mp rv
    have s1 := same_of x1
    have a0 : 0 ≤ t % (((cs.map PyData.int).length : Nat) : Int) := Int.emod_nonneg _ (by omega)
    have a1 : t % (((cs.map PyData.int).length : Nat) : Int) < ((cs.map PyData.int).length : Nat) := Int.emod_lt_of_pos _ L0
    rw [List.length_map] at a0 a1 ⊢
    obtain ⟨j, hj⟩ : ∃ j : Nat, t % ((cs.length : Nat) : Int) = (j : Int) := ⟨(t % ((cs.length : Nat) : Int)).toNat, by omega⟩
    rw [hj] at a0 a1 ⊢
    have jc : j < cs.length := by omega
    have jr : j < rs.length := by omega
    -- drawn[1] = nth + 1
    have hD1 := s1 _ _ hD
    obtain ⟨H2, hH2⟩ : ∃ H2, H2 = upd H1 D (.lst [.ref C, .int (t + 1), .ref R]) := ⟨_, rfl⟩
    have hD2 : H2 D = some (.lst [.ref C, .int (t + 1), .ref R]) := by rw [hH2]; exact upd_same
    have hC2 : H2 C = some (.lst (cs.map V.int)) := by rw [hH2, upd_ne (Ne.symm nDC)]; exact s1 _ _ hC
    have hR2 : H2 R = some (.lst (rs.map V.int)) := by rw [hH2, upd_ne (Ne.symm nDR)]; exact s1 _ _ hR
    have kD : ∀ b o, b ≠ D → H b = some o → H2 b = some o := fun b o nb e => by rw [hH2, upd_ne nb]; exact s1 _ _ e
    have eH : upd H1 D (.lst ([V.ref C, V.int t, V.ref R].set 1 (V.int (t + 1)))) = H2 := hH2.symm
    refine ⟨.int t, rfl, .inl ⟨t, 1, rfl, rfl, .ref D, rfl, D, _, 1, 1, rfl, rfl, hD1, rfl, ?_⟩⟩
    dsimp only [List.set]
    rw [← hH2]
    have rep2 := (rep0 hC2 hR2).set (i := 5) (d := .int (j : Int)) (v := .int (j : Int)) (rp_int.mpr rfl)
    have gr : atI (rs.map PyData.int) (j : Int) = some (.int rs[j]) := by rw [atI_nn, List.getElem?_map, List.getElem?_eq_getElem jr]; rfl
    have gc : atI (cs.map PyData.int) (j : Int) = some (.int cs[j]) := by rw [atI_nn, List.getElem?_map, List.getElem?_eq_getElem jc]; rfl
    refine do_if (tt := (AT.test (AE.op (aGt K) (AE.op (aIx K) (AE.var K 4) (AE.var K 5)) (AE.int K 0))).tt) ?_
    refine (AT.test (AE.op (aGt K) (AE.op (aIx K) (AE.var K 4) (AE.var K 5)) (AE.int K 0))).ok (k := fun b _ => b = decide (0 < rs[j])) rep2 ⟨_, gr, rfl⟩ _ fun b H3 t3 x3 _ hb => ?_
    subst hb
    have s3 := same_of x3
    have rep3 := rep2.up x3 trivial (t' := 0)
    by_cases big : 0 < rs[j]
    · rw [decide_eq_true big, if_pos rfl]
      refine do_set (te := (AE.op (aMod K) (AE.op (aIx K) (AE.var K 4) (AE.var K 5)) (AE.var K 1)).te) ?_
      refine (AE.op (aMod K) (AE.op (aIx K) (AE.var K 4) (AE.var K 5)) (AE.var K 1)).ok (k := fun d _ => d = .int (rs[j] % n)) rep3 ⟨_, gr, n0, rfl⟩ _ fun v d H4 t4 x4 _ hd rv4 => ?_
      subst hd
      obtain rfl := rp_int.mp rv4
      have s4 := same_of x4
      have rep4 := (rep3.up x4 trivial (t' := 0)).set (i := 6) rv4
      refine do_set (te := (AE.op (aDv K) (AE.op (aIx K) (AE.var K 4) (AE.var K 5)) (AE.var K 1)).te) ?_
      refine (AE.op (aDv K) (AE.op (aIx K) (AE.var K 4) (AE.var K 5)) (AE.var K 1)).ok (k := fun d _ => d = .int (rs[j] / n)) rep4 ⟨_, gr, ⟨n0, by show n < 18446744073709551616; omega⟩, rfl⟩ _ fun v d H5 t5 x5 _ hd rv5 => ?_
      subst hd
      obtain rfl := rp_int.mp rv5
      have s5 := same_of x5
      have hix : ixN (rs.map V.int).length (j : Int) = some j := by
        unfold ixN
        rw [List.length_map, if_pos (by omega), if_pos (by omega)]
        simp
      have hR5 := s5 _ _ (s4 _ _ (s3 _ _ hR2))
      refine ⟨.ref R, rfl, .int j, rfl, R, _, j, j, rfl, rfl, hR5, hix, ?_⟩
      refine ⟨.int (rs[j] % n), rfl, ?_⟩
      refine fin _ _ (rs.set j (rs[j] / n)) (fun b o b1 b2 e => ?_) ?_ ?_ (List.length_set) (Int.emod_nonneg _ (by omega)) (Int.emod_lt_of_pos _ n0)
      · rw [upd_ne b2]
        exact s5 _ _ (s4 _ _ (s3 _ _ (kD b o b1 e)))
      · rw [upd_ne nDR]
        exact s5 _ _ (s4 _ _ (s3 _ _ hD2))
      · rw [upd_same, List.map_set]
    · rw [decide_eq_false big, if_neg (by decide)]
      have p0 : 0 ≤ cs[j] % 2147483629 := Int.emod_nonneg _ (by decide)
      have p1 : cs[j] % 2147483629 < 2147483629 := Int.emod_lt_of_pos _ (by decide)
      refine do_set (te := (AE.op (aMod K) (AE.op (aPow K) (AE.op (aAdd K) (AE.op (aAdd K) (AE.op (aMod K) (AE.op (aIx K) (AE.var K 2) (AE.var K 5)) (AE.int K 2147483629)) (AE.op (aMul K) (AE.int K 40037) (AE.var K 3))) (AE.int K 9203)) (AE.int K 3)) (AE.int K 2147483587)).te) ?_
      refine (AE.op (aMod K) (AE.op (aPow K) (AE.op (aAdd K) (AE.op (aAdd K) (AE.op (aMod K) (AE.op (aIx K) (AE.var K 2) (AE.var K 5)) (AE.int K 2147483629)) (AE.op (aMul K) (AE.int K 40037) (AE.var K 3))) (AE.int K 9203)) (AE.int K 3)) (AE.int K 2147483587)).ok (k := fun d _ => ∃ z : Int, d = .int z ∧ 0 ≤ z ∧ z < 2147483587) rep3
        ⟨_, gc, by show (0 : Int) < 2147483629; decide, .inl ⟨by decide, by decide⟩, ⟨by decide, by decide, ?_⟩, by show (0 : Int) < 2147483587; decide, _, rfl, Int.emod_nonneg _ (by decide), Int.emod_lt_of_pos _ (by decide)⟩ _ fun v d H4 t4 x4 _ hd rv4 => ?_
      · show (cs[j] % 2147483629 + 40037 * t + 9203).natAbs < 2 ^ 64
        omega
      obtain ⟨z, rfl, z0, z1⟩ := hd
      obtain rfl := rp_int.mp rv4
      have s4 := same_of x4
      have rep4 := (rep3.up x4 trivial (t' := 0)).set (i := 7) rv4
      refine do_set (te := (AE.op (aMod K) (AE.op (aPow K) (AE.op (aAdd K) (AE.op (aAdd K) (AE.var K 7) (AE.op (aMul K) (AE.op (aMul K) (AE.int K 5039) (AE.var K 3)) (AE.var K 3))) (AE.int K 43)) (AE.int K 3)) (AE.int K 2147483563)).te) ?_
      refine (AE.op (aMod K) (AE.op (aPow K) (AE.op (aAdd K) (AE.op (aAdd K) (AE.var K 7) (AE.op (aMul K) (AE.op (aMul K) (AE.int K 5039) (AE.var K 3)) (AE.var K 3))) (AE.int K 43)) (AE.int K 3)) (AE.int K 2147483563)).ok (k := fun d _ => ∃ z : Int, d = .int z ∧ 0 ≤ z ∧ z < 2147483563) rep4
        ⟨.inl ⟨by decide, by decide⟩, .inr ⟨by omega, by omega⟩, ⟨by decide, by decide, ?_⟩, by show (0 : Int) < 2147483563; decide, _, rfl, Int.emod_nonneg _ (by decide), Int.emod_lt_of_pos _ (by decide)⟩ _ fun v d H5 t5 x5 _ hd rv5 => ?_
      · show (z + 5039 * t * t + 43).natAbs < 2 ^ 64
        rw [Int.mul_assoc]
        omega
      obtain ⟨y, rfl, y0, y1⟩ := hd
      obtain rfl := rp_int.mp rv5
      have s5 := same_of x5
      have rep5 := (rep4.up x5 trivial (t' := 0)).set (i := 7) rv5
      refine do_ret (te := (AE.op (aMod K) (AE.op (aDv K) (AE.op (aMod K) (AE.op (aMul K) (AE.var K 7) (AE.int K 65537)) (AE.int K 2305843009213693951)) (AE.int K 8)) (AE.var K 1)).te) ?_
      refine (AE.op (aMod K) (AE.op (aDv K) (AE.op (aMod K) (AE.op (aMul K) (AE.var K 7) (AE.int K 65537)) (AE.int K 2305843009213693951)) (AE.int K 8)) (AE.var K 1)).ok (k := fun d _ => ∃ z : Int, d = .int z ∧ 0 ≤ z ∧ z < n) rep5
        ⟨.inr ⟨by decide, by decide⟩, by show (0 : Int) < 2305843009213693951; decide, ⟨by decide, by decide⟩, n0, _, rfl, Int.emod_nonneg _ (by omega), Int.emod_lt_of_pos _ n0⟩ _ fun v d H6 t6 x6 _ hd rv6 => ?_
      obtain ⟨q, rfl, q0, q1⟩ := hd
      obtain rfl := rp_int.mp rv6
      have s6 := same_of x6
      exact fin H6 q rs (fun b o b1 b2 e => s6 _ _ (s5 _ _ (s4 _ _ (s3 _ _ (kD b o b1 e))))) (s6 _ _ (s5 _ _ (s4 _ _ (s3 _ _ hD2)))) (s6 _ _ (s5 _ _ (s4 _ _ (s3 _ _ hR2)))) rfl q0 q1
theorem ok_draws {f : Addr} {fd : FuncData} (h : Has K mg "_law_draws" sDraws ["_law_script"] f fd) (T : Bz mg) : FnG P w K mg base CX0 1 f fd ["_law_script"] (spM K MC) := by
  refine okG h.F scDraws (fun vs H Q E h => ?_) (fun cd A out s H vs Q E hgd hr h => ?_)
  · obtain ⟨a, ns, rfl, _⟩ := h
    rfl
  · obtain ⟨a, ns, rfl, hS, q⟩ := h
    refine ⟨_, (pss_cons (ps_set (i := 1) scDraws.nd rfl (Or.inl rfl) (pe_op (r := rAddU K) op_addU (pe_lc (own := [("_law_cell", 2)]) rfl scDraws.nd (pi_list (pe_slice (r := rSlU K) sl_U (pv 0) po_none (po_some pe_int))) (blkOk_by (N := NscDraws) (sc := defScope sDraws) (by decide +kernel)) (fun _ _ _ _ _ => (pg_name (i := 2) scDraws.nd rfl (Or.inl rfl))) (fun _ _ _ _ _ => pts_nil) (fun _ _ _ _ _ => (pe_callB call_abs rfl T.z_abs boot_abs (pa_cons (pv 2) pa_nil)))) (pe_op (r := rMulU K) op_mulU (pe_lst (pa_cons pe_int pa_nil)) (pe_callTy call_intU rfl T.z_int boot_intU (pa_cons (pe_cmpR (r := rEqU K) (op_eqU hr.units) (pe_callB (r := rLenU K) call_lenU rfl T.z_len PySem.boot_len (pa_cons (pv 0) pa_nil)) pe_int (nomark _)) pa_nil)))))
      (pss_one (ps_ret (pe_lst (pa_cons (pv 1) (pa_cons pe_int (pa_cons (pe_lc (own := [("_law_cell", 2)]) rfl scDraws.nd (pi_list (pv 1)) (blkOk_by (N := NscDraws) (sc := defScope sDraws) (by decide +kernel)) (fun _ _ _ _ _ => (pg_name (i := 2) scDraws.nd rfl (Or.inl rfl))) (fun _ _ _ _ _ => pts_nil) (fun _ _ _ _ _ => (pe_op (r := rMulU K) op_mulU (pv 2) (pe_callTy call_intU rfl T.z_int boot_intU (pa_cons (pe_cmpR op_ge (pv 2) (pe_op op_pow pe_int pe_int) (nomark _)) pa_nil))))) pa_nil))))))), ?_⟩
    rw [show L2.start NscDraws [V.ref a] = [some (.ref a), none, none] from rfl]
    have ec : cutV (ns.map V.int) none (some 63) = (ns.take 63).map V.int := by
      unfold cutV
      rw [HT.sIx_none, show HT.sIx (ns.map V.int).length (ns.map V.int).length (some 63) = min 63 (ns.map V.int).length from HT.sIx_nat _ _ 63, List.drop_zero, Nat.sub_zero, List.map_take]
      rw [List.take_eq_take_iff]
      omega
    refine ⟨.ref a, rfl, 63, rfl, .inl ⟨a, _, rfl, hS, fun c nc => ?_⟩⟩
    have e1 : Same H (upd H c (.lst (cutV (ns.map V.int) none (some 63)))) := same_new nc
    rw [ec]
    rw [ec] at e1
    have hml : (ns.take 63).length ≤ 63 := by rw [List.length_take]; omega
    have hmz : (ns.map V.int).length = 0 ↔ (ns.take 63).length = 0 := by rw [List.length_map, List.length_take]; omega
    generalize ns.take 63 = ms0 at e1 hml hmz ⊢
    refine ⟨c, rfl, ⟨_, SqL.of upd_same⟩, fun l nl => ?_⟩
    refine lc_list (xs := ms0.map V.int) (fun i H' => Same H H' ∧ H' c = some (.lst (ms0.map V.int)) ∧ H' l = some (.lst (((ms0.take i).map fun z => if z < 0 then -z else z).map V.int))) ?_ ?_ ?_ ?_
    · refine ⟨e1.trans (same_new nl), ?_, ?_⟩
      · rw [upd_ne (ne_of_none upd_same nl)]
        exact upd_same
      · rw [upd_same]
        rfl
    · rintro i H' _ ⟨_, hc, _⟩
      exact SqL.of hc
    · rintro i x H' gx ⟨e', hc, hL⟩
      rw [List.getElem?_map] at gx
      cases gz : ms0[i]? with
      | none => rw [gz] at gx; cases gx
      | some z =>
        rw [gz] at gx
        cases gx
        have hi : i < ms0.length := (List.getElem?_eq_some_iff.mp gz).1
        have hLn : H l = none := e1.free nl
        refine ⟨rfl, ?_⟩
        refine ⟨.int z, rfl, z, rfl, _, hL, ?_, ?_, ?_, ?_⟩
        · rw [List.length_map, List.length_map, List.length_take]
          exact Nat.lt_of_le_of_lt (show min i ms0.length ≤ 63 by omega) (by decide)
        · intro b o eb
          rw [upd_ne (ne_of_none eb hLn)]
          exact e' b o eb
        · rw [upd_ne (fun z => ?_)]
          · exact hc
          · subst z
            rw [upd_same] at nl
            cases nl
        · rw [upd_same, List.take_add_one, gz]
          simp only [Option.toList_some, List.map_append, List.map_cons, List.map_nil]
    rintro H1 ⟨s1, hc1, hl1⟩
    rw [List.length_map, List.take_length] at hl1
    obtain ⟨ms, ems⟩ : ∃ ms : List Int, (ms0.map fun z : Int => if z < 0 then -z else z) = ms := ⟨_, rfl⟩
    have lms : ms.length = ms0.length := by rw [← ems, List.length_map]
    rw [ems] at hl1
    rw [← lms] at hml hmz
    have alF : ∀ {H' : Hp}, Al (fun _ => False) H' := fun {H'} _ z => z.elim
    have up : ∀ {H' : Hp}, Same H H' → SqL K H' a (ns.map V.int) := fun e => (Xt.of alF e).sqL (fun z => z) hS
    refine ⟨by show 1 ≤ sizeLine; decide, fun z nz => ?_⟩
    have s2 : Same H1 (upd H1 z (.lst [.int 0])) := same_new nz
    have hz2 : (upd H1 z (.lst [.int 0])) z = some (.lst [.int 0]) := upd_same
    generalize upd H1 z (.lst [.int 0]) = H2 at s2 hz2 ⊢
    refine ⟨.ref a, rfl, a, _, rfl, .inl (up (s1.trans s2)), ?_⟩
    refine .inl ⟨rfl, ?_⟩
    have eb : decide (V.int (((ns.map V.int).length : Nat) : Int) = V.int 0) = decide (ms.length = 0) := by
      rw [decide_eq_decide, V.int.injEq]
      omega
    rw [eb]
    refine .inr ⟨_, rfl, ?_⟩
    obtain ⟨k, hk, k0, k1, k2⟩ : ∃ k : Int, (if decide (ms.length = 0) = true then (1 : Int) else 0) = k ∧ 0 ≤ k ∧ k ≤ 1 ∧ (0 < ms.length ∨ k = 1) := by
      by_cases e : ms.length = 0
      · exact ⟨1, by rw [decide_eq_true e]; rfl, by decide, by decide, .inr rfl⟩
      · exact ⟨0, by rw [decide_eq_false e]; rfl, by decide, by decide, .inl (by omega)⟩
    rw [hk]
    refine rd_repL (K := K) (B := fun _ => False) (ds := [.int 0]) (k := k) k0 (by omega) (by decide) H2 (.ref z) (.int k) alF (rp_lst.mpr ⟨z, _, rfl, fun z => z, hz2, .cons (rp_int.mpr rfl) .nil⟩) (rp_int.mpr rfl) _ fun v3 H3 s3 r3 => ?_
    have er : (List.replicate k.toNat [PyData.int 0]).flatten = (List.replicate k.toNat (0 : Int)).map PyData.int := by
      have c : k = 0 ∨ k = 1 := by omega
      rcases c with rfl | rfl <;> rfl
    rw [er] at r3
    have hl3 := s3 _ _ (s2 _ _ hl1)
    refine rd_catL (K := K) (B := fun _ => False) (ds := ms.map PyData.int) (by rw [List.length_map, List.length_map, List.length_replicate]; omega) H3 (.ref l) v3 alF (rp_lst.mpr ⟨l, _, rfl, fun z => z, hl3, RpA.ints ms⟩) r3 _ fun v4 H4 s4 r4 => ?_
    rw [← List.map_append] at r4
    obtain ⟨cs, hcs, hc0, hc1⟩ : ∃ cs : List Int, ms ++ List.replicate k.toNat (0 : Int) = cs ∧ 0 < cs.length ∧ cs.length ≤ 64 := ⟨_, rfl, by rw [List.length_append, List.length_replicate]; omega, by rw [List.length_append, List.length_replicate]; omega⟩
    rw [hcs] at r4
    obtain ⟨C, xs, rfl, _, hC, rx⟩ := rp_lst.mp r4
    obtain rfl : xs = cs.map V.int := RpA.ints_inv rx
    dsimp only
    refine do_ret2 ?_
    dsimp only [List.set]
    have rep : Rep K .no (fun _ => False) (fun _ => False) [.un, .dat (.list (cs.map PyData.int)), .un] [some (.ref a), some (.ref C), none] H4 0 :=
      ⟨alF, fun _ z => z, fun _ z => z, trivial, rfl, fun i => match i with
        | 0 => trivial
        | 1 => ⟨_, rfl, r4⟩
        | 2 => trivial
        | _ + 3 => trivial, fun i j p ds es h => match i, h with
        | 0, h => nomatch h
        | 1, h => nomatch h
        | 2, h => nomatch h
        | _ + 3, h => nomatch h⟩
    refine ⟨.ref C, rfl, ?_⟩
    refine args2 (c := (AF.lc (AI.lst (AE.var K 1)) (AG.name K 2) (AT.yes K) (AE.op (aMul K) (AE.var K 2) (AE.cb (aInt K) (AA.cons (AE.op (aGe K) (AE.var K 2) (AE.op (aPow K) (AE.int K 10) (AE.int K 18))) (AA.nil K)))) [2] (show ∀ j ∈ (AG.name K 2).sl, j ∈ [2] from fun _ h => h)).te) ?_
    refine (AF.lc (AI.lst (AE.var K 1)) (AG.name K 2) (AT.yes K) (AE.op (aMul K) (AE.var K 2) (AE.cb (aInt K) (AA.cons (AE.op (aGe K) (AE.var K 2) (AE.op (aPow K) (AE.int K 10) (AE.int K 18))) (AA.nil K)))) [2] (show ∀ j ∈ (AG.name K 2).sl, j ∈ [2] from fun _ h => h)).ok (k := fun ds _ => ∃ rs : List Int, ds = rs.map PyData.int ∧ rs.length = cs.length) rep ?_ _ fun R ds vs H5 t5 nR x5 _ hds hR rR => ?_
    · rw [w_AF_lc]
      simp only [w_AE_var, w_AE_int, w_AE_bl, w_AE_str, w_AE_non, w_AE_op, w_AE_un, w_AA_nil, w_AA_cons, w_AE_tup, w_AE_lst, w_AE_cb, w_AE_call, w_AE_callD, w_AT_test, w_AT_b, w_AT_not, w_AT_and, w_AT_or, w_AT_yes, w_AE_ifx, w_AE_and, w_AE_or, w_AE_not, w_AO_none, w_AO_some, w_AI_tup, w_AI_lst, w_AI_rng, w_AI_rng2, w_AI_enum, w_AI_rev, w_AG_name, w_AGs_nil, w_AGs_cons, w_AG_tup, w_AF_ae, w_AF_lst, w_AF_lc, w_AF_list, w_AE_sl, w_AE_revT, w_AE_chain, w_AE_isi, w_AE_view, w_AT_view, w_AE_ownIx, w_AE_ownTup, w_AE_ownSl, w_AS_nop, w_AS_brk, w_AS_cnt, w_AS_seq, w_AS_set, w_AS_asg, w_AS_drop, w_AS_par, w_AS_par3, w_AS_ret, w_AS_retN, w_AS_ifS, w_AS_for, w_AS_while, w_AS_setOwn, w_AS_append, w_AS_setAt, w_AS_frz, w_AS_fgt, w_AS_never, w_AF_lstRg, w_AE_tupRg, w_AS_insert, w_AS_aug, w_AS_parB, w_AS_par3B, w_AS_parA, w_AS_tupA, w_AS_tupB, f_aAdd, f_aMul, f_aEq, f_aNe, f_aIsN, f_aNotN, f_aIx, f_aNeg, f_aLen, f_aRepr, f_aInt, f_aIn, f_aNotIn, f_aIsB, f_aIsNotB, f_aTup, f_aI, f_aI0, f_aB0, f_aMin, f_aMax, q_inL, q_inT, q_notInL, q_notInT, q_isB, q_isNotB, q_addI, q_addT, q_addL, q_int, q_int0, q_bool0, q_mulI, q_mulT, q_mulL, q_eqI, q_eqS, q_neI, q_neS, q_isN, q_notN, q_ixT, q_ixL, q_neg, q_lenT, q_lenL, q_repr, q_two, q_intB, q_tupT, q_tupL, q_slT, q_slL, q_unB, q_unI, q_unT, q_unL, q_unI1, q_unI2, q_unT1, q_unS1T, q_unS1L, q_un1, q_un2, q_un3, q_hd, q_rd, q_ow, q_ctrT, q_ctrI, q_ctrS, q_ctrS2, q_brdT, q_brd0, q_brd1, q_rowI, q_rowT, q_rowT1, q_rowL, q_at0, q_at1, q_at2, q_at3, w_AI_zipM, q_unTL, f_aSortR, sortRF, w_lenSet, w_ext, w_lc2, w_minD, w_AI_zip, q_unTT, w_asgPop, w_ownLst, w_revL, q_unL0, w_parO, w_AF_rep, w_sortSet, wipeE, List.getElem?_cons_zero, List.getElem?_cons_succ, List.set_cons_zero, List.set_cons_succ, if_true, Bool.false_eq_true, if_false, true_and, and_true, Lim, dkS_deck, List.length_cons, List.length_nil, Nat.reduceAdd, Nat.reduceLeDiff, Nat.zero_le, Nat.zero_add, Int.reduceLT, Int.reduceLE, Int.reducePow, Int.reduceNeg, eq_self, decide_true, Bool.not_true, Bool.not_false, q_neB, q_eqB, q_isiR, q_rtT, q_rtT1, q_rtL, q_rtS0, q_rtS1, q_rtI, q_rtA, viewE_cons, viewE_nil, viewS_own, viewS_dat, viewS_deck, flat_int, flat_bool, flat_str, List.cons_append, List.nil_append]
      refine ⟨by rw [List.length_map]; omega, fun i acc s => ∃ rs : List Int, acc = rs.map PyData.int ∧ rs.length = i, ⟨[], rfl, rfl⟩, ?_, ?_⟩
      · rintro i d acc s hd ⟨rs, rfl, hl⟩
        rw [List.getElem?_map] at hd
        cases hq : cs[i]? with
        | none => rw [hq] at hd; cases hd
        | some x =>
          rw [hq] at hd
          cases hd
          simp only [w_AE_var, w_AE_int, w_AE_bl, w_AE_str, w_AE_non, w_AE_op, w_AE_un, w_AA_nil, w_AA_cons, w_AE_tup, w_AE_lst, w_AE_cb, w_AE_call, w_AE_callD, w_AT_test, w_AT_b, w_AT_not, w_AT_and, w_AT_or, w_AT_yes, w_AE_ifx, w_AE_and, w_AE_or, w_AE_not, w_AO_none, w_AO_some, w_AI_tup, w_AI_lst, w_AI_rng, w_AI_rng2, w_AI_enum, w_AI_rev, w_AG_name, w_AGs_nil, w_AGs_cons, w_AG_tup, w_AF_ae, w_AF_lst, w_AF_lc, w_AF_list, w_AE_sl, w_AE_revT, w_AE_chain, w_AE_isi, w_AE_view, w_AT_view, w_AE_ownIx, w_AE_ownTup, w_AE_ownSl, w_AS_nop, w_AS_brk, w_AS_cnt, w_AS_seq, w_AS_set, w_AS_asg, w_AS_drop, w_AS_par, w_AS_par3, w_AS_ret, w_AS_retN, w_AS_ifS, w_AS_for, w_AS_while, w_AS_setOwn, w_AS_append, w_AS_setAt, w_AS_frz, w_AS_fgt, w_AS_never, w_AF_lstRg, w_AE_tupRg, w_AS_insert, w_AS_aug, w_AS_parB, w_AS_par3B, w_AS_parA, w_AS_tupA, w_AS_tupB, f_aAdd, f_aMul, f_aEq, f_aNe, f_aIsN, f_aNotN, f_aIx, f_aNeg, f_aLen, f_aRepr, f_aInt, f_aIn, f_aNotIn, f_aIsB, f_aIsNotB, f_aTup, f_aI, f_aI0, f_aB0, f_aMin, f_aMax, q_inL, q_inT, q_notInL, q_notInT, q_isB, q_isNotB, q_addI, q_addT, q_addL, q_int, q_int0, q_bool0, q_mulI, q_mulT, q_mulL, q_eqI, q_eqS, q_neI, q_neS, q_isN, q_notN, q_ixT, q_ixL, q_neg, q_lenT, q_lenL, q_repr, q_two, q_intB, q_tupT, q_tupL, q_slT, q_slL, q_unB, q_unI, q_unT, q_unL, q_unI1, q_unI2, q_unT1, q_unS1T, q_unS1L, q_un1, q_un2, q_un3, q_hd, q_rd, q_ow, q_ctrT, q_ctrI, q_ctrS, q_ctrS2, q_brdT, q_brd0, q_brd1, q_rowI, q_rowT, q_rowT1, q_rowL, q_at0, q_at1, q_at2, q_at3, w_AI_zipM, q_unTL, f_aSortR, sortRF, w_lenSet, w_ext, w_lc2, w_minD, w_AI_zip, q_unTT, w_asgPop, w_ownLst, w_revL, q_unL0, w_parO, w_AF_rep, w_sortSet, wipeE, List.getElem?_cons_zero, List.getElem?_cons_succ, List.set_cons_zero, List.set_cons_succ, if_true, Bool.false_eq_true, if_false, true_and, and_true, Lim, dkS_deck, List.length_cons, List.length_nil, Nat.reduceAdd, Nat.reduceLeDiff, Nat.zero_le, Nat.zero_add, Int.reduceLT, Int.reduceLE, Int.reducePow, Int.reduceNeg, eq_self, decide_true, Bool.not_true, Bool.not_false, q_neB, q_eqB, q_isiR, q_rtT, q_rtT1, q_rtL, q_rtS0, q_rtS1, q_rtI, q_rtA, viewE_cons, viewE_nil, viewS_own, viewS_dat, viewS_deck, flat_int, flat_bool, flat_str, List.cons_append, List.nil_append]
          refine ⟨⟨by decide, by decide, by decide⟩, .inr ⟨by split <;> decide, by split <;> decide⟩, rs ++ [_], (by rw [List.map_append]; rfl), by rw [List.length_append, hl]; rfl⟩
      · rintro acc s ⟨rs, rfl, hl⟩
        exact ⟨rs, rfl, by rw [hl, List.length_map]⟩
    · obtain ⟨rs, rfl, hrl⟩ := hds
      obtain rfl : vs = rs.map V.int := RpA.ints_inv rR
      have s5 := same_of x5
      refine ⟨by show 3 ≤ sizeLine; decide, fun D nD => ?_⟩
      have hC5 := s5 _ _ hC
      have nCR : C ≠ R := ne_of_none hC nR
      refine q (dkC D C R) _ ⟨D, C, R, rfl⟩ ⟨fun e => ?_, fun e => ?_, nCR, Int.le_refl 0, cs, rs, upd_same, ?_, ?_, hrl.symm, hc0, hc1⟩
      · rw [e, hC5] at nD
        cases nD
      · rw [e, hR] at nD
        cases nD
      · rw [upd_ne (ne_of_none hC5 nD)]
        exact hC5
      · rw [upd_ne (ne_of_none hR nD)]
        exact hR
end
end CG

namespace CG
open PySem PySem.Spec PyProof.Rows L2
def pD (n : Int) (pre : List PyData → Prop) (post : List PyData → PyData → Prop) : Pm := ⟨fun ds t k => pre ds ∧ t + n ≤ 10000000 ∧ ∀ d t', post ds d → t' ≤ t + n → k d t', fun {ds t k k'} h w => ⟨w.1, w.2.1, fun d t' p l => h _ _ (w.2.2 d t' p l)⟩⟩
def pP (post : List PyData → PyData → Prop) : Pm := ⟨fun ds t k => ∃ d, post ds d ∧ k d t, fun {ds t k k'} h w => by
  obtain ⟨d, p, q⟩ := w
  exact ⟨d, p, h _ _ q⟩⟩
theorem w_draw {ds : List PyData} {t : Int} {k : PK} : p_draw.w ds t k = drawW ds t k := rfl
theorem w_pD {n : Int} {pre : List PyData → Prop} {post : List PyData → PyData → Prop} {ds : List PyData} {t : Int} {k : PK} : (pD n pre post).w ds t k = (pre ds ∧ t + n ≤ 10000000 ∧ ∀ d t', post ds d → t' ≤ t + n → k d t') := rfl
theorem w_pP {post : List PyData → PyData → Prop} {ds : List PyData} {t : Int} {k : PK} : (pP post).w ds t k = ∃ d, post ds d ∧ k d t := rfl
/-- a wish whose answer is told by what it keeps -/
def pQ (R : List PyData → (PyData → Prop) → Prop) : Pm := ⟨fun ds t k => ∃ S, R ds S ∧ ∀ d, S d → k d t, fun {ds t k k'} h w => by
  obtain ⟨S, p, q⟩ := w
  exact ⟨S, p, fun d hd => h _ _ (q d hd)⟩⟩
theorem w_pQ {R : List PyData → (PyData → Prop) → Prop} {ds : List PyData} {t : Int} {k : PK} : (pQ R).w ds t k = ∃ S, R ds S ∧ ∀ d, S d → k d t := rfl
theorem q_noneI {i : Int} : isNone (.int i) = false := rfl
theorem q_noneN : isNone .none = true := rfl
def p_board : Pm := pD 60 (fun ds => ∃ a b : Int, ds = [.int a, .int b] ∧ 1 ≤ a ∧ a ≤ 4 ∧ 0 ≤ b ∧ b ≤ 8) (fun ds d => ∀ a b : Int, ds = [.int a, .int b] → IsBoard a b d)
def p_amount : Pm := pD 2 (fun ds => ds = []) (fun _ d => ∃ a : Int, d = .int a ∧ 0 ≤ a ∧ a ≤ 1000000000000)
def p_lchanged : Pm := pP fun ds d => ∃ (n : Int) (c : Ctr) (a : Int), ds = [c.d, .int a] ∧ c.Ok n ∧ d = .int (a / c.g * c.e)
def p_lturn : Pm := pP fun ds d => ∃ (n : Int) (cs : List Ctr) (is : List Nat) (a : Int), ds = [boardD n cs, rtD is, .int a] ∧ (∀ c ∈ cs, c.Ok n) ∧ InC cs is ∧ d = .int (coins cs is a)
theorem at_lastN {is : List Nat} {z : Nat} : atI ((is ++ [z]).map fun i : Nat => PyData.int (i : Int)) (-1) = some (.int (z : Int)) := by
  rw [← nums_app]
  exact at_last
theorem at_hd {is : List Nat} (h : 0 < is.length) : atI (is.map fun i : Nat => PyData.int (i : Int)) 0 = some (.int (hd0 is : Int)) := by
  cases is with
  | nil => simp at h
  | cons a is =>
    show atI _ ((0 : Nat) : Int) = _
    rw [atI_nn]
    rfl
section
variable {P : Program} {w : World} {K : PySem.W.Frag} {mg : Str → Option Value} {base : Heap}
def b_amount (K : PySem.W.Frag) : AS K := (AS.ret (AE.callD MC p_draw E0 0 (AA.cons (AE.op (aIx K) (AE.lst (AA.cons (AE.int K 12) (AA.cons (AE.int K 60) (AA.cons (AE.int K 400) (AA.cons (AE.op (aPow K) (AE.int K 10) (AE.int K 6)) (AA.cons (AE.op (aAdd K) (AE.op (aPow K) (AE.int K 10) (AE.int K 12)) (AE.int K 1)) (AA.nil K))))))) (AE.callD MC p_draw E0 0 (AA.cons (AE.int K 5) (AA.nil K)))) (AA.nil K))))
theorem ok_amount {f f1 : Addr} {fd fd1 : FuncData} (h : Has K mg "_law_amount" sAmount ["_law_state"] f fd) (T : Bz mg) (T_next : Has K mg "_law_next" sNext ["_law_state", "_law_many"] f1 fd1) (G_next : FnG P w K mg base CX0 1 f1 fd1 ["_law_state", "_law_many"] (spD K MC p_draw)) : FnG P w K mg base CX0 2 f fd ["_law_state"] (spD K MC p_amount) := by
  refine okD h scAmount (b_amount K) p_amount (fun cd A out s H E hgd hr => ⟨_, (pss_one (ps_ret (pe_callG G_next hgd (hr.mono (by decide)) rfl T_next.m T_next.F.kp T_next.b .nil pass0 (pa_cons (pv 0) (pa_cons (pe_ix (r := rIx K) ix_seq (pe_lst (pa_cons pe_int (pa_cons pe_int (pa_cons pe_int (pa_cons (pe_op op_pow pe_int pe_int) (pa_cons (pe_op (r := rAddU K) op_addU (pe_op op_pow pe_int pe_int) pe_int) pa_nil)))))) (pe_callG G_next hgd (hr.mono (by decide)) rfl T_next.m T_next.F.kp T_next.b .nil pass0 (pa_cons (pv 0) (pa_cons pe_int pa_nil))) (fun _ _ => rfl)) pa_nil))))), by (simp only [b_amount, t_AE_var, t_AE_int, t_AE_bl, t_AE_str, t_AE_non, t_AE_op, t_AE_un, t_AA_nil, t_AA_cons, t_AE_tup, t_AE_lst, t_AE_cb, t_AE_call, t_AE_callD, t_AT_test, t_AT_b, t_AT_not, t_AT_and, t_AT_or, t_AT_yes, t_AE_ifx, t_AE_and, t_AE_or, t_AE_not, t_AO_none, t_AO_some, t_AI_tup, t_AI_lst, t_AI_rng, t_AI_rng2, t_AI_enum, t_AI_rev, t_AG_name, t_AGs_nil, n_AGs_nil, t_AGs_cons, n_AGs_cons, t_AG_tup, t_AF_ae, t_AF_lst, t_AF_lc, t_AF_list, t_AE_sl, t_AE_revT, t_AE_chain, t_AE_isi, t_AE_view, t_AT_view, t_AE_ownIx, t_AE_ownTup, t_AE_ownSl, t_AS_nop, t_AS_brk, t_AS_cnt, t_AS_seq, t_AS_set, t_AS_asg, t_AS_drop, t_AS_par, t_AS_par3, t_AS_ret, t_AS_retN, t_AS_ifS, t_AS_for, t_AS_while, t_AS_setOwn, t_AS_append, t_AS_setAt, t_AS_frz, t_AS_fgt, t_AS_never, t_AF_lstRg, t_AE_tupRg, t_AS_insert, t_AS_aug, t_AS_parB, t_AS_par3B, t_AS_parA, t_AS_tupA, t_AS_tupB, t_aAdd, t_aMul, t_aEq, t_aNe, t_aIsN, t_aNotN, t_aIx, t_aNeg, t_aLen, t_aRepr, t_aInt, t_aIn, t_aNotIn, t_aIsB, t_aIsNotB, t_aTup, t_aMin, t_aMax, t_aI, t_aI0, t_aB0, t_AI_zipM, t_aSortR, t_lenSet, t_ext, t_lc2, t_minD, t_AI_zip, t_asgPop, t_ownLst, t_revL, t_parO, t_AF_rep, t_sortSet]) <;> rfl⟩) (fun ds t k hw => ?_)
  obtain ⟨rfl, tl, hk⟩ := hw
  refine ⟨rfl, ?_⟩
  show (b_amount K).wp [.deck MC] t _
  simp only [w_AE_var, w_AE_int, w_AE_bl, w_AE_str, w_AE_non, w_AE_op, w_AE_un, w_AA_nil, w_AA_cons, w_AE_tup, w_AE_lst, w_AE_cb, w_AE_call, w_AE_callD, w_AT_test, w_AT_b, w_AT_not, w_AT_and, w_AT_or, w_AT_yes, w_AE_ifx, w_AE_and, w_AE_or, w_AE_not, w_AO_none, w_AO_some, w_AI_tup, w_AI_lst, w_AI_rng, w_AI_rng2, w_AI_enum, w_AI_rev, w_AG_name, w_AGs_nil, w_AGs_cons, w_AG_tup, w_AF_ae, w_AF_lst, w_AF_lc, w_AF_list, w_AE_sl, w_AE_revT, w_AE_chain, w_AE_isi, w_AE_view, w_AT_view, w_AE_ownIx, w_AE_ownTup, w_AE_ownSl, w_AS_nop, w_AS_brk, w_AS_cnt, w_AS_seq, w_AS_set, w_AS_asg, w_AS_drop, w_AS_par, w_AS_par3, w_AS_ret, w_AS_retN, w_AS_ifS, w_AS_for, w_AS_while, w_AS_setOwn, w_AS_append, w_AS_setAt, w_AS_frz, w_AS_fgt, w_AS_never, w_AF_lstRg, w_AE_tupRg, w_AS_insert, w_AS_aug, w_AS_parB, w_AS_par3B, w_AS_parA, w_AS_tupA, w_AS_tupB, f_aAdd, f_aMul, f_aEq, f_aNe, f_aIsN, f_aNotN, f_aIx, f_aNeg, f_aLen, f_aRepr, f_aInt, f_aIn, f_aNotIn, f_aIsB, f_aIsNotB, f_aTup, f_aI, f_aI0, f_aB0, f_aMin, f_aMax, q_inL, q_inT, q_notInL, q_notInT, q_isB, q_isNotB, q_addI, q_addT, q_addL, q_int, q_int0, q_bool0, q_mulI, q_mulT, q_mulL, q_eqI, q_eqS, q_neI, q_neS, q_isN, q_notN, q_ixT, q_ixL, q_neg, q_lenT, q_lenL, q_repr, q_two, q_intB, q_tupT, q_tupL, q_slT, q_slL, q_unB, q_unI, q_unT, q_unL, q_unI1, q_unI2, q_unT1, q_unS1T, q_unS1L, q_un1, q_un2, q_un3, q_hd, q_rd, q_ow, q_ctrT, q_ctrI, q_ctrS, q_ctrS2, q_brdT, q_brd0, q_brd1, q_rowI, q_rowT, q_rowT1, q_rowL, q_at0, q_at1, q_at2, q_at3, w_AI_zipM, q_unTL, f_aSortR, sortRF, w_lenSet, w_ext, w_lc2, w_minD, w_AI_zip, q_unTT, w_asgPop, w_ownLst, w_revL, q_unL0, w_parO, w_AF_rep, w_sortSet, wipeE, List.getElem?_cons_zero, List.getElem?_cons_succ, List.set_cons_zero, List.set_cons_succ, if_true, Bool.false_eq_true, if_false, true_and, and_true, Lim, dkS_deck, List.length_cons, List.length_nil, Nat.reduceAdd, Nat.reduceLeDiff, Nat.zero_le, Nat.zero_add, Int.reduceLT, Int.reduceLE, Int.reducePow, Int.reduceNeg, eq_self, decide_true, Bool.not_true, Bool.not_false, q_neB, q_eqB, q_isiR, q_rtT, q_rtT1, q_rtL, q_rtS0, q_rtS1, q_rtI, q_rtA, viewE_cons, viewE_nil, viewS_own, viewS_dat, viewS_deck, flat_int, flat_bool, flat_str, List.cons_append, List.nil_append, b_amount, w_draw, drawW]
  refine ⟨⟨by decide, by decide, by decide⟩, ⟨by decide, by decide, by decide⟩, by omega, fun r r0 r1 => ?_⟩
  obtain ⟨n, en, n0, n1⟩ : ∃ n : Int, atI [PyData.int 12, .int 60, .int 400, .int (10 ^ (6 : Int).toNat), .int (10 ^ (12 : Int).toNat + 1)] r = some (.int n) ∧ 0 < n ∧ n ≤ 1000000000001 := by
    have c : r = 0 ∨ r = 1 ∨ r = 2 ∨ r = 3 ∨ r = 4 := by omega
    rcases c with rfl | rfl | rfl | rfl | rfl <;> exact ⟨_, rfl, by decide, by decide⟩
  refine atW_of en ?_
  simp only [w_AE_var, w_AE_int, w_AE_bl, w_AE_str, w_AE_non, w_AE_op, w_AE_un, w_AA_nil, w_AA_cons, w_AE_tup, w_AE_lst, w_AE_cb, w_AE_call, w_AE_callD, w_AT_test, w_AT_b, w_AT_not, w_AT_and, w_AT_or, w_AT_yes, w_AE_ifx, w_AE_and, w_AE_or, w_AE_not, w_AO_none, w_AO_some, w_AI_tup, w_AI_lst, w_AI_rng, w_AI_rng2, w_AI_enum, w_AI_rev, w_AG_name, w_AGs_nil, w_AGs_cons, w_AG_tup, w_AF_ae, w_AF_lst, w_AF_lc, w_AF_list, w_AE_sl, w_AE_revT, w_AE_chain, w_AE_isi, w_AE_view, w_AT_view, w_AE_ownIx, w_AE_ownTup, w_AE_ownSl, w_AS_nop, w_AS_brk, w_AS_cnt, w_AS_seq, w_AS_set, w_AS_asg, w_AS_drop, w_AS_par, w_AS_par3, w_AS_ret, w_AS_retN, w_AS_ifS, w_AS_for, w_AS_while, w_AS_setOwn, w_AS_append, w_AS_setAt, w_AS_frz, w_AS_fgt, w_AS_never, w_AF_lstRg, w_AE_tupRg, w_AS_insert, w_AS_aug, w_AS_parB, w_AS_par3B, w_AS_parA, w_AS_tupA, w_AS_tupB, f_aAdd, f_aMul, f_aEq, f_aNe, f_aIsN, f_aNotN, f_aIx, f_aNeg, f_aLen, f_aRepr, f_aInt, f_aIn, f_aNotIn, f_aIsB, f_aIsNotB, f_aTup, f_aI, f_aI0, f_aB0, f_aMin, f_aMax, q_inL, q_inT, q_notInL, q_notInT, q_isB, q_isNotB, q_addI, q_addT, q_addL, q_int, q_int0, q_bool0, q_mulI, q_mulT, q_mulL, q_eqI, q_eqS, q_neI, q_neS, q_isN, q_notN, q_ixT, q_ixL, q_neg, q_lenT, q_lenL, q_repr, q_two, q_intB, q_tupT, q_tupL, q_slT, q_slL, q_unB, q_unI, q_unT, q_unL, q_unI1, q_unI2, q_unT1, q_unS1T, q_unS1L, q_un1, q_un2, q_un3, q_hd, q_rd, q_ow, q_ctrT, q_ctrI, q_ctrS, q_ctrS2, q_brdT, q_brd0, q_brd1, q_rowI, q_rowT, q_rowT1, q_rowL, q_at0, q_at1, q_at2, q_at3, w_AI_zipM, q_unTL, f_aSortR, sortRF, w_lenSet, w_ext, w_lc2, w_minD, w_AI_zip, q_unTT, w_asgPop, w_ownLst, w_revL, q_unL0, w_parO, w_AF_rep, w_sortSet, wipeE, List.getElem?_cons_zero, List.getElem?_cons_succ, List.set_cons_zero, List.set_cons_succ, if_true, Bool.false_eq_true, if_false, true_and, and_true, Lim, dkS_deck, List.length_cons, List.length_nil, Nat.reduceAdd, Nat.reduceLeDiff, Nat.zero_le, Nat.zero_add, Int.reduceLT, Int.reduceLE, Int.reducePow, Int.reduceNeg, eq_self, decide_true, Bool.not_true, Bool.not_false, q_neB, q_eqB, q_isiR, q_rtT, q_rtT1, q_rtL, q_rtS0, q_rtS1, q_rtI, q_rtA, viewE_cons, viewE_nil, viewS_own, viewS_dat, viewS_deck, flat_int, flat_bool, flat_str, List.cons_append, List.nil_append, w_draw, drawW]
  exact ⟨⟨by omega, by omega⟩, by omega, fun a a0 a1 => hk _ _ ⟨a, rfl, a0, by omega⟩ (by omega)⟩
def b_lchanged (K : PySem.W.Frag) : AS K := (AS.ret (AE.op (aMul K) (AE.op (aDv K) (AE.var K 1) (AE.op (aIx K) (AE.var K 0) (AE.int K 2))) (AE.op (aIx K) (AE.var K 0) (AE.int K 3))))
theorem ok_lchanged {f : Addr} {fd : FuncData} (h : Has K mg "_law_changed" sLchanged ["_law_counter", "_law_amount_here"] f fd) (T : Bz mg) : FnG P w K mg base CX0 1 f fd ["_law_counter", "_law_amount_here"] (spA K p_lchanged) := by
  refine okA h scLchanged (b_lchanged K) p_lchanged (fun cd A out s H E hgd hr => ⟨_, (pss_one (ps_ret (pe_op (r := rMulU K) op_mulU (pe_op op_dvU (pv 1) (pe_ix (r := rIx K) ix_seq (pv 0) pe_int (fun _ _ => rfl))) (pe_ix (r := rIx K) ix_seq (pv 0) pe_int (fun _ _ => rfl))))), by (simp only [b_lchanged, t_AE_var, t_AE_int, t_AE_bl, t_AE_str, t_AE_non, t_AE_op, t_AE_un, t_AA_nil, t_AA_cons, t_AE_tup, t_AE_lst, t_AE_cb, t_AE_call, t_AE_callD, t_AT_test, t_AT_b, t_AT_not, t_AT_and, t_AT_or, t_AT_yes, t_AE_ifx, t_AE_and, t_AE_or, t_AE_not, t_AO_none, t_AO_some, t_AI_tup, t_AI_lst, t_AI_rng, t_AI_rng2, t_AI_enum, t_AI_rev, t_AG_name, t_AGs_nil, n_AGs_nil, t_AGs_cons, n_AGs_cons, t_AG_tup, t_AF_ae, t_AF_lst, t_AF_lc, t_AF_list, t_AE_sl, t_AE_revT, t_AE_chain, t_AE_isi, t_AE_view, t_AT_view, t_AE_ownIx, t_AE_ownTup, t_AE_ownSl, t_AS_nop, t_AS_brk, t_AS_cnt, t_AS_seq, t_AS_set, t_AS_asg, t_AS_drop, t_AS_par, t_AS_par3, t_AS_ret, t_AS_retN, t_AS_ifS, t_AS_for, t_AS_while, t_AS_setOwn, t_AS_append, t_AS_setAt, t_AS_frz, t_AS_fgt, t_AS_never, t_AF_lstRg, t_AE_tupRg, t_AS_insert, t_AS_aug, t_AS_parB, t_AS_par3B, t_AS_parA, t_AS_tupA, t_AS_tupB, t_aAdd, t_aMul, t_aEq, t_aNe, t_aIsN, t_aNotN, t_aIx, t_aNeg, t_aLen, t_aRepr, t_aInt, t_aIn, t_aNotIn, t_aIsB, t_aIsNotB, t_aTup, t_aMin, t_aMax, t_aI, t_aI0, t_aB0, t_AI_zipM, t_aSortR, t_lenSet, t_ext, t_lc2, t_minD, t_AI_zip, t_asgPop, t_ownLst, t_revL, t_parO, t_AF_rep, t_sortSet]) <;> rfl⟩) (fun ds t k hw => ?_)
  obtain ⟨d, ⟨n, c, a, rfl, hc, rfl⟩, hk⟩ := hw
  refine ⟨rfl, ?_⟩
  show (b_lchanged K).wp [.dat c.d, .dat (.int a)] t _
  have := hc.g0
  have := hc.g1
  have := hc.e0
  have := hc.e1
  simp only [w_AE_var, w_AE_int, w_AE_bl, w_AE_str, w_AE_non, w_AE_op, w_AE_un, w_AA_nil, w_AA_cons, w_AE_tup, w_AE_lst, w_AE_cb, w_AE_call, w_AE_callD, w_AT_test, w_AT_b, w_AT_not, w_AT_and, w_AT_or, w_AT_yes, w_AE_ifx, w_AE_and, w_AE_or, w_AE_not, w_AO_none, w_AO_some, w_AI_tup, w_AI_lst, w_AI_rng, w_AI_rng2, w_AI_enum, w_AI_rev, w_AG_name, w_AGs_nil, w_AGs_cons, w_AG_tup, w_AF_ae, w_AF_lst, w_AF_lc, w_AF_list, w_AE_sl, w_AE_revT, w_AE_chain, w_AE_isi, w_AE_view, w_AT_view, w_AE_ownIx, w_AE_ownTup, w_AE_ownSl, w_AS_nop, w_AS_brk, w_AS_cnt, w_AS_seq, w_AS_set, w_AS_asg, w_AS_drop, w_AS_par, w_AS_par3, w_AS_ret, w_AS_retN, w_AS_ifS, w_AS_for, w_AS_while, w_AS_setOwn, w_AS_append, w_AS_setAt, w_AS_frz, w_AS_fgt, w_AS_never, w_AF_lstRg, w_AE_tupRg, w_AS_insert, w_AS_aug, w_AS_parB, w_AS_par3B, w_AS_parA, w_AS_tupA, w_AS_tupB, f_aAdd, f_aMul, f_aEq, f_aNe, f_aIsN, f_aNotN, f_aIx, f_aNeg, f_aLen, f_aRepr, f_aInt, f_aIn, f_aNotIn, f_aIsB, f_aIsNotB, f_aTup, f_aI, f_aI0, f_aB0, f_aMin, f_aMax, q_inL, q_inT, q_notInL, q_notInT, q_isB, q_isNotB, q_addI, q_addT, q_addL, q_int, q_int0, q_bool0, q_mulI, q_mulT, q_mulL, q_eqI, q_eqS, q_neI, q_neS, q_isN, q_notN, q_ixT, q_ixL, q_neg, q_lenT, q_lenL, q_repr, q_two, q_intB, q_tupT, q_tupL, q_slT, q_slL, q_unB, q_unI, q_unT, q_unL, q_unI1, q_unI2, q_unT1, q_unS1T, q_unS1L, q_un1, q_un2, q_un3, q_hd, q_rd, q_ow, q_ctrT, q_ctrI, q_ctrS, q_ctrS2, q_brdT, q_brd0, q_brd1, q_rowI, q_rowT, q_rowT1, q_rowL, q_at0, q_at1, q_at2, q_at3, w_AI_zipM, q_unTL, f_aSortR, sortRF, w_lenSet, w_ext, w_lc2, w_minD, w_AI_zip, q_unTT, w_asgPop, w_ownLst, w_revL, q_unL0, w_parO, w_AF_rep, w_sortSet, wipeE, List.getElem?_cons_zero, List.getElem?_cons_succ, List.set_cons_zero, List.set_cons_succ, if_true, Bool.false_eq_true, if_false, true_and, and_true, Lim, dkS_deck, List.length_cons, List.length_nil, Nat.reduceAdd, Nat.reduceLeDiff, Nat.zero_le, Nat.zero_add, Int.reduceLT, Int.reduceLE, Int.reducePow, Int.reduceNeg, eq_self, decide_true, Bool.not_true, Bool.not_false, q_neB, q_eqB, q_isiR, q_rtT, q_rtT1, q_rtL, q_rtS0, q_rtS1, q_rtI, q_rtA, viewE_cons, viewE_nil, viewS_own, viewS_dat, viewS_deck, flat_int, flat_bool, flat_str, List.cons_append, List.nil_append, b_lchanged]
  exact ⟨⟨by omega, by omega⟩, .inr ⟨by omega, by omega⟩, hk⟩
def b_board_1b3 (K : PySem.W.Frag) : AS K := (AS.append 5 (AA.cons (AE.tup (AA.cons (AE.var K 7) (AA.cons (AE.var K 9) (AA.cons (AE.op (aIx K) (AE.var K 8) (AE.int K 0)) (AA.cons (AE.op (aIx K) (AE.var K 8) (AE.int K 1)) (AA.nil K)))))) (AA.nil K)))
def b_board_1b2 (K : PySem.W.Frag) : AS K := (AS.seq (AS.ifS (AT.and (AT.test (AE.op (aEq K) (AE.var K 4) (AE.int K 2))) (AT.test (AE.op (aGt K) (AE.op (aIx K) (AE.var K 8) (AE.int K 0)) (AE.op (aIx K) (AE.var K 8) (AE.int K 1))))) (AS.set 8 (AE.revL (AE.var K 8))) (AS.nop K)) (b_board_1b3 K))
def b_board_1b1 (K : PySem.W.Frag) : AS K := (AS.seq (AS.set 9 (AE.op (aMod K) (AE.op (aAdd K) (AE.op (aAdd K) (AE.var K 7) (AE.int K 1)) (AE.op (aMul K) (AE.callD MC p_draw E0 0 (AA.cons (AE.op (aSub K) (AE.var K 3) (AE.int K 1)) (AA.nil K))) (AE.cb (aInt K) (AA.cons (AE.op (aNe K) (AE.var K 4) (AE.int K 1)) (AA.nil K))))) (AE.var K 3))) (b_board_1b2 K))
def b_board_1b0 (K : PySem.W.Frag) : AS K := (AS.seq (AS.par 7 8 (AA.cons (AE.callD MC p_draw E0 0 (AA.cons (AE.var K 3) (AA.nil K))) (AA.cons (AF.ae (AF.lc (AI.rng (AA.cons (AE.int K 2) (AA.nil K))) (AG.name K 10) (AT.yes K) (AE.op (aAdd K) (AE.int K 1) (AE.callD MC p_draw E0 0 (AA.cons (AE.int K 5) (AA.nil K)))) [10] (show ∀ j ∈ (AG.name K 10).sl, j ∈ [10] from fun _ h => h))) (AA.nil K)))) (b_board_1b1 K))
def b_board_2 (K : PySem.W.Frag) : AS K := (AS.ret (AE.tup (AA.cons (AE.var K 3) (AA.cons (AE.ownTup K 5) (AA.nil K)))))
def b_board_1 (K : PySem.W.Frag) : AS K := (AS.seq (AS.for (AI.rng (AA.cons (AE.op (aMul K) (AE.callD MC p_draw E0 0 (AA.cons (AE.op (aAdd K) (AE.var K 2) (AE.int K 1)) (AA.nil K))) (AE.cb (aInt K) (AA.cons (AE.op (aGt K) (AE.var K 3) (AE.int K 1)) (AA.nil K)))) (AA.nil K))) (AG.name K 6) (b_board_1b0 K)) (b_board_2 K))
def b_board (K : PySem.W.Frag) : AS K := (AS.seq (AS.par3B 3 4 5 (AE.op (aAdd K) (AE.int K 1) (AE.callD MC p_draw E0 0 (AA.cons (AE.var K 1) (AA.nil K)))) (AE.callD MC p_draw E0 0 (AA.cons (AE.int K 3) (AA.nil K))) (AF.lst (AA.nil K))) (b_board_1 K))
theorem ok_board {f f1 : Addr} {fd fd1 : FuncData} (h : Has K mg "_law_board" sBoard ["_law_state", "_law_most", "_law_counters"] f fd) (T : Bz mg) (T_next : Has K mg "_law_next" sNext ["_law_state", "_law_many"] f1 fd1) (G_next : FnG P w K mg base CX0 1 f1 fd1 ["_law_state", "_law_many"] (spD K MC p_draw)) : FnG P w K mg base CX0 2 f fd ["_law_state", "_law_most", "_law_counters"] (spD K MC p_board) := by
  refine okD h scBoard (b_board K) p_board (fun cd A out s H E hgd hr => ⟨_, (pss_cons (ps_par3 (i := 3) (j := 4) (l := 5) rfl scBoard.nd rfl rfl rfl (by decide) (by decide) (by decide) rfl rfl rfl (pa_cons (pe_op (r := rAddU K) op_addU pe_int (pe_callG G_next hgd (hr.mono (by decide)) rfl T_next.m T_next.F.kp T_next.b .nil pass0 (pa_cons (pv 0) (pa_cons (pv 1) pa_nil)))) (pa_cons (pe_callG G_next hgd (hr.mono (by decide)) rfl T_next.m T_next.F.kp T_next.b .nil pass0 (pa_cons (pv 0) (pa_cons pe_int pa_nil))) (pa_cons (pe_lst pa_nil) pa_nil))) rfl)
      (pss_cons (ps_for PassesOwn.never rfl (pi_range1 rfl T.z_range (pa_cons (pe_op (r := rMulU K) op_mulU (pe_callG G_next hgd (hr.mono (by decide)) rfl T_next.m T_next.F.kp T_next.b .nil pass0 (pa_cons (pv 0) (pa_cons (pe_op (r := rAddU K) op_addU (pv 2) pe_int) pa_nil))) (pe_callTy call_intU rfl T.z_int boot_intU (pa_cons (pe_cmpR op_gt (pv 3) pe_int (nomark _)) pa_nil))) pa_nil)) (pg_name (i := 6) scBoard.nd rfl (Or.inl rfl))
        (pss_cons (ps_par (i := 7) (j := 8) rfl scBoard.nd rfl rfl (by decide) rfl rfl (pa_cons (pe_callG G_next hgd (hr.mono (by decide)) rfl T_next.m T_next.F.kp T_next.b .nil pass0 (pa_cons (pv 0) (pa_cons (pv 3) pa_nil))) (pa_cons (pe_lc (own := [("_law_j", 10)]) rfl scBoard.nd (pi_range1 rfl T.z_range (pa_cons pe_int pa_nil)) (blkOk_by (N := NscBoard) (sc := defScope sBoard) (by decide +kernel)) (fun _ _ _ _ _ => (pg_name (i := 10) scBoard.nd rfl (Or.inl rfl))) (fun _ _ _ _ _ => pts_nil) (fun _ _ _ _ _ => (pe_op (r := rAddU K) op_addU pe_int (pe_callG G_next hgd (hr.mono (by decide)) rfl T_next.m T_next.F.kp T_next.b .nil pass0 (pa_cons (pv 0) (pa_cons pe_int pa_nil)))))) pa_nil)) rfl)
        (pss_cons (ps_set (i := 9) scBoard.nd rfl (Or.inl rfl) (pe_op op_mod (pe_op (r := rAddU K) op_addU (pe_op (r := rAddU K) op_addU (pv 7) pe_int) (pe_op (r := rMulU K) op_mulU (pe_callG G_next hgd (hr.mono (by decide)) rfl T_next.m T_next.F.kp T_next.b .nil pass0 (pa_cons (pv 0) (pa_cons (pe_op op_sub (pv 3) pe_int) pa_nil))) (pe_callTy call_intU rfl T.z_int boot_intU (pa_cons (pe_cmpR (r := rNeU K) (op_neU hr.units) (pv 4) pe_int (nomark _)) pa_nil)))) (pv 3)))
        (pss_cons (ps_if (PW.pt (pw_and (pt_cmpR (r := rEqU K) (op_eqU hr.units) (pv 4) pe_int (nomark _)) (pw_and1 (pt_cmpR op_gt (pe_ix (r := rIx K) ix_seq (pv 8) pe_int (fun _ _ => rfl)) (pe_ix (r := rIx K) ix_seq (pv 8) pe_int (fun _ _ => rfl)) (nomark _)))))
          (pss_one (ps_set (i := 8) scBoard.nd rfl (Or.inl rfl) (pe_revL (pv 8))))
          pss_nil)
        (pss_one (ps_expr (pe_bm PySem.F.plainAttrs_list PySem.F.slot_list_append PySem.F.type_list_append mt_append (pv 5) (pa_cons (pe_tup (pa_cons (pv 7) (pa_cons (pv 9) (pa_cons (pe_ix (r := rIx K) ix_seq (pv 8) pe_int (fun _ _ => rfl)) (pa_cons (pe_ix (r := rIx K) ix_seq (pv 8) pe_int (fun _ _ => rfl)) pa_nil))))) pa_nil))))))))
      (pss_one (ps_ret (pe_tup (pa_cons (pv 3) (pa_cons (pe_callTy (r := rTupU K) call_tupU rfl T.z_tuple boot_tupleU (pa_cons (pv 5) pa_nil)) pa_nil))))))), by (simp only [b_board_1b3, b_board_1b2, b_board_1b1, b_board_1b0, b_board_2, b_board_1, b_board, t_AE_var, t_AE_int, t_AE_bl, t_AE_str, t_AE_non, t_AE_op, t_AE_un, t_AA_nil, t_AA_cons, t_AE_tup, t_AE_lst, t_AE_cb, t_AE_call, t_AE_callD, t_AT_test, t_AT_b, t_AT_not, t_AT_and, t_AT_or, t_AT_yes, t_AE_ifx, t_AE_and, t_AE_or, t_AE_not, t_AO_none, t_AO_some, t_AI_tup, t_AI_lst, t_AI_rng, t_AI_rng2, t_AI_enum, t_AI_rev, t_AG_name, t_AGs_nil, n_AGs_nil, t_AGs_cons, n_AGs_cons, t_AG_tup, t_AF_ae, t_AF_lst, t_AF_lc, t_AF_list, t_AE_sl, t_AE_revT, t_AE_chain, t_AE_isi, t_AE_view, t_AT_view, t_AE_ownIx, t_AE_ownTup, t_AE_ownSl, t_AS_nop, t_AS_brk, t_AS_cnt, t_AS_seq, t_AS_set, t_AS_asg, t_AS_drop, t_AS_par, t_AS_par3, t_AS_ret, t_AS_retN, t_AS_ifS, t_AS_for, t_AS_while, t_AS_setOwn, t_AS_append, t_AS_setAt, t_AS_frz, t_AS_fgt, t_AS_never, t_AF_lstRg, t_AE_tupRg, t_AS_insert, t_AS_aug, t_AS_parB, t_AS_par3B, t_AS_parA, t_AS_tupA, t_AS_tupB, t_aAdd, t_aMul, t_aEq, t_aNe, t_aIsN, t_aNotN, t_aIx, t_aNeg, t_aLen, t_aRepr, t_aInt, t_aIn, t_aNotIn, t_aIsB, t_aIsNotB, t_aTup, t_aMin, t_aMax, t_aI, t_aI0, t_aB0, t_AI_zipM, t_aSortR, t_lenSet, t_ext, t_lc2, t_minD, t_AI_zip, t_asgPop, t_ownLst, t_revL, t_parO, t_AF_rep, t_sortSet]) <;> rfl⟩) (fun ds t k hw => ?_)
  obtain ⟨⟨a, b, rfl, a0, a1, b0, b1⟩, tl, hk⟩ := hw
  refine ⟨rfl, ?_⟩
  show (b_board K).wp [.deck MC, .dat (.int a), .dat (.int b), .un, .un, .un, .un, .un, .un, .un, .un] t _
  simp only [w_AE_var, w_AE_int, w_AE_bl, w_AE_str, w_AE_non, w_AE_op, w_AE_un, w_AA_nil, w_AA_cons, w_AE_tup, w_AE_lst, w_AE_cb, w_AE_call, w_AE_callD, w_AT_test, w_AT_b, w_AT_not, w_AT_and, w_AT_or, w_AT_yes, w_AE_ifx, w_AE_and, w_AE_or, w_AE_not, w_AO_none, w_AO_some, w_AI_tup, w_AI_lst, w_AI_rng, w_AI_rng2, w_AI_enum, w_AI_rev, w_AG_name, w_AGs_nil, w_AGs_cons, w_AG_tup, w_AF_ae, w_AF_lst, w_AF_lc, w_AF_list, w_AE_sl, w_AE_revT, w_AE_chain, w_AE_isi, w_AE_view, w_AT_view, w_AE_ownIx, w_AE_ownTup, w_AE_ownSl, w_AS_nop, w_AS_brk, w_AS_cnt, w_AS_seq, w_AS_set, w_AS_asg, w_AS_drop, w_AS_par, w_AS_par3, w_AS_ret, w_AS_retN, w_AS_ifS, w_AS_for, w_AS_while, w_AS_setOwn, w_AS_append, w_AS_setAt, w_AS_frz, w_AS_fgt, w_AS_never, w_AF_lstRg, w_AE_tupRg, w_AS_insert, w_AS_aug, w_AS_parB, w_AS_par3B, w_AS_parA, w_AS_tupA, w_AS_tupB, f_aAdd, f_aMul, f_aEq, f_aNe, f_aIsN, f_aNotN, f_aIx, f_aNeg, f_aLen, f_aRepr, f_aInt, f_aIn, f_aNotIn, f_aIsB, f_aIsNotB, f_aTup, f_aI, f_aI0, f_aB0, f_aMin, f_aMax, q_inL, q_inT, q_notInL, q_notInT, q_isB, q_isNotB, q_addI, q_addT, q_addL, q_int, q_int0, q_bool0, q_mulI, q_mulT, q_mulL, q_eqI, q_eqS, q_neI, q_neS, q_isN, q_notN, q_ixT, q_ixL, q_neg, q_lenT, q_lenL, q_repr, q_two, q_intB, q_tupT, q_tupL, q_slT, q_slL, q_unB, q_unI, q_unT, q_unL, q_unI1, q_unI2, q_unT1, q_unS1T, q_unS1L, q_un1, q_un2, q_un3, q_hd, q_rd, q_ow, q_ctrT, q_ctrI, q_ctrS, q_ctrS2, q_brdT, q_brd0, q_brd1, q_rowI, q_rowT, q_rowT1, q_rowL, q_at0, q_at1, q_at2, q_at3, w_AI_zipM, q_unTL, f_aSortR, sortRF, w_lenSet, w_ext, w_lc2, w_minD, w_AI_zip, q_unTT, w_asgPop, w_ownLst, w_revL, q_unL0, w_parO, w_AF_rep, w_sortSet, wipeE, List.getElem?_cons_zero, List.getElem?_cons_succ, List.set_cons_zero, List.set_cons_succ, if_true, Bool.false_eq_true, if_false, true_and, and_true, Lim, dkS_deck, List.length_cons, List.length_nil, Nat.reduceAdd, Nat.reduceLeDiff, Nat.zero_le, Nat.zero_add, Int.reduceLT, Int.reduceLE, Int.reducePow, Int.reduceNeg, eq_self, decide_true, Bool.not_true, Bool.not_false, q_neB, q_eqB, q_isiR, q_rtT, q_rtT1, q_rtL, q_rtS0, q_rtS1, q_rtI, q_rtA, viewE_cons, viewE_nil, viewS_own, viewS_dat, viewS_deck, flat_int, flat_bool, flat_str, List.cons_append, List.nil_append, b_board, w_draw, drawW]
  refine ⟨⟨by omega, by omega⟩, by omega, fun r r0 r1 => ⟨by omega, fun wy w0 w1 => ?_⟩⟩
  obtain ⟨n, hn, n0, n1⟩ : ∃ n : Int, 1 + r = n ∧ 1 ≤ n ∧ n ≤ a := ⟨_, rfl, by omega, by omega⟩
  rw [hn]
  simp only [w_AE_var, w_AE_int, w_AE_bl, w_AE_str, w_AE_non, w_AE_op, w_AE_un, w_AA_nil, w_AA_cons, w_AE_tup, w_AE_lst, w_AE_cb, w_AE_call, w_AE_callD, w_AT_test, w_AT_b, w_AT_not, w_AT_and, w_AT_or, w_AT_yes, w_AE_ifx, w_AE_and, w_AE_or, w_AE_not, w_AO_none, w_AO_some, w_AI_tup, w_AI_lst, w_AI_rng, w_AI_rng2, w_AI_enum, w_AI_rev, w_AG_name, w_AGs_nil, w_AGs_cons, w_AG_tup, w_AF_ae, w_AF_lst, w_AF_lc, w_AF_list, w_AE_sl, w_AE_revT, w_AE_chain, w_AE_isi, w_AE_view, w_AT_view, w_AE_ownIx, w_AE_ownTup, w_AE_ownSl, w_AS_nop, w_AS_brk, w_AS_cnt, w_AS_seq, w_AS_set, w_AS_asg, w_AS_drop, w_AS_par, w_AS_par3, w_AS_ret, w_AS_retN, w_AS_ifS, w_AS_for, w_AS_while, w_AS_setOwn, w_AS_append, w_AS_setAt, w_AS_frz, w_AS_fgt, w_AS_never, w_AF_lstRg, w_AE_tupRg, w_AS_insert, w_AS_aug, w_AS_parB, w_AS_par3B, w_AS_parA, w_AS_tupA, w_AS_tupB, f_aAdd, f_aMul, f_aEq, f_aNe, f_aIsN, f_aNotN, f_aIx, f_aNeg, f_aLen, f_aRepr, f_aInt, f_aIn, f_aNotIn, f_aIsB, f_aIsNotB, f_aTup, f_aI, f_aI0, f_aB0, f_aMin, f_aMax, q_inL, q_inT, q_notInL, q_notInT, q_isB, q_isNotB, q_addI, q_addT, q_addL, q_int, q_int0, q_bool0, q_mulI, q_mulT, q_mulL, q_eqI, q_eqS, q_neI, q_neS, q_isN, q_notN, q_ixT, q_ixL, q_neg, q_lenT, q_lenL, q_repr, q_two, q_intB, q_tupT, q_tupL, q_slT, q_slL, q_unB, q_unI, q_unT, q_unL, q_unI1, q_unI2, q_unT1, q_unS1T, q_unS1L, q_un1, q_un2, q_un3, q_hd, q_rd, q_ow, q_ctrT, q_ctrI, q_ctrS, q_ctrS2, q_brdT, q_brd0, q_brd1, q_rowI, q_rowT, q_rowT1, q_rowL, q_at0, q_at1, q_at2, q_at3, w_AI_zipM, q_unTL, f_aSortR, sortRF, w_lenSet, w_ext, w_lc2, w_minD, w_AI_zip, q_unTT, w_asgPop, w_ownLst, w_revL, q_unL0, w_parO, w_AF_rep, w_sortSet, wipeE, List.getElem?_cons_zero, List.getElem?_cons_succ, List.set_cons_zero, List.set_cons_succ, if_true, Bool.false_eq_true, if_false, true_and, and_true, Lim, dkS_deck, List.length_cons, List.length_nil, Nat.reduceAdd, Nat.reduceLeDiff, Nat.zero_le, Nat.zero_add, Int.reduceLT, Int.reduceLE, Int.reducePow, Int.reduceNeg, eq_self, decide_true, Bool.not_true, Bool.not_false, q_neB, q_eqB, q_isiR, q_rtT, q_rtT1, q_rtL, q_rtS0, q_rtS1, q_rtI, q_rtA, viewE_cons, viewE_nil, viewS_own, viewS_dat, viewS_deck, flat_int, flat_bool, flat_str, List.cons_append, List.nil_append, b_board_1, w_draw, drawW]
  refine ⟨⟨by omega, by omega⟩, by omega, fun q q0 q1 => ?_⟩
  obtain ⟨N, hN, hNb, hN1⟩ : ∃ N : Nat, (q * if decide (1 < n) = true then 1 else 0) = (N : Int) ∧ (N : Int) ≤ b ∧ (1 < n ∨ N = 0) := by
    by_cases h : 1 < n
    · exact ⟨q.toNat, by rw [decide_eq_true h, if_pos rfl]; omega, by omega, .inl h⟩
    · exact ⟨0, by rw [decide_eq_false h]; simp, by omega, .inr rfl⟩
  rw [hN]
  refine ⟨.inr ⟨by split <;> decide, by split <;> decide⟩, ⟨by omega, by omega⟩, fun i e' t' => ∃ (ds : List Ctr) (y6 y7 y8 y9 y10 : Sl), e' = [.deck MC, .dat (.int a), .dat (.int b), .dat (.int n), .dat (.int wy), .own (ds.map Ctr.d), y6, y7, y8, y9, y10] ∧ t' ≤ t + 3 + 4 * i ∧ ds.length = i ∧ ∀ c ∈ ds, c.Ok n, ⟨[], _, _, _, _, _, rfl, by omega, rfl, fun c hc => by simp at hc⟩, ?_, ?_⟩
  · rintro i d e' t' hd ⟨ds, y6, y7, y8, y9, y10, rfl, lt, ld, hds⟩
    obtain ⟨hi, rfl⟩ := rng0_get hd
    have n2 : 2 ≤ n := by omega
    simp only [w_AE_var, w_AE_int, w_AE_bl, w_AE_str, w_AE_non, w_AE_op, w_AE_un, w_AA_nil, w_AA_cons, w_AE_tup, w_AE_lst, w_AE_cb, w_AE_call, w_AE_callD, w_AT_test, w_AT_b, w_AT_not, w_AT_and, w_AT_or, w_AT_yes, w_AE_ifx, w_AE_and, w_AE_or, w_AE_not, w_AO_none, w_AO_some, w_AI_tup, w_AI_lst, w_AI_rng, w_AI_rng2, w_AI_enum, w_AI_rev, w_AG_name, w_AGs_nil, w_AGs_cons, w_AG_tup, w_AF_ae, w_AF_lst, w_AF_lc, w_AF_list, w_AE_sl, w_AE_revT, w_AE_chain, w_AE_isi, w_AE_view, w_AT_view, w_AE_ownIx, w_AE_ownTup, w_AE_ownSl, w_AS_nop, w_AS_brk, w_AS_cnt, w_AS_seq, w_AS_set, w_AS_asg, w_AS_drop, w_AS_par, w_AS_par3, w_AS_ret, w_AS_retN, w_AS_ifS, w_AS_for, w_AS_while, w_AS_setOwn, w_AS_append, w_AS_setAt, w_AS_frz, w_AS_fgt, w_AS_never, w_AF_lstRg, w_AE_tupRg, w_AS_insert, w_AS_aug, w_AS_parB, w_AS_par3B, w_AS_parA, w_AS_tupA, w_AS_tupB, f_aAdd, f_aMul, f_aEq, f_aNe, f_aIsN, f_aNotN, f_aIx, f_aNeg, f_aLen, f_aRepr, f_aInt, f_aIn, f_aNotIn, f_aIsB, f_aIsNotB, f_aTup, f_aI, f_aI0, f_aB0, f_aMin, f_aMax, q_inL, q_inT, q_notInL, q_notInT, q_isB, q_isNotB, q_addI, q_addT, q_addL, q_int, q_int0, q_bool0, q_mulI, q_mulT, q_mulL, q_eqI, q_eqS, q_neI, q_neS, q_isN, q_notN, q_ixT, q_ixL, q_neg, q_lenT, q_lenL, q_repr, q_two, q_intB, q_tupT, q_tupL, q_slT, q_slL, q_unB, q_unI, q_unT, q_unL, q_unI1, q_unI2, q_unT1, q_unS1T, q_unS1L, q_un1, q_un2, q_un3, q_hd, q_rd, q_ow, q_ctrT, q_ctrI, q_ctrS, q_ctrS2, q_brdT, q_brd0, q_brd1, q_rowI, q_rowT, q_rowT1, q_rowL, q_at0, q_at1, q_at2, q_at3, w_AI_zipM, q_unTL, f_aSortR, sortRF, w_lenSet, w_ext, w_lc2, w_minD, w_AI_zip, q_unTT, w_asgPop, w_ownLst, w_revL, q_unL0, w_parO, w_AF_rep, w_sortSet, wipeE, List.getElem?_cons_zero, List.getElem?_cons_succ, List.set_cons_zero, List.set_cons_succ, if_true, Bool.false_eq_true, if_false, true_and, and_true, Lim, dkS_deck, List.length_cons, List.length_nil, Nat.reduceAdd, Nat.reduceLeDiff, Nat.zero_le, Nat.zero_add, Int.reduceLT, Int.reduceLE, Int.reducePow, Int.reduceNeg, eq_self, decide_true, Bool.not_true, Bool.not_false, q_neB, q_eqB, q_isiR, q_rtT, q_rtT1, q_rtL, q_rtS0, q_rtS1, q_rtI, q_rtA, viewE_cons, viewE_nil, viewS_own, viewS_dat, viewS_deck, flat_int, flat_bool, flat_str, List.cons_append, List.nil_append, b_board_1b0, w_draw, drawW]
    refine ⟨⟨by omega, by omega⟩, by omega, fun s s0 s1 => ⟨by rw [rngD_length]; decide, fun x acc t2 => t2 ≤ t' + 1 + x ∧ acc.length = x ∧ ∀ d ∈ acc, ∃ z : Int, d = .int z ∧ 1 ≤ z ∧ z ≤ 5, ⟨by omega, rfl, fun d hd => by simp at hd⟩, ?_, ?_⟩⟩
    · rintro x d acc t2 hx ⟨l2, la, ha⟩
      obtain ⟨hx, rfl⟩ := rng0_get hx
      refine ⟨by omega, fun r r0 r1 => ⟨by omega, by rw [List.length_append, la]; rfl, fun d hd => ?_⟩⟩
      rcases List.mem_append.mp hd with hd | hd
      · exact ha d hd
      · rw [List.mem_singleton.mp hd]
        exact ⟨_, rfl, by omega, by omega⟩
    · rintro acc t2 ⟨l2, la, ha⟩
      rw [rngD_length] at l2 la
      match acc, la, ha with
      | [d1, d2], _, ha =>
        obtain ⟨g, rfl, g0, g1⟩ := ha d1 (by simp)
        obtain ⟨e, rfl, e0, e1⟩ := ha d2 (by simp)
        simp only [w_AE_var, w_AE_int, w_AE_bl, w_AE_str, w_AE_non, w_AE_op, w_AE_un, w_AA_nil, w_AA_cons, w_AE_tup, w_AE_lst, w_AE_cb, w_AE_call, w_AE_callD, w_AT_test, w_AT_b, w_AT_not, w_AT_and, w_AT_or, w_AT_yes, w_AE_ifx, w_AE_and, w_AE_or, w_AE_not, w_AO_none, w_AO_some, w_AI_tup, w_AI_lst, w_AI_rng, w_AI_rng2, w_AI_enum, w_AI_rev, w_AG_name, w_AGs_nil, w_AGs_cons, w_AG_tup, w_AF_ae, w_AF_lst, w_AF_lc, w_AF_list, w_AE_sl, w_AE_revT, w_AE_chain, w_AE_isi, w_AE_view, w_AT_view, w_AE_ownIx, w_AE_ownTup, w_AE_ownSl, w_AS_nop, w_AS_brk, w_AS_cnt, w_AS_seq, w_AS_set, w_AS_asg, w_AS_drop, w_AS_par, w_AS_par3, w_AS_ret, w_AS_retN, w_AS_ifS, w_AS_for, w_AS_while, w_AS_setOwn, w_AS_append, w_AS_setAt, w_AS_frz, w_AS_fgt, w_AS_never, w_AF_lstRg, w_AE_tupRg, w_AS_insert, w_AS_aug, w_AS_parB, w_AS_par3B, w_AS_parA, w_AS_tupA, w_AS_tupB, f_aAdd, f_aMul, f_aEq, f_aNe, f_aIsN, f_aNotN, f_aIx, f_aNeg, f_aLen, f_aRepr, f_aInt, f_aIn, f_aNotIn, f_aIsB, f_aIsNotB, f_aTup, f_aI, f_aI0, f_aB0, f_aMin, f_aMax, q_inL, q_inT, q_notInL, q_notInT, q_isB, q_isNotB, q_addI, q_addT, q_addL, q_int, q_int0, q_bool0, q_mulI, q_mulT, q_mulL, q_eqI, q_eqS, q_neI, q_neS, q_isN, q_notN, q_ixT, q_ixL, q_neg, q_lenT, q_lenL, q_repr, q_two, q_intB, q_tupT, q_tupL, q_slT, q_slL, q_unB, q_unI, q_unT, q_unL, q_unI1, q_unI2, q_unT1, q_unS1T, q_unS1L, q_un1, q_un2, q_un3, q_hd, q_rd, q_ow, q_ctrT, q_ctrI, q_ctrS, q_ctrS2, q_brdT, q_brd0, q_brd1, q_rowI, q_rowT, q_rowT1, q_rowL, q_at0, q_at1, q_at2, q_at3, w_AI_zipM, q_unTL, f_aSortR, sortRF, w_lenSet, w_ext, w_lc2, w_minD, w_AI_zip, q_unTT, w_asgPop, w_ownLst, w_revL, q_unL0, w_parO, w_AF_rep, w_sortSet, wipeE, List.getElem?_cons_zero, List.getElem?_cons_succ, List.set_cons_zero, List.set_cons_succ, if_true, Bool.false_eq_true, if_false, true_and, and_true, Lim, dkS_deck, List.length_cons, List.length_nil, Nat.reduceAdd, Nat.reduceLeDiff, Nat.zero_le, Nat.zero_add, Int.reduceLT, Int.reduceLE, Int.reducePow, Int.reduceNeg, eq_self, decide_true, Bool.not_true, Bool.not_false, q_neB, q_eqB, q_isiR, q_rtT, q_rtT1, q_rtL, q_rtS0, q_rtS1, q_rtI, q_rtA, viewE_cons, viewE_nil, viewS_own, viewS_dat, viewS_deck, flat_int, flat_bool, flat_str, List.cons_append, List.nil_append, b_board_1b1, w_draw, drawW]
        refine ⟨⟨by omega, by omega⟩, by omega, fun v v0 v1 => ?_⟩
        obtain ⟨u, hu, u0, u1⟩ : ∃ u : Int, (v * if (!decide (wy = 1)) = true then 1 else 0) = u ∧ 0 ≤ u ∧ u < n - 1 := by
          by_cases h : wy = 1
          · exact ⟨0, by rw [decide_eq_true h]; simp, by omega, by omega⟩
          · exact ⟨v, by rw [decide_eq_false h]; simp, by omega, by omega⟩
        rw [hu]
        refine ⟨.inr ⟨by split <;> decide, by split <;> decide⟩, by omega, ?_⟩
        have hne := step_ne (s := s) (p := 1 + u) (n := n) s0 s1 (by omega) (by omega) (by omega)
        rw [← Int.add_assoc] at hne
        have d0 : 0 ≤ (s + 1 + u) % n := Int.emod_nonneg _ (by omega)
        have d1 : (s + 1 + u) % n < n := Int.emod_lt_of_pos _ (by omega)
        generalize (s + 1 + u) % n = dst at hne d0 d1
        have fin : ∀ (g e : Int) (y6 y10 : Sl) (KN : Kn), 1 ≤ g → g ≤ 5 → 1 ≤ e → e ≤ 5 → (∀ (ds' : List Ctr) (y6 y7 y8 y9 y10 : Sl) (t3 : Int), t3 ≤ t' + 4 → ds'.length = i + 1 → (∀ c ∈ ds', c.Ok n) → KN.nx [.deck MC, .dat (.int a), .dat (.int b), .dat (.int n), .dat (.int wy), .own (ds'.map Ctr.d), y6, y7, y8, y9, y10] t3) →
            (b_board_1b3 K).wp [.deck MC, .dat (.int a), .dat (.int b), .dat (.int n), .dat (.int wy), .own (ds.map Ctr.d), y6, .dat (.int s), .dat (.list [.int g, .int e]), .dat (.int dst), y10] (t2 + 1) KN := by
          intro g e y6 y10 KN g0 g1 e0 e1 hKN
          simp only [w_AE_var, w_AE_int, w_AE_bl, w_AE_str, w_AE_non, w_AE_op, w_AE_un, w_AA_nil, w_AA_cons, w_AE_tup, w_AE_lst, w_AE_cb, w_AE_call, w_AE_callD, w_AT_test, w_AT_b, w_AT_not, w_AT_and, w_AT_or, w_AT_yes, w_AE_ifx, w_AE_and, w_AE_or, w_AE_not, w_AO_none, w_AO_some, w_AI_tup, w_AI_lst, w_AI_rng, w_AI_rng2, w_AI_enum, w_AI_rev, w_AG_name, w_AGs_nil, w_AGs_cons, w_AG_tup, w_AF_ae, w_AF_lst, w_AF_lc, w_AF_list, w_AE_sl, w_AE_revT, w_AE_chain, w_AE_isi, w_AE_view, w_AT_view, w_AE_ownIx, w_AE_ownTup, w_AE_ownSl, w_AS_nop, w_AS_brk, w_AS_cnt, w_AS_seq, w_AS_set, w_AS_asg, w_AS_drop, w_AS_par, w_AS_par3, w_AS_ret, w_AS_retN, w_AS_ifS, w_AS_for, w_AS_while, w_AS_setOwn, w_AS_append, w_AS_setAt, w_AS_frz, w_AS_fgt, w_AS_never, w_AF_lstRg, w_AE_tupRg, w_AS_insert, w_AS_aug, w_AS_parB, w_AS_par3B, w_AS_parA, w_AS_tupA, w_AS_tupB, f_aAdd, f_aMul, f_aEq, f_aNe, f_aIsN, f_aNotN, f_aIx, f_aNeg, f_aLen, f_aRepr, f_aInt, f_aIn, f_aNotIn, f_aIsB, f_aIsNotB, f_aTup, f_aI, f_aI0, f_aB0, f_aMin, f_aMax, q_inL, q_inT, q_notInL, q_notInT, q_isB, q_isNotB, q_addI, q_addT, q_addL, q_int, q_int0, q_bool0, q_mulI, q_mulT, q_mulL, q_eqI, q_eqS, q_neI, q_neS, q_isN, q_notN, q_ixT, q_ixL, q_neg, q_lenT, q_lenL, q_repr, q_two, q_intB, q_tupT, q_tupL, q_slT, q_slL, q_unB, q_unI, q_unT, q_unL, q_unI1, q_unI2, q_unT1, q_unS1T, q_unS1L, q_un1, q_un2, q_un3, q_hd, q_rd, q_ow, q_ctrT, q_ctrI, q_ctrS, q_ctrS2, q_brdT, q_brd0, q_brd1, q_rowI, q_rowT, q_rowT1, q_rowL, q_at0, q_at1, q_at2, q_at3, w_AI_zipM, q_unTL, f_aSortR, sortRF, w_lenSet, w_ext, w_lc2, w_minD, w_AI_zip, q_unTT, w_asgPop, w_ownLst, w_revL, q_unL0, w_parO, w_AF_rep, w_sortSet, wipeE, List.getElem?_cons_zero, List.getElem?_cons_succ, List.set_cons_zero, List.set_cons_succ, if_true, Bool.false_eq_true, if_false, true_and, and_true, Lim, dkS_deck, List.length_cons, List.length_nil, Nat.reduceAdd, Nat.reduceLeDiff, Nat.zero_le, Nat.zero_add, Int.reduceLT, Int.reduceLE, Int.reducePow, Int.reduceNeg, eq_self, decide_true, Bool.not_true, Bool.not_false, q_neB, q_eqB, q_isiR, q_rtT, q_rtT1, q_rtL, q_rtS0, q_rtS1, q_rtI, q_rtA, viewE_cons, viewE_nil, viewS_own, viewS_dat, viewS_deck, flat_int, flat_bool, flat_str, List.cons_append, List.nil_append, b_board_1b3]
          refine ⟨by rw [List.length_map]; omega, ?_⟩
          have em : ds.map Ctr.d ++ [.tuple [.int s, .int dst, .int g, .int e]] = (ds ++ [(⟨s, dst, g, e⟩ : Ctr)]).map Ctr.d := by rw [List.map_append]; rfl
          rw [em]
          refine hKN _ _ _ _ _ _ _ (by omega) (by rw [List.length_append, ld]; rfl) fun c hc => ?_
          rcases List.mem_append.mp hc with hc | hc
          · exact hds c hc
          · rw [List.mem_singleton.mp hc]
            exact ⟨s0, s1, d0, d1, hne, g0, g1, e0, e1⟩
        simp only [w_AE_var, w_AE_int, w_AE_bl, w_AE_str, w_AE_non, w_AE_op, w_AE_un, w_AA_nil, w_AA_cons, w_AE_tup, w_AE_lst, w_AE_cb, w_AE_call, w_AE_callD, w_AT_test, w_AT_b, w_AT_not, w_AT_and, w_AT_or, w_AT_yes, w_AE_ifx, w_AE_and, w_AE_or, w_AE_not, w_AO_none, w_AO_some, w_AI_tup, w_AI_lst, w_AI_rng, w_AI_rng2, w_AI_enum, w_AI_rev, w_AG_name, w_AGs_nil, w_AGs_cons, w_AG_tup, w_AF_ae, w_AF_lst, w_AF_lc, w_AF_list, w_AE_sl, w_AE_revT, w_AE_chain, w_AE_isi, w_AE_view, w_AT_view, w_AE_ownIx, w_AE_ownTup, w_AE_ownSl, w_AS_nop, w_AS_brk, w_AS_cnt, w_AS_seq, w_AS_set, w_AS_asg, w_AS_drop, w_AS_par, w_AS_par3, w_AS_ret, w_AS_retN, w_AS_ifS, w_AS_for, w_AS_while, w_AS_setOwn, w_AS_append, w_AS_setAt, w_AS_frz, w_AS_fgt, w_AS_never, w_AF_lstRg, w_AE_tupRg, w_AS_insert, w_AS_aug, w_AS_parB, w_AS_par3B, w_AS_parA, w_AS_tupA, w_AS_tupB, f_aAdd, f_aMul, f_aEq, f_aNe, f_aIsN, f_aNotN, f_aIx, f_aNeg, f_aLen, f_aRepr, f_aInt, f_aIn, f_aNotIn, f_aIsB, f_aIsNotB, f_aTup, f_aI, f_aI0, f_aB0, f_aMin, f_aMax, q_inL, q_inT, q_notInL, q_notInT, q_isB, q_isNotB, q_addI, q_addT, q_addL, q_int, q_int0, q_bool0, q_mulI, q_mulT, q_mulL, q_eqI, q_eqS, q_neI, q_neS, q_isN, q_notN, q_ixT, q_ixL, q_neg, q_lenT, q_lenL, q_repr, q_two, q_intB, q_tupT, q_tupL, q_slT, q_slL, q_unB, q_unI, q_unT, q_unL, q_unI1, q_unI2, q_unT1, q_unS1T, q_unS1L, q_un1, q_un2, q_un3, q_hd, q_rd, q_ow, q_ctrT, q_ctrI, q_ctrS, q_ctrS2, q_brdT, q_brd0, q_brd1, q_rowI, q_rowT, q_rowT1, q_rowL, q_at0, q_at1, q_at2, q_at3, w_AI_zipM, q_unTL, f_aSortR, sortRF, w_lenSet, w_ext, w_lc2, w_minD, w_AI_zip, q_unTT, w_asgPop, w_ownLst, w_revL, q_unL0, w_parO, w_AF_rep, w_sortSet, wipeE, List.getElem?_cons_zero, List.getElem?_cons_succ, List.set_cons_zero, List.set_cons_succ, if_true, Bool.false_eq_true, if_false, true_and, and_true, Lim, dkS_deck, List.length_cons, List.length_nil, Nat.reduceAdd, Nat.reduceLeDiff, Nat.zero_le, Nat.zero_add, Int.reduceLT, Int.reduceLE, Int.reducePow, Int.reduceNeg, eq_self, decide_true, Bool.not_true, Bool.not_false, q_neB, q_eqB, q_isiR, q_rtT, q_rtT1, q_rtL, q_rtS0, q_rtS1, q_rtI, q_rtA, viewE_cons, viewE_nil, viewS_own, viewS_dat, viewS_deck, flat_int, flat_bool, flat_str, List.cons_append, List.nil_append, b_board_1b2]
        by_cases z : wy = 2
        · rw [decide_eq_true z, if_pos rfl]
          by_cases z2 : e < g
          · rw [decide_eq_true z2, if_pos rfl]
            exact fin e g _ _ _ e0 e1 g0 g1 fun ds' y6 y7 y8 y9 y10 t3 l3 ld3 hd3 => ⟨ds', y6, y7, y8, y9, y10, rfl, by omega, ld3, hd3⟩
          · rw [decide_eq_false z2, if_neg (by decide)]
            exact fin g e _ _ _ g0 g1 e0 e1 fun ds' y6 y7 y8 y9 y10 t3 l3 ld3 hd3 => ⟨ds', y6, y7, y8, y9, y10, rfl, by omega, ld3, hd3⟩
        · rw [decide_eq_false z, if_neg (by decide)]
          exact fin g e _ _ _ g0 g1 e0 e1 fun ds' y6 y7 y8 y9 y10 t3 l3 ld3 hd3 => ⟨ds', y6, y7, y8, y9, y10, rfl, by omega, ld3, hd3⟩
  · rintro e' t' ⟨ds, y6, y7, y8, y9, y10, rfl, lt, ld, hds⟩
    rw [rngD_length] at lt ld
    simp only [w_AE_var, w_AE_int, w_AE_bl, w_AE_str, w_AE_non, w_AE_op, w_AE_un, w_AA_nil, w_AA_cons, w_AE_tup, w_AE_lst, w_AE_cb, w_AE_call, w_AE_callD, w_AT_test, w_AT_b, w_AT_not, w_AT_and, w_AT_or, w_AT_yes, w_AE_ifx, w_AE_and, w_AE_or, w_AE_not, w_AO_none, w_AO_some, w_AI_tup, w_AI_lst, w_AI_rng, w_AI_rng2, w_AI_enum, w_AI_rev, w_AG_name, w_AGs_nil, w_AGs_cons, w_AG_tup, w_AF_ae, w_AF_lst, w_AF_lc, w_AF_list, w_AE_sl, w_AE_revT, w_AE_chain, w_AE_isi, w_AE_view, w_AT_view, w_AE_ownIx, w_AE_ownTup, w_AE_ownSl, w_AS_nop, w_AS_brk, w_AS_cnt, w_AS_seq, w_AS_set, w_AS_asg, w_AS_drop, w_AS_par, w_AS_par3, w_AS_ret, w_AS_retN, w_AS_ifS, w_AS_for, w_AS_while, w_AS_setOwn, w_AS_append, w_AS_setAt, w_AS_frz, w_AS_fgt, w_AS_never, w_AF_lstRg, w_AE_tupRg, w_AS_insert, w_AS_aug, w_AS_parB, w_AS_par3B, w_AS_parA, w_AS_tupA, w_AS_tupB, f_aAdd, f_aMul, f_aEq, f_aNe, f_aIsN, f_aNotN, f_aIx, f_aNeg, f_aLen, f_aRepr, f_aInt, f_aIn, f_aNotIn, f_aIsB, f_aIsNotB, f_aTup, f_aI, f_aI0, f_aB0, f_aMin, f_aMax, q_inL, q_inT, q_notInL, q_notInT, q_isB, q_isNotB, q_addI, q_addT, q_addL, q_int, q_int0, q_bool0, q_mulI, q_mulT, q_mulL, q_eqI, q_eqS, q_neI, q_neS, q_isN, q_notN, q_ixT, q_ixL, q_neg, q_lenT, q_lenL, q_repr, q_two, q_intB, q_tupT, q_tupL, q_slT, q_slL, q_unB, q_unI, q_unT, q_unL, q_unI1, q_unI2, q_unT1, q_unS1T, q_unS1L, q_un1, q_un2, q_un3, q_hd, q_rd, q_ow, q_ctrT, q_ctrI, q_ctrS, q_ctrS2, q_brdT, q_brd0, q_brd1, q_rowI, q_rowT, q_rowT1, q_rowL, q_at0, q_at1, q_at2, q_at3, w_AI_zipM, q_unTL, f_aSortR, sortRF, w_lenSet, w_ext, w_lc2, w_minD, w_AI_zip, q_unTT, w_asgPop, w_ownLst, w_revL, q_unL0, w_parO, w_AF_rep, w_sortSet, wipeE, List.getElem?_cons_zero, List.getElem?_cons_succ, List.set_cons_zero, List.set_cons_succ, if_true, Bool.false_eq_true, if_false, true_and, and_true, Lim, dkS_deck, List.length_cons, List.length_nil, Nat.reduceAdd, Nat.reduceLeDiff, Nat.zero_le, Nat.zero_add, Int.reduceLT, Int.reduceLE, Int.reducePow, Int.reduceNeg, eq_self, decide_true, Bool.not_true, Bool.not_false, q_neB, q_eqB, q_isiR, q_rtT, q_rtT1, q_rtL, q_rtS0, q_rtS1, q_rtI, q_rtA, viewE_cons, viewE_nil, viewS_own, viewS_dat, viewS_deck, flat_int, flat_bool, flat_str, List.cons_append, List.nil_append, b_board_2]
    refine hk _ _ (fun a' b' e => ?_) (by omega)
    simp only [List.cons.injEq, PyData.int.injEq, and_true] at e
    obtain ⟨rfl, rfl⟩ := e
    exact ⟨n, ds, rfl, n0, n1, by omega, hds⟩
end
end CG

namespace CG
open PySem PySem.Spec PyProof.Rows L2
def p_changed : Pm := pP fun ds d => ∃ (n : Int) (c : Ctr) (a : Int), ds = [c.d, .int a] ∧ c.Ok n ∧ d = .int (a / c.g * c.e)
section
variable {P : Program} {w : World} {K : PySem.W.Frag} {mg : Str → Option Value} {base : Heap}
def b_changed_1 (K : PySem.W.Frag) : AS K := (AS.ret (AE.op (aMul K) (AE.op (aDv K) (AE.var K 1) (AE.var K 2)) (AE.var K 3)))
def b_changed (K : PySem.W.Frag) : AS K := (AS.seq (AS.asg (AE.sl (AE.var K 0) (AO.some (AE.int K 2)) (AO.none K)) (AG.tup (AGs.cons 2 (AGs.cons 3 (AGs.nil K))))) (b_changed_1 K))
theorem ok_changed {f : Addr} {fd : FuncData} (h : Has K mg "changed" sPChanged ["counter", "amount"] f fd) (T : Bz mg) : FnG P w K mg base CX0 1 f fd ["counter", "amount"] (spA K p_changed) := by
  refine okA h scPChanged (b_changed K) p_changed (fun cd A out s H E hgd hr => ⟨_, (pss_cons (ps_asg (pe_slice (r := rSlU K) sl_U (pv 0) (po_some pe_int) po_none) (pg_tup rfl (pgs_cons (pg_name (i := 2) scPChanged.nd rfl (Or.inl rfl)) (pgs_cons (pg_name (i := 3) scPChanged.nd rfl (Or.inl rfl)) pgs_nil))))
      (pss_one (ps_ret (pe_op (r := rMulU K) op_mulU (pe_op op_dvU (pv 1) (pv 2)) (pv 3))))), by (simp only [b_changed_1, b_changed, t_AE_var, t_AE_int, t_AE_bl, t_AE_str, t_AE_non, t_AE_op, t_AE_un, t_AA_nil, t_AA_cons, t_AE_tup, t_AE_lst, t_AE_cb, t_AE_call, t_AE_callD, t_AT_test, t_AT_b, t_AT_not, t_AT_and, t_AT_or, t_AT_yes, t_AE_ifx, t_AE_and, t_AE_or, t_AE_not, t_AO_none, t_AO_some, t_AI_tup, t_AI_lst, t_AI_rng, t_AI_rng2, t_AI_enum, t_AI_rev, t_AG_name, t_AGs_nil, n_AGs_nil, t_AGs_cons, n_AGs_cons, t_AG_tup, t_AF_ae, t_AF_lst, t_AF_lc, t_AF_list, t_AE_sl, t_AE_revT, t_AE_chain, t_AE_isi, t_AE_view, t_AT_view, t_AE_ownIx, t_AE_ownTup, t_AE_ownSl, t_AS_nop, t_AS_brk, t_AS_cnt, t_AS_seq, t_AS_set, t_AS_asg, t_AS_drop, t_AS_par, t_AS_par3, t_AS_ret, t_AS_retN, t_AS_ifS, t_AS_for, t_AS_while, t_AS_setOwn, t_AS_append, t_AS_setAt, t_AS_frz, t_AS_fgt, t_AS_never, t_AF_lstRg, t_AE_tupRg, t_AS_insert, t_AS_aug, t_AS_parB, t_AS_par3B, t_AS_parA, t_AS_tupA, t_AS_tupB, t_aAdd, t_aMul, t_aEq, t_aNe, t_aIsN, t_aNotN, t_aIx, t_aNeg, t_aLen, t_aRepr, t_aInt, t_aIn, t_aNotIn, t_aIsB, t_aIsNotB, t_aTup, t_aMin, t_aMax, t_aI, t_aI0, t_aB0, t_AI_zipM, t_aSortR, t_lenSet, t_ext, t_lc2, t_minD, t_AI_zip, t_asgPop, t_ownLst, t_revL, t_parO, t_AF_rep, t_sortSet]) <;> rfl⟩) (fun ds t k hw => ?_)
  obtain ⟨d, ⟨n, c, a, rfl, hc, rfl⟩, hk⟩ := hw
  refine ⟨rfl, ?_⟩
  show (b_changed K).wp [.dat c.d, .dat (.int a), .un, .un] t _
  have := hc.g0
  have := hc.g1
  have := hc.e0
  have := hc.e1
  simp only [w_AE_var, w_AE_int, w_AE_bl, w_AE_str, w_AE_non, w_AE_op, w_AE_un, w_AA_nil, w_AA_cons, w_AE_tup, w_AE_lst, w_AE_cb, w_AE_call, w_AE_callD, w_AT_test, w_AT_b, w_AT_not, w_AT_and, w_AT_or, w_AT_yes, w_AE_ifx, w_AE_and, w_AE_or, w_AE_not, w_AO_none, w_AO_some, w_AI_tup, w_AI_lst, w_AI_rng, w_AI_rng2, w_AI_enum, w_AI_rev, w_AG_name, w_AGs_nil, w_AGs_cons, w_AG_tup, w_AF_ae, w_AF_lst, w_AF_lc, w_AF_list, w_AE_sl, w_AE_revT, w_AE_chain, w_AE_isi, w_AE_view, w_AT_view, w_AE_ownIx, w_AE_ownTup, w_AE_ownSl, w_AS_nop, w_AS_brk, w_AS_cnt, w_AS_seq, w_AS_set, w_AS_asg, w_AS_drop, w_AS_par, w_AS_par3, w_AS_ret, w_AS_retN, w_AS_ifS, w_AS_for, w_AS_while, w_AS_setOwn, w_AS_append, w_AS_setAt, w_AS_frz, w_AS_fgt, w_AS_never, w_AF_lstRg, w_AE_tupRg, w_AS_insert, w_AS_aug, w_AS_parB, w_AS_par3B, w_AS_parA, w_AS_tupA, w_AS_tupB, f_aAdd, f_aMul, f_aEq, f_aNe, f_aIsN, f_aNotN, f_aIx, f_aNeg, f_aLen, f_aRepr, f_aInt, f_aIn, f_aNotIn, f_aIsB, f_aIsNotB, f_aTup, f_aI, f_aI0, f_aB0, f_aMin, f_aMax, q_inL, q_inT, q_notInL, q_notInT, q_isB, q_isNotB, q_addI, q_addT, q_addL, q_int, q_int0, q_bool0, q_mulI, q_mulT, q_mulL, q_eqI, q_eqS, q_neI, q_neS, q_isN, q_notN, q_ixT, q_ixL, q_neg, q_lenT, q_lenL, q_repr, q_two, q_intB, q_tupT, q_tupL, q_slT, q_slL, q_unB, q_unI, q_unT, q_unL, q_unI1, q_unI2, q_unT1, q_unS1T, q_unS1L, q_un1, q_un2, q_un3, q_hd, q_rd, q_ow, q_ctrT, q_ctrI, q_ctrS, q_ctrS2, q_brdT, q_brd0, q_brd1, q_rowI, q_rowT, q_rowT1, q_rowL, q_at0, q_at1, q_at2, q_at3, w_AI_zipM, q_unTL, f_aSortR, sortRF, w_lenSet, w_ext, w_lc2, w_minD, w_AI_zip, q_unTT, w_asgPop, w_ownLst, w_revL, q_unL0, w_parO, w_AF_rep, w_sortSet, wipeE, List.getElem?_cons_zero, List.getElem?_cons_succ, List.set_cons_zero, List.set_cons_succ, if_true, Bool.false_eq_true, if_false, true_and, and_true, Lim, dkS_deck, List.length_cons, List.length_nil, Nat.reduceAdd, Nat.reduceLeDiff, Nat.zero_le, Nat.zero_add, Int.reduceLT, Int.reduceLE, Int.reducePow, Int.reduceNeg, eq_self, decide_true, Bool.not_true, Bool.not_false, q_neB, q_eqB, q_isiR, q_rtT, q_rtT1, q_rtL, q_rtS0, q_rtS1, q_rtI, q_rtA, viewE_cons, viewE_nil, viewS_own, viewS_dat, viewS_deck, flat_int, flat_bool, flat_str, List.cons_append, List.nil_append, b_changed, b_changed_1]
  exact ⟨⟨by omega, by omega⟩, .inr ⟨by omega, by omega⟩, hk⟩
end
end CG

namespace CG
open PySem PySem.Spec PyProof.Rows L2
def numD : Num → PyData
  | none => .none
  | some v => .int v
def vecL (m : Nat) (x : Vec) : List PyData := (List.range m).map fun j : Nat => numD (x (j : Int))
def vecD (m : Nat) (x : Vec) : PyData := .tuple (vecL m x)
theorem vecL_length {m : Nat} {x : Vec} : (vecL m x).length = m := by unfold vecL; simp
theorem vecL_succ {m : Nat} {x : Vec} : vecL (m + 1) x = vecL m x ++ [numD (x (m : Int))] := by
  unfold vecL
  rw [List.range_succ, List.map_append]
  rfl
theorem vecL_get {m j : Nat} {x : Vec} (h : j < m) : (vecL m x)[j]? = some (numD (x (j : Int))) := by
  unfold vecL
  rw [List.getElem?_map, List.getElem?_range h]
  rfl
theorem at_vec {m : Nat} {x : Vec} {j : Int} (h0 : 0 ≤ j) (h1 : j < (m : Int)) : atI (vecL m x) j = some (numD (x j)) := by
  obtain ⟨i, rfl⟩ : ∃ i : Nat, j = (i : Int) := ⟨j.toNat, by omega⟩
  rw [atI_nn, vecL_get (by omega)]
theorem set_vec {m : Nat} {y z : Vec} {j : Int} {d : PyData} (h0 : 0 ≤ j) (h1 : j < (m : Int)) (hd : d = numD (z j)) (ho : ∀ i, i ≠ j → z i = y i) : (vecL m y).set j.toNat d = vecL m z := by
  refine List.ext_getElem? fun i => ?_
  by_cases hi : i < m
  · rw [vecL_get hi]
    by_cases e : j.toNat = i
    · rw [← e, List.getElem?_set_self (by rw [vecL_length]; omega), hd]
      congr 3
      omega
    · rw [List.getElem?_set_ne e, vecL_get hi, ho _ (by omega)]
  · rw [List.getElem?_eq_none (by rw [List.length_set, vecL_length]; omega), List.getElem?_eq_none (by rw [vecL_length]; omega)]
theorem ix_vec {m : Nat} {y : Vec} {j : Int} (h0 : 0 ≤ j) (h1 : j < (m : Int)) : ixN (vecL m y).length j = some j.toNat := by
  unfold ixN
  rw [vecL_length, if_pos (by omega), if_pos (by omega)]
theorem eqv_num {a b : Num} : PyData.eqv (numD a) (numD b) = decide (a = b) := by
  cases a <;> cases b <;> simp [numD, PyData.eqv]
  rfl
theorem eqvAll_num : ∀ {xs ys : List Num}, xs.length = ys.length → PyData.eqvAll (xs.map numD) (ys.map numD) = decide (xs = ys)
  | [], [], _ => by simp [PyData.eqvAll]
  | x :: xs, y :: ys, h => by
    simp only [List.map_cons, PyData.eqvAll, eqv_num, eqvAll_num (xs := xs) (ys := ys) (by simpa using h)]
    by_cases e : x = y <;> by_cases e2 : xs = ys <;> simp [e, e2]
theorem vecL_map {m : Nat} {x : Vec} : vecL m x = ((List.range m).map fun j : Nat => x (j : Int)).map numD := by
  unfold vecL
  rw [List.map_map]
  rfl
theorem eqv_vec {m : Nat} {x y : Vec} : PyData.eqvAll (vecL m x) (vecL m y) = true ↔ ∀ j : Int, 0 ≤ j → j < (m : Int) → x j = y j := by
  rw [vecL_map, vecL_map, eqvAll_num (by simp), decide_eq_true_iff]
  constructor
  · intro h j h0 h1
    have := congrArg (fun l => l[j.toNat]?) h
    simp only [List.getElem?_map, List.getElem?_range (show j.toNat < m by omega), Option.map_some, Option.some.injEq] at this
    rw [show ((j.toNat : Nat) : Int) = j by omega] at this
    exact this
  · intro h
    refine List.map_congr_left fun i hi => h _ (by omega) (by have := List.mem_range.mp hi; omega)
theorem pl_num {a : Num} : Pl 0 (numD a) := by
  cases a with
  | none => exact ⟨by simp only [numD, PyData.hasDict], by simp only [numD, PyData.canLay0], by simp only [numD, PyData.depth]; exact Nat.le_refl _⟩
  | some v => exact pl_int
theorem pl_vecL {m : Nat} {x : Vec} : ∀ d ∈ vecL m x, Pl 0 d := fun d hd => by
  obtain ⟨j, _, rfl⟩ := List.mem_map.mp hd
  exact pl_num
theorem pl_non {n : Nat} : Pl n .none := ⟨by simp only [PyData.hasDict], by simp only [PyData.canLay0], by simp only [PyData.depth]; exact Nat.zero_le _⟩
theorem pl_vec {m : Nat} {x : Vec} : Pl 1 (vecD m x) := pl_tup pl_vecL
/-- growth starts of simple loops -/
def p_snum : Pm := pP fun ds d => ∃ (m : Nat) (cs : List Ctr) (k a : Int), ds = [boardD (m : Int) cs, .int k, .int a] ∧ m ≤ 100 ∧ d = vecD m (s0 k a)
def p_one : Pm := pP fun ds d => ∃ (m : Nat) (cs : List Ctr) (x : Vec), ds = [boardD (m : Int) cs, vecD m x] ∧ m ≤ 100 ∧ (∀ c ∈ cs, c.Ok (m : Int)) ∧ d = vecD m (foldA cs x x)
/-- so many counters more, at most -/
def itA (cs : List Ctr) (x : Vec) : Nat → Vec
  | 0 => x
  | n + 1 => foldA cs (itA cs x n) (itA cs x n)
def p_within : Pm := pP fun ds d => ∃ (m : Nat) (cs : List Ctr) (k a : Int) (N : Nat), ds = [boardD (m : Int) cs, .int k, .int a, .int (N : Int)] ∧ m ≤ 100 ∧ N ≤ 1000 ∧ (∀ c ∈ cs, c.Ok (m : Int)) ∧ d = vecD m (itA cs (s0 k a) N)
section
variable {P : Program} {w : World} {K : PySem.W.Frag} {mg : Str → Option Value} {base : Heap}
def b_start_numbers (K : PySem.W.Frag) : AS K := (AS.ret (AE.cb (aTup K) (AA.cons (AF.ae (AF.lc (AI.rng (AA.cons (AE.op (aIx K) (AE.var K 0) (AE.int K 0)) (AA.nil K))) (AG.name K 3) (AT.yes K) (AE.ifx (AT.test (AE.op (aEq K) (AE.var K 3) (AE.var K 1))) (AE.var K 2) (AE.int K 0)) [3] (show ∀ j ∈ (AG.name K 3).sl, j ∈ [3] from fun _ h => h))) (AA.nil K))))
theorem ok_snum {f : Addr} {fd : FuncData} (h : Has K mg "start_numbers" sPStart_numbers ["board", "kind", "amount"] f fd) (T : Bz mg) : FnG P w K mg base CX0 1 f fd ["board", "kind", "amount"] (spA K p_snum) := by
  refine okA h scPStart_numbers (b_start_numbers K) p_snum (fun cd A out s H E hgd hr => ⟨_, (pss_one (ps_ret (pe_callTy (r := rTupU K) call_tupU rfl T.z_tuple boot_tupleU (pa_cons (pe_lc (own := [("each", 3)]) rfl scPStart_numbers.nd (pi_range1 rfl T.z_range (pa_cons (pe_ix (r := rIx K) ix_seq (pv 0) pe_int (fun _ _ => rfl)) pa_nil)) (blkOk_by (N := NscPStart_numbers) (sc := defScope sPStart_numbers) (by decide +kernel)) (fun _ _ _ _ _ => (pg_name (i := 3) scPStart_numbers.nd rfl (Or.inl rfl))) (fun _ _ _ _ _ => pts_nil) (fun _ _ _ _ _ => (pe_ifExp (pt_cmpR (r := rEqU K) (op_eqU hr.units) (pv 3) (pv 1) (nomark _)) (pv 2) pe_int))) pa_nil)))), by (simp only [b_start_numbers, t_AE_var, t_AE_int, t_AE_bl, t_AE_str, t_AE_non, t_AE_op, t_AE_un, t_AA_nil, t_AA_cons, t_AE_tup, t_AE_lst, t_AE_cb, t_AE_call, t_AE_callD, t_AT_test, t_AT_b, t_AT_not, t_AT_and, t_AT_or, t_AT_yes, t_AE_ifx, t_AE_and, t_AE_or, t_AE_not, t_AO_none, t_AO_some, t_AI_tup, t_AI_lst, t_AI_rng, t_AI_rng2, t_AI_enum, t_AI_rev, t_AG_name, t_AGs_nil, n_AGs_nil, t_AGs_cons, n_AGs_cons, t_AG_tup, t_AF_ae, t_AF_lst, t_AF_lc, t_AF_list, t_AE_sl, t_AE_revT, t_AE_chain, t_AE_isi, t_AE_view, t_AT_view, t_AE_ownIx, t_AE_ownTup, t_AE_ownSl, t_AS_nop, t_AS_brk, t_AS_cnt, t_AS_seq, t_AS_set, t_AS_asg, t_AS_drop, t_AS_par, t_AS_par3, t_AS_ret, t_AS_retN, t_AS_ifS, t_AS_for, t_AS_while, t_AS_setOwn, t_AS_append, t_AS_setAt, t_AS_frz, t_AS_fgt, t_AS_never, t_AF_lstRg, t_AE_tupRg, t_AS_insert, t_AS_aug, t_AS_parB, t_AS_par3B, t_AS_parA, t_AS_tupA, t_AS_tupB, t_aAdd, t_aMul, t_aEq, t_aNe, t_aIsN, t_aNotN, t_aIx, t_aNeg, t_aLen, t_aRepr, t_aInt, t_aIn, t_aNotIn, t_aIsB, t_aIsNotB, t_aTup, t_aMin, t_aMax, t_aI, t_aI0, t_aB0, t_AI_zipM, t_aSortR, t_lenSet, t_ext, t_lc2, t_minD, t_AI_zip, t_asgPop, t_ownLst, t_revL, t_parO, t_AF_rep, t_sortSet]) <;> rfl⟩) (fun ds t k hw => ?_)
  obtain ⟨d, ⟨m, cs, k0, a, rfl, hm, rfl⟩, hk⟩ := hw
  refine ⟨rfl, ?_⟩
  show (b_start_numbers K).wp [.dat (boardD (m : Int) cs), .dat (.int k0), .dat (.int a), .un] t _
  simp only [w_AE_var, w_AE_int, w_AE_bl, w_AE_str, w_AE_non, w_AE_op, w_AE_un, w_AA_nil, w_AA_cons, w_AE_tup, w_AE_lst, w_AE_cb, w_AE_call, w_AE_callD, w_AT_test, w_AT_b, w_AT_not, w_AT_and, w_AT_or, w_AT_yes, w_AE_ifx, w_AE_and, w_AE_or, w_AE_not, w_AO_none, w_AO_some, w_AI_tup, w_AI_lst, w_AI_rng, w_AI_rng2, w_AI_enum, w_AI_rev, w_AG_name, w_AGs_nil, w_AGs_cons, w_AG_tup, w_AF_ae, w_AF_lst, w_AF_lc, w_AF_list, w_AE_sl, w_AE_revT, w_AE_chain, w_AE_isi, w_AE_view, w_AT_view, w_AE_ownIx, w_AE_ownTup, w_AE_ownSl, w_AS_nop, w_AS_brk, w_AS_cnt, w_AS_seq, w_AS_set, w_AS_asg, w_AS_drop, w_AS_par, w_AS_par3, w_AS_ret, w_AS_retN, w_AS_ifS, w_AS_for, w_AS_while, w_AS_setOwn, w_AS_append, w_AS_setAt, w_AS_frz, w_AS_fgt, w_AS_never, w_AF_lstRg, w_AE_tupRg, w_AS_insert, w_AS_aug, w_AS_parB, w_AS_par3B, w_AS_parA, w_AS_tupA, w_AS_tupB, f_aAdd, f_aMul, f_aEq, f_aNe, f_aIsN, f_aNotN, f_aIx, f_aNeg, f_aLen, f_aRepr, f_aInt, f_aIn, f_aNotIn, f_aIsB, f_aIsNotB, f_aTup, f_aI, f_aI0, f_aB0, f_aMin, f_aMax, q_inL, q_inT, q_notInL, q_notInT, q_isB, q_isNotB, q_addI, q_addT, q_addL, q_int, q_int0, q_bool0, q_mulI, q_mulT, q_mulL, q_eqI, q_eqS, q_neI, q_neS, q_isN, q_notN, q_ixT, q_ixL, q_neg, q_lenT, q_lenL, q_repr, q_two, q_intB, q_tupT, q_tupL, q_slT, q_slL, q_unB, q_unI, q_unT, q_unL, q_unI1, q_unI2, q_unT1, q_unS1T, q_unS1L, q_un1, q_un2, q_un3, q_hd, q_rd, q_ow, q_ctrT, q_ctrI, q_ctrS, q_ctrS2, q_brdT, q_brd0, q_brd1, q_rowI, q_rowT, q_rowT1, q_rowL, q_at0, q_at1, q_at2, q_at3, w_AI_zipM, q_unTL, f_aSortR, sortRF, w_lenSet, w_ext, w_lc2, w_minD, w_AI_zip, q_unTT, w_asgPop, w_ownLst, w_revL, q_unL0, w_parO, w_AF_rep, w_sortSet, wipeE, List.getElem?_cons_zero, List.getElem?_cons_succ, List.set_cons_zero, List.set_cons_succ, if_true, Bool.false_eq_true, if_false, true_and, and_true, Lim, dkS_deck, List.length_cons, List.length_nil, Nat.reduceAdd, Nat.reduceLeDiff, Nat.zero_le, Nat.zero_add, Int.reduceLT, Int.reduceLE, Int.reducePow, Int.reduceNeg, eq_self, decide_true, Bool.not_true, Bool.not_false, q_neB, q_eqB, q_isiR, q_rtT, q_rtT1, q_rtL, q_rtS0, q_rtS1, q_rtI, q_rtA, viewE_cons, viewE_nil, viewS_own, viewS_dat, viewS_deck, flat_int, flat_bool, flat_str, List.cons_append, List.nil_append, b_start_numbers]
  refine ⟨⟨by omega, by omega⟩, by rw [rngD_length]; omega, fun i acc s => s = t ∧ acc = vecL i (s0 k0 a), ⟨rfl, rfl⟩, ?_, ?_⟩
  · rintro i d acc s hd ⟨rfl, rfl⟩
    obtain ⟨hi, rfl⟩ := rng0_get hd
    try simp only [w_AE_var, w_AE_int, w_AE_bl, w_AE_str, w_AE_non, w_AE_op, w_AE_un, w_AA_nil, w_AA_cons, w_AE_tup, w_AE_lst, w_AE_cb, w_AE_call, w_AE_callD, w_AT_test, w_AT_b, w_AT_not, w_AT_and, w_AT_or, w_AT_yes, w_AE_ifx, w_AE_and, w_AE_or, w_AE_not, w_AO_none, w_AO_some, w_AI_tup, w_AI_lst, w_AI_rng, w_AI_rng2, w_AI_enum, w_AI_rev, w_AG_name, w_AGs_nil, w_AGs_cons, w_AG_tup, w_AF_ae, w_AF_lst, w_AF_lc, w_AF_list, w_AE_sl, w_AE_revT, w_AE_chain, w_AE_isi, w_AE_view, w_AT_view, w_AE_ownIx, w_AE_ownTup, w_AE_ownSl, w_AS_nop, w_AS_brk, w_AS_cnt, w_AS_seq, w_AS_set, w_AS_asg, w_AS_drop, w_AS_par, w_AS_par3, w_AS_ret, w_AS_retN, w_AS_ifS, w_AS_for, w_AS_while, w_AS_setOwn, w_AS_append, w_AS_setAt, w_AS_frz, w_AS_fgt, w_AS_never, w_AF_lstRg, w_AE_tupRg, w_AS_insert, w_AS_aug, w_AS_parB, w_AS_par3B, w_AS_parA, w_AS_tupA, w_AS_tupB, f_aAdd, f_aMul, f_aEq, f_aNe, f_aIsN, f_aNotN, f_aIx, f_aNeg, f_aLen, f_aRepr, f_aInt, f_aIn, f_aNotIn, f_aIsB, f_aIsNotB, f_aTup, f_aI, f_aI0, f_aB0, f_aMin, f_aMax, q_inL, q_inT, q_notInL, q_notInT, q_isB, q_isNotB, q_addI, q_addT, q_addL, q_int, q_int0, q_bool0, q_mulI, q_mulT, q_mulL, q_eqI, q_eqS, q_neI, q_neS, q_isN, q_notN, q_ixT, q_ixL, q_neg, q_lenT, q_lenL, q_repr, q_two, q_intB, q_tupT, q_tupL, q_slT, q_slL, q_unB, q_unI, q_unT, q_unL, q_unI1, q_unI2, q_unT1, q_unS1T, q_unS1L, q_un1, q_un2, q_un3, q_hd, q_rd, q_ow, q_ctrT, q_ctrI, q_ctrS, q_ctrS2, q_brdT, q_brd0, q_brd1, q_rowI, q_rowT, q_rowT1, q_rowL, q_at0, q_at1, q_at2, q_at3, w_AI_zipM, q_unTL, f_aSortR, sortRF, w_lenSet, w_ext, w_lc2, w_minD, w_AI_zip, q_unTT, w_asgPop, w_ownLst, w_revL, q_unL0, w_parO, w_AF_rep, w_sortSet, wipeE, List.getElem?_cons_zero, List.getElem?_cons_succ, List.set_cons_zero, List.set_cons_succ, if_true, Bool.false_eq_true, if_false, true_and, and_true, Lim, dkS_deck, List.length_cons, List.length_nil, Nat.reduceAdd, Nat.reduceLeDiff, Nat.zero_le, Nat.zero_add, Int.reduceLT, Int.reduceLE, Int.reducePow, Int.reduceNeg, eq_self, decide_true, Bool.not_true, Bool.not_false, q_neB, q_eqB, q_isiR, q_rtT, q_rtT1, q_rtL, q_rtS0, q_rtS1, q_rtI, q_rtA, viewE_cons, viewE_nil, viewS_own, viewS_dat, viewS_deck, flat_int, flat_bool, flat_str, List.cons_append, List.nil_append]
    rw [vecL_succ]
    unfold s0
    by_cases z : (i : Int) = k0
    · rw [decide_eq_true z, if_pos rfl, if_pos z]
      rfl
    · rw [decide_eq_false z, if_neg (by decide), if_neg z]
      rfl
  · rintro acc s ⟨rfl, rfl⟩
    rw [rngD_length, show ((m : Int) - 0).toNat = m by omega]
    exact hk
def b_after_one_more_1b1e0 (K : PySem.W.Frag) : AS K := (AS.ifS (AT.view (AT.test (AE.op (aNotN K) (AE.op (aIx K) (AE.var K 2) (AE.var K 5)) (AE.non K)))) (AS.setAt 2 (AE.var K 5) (AE.cb (aMax K) (AA.cons (AE.ownIx 2 (AE.var K 5)) (AA.cons (AE.call p_changed E0 (AA.cons (AE.var K 3) (AA.cons (AE.op (aIx K) (AE.var K 1) (AE.var K 4)) (AA.nil K)))) (AA.nil K))))) (AS.nop K))
def b_after_one_more_1b1 (K : PySem.W.Frag) : AS K := (AS.ifS (AT.test (AE.op (aIsN K) (AE.op (aIx K) (AE.var K 1) (AE.var K 4)) (AE.non K))) (AS.setAt 2 (AE.var K 5) (AE.non K)) (b_after_one_more_1b1e0 K))
def b_after_one_more_1b0 (K : PySem.W.Frag) : AS K := (AS.seq (AS.asg (AE.sl (AE.var K 3) (AO.none K) (AO.some (AE.int K 2))) (AG.tup (AGs.cons 4 (AGs.cons 5 (AGs.nil K))))) (b_after_one_more_1b1 K))
def b_after_one_more_2 (K : PySem.W.Frag) : AS K := (AS.ret (AE.ownTup K 2))
def b_after_one_more_1 (K : PySem.W.Frag) : AS K := (AS.seq (AS.for (AI.tup (AE.op (aIx K) (AE.var K 0) (AE.int K 1))) (AG.name K 3) (b_after_one_more_1b0 K)) (b_after_one_more_2 K))
def b_after_one_more (K : PySem.W.Frag) : AS K := (AS.seq (AS.setOwn 2 (AF.list (AA.cons (AE.var K 1) (AA.nil K)))) (b_after_one_more_1 K))
theorem ok_one {f f1 : Addr} {fd fd1 : FuncData} (h : Has K mg "after_one_more" sPAfter_one_more ["board", "numbers"] f fd) (T : Bz mg) (T_changed : Has K mg "changed" sPChanged ["counter", "amount"] f1 fd1) (G_changed : FnG P w K mg base CX0 1 f1 fd1 ["counter", "amount"] (spA K p_changed)) : FnG P w K mg base CX0 2 f fd ["board", "numbers"] (spA K p_one) := by
  refine okA h scPAfter_one_more (b_after_one_more K) p_one (fun cd A out s H E hgd hr => ⟨_, (pss_cons (ps_set (i := 2) scPAfter_one_more.nd rfl (Or.inl rfl) (pe_callTy (r := rLstU K) call_lstU rfl T.z_list boot_listU (pa_cons (pv 1) pa_nil)))
      (pss_cons (ps_for PassesOwn.never rfl (pi_tup (pe_ix (r := rIx K) ix_seq (pv 0) pe_int (fun _ _ => rfl))) (pg_name (i := 3) scPAfter_one_more.nd rfl (Or.inl rfl))
        (pss_cons (ps_asg (pe_slice (r := rSlU K) sl_U (pv 3) po_none (po_some pe_int)) (pg_tup rfl (pgs_cons (pg_name (i := 4) scPAfter_one_more.nd rfl (Or.inl rfl)) (pgs_cons (pg_name (i := 5) scPAfter_one_more.nd rfl (Or.inl rfl)) pgs_nil))))
        (pss_one (ps_if (pt_cmpR op_isNU (pe_ix (r := rIx K) ix_seq (pv 1) (pv 4) (fun _ _ => rfl)) pe_non (nomark _))
          (pss_one (ps_asg pe_non (pg_sub (pv 2) (pv 5) set_list)))
          (pss_one (ps_if (pt_cmpR op_notNU (pe_ix (r := rIx K) ix_seq (pv 2) (pv 5) (fun _ _ => rfl)) pe_non (nomark _))
            (pss_one (ps_asg (pe_callB (call_maxU rfl) rfl T.z_max boot_max (pa_cons (pe_ix (r := rIx K) ix_seq (pv 2) (pv 5) (fun _ _ => rfl)) (pa_cons (pe_callG G_changed hgd (hr.mono (by decide)) rfl T_changed.m T_changed.F.kp T_changed.b .nil pass0 (pa_cons (pv 3) (pa_cons (pe_ix (r := rIx K) ix_seq (pv 1) (pv 4) (fun _ _ => rfl)) pa_nil))) pa_nil))) (pg_sub (pv 2) (pv 5) set_list)))
            pss_nil))))))
      (pss_one (ps_ret (pe_callTy (r := rTupU K) call_tupU rfl T.z_tuple boot_tupleU (pa_cons (pv 2) pa_nil)))))), by (simp only [b_after_one_more_1b1e0, b_after_one_more_1b1, b_after_one_more_1b0, b_after_one_more_2, b_after_one_more_1, b_after_one_more, t_AE_var, t_AE_int, t_AE_bl, t_AE_str, t_AE_non, t_AE_op, t_AE_un, t_AA_nil, t_AA_cons, t_AE_tup, t_AE_lst, t_AE_cb, t_AE_call, t_AE_callD, t_AT_test, t_AT_b, t_AT_not, t_AT_and, t_AT_or, t_AT_yes, t_AE_ifx, t_AE_and, t_AE_or, t_AE_not, t_AO_none, t_AO_some, t_AI_tup, t_AI_lst, t_AI_rng, t_AI_rng2, t_AI_enum, t_AI_rev, t_AG_name, t_AGs_nil, n_AGs_nil, t_AGs_cons, n_AGs_cons, t_AG_tup, t_AF_ae, t_AF_lst, t_AF_lc, t_AF_list, t_AE_sl, t_AE_revT, t_AE_chain, t_AE_isi, t_AE_view, t_AT_view, t_AE_ownIx, t_AE_ownTup, t_AE_ownSl, t_AS_nop, t_AS_brk, t_AS_cnt, t_AS_seq, t_AS_set, t_AS_asg, t_AS_drop, t_AS_par, t_AS_par3, t_AS_ret, t_AS_retN, t_AS_ifS, t_AS_for, t_AS_while, t_AS_setOwn, t_AS_append, t_AS_setAt, t_AS_frz, t_AS_fgt, t_AS_never, t_AF_lstRg, t_AE_tupRg, t_AS_insert, t_AS_aug, t_AS_parB, t_AS_par3B, t_AS_parA, t_AS_tupA, t_AS_tupB, t_aAdd, t_aMul, t_aEq, t_aNe, t_aIsN, t_aNotN, t_aIx, t_aNeg, t_aLen, t_aRepr, t_aInt, t_aIn, t_aNotIn, t_aIsB, t_aIsNotB, t_aTup, t_aMin, t_aMax, t_aI, t_aI0, t_aB0, t_AI_zipM, t_aSortR, t_lenSet, t_ext, t_lc2, t_minD, t_AI_zip, t_asgPop, t_ownLst, t_revL, t_parO, t_AF_rep, t_sortSet]) <;> rfl⟩) (fun ds t k hw => ?_)
  obtain ⟨d, ⟨m, cs, x, rfl, hm, hok, rfl⟩, hk⟩ := hw
  refine ⟨rfl, ?_⟩
  show (b_after_one_more K).wp [.dat (boardD (m : Int) cs), .dat (.tuple (vecL m x)), .un, .un, .un, .un] t _
  simp only [w_AE_var, w_AE_int, w_AE_bl, w_AE_str, w_AE_non, w_AE_op, w_AE_un, w_AA_nil, w_AA_cons, w_AE_tup, w_AE_lst, w_AE_cb, w_AE_call, w_AE_callD, w_AT_test, w_AT_b, w_AT_not, w_AT_and, w_AT_or, w_AT_yes, w_AE_ifx, w_AE_and, w_AE_or, w_AE_not, w_AO_none, w_AO_some, w_AI_tup, w_AI_lst, w_AI_rng, w_AI_rng2, w_AI_enum, w_AI_rev, w_AG_name, w_AGs_nil, w_AGs_cons, w_AG_tup, w_AF_ae, w_AF_lst, w_AF_lc, w_AF_list, w_AE_sl, w_AE_revT, w_AE_chain, w_AE_isi, w_AE_view, w_AT_view, w_AE_ownIx, w_AE_ownTup, w_AE_ownSl, w_AS_nop, w_AS_brk, w_AS_cnt, w_AS_seq, w_AS_set, w_AS_asg, w_AS_drop, w_AS_par, w_AS_par3, w_AS_ret, w_AS_retN, w_AS_ifS, w_AS_for, w_AS_while, w_AS_setOwn, w_AS_append, w_AS_setAt, w_AS_frz, w_AS_fgt, w_AS_never, w_AF_lstRg, w_AE_tupRg, w_AS_insert, w_AS_aug, w_AS_parB, w_AS_par3B, w_AS_parA, w_AS_tupA, w_AS_tupB, f_aAdd, f_aMul, f_aEq, f_aNe, f_aIsN, f_aNotN, f_aIx, f_aNeg, f_aLen, f_aRepr, f_aInt, f_aIn, f_aNotIn, f_aIsB, f_aIsNotB, f_aTup, f_aI, f_aI0, f_aB0, f_aMin, f_aMax, q_inL, q_inT, q_notInL, q_notInT, q_isB, q_isNotB, q_addI, q_addT, q_addL, q_int, q_int0, q_bool0, q_mulI, q_mulT, q_mulL, q_eqI, q_eqS, q_neI, q_neS, q_isN, q_notN, q_ixT, q_ixL, q_neg, q_lenT, q_lenL, q_repr, q_two, q_intB, q_tupT, q_tupL, q_slT, q_slL, q_unB, q_unI, q_unT, q_unL, q_unI1, q_unI2, q_unT1, q_unS1T, q_unS1L, q_un1, q_un2, q_un3, q_hd, q_rd, q_ow, q_ctrT, q_ctrI, q_ctrS, q_ctrS2, q_brdT, q_brd0, q_brd1, q_rowI, q_rowT, q_rowT1, q_rowL, q_at0, q_at1, q_at2, q_at3, w_AI_zipM, q_unTL, f_aSortR, sortRF, w_lenSet, w_ext, w_lc2, w_minD, w_AI_zip, q_unTT, w_asgPop, w_ownLst, w_revL, q_unL0, w_parO, w_AF_rep, w_sortSet, wipeE, List.getElem?_cons_zero, List.getElem?_cons_succ, List.set_cons_zero, List.set_cons_succ, if_true, Bool.false_eq_true, if_false, true_and, and_true, Lim, dkS_deck, List.length_cons, List.length_nil, Nat.reduceAdd, Nat.reduceLeDiff, Nat.zero_le, Nat.zero_add, Int.reduceLT, Int.reduceLE, Int.reducePow, Int.reduceNeg, eq_self, decide_true, Bool.not_true, Bool.not_false, q_neB, q_eqB, q_isiR, q_rtT, q_rtT1, q_rtL, q_rtS0, q_rtS1, q_rtI, q_rtA, viewE_cons, viewE_nil, viewS_own, viewS_dat, viewS_deck, flat_int, flat_bool, flat_str, List.cons_append, List.nil_append, b_after_one_more]
  simp only [w_AE_var, w_AE_int, w_AE_bl, w_AE_str, w_AE_non, w_AE_op, w_AE_un, w_AA_nil, w_AA_cons, w_AE_tup, w_AE_lst, w_AE_cb, w_AE_call, w_AE_callD, w_AT_test, w_AT_b, w_AT_not, w_AT_and, w_AT_or, w_AT_yes, w_AE_ifx, w_AE_and, w_AE_or, w_AE_not, w_AO_none, w_AO_some, w_AI_tup, w_AI_lst, w_AI_rng, w_AI_rng2, w_AI_enum, w_AI_rev, w_AG_name, w_AGs_nil, w_AGs_cons, w_AG_tup, w_AF_ae, w_AF_lst, w_AF_lc, w_AF_list, w_AE_sl, w_AE_revT, w_AE_chain, w_AE_isi, w_AE_view, w_AT_view, w_AE_ownIx, w_AE_ownTup, w_AE_ownSl, w_AS_nop, w_AS_brk, w_AS_cnt, w_AS_seq, w_AS_set, w_AS_asg, w_AS_drop, w_AS_par, w_AS_par3, w_AS_ret, w_AS_retN, w_AS_ifS, w_AS_for, w_AS_while, w_AS_setOwn, w_AS_append, w_AS_setAt, w_AS_frz, w_AS_fgt, w_AS_never, w_AF_lstRg, w_AE_tupRg, w_AS_insert, w_AS_aug, w_AS_parB, w_AS_par3B, w_AS_parA, w_AS_tupA, w_AS_tupB, f_aAdd, f_aMul, f_aEq, f_aNe, f_aIsN, f_aNotN, f_aIx, f_aNeg, f_aLen, f_aRepr, f_aInt, f_aIn, f_aNotIn, f_aIsB, f_aIsNotB, f_aTup, f_aI, f_aI0, f_aB0, f_aMin, f_aMax, q_inL, q_inT, q_notInL, q_notInT, q_isB, q_isNotB, q_addI, q_addT, q_addL, q_int, q_int0, q_bool0, q_mulI, q_mulT, q_mulL, q_eqI, q_eqS, q_neI, q_neS, q_isN, q_notN, q_ixT, q_ixL, q_neg, q_lenT, q_lenL, q_repr, q_two, q_intB, q_tupT, q_tupL, q_slT, q_slL, q_unB, q_unI, q_unT, q_unL, q_unI1, q_unI2, q_unT1, q_unS1T, q_unS1L, q_un1, q_un2, q_un3, q_hd, q_rd, q_ow, q_ctrT, q_ctrI, q_ctrS, q_ctrS2, q_brdT, q_brd0, q_brd1, q_rowI, q_rowT, q_rowT1, q_rowL, q_at0, q_at1, q_at2, q_at3, w_AI_zipM, q_unTL, f_aSortR, sortRF, w_lenSet, w_ext, w_lc2, w_minD, w_AI_zip, q_unTT, w_asgPop, w_ownLst, w_revL, q_unL0, w_parO, w_AF_rep, w_sortSet, wipeE, List.getElem?_cons_zero, List.getElem?_cons_succ, List.set_cons_zero, List.set_cons_succ, if_true, Bool.false_eq_true, if_false, true_and, and_true, Lim, dkS_deck, List.length_cons, List.length_nil, Nat.reduceAdd, Nat.reduceLeDiff, Nat.zero_le, Nat.zero_add, Int.reduceLT, Int.reduceLE, Int.reducePow, Int.reduceNeg, eq_self, decide_true, Bool.not_true, Bool.not_false, q_neB, q_eqB, q_isiR, q_rtT, q_rtT1, q_rtL, q_rtS0, q_rtS1, q_rtI, q_rtA, viewE_cons, viewE_nil, viewS_own, viewS_dat, viewS_deck, flat_int, flat_bool, flat_str, List.cons_append, List.nil_append, b_after_one_more_1]
  refine ⟨fun i e s => ∃ (y3 y4 y5 : Sl), e = [.dat (boardD (m : Int) cs), .dat (.tuple (vecL m x)), .own (vecL m (foldA (cs.take i) x x)), y3, y4, y5] ∧ s = t, ⟨_, _, _, rfl, rfl⟩, ?_, ?_⟩
  · rintro i d e s hd ⟨y3, y4, y5, rfl, rfl⟩
    rw [List.getElem?_map] at hd
    cases hq : cs[i]? with
    | none => rw [hq] at hd; cases hd
    | some c =>
      rw [hq] at hd
      cases hd
      have cok := hok c (List.mem_of_getElem? hq)
      have en : foldA (cs.take (i + 1)) x x = rel c x (foldA (cs.take i) x x) := by unfold foldA; rw [take_next hq, List.foldl_append]; rfl
      simp only [w_AE_var, w_AE_int, w_AE_bl, w_AE_str, w_AE_non, w_AE_op, w_AE_un, w_AA_nil, w_AA_cons, w_AE_tup, w_AE_lst, w_AE_cb, w_AE_call, w_AE_callD, w_AT_test, w_AT_b, w_AT_not, w_AT_and, w_AT_or, w_AT_yes, w_AE_ifx, w_AE_and, w_AE_or, w_AE_not, w_AO_none, w_AO_some, w_AI_tup, w_AI_lst, w_AI_rng, w_AI_rng2, w_AI_enum, w_AI_rev, w_AG_name, w_AGs_nil, w_AGs_cons, w_AG_tup, w_AF_ae, w_AF_lst, w_AF_lc, w_AF_list, w_AE_sl, w_AE_revT, w_AE_chain, w_AE_isi, w_AE_view, w_AT_view, w_AE_ownIx, w_AE_ownTup, w_AE_ownSl, w_AS_nop, w_AS_brk, w_AS_cnt, w_AS_seq, w_AS_set, w_AS_asg, w_AS_drop, w_AS_par, w_AS_par3, w_AS_ret, w_AS_retN, w_AS_ifS, w_AS_for, w_AS_while, w_AS_setOwn, w_AS_append, w_AS_setAt, w_AS_frz, w_AS_fgt, w_AS_never, w_AF_lstRg, w_AE_tupRg, w_AS_insert, w_AS_aug, w_AS_parB, w_AS_par3B, w_AS_parA, w_AS_tupA, w_AS_tupB, f_aAdd, f_aMul, f_aEq, f_aNe, f_aIsN, f_aNotN, f_aIx, f_aNeg, f_aLen, f_aRepr, f_aInt, f_aIn, f_aNotIn, f_aIsB, f_aIsNotB, f_aTup, f_aI, f_aI0, f_aB0, f_aMin, f_aMax, q_inL, q_inT, q_notInL, q_notInT, q_isB, q_isNotB, q_addI, q_addT, q_addL, q_int, q_int0, q_bool0, q_mulI, q_mulT, q_mulL, q_eqI, q_eqS, q_neI, q_neS, q_isN, q_notN, q_ixT, q_ixL, q_neg, q_lenT, q_lenL, q_repr, q_two, q_intB, q_tupT, q_tupL, q_slT, q_slL, q_unB, q_unI, q_unT, q_unL, q_unI1, q_unI2, q_unT1, q_unS1T, q_unS1L, q_un1, q_un2, q_un3, q_hd, q_rd, q_ow, q_ctrT, q_ctrI, q_ctrS, q_ctrS2, q_brdT, q_brd0, q_brd1, q_rowI, q_rowT, q_rowT1, q_rowL, q_at0, q_at1, q_at2, q_at3, w_AI_zipM, q_unTL, f_aSortR, sortRF, w_lenSet, w_ext, w_lc2, w_minD, w_AI_zip, q_unTT, w_asgPop, w_ownLst, w_revL, q_unL0, w_parO, w_AF_rep, w_sortSet, wipeE, List.getElem?_cons_zero, List.getElem?_cons_succ, List.set_cons_zero, List.set_cons_succ, if_true, Bool.false_eq_true, if_false, true_and, and_true, Lim, dkS_deck, List.length_cons, List.length_nil, Nat.reduceAdd, Nat.reduceLeDiff, Nat.zero_le, Nat.zero_add, Int.reduceLT, Int.reduceLE, Int.reducePow, Int.reduceNeg, eq_self, decide_true, Bool.not_true, Bool.not_false, q_neB, q_eqB, q_isiR, q_rtT, q_rtT1, q_rtL, q_rtS0, q_rtS1, q_rtI, q_rtA, viewE_cons, viewE_nil, viewS_own, viewS_dat, viewS_deck, flat_int, flat_bool, flat_str, List.cons_append, List.nil_append, b_after_one_more_1b0]
      rw [en]
      generalize foldA (cs.take i) x x = y
      simp only [w_AE_var, w_AE_int, w_AE_bl, w_AE_str, w_AE_non, w_AE_op, w_AE_un, w_AA_nil, w_AA_cons, w_AE_tup, w_AE_lst, w_AE_cb, w_AE_call, w_AE_callD, w_AT_test, w_AT_b, w_AT_not, w_AT_and, w_AT_or, w_AT_yes, w_AE_ifx, w_AE_and, w_AE_or, w_AE_not, w_AO_none, w_AO_some, w_AI_tup, w_AI_lst, w_AI_rng, w_AI_rng2, w_AI_enum, w_AI_rev, w_AG_name, w_AGs_nil, w_AGs_cons, w_AG_tup, w_AF_ae, w_AF_lst, w_AF_lc, w_AF_list, w_AE_sl, w_AE_revT, w_AE_chain, w_AE_isi, w_AE_view, w_AT_view, w_AE_ownIx, w_AE_ownTup, w_AE_ownSl, w_AS_nop, w_AS_brk, w_AS_cnt, w_AS_seq, w_AS_set, w_AS_asg, w_AS_drop, w_AS_par, w_AS_par3, w_AS_ret, w_AS_retN, w_AS_ifS, w_AS_for, w_AS_while, w_AS_setOwn, w_AS_append, w_AS_setAt, w_AS_frz, w_AS_fgt, w_AS_never, w_AF_lstRg, w_AE_tupRg, w_AS_insert, w_AS_aug, w_AS_parB, w_AS_par3B, w_AS_parA, w_AS_tupA, w_AS_tupB, f_aAdd, f_aMul, f_aEq, f_aNe, f_aIsN, f_aNotN, f_aIx, f_aNeg, f_aLen, f_aRepr, f_aInt, f_aIn, f_aNotIn, f_aIsB, f_aIsNotB, f_aTup, f_aI, f_aI0, f_aB0, f_aMin, f_aMax, q_inL, q_inT, q_notInL, q_notInT, q_isB, q_isNotB, q_addI, q_addT, q_addL, q_int, q_int0, q_bool0, q_mulI, q_mulT, q_mulL, q_eqI, q_eqS, q_neI, q_neS, q_isN, q_notN, q_ixT, q_ixL, q_neg, q_lenT, q_lenL, q_repr, q_two, q_intB, q_tupT, q_tupL, q_slT, q_slL, q_unB, q_unI, q_unT, q_unL, q_unI1, q_unI2, q_unT1, q_unS1T, q_unS1L, q_un1, q_un2, q_un3, q_hd, q_rd, q_ow, q_ctrT, q_ctrI, q_ctrS, q_ctrS2, q_brdT, q_brd0, q_brd1, q_rowI, q_rowT, q_rowT1, q_rowL, q_at0, q_at1, q_at2, q_at3, w_AI_zipM, q_unTL, f_aSortR, sortRF, w_lenSet, w_ext, w_lc2, w_minD, w_AI_zip, q_unTT, w_asgPop, w_ownLst, w_revL, q_unL0, w_parO, w_AF_rep, w_sortSet, wipeE, List.getElem?_cons_zero, List.getElem?_cons_succ, List.set_cons_zero, List.set_cons_succ, if_true, Bool.false_eq_true, if_false, true_and, and_true, Lim, dkS_deck, List.length_cons, List.length_nil, Nat.reduceAdd, Nat.reduceLeDiff, Nat.zero_le, Nat.zero_add, Int.reduceLT, Int.reduceLE, Int.reducePow, Int.reduceNeg, eq_self, decide_true, Bool.not_true, Bool.not_false, q_neB, q_eqB, q_isiR, q_rtT, q_rtT1, q_rtL, q_rtS0, q_rtS1, q_rtI, q_rtA, viewE_cons, viewE_nil, viewS_own, viewS_dat, viewS_deck, flat_int, flat_bool, flat_str, List.cons_append, List.nil_append, b_after_one_more_1b1]
      refine atW_of (at_vec cok.s0 cok.s1) ?_
      cases hx : x c.s with
      | none =>
        rw [show numD none = .none from rfl]
        simp only [w_AE_var, w_AE_int, w_AE_bl, w_AE_str, w_AE_non, w_AE_op, w_AE_un, w_AA_nil, w_AA_cons, w_AE_tup, w_AE_lst, w_AE_cb, w_AE_call, w_AE_callD, w_AT_test, w_AT_b, w_AT_not, w_AT_and, w_AT_or, w_AT_yes, w_AE_ifx, w_AE_and, w_AE_or, w_AE_not, w_AO_none, w_AO_some, w_AI_tup, w_AI_lst, w_AI_rng, w_AI_rng2, w_AI_enum, w_AI_rev, w_AG_name, w_AGs_nil, w_AGs_cons, w_AG_tup, w_AF_ae, w_AF_lst, w_AF_lc, w_AF_list, w_AE_sl, w_AE_revT, w_AE_chain, w_AE_isi, w_AE_view, w_AT_view, w_AE_ownIx, w_AE_ownTup, w_AE_ownSl, w_AS_nop, w_AS_brk, w_AS_cnt, w_AS_seq, w_AS_set, w_AS_asg, w_AS_drop, w_AS_par, w_AS_par3, w_AS_ret, w_AS_retN, w_AS_ifS, w_AS_for, w_AS_while, w_AS_setOwn, w_AS_append, w_AS_setAt, w_AS_frz, w_AS_fgt, w_AS_never, w_AF_lstRg, w_AE_tupRg, w_AS_insert, w_AS_aug, w_AS_parB, w_AS_par3B, w_AS_parA, w_AS_tupA, w_AS_tupB, f_aAdd, f_aMul, f_aEq, f_aNe, f_aIsN, f_aNotN, f_aIx, f_aNeg, f_aLen, f_aRepr, f_aInt, f_aIn, f_aNotIn, f_aIsB, f_aIsNotB, f_aTup, f_aI, f_aI0, f_aB0, f_aMin, f_aMax, q_inL, q_inT, q_notInL, q_notInT, q_isB, q_isNotB, q_addI, q_addT, q_addL, q_int, q_int0, q_bool0, q_mulI, q_mulT, q_mulL, q_eqI, q_eqS, q_neI, q_neS, q_isN, q_notN, q_ixT, q_ixL, q_neg, q_lenT, q_lenL, q_repr, q_two, q_intB, q_tupT, q_tupL, q_slT, q_slL, q_unB, q_unI, q_unT, q_unL, q_unI1, q_unI2, q_unT1, q_unS1T, q_unS1L, q_un1, q_un2, q_un3, q_hd, q_rd, q_ow, q_ctrT, q_ctrI, q_ctrS, q_ctrS2, q_brdT, q_brd0, q_brd1, q_rowI, q_rowT, q_rowT1, q_rowL, q_at0, q_at1, q_at2, q_at3, w_AI_zipM, q_unTL, f_aSortR, sortRF, w_lenSet, w_ext, w_lc2, w_minD, w_AI_zip, q_unTT, w_asgPop, w_ownLst, w_revL, q_unL0, w_parO, w_AF_rep, w_sortSet, wipeE, List.getElem?_cons_zero, List.getElem?_cons_succ, List.set_cons_zero, List.set_cons_succ, if_true, Bool.false_eq_true, if_false, true_and, and_true, Lim, dkS_deck, List.length_cons, List.length_nil, Nat.reduceAdd, Nat.reduceLeDiff, Nat.zero_le, Nat.zero_add, Int.reduceLT, Int.reduceLE, Int.reducePow, Int.reduceNeg, eq_self, decide_true, Bool.not_true, Bool.not_false, q_neB, q_eqB, q_isiR, q_rtT, q_rtT1, q_rtL, q_rtS0, q_rtS1, q_rtI, q_rtA, viewE_cons, viewE_nil, viewS_own, viewS_dat, viewS_deck, flat_int, flat_bool, flat_str, List.cons_append, List.nil_append, q_noneN]
        refine ⟨_, ix_vec cok.t0 cok.t1, ?_⟩
        rw [set_vec (z := rel c x y) cok.t0 cok.t1 (by unfold rel; rw [if_pos rfl, hx]; cases y c.t <;> rfl) fun i hi => by unfold rel; rw [if_neg hi]]
        exact ⟨_, _, _, rfl⟩
      | some v =>
        rw [show numD (some v) = .int v from rfl]
        simp only [w_AE_var, w_AE_int, w_AE_bl, w_AE_str, w_AE_non, w_AE_op, w_AE_un, w_AA_nil, w_AA_cons, w_AE_tup, w_AE_lst, w_AE_cb, w_AE_call, w_AE_callD, w_AT_test, w_AT_b, w_AT_not, w_AT_and, w_AT_or, w_AT_yes, w_AE_ifx, w_AE_and, w_AE_or, w_AE_not, w_AO_none, w_AO_some, w_AI_tup, w_AI_lst, w_AI_rng, w_AI_rng2, w_AI_enum, w_AI_rev, w_AG_name, w_AGs_nil, w_AGs_cons, w_AG_tup, w_AF_ae, w_AF_lst, w_AF_lc, w_AF_list, w_AE_sl, w_AE_revT, w_AE_chain, w_AE_isi, w_AE_view, w_AT_view, w_AE_ownIx, w_AE_ownTup, w_AE_ownSl, w_AS_nop, w_AS_brk, w_AS_cnt, w_AS_seq, w_AS_set, w_AS_asg, w_AS_drop, w_AS_par, w_AS_par3, w_AS_ret, w_AS_retN, w_AS_ifS, w_AS_for, w_AS_while, w_AS_setOwn, w_AS_append, w_AS_setAt, w_AS_frz, w_AS_fgt, w_AS_never, w_AF_lstRg, w_AE_tupRg, w_AS_insert, w_AS_aug, w_AS_parB, w_AS_par3B, w_AS_parA, w_AS_tupA, w_AS_tupB, f_aAdd, f_aMul, f_aEq, f_aNe, f_aIsN, f_aNotN, f_aIx, f_aNeg, f_aLen, f_aRepr, f_aInt, f_aIn, f_aNotIn, f_aIsB, f_aIsNotB, f_aTup, f_aI, f_aI0, f_aB0, f_aMin, f_aMax, q_inL, q_inT, q_notInL, q_notInT, q_isB, q_isNotB, q_addI, q_addT, q_addL, q_int, q_int0, q_bool0, q_mulI, q_mulT, q_mulL, q_eqI, q_eqS, q_neI, q_neS, q_isN, q_notN, q_ixT, q_ixL, q_neg, q_lenT, q_lenL, q_repr, q_two, q_intB, q_tupT, q_tupL, q_slT, q_slL, q_unB, q_unI, q_unT, q_unL, q_unI1, q_unI2, q_unT1, q_unS1T, q_unS1L, q_un1, q_un2, q_un3, q_hd, q_rd, q_ow, q_ctrT, q_ctrI, q_ctrS, q_ctrS2, q_brdT, q_brd0, q_brd1, q_rowI, q_rowT, q_rowT1, q_rowL, q_at0, q_at1, q_at2, q_at3, w_AI_zipM, q_unTL, f_aSortR, sortRF, w_lenSet, w_ext, w_lc2, w_minD, w_AI_zip, q_unTT, w_asgPop, w_ownLst, w_revL, q_unL0, w_parO, w_AF_rep, w_sortSet, wipeE, List.getElem?_cons_zero, List.getElem?_cons_succ, List.set_cons_zero, List.set_cons_succ, if_true, Bool.false_eq_true, if_false, true_and, and_true, Lim, dkS_deck, List.length_cons, List.length_nil, Nat.reduceAdd, Nat.reduceLeDiff, Nat.zero_le, Nat.zero_add, Int.reduceLT, Int.reduceLE, Int.reducePow, Int.reduceNeg, eq_self, decide_true, Bool.not_true, Bool.not_false, q_neB, q_eqB, q_isiR, q_rtT, q_rtT1, q_rtL, q_rtS0, q_rtS1, q_rtI, q_rtA, viewE_cons, viewE_nil, viewS_own, viewS_dat, viewS_deck, flat_int, flat_bool, flat_str, List.cons_append, List.nil_append, q_noneI, b_after_one_more_1b1e0]
        refine atW_of (at_vec cok.t0 cok.t1) ?_
        cases hy : y c.t with
        | none =>
          rw [show numD none = .none from rfl]
          simp only [w_AE_var, w_AE_int, w_AE_bl, w_AE_str, w_AE_non, w_AE_op, w_AE_un, w_AA_nil, w_AA_cons, w_AE_tup, w_AE_lst, w_AE_cb, w_AE_call, w_AE_callD, w_AT_test, w_AT_b, w_AT_not, w_AT_and, w_AT_or, w_AT_yes, w_AE_ifx, w_AE_and, w_AE_or, w_AE_not, w_AO_none, w_AO_some, w_AI_tup, w_AI_lst, w_AI_rng, w_AI_rng2, w_AI_enum, w_AI_rev, w_AG_name, w_AGs_nil, w_AGs_cons, w_AG_tup, w_AF_ae, w_AF_lst, w_AF_lc, w_AF_list, w_AE_sl, w_AE_revT, w_AE_chain, w_AE_isi, w_AE_view, w_AT_view, w_AE_ownIx, w_AE_ownTup, w_AE_ownSl, w_AS_nop, w_AS_brk, w_AS_cnt, w_AS_seq, w_AS_set, w_AS_asg, w_AS_drop, w_AS_par, w_AS_par3, w_AS_ret, w_AS_retN, w_AS_ifS, w_AS_for, w_AS_while, w_AS_setOwn, w_AS_append, w_AS_setAt, w_AS_frz, w_AS_fgt, w_AS_never, w_AF_lstRg, w_AE_tupRg, w_AS_insert, w_AS_aug, w_AS_parB, w_AS_par3B, w_AS_parA, w_AS_tupA, w_AS_tupB, f_aAdd, f_aMul, f_aEq, f_aNe, f_aIsN, f_aNotN, f_aIx, f_aNeg, f_aLen, f_aRepr, f_aInt, f_aIn, f_aNotIn, f_aIsB, f_aIsNotB, f_aTup, f_aI, f_aI0, f_aB0, f_aMin, f_aMax, q_inL, q_inT, q_notInL, q_notInT, q_isB, q_isNotB, q_addI, q_addT, q_addL, q_int, q_int0, q_bool0, q_mulI, q_mulT, q_mulL, q_eqI, q_eqS, q_neI, q_neS, q_isN, q_notN, q_ixT, q_ixL, q_neg, q_lenT, q_lenL, q_repr, q_two, q_intB, q_tupT, q_tupL, q_slT, q_slL, q_unB, q_unI, q_unT, q_unL, q_unI1, q_unI2, q_unT1, q_unS1T, q_unS1L, q_un1, q_un2, q_un3, q_hd, q_rd, q_ow, q_ctrT, q_ctrI, q_ctrS, q_ctrS2, q_brdT, q_brd0, q_brd1, q_rowI, q_rowT, q_rowT1, q_rowL, q_at0, q_at1, q_at2, q_at3, w_AI_zipM, q_unTL, f_aSortR, sortRF, w_lenSet, w_ext, w_lc2, w_minD, w_AI_zip, q_unTT, w_asgPop, w_ownLst, w_revL, q_unL0, w_parO, w_AF_rep, w_sortSet, wipeE, List.getElem?_cons_zero, List.getElem?_cons_succ, List.set_cons_zero, List.set_cons_succ, if_true, Bool.false_eq_true, if_false, true_and, and_true, Lim, dkS_deck, List.length_cons, List.length_nil, Nat.reduceAdd, Nat.reduceLeDiff, Nat.zero_le, Nat.zero_add, Int.reduceLT, Int.reduceLE, Int.reducePow, Int.reduceNeg, eq_self, decide_true, Bool.not_true, Bool.not_false, q_neB, q_eqB, q_isiR, q_rtT, q_rtT1, q_rtL, q_rtS0, q_rtS1, q_rtI, q_rtA, viewE_cons, viewE_nil, viewS_own, viewS_dat, viewS_deck, flat_int, flat_bool, flat_str, List.cons_append, List.nil_append, q_noneN]
          have e : vecL m (rel c x y) = vecL m y := by
            congr 1
            funext j
            unfold rel
            by_cases hj : j = c.t
            · rw [if_pos hj, hj, hy]; rfl
            · rw [if_neg hj]
          rw [e]
          exact ⟨_, _, _, rfl⟩
        | some u =>
          rw [show numD (some u) = .int u from rfl]
          simp only [w_AE_var, w_AE_int, w_AE_bl, w_AE_str, w_AE_non, w_AE_op, w_AE_un, w_AA_nil, w_AA_cons, w_AE_tup, w_AE_lst, w_AE_cb, w_AE_call, w_AE_callD, w_AT_test, w_AT_b, w_AT_not, w_AT_and, w_AT_or, w_AT_yes, w_AE_ifx, w_AE_and, w_AE_or, w_AE_not, w_AO_none, w_AO_some, w_AI_tup, w_AI_lst, w_AI_rng, w_AI_rng2, w_AI_enum, w_AI_rev, w_AG_name, w_AGs_nil, w_AGs_cons, w_AG_tup, w_AF_ae, w_AF_lst, w_AF_lc, w_AF_list, w_AE_sl, w_AE_revT, w_AE_chain, w_AE_isi, w_AE_view, w_AT_view, w_AE_ownIx, w_AE_ownTup, w_AE_ownSl, w_AS_nop, w_AS_brk, w_AS_cnt, w_AS_seq, w_AS_set, w_AS_asg, w_AS_drop, w_AS_par, w_AS_par3, w_AS_ret, w_AS_retN, w_AS_ifS, w_AS_for, w_AS_while, w_AS_setOwn, w_AS_append, w_AS_setAt, w_AS_frz, w_AS_fgt, w_AS_never, w_AF_lstRg, w_AE_tupRg, w_AS_insert, w_AS_aug, w_AS_parB, w_AS_par3B, w_AS_parA, w_AS_tupA, w_AS_tupB, f_aAdd, f_aMul, f_aEq, f_aNe, f_aIsN, f_aNotN, f_aIx, f_aNeg, f_aLen, f_aRepr, f_aInt, f_aIn, f_aNotIn, f_aIsB, f_aIsNotB, f_aTup, f_aI, f_aI0, f_aB0, f_aMin, f_aMax, q_inL, q_inT, q_notInL, q_notInT, q_isB, q_isNotB, q_addI, q_addT, q_addL, q_int, q_int0, q_bool0, q_mulI, q_mulT, q_mulL, q_eqI, q_eqS, q_neI, q_neS, q_isN, q_notN, q_ixT, q_ixL, q_neg, q_lenT, q_lenL, q_repr, q_two, q_intB, q_tupT, q_tupL, q_slT, q_slL, q_unB, q_unI, q_unT, q_unL, q_unI1, q_unI2, q_unT1, q_unS1T, q_unS1L, q_un1, q_un2, q_un3, q_hd, q_rd, q_ow, q_ctrT, q_ctrI, q_ctrS, q_ctrS2, q_brdT, q_brd0, q_brd1, q_rowI, q_rowT, q_rowT1, q_rowL, q_at0, q_at1, q_at2, q_at3, w_AI_zipM, q_unTL, f_aSortR, sortRF, w_lenSet, w_ext, w_lc2, w_minD, w_AI_zip, q_unTT, w_asgPop, w_ownLst, w_revL, q_unL0, w_parO, w_AF_rep, w_sortSet, wipeE, List.getElem?_cons_zero, List.getElem?_cons_succ, List.set_cons_zero, List.set_cons_succ, if_true, Bool.false_eq_true, if_false, true_and, and_true, Lim, dkS_deck, List.length_cons, List.length_nil, Nat.reduceAdd, Nat.reduceLeDiff, Nat.zero_le, Nat.zero_add, Int.reduceLT, Int.reduceLE, Int.reducePow, Int.reduceNeg, eq_self, decide_true, Bool.not_true, Bool.not_false, q_neB, q_eqB, q_isiR, q_rtT, q_rtT1, q_rtL, q_rtS0, q_rtS1, q_rtI, q_rtA, viewE_cons, viewE_nil, viewS_own, viewS_dat, viewS_deck, flat_int, flat_bool, flat_str, List.cons_append, List.nil_append, q_noneI, p_changed, w_pP]
          refine atW_of (at_vec cok.t0 cok.t1) (atW_of (at_vec cok.s0 cok.s1) ?_)
          rw [hx, hy, show numD (some v) = .int v from rfl, show numD (some u) = .int u from rfl]
          refine ⟨_, ⟨_, c, v, rfl, cok, rfl⟩, ?_⟩
          simp only [w_AE_var, w_AE_int, w_AE_bl, w_AE_str, w_AE_non, w_AE_op, w_AE_un, w_AA_nil, w_AA_cons, w_AE_tup, w_AE_lst, w_AE_cb, w_AE_call, w_AE_callD, w_AT_test, w_AT_b, w_AT_not, w_AT_and, w_AT_or, w_AT_yes, w_AE_ifx, w_AE_and, w_AE_or, w_AE_not, w_AO_none, w_AO_some, w_AI_tup, w_AI_lst, w_AI_rng, w_AI_rng2, w_AI_enum, w_AI_rev, w_AG_name, w_AGs_nil, w_AGs_cons, w_AG_tup, w_AF_ae, w_AF_lst, w_AF_lc, w_AF_list, w_AE_sl, w_AE_revT, w_AE_chain, w_AE_isi, w_AE_view, w_AT_view, w_AE_ownIx, w_AE_ownTup, w_AE_ownSl, w_AS_nop, w_AS_brk, w_AS_cnt, w_AS_seq, w_AS_set, w_AS_asg, w_AS_drop, w_AS_par, w_AS_par3, w_AS_ret, w_AS_retN, w_AS_ifS, w_AS_for, w_AS_while, w_AS_setOwn, w_AS_append, w_AS_setAt, w_AS_frz, w_AS_fgt, w_AS_never, w_AF_lstRg, w_AE_tupRg, w_AS_insert, w_AS_aug, w_AS_parB, w_AS_par3B, w_AS_parA, w_AS_tupA, w_AS_tupB, f_aAdd, f_aMul, f_aEq, f_aNe, f_aIsN, f_aNotN, f_aIx, f_aNeg, f_aLen, f_aRepr, f_aInt, f_aIn, f_aNotIn, f_aIsB, f_aIsNotB, f_aTup, f_aI, f_aI0, f_aB0, f_aMin, f_aMax, q_inL, q_inT, q_notInL, q_notInT, q_isB, q_isNotB, q_addI, q_addT, q_addL, q_int, q_int0, q_bool0, q_mulI, q_mulT, q_mulL, q_eqI, q_eqS, q_neI, q_neS, q_isN, q_notN, q_ixT, q_ixL, q_neg, q_lenT, q_lenL, q_repr, q_two, q_intB, q_tupT, q_tupL, q_slT, q_slL, q_unB, q_unI, q_unT, q_unL, q_unI1, q_unI2, q_unT1, q_unS1T, q_unS1L, q_un1, q_un2, q_un3, q_hd, q_rd, q_ow, q_ctrT, q_ctrI, q_ctrS, q_ctrS2, q_brdT, q_brd0, q_brd1, q_rowI, q_rowT, q_rowT1, q_rowL, q_at0, q_at1, q_at2, q_at3, w_AI_zipM, q_unTL, f_aSortR, sortRF, w_lenSet, w_ext, w_lc2, w_minD, w_AI_zip, q_unTT, w_asgPop, w_ownLst, w_revL, q_unL0, w_parO, w_AF_rep, w_sortSet, wipeE, List.getElem?_cons_zero, List.getElem?_cons_succ, List.set_cons_zero, List.set_cons_succ, if_true, Bool.false_eq_true, if_false, true_and, and_true, Lim, dkS_deck, List.length_cons, List.length_nil, Nat.reduceAdd, Nat.reduceLeDiff, Nat.zero_le, Nat.zero_add, Int.reduceLT, Int.reduceLE, Int.reducePow, Int.reduceNeg, eq_self, decide_true, Bool.not_true, Bool.not_false, q_neB, q_eqB, q_isiR, q_rtT, q_rtT1, q_rtL, q_rtS0, q_rtS1, q_rtI, q_rtA, viewE_cons, viewE_nil, viewS_own, viewS_dat, viewS_deck, flat_int, flat_bool, flat_str, List.cons_append, List.nil_append]
          refine ⟨_, ix_vec cok.t0 cok.t1, ?_⟩
          rw [set_vec (z := rel c x y) cok.t0 cok.t1 (by unfold rel; rw [if_pos rfl, hx, hy]; rfl) fun i hi => by unfold rel; rw [if_neg hi]]
          exact ⟨_, _, _, rfl⟩
  · rintro e s ⟨y3, y4, y5, rfl, rfl⟩
    rw [List.length_map, List.take_length]
    simp only [w_AE_var, w_AE_int, w_AE_bl, w_AE_str, w_AE_non, w_AE_op, w_AE_un, w_AA_nil, w_AA_cons, w_AE_tup, w_AE_lst, w_AE_cb, w_AE_call, w_AE_callD, w_AT_test, w_AT_b, w_AT_not, w_AT_and, w_AT_or, w_AT_yes, w_AE_ifx, w_AE_and, w_AE_or, w_AE_not, w_AO_none, w_AO_some, w_AI_tup, w_AI_lst, w_AI_rng, w_AI_rng2, w_AI_enum, w_AI_rev, w_AG_name, w_AGs_nil, w_AGs_cons, w_AG_tup, w_AF_ae, w_AF_lst, w_AF_lc, w_AF_list, w_AE_sl, w_AE_revT, w_AE_chain, w_AE_isi, w_AE_view, w_AT_view, w_AE_ownIx, w_AE_ownTup, w_AE_ownSl, w_AS_nop, w_AS_brk, w_AS_cnt, w_AS_seq, w_AS_set, w_AS_asg, w_AS_drop, w_AS_par, w_AS_par3, w_AS_ret, w_AS_retN, w_AS_ifS, w_AS_for, w_AS_while, w_AS_setOwn, w_AS_append, w_AS_setAt, w_AS_frz, w_AS_fgt, w_AS_never, w_AF_lstRg, w_AE_tupRg, w_AS_insert, w_AS_aug, w_AS_parB, w_AS_par3B, w_AS_parA, w_AS_tupA, w_AS_tupB, f_aAdd, f_aMul, f_aEq, f_aNe, f_aIsN, f_aNotN, f_aIx, f_aNeg, f_aLen, f_aRepr, f_aInt, f_aIn, f_aNotIn, f_aIsB, f_aIsNotB, f_aTup, f_aI, f_aI0, f_aB0, f_aMin, f_aMax, q_inL, q_inT, q_notInL, q_notInT, q_isB, q_isNotB, q_addI, q_addT, q_addL, q_int, q_int0, q_bool0, q_mulI, q_mulT, q_mulL, q_eqI, q_eqS, q_neI, q_neS, q_isN, q_notN, q_ixT, q_ixL, q_neg, q_lenT, q_lenL, q_repr, q_two, q_intB, q_tupT, q_tupL, q_slT, q_slL, q_unB, q_unI, q_unT, q_unL, q_unI1, q_unI2, q_unT1, q_unS1T, q_unS1L, q_un1, q_un2, q_un3, q_hd, q_rd, q_ow, q_ctrT, q_ctrI, q_ctrS, q_ctrS2, q_brdT, q_brd0, q_brd1, q_rowI, q_rowT, q_rowT1, q_rowL, q_at0, q_at1, q_at2, q_at3, w_AI_zipM, q_unTL, f_aSortR, sortRF, w_lenSet, w_ext, w_lc2, w_minD, w_AI_zip, q_unTT, w_asgPop, w_ownLst, w_revL, q_unL0, w_parO, w_AF_rep, w_sortSet, wipeE, List.getElem?_cons_zero, List.getElem?_cons_succ, List.set_cons_zero, List.set_cons_succ, if_true, Bool.false_eq_true, if_false, true_and, and_true, Lim, dkS_deck, List.length_cons, List.length_nil, Nat.reduceAdd, Nat.reduceLeDiff, Nat.zero_le, Nat.zero_add, Int.reduceLT, Int.reduceLE, Int.reducePow, Int.reduceNeg, eq_self, decide_true, Bool.not_true, Bool.not_false, q_neB, q_eqB, q_isiR, q_rtT, q_rtT1, q_rtL, q_rtS0, q_rtS1, q_rtI, q_rtA, viewE_cons, viewE_nil, viewS_own, viewS_dat, viewS_deck, flat_int, flat_bool, flat_str, List.cons_append, List.nil_append, b_after_one_more_2]
    exact hk
def b_best_within_2 (K : PySem.W.Frag) : AS K := (AS.ret (AE.var K 4))
def b_best_within_1 (K : PySem.W.Frag) : AS K := (AS.seq (AS.for (AI.rng (AA.cons (AE.var K 3) (AA.nil K))) (AG.name K 5) (AS.set 4 (AE.call p_one E0 (AA.cons (AE.var K 0) (AA.cons (AE.var K 4) (AA.nil K)))))) (b_best_within_2 K))
def b_best_within (K : PySem.W.Frag) : AS K := (AS.seq (AS.set 4 (AE.call p_snum E0 (AA.cons (AE.var K 0) (AA.cons (AE.var K 1) (AA.cons (AE.var K 2) (AA.nil K)))))) (b_best_within_1 K))
theorem ok_within {f f1 f2 : Addr} {fd fd1 fd2 : FuncData} (h : Has K mg "best_within" sPBest_within ["board", "kind", "amount", "steps"] f fd) (T : Bz mg) (T_start_numbers : Has K mg "start_numbers" sPStart_numbers ["board", "kind", "amount"] f1 fd1) (G_start_numbers : FnG P w K mg base CX0 1 f1 fd1 ["board", "kind", "amount"] (spA K p_snum)) (T_after_one_more : Has K mg "after_one_more" sPAfter_one_more ["board", "numbers"] f2 fd2) (G_after_one_more : FnG P w K mg base CX0 2 f2 fd2 ["board", "numbers"] (spA K p_one)) : FnG P w K mg base CX0 3 f fd ["board", "kind", "amount", "steps"] (spA K p_within) := by
  refine okA h scPBest_within (b_best_within K) p_within (fun cd A out s H E hgd hr => ⟨_, (pss_cons (ps_set (i := 4) scPBest_within.nd rfl (Or.inl rfl) (pe_callG G_start_numbers hgd (hr.mono (by decide)) rfl T_start_numbers.m T_start_numbers.F.kp T_start_numbers.b .nil pass0 (pa_cons (pv 0) (pa_cons (pv 1) (pa_cons (pv 2) pa_nil)))))
      (pss_cons (ps_for PassesOwn.never rfl (pi_range1 rfl T.z_range (pa_cons (pv 3) pa_nil)) (pg_name (i := 5) scPBest_within.nd rfl (Or.inl rfl))
        (pss_one (ps_set (i := 4) scPBest_within.nd rfl (Or.inl rfl) (pe_callG G_after_one_more hgd (hr.mono (by decide)) rfl T_after_one_more.m T_after_one_more.F.kp T_after_one_more.b .nil pass0 (pa_cons (pv 0) (pa_cons (pv 4) pa_nil))))))
      (pss_one (ps_ret (pv 4))))), by (simp only [b_best_within_2, b_best_within_1, b_best_within, t_AE_var, t_AE_int, t_AE_bl, t_AE_str, t_AE_non, t_AE_op, t_AE_un, t_AA_nil, t_AA_cons, t_AE_tup, t_AE_lst, t_AE_cb, t_AE_call, t_AE_callD, t_AT_test, t_AT_b, t_AT_not, t_AT_and, t_AT_or, t_AT_yes, t_AE_ifx, t_AE_and, t_AE_or, t_AE_not, t_AO_none, t_AO_some, t_AI_tup, t_AI_lst, t_AI_rng, t_AI_rng2, t_AI_enum, t_AI_rev, t_AG_name, t_AGs_nil, n_AGs_nil, t_AGs_cons, n_AGs_cons, t_AG_tup, t_AF_ae, t_AF_lst, t_AF_lc, t_AF_list, t_AE_sl, t_AE_revT, t_AE_chain, t_AE_isi, t_AE_view, t_AT_view, t_AE_ownIx, t_AE_ownTup, t_AE_ownSl, t_AS_nop, t_AS_brk, t_AS_cnt, t_AS_seq, t_AS_set, t_AS_asg, t_AS_drop, t_AS_par, t_AS_par3, t_AS_ret, t_AS_retN, t_AS_ifS, t_AS_for, t_AS_while, t_AS_setOwn, t_AS_append, t_AS_setAt, t_AS_frz, t_AS_fgt, t_AS_never, t_AF_lstRg, t_AE_tupRg, t_AS_insert, t_AS_aug, t_AS_parB, t_AS_par3B, t_AS_parA, t_AS_tupA, t_AS_tupB, t_aAdd, t_aMul, t_aEq, t_aNe, t_aIsN, t_aNotN, t_aIx, t_aNeg, t_aLen, t_aRepr, t_aInt, t_aIn, t_aNotIn, t_aIsB, t_aIsNotB, t_aTup, t_aMin, t_aMax, t_aI, t_aI0, t_aB0, t_AI_zipM, t_aSortR, t_lenSet, t_ext, t_lc2, t_minD, t_AI_zip, t_asgPop, t_ownLst, t_revL, t_parO, t_AF_rep, t_sortSet]) <;> rfl⟩) (fun ds t k hw => ?_)
  obtain ⟨d, ⟨m, cs, k0, a, N, rfl, hm, hN, hok, rfl⟩, hk⟩ := hw
  refine ⟨rfl, ?_⟩
  show (b_best_within K).wp [.dat (boardD (m : Int) cs), .dat (.int k0), .dat (.int a), .dat (.int (N : Int)), .un, .un] t _
  simp only [w_AE_var, w_AE_int, w_AE_bl, w_AE_str, w_AE_non, w_AE_op, w_AE_un, w_AA_nil, w_AA_cons, w_AE_tup, w_AE_lst, w_AE_cb, w_AE_call, w_AE_callD, w_AT_test, w_AT_b, w_AT_not, w_AT_and, w_AT_or, w_AT_yes, w_AE_ifx, w_AE_and, w_AE_or, w_AE_not, w_AO_none, w_AO_some, w_AI_tup, w_AI_lst, w_AI_rng, w_AI_rng2, w_AI_enum, w_AI_rev, w_AG_name, w_AGs_nil, w_AGs_cons, w_AG_tup, w_AF_ae, w_AF_lst, w_AF_lc, w_AF_list, w_AE_sl, w_AE_revT, w_AE_chain, w_AE_isi, w_AE_view, w_AT_view, w_AE_ownIx, w_AE_ownTup, w_AE_ownSl, w_AS_nop, w_AS_brk, w_AS_cnt, w_AS_seq, w_AS_set, w_AS_asg, w_AS_drop, w_AS_par, w_AS_par3, w_AS_ret, w_AS_retN, w_AS_ifS, w_AS_for, w_AS_while, w_AS_setOwn, w_AS_append, w_AS_setAt, w_AS_frz, w_AS_fgt, w_AS_never, w_AF_lstRg, w_AE_tupRg, w_AS_insert, w_AS_aug, w_AS_parB, w_AS_par3B, w_AS_parA, w_AS_tupA, w_AS_tupB, f_aAdd, f_aMul, f_aEq, f_aNe, f_aIsN, f_aNotN, f_aIx, f_aNeg, f_aLen, f_aRepr, f_aInt, f_aIn, f_aNotIn, f_aIsB, f_aIsNotB, f_aTup, f_aI, f_aI0, f_aB0, f_aMin, f_aMax, q_inL, q_inT, q_notInL, q_notInT, q_isB, q_isNotB, q_addI, q_addT, q_addL, q_int, q_int0, q_bool0, q_mulI, q_mulT, q_mulL, q_eqI, q_eqS, q_neI, q_neS, q_isN, q_notN, q_ixT, q_ixL, q_neg, q_lenT, q_lenL, q_repr, q_two, q_intB, q_tupT, q_tupL, q_slT, q_slL, q_unB, q_unI, q_unT, q_unL, q_unI1, q_unI2, q_unT1, q_unS1T, q_unS1L, q_un1, q_un2, q_un3, q_hd, q_rd, q_ow, q_ctrT, q_ctrI, q_ctrS, q_ctrS2, q_brdT, q_brd0, q_brd1, q_rowI, q_rowT, q_rowT1, q_rowL, q_at0, q_at1, q_at2, q_at3, w_AI_zipM, q_unTL, f_aSortR, sortRF, w_lenSet, w_ext, w_lc2, w_minD, w_AI_zip, q_unTT, w_asgPop, w_ownLst, w_revL, q_unL0, w_parO, w_AF_rep, w_sortSet, wipeE, List.getElem?_cons_zero, List.getElem?_cons_succ, List.set_cons_zero, List.set_cons_succ, if_true, Bool.false_eq_true, if_false, true_and, and_true, Lim, dkS_deck, List.length_cons, List.length_nil, Nat.reduceAdd, Nat.reduceLeDiff, Nat.zero_le, Nat.zero_add, Int.reduceLT, Int.reduceLE, Int.reducePow, Int.reduceNeg, eq_self, decide_true, Bool.not_true, Bool.not_false, q_neB, q_eqB, q_isiR, q_rtT, q_rtT1, q_rtL, q_rtS0, q_rtS1, q_rtI, q_rtA, viewE_cons, viewE_nil, viewS_own, viewS_dat, viewS_deck, flat_int, flat_bool, flat_str, List.cons_append, List.nil_append, b_best_within, p_snum, w_pP]
  refine ⟨_, ⟨m, cs, k0, a, rfl, hm, rfl⟩, ?_⟩
  simp only [w_AE_var, w_AE_int, w_AE_bl, w_AE_str, w_AE_non, w_AE_op, w_AE_un, w_AA_nil, w_AA_cons, w_AE_tup, w_AE_lst, w_AE_cb, w_AE_call, w_AE_callD, w_AT_test, w_AT_b, w_AT_not, w_AT_and, w_AT_or, w_AT_yes, w_AE_ifx, w_AE_and, w_AE_or, w_AE_not, w_AO_none, w_AO_some, w_AI_tup, w_AI_lst, w_AI_rng, w_AI_rng2, w_AI_enum, w_AI_rev, w_AG_name, w_AGs_nil, w_AGs_cons, w_AG_tup, w_AF_ae, w_AF_lst, w_AF_lc, w_AF_list, w_AE_sl, w_AE_revT, w_AE_chain, w_AE_isi, w_AE_view, w_AT_view, w_AE_ownIx, w_AE_ownTup, w_AE_ownSl, w_AS_nop, w_AS_brk, w_AS_cnt, w_AS_seq, w_AS_set, w_AS_asg, w_AS_drop, w_AS_par, w_AS_par3, w_AS_ret, w_AS_retN, w_AS_ifS, w_AS_for, w_AS_while, w_AS_setOwn, w_AS_append, w_AS_setAt, w_AS_frz, w_AS_fgt, w_AS_never, w_AF_lstRg, w_AE_tupRg, w_AS_insert, w_AS_aug, w_AS_parB, w_AS_par3B, w_AS_parA, w_AS_tupA, w_AS_tupB, f_aAdd, f_aMul, f_aEq, f_aNe, f_aIsN, f_aNotN, f_aIx, f_aNeg, f_aLen, f_aRepr, f_aInt, f_aIn, f_aNotIn, f_aIsB, f_aIsNotB, f_aTup, f_aI, f_aI0, f_aB0, f_aMin, f_aMax, q_inL, q_inT, q_notInL, q_notInT, q_isB, q_isNotB, q_addI, q_addT, q_addL, q_int, q_int0, q_bool0, q_mulI, q_mulT, q_mulL, q_eqI, q_eqS, q_neI, q_neS, q_isN, q_notN, q_ixT, q_ixL, q_neg, q_lenT, q_lenL, q_repr, q_two, q_intB, q_tupT, q_tupL, q_slT, q_slL, q_unB, q_unI, q_unT, q_unL, q_unI1, q_unI2, q_unT1, q_unS1T, q_unS1L, q_un1, q_un2, q_un3, q_hd, q_rd, q_ow, q_ctrT, q_ctrI, q_ctrS, q_ctrS2, q_brdT, q_brd0, q_brd1, q_rowI, q_rowT, q_rowT1, q_rowL, q_at0, q_at1, q_at2, q_at3, w_AI_zipM, q_unTL, f_aSortR, sortRF, w_lenSet, w_ext, w_lc2, w_minD, w_AI_zip, q_unTT, w_asgPop, w_ownLst, w_revL, q_unL0, w_parO, w_AF_rep, w_sortSet, wipeE, List.getElem?_cons_zero, List.getElem?_cons_succ, List.set_cons_zero, List.set_cons_succ, if_true, Bool.false_eq_true, if_false, true_and, and_true, Lim, dkS_deck, List.length_cons, List.length_nil, Nat.reduceAdd, Nat.reduceLeDiff, Nat.zero_le, Nat.zero_add, Int.reduceLT, Int.reduceLE, Int.reducePow, Int.reduceNeg, eq_self, decide_true, Bool.not_true, Bool.not_false, q_neB, q_eqB, q_isiR, q_rtT, q_rtT1, q_rtL, q_rtS0, q_rtS1, q_rtI, q_rtA, viewE_cons, viewE_nil, viewS_own, viewS_dat, viewS_deck, flat_int, flat_bool, flat_str, List.cons_append, List.nil_append, b_best_within_1]
  refine ⟨⟨by omega, by omega⟩, fun i e s => ∃ y5 : Sl, e = [.dat (boardD (m : Int) cs), .dat (.int k0), .dat (.int a), .dat (.int (N : Int)), .dat (vecD m (itA cs (s0 k0 a) i)), y5] ∧ s = t, ⟨_, rfl, rfl⟩, ?_, ?_⟩
  · rintro i d e s hd ⟨y5, rfl, rfl⟩
    obtain ⟨hi, rfl⟩ := rng0_get hd
    simp only [w_AE_var, w_AE_int, w_AE_bl, w_AE_str, w_AE_non, w_AE_op, w_AE_un, w_AA_nil, w_AA_cons, w_AE_tup, w_AE_lst, w_AE_cb, w_AE_call, w_AE_callD, w_AT_test, w_AT_b, w_AT_not, w_AT_and, w_AT_or, w_AT_yes, w_AE_ifx, w_AE_and, w_AE_or, w_AE_not, w_AO_none, w_AO_some, w_AI_tup, w_AI_lst, w_AI_rng, w_AI_rng2, w_AI_enum, w_AI_rev, w_AG_name, w_AGs_nil, w_AGs_cons, w_AG_tup, w_AF_ae, w_AF_lst, w_AF_lc, w_AF_list, w_AE_sl, w_AE_revT, w_AE_chain, w_AE_isi, w_AE_view, w_AT_view, w_AE_ownIx, w_AE_ownTup, w_AE_ownSl, w_AS_nop, w_AS_brk, w_AS_cnt, w_AS_seq, w_AS_set, w_AS_asg, w_AS_drop, w_AS_par, w_AS_par3, w_AS_ret, w_AS_retN, w_AS_ifS, w_AS_for, w_AS_while, w_AS_setOwn, w_AS_append, w_AS_setAt, w_AS_frz, w_AS_fgt, w_AS_never, w_AF_lstRg, w_AE_tupRg, w_AS_insert, w_AS_aug, w_AS_parB, w_AS_par3B, w_AS_parA, w_AS_tupA, w_AS_tupB, f_aAdd, f_aMul, f_aEq, f_aNe, f_aIsN, f_aNotN, f_aIx, f_aNeg, f_aLen, f_aRepr, f_aInt, f_aIn, f_aNotIn, f_aIsB, f_aIsNotB, f_aTup, f_aI, f_aI0, f_aB0, f_aMin, f_aMax, q_inL, q_inT, q_notInL, q_notInT, q_isB, q_isNotB, q_addI, q_addT, q_addL, q_int, q_int0, q_bool0, q_mulI, q_mulT, q_mulL, q_eqI, q_eqS, q_neI, q_neS, q_isN, q_notN, q_ixT, q_ixL, q_neg, q_lenT, q_lenL, q_repr, q_two, q_intB, q_tupT, q_tupL, q_slT, q_slL, q_unB, q_unI, q_unT, q_unL, q_unI1, q_unI2, q_unT1, q_unS1T, q_unS1L, q_un1, q_un2, q_un3, q_hd, q_rd, q_ow, q_ctrT, q_ctrI, q_ctrS, q_ctrS2, q_brdT, q_brd0, q_brd1, q_rowI, q_rowT, q_rowT1, q_rowL, q_at0, q_at1, q_at2, q_at3, w_AI_zipM, q_unTL, f_aSortR, sortRF, w_lenSet, w_ext, w_lc2, w_minD, w_AI_zip, q_unTT, w_asgPop, w_ownLst, w_revL, q_unL0, w_parO, w_AF_rep, w_sortSet, wipeE, List.getElem?_cons_zero, List.getElem?_cons_succ, List.set_cons_zero, List.set_cons_succ, if_true, Bool.false_eq_true, if_false, true_and, and_true, Lim, dkS_deck, List.length_cons, List.length_nil, Nat.reduceAdd, Nat.reduceLeDiff, Nat.zero_le, Nat.zero_add, Int.reduceLT, Int.reduceLE, Int.reducePow, Int.reduceNeg, eq_self, decide_true, Bool.not_true, Bool.not_false, q_neB, q_eqB, q_isiR, q_rtT, q_rtT1, q_rtL, q_rtS0, q_rtS1, q_rtI, q_rtA, viewE_cons, viewE_nil, viewS_own, viewS_dat, viewS_deck, flat_int, flat_bool, flat_str, List.cons_append, List.nil_append, p_one, w_pP]
    exact ⟨_, ⟨m, cs, _, rfl, hm, hok, rfl⟩, _, rfl⟩
  · rintro e s ⟨y5, rfl, rfl⟩
    rw [rngD_length, show ((N : Int) - 0).toNat = N by omega]
    simp only [w_AE_var, w_AE_int, w_AE_bl, w_AE_str, w_AE_non, w_AE_op, w_AE_un, w_AA_nil, w_AA_cons, w_AE_tup, w_AE_lst, w_AE_cb, w_AE_call, w_AE_callD, w_AT_test, w_AT_b, w_AT_not, w_AT_and, w_AT_or, w_AT_yes, w_AE_ifx, w_AE_and, w_AE_or, w_AE_not, w_AO_none, w_AO_some, w_AI_tup, w_AI_lst, w_AI_rng, w_AI_rng2, w_AI_enum, w_AI_rev, w_AG_name, w_AGs_nil, w_AGs_cons, w_AG_tup, w_AF_ae, w_AF_lst, w_AF_lc, w_AF_list, w_AE_sl, w_AE_revT, w_AE_chain, w_AE_isi, w_AE_view, w_AT_view, w_AE_ownIx, w_AE_ownTup, w_AE_ownSl, w_AS_nop, w_AS_brk, w_AS_cnt, w_AS_seq, w_AS_set, w_AS_asg, w_AS_drop, w_AS_par, w_AS_par3, w_AS_ret, w_AS_retN, w_AS_ifS, w_AS_for, w_AS_while, w_AS_setOwn, w_AS_append, w_AS_setAt, w_AS_frz, w_AS_fgt, w_AS_never, w_AF_lstRg, w_AE_tupRg, w_AS_insert, w_AS_aug, w_AS_parB, w_AS_par3B, w_AS_parA, w_AS_tupA, w_AS_tupB, f_aAdd, f_aMul, f_aEq, f_aNe, f_aIsN, f_aNotN, f_aIx, f_aNeg, f_aLen, f_aRepr, f_aInt, f_aIn, f_aNotIn, f_aIsB, f_aIsNotB, f_aTup, f_aI, f_aI0, f_aB0, f_aMin, f_aMax, q_inL, q_inT, q_notInL, q_notInT, q_isB, q_isNotB, q_addI, q_addT, q_addL, q_int, q_int0, q_bool0, q_mulI, q_mulT, q_mulL, q_eqI, q_eqS, q_neI, q_neS, q_isN, q_notN, q_ixT, q_ixL, q_neg, q_lenT, q_lenL, q_repr, q_two, q_intB, q_tupT, q_tupL, q_slT, q_slL, q_unB, q_unI, q_unT, q_unL, q_unI1, q_unI2, q_unT1, q_unS1T, q_unS1L, q_un1, q_un2, q_un3, q_hd, q_rd, q_ow, q_ctrT, q_ctrI, q_ctrS, q_ctrS2, q_brdT, q_brd0, q_brd1, q_rowI, q_rowT, q_rowT1, q_rowL, q_at0, q_at1, q_at2, q_at3, w_AI_zipM, q_unTL, f_aSortR, sortRF, w_lenSet, w_ext, w_lc2, w_minD, w_AI_zip, q_unTT, w_asgPop, w_ownLst, w_revL, q_unL0, w_parO, w_AF_rep, w_sortSet, wipeE, List.getElem?_cons_zero, List.getElem?_cons_succ, List.set_cons_zero, List.set_cons_succ, if_true, Bool.false_eq_true, if_false, true_and, and_true, Lim, dkS_deck, List.length_cons, List.length_nil, Nat.reduceAdd, Nat.reduceLeDiff, Nat.zero_le, Nat.zero_add, Int.reduceLT, Int.reduceLE, Int.reducePow, Int.reduceNeg, eq_self, decide_true, Bool.not_true, Bool.not_false, q_neB, q_eqB, q_isiR, q_rtT, q_rtT1, q_rtL, q_rtS0, q_rtS1, q_rtI, q_rtA, viewE_cons, viewE_nil, viewS_own, viewS_dat, viewS_deck, flat_int, flat_bool, flat_str, List.cons_append, List.nil_append, b_best_within_2]
    exact hk
end
end CG

namespace CG
open PySem PySem.Spec PyProof.Rows L2
def AllN (m : Nat) (x : Vec) : Prop := ∀ j : Int, 0 ≤ j → j < (m : Int) → ∃ v, x j = some v ∧ 0 ≤ v
theorem relAll {m : Nat} {c : Ctr} {x y : Vec} (hc : c.Ok (m : Int)) (hx : AllN m x) (hy : AllN m y) : AllN m (rel c x y) := fun j j0 j1 => by
  obtain ⟨u, hu, u0⟩ := hy j j0 j1
  unfold rel
  by_cases h : j = c.t
  · rw [if_pos h, hu]
    obtain ⟨v, hv, v0⟩ := hx c.s hc.s0 hc.s1
    rw [hv]
    simp only [fc, Option.map_some, nmax]
    split <;> refine ⟨_, rfl, ?_⟩ <;> omega
  · rw [if_neg h]
    exact ⟨u, hu, u0⟩
theorem foldAll {m : Nat} {x : Vec} (hx : AllN m x) : ∀ {cs : List Ctr} {y : Vec}, (∀ c ∈ cs, c.Ok (m : Int)) → AllN m y → AllN m (foldA cs x y)
  | [], _, _, h => h
  | c :: cs, y, hok, h => foldAll hx (cs := cs) (fun d hd => hok d (List.mem_cons_of_mem _ hd)) (relAll (hok c List.mem_cons_self) hx h)
theorem s0All {m : Nat} {k a : Int} (ha : 0 ≤ a) : AllN m (s0 k a) := fun j _ _ => by
  unfold s0
  split
  · exact ⟨a, rfl, ha⟩
  · exact ⟨0, rfl, Int.le_refl _⟩
theorem itAll {m : Nat} {cs : List Ctr} {x : Vec} (hok : ∀ c ∈ cs, c.Ok (m : Int)) (hx : AllN m x) : ∀ n, AllN m (itA cs x n)
  | 0 => hx
  | n + 1 => foldAll (itAll hok hx n) hok (itAll hok hx n)
theorem vec0 {m : Nat} {n : Int} (hn : n = (m : Int)) : (List.replicate n.toNat [PyData.int 0]).flatten = vecL m (fun _ => some 0) := by
  subst hn
  rw [show ((m : Int)).toNat = m by omega]
  unfold vecL
  induction m with
  | zero => rfl
  | succ m ih => rw [List.replicate_succ', List.flatten_append, ih, List.range_succ, List.map_append]; rfl
/-- the layers -/
def layL (m : Nat) (cs : List Ctr) (x : Vec) (n : Nat) : List PyData := (List.range n).map fun i => vecD m (itA cs x i)
theorem layL_succ {m : Nat} {cs : List Ctr} {x : Vec} {n : Nat} : layL m cs x (n + 1) = layL m cs x n ++ [vecD m (itA cs x n)] := by
  unfold layL
  rw [List.range_succ, List.map_append]
  rfl
def p_layers : Pm := pP fun ds d => ∃ (m : Nat) (cs : List Ctr) (k a : Int) (N : Nat), ds = [boardD (m : Int) cs, .int k, .int a, .int (N : Int)] ∧ 1 ≤ m ∧ m ≤ 100 ∧ N ≤ 1000 ∧ 0 ≤ k ∧ k < (m : Int) ∧ 0 ≤ a ∧ (∀ c ∈ cs, c.Ok (m : Int)) ∧ d = .list (layL m cs (s0 k a) (N + 1))
/-- what comes after each counter that fits -/
def nxt (cs : List Ctr) (es : List (Int × Int)) : List (Int × Int) := es.flatMap fun e => (cs.filter fun c => decide (c.s = e.1)).map fun c => (c.t, e.2 / c.g * c.e)
theorem mem_nxt {cs : List Ctr} {es : List (Int × Int)} {x : Int × Int} : x ∈ nxt cs es ↔ ∃ e ∈ es, ∃ c ∈ cs, c.s = e.1 ∧ x = (c.t, e.2 / c.g * c.e) := by
  unfold nxt
  simp only [List.mem_flatMap, List.mem_map, List.mem_filter, decide_eq_true_eq]
  constructor
  · rintro ⟨e, he, c, ⟨hc, h⟩, rfl⟩
    exact ⟨e, he, c, hc, h, rfl⟩
  · rintro ⟨e, he, c, hc, h, rfl⟩
    exact ⟨e, he, c, ⟨hc, h⟩, rfl⟩
def cnt (cs : List Ctr) (k : Int) : Nat := (cs.filter fun c => decide (c.s = k)).length
theorem cnt_le {cs : List Ctr} {k : Int} : cnt cs k ≤ cs.length := List.length_filter_le _ _
theorem cnt_two : ∀ {cs : List Ctr} {k h : Int}, h ≠ k → cnt cs k + cnt cs h ≤ cs.length
  | [], _, _, _ => Nat.le_refl _
  | c :: cs, k, h, ne => by
    have ih := cnt_two (cs := cs) ne
    unfold cnt at ih ⊢
    simp only [List.filter_cons, List.length_cons]
    by_cases a : c.s = k
    · rw [if_pos (decide_eq_true a), if_neg (by rw [decide_eq_true_iff]; omega)]
      simp only [List.length_cons]
      omega
    · rw [if_neg (by rw [decide_eq_true_iff]; exact a)]
      by_cases b : c.s = h
      · rw [if_pos (decide_eq_true b)]
        simp only [List.length_cons]
        omega
      · rw [if_neg (by rw [decide_eq_true_iff]; exact b)]
        omega
theorem nxt_len {cs : List Ctr} {n : Nat} : ∀ {es : List (Int × Int)}, (∀ e ∈ es, cnt cs e.1 ≤ n) → (nxt cs es).length ≤ es.length * n
  | [], _ => by simp [nxt]
  | e :: es, h => by
    have ih := nxt_len (cs := cs) (n := n) (es := es) fun x hx => h x (List.mem_cons_of_mem _ hx)
    have he := h e List.mem_cons_self
    unfold nxt at ih ⊢
    unfold cnt at he
    rw [List.flatMap_cons, List.length_append, List.length_map, List.length_cons, Nat.succ_mul]
    omega
theorem nxt_app {cs : List Ctr} {x y : List (Int × Int)} : nxt cs (x ++ y) = nxt cs x ++ nxt cs y := List.flatMap_append ..
/-- pairs as rows -/
def rw2 (e : Int × Int) : List Int := [e.1, e.2]
theorem rows2 : ∀ {rs : List (List Int)} {l : List (Int × Int)}, (∀ r ∈ rs, r ∈ l.map rw2) → ∃ es : List (Int × Int), rs = es.map rw2
  | [], _, _ => ⟨[], rfl⟩
  | r :: rs, l, h => by
    obtain ⟨es, rfl⟩ := rows2 (rs := rs) (l := l) fun x hx => h x (List.mem_cons_of_mem _ hx)
    obtain ⟨e, _, rfl⟩ := List.mem_map.mp (h r List.mem_cons_self)
    exact ⟨e :: es, rfl⟩
theorem rw2_inj {a b : Int × Int} (h : rw2 a = rw2 b) : a = b := by
  obtain ⟨a1, a2⟩ := a
  obtain ⟨b1, b2⟩ := b
  simp only [rw2, List.cons.injEq, and_true] at h
  rw [h.1, h.2]
theorem ss2 (l : List (Int × Int)) : ∃ es : List (Int × Int), ssR (l.map rw2) = es.map rw2 ∧ (∀ e, e ∈ es ↔ e ∈ l) ∧ es.length ≤ l.length := by
  obtain ⟨es, h⟩ := rows2 (rs := ssR (l.map rw2)) (l := l) fun r hr => mem_ssR.mp hr
  refine ⟨es, h, fun e => ?_, ?_⟩
  · have q : rw2 e ∈ ssR (l.map rw2) ↔ rw2 e ∈ l.map rw2 := mem_ssR
    rw [h, List.mem_map, List.mem_map] at q
    constructor
    · intro z
      obtain ⟨x, hx, e1⟩ := q.mp ⟨e, z, rfl⟩
      rw [← rw2_inj e1]
      exact hx
    · intro z
      obtain ⟨x, hx, e1⟩ := q.mpr ⟨e, z, rfl⟩
      rw [← rw2_inj e1]
      exact hx
  · have q := ssR_le (rs := l.map rw2)
    rw [h, List.length_map, List.length_map] at q
    exact q
def pairD (e : Int × Int) : PyData := .tuple [.int e.1, .int e.2]
theorem pair_rows {l : List (Int × Int)} : l.map pairD = (l.map rw2).map rowT := by rw [List.map_map]; rfl
/-- a number that is found -/
def up1 (e : Int × Int) (y : Vec) : Vec := fun j => if j = e.1 then nmax (y j) (some e.2) else y j
def foldM (l : List (Int × Int)) (y : Vec) : Vec := l.foldl (fun y e => up1 e y) y
theorem up1_ge {e : Int × Int} {y : Vec} : vle y (up1 e y) := fun j => by
  unfold up1
  split
  · exact le_nmax_l _ _
  · exact nle_refl _
theorem up1All {m : Nat} {e : Int × Int} {y : Vec} (he : 0 ≤ e.2) (hy : AllN m y) : AllN m (up1 e y) := fun j j0 j1 => by
  obtain ⟨u, hu, u0⟩ := hy j j0 j1
  unfold up1
  by_cases h : j = e.1
  · rw [if_pos h, hu]
    simp only [nmax]
    split <;> refine ⟨_, rfl, ?_⟩ <;> omega
  · rw [if_neg h]
    exact ⟨u, hu, u0⟩
theorem foldM_ge : ∀ {l : List (Int × Int)} {y : Vec}, vle y (foldM l y)
  | [], _ => vle_refl _
  | e :: l, y => vle_trans up1_ge (foldM_ge (l := l))
theorem foldM_has : ∀ {l : List (Int × Int)} {y : Vec} {e : Int × Int}, e ∈ l → nle (some e.2) (foldM l y e.1)
  | d :: l, y, e, h => by
    rcases List.mem_cons.mp h with rfl | h
    · refine nle_trans (b := up1 e y e.1) ?_ (foldM_ge (l := l) _)
      unfold up1
      rw [if_pos rfl]
      exact le_nmax_r _ _
    · exact foldM_has (l := l) h
theorem foldM_le : ∀ {l : List (Int × Int)} {y z : Vec}, vle y z → (∀ e ∈ l, nle (some e.2) (z e.1)) → vle (foldM l y) z
  | [], _, _, h, _ => h
  | e :: l, y, z, h, k => foldM_le (l := l) (fun j => by
      show nle (up1 e y j) (z j)
      unfold up1
      split
      · rename_i q
        rw [q]
        exact nmax_le (h _) (k e List.mem_cons_self)
      · exact h j) fun d hd => k d (List.mem_cons_of_mem _ hd)
/-- what has been reached by just so many counters, beside the greatest numbers -/
structure Rch (m : Nat) (cs : List Ctr) (k : Int) (x : Vec) (es : List (Int × Int)) (i : Nat) : Prop where
  lo : ∀ e ∈ es, 0 ≤ e.1 ∧ e.1 < (m : Int) ∧ 0 ≤ e.2 ∧ nle (some e.2) (x e.1)
  st : ∀ j : Int, 0 ≤ j → j < (m : Int) → ∃ v, x j = some v ∧ 0 ≤ v ∧ ((j, v) ∈ es ∨ v = 0 ∨ ∀ c ∈ cs, c.s = j → nle (some (v / c.g * c.e)) (x c.t))
  l0 : i = 0 → es.length ≤ 1 ∧ ∀ e ∈ es, e.1 = k
  l1 : i = 1 → es.length ≤ cnt cs k ∧ ∀ e ∈ es, e.1 ≠ k
  l2 : 2 ≤ i → es.length ≤ 16 * 8 ^ (i - 2)
theorem Rch.zero {m : Nat} {cs : List Ctr} {k a : Int} (k0 : 0 ≤ k) (k1 : k < (m : Int)) (a0 : 0 ≤ a) : Rch m cs k (s0 k a) [(k, a)] 0 := by
  refine ⟨fun e he => ?_, fun j j0 j1 => ?_, fun _ => ⟨Nat.le_refl _, fun e he => ?_⟩, (fun h => nomatch h), fun h => absurd h (by decide)⟩
  · rw [List.mem_singleton.mp he]
    refine ⟨k0, k1, a0, ?_⟩
    show nle (some a) (s0 k a k)
    unfold s0
    rw [if_pos rfl]
    exact nle_refl _
  · unfold s0
    by_cases h : j = k
    · rw [if_pos h]
      exact ⟨a, rfl, a0, .inl (by rw [h]; exact List.mem_singleton.mpr rfl)⟩
    · rw [if_neg h]
      exact ⟨0, rfl, Int.le_refl _, .inr (.inl rfl)⟩
  · rw [List.mem_singleton.mp he]
theorem Rch.bound {m : Nat} {cs : List Ctr} {k : Int} {x : Vec} {es : List (Int × Int)} {i : Nat} (R : Rch m cs k x es i) (l8 : cs.length ≤ 8) (i3 : i ≤ 3) : (nxt cs es).length ≤ 1024 ∧ (i = 0 → (nxt cs es).length ≤ cnt cs k) ∧ (1 ≤ i → (nxt cs es).length ≤ 16 * 8 ^ (i - 1)) := by
  rcases (show i = 0 ∨ i = 1 ∨ i = 2 ∨ i = 3 by omega) with rfl | rfl | rfl | rfl
  · obtain ⟨h1, h2⟩ := R.l0 rfl
    have g := nxt_len (cs := cs) (n := cnt cs k) (es := es) fun e he => by rw [h2 e he]; exact Nat.le_refl _
    have g2 := cnt_le (cs := cs) (k := k)
    have g3 : es.length * cnt cs k ≤ 1 * cnt cs k := Nat.mul_le_mul_right _ h1
    exact ⟨by omega, fun _ => by omega, fun h => absurd h (by decide)⟩
  · obtain ⟨h1, h2⟩ := R.l1 rfl
    have g := nxt_len (cs := cs) (n := 8 - cnt cs k) (es := es) fun e he => by
      have := cnt_two (cs := cs) (h2 e he)
      omega
    have g2 := cnt_le (cs := cs) (k := k)
    have g3 : es.length * (8 - cnt cs k) ≤ cnt cs k * (8 - cnt cs k) := Nat.mul_le_mul_right _ h1
    have g4 : cnt cs k * (8 - cnt cs k) ≤ 16 := by
      have : cnt cs k ≤ 8 := by omega
      generalize cnt cs k = q at this
      rcases (show q = 0 ∨ q = 1 ∨ q = 2 ∨ q = 3 ∨ q = 4 ∨ q = 5 ∨ q = 6 ∨ q = 7 ∨ q = 8 by omega) with rfl | rfl | rfl | rfl | rfl | rfl | rfl | rfl | rfl <;> decide
    exact ⟨by omega, (fun h => nomatch h), fun _ => by show _ ≤ 16 * 8 ^ 0; omega⟩
  · have h1 := R.l2 (by decide)
    have g := nxt_len (cs := cs) (n := 8) (es := es) fun e _ => Nat.le_trans cnt_le l8
    have h1 : es.length ≤ 16 * 1 := h1
    exact ⟨by omega, (fun h => nomatch h), fun _ => by show _ ≤ 16 * 8; omega⟩
  · have h1 := R.l2 (by decide)
    have g := nxt_len (cs := cs) (n := 8) (es := es) fun e _ => Nat.le_trans cnt_le l8
    have h1 : es.length ≤ 16 * 8 := h1
    exact ⟨by omega, (fun h => nomatch h), fun _ => by show _ ≤ 16 * 64; omega⟩
theorem Rch.small {m : Nat} {cs : List Ctr} {k : Int} {x : Vec} {es : List (Int × Int)} {i : Nat} (R : Rch m cs k x es i) (l8 : cs.length ≤ 8) (i3 : i ≤ 3) : es.length ≤ 128 := by
  rcases (show i = 0 ∨ i = 1 ∨ i = 2 ∨ i = 3 by omega) with rfl | rfl | rfl | rfl
  · exact Nat.le_trans (R.l0 rfl).1 (by decide)
  · exact Nat.le_trans (R.l1 rfl).1 (Nat.le_trans cnt_le (by omega))
  · exact Nat.le_trans (R.l2 (by decide)) (by decide)
  · exact Nat.le_trans (R.l2 (by decide)) (by decide)
theorem fc_some {c : Ctr} {v : Int} : fc c (some v) = some (v / c.g * c.e) := rfl
/-- all routes of one counter more give the same numbers as one counter after another -/
theorem Rch.found {m : Nat} {cs : List Ctr} {k : Int} {x : Vec} {es : List (Int × Int)} {i : Nat} (hok : ∀ c ∈ cs, c.Ok (m : Int)) (R : Rch m cs k x es i) : foldM (nxt cs es) x = foldA cs x x := by
  refine vle_anti (foldM_le foldA_ge fun e he => ?_) (foldA_le foldM_ge fun c hc => ?_)
  · obtain ⟨d, hd, c, hc, h, rfl⟩ := mem_nxt.mp he
    have q := (R.lo d hd).2.2.2
    rw [← h] at q
    exact nle_trans (by rw [← fc_some]; exact fc_mono (hok c hc) q) (foldA_has hc)
  · have co := hok c hc
    obtain ⟨v, hv, v0, h⟩ := R.st c.s co.s0 co.s1
    rw [hv, fc_some]
    rcases h with h | h | h
    · exact foldM_has (e := (c.t, v / c.g * c.e)) (mem_nxt.mpr ⟨_, h, c, hc, rfl, rfl⟩)
    · rw [h, Int.zero_ediv, Int.zero_mul]
      obtain ⟨u, hu, u0, _⟩ := R.st c.t co.t0 co.t1
      refine nle_trans (b := x c.t) ?_ (foldM_ge _)
      rw [hu]
      exact fun y hy => ⟨0, rfl, by cases hy; exact u0⟩
    · exact nle_trans (h c hc rfl) (foldM_ge _)
theorem Rch.step {m : Nat} {cs : List Ctr} {k : Int} {x : Vec} {es fs : List (Int × Int)} {i : Nat} (hok : ∀ c ∈ cs, c.Ok (m : Int)) (l8 : cs.length ≤ 8) (i3 : i ≤ 3) (R : Rch m cs k x es i) (hf : ∀ e, e ∈ fs ↔ e ∈ nxt cs es) (hl : fs.length ≤ (nxt cs es).length) : Rch m cs k (foldA cs x x) fs (i + 1) := by
  obtain ⟨b1, b2, b3⟩ := R.bound l8 i3
  have xN : AllN m x := fun j j0 j1 => by
    obtain ⟨v, h1, h2, _⟩ := R.st j j0 j1
    exact ⟨v, h1, h2⟩
  refine ⟨fun e he => ?_, fun j j0 j1 => ?_, (fun h => nomatch h), fun h => ?_, fun h => ?_⟩
  · obtain ⟨d, hd, c, hc, h, rfl⟩ := mem_nxt.mp ((hf e).mp he)
    have co := hok c hc
    obtain ⟨_, _, d0, q⟩ := R.lo d hd
    rw [← h] at q
    have := co.g0; have := co.e0
    exact ⟨co.t0, co.t1, Int.mul_nonneg (Int.ediv_nonneg d0 (by omega)) (by omega), nle_trans (by rw [← fc_some]; exact fc_mono co q) (foldA_has hc)⟩
  · obtain ⟨v', hv', v0'⟩ := foldAll xN hok xN j j0 j1
    refine ⟨v', hv', v0', ?_⟩
    have one : ∀ v', x j = some v' → (j, v') ∈ fs ∨ v' = 0 ∨ ∀ c ∈ cs, c.s = j → nle (some (v' / c.g * c.e)) (foldA cs x x c.t) := fun v' hx => by
      obtain ⟨u, hu, _, h⟩ := R.st j j0 j1
      rw [hx] at hu
      cases hu
      rcases h with h | h | h
      · refine .inr (.inr fun c hc hs => ?_)
        have := foldA_has (x := x) (y := x) hc
        rw [hs, hx, fc_some] at this
        exact this
      · exact .inr (.inl h)
      · exact .inr (.inr fun c hc hs => nle_trans (h c hc hs) (foldA_ge _))
    rcases foldA_from hv' with h | ⟨c, hc, hct, h⟩
    · exact one v' h
    · have co := hok c hc
      obtain ⟨v, hv, v0, g⟩ := R.st c.s co.s0 co.s1
      rw [hv, fc_some] at h
      cases h
      rcases g with g | g | g
      · exact .inl ((hf _).mpr (mem_nxt.mpr ⟨_, g, c, hc, rfl, by rw [hct]⟩))
      · rw [g, Int.zero_ediv, Int.zero_mul]
        exact .inr (.inl rfl)
      · have q1 := g c hc rfl
        rw [hct] at q1
        have q2 : nle (x j) (some (v / c.g * c.e)) := by
          have := foldA_ge (cs := cs) (x := x) (y := x) j
          rw [hv'] at this
          exact this
        exact one _ (nle_anti q2 q1)
  · have e : i = 0 := by omega
    refine ⟨Nat.le_trans hl (b2 e), fun z hz => ?_⟩
    obtain ⟨d, hd, c, hc, h, rfl⟩ := mem_nxt.mp ((hf z).mp hz)
    have := (R.l0 e).2 d hd
    have := (hok c hc).ne
    show c.t ≠ k
    omega
  · exact Nat.le_trans hl (b3 (by omega))
def p_all : Pm := pP fun ds d => ∃ (m : Nat) (cs : List Ctr) (k a : Int) (N : Nat), ds = [boardD (m : Int) cs, .int k, .int a, .int (N : Int)] ∧ 1 ≤ m ∧ m ≤ 100 ∧ N ≤ 4 ∧ cs.length ≤ 8 ∧ 0 ≤ k ∧ k < (m : Int) ∧ 0 ≤ a ∧ (∀ c ∈ cs, c.Ok (m : Int)) ∧ d = vecD m (itA cs (s0 k a) N)
section
variable {P : Program} {w : World} {K : PySem.W.Frag} {mg : Str → Option Value} {base : Heap}
def b_layers_3b2 (K : PySem.W.Frag) : AS K := (AS.append 5 (AA.cons (AE.ownTup K 4) (AA.nil K)))
def b_layers_3b1 (K : PySem.W.Frag) : AS K := (AS.seq (AS.for (AI.tup (AE.op (aIx K) (AE.var K 0) (AE.int K 1))) (AG.tup (AGs.cons 7 (AGs.cons 8 (AGs.cons 9 (AGs.cons 10 (AGs.nil K)))))) (AS.setAt 4 (AE.var K 8) (AE.cb (aMax K) (AA.cons (AE.ownIx 4 (AE.var K 8)) (AA.cons (AE.op (aMul K) (AE.op (aDv K) (AE.op (aIx K) (AE.ownIx 5 (AE.un (aNeg K) (AE.int K 1))) (AE.var K 7)) (AE.var K 9)) (AE.var K 10)) (AA.nil K)))))) (b_layers_3b2 K))
def b_layers_3b0 (K : PySem.W.Frag) : AS K := (AS.seq (AS.setOwn 4 (AF.list (AA.cons (AE.ownIx 5 (AE.un (aNeg K) (AE.int K 1))) (AA.nil K)))) (b_layers_3b1 K))
def b_layers_4 (K : PySem.W.Frag) : AS K := (AS.frz 5 (AS.ret (AE.var K 5)))
def b_layers_3 (K : PySem.W.Frag) : AS K := (AS.seq (AS.for (AI.rng (AA.cons (AE.var K 3) (AA.nil K))) (AG.name K 6) (b_layers_3b0 K)) (b_layers_4 K))
def b_layers_2 (K : PySem.W.Frag) : AS K := (AS.seq (AS.setOwn 5 (AF.lst (AA.cons (AE.ownTup K 4) (AA.nil K)))) (b_layers_3 K))
def b_layers_1 (K : PySem.W.Frag) : AS K := (AS.seq (AS.setAt 4 (AE.var K 1) (AE.var K 2)) (b_layers_2 K))
def b_layers (K : PySem.W.Frag) : AS K := (AS.seq (AS.setOwn 4 (AF.rep (AF.lst (AA.cons (AE.int K 0) (AA.nil K))) (AE.op (aIx K) (AE.var K 0) (AE.int K 0)))) (b_layers_1 K))
theorem ok_layers {f : Addr} {fd : FuncData} (h : Has K mg "_law_layers" sLayers ["_law_board_here", "_law_kind", "_law_amount_here", "_law_steps"] f fd) (T : Bz mg) : FnG P w K mg base CX0 1 f fd ["_law_board_here", "_law_kind", "_law_amount_here", "_law_steps"] (spA K p_layers) := by
  refine okA h scLayers (b_layers K) p_layers (fun cd A out s H E hgd hr => ⟨_, (pss_cons (ps_set (i := 4) scLayers.nd rfl (Or.inl rfl) (pe_op (r := rMulU K) op_mulU (pe_lst (pa_cons pe_int pa_nil)) (pe_ix (r := rIx K) ix_seq (pv 0) pe_int (fun _ _ => rfl))))
      (pss_cons (ps_asg (pv 2) (pg_sub (pv 4) (pv 1) set_list))
      (pss_cons (ps_set (i := 5) scLayers.nd rfl (Or.inl rfl) (pe_lst (pa_cons (pe_callTy (r := rTupU K) call_tupU rfl T.z_tuple boot_tupleU (pa_cons (pv 4) pa_nil)) pa_nil)))
      (pss_cons (ps_for PassesOwn.never rfl (pi_range1 rfl T.z_range (pa_cons (pv 3) pa_nil)) (pg_name (i := 6) scLayers.nd rfl (Or.inl rfl))
        (pss_cons (ps_set (i := 4) scLayers.nd rfl (Or.inl rfl) (pe_callTy (r := rLstU K) call_lstU rfl T.z_list boot_listU (pa_cons (pe_ix (r := rIx K) ix_seq (pv 5) (pe_un un_neg pe_int) (fun _ _ => rfl)) pa_nil)))
        (pss_cons (ps_for PassesOwn.never rfl (pi_tup (pe_ix (r := rIx K) ix_seq (pv 0) pe_int (fun _ _ => rfl))) (pg_tup rfl (pgs_cons (pg_name (i := 7) scLayers.nd rfl (Or.inl rfl)) (pgs_cons (pg_name (i := 8) scLayers.nd rfl (Or.inl rfl)) (pgs_cons (pg_name (i := 9) scLayers.nd rfl (Or.inl rfl)) (pgs_cons (pg_name (i := 10) scLayers.nd rfl (Or.inl rfl)) pgs_nil)))))
          (pss_one (ps_asg (pe_callB (call_maxU rfl) rfl T.z_max boot_max (pa_cons (pe_ix (r := rIx K) ix_seq (pv 4) (pv 8) (fun _ _ => rfl)) (pa_cons (pe_op (r := rMulU K) op_mulU (pe_op op_dvU (pe_ix (r := rIx K) ix_seq (pe_ix (r := rIx K) ix_seq (pv 5) (pe_un un_neg pe_int) (fun _ _ => rfl)) (pv 7) (fun _ _ => rfl)) (pv 9)) (pv 10)) pa_nil))) (pg_sub (pv 4) (pv 8) set_list))))
        (pss_one (ps_expr (pe_bm PySem.F.plainAttrs_list PySem.F.slot_list_append PySem.F.type_list_append mt_append (pv 5) (pa_cons (pe_callTy (r := rTupU K) call_tupU rfl T.z_tuple boot_tupleU (pa_cons (pv 4) pa_nil)) pa_nil)))))))
      (pss_one (ps_ret (pv 5))))))), by (simp only [b_layers_3b2, b_layers_3b1, b_layers_3b0, b_layers_4, b_layers_3, b_layers_2, b_layers_1, b_layers, t_AE_var, t_AE_int, t_AE_bl, t_AE_str, t_AE_non, t_AE_op, t_AE_un, t_AA_nil, t_AA_cons, t_AE_tup, t_AE_lst, t_AE_cb, t_AE_call, t_AE_callD, t_AT_test, t_AT_b, t_AT_not, t_AT_and, t_AT_or, t_AT_yes, t_AE_ifx, t_AE_and, t_AE_or, t_AE_not, t_AO_none, t_AO_some, t_AI_tup, t_AI_lst, t_AI_rng, t_AI_rng2, t_AI_enum, t_AI_rev, t_AG_name, t_AGs_nil, n_AGs_nil, t_AGs_cons, n_AGs_cons, t_AG_tup, t_AF_ae, t_AF_lst, t_AF_lc, t_AF_list, t_AE_sl, t_AE_revT, t_AE_chain, t_AE_isi, t_AE_view, t_AT_view, t_AE_ownIx, t_AE_ownTup, t_AE_ownSl, t_AS_nop, t_AS_brk, t_AS_cnt, t_AS_seq, t_AS_set, t_AS_asg, t_AS_drop, t_AS_par, t_AS_par3, t_AS_ret, t_AS_retN, t_AS_ifS, t_AS_for, t_AS_while, t_AS_setOwn, t_AS_append, t_AS_setAt, t_AS_frz, t_AS_fgt, t_AS_never, t_AF_lstRg, t_AE_tupRg, t_AS_insert, t_AS_aug, t_AS_parB, t_AS_par3B, t_AS_parA, t_AS_tupA, t_AS_tupB, t_aAdd, t_aMul, t_aEq, t_aNe, t_aIsN, t_aNotN, t_aIx, t_aNeg, t_aLen, t_aRepr, t_aInt, t_aIn, t_aNotIn, t_aIsB, t_aIsNotB, t_aTup, t_aMin, t_aMax, t_aI, t_aI0, t_aB0, t_AI_zipM, t_aSortR, t_lenSet, t_ext, t_lc2, t_minD, t_AI_zip, t_asgPop, t_ownLst, t_revL, t_parO, t_AF_rep, t_sortSet]) <;> rfl⟩) (fun ds t k hw => ?_)
  obtain ⟨d, ⟨m, cs, k0, a, N, rfl, m1, hm, hN, k00, k01, ha, hok, rfl⟩, hk⟩ := hw
  refine ⟨rfl, ?_⟩
  show (b_layers K).wp [.dat (boardD (m : Int) cs), .dat (.int k0), .dat (.int a), .dat (.int (N : Int)), .un, .un, .un, .un, .un, .un, .un] t _
  simp only [w_AE_var, w_AE_int, w_AE_bl, w_AE_str, w_AE_non, w_AE_op, w_AE_un, w_AA_nil, w_AA_cons, w_AE_tup, w_AE_lst, w_AE_cb, w_AE_call, w_AE_callD, w_AT_test, w_AT_b, w_AT_not, w_AT_and, w_AT_or, w_AT_yes, w_AE_ifx, w_AE_and, w_AE_or, w_AE_not, w_AO_none, w_AO_some, w_AI_tup, w_AI_lst, w_AI_rng, w_AI_rng2, w_AI_enum, w_AI_rev, w_AG_name, w_AGs_nil, w_AGs_cons, w_AG_tup, w_AF_ae, w_AF_lst, w_AF_lc, w_AF_list, w_AE_sl, w_AE_revT, w_AE_chain, w_AE_isi, w_AE_view, w_AT_view, w_AE_ownIx, w_AE_ownTup, w_AE_ownSl, w_AS_nop, w_AS_brk, w_AS_cnt, w_AS_seq, w_AS_set, w_AS_asg, w_AS_drop, w_AS_par, w_AS_par3, w_AS_ret, w_AS_retN, w_AS_ifS, w_AS_for, w_AS_while, w_AS_setOwn, w_AS_append, w_AS_setAt, w_AS_frz, w_AS_fgt, w_AS_never, w_AF_lstRg, w_AE_tupRg, w_AS_insert, w_AS_aug, w_AS_parB, w_AS_par3B, w_AS_parA, w_AS_tupA, w_AS_tupB, f_aAdd, f_aMul, f_aEq, f_aNe, f_aIsN, f_aNotN, f_aIx, f_aNeg, f_aLen, f_aRepr, f_aInt, f_aIn, f_aNotIn, f_aIsB, f_aIsNotB, f_aTup, f_aI, f_aI0, f_aB0, f_aMin, f_aMax, q_inL, q_inT, q_notInL, q_notInT, q_isB, q_isNotB, q_addI, q_addT, q_addL, q_int, q_int0, q_bool0, q_mulI, q_mulT, q_mulL, q_eqI, q_eqS, q_neI, q_neS, q_isN, q_notN, q_ixT, q_ixL, q_neg, q_lenT, q_lenL, q_repr, q_two, q_intB, q_tupT, q_tupL, q_slT, q_slL, q_unB, q_unI, q_unT, q_unL, q_unI1, q_unI2, q_unT1, q_unS1T, q_unS1L, q_un1, q_un2, q_un3, q_hd, q_rd, q_ow, q_ctrT, q_ctrI, q_ctrS, q_ctrS2, q_brdT, q_brd0, q_brd1, q_rowI, q_rowT, q_rowT1, q_rowL, q_at0, q_at1, q_at2, q_at3, w_AI_zipM, q_unTL, f_aSortR, sortRF, w_lenSet, w_ext, w_lc2, w_minD, w_AI_zip, q_unTT, w_asgPop, w_ownLst, w_revL, q_unL0, w_parO, w_AF_rep, w_sortSet, wipeE, List.getElem?_cons_zero, List.getElem?_cons_succ, List.set_cons_zero, List.set_cons_succ, if_true, Bool.false_eq_true, if_false, true_and, and_true, Lim, dkS_deck, List.length_cons, List.length_nil, Nat.reduceAdd, Nat.reduceLeDiff, Nat.zero_le, Nat.zero_add, Int.reduceLT, Int.reduceLE, Int.reducePow, Int.reduceNeg, eq_self, decide_true, Bool.not_true, Bool.not_false, q_neB, q_eqB, q_isiR, q_rtT, q_rtT1, q_rtL, q_rtS0, q_rtS1, q_rtI, q_rtA, viewE_cons, viewE_nil, viewS_own, viewS_dat, viewS_deck, flat_int, flat_bool, flat_str, List.cons_append, List.nil_append, b_layers]
  refine ⟨⟨by omega, by omega⟩, ?_⟩
  rw [vec0 rfl]
  simp only [w_AE_var, w_AE_int, w_AE_bl, w_AE_str, w_AE_non, w_AE_op, w_AE_un, w_AA_nil, w_AA_cons, w_AE_tup, w_AE_lst, w_AE_cb, w_AE_call, w_AE_callD, w_AT_test, w_AT_b, w_AT_not, w_AT_and, w_AT_or, w_AT_yes, w_AE_ifx, w_AE_and, w_AE_or, w_AE_not, w_AO_none, w_AO_some, w_AI_tup, w_AI_lst, w_AI_rng, w_AI_rng2, w_AI_enum, w_AI_rev, w_AG_name, w_AGs_nil, w_AGs_cons, w_AG_tup, w_AF_ae, w_AF_lst, w_AF_lc, w_AF_list, w_AE_sl, w_AE_revT, w_AE_chain, w_AE_isi, w_AE_view, w_AT_view, w_AE_ownIx, w_AE_ownTup, w_AE_ownSl, w_AS_nop, w_AS_brk, w_AS_cnt, w_AS_seq, w_AS_set, w_AS_asg, w_AS_drop, w_AS_par, w_AS_par3, w_AS_ret, w_AS_retN, w_AS_ifS, w_AS_for, w_AS_while, w_AS_setOwn, w_AS_append, w_AS_setAt, w_AS_frz, w_AS_fgt, w_AS_never, w_AF_lstRg, w_AE_tupRg, w_AS_insert, w_AS_aug, w_AS_parB, w_AS_par3B, w_AS_parA, w_AS_tupA, w_AS_tupB, f_aAdd, f_aMul, f_aEq, f_aNe, f_aIsN, f_aNotN, f_aIx, f_aNeg, f_aLen, f_aRepr, f_aInt, f_aIn, f_aNotIn, f_aIsB, f_aIsNotB, f_aTup, f_aI, f_aI0, f_aB0, f_aMin, f_aMax, q_inL, q_inT, q_notInL, q_notInT, q_isB, q_isNotB, q_addI, q_addT, q_addL, q_int, q_int0, q_bool0, q_mulI, q_mulT, q_mulL, q_eqI, q_eqS, q_neI, q_neS, q_isN, q_notN, q_ixT, q_ixL, q_neg, q_lenT, q_lenL, q_repr, q_two, q_intB, q_tupT, q_tupL, q_slT, q_slL, q_unB, q_unI, q_unT, q_unL, q_unI1, q_unI2, q_unT1, q_unS1T, q_unS1L, q_un1, q_un2, q_un3, q_hd, q_rd, q_ow, q_ctrT, q_ctrI, q_ctrS, q_ctrS2, q_brdT, q_brd0, q_brd1, q_rowI, q_rowT, q_rowT1, q_rowL, q_at0, q_at1, q_at2, q_at3, w_AI_zipM, q_unTL, f_aSortR, sortRF, w_lenSet, w_ext, w_lc2, w_minD, w_AI_zip, q_unTT, w_asgPop, w_ownLst, w_revL, q_unL0, w_parO, w_AF_rep, w_sortSet, wipeE, List.getElem?_cons_zero, List.getElem?_cons_succ, List.set_cons_zero, List.set_cons_succ, if_true, Bool.false_eq_true, if_false, true_and, and_true, Lim, dkS_deck, List.length_cons, List.length_nil, Nat.reduceAdd, Nat.reduceLeDiff, Nat.zero_le, Nat.zero_add, Int.reduceLT, Int.reduceLE, Int.reducePow, Int.reduceNeg, eq_self, decide_true, Bool.not_true, Bool.not_false, q_neB, q_eqB, q_isiR, q_rtT, q_rtT1, q_rtL, q_rtS0, q_rtS1, q_rtI, q_rtA, viewE_cons, viewE_nil, viewS_own, viewS_dat, viewS_deck, flat_int, flat_bool, flat_str, List.cons_append, List.nil_append, b_layers_1]
  refine ⟨_, ix_vec k00 k01, ?_⟩
  rw [set_vec (z := s0 k0 a) k00 k01 (by unfold s0; rw [if_pos rfl]; rfl) fun i hi => by unfold s0; rw [if_neg hi]]
  simp only [w_AE_var, w_AE_int, w_AE_bl, w_AE_str, w_AE_non, w_AE_op, w_AE_un, w_AA_nil, w_AA_cons, w_AE_tup, w_AE_lst, w_AE_cb, w_AE_call, w_AE_callD, w_AT_test, w_AT_b, w_AT_not, w_AT_and, w_AT_or, w_AT_yes, w_AE_ifx, w_AE_and, w_AE_or, w_AE_not, w_AO_none, w_AO_some, w_AI_tup, w_AI_lst, w_AI_rng, w_AI_rng2, w_AI_enum, w_AI_rev, w_AG_name, w_AGs_nil, w_AGs_cons, w_AG_tup, w_AF_ae, w_AF_lst, w_AF_lc, w_AF_list, w_AE_sl, w_AE_revT, w_AE_chain, w_AE_isi, w_AE_view, w_AT_view, w_AE_ownIx, w_AE_ownTup, w_AE_ownSl, w_AS_nop, w_AS_brk, w_AS_cnt, w_AS_seq, w_AS_set, w_AS_asg, w_AS_drop, w_AS_par, w_AS_par3, w_AS_ret, w_AS_retN, w_AS_ifS, w_AS_for, w_AS_while, w_AS_setOwn, w_AS_append, w_AS_setAt, w_AS_frz, w_AS_fgt, w_AS_never, w_AF_lstRg, w_AE_tupRg, w_AS_insert, w_AS_aug, w_AS_parB, w_AS_par3B, w_AS_parA, w_AS_tupA, w_AS_tupB, f_aAdd, f_aMul, f_aEq, f_aNe, f_aIsN, f_aNotN, f_aIx, f_aNeg, f_aLen, f_aRepr, f_aInt, f_aIn, f_aNotIn, f_aIsB, f_aIsNotB, f_aTup, f_aI, f_aI0, f_aB0, f_aMin, f_aMax, q_inL, q_inT, q_notInL, q_notInT, q_isB, q_isNotB, q_addI, q_addT, q_addL, q_int, q_int0, q_bool0, q_mulI, q_mulT, q_mulL, q_eqI, q_eqS, q_neI, q_neS, q_isN, q_notN, q_ixT, q_ixL, q_neg, q_lenT, q_lenL, q_repr, q_two, q_intB, q_tupT, q_tupL, q_slT, q_slL, q_unB, q_unI, q_unT, q_unL, q_unI1, q_unI2, q_unT1, q_unS1T, q_unS1L, q_un1, q_un2, q_un3, q_hd, q_rd, q_ow, q_ctrT, q_ctrI, q_ctrS, q_ctrS2, q_brdT, q_brd0, q_brd1, q_rowI, q_rowT, q_rowT1, q_rowL, q_at0, q_at1, q_at2, q_at3, w_AI_zipM, q_unTL, f_aSortR, sortRF, w_lenSet, w_ext, w_lc2, w_minD, w_AI_zip, q_unTT, w_asgPop, w_ownLst, w_revL, q_unL0, w_parO, w_AF_rep, w_sortSet, wipeE, List.getElem?_cons_zero, List.getElem?_cons_succ, List.set_cons_zero, List.set_cons_succ, if_true, Bool.false_eq_true, if_false, true_and, and_true, Lim, dkS_deck, List.length_cons, List.length_nil, Nat.reduceAdd, Nat.reduceLeDiff, Nat.zero_le, Nat.zero_add, Int.reduceLT, Int.reduceLE, Int.reducePow, Int.reduceNeg, eq_self, decide_true, Bool.not_true, Bool.not_false, q_neB, q_eqB, q_isiR, q_rtT, q_rtT1, q_rtL, q_rtS0, q_rtS1, q_rtI, q_rtA, viewE_cons, viewE_nil, viewS_own, viewS_dat, viewS_deck, flat_int, flat_bool, flat_str, List.cons_append, List.nil_append, b_layers_2]
  simp only [w_AE_var, w_AE_int, w_AE_bl, w_AE_str, w_AE_non, w_AE_op, w_AE_un, w_AA_nil, w_AA_cons, w_AE_tup, w_AE_lst, w_AE_cb, w_AE_call, w_AE_callD, w_AT_test, w_AT_b, w_AT_not, w_AT_and, w_AT_or, w_AT_yes, w_AE_ifx, w_AE_and, w_AE_or, w_AE_not, w_AO_none, w_AO_some, w_AI_tup, w_AI_lst, w_AI_rng, w_AI_rng2, w_AI_enum, w_AI_rev, w_AG_name, w_AGs_nil, w_AGs_cons, w_AG_tup, w_AF_ae, w_AF_lst, w_AF_lc, w_AF_list, w_AE_sl, w_AE_revT, w_AE_chain, w_AE_isi, w_AE_view, w_AT_view, w_AE_ownIx, w_AE_ownTup, w_AE_ownSl, w_AS_nop, w_AS_brk, w_AS_cnt, w_AS_seq, w_AS_set, w_AS_asg, w_AS_drop, w_AS_par, w_AS_par3, w_AS_ret, w_AS_retN, w_AS_ifS, w_AS_for, w_AS_while, w_AS_setOwn, w_AS_append, w_AS_setAt, w_AS_frz, w_AS_fgt, w_AS_never, w_AF_lstRg, w_AE_tupRg, w_AS_insert, w_AS_aug, w_AS_parB, w_AS_par3B, w_AS_parA, w_AS_tupA, w_AS_tupB, f_aAdd, f_aMul, f_aEq, f_aNe, f_aIsN, f_aNotN, f_aIx, f_aNeg, f_aLen, f_aRepr, f_aInt, f_aIn, f_aNotIn, f_aIsB, f_aIsNotB, f_aTup, f_aI, f_aI0, f_aB0, f_aMin, f_aMax, q_inL, q_inT, q_notInL, q_notInT, q_isB, q_isNotB, q_addI, q_addT, q_addL, q_int, q_int0, q_bool0, q_mulI, q_mulT, q_mulL, q_eqI, q_eqS, q_neI, q_neS, q_isN, q_notN, q_ixT, q_ixL, q_neg, q_lenT, q_lenL, q_repr, q_two, q_intB, q_tupT, q_tupL, q_slT, q_slL, q_unB, q_unI, q_unT, q_unL, q_unI1, q_unI2, q_unT1, q_unS1T, q_unS1L, q_un1, q_un2, q_un3, q_hd, q_rd, q_ow, q_ctrT, q_ctrI, q_ctrS, q_ctrS2, q_brdT, q_brd0, q_brd1, q_rowI, q_rowT, q_rowT1, q_rowL, q_at0, q_at1, q_at2, q_at3, w_AI_zipM, q_unTL, f_aSortR, sortRF, w_lenSet, w_ext, w_lc2, w_minD, w_AI_zip, q_unTT, w_asgPop, w_ownLst, w_revL, q_unL0, w_parO, w_AF_rep, w_sortSet, wipeE, List.getElem?_cons_zero, List.getElem?_cons_succ, List.set_cons_zero, List.set_cons_succ, if_true, Bool.false_eq_true, if_false, true_and, and_true, Lim, dkS_deck, List.length_cons, List.length_nil, Nat.reduceAdd, Nat.reduceLeDiff, Nat.zero_le, Nat.zero_add, Int.reduceLT, Int.reduceLE, Int.reducePow, Int.reduceNeg, eq_self, decide_true, Bool.not_true, Bool.not_false, q_neB, q_eqB, q_isiR, q_rtT, q_rtT1, q_rtL, q_rtS0, q_rtS1, q_rtI, q_rtA, viewE_cons, viewE_nil, viewS_own, viewS_dat, viewS_deck, flat_int, flat_bool, flat_str, List.cons_append, List.nil_append, b_layers_3]
  refine ⟨⟨by omega, by omega⟩, fun i e s => ∃ (y4 : List PyData) (y6 y7 y8 y9 y10 : Sl), e = [.dat (boardD (m : Int) cs), .dat (.int k0), .dat (.int a), .dat (.int (N : Int)), .own y4, .own (layL m cs (s0 k0 a) (i + 1)), y6, y7, y8, y9, y10] ∧ s = t, ⟨_, _, _, _, _, _, rfl, rfl⟩, ?_, ?_⟩
  · rintro i d e s hd ⟨y4, y6, y7, y8, y9, y10, rfl, rfl⟩
    obtain ⟨hi, rfl⟩ := rng0_get hd
    have hx := itAll hok (s0All (m := m) (k := k0) ha) i
    simp only [w_AE_var, w_AE_int, w_AE_bl, w_AE_str, w_AE_non, w_AE_op, w_AE_un, w_AA_nil, w_AA_cons, w_AE_tup, w_AE_lst, w_AE_cb, w_AE_call, w_AE_callD, w_AT_test, w_AT_b, w_AT_not, w_AT_and, w_AT_or, w_AT_yes, w_AE_ifx, w_AE_and, w_AE_or, w_AE_not, w_AO_none, w_AO_some, w_AI_tup, w_AI_lst, w_AI_rng, w_AI_rng2, w_AI_enum, w_AI_rev, w_AG_name, w_AGs_nil, w_AGs_cons, w_AG_tup, w_AF_ae, w_AF_lst, w_AF_lc, w_AF_list, w_AE_sl, w_AE_revT, w_AE_chain, w_AE_isi, w_AE_view, w_AT_view, w_AE_ownIx, w_AE_ownTup, w_AE_ownSl, w_AS_nop, w_AS_brk, w_AS_cnt, w_AS_seq, w_AS_set, w_AS_asg, w_AS_drop, w_AS_par, w_AS_par3, w_AS_ret, w_AS_retN, w_AS_ifS, w_AS_for, w_AS_while, w_AS_setOwn, w_AS_append, w_AS_setAt, w_AS_frz, w_AS_fgt, w_AS_never, w_AF_lstRg, w_AE_tupRg, w_AS_insert, w_AS_aug, w_AS_parB, w_AS_par3B, w_AS_parA, w_AS_tupA, w_AS_tupB, f_aAdd, f_aMul, f_aEq, f_aNe, f_aIsN, f_aNotN, f_aIx, f_aNeg, f_aLen, f_aRepr, f_aInt, f_aIn, f_aNotIn, f_aIsB, f_aIsNotB, f_aTup, f_aI, f_aI0, f_aB0, f_aMin, f_aMax, q_inL, q_inT, q_notInL, q_notInT, q_isB, q_isNotB, q_addI, q_addT, q_addL, q_int, q_int0, q_bool0, q_mulI, q_mulT, q_mulL, q_eqI, q_eqS, q_neI, q_neS, q_isN, q_notN, q_ixT, q_ixL, q_neg, q_lenT, q_lenL, q_repr, q_two, q_intB, q_tupT, q_tupL, q_slT, q_slL, q_unB, q_unI, q_unT, q_unL, q_unI1, q_unI2, q_unT1, q_unS1T, q_unS1L, q_un1, q_un2, q_un3, q_hd, q_rd, q_ow, q_ctrT, q_ctrI, q_ctrS, q_ctrS2, q_brdT, q_brd0, q_brd1, q_rowI, q_rowT, q_rowT1, q_rowL, q_at0, q_at1, q_at2, q_at3, w_AI_zipM, q_unTL, f_aSortR, sortRF, w_lenSet, w_ext, w_lc2, w_minD, w_AI_zip, q_unTT, w_asgPop, w_ownLst, w_revL, q_unL0, w_parO, w_AF_rep, w_sortSet, wipeE, List.getElem?_cons_zero, List.getElem?_cons_succ, List.set_cons_zero, List.set_cons_succ, if_true, Bool.false_eq_true, if_false, true_and, and_true, Lim, dkS_deck, List.length_cons, List.length_nil, Nat.reduceAdd, Nat.reduceLeDiff, Nat.zero_le, Nat.zero_add, Int.reduceLT, Int.reduceLE, Int.reducePow, Int.reduceNeg, eq_self, decide_true, Bool.not_true, Bool.not_false, q_neB, q_eqB, q_isiR, q_rtT, q_rtT1, q_rtL, q_rtS0, q_rtS1, q_rtI, q_rtA, viewE_cons, viewE_nil, viewS_own, viewS_dat, viewS_deck, flat_int, flat_bool, flat_str, List.cons_append, List.nil_append, b_layers_3b0]
    refine atW_of (by rw [layL_succ]; exact at_last) ?_
    rw [show vecD m (itA cs (s0 k0 a) i) = .tuple (vecL m (itA cs (s0 k0 a) i)) from rfl]
    try simp only [w_AE_var, w_AE_int, w_AE_bl, w_AE_str, w_AE_non, w_AE_op, w_AE_un, w_AA_nil, w_AA_cons, w_AE_tup, w_AE_lst, w_AE_cb, w_AE_call, w_AE_callD, w_AT_test, w_AT_b, w_AT_not, w_AT_and, w_AT_or, w_AT_yes, w_AE_ifx, w_AE_and, w_AE_or, w_AE_not, w_AO_none, w_AO_some, w_AI_tup, w_AI_lst, w_AI_rng, w_AI_rng2, w_AI_enum, w_AI_rev, w_AG_name, w_AGs_nil, w_AGs_cons, w_AG_tup, w_AF_ae, w_AF_lst, w_AF_lc, w_AF_list, w_AE_sl, w_AE_revT, w_AE_chain, w_AE_isi, w_AE_view, w_AT_view, w_AE_ownIx, w_AE_ownTup, w_AE_ownSl, w_AS_nop, w_AS_brk, w_AS_cnt, w_AS_seq, w_AS_set, w_AS_asg, w_AS_drop, w_AS_par, w_AS_par3, w_AS_ret, w_AS_retN, w_AS_ifS, w_AS_for, w_AS_while, w_AS_setOwn, w_AS_append, w_AS_setAt, w_AS_frz, w_AS_fgt, w_AS_never, w_AF_lstRg, w_AE_tupRg, w_AS_insert, w_AS_aug, w_AS_parB, w_AS_par3B, w_AS_parA, w_AS_tupA, w_AS_tupB, f_aAdd, f_aMul, f_aEq, f_aNe, f_aIsN, f_aNotN, f_aIx, f_aNeg, f_aLen, f_aRepr, f_aInt, f_aIn, f_aNotIn, f_aIsB, f_aIsNotB, f_aTup, f_aI, f_aI0, f_aB0, f_aMin, f_aMax, q_inL, q_inT, q_notInL, q_notInT, q_isB, q_isNotB, q_addI, q_addT, q_addL, q_int, q_int0, q_bool0, q_mulI, q_mulT, q_mulL, q_eqI, q_eqS, q_neI, q_neS, q_isN, q_notN, q_ixT, q_ixL, q_neg, q_lenT, q_lenL, q_repr, q_two, q_intB, q_tupT, q_tupL, q_slT, q_slL, q_unB, q_unI, q_unT, q_unL, q_unI1, q_unI2, q_unT1, q_unS1T, q_unS1L, q_un1, q_un2, q_un3, q_hd, q_rd, q_ow, q_ctrT, q_ctrI, q_ctrS, q_ctrS2, q_brdT, q_brd0, q_brd1, q_rowI, q_rowT, q_rowT1, q_rowL, q_at0, q_at1, q_at2, q_at3, w_AI_zipM, q_unTL, f_aSortR, sortRF, w_lenSet, w_ext, w_lc2, w_minD, w_AI_zip, q_unTT, w_asgPop, w_ownLst, w_revL, q_unL0, w_parO, w_AF_rep, w_sortSet, wipeE, List.getElem?_cons_zero, List.getElem?_cons_succ, List.set_cons_zero, List.set_cons_succ, if_true, Bool.false_eq_true, if_false, true_and, and_true, Lim, dkS_deck, List.length_cons, List.length_nil, Nat.reduceAdd, Nat.reduceLeDiff, Nat.zero_le, Nat.zero_add, Int.reduceLT, Int.reduceLE, Int.reducePow, Int.reduceNeg, eq_self, decide_true, Bool.not_true, Bool.not_false, q_neB, q_eqB, q_isiR, q_rtT, q_rtT1, q_rtL, q_rtS0, q_rtS1, q_rtI, q_rtA, viewE_cons, viewE_nil, viewS_own, viewS_dat, viewS_deck, flat_int, flat_bool, flat_str, List.cons_append, List.nil_append]
    simp only [w_AE_var, w_AE_int, w_AE_bl, w_AE_str, w_AE_non, w_AE_op, w_AE_un, w_AA_nil, w_AA_cons, w_AE_tup, w_AE_lst, w_AE_cb, w_AE_call, w_AE_callD, w_AT_test, w_AT_b, w_AT_not, w_AT_and, w_AT_or, w_AT_yes, w_AE_ifx, w_AE_and, w_AE_or, w_AE_not, w_AO_none, w_AO_some, w_AI_tup, w_AI_lst, w_AI_rng, w_AI_rng2, w_AI_enum, w_AI_rev, w_AG_name, w_AGs_nil, w_AGs_cons, w_AG_tup, w_AF_ae, w_AF_lst, w_AF_lc, w_AF_list, w_AE_sl, w_AE_revT, w_AE_chain, w_AE_isi, w_AE_view, w_AT_view, w_AE_ownIx, w_AE_ownTup, w_AE_ownSl, w_AS_nop, w_AS_brk, w_AS_cnt, w_AS_seq, w_AS_set, w_AS_asg, w_AS_drop, w_AS_par, w_AS_par3, w_AS_ret, w_AS_retN, w_AS_ifS, w_AS_for, w_AS_while, w_AS_setOwn, w_AS_append, w_AS_setAt, w_AS_frz, w_AS_fgt, w_AS_never, w_AF_lstRg, w_AE_tupRg, w_AS_insert, w_AS_aug, w_AS_parB, w_AS_par3B, w_AS_parA, w_AS_tupA, w_AS_tupB, f_aAdd, f_aMul, f_aEq, f_aNe, f_aIsN, f_aNotN, f_aIx, f_aNeg, f_aLen, f_aRepr, f_aInt, f_aIn, f_aNotIn, f_aIsB, f_aIsNotB, f_aTup, f_aI, f_aI0, f_aB0, f_aMin, f_aMax, q_inL, q_inT, q_notInL, q_notInT, q_isB, q_isNotB, q_addI, q_addT, q_addL, q_int, q_int0, q_bool0, q_mulI, q_mulT, q_mulL, q_eqI, q_eqS, q_neI, q_neS, q_isN, q_notN, q_ixT, q_ixL, q_neg, q_lenT, q_lenL, q_repr, q_two, q_intB, q_tupT, q_tupL, q_slT, q_slL, q_unB, q_unI, q_unT, q_unL, q_unI1, q_unI2, q_unT1, q_unS1T, q_unS1L, q_un1, q_un2, q_un3, q_hd, q_rd, q_ow, q_ctrT, q_ctrI, q_ctrS, q_ctrS2, q_brdT, q_brd0, q_brd1, q_rowI, q_rowT, q_rowT1, q_rowL, q_at0, q_at1, q_at2, q_at3, w_AI_zipM, q_unTL, f_aSortR, sortRF, w_lenSet, w_ext, w_lc2, w_minD, w_AI_zip, q_unTT, w_asgPop, w_ownLst, w_revL, q_unL0, w_parO, w_AF_rep, w_sortSet, wipeE, List.getElem?_cons_zero, List.getElem?_cons_succ, List.set_cons_zero, List.set_cons_succ, if_true, Bool.false_eq_true, if_false, true_and, and_true, Lim, dkS_deck, List.length_cons, List.length_nil, Nat.reduceAdd, Nat.reduceLeDiff, Nat.zero_le, Nat.zero_add, Int.reduceLT, Int.reduceLE, Int.reducePow, Int.reduceNeg, eq_self, decide_true, Bool.not_true, Bool.not_false, q_neB, q_eqB, q_isiR, q_rtT, q_rtT1, q_rtL, q_rtS0, q_rtS1, q_rtI, q_rtA, viewE_cons, viewE_nil, viewS_own, viewS_dat, viewS_deck, flat_int, flat_bool, flat_str, List.cons_append, List.nil_append, b_layers_3b1]
    refine ⟨fun q e s2 => ∃ (y7 y8 y9 y10 : Sl), e = [.dat (boardD (m : Int) cs), .dat (.int k0), .dat (.int a), .dat (.int (N : Int)), .own (vecL m (foldA (cs.take q) (itA cs (s0 k0 a) i) (itA cs (s0 k0 a) i))), .own (layL m cs (s0 k0 a) (i + 1)), .dat (.int (i : Int)), y7, y8, y9, y10] ∧ s2 = s ∧ AllN m (foldA (cs.take q) (itA cs (s0 k0 a) i) (itA cs (s0 k0 a) i)), ⟨_, _, _, _, rfl, rfl, hx⟩, ?_, ?_⟩
    · rintro q d e s hd ⟨y7, y8, y9, y10, rfl, rfl, hy⟩
      rw [List.getElem?_map] at hd
      cases hq : cs[q]? with
      | none => rw [hq] at hd; cases hd
      | some c =>
        rw [hq] at hd
        cases hd
        have cok := hok c (List.mem_of_getElem? hq)
        have en : foldA (cs.take (q + 1)) (itA cs (s0 k0 a) i) (itA cs (s0 k0 a) i) = rel c (itA cs (s0 k0 a) i) (foldA (cs.take q) (itA cs (s0 k0 a) i) (itA cs (s0 k0 a) i)) := by unfold foldA; rw [take_next hq, List.foldl_append]; rfl
        rw [show c.d = .tuple [.int c.s, .int c.t, .int c.g, .int c.e] from rfl]
        simp only [w_AE_var, w_AE_int, w_AE_bl, w_AE_str, w_AE_non, w_AE_op, w_AE_un, w_AA_nil, w_AA_cons, w_AE_tup, w_AE_lst, w_AE_cb, w_AE_call, w_AE_callD, w_AT_test, w_AT_b, w_AT_not, w_AT_and, w_AT_or, w_AT_yes, w_AE_ifx, w_AE_and, w_AE_or, w_AE_not, w_AO_none, w_AO_some, w_AI_tup, w_AI_lst, w_AI_rng, w_AI_rng2, w_AI_enum, w_AI_rev, w_AG_name, w_AGs_nil, w_AGs_cons, w_AG_tup, w_AF_ae, w_AF_lst, w_AF_lc, w_AF_list, w_AE_sl, w_AE_revT, w_AE_chain, w_AE_isi, w_AE_view, w_AT_view, w_AE_ownIx, w_AE_ownTup, w_AE_ownSl, w_AS_nop, w_AS_brk, w_AS_cnt, w_AS_seq, w_AS_set, w_AS_asg, w_AS_drop, w_AS_par, w_AS_par3, w_AS_ret, w_AS_retN, w_AS_ifS, w_AS_for, w_AS_while, w_AS_setOwn, w_AS_append, w_AS_setAt, w_AS_frz, w_AS_fgt, w_AS_never, w_AF_lstRg, w_AE_tupRg, w_AS_insert, w_AS_aug, w_AS_parB, w_AS_par3B, w_AS_parA, w_AS_tupA, w_AS_tupB, f_aAdd, f_aMul, f_aEq, f_aNe, f_aIsN, f_aNotN, f_aIx, f_aNeg, f_aLen, f_aRepr, f_aInt, f_aIn, f_aNotIn, f_aIsB, f_aIsNotB, f_aTup, f_aI, f_aI0, f_aB0, f_aMin, f_aMax, q_inL, q_inT, q_notInL, q_notInT, q_isB, q_isNotB, q_addI, q_addT, q_addL, q_int, q_int0, q_bool0, q_mulI, q_mulT, q_mulL, q_eqI, q_eqS, q_neI, q_neS, q_isN, q_notN, q_ixT, q_ixL, q_neg, q_lenT, q_lenL, q_repr, q_two, q_intB, q_tupT, q_tupL, q_slT, q_slL, q_unB, q_unI, q_unT, q_unL, q_unI1, q_unI2, q_unT1, q_unS1T, q_unS1L, q_un1, q_un2, q_un3, q_hd, q_rd, q_ow, q_ctrT, q_ctrI, q_ctrS, q_ctrS2, q_brdT, q_brd0, q_brd1, q_rowI, q_rowT, q_rowT1, q_rowL, q_at0, q_at1, q_at2, q_at3, w_AI_zipM, q_unTL, f_aSortR, sortRF, w_lenSet, w_ext, w_lc2, w_minD, w_AI_zip, q_unTT, w_asgPop, w_ownLst, w_revL, q_unL0, w_parO, w_AF_rep, w_sortSet, wipeE, List.getElem?_cons_zero, List.getElem?_cons_succ, List.set_cons_zero, List.set_cons_succ, if_true, Bool.false_eq_true, if_false, true_and, and_true, Lim, dkS_deck, List.length_cons, List.length_nil, Nat.reduceAdd, Nat.reduceLeDiff, Nat.zero_le, Nat.zero_add, Int.reduceLT, Int.reduceLE, Int.reducePow, Int.reduceNeg, eq_self, decide_true, Bool.not_true, Bool.not_false, q_neB, q_eqB, q_isiR, q_rtT, q_rtT1, q_rtL, q_rtS0, q_rtS1, q_rtI, q_rtA, viewE_cons, viewE_nil, viewS_own, viewS_dat, viewS_deck, flat_int, flat_bool, flat_str, List.cons_append, List.nil_append]
        rw [en]
        generalize foldA (cs.take q) (itA cs (s0 k0 a) i) (itA cs (s0 k0 a) i) = y at hy ⊢
        obtain ⟨v, hv, v0⟩ := hx c.s cok.s0 cok.s1
        obtain ⟨u, hu, u0⟩ := hy c.t cok.t0 cok.t1
        refine atW_of (at_vec cok.t0 cok.t1) (atW_of (by rw [layL_succ]; exact at_last) ?_)
        rw [show vecD m (itA cs (s0 k0 a) i) = .tuple (vecL m (itA cs (s0 k0 a) i)) from rfl]
        simp only [w_AE_var, w_AE_int, w_AE_bl, w_AE_str, w_AE_non, w_AE_op, w_AE_un, w_AA_nil, w_AA_cons, w_AE_tup, w_AE_lst, w_AE_cb, w_AE_call, w_AE_callD, w_AT_test, w_AT_b, w_AT_not, w_AT_and, w_AT_or, w_AT_yes, w_AE_ifx, w_AE_and, w_AE_or, w_AE_not, w_AO_none, w_AO_some, w_AI_tup, w_AI_lst, w_AI_rng, w_AI_rng2, w_AI_enum, w_AI_rev, w_AG_name, w_AGs_nil, w_AGs_cons, w_AG_tup, w_AF_ae, w_AF_lst, w_AF_lc, w_AF_list, w_AE_sl, w_AE_revT, w_AE_chain, w_AE_isi, w_AE_view, w_AT_view, w_AE_ownIx, w_AE_ownTup, w_AE_ownSl, w_AS_nop, w_AS_brk, w_AS_cnt, w_AS_seq, w_AS_set, w_AS_asg, w_AS_drop, w_AS_par, w_AS_par3, w_AS_ret, w_AS_retN, w_AS_ifS, w_AS_for, w_AS_while, w_AS_setOwn, w_AS_append, w_AS_setAt, w_AS_frz, w_AS_fgt, w_AS_never, w_AF_lstRg, w_AE_tupRg, w_AS_insert, w_AS_aug, w_AS_parB, w_AS_par3B, w_AS_parA, w_AS_tupA, w_AS_tupB, f_aAdd, f_aMul, f_aEq, f_aNe, f_aIsN, f_aNotN, f_aIx, f_aNeg, f_aLen, f_aRepr, f_aInt, f_aIn, f_aNotIn, f_aIsB, f_aIsNotB, f_aTup, f_aI, f_aI0, f_aB0, f_aMin, f_aMax, q_inL, q_inT, q_notInL, q_notInT, q_isB, q_isNotB, q_addI, q_addT, q_addL, q_int, q_int0, q_bool0, q_mulI, q_mulT, q_mulL, q_eqI, q_eqS, q_neI, q_neS, q_isN, q_notN, q_ixT, q_ixL, q_neg, q_lenT, q_lenL, q_repr, q_two, q_intB, q_tupT, q_tupL, q_slT, q_slL, q_unB, q_unI, q_unT, q_unL, q_unI1, q_unI2, q_unT1, q_unS1T, q_unS1L, q_un1, q_un2, q_un3, q_hd, q_rd, q_ow, q_ctrT, q_ctrI, q_ctrS, q_ctrS2, q_brdT, q_brd0, q_brd1, q_rowI, q_rowT, q_rowT1, q_rowL, q_at0, q_at1, q_at2, q_at3, w_AI_zipM, q_unTL, f_aSortR, sortRF, w_lenSet, w_ext, w_lc2, w_minD, w_AI_zip, q_unTT, w_asgPop, w_ownLst, w_revL, q_unL0, w_parO, w_AF_rep, w_sortSet, wipeE, List.getElem?_cons_zero, List.getElem?_cons_succ, List.set_cons_zero, List.set_cons_succ, if_true, Bool.false_eq_true, if_false, true_and, and_true, Lim, dkS_deck, List.length_cons, List.length_nil, Nat.reduceAdd, Nat.reduceLeDiff, Nat.zero_le, Nat.zero_add, Int.reduceLT, Int.reduceLE, Int.reducePow, Int.reduceNeg, eq_self, decide_true, Bool.not_true, Bool.not_false, q_neB, q_eqB, q_isiR, q_rtT, q_rtT1, q_rtL, q_rtS0, q_rtS1, q_rtI, q_rtA, viewE_cons, viewE_nil, viewS_own, viewS_dat, viewS_deck, flat_int, flat_bool, flat_str, List.cons_append, List.nil_append]
        refine atW_of (at_vec cok.s0 cok.s1) ?_
        rw [hv, hu, show numD (some v) = .int v from rfl, show numD (some u) = .int u from rfl]
        simp only [w_AE_var, w_AE_int, w_AE_bl, w_AE_str, w_AE_non, w_AE_op, w_AE_un, w_AA_nil, w_AA_cons, w_AE_tup, w_AE_lst, w_AE_cb, w_AE_call, w_AE_callD, w_AT_test, w_AT_b, w_AT_not, w_AT_and, w_AT_or, w_AT_yes, w_AE_ifx, w_AE_and, w_AE_or, w_AE_not, w_AO_none, w_AO_some, w_AI_tup, w_AI_lst, w_AI_rng, w_AI_rng2, w_AI_enum, w_AI_rev, w_AG_name, w_AGs_nil, w_AGs_cons, w_AG_tup, w_AF_ae, w_AF_lst, w_AF_lc, w_AF_list, w_AE_sl, w_AE_revT, w_AE_chain, w_AE_isi, w_AE_view, w_AT_view, w_AE_ownIx, w_AE_ownTup, w_AE_ownSl, w_AS_nop, w_AS_brk, w_AS_cnt, w_AS_seq, w_AS_set, w_AS_asg, w_AS_drop, w_AS_par, w_AS_par3, w_AS_ret, w_AS_retN, w_AS_ifS, w_AS_for, w_AS_while, w_AS_setOwn, w_AS_append, w_AS_setAt, w_AS_frz, w_AS_fgt, w_AS_never, w_AF_lstRg, w_AE_tupRg, w_AS_insert, w_AS_aug, w_AS_parB, w_AS_par3B, w_AS_parA, w_AS_tupA, w_AS_tupB, f_aAdd, f_aMul, f_aEq, f_aNe, f_aIsN, f_aNotN, f_aIx, f_aNeg, f_aLen, f_aRepr, f_aInt, f_aIn, f_aNotIn, f_aIsB, f_aIsNotB, f_aTup, f_aI, f_aI0, f_aB0, f_aMin, f_aMax, q_inL, q_inT, q_notInL, q_notInT, q_isB, q_isNotB, q_addI, q_addT, q_addL, q_int, q_int0, q_bool0, q_mulI, q_mulT, q_mulL, q_eqI, q_eqS, q_neI, q_neS, q_isN, q_notN, q_ixT, q_ixL, q_neg, q_lenT, q_lenL, q_repr, q_two, q_intB, q_tupT, q_tupL, q_slT, q_slL, q_unB, q_unI, q_unT, q_unL, q_unI1, q_unI2, q_unT1, q_unS1T, q_unS1L, q_un1, q_un2, q_un3, q_hd, q_rd, q_ow, q_ctrT, q_ctrI, q_ctrS, q_ctrS2, q_brdT, q_brd0, q_brd1, q_rowI, q_rowT, q_rowT1, q_rowL, q_at0, q_at1, q_at2, q_at3, w_AI_zipM, q_unTL, f_aSortR, sortRF, w_lenSet, w_ext, w_lc2, w_minD, w_AI_zip, q_unTT, w_asgPop, w_ownLst, w_revL, q_unL0, w_parO, w_AF_rep, w_sortSet, wipeE, List.getElem?_cons_zero, List.getElem?_cons_succ, List.set_cons_zero, List.set_cons_succ, if_true, Bool.false_eq_true, if_false, true_and, and_true, Lim, dkS_deck, List.length_cons, List.length_nil, Nat.reduceAdd, Nat.reduceLeDiff, Nat.zero_le, Nat.zero_add, Int.reduceLT, Int.reduceLE, Int.reducePow, Int.reduceNeg, eq_self, decide_true, Bool.not_true, Bool.not_false, q_neB, q_eqB, q_isiR, q_rtT, q_rtT1, q_rtL, q_rtS0, q_rtS1, q_rtI, q_rtA, viewE_cons, viewE_nil, viewS_own, viewS_dat, viewS_deck, flat_int, flat_bool, flat_str, List.cons_append, List.nil_append]
        have := cok.g0; have := cok.g1; have := cok.e0; have := cok.e1
        refine ⟨⟨by omega, by omega⟩, .inr ⟨by omega, by omega⟩, _, ix_vec cok.t0 cok.t1, ?_⟩
        rw [set_vec (z := rel c (itA cs (s0 k0 a) i) y) cok.t0 cok.t1 (by unfold rel; rw [if_pos rfl, hv, hu]; simp only [fc, Option.map_some, nmax, numD]) fun i hi => by unfold rel; rw [if_neg hi]]
        exact ⟨_, _, _, _, rfl, relAll cok hx hy⟩
    · rintro e s ⟨y7, y8, y9, y10, rfl, rfl, hy⟩
      rw [List.length_map, List.take_length]
      simp only [w_AE_var, w_AE_int, w_AE_bl, w_AE_str, w_AE_non, w_AE_op, w_AE_un, w_AA_nil, w_AA_cons, w_AE_tup, w_AE_lst, w_AE_cb, w_AE_call, w_AE_callD, w_AT_test, w_AT_b, w_AT_not, w_AT_and, w_AT_or, w_AT_yes, w_AE_ifx, w_AE_and, w_AE_or, w_AE_not, w_AO_none, w_AO_some, w_AI_tup, w_AI_lst, w_AI_rng, w_AI_rng2, w_AI_enum, w_AI_rev, w_AG_name, w_AGs_nil, w_AGs_cons, w_AG_tup, w_AF_ae, w_AF_lst, w_AF_lc, w_AF_list, w_AE_sl, w_AE_revT, w_AE_chain, w_AE_isi, w_AE_view, w_AT_view, w_AE_ownIx, w_AE_ownTup, w_AE_ownSl, w_AS_nop, w_AS_brk, w_AS_cnt, w_AS_seq, w_AS_set, w_AS_asg, w_AS_drop, w_AS_par, w_AS_par3, w_AS_ret, w_AS_retN, w_AS_ifS, w_AS_for, w_AS_while, w_AS_setOwn, w_AS_append, w_AS_setAt, w_AS_frz, w_AS_fgt, w_AS_never, w_AF_lstRg, w_AE_tupRg, w_AS_insert, w_AS_aug, w_AS_parB, w_AS_par3B, w_AS_parA, w_AS_tupA, w_AS_tupB, f_aAdd, f_aMul, f_aEq, f_aNe, f_aIsN, f_aNotN, f_aIx, f_aNeg, f_aLen, f_aRepr, f_aInt, f_aIn, f_aNotIn, f_aIsB, f_aIsNotB, f_aTup, f_aI, f_aI0, f_aB0, f_aMin, f_aMax, q_inL, q_inT, q_notInL, q_notInT, q_isB, q_isNotB, q_addI, q_addT, q_addL, q_int, q_int0, q_bool0, q_mulI, q_mulT, q_mulL, q_eqI, q_eqS, q_neI, q_neS, q_isN, q_notN, q_ixT, q_ixL, q_neg, q_lenT, q_lenL, q_repr, q_two, q_intB, q_tupT, q_tupL, q_slT, q_slL, q_unB, q_unI, q_unT, q_unL, q_unI1, q_unI2, q_unT1, q_unS1T, q_unS1L, q_un1, q_un2, q_un3, q_hd, q_rd, q_ow, q_ctrT, q_ctrI, q_ctrS, q_ctrS2, q_brdT, q_brd0, q_brd1, q_rowI, q_rowT, q_rowT1, q_rowL, q_at0, q_at1, q_at2, q_at3, w_AI_zipM, q_unTL, f_aSortR, sortRF, w_lenSet, w_ext, w_lc2, w_minD, w_AI_zip, q_unTT, w_asgPop, w_ownLst, w_revL, q_unL0, w_parO, w_AF_rep, w_sortSet, wipeE, List.getElem?_cons_zero, List.getElem?_cons_succ, List.set_cons_zero, List.set_cons_succ, if_true, Bool.false_eq_true, if_false, true_and, and_true, Lim, dkS_deck, List.length_cons, List.length_nil, Nat.reduceAdd, Nat.reduceLeDiff, Nat.zero_le, Nat.zero_add, Int.reduceLT, Int.reduceLE, Int.reducePow, Int.reduceNeg, eq_self, decide_true, Bool.not_true, Bool.not_false, q_neB, q_eqB, q_isiR, q_rtT, q_rtT1, q_rtL, q_rtS0, q_rtS1, q_rtI, q_rtA, viewE_cons, viewE_nil, viewS_own, viewS_dat, viewS_deck, flat_int, flat_bool, flat_str, List.cons_append, List.nil_append, b_layers_3b2]
      rw [layL_succ (n := i + 1)]
      exact ⟨by unfold layL; rw [List.length_map, List.length_range]; omega, _, _, _, _, _, _, rfl⟩
  · rintro e s ⟨y4, y6, y7, y8, y9, y10, rfl, rfl⟩
    rw [rngD_length, show ((N : Int) - 0).toNat = N by omega]
    simp only [w_AE_var, w_AE_int, w_AE_bl, w_AE_str, w_AE_non, w_AE_op, w_AE_un, w_AA_nil, w_AA_cons, w_AE_tup, w_AE_lst, w_AE_cb, w_AE_call, w_AE_callD, w_AT_test, w_AT_b, w_AT_not, w_AT_and, w_AT_or, w_AT_yes, w_AE_ifx, w_AE_and, w_AE_or, w_AE_not, w_AO_none, w_AO_some, w_AI_tup, w_AI_lst, w_AI_rng, w_AI_rng2, w_AI_enum, w_AI_rev, w_AG_name, w_AGs_nil, w_AGs_cons, w_AG_tup, w_AF_ae, w_AF_lst, w_AF_lc, w_AF_list, w_AE_sl, w_AE_revT, w_AE_chain, w_AE_isi, w_AE_view, w_AT_view, w_AE_ownIx, w_AE_ownTup, w_AE_ownSl, w_AS_nop, w_AS_brk, w_AS_cnt, w_AS_seq, w_AS_set, w_AS_asg, w_AS_drop, w_AS_par, w_AS_par3, w_AS_ret, w_AS_retN, w_AS_ifS, w_AS_for, w_AS_while, w_AS_setOwn, w_AS_append, w_AS_setAt, w_AS_frz, w_AS_fgt, w_AS_never, w_AF_lstRg, w_AE_tupRg, w_AS_insert, w_AS_aug, w_AS_parB, w_AS_par3B, w_AS_parA, w_AS_tupA, w_AS_tupB, f_aAdd, f_aMul, f_aEq, f_aNe, f_aIsN, f_aNotN, f_aIx, f_aNeg, f_aLen, f_aRepr, f_aInt, f_aIn, f_aNotIn, f_aIsB, f_aIsNotB, f_aTup, f_aI, f_aI0, f_aB0, f_aMin, f_aMax, q_inL, q_inT, q_notInL, q_notInT, q_isB, q_isNotB, q_addI, q_addT, q_addL, q_int, q_int0, q_bool0, q_mulI, q_mulT, q_mulL, q_eqI, q_eqS, q_neI, q_neS, q_isN, q_notN, q_ixT, q_ixL, q_neg, q_lenT, q_lenL, q_repr, q_two, q_intB, q_tupT, q_tupL, q_slT, q_slL, q_unB, q_unI, q_unT, q_unL, q_unI1, q_unI2, q_unT1, q_unS1T, q_unS1L, q_un1, q_un2, q_un3, q_hd, q_rd, q_ow, q_ctrT, q_ctrI, q_ctrS, q_ctrS2, q_brdT, q_brd0, q_brd1, q_rowI, q_rowT, q_rowT1, q_rowL, q_at0, q_at1, q_at2, q_at3, w_AI_zipM, q_unTL, f_aSortR, sortRF, w_lenSet, w_ext, w_lc2, w_minD, w_AI_zip, q_unTT, w_asgPop, w_ownLst, w_revL, q_unL0, w_parO, w_AF_rep, w_sortSet, wipeE, List.getElem?_cons_zero, List.getElem?_cons_succ, List.set_cons_zero, List.set_cons_succ, if_true, Bool.false_eq_true, if_false, true_and, and_true, Lim, dkS_deck, List.length_cons, List.length_nil, Nat.reduceAdd, Nat.reduceLeDiff, Nat.zero_le, Nat.zero_add, Int.reduceLT, Int.reduceLE, Int.reducePow, Int.reduceNeg, eq_self, decide_true, Bool.not_true, Bool.not_false, q_neB, q_eqB, q_isiR, q_rtT, q_rtT1, q_rtL, q_rtS0, q_rtS1, q_rtI, q_rtA, viewE_cons, viewE_nil, viewS_own, viewS_dat, viewS_deck, flat_int, flat_bool, flat_str, List.cons_append, List.nil_append, b_layers_4]
    exact hk
def b_all_2b1b0b0 (K : PySem.W.Frag) : AS K := (AS.ifS (AT.test (AE.op (aEq K) (AE.op (aIx K) (AE.var K 10) (AE.int K 0)) (AE.var K 8))) (AS.append 7 (AA.cons (AE.tup (AA.cons (AE.op (aIx K) (AE.var K 10) (AE.int K 1)) (AA.cons (AE.call p_lchanged E0 (AA.cons (AE.var K 10) (AA.cons (AE.var K 9) (AA.nil K)))) (AA.nil K)))) (AA.nil K))) (AS.nop K))
def b_all_2b1b0 (K : PySem.W.Frag) : AS K := (AS.for (AI.tup (AE.op (aIx K) (AE.var K 0) (AE.int K 1))) (AG.name K 10) (b_all_2b1b0b0 K))
def b_all_2b3 (K : PySem.W.Frag) : AS K := (AS.set 4 (AE.sortSet (AE.var K 7)))
def b_all_2b2 (K : PySem.W.Frag) : AS K := (AS.frz 7 (AS.seq (AS.for (AI.lst (AE.var K 7)) (AG.tup (AGs.cons 8 (AGs.cons 9 (AGs.nil K)))) (AS.setAt 5 (AE.var K 8) (AE.cb (aMax K) (AA.cons (AE.ownIx 5 (AE.var K 8)) (AA.cons (AE.var K 9) (AA.nil K)))))) (b_all_2b3 K)))
def b_all_2b1 (K : PySem.W.Frag) : AS K := (AS.seq (AS.for (AI.lst (AE.var K 4)) (AG.tup (AGs.cons 8 (AGs.cons 9 (AGs.nil K)))) (b_all_2b1b0 K)) (b_all_2b2 K))
def b_all_2b0 (K : PySem.W.Frag) : AS K := (AS.seq (AS.setOwn 7 (AF.lst (AA.nil K))) (b_all_2b1 K))
def b_all_3 (K : PySem.W.Frag) : AS K := (AS.ret (AE.ownTup K 5))
def b_all_2 (K : PySem.W.Frag) : AS K := (AS.seq (AS.for (AI.rng (AA.cons (AE.var K 3) (AA.nil K))) (AG.name K 6) (b_all_2b0 K)) (b_all_3 K))
def b_all_1 (K : PySem.W.Frag) : AS K := (AS.seq (AS.setAt 5 (AE.var K 1) (AE.var K 2)) (b_all_2 K))
def b_all (K : PySem.W.Frag) : AS K := (AS.seq (AS.parB 4 5 (by decide) (AE.lst (AA.cons (AE.tup (AA.cons (AE.var K 1) (AA.cons (AE.var K 2) (AA.nil K)))) (AA.nil K))) (AF.rep (AF.lst (AA.cons (AE.int K 0) (AA.nil K))) (AE.op (aIx K) (AE.var K 0) (AE.int K 0)))) (b_all_1 K))
theorem ok_all {f f1 : Addr} {fd fd1 : FuncData} (h : Has K mg "_law_all" sAll ["_law_board_here", "_law_kind", "_law_amount_here", "_law_steps"] f fd) (T : Bz mg) (T_sorted : mg "sorted" = none) (T_set : mg "set" = none) (T_lchanged : Has K mg "_law_changed" sLchanged ["_law_counter", "_law_amount_here"] f1 fd1) (G_lchanged : FnG P w K mg base CX0 1 f1 fd1 ["_law_counter", "_law_amount_here"] (spA K p_lchanged)) : FnG P w K mg base CX0 2 f fd ["_law_board_here", "_law_kind", "_law_amount_here", "_law_steps"] (spA K p_all) := by
  refine okA h scAll (b_all K) p_all (fun cd A out s H E hgd hr => ⟨_, (pss_cons (ps_par (i := 4) (j := 5) rfl scAll.nd rfl rfl (by decide) rfl rfl (pa_cons (pe_lst (pa_cons (pe_tup (pa_cons (pv 1) (pa_cons (pv 2) pa_nil))) pa_nil)) (pa_cons (pe_op (r := rMulU K) op_mulU (pe_lst (pa_cons pe_int pa_nil)) (pe_ix (r := rIx K) ix_seq (pv 0) pe_int (fun _ _ => rfl))) pa_nil)) rfl)
      (pss_cons (ps_asg (pv 2) (pg_sub (pv 5) (pv 1) set_list))
      (pss_cons (ps_for PassesOwn.never rfl (pi_range1 rfl T.z_range (pa_cons (pv 3) pa_nil)) (pg_name (i := 6) scAll.nd rfl (Or.inl rfl))
        (pss_cons (ps_set (i := 7) scAll.nd rfl (Or.inl rfl) (pe_lst pa_nil))
        (pss_cons (ps_for PassesOwn.never rfl (pi_list (pv 4)) (pg_tup rfl (pgs_cons (pg_name (i := 8) scAll.nd rfl (Or.inl rfl)) (pgs_cons (pg_name (i := 9) scAll.nd rfl (Or.inl rfl)) pgs_nil)))
          (pss_one (ps_for PassesOwn.never rfl (pi_tup (pe_ix (r := rIx K) ix_seq (pv 0) pe_int (fun _ _ => rfl))) (pg_name (i := 10) scAll.nd rfl (Or.inl rfl))
            (pss_one (ps_if (pt_cmpR (r := rEqU K) (op_eqU hr.units) (pe_ix (r := rIx K) ix_seq (pv 10) pe_int (fun _ _ => rfl)) (pv 8) (nomark _))
              (pss_one (ps_expr (pe_bm PySem.F.plainAttrs_list PySem.F.slot_list_append PySem.F.type_list_append mt_append (pv 7) (pa_cons (pe_tup (pa_cons (pe_ix (r := rIx K) ix_seq (pv 10) pe_int (fun _ _ => rfl)) (pa_cons (pe_callG G_lchanged hgd (hr.mono (by decide)) rfl T_lchanged.m T_lchanged.F.kp T_lchanged.b .nil pass0 (pa_cons (pv 10) (pa_cons (pv 9) pa_nil))) pa_nil))) pa_nil))))
              pss_nil)))))
        (pss_cons (ps_for PassesOwn.never rfl (pi_list (pv 7)) (pg_tup rfl (pgs_cons (pg_name (i := 8) scAll.nd rfl (Or.inl rfl)) (pgs_cons (pg_name (i := 9) scAll.nd rfl (Or.inl rfl)) pgs_nil)))
          (pss_one (ps_asg (pe_callB (call_maxU rfl) rfl T.z_max boot_max (pa_cons (pe_ix (r := rIx K) ix_seq (pv 5) (pv 8) (fun _ _ => rfl)) (pa_cons (pv 9) pa_nil))) (pg_sub (pv 5) (pv 8) set_list))))
        (pss_one (ps_set (i := 4) scAll.nd rfl (Or.inl rfl) (pe_sortSet hr.units rfl T_sorted rfl T_set (pv 7))))))))
      (pss_one (ps_ret (pe_callTy (r := rTupU K) call_tupU rfl T.z_tuple boot_tupleU (pa_cons (pv 5) pa_nil))))))), by (simp only [b_all_2b1b0b0, b_all_2b1b0, b_all_2b3, b_all_2b2, b_all_2b1, b_all_2b0, b_all_3, b_all_2, b_all_1, b_all, t_AE_var, t_AE_int, t_AE_bl, t_AE_str, t_AE_non, t_AE_op, t_AE_un, t_AA_nil, t_AA_cons, t_AE_tup, t_AE_lst, t_AE_cb, t_AE_call, t_AE_callD, t_AT_test, t_AT_b, t_AT_not, t_AT_and, t_AT_or, t_AT_yes, t_AE_ifx, t_AE_and, t_AE_or, t_AE_not, t_AO_none, t_AO_some, t_AI_tup, t_AI_lst, t_AI_rng, t_AI_rng2, t_AI_enum, t_AI_rev, t_AG_name, t_AGs_nil, n_AGs_nil, t_AGs_cons, n_AGs_cons, t_AG_tup, t_AF_ae, t_AF_lst, t_AF_lc, t_AF_list, t_AE_sl, t_AE_revT, t_AE_chain, t_AE_isi, t_AE_view, t_AT_view, t_AE_ownIx, t_AE_ownTup, t_AE_ownSl, t_AS_nop, t_AS_brk, t_AS_cnt, t_AS_seq, t_AS_set, t_AS_asg, t_AS_drop, t_AS_par, t_AS_par3, t_AS_ret, t_AS_retN, t_AS_ifS, t_AS_for, t_AS_while, t_AS_setOwn, t_AS_append, t_AS_setAt, t_AS_frz, t_AS_fgt, t_AS_never, t_AF_lstRg, t_AE_tupRg, t_AS_insert, t_AS_aug, t_AS_parB, t_AS_par3B, t_AS_parA, t_AS_tupA, t_AS_tupB, t_aAdd, t_aMul, t_aEq, t_aNe, t_aIsN, t_aNotN, t_aIx, t_aNeg, t_aLen, t_aRepr, t_aInt, t_aIn, t_aNotIn, t_aIsB, t_aIsNotB, t_aTup, t_aMin, t_aMax, t_aI, t_aI0, t_aB0, t_AI_zipM, t_aSortR, t_lenSet, t_ext, t_lc2, t_minD, t_AI_zip, t_asgPop, t_ownLst, t_revL, t_parO, t_AF_rep, t_sortSet]) <;> rfl⟩) (fun ds t k hw => ?_)
  obtain ⟨d, ⟨m, cs, k0, a, N, rfl, m1, hm, hN, l8, k00, k01, ha, hok, rfl⟩, hk⟩ := hw
  refine ⟨rfl, ?_⟩
  show (b_all K).wp [.dat (boardD (m : Int) cs), .dat (.int k0), .dat (.int a), .dat (.int (N : Int)), .un, .un, .un, .un, .un, .un, .un] t _
  simp only [w_AE_var, w_AE_int, w_AE_bl, w_AE_str, w_AE_non, w_AE_op, w_AE_un, w_AA_nil, w_AA_cons, w_AE_tup, w_AE_lst, w_AE_cb, w_AE_call, w_AE_callD, w_AT_test, w_AT_b, w_AT_not, w_AT_and, w_AT_or, w_AT_yes, w_AE_ifx, w_AE_and, w_AE_or, w_AE_not, w_AO_none, w_AO_some, w_AI_tup, w_AI_lst, w_AI_rng, w_AI_rng2, w_AI_enum, w_AI_rev, w_AG_name, w_AGs_nil, w_AGs_cons, w_AG_tup, w_AF_ae, w_AF_lst, w_AF_lc, w_AF_list, w_AE_sl, w_AE_revT, w_AE_chain, w_AE_isi, w_AE_view, w_AT_view, w_AE_ownIx, w_AE_ownTup, w_AE_ownSl, w_AS_nop, w_AS_brk, w_AS_cnt, w_AS_seq, w_AS_set, w_AS_asg, w_AS_drop, w_AS_par, w_AS_par3, w_AS_ret, w_AS_retN, w_AS_ifS, w_AS_for, w_AS_while, w_AS_setOwn, w_AS_append, w_AS_setAt, w_AS_frz, w_AS_fgt, w_AS_never, w_AF_lstRg, w_AE_tupRg, w_AS_insert, w_AS_aug, w_AS_parB, w_AS_par3B, w_AS_parA, w_AS_tupA, w_AS_tupB, f_aAdd, f_aMul, f_aEq, f_aNe, f_aIsN, f_aNotN, f_aIx, f_aNeg, f_aLen, f_aRepr, f_aInt, f_aIn, f_aNotIn, f_aIsB, f_aIsNotB, f_aTup, f_aI, f_aI0, f_aB0, f_aMin, f_aMax, q_inL, q_inT, q_notInL, q_notInT, q_isB, q_isNotB, q_addI, q_addT, q_addL, q_int, q_int0, q_bool0, q_mulI, q_mulT, q_mulL, q_eqI, q_eqS, q_neI, q_neS, q_isN, q_notN, q_ixT, q_ixL, q_neg, q_lenT, q_lenL, q_repr, q_two, q_intB, q_tupT, q_tupL, q_slT, q_slL, q_unB, q_unI, q_unT, q_unL, q_unI1, q_unI2, q_unT1, q_unS1T, q_unS1L, q_un1, q_un2, q_un3, q_hd, q_rd, q_ow, q_ctrT, q_ctrI, q_ctrS, q_ctrS2, q_brdT, q_brd0, q_brd1, q_rowI, q_rowT, q_rowT1, q_rowL, q_at0, q_at1, q_at2, q_at3, w_AI_zipM, q_unTL, f_aSortR, sortRF, w_lenSet, w_ext, w_lc2, w_minD, w_AI_zip, q_unTT, w_asgPop, w_ownLst, w_revL, q_unL0, w_parO, w_AF_rep, w_sortSet, wipeE, List.getElem?_cons_zero, List.getElem?_cons_succ, List.set_cons_zero, List.set_cons_succ, if_true, Bool.false_eq_true, if_false, true_and, and_true, Lim, dkS_deck, List.length_cons, List.length_nil, Nat.reduceAdd, Nat.reduceLeDiff, Nat.zero_le, Nat.zero_add, Int.reduceLT, Int.reduceLE, Int.reducePow, Int.reduceNeg, eq_self, decide_true, Bool.not_true, Bool.not_false, q_neB, q_eqB, q_isiR, q_rtT, q_rtT1, q_rtL, q_rtS0, q_rtS1, q_rtI, q_rtA, viewE_cons, viewE_nil, viewS_own, viewS_dat, viewS_deck, flat_int, flat_bool, flat_str, List.cons_append, List.nil_append, b_all]
  refine ⟨⟨by omega, by omega⟩, ?_⟩
  rw [vec0 rfl]
  simp only [w_AE_var, w_AE_int, w_AE_bl, w_AE_str, w_AE_non, w_AE_op, w_AE_un, w_AA_nil, w_AA_cons, w_AE_tup, w_AE_lst, w_AE_cb, w_AE_call, w_AE_callD, w_AT_test, w_AT_b, w_AT_not, w_AT_and, w_AT_or, w_AT_yes, w_AE_ifx, w_AE_and, w_AE_or, w_AE_not, w_AO_none, w_AO_some, w_AI_tup, w_AI_lst, w_AI_rng, w_AI_rng2, w_AI_enum, w_AI_rev, w_AG_name, w_AGs_nil, w_AGs_cons, w_AG_tup, w_AF_ae, w_AF_lst, w_AF_lc, w_AF_list, w_AE_sl, w_AE_revT, w_AE_chain, w_AE_isi, w_AE_view, w_AT_view, w_AE_ownIx, w_AE_ownTup, w_AE_ownSl, w_AS_nop, w_AS_brk, w_AS_cnt, w_AS_seq, w_AS_set, w_AS_asg, w_AS_drop, w_AS_par, w_AS_par3, w_AS_ret, w_AS_retN, w_AS_ifS, w_AS_for, w_AS_while, w_AS_setOwn, w_AS_append, w_AS_setAt, w_AS_frz, w_AS_fgt, w_AS_never, w_AF_lstRg, w_AE_tupRg, w_AS_insert, w_AS_aug, w_AS_parB, w_AS_par3B, w_AS_parA, w_AS_tupA, w_AS_tupB, f_aAdd, f_aMul, f_aEq, f_aNe, f_aIsN, f_aNotN, f_aIx, f_aNeg, f_aLen, f_aRepr, f_aInt, f_aIn, f_aNotIn, f_aIsB, f_aIsNotB, f_aTup, f_aI, f_aI0, f_aB0, f_aMin, f_aMax, q_inL, q_inT, q_notInL, q_notInT, q_isB, q_isNotB, q_addI, q_addT, q_addL, q_int, q_int0, q_bool0, q_mulI, q_mulT, q_mulL, q_eqI, q_eqS, q_neI, q_neS, q_isN, q_notN, q_ixT, q_ixL, q_neg, q_lenT, q_lenL, q_repr, q_two, q_intB, q_tupT, q_tupL, q_slT, q_slL, q_unB, q_unI, q_unT, q_unL, q_unI1, q_unI2, q_unT1, q_unS1T, q_unS1L, q_un1, q_un2, q_un3, q_hd, q_rd, q_ow, q_ctrT, q_ctrI, q_ctrS, q_ctrS2, q_brdT, q_brd0, q_brd1, q_rowI, q_rowT, q_rowT1, q_rowL, q_at0, q_at1, q_at2, q_at3, w_AI_zipM, q_unTL, f_aSortR, sortRF, w_lenSet, w_ext, w_lc2, w_minD, w_AI_zip, q_unTT, w_asgPop, w_ownLst, w_revL, q_unL0, w_parO, w_AF_rep, w_sortSet, wipeE, List.getElem?_cons_zero, List.getElem?_cons_succ, List.set_cons_zero, List.set_cons_succ, if_true, Bool.false_eq_true, if_false, true_and, and_true, Lim, dkS_deck, List.length_cons, List.length_nil, Nat.reduceAdd, Nat.reduceLeDiff, Nat.zero_le, Nat.zero_add, Int.reduceLT, Int.reduceLE, Int.reducePow, Int.reduceNeg, eq_self, decide_true, Bool.not_true, Bool.not_false, q_neB, q_eqB, q_isiR, q_rtT, q_rtT1, q_rtL, q_rtS0, q_rtS1, q_rtI, q_rtA, viewE_cons, viewE_nil, viewS_own, viewS_dat, viewS_deck, flat_int, flat_bool, flat_str, List.cons_append, List.nil_append, b_all_1]
  refine ⟨_, ix_vec k00 k01, ?_⟩
  rw [set_vec (z := s0 k0 a) k00 k01 (by unfold s0; rw [if_pos rfl]; rfl) fun i hi => by unfold s0; rw [if_neg hi]]
  simp only [w_AE_var, w_AE_int, w_AE_bl, w_AE_str, w_AE_non, w_AE_op, w_AE_un, w_AA_nil, w_AA_cons, w_AE_tup, w_AE_lst, w_AE_cb, w_AE_call, w_AE_callD, w_AT_test, w_AT_b, w_AT_not, w_AT_and, w_AT_or, w_AT_yes, w_AE_ifx, w_AE_and, w_AE_or, w_AE_not, w_AO_none, w_AO_some, w_AI_tup, w_AI_lst, w_AI_rng, w_AI_rng2, w_AI_enum, w_AI_rev, w_AG_name, w_AGs_nil, w_AGs_cons, w_AG_tup, w_AF_ae, w_AF_lst, w_AF_lc, w_AF_list, w_AE_sl, w_AE_revT, w_AE_chain, w_AE_isi, w_AE_view, w_AT_view, w_AE_ownIx, w_AE_ownTup, w_AE_ownSl, w_AS_nop, w_AS_brk, w_AS_cnt, w_AS_seq, w_AS_set, w_AS_asg, w_AS_drop, w_AS_par, w_AS_par3, w_AS_ret, w_AS_retN, w_AS_ifS, w_AS_for, w_AS_while, w_AS_setOwn, w_AS_append, w_AS_setAt, w_AS_frz, w_AS_fgt, w_AS_never, w_AF_lstRg, w_AE_tupRg, w_AS_insert, w_AS_aug, w_AS_parB, w_AS_par3B, w_AS_parA, w_AS_tupA, w_AS_tupB, f_aAdd, f_aMul, f_aEq, f_aNe, f_aIsN, f_aNotN, f_aIx, f_aNeg, f_aLen, f_aRepr, f_aInt, f_aIn, f_aNotIn, f_aIsB, f_aIsNotB, f_aTup, f_aI, f_aI0, f_aB0, f_aMin, f_aMax, q_inL, q_inT, q_notInL, q_notInT, q_isB, q_isNotB, q_addI, q_addT, q_addL, q_int, q_int0, q_bool0, q_mulI, q_mulT, q_mulL, q_eqI, q_eqS, q_neI, q_neS, q_isN, q_notN, q_ixT, q_ixL, q_neg, q_lenT, q_lenL, q_repr, q_two, q_intB, q_tupT, q_tupL, q_slT, q_slL, q_unB, q_unI, q_unT, q_unL, q_unI1, q_unI2, q_unT1, q_unS1T, q_unS1L, q_un1, q_un2, q_un3, q_hd, q_rd, q_ow, q_ctrT, q_ctrI, q_ctrS, q_ctrS2, q_brdT, q_brd0, q_brd1, q_rowI, q_rowT, q_rowT1, q_rowL, q_at0, q_at1, q_at2, q_at3, w_AI_zipM, q_unTL, f_aSortR, sortRF, w_lenSet, w_ext, w_lc2, w_minD, w_AI_zip, q_unTT, w_asgPop, w_ownLst, w_revL, q_unL0, w_parO, w_AF_rep, w_sortSet, wipeE, List.getElem?_cons_zero, List.getElem?_cons_succ, List.set_cons_zero, List.set_cons_succ, if_true, Bool.false_eq_true, if_false, true_and, and_true, Lim, dkS_deck, List.length_cons, List.length_nil, Nat.reduceAdd, Nat.reduceLeDiff, Nat.zero_le, Nat.zero_add, Int.reduceLT, Int.reduceLE, Int.reducePow, Int.reduceNeg, eq_self, decide_true, Bool.not_true, Bool.not_false, q_neB, q_eqB, q_isiR, q_rtT, q_rtT1, q_rtL, q_rtS0, q_rtS1, q_rtI, q_rtA, viewE_cons, viewE_nil, viewS_own, viewS_dat, viewS_deck, flat_int, flat_bool, flat_str, List.cons_append, List.nil_append, b_all_2]
  refine ⟨⟨by omega, by omega⟩, fun i e s => ∃ (es : List (Int × Int)) (y6 y7 y8 y9 y10 : Sl), e = [.dat (boardD (m : Int) cs), .dat (.int k0), .dat (.int a), .dat (.int (N : Int)), .dat (.list (es.map pairD)), .own (vecL m (itA cs (s0 k0 a) i)), y6, y7, y8, y9, y10] ∧ s = t ∧ Rch m cs k0 (itA cs (s0 k0 a) i) es i, ⟨[(k0, a)], _, _, _, _, _, rfl, rfl, Rch.zero k00 k01 ha⟩, ?_, ?_⟩
  · rintro i d e s hd ⟨es, y6, y7, y8, y9, y10, rfl, rfl, R⟩
    obtain ⟨hi, rfl⟩ := rng0_get hd
    have i3 : i ≤ 3 := by omega
    have sm := R.small l8 i3
    have xN := itAll hok (s0All (m := m) (k := k0) ha) i
    simp only [w_AE_var, w_AE_int, w_AE_bl, w_AE_str, w_AE_non, w_AE_op, w_AE_un, w_AA_nil, w_AA_cons, w_AE_tup, w_AE_lst, w_AE_cb, w_AE_call, w_AE_callD, w_AT_test, w_AT_b, w_AT_not, w_AT_and, w_AT_or, w_AT_yes, w_AE_ifx, w_AE_and, w_AE_or, w_AE_not, w_AO_none, w_AO_some, w_AI_tup, w_AI_lst, w_AI_rng, w_AI_rng2, w_AI_enum, w_AI_rev, w_AG_name, w_AGs_nil, w_AGs_cons, w_AG_tup, w_AF_ae, w_AF_lst, w_AF_lc, w_AF_list, w_AE_sl, w_AE_revT, w_AE_chain, w_AE_isi, w_AE_view, w_AT_view, w_AE_ownIx, w_AE_ownTup, w_AE_ownSl, w_AS_nop, w_AS_brk, w_AS_cnt, w_AS_seq, w_AS_set, w_AS_asg, w_AS_drop, w_AS_par, w_AS_par3, w_AS_ret, w_AS_retN, w_AS_ifS, w_AS_for, w_AS_while, w_AS_setOwn, w_AS_append, w_AS_setAt, w_AS_frz, w_AS_fgt, w_AS_never, w_AF_lstRg, w_AE_tupRg, w_AS_insert, w_AS_aug, w_AS_parB, w_AS_par3B, w_AS_parA, w_AS_tupA, w_AS_tupB, f_aAdd, f_aMul, f_aEq, f_aNe, f_aIsN, f_aNotN, f_aIx, f_aNeg, f_aLen, f_aRepr, f_aInt, f_aIn, f_aNotIn, f_aIsB, f_aIsNotB, f_aTup, f_aI, f_aI0, f_aB0, f_aMin, f_aMax, q_inL, q_inT, q_notInL, q_notInT, q_isB, q_isNotB, q_addI, q_addT, q_addL, q_int, q_int0, q_bool0, q_mulI, q_mulT, q_mulL, q_eqI, q_eqS, q_neI, q_neS, q_isN, q_notN, q_ixT, q_ixL, q_neg, q_lenT, q_lenL, q_repr, q_two, q_intB, q_tupT, q_tupL, q_slT, q_slL, q_unB, q_unI, q_unT, q_unL, q_unI1, q_unI2, q_unT1, q_unS1T, q_unS1L, q_un1, q_un2, q_un3, q_hd, q_rd, q_ow, q_ctrT, q_ctrI, q_ctrS, q_ctrS2, q_brdT, q_brd0, q_brd1, q_rowI, q_rowT, q_rowT1, q_rowL, q_at0, q_at1, q_at2, q_at3, w_AI_zipM, q_unTL, f_aSortR, sortRF, w_lenSet, w_ext, w_lc2, w_minD, w_AI_zip, q_unTT, w_asgPop, w_ownLst, w_revL, q_unL0, w_parO, w_AF_rep, w_sortSet, wipeE, List.getElem?_cons_zero, List.getElem?_cons_succ, List.set_cons_zero, List.set_cons_succ, if_true, Bool.false_eq_true, if_false, true_and, and_true, Lim, dkS_deck, List.length_cons, List.length_nil, Nat.reduceAdd, Nat.reduceLeDiff, Nat.zero_le, Nat.zero_add, Int.reduceLT, Int.reduceLE, Int.reducePow, Int.reduceNeg, eq_self, decide_true, Bool.not_true, Bool.not_false, q_neB, q_eqB, q_isiR, q_rtT, q_rtT1, q_rtL, q_rtS0, q_rtS1, q_rtI, q_rtA, viewE_cons, viewE_nil, viewS_own, viewS_dat, viewS_deck, flat_int, flat_bool, flat_str, List.cons_append, List.nil_append, b_all_2b0]
    simp only [w_AE_var, w_AE_int, w_AE_bl, w_AE_str, w_AE_non, w_AE_op, w_AE_un, w_AA_nil, w_AA_cons, w_AE_tup, w_AE_lst, w_AE_cb, w_AE_call, w_AE_callD, w_AT_test, w_AT_b, w_AT_not, w_AT_and, w_AT_or, w_AT_yes, w_AE_ifx, w_AE_and, w_AE_or, w_AE_not, w_AO_none, w_AO_some, w_AI_tup, w_AI_lst, w_AI_rng, w_AI_rng2, w_AI_enum, w_AI_rev, w_AG_name, w_AGs_nil, w_AGs_cons, w_AG_tup, w_AF_ae, w_AF_lst, w_AF_lc, w_AF_list, w_AE_sl, w_AE_revT, w_AE_chain, w_AE_isi, w_AE_view, w_AT_view, w_AE_ownIx, w_AE_ownTup, w_AE_ownSl, w_AS_nop, w_AS_brk, w_AS_cnt, w_AS_seq, w_AS_set, w_AS_asg, w_AS_drop, w_AS_par, w_AS_par3, w_AS_ret, w_AS_retN, w_AS_ifS, w_AS_for, w_AS_while, w_AS_setOwn, w_AS_append, w_AS_setAt, w_AS_frz, w_AS_fgt, w_AS_never, w_AF_lstRg, w_AE_tupRg, w_AS_insert, w_AS_aug, w_AS_parB, w_AS_par3B, w_AS_parA, w_AS_tupA, w_AS_tupB, f_aAdd, f_aMul, f_aEq, f_aNe, f_aIsN, f_aNotN, f_aIx, f_aNeg, f_aLen, f_aRepr, f_aInt, f_aIn, f_aNotIn, f_aIsB, f_aIsNotB, f_aTup, f_aI, f_aI0, f_aB0, f_aMin, f_aMax, q_inL, q_inT, q_notInL, q_notInT, q_isB, q_isNotB, q_addI, q_addT, q_addL, q_int, q_int0, q_bool0, q_mulI, q_mulT, q_mulL, q_eqI, q_eqS, q_neI, q_neS, q_isN, q_notN, q_ixT, q_ixL, q_neg, q_lenT, q_lenL, q_repr, q_two, q_intB, q_tupT, q_tupL, q_slT, q_slL, q_unB, q_unI, q_unT, q_unL, q_unI1, q_unI2, q_unT1, q_unS1T, q_unS1L, q_un1, q_un2, q_un3, q_hd, q_rd, q_ow, q_ctrT, q_ctrI, q_ctrS, q_ctrS2, q_brdT, q_brd0, q_brd1, q_rowI, q_rowT, q_rowT1, q_rowL, q_at0, q_at1, q_at2, q_at3, w_AI_zipM, q_unTL, f_aSortR, sortRF, w_lenSet, w_ext, w_lc2, w_minD, w_AI_zip, q_unTT, w_asgPop, w_ownLst, w_revL, q_unL0, w_parO, w_AF_rep, w_sortSet, wipeE, List.getElem?_cons_zero, List.getElem?_cons_succ, List.set_cons_zero, List.set_cons_succ, if_true, Bool.false_eq_true, if_false, true_and, and_true, Lim, dkS_deck, List.length_cons, List.length_nil, Nat.reduceAdd, Nat.reduceLeDiff, Nat.zero_le, Nat.zero_add, Int.reduceLT, Int.reduceLE, Int.reducePow, Int.reduceNeg, eq_self, decide_true, Bool.not_true, Bool.not_false, q_neB, q_eqB, q_isiR, q_rtT, q_rtT1, q_rtL, q_rtS0, q_rtS1, q_rtI, q_rtA, viewE_cons, viewE_nil, viewS_own, viewS_dat, viewS_deck, flat_int, flat_bool, flat_str, List.cons_append, List.nil_append, b_all_2b1]
    refine ⟨fun q e s2 => ∃ (y8 y9 y10 : Sl), e = [.dat (boardD (m : Int) cs), .dat (.int k0), .dat (.int a), .dat (.int (N : Int)), .dat (.list (es.map pairD)), .own (vecL m (itA cs (s0 k0 a) i)), .dat (.int (i : Int)), .own ((nxt cs (es.take q)).map pairD), y8, y9, y10] ∧ s2 = s, ⟨_, _, _, rfl, rfl⟩, ?_, ?_⟩
    · rintro q d e s2 hd ⟨y8, y9, y10, rfl, rfl⟩
      rw [List.getElem?_map] at hd
      cases hq : es[q]? with
      | none => rw [hq] at hd; cases hd
      | some z =>
        rw [hq] at hd
        cases hd
        have hb : (nxt cs (es.take q)).length ≤ 1024 := Nat.le_trans (nxt_len (n := 8) fun e _ => Nat.le_trans cnt_le l8) (by rw [List.length_take]; omega)
        rw [show pairD z = .tuple [.int z.1, .int z.2] from rfl]
        simp only [w_AE_var, w_AE_int, w_AE_bl, w_AE_str, w_AE_non, w_AE_op, w_AE_un, w_AA_nil, w_AA_cons, w_AE_tup, w_AE_lst, w_AE_cb, w_AE_call, w_AE_callD, w_AT_test, w_AT_b, w_AT_not, w_AT_and, w_AT_or, w_AT_yes, w_AE_ifx, w_AE_and, w_AE_or, w_AE_not, w_AO_none, w_AO_some, w_AI_tup, w_AI_lst, w_AI_rng, w_AI_rng2, w_AI_enum, w_AI_rev, w_AG_name, w_AGs_nil, w_AGs_cons, w_AG_tup, w_AF_ae, w_AF_lst, w_AF_lc, w_AF_list, w_AE_sl, w_AE_revT, w_AE_chain, w_AE_isi, w_AE_view, w_AT_view, w_AE_ownIx, w_AE_ownTup, w_AE_ownSl, w_AS_nop, w_AS_brk, w_AS_cnt, w_AS_seq, w_AS_set, w_AS_asg, w_AS_drop, w_AS_par, w_AS_par3, w_AS_ret, w_AS_retN, w_AS_ifS, w_AS_for, w_AS_while, w_AS_setOwn, w_AS_append, w_AS_setAt, w_AS_frz, w_AS_fgt, w_AS_never, w_AF_lstRg, w_AE_tupRg, w_AS_insert, w_AS_aug, w_AS_parB, w_AS_par3B, w_AS_parA, w_AS_tupA, w_AS_tupB, f_aAdd, f_aMul, f_aEq, f_aNe, f_aIsN, f_aNotN, f_aIx, f_aNeg, f_aLen, f_aRepr, f_aInt, f_aIn, f_aNotIn, f_aIsB, f_aIsNotB, f_aTup, f_aI, f_aI0, f_aB0, f_aMin, f_aMax, q_inL, q_inT, q_notInL, q_notInT, q_isB, q_isNotB, q_addI, q_addT, q_addL, q_int, q_int0, q_bool0, q_mulI, q_mulT, q_mulL, q_eqI, q_eqS, q_neI, q_neS, q_isN, q_notN, q_ixT, q_ixL, q_neg, q_lenT, q_lenL, q_repr, q_two, q_intB, q_tupT, q_tupL, q_slT, q_slL, q_unB, q_unI, q_unT, q_unL, q_unI1, q_unI2, q_unT1, q_unS1T, q_unS1L, q_un1, q_un2, q_un3, q_hd, q_rd, q_ow, q_ctrT, q_ctrI, q_ctrS, q_ctrS2, q_brdT, q_brd0, q_brd1, q_rowI, q_rowT, q_rowT1, q_rowL, q_at0, q_at1, q_at2, q_at3, w_AI_zipM, q_unTL, f_aSortR, sortRF, w_lenSet, w_ext, w_lc2, w_minD, w_AI_zip, q_unTT, w_asgPop, w_ownLst, w_revL, q_unL0, w_parO, w_AF_rep, w_sortSet, wipeE, List.getElem?_cons_zero, List.getElem?_cons_succ, List.set_cons_zero, List.set_cons_succ, if_true, Bool.false_eq_true, if_false, true_and, and_true, Lim, dkS_deck, List.length_cons, List.length_nil, Nat.reduceAdd, Nat.reduceLeDiff, Nat.zero_le, Nat.zero_add, Int.reduceLT, Int.reduceLE, Int.reducePow, Int.reduceNeg, eq_self, decide_true, Bool.not_true, Bool.not_false, q_neB, q_eqB, q_isiR, q_rtT, q_rtT1, q_rtL, q_rtS0, q_rtS1, q_rtI, q_rtA, viewE_cons, viewE_nil, viewS_own, viewS_dat, viewS_deck, flat_int, flat_bool, flat_str, List.cons_append, List.nil_append, b_all_2b1b0]
        rw [take_next hq, nxt_app]
        refine ⟨fun r e s3 => ∃ (y10 : Sl), e = [.dat (boardD (m : Int) cs), .dat (.int k0), .dat (.int a), .dat (.int (N : Int)), .dat (.list (es.map pairD)), .own (vecL m (itA cs (s0 k0 a) i)), .dat (.int (i : Int)), .own ((nxt cs (es.take q) ++ nxt (cs.take r) [z]).map pairD), .dat (.int z.1), .dat (.int z.2), y10] ∧ s3 = s2, ⟨_, by rw [show nxt (cs.take 0) [z] = [] from rfl, List.append_nil], rfl⟩, ?_, ?_⟩
        · rintro r d e s3 hd ⟨y10, rfl, rfl⟩
          rw [List.getElem?_map] at hd
          cases hr : cs[r]? with
          | none => rw [hr] at hd; cases hd
          | some c =>
            rw [hr] at hd
            cases hd
            have cok := hok c (List.mem_of_getElem? hr)
            have hb2 : (nxt (cs.take r) [z]).length ≤ 1 * 8 := nxt_len (n := 8) fun e _ => Nat.le_trans cnt_le (by rw [List.length_take]; omega)
            have en : nxt (cs.take (r + 1)) [z] = nxt (cs.take r) [z] ++ (if c.s = z.1 then [(c.t, z.2 / c.g * c.e)] else []) := by
              rw [take_next hr]
              unfold nxt
              simp only [List.flatMap_cons, List.flatMap_nil, List.append_nil, List.filter_append, List.map_append, List.filter_cons, List.filter_nil]
              by_cases h : c.s = z.1
              · rw [if_pos (decide_eq_true h), if_pos h]
                rfl
              · rw [if_neg (by rw [decide_eq_true_iff]; exact h), if_neg h]
                rfl
            simp only [w_AE_var, w_AE_int, w_AE_bl, w_AE_str, w_AE_non, w_AE_op, w_AE_un, w_AA_nil, w_AA_cons, w_AE_tup, w_AE_lst, w_AE_cb, w_AE_call, w_AE_callD, w_AT_test, w_AT_b, w_AT_not, w_AT_and, w_AT_or, w_AT_yes, w_AE_ifx, w_AE_and, w_AE_or, w_AE_not, w_AO_none, w_AO_some, w_AI_tup, w_AI_lst, w_AI_rng, w_AI_rng2, w_AI_enum, w_AI_rev, w_AG_name, w_AGs_nil, w_AGs_cons, w_AG_tup, w_AF_ae, w_AF_lst, w_AF_lc, w_AF_list, w_AE_sl, w_AE_revT, w_AE_chain, w_AE_isi, w_AE_view, w_AT_view, w_AE_ownIx, w_AE_ownTup, w_AE_ownSl, w_AS_nop, w_AS_brk, w_AS_cnt, w_AS_seq, w_AS_set, w_AS_asg, w_AS_drop, w_AS_par, w_AS_par3, w_AS_ret, w_AS_retN, w_AS_ifS, w_AS_for, w_AS_while, w_AS_setOwn, w_AS_append, w_AS_setAt, w_AS_frz, w_AS_fgt, w_AS_never, w_AF_lstRg, w_AE_tupRg, w_AS_insert, w_AS_aug, w_AS_parB, w_AS_par3B, w_AS_parA, w_AS_tupA, w_AS_tupB, f_aAdd, f_aMul, f_aEq, f_aNe, f_aIsN, f_aNotN, f_aIx, f_aNeg, f_aLen, f_aRepr, f_aInt, f_aIn, f_aNotIn, f_aIsB, f_aIsNotB, f_aTup, f_aI, f_aI0, f_aB0, f_aMin, f_aMax, q_inL, q_inT, q_notInL, q_notInT, q_isB, q_isNotB, q_addI, q_addT, q_addL, q_int, q_int0, q_bool0, q_mulI, q_mulT, q_mulL, q_eqI, q_eqS, q_neI, q_neS, q_isN, q_notN, q_ixT, q_ixL, q_neg, q_lenT, q_lenL, q_repr, q_two, q_intB, q_tupT, q_tupL, q_slT, q_slL, q_unB, q_unI, q_unT, q_unL, q_unI1, q_unI2, q_unT1, q_unS1T, q_unS1L, q_un1, q_un2, q_un3, q_hd, q_rd, q_ow, q_ctrT, q_ctrI, q_ctrS, q_ctrS2, q_brdT, q_brd0, q_brd1, q_rowI, q_rowT, q_rowT1, q_rowL, q_at0, q_at1, q_at2, q_at3, w_AI_zipM, q_unTL, f_aSortR, sortRF, w_lenSet, w_ext, w_lc2, w_minD, w_AI_zip, q_unTT, w_asgPop, w_ownLst, w_revL, q_unL0, w_parO, w_AF_rep, w_sortSet, wipeE, List.getElem?_cons_zero, List.getElem?_cons_succ, List.set_cons_zero, List.set_cons_succ, if_true, Bool.false_eq_true, if_false, true_and, and_true, Lim, dkS_deck, List.length_cons, List.length_nil, Nat.reduceAdd, Nat.reduceLeDiff, Nat.zero_le, Nat.zero_add, Int.reduceLT, Int.reduceLE, Int.reducePow, Int.reduceNeg, eq_self, decide_true, Bool.not_true, Bool.not_false, q_neB, q_eqB, q_isiR, q_rtT, q_rtT1, q_rtL, q_rtS0, q_rtS1, q_rtI, q_rtA, viewE_cons, viewE_nil, viewS_own, viewS_dat, viewS_deck, flat_int, flat_bool, flat_str, List.cons_append, List.nil_append, b_all_2b1b0b0]
            rw [show c.d = .tuple [.int c.s, .int c.t, .int c.g, .int c.e] from rfl]
            try simp only [w_AE_var, w_AE_int, w_AE_bl, w_AE_str, w_AE_non, w_AE_op, w_AE_un, w_AA_nil, w_AA_cons, w_AE_tup, w_AE_lst, w_AE_cb, w_AE_call, w_AE_callD, w_AT_test, w_AT_b, w_AT_not, w_AT_and, w_AT_or, w_AT_yes, w_AE_ifx, w_AE_and, w_AE_or, w_AE_not, w_AO_none, w_AO_some, w_AI_tup, w_AI_lst, w_AI_rng, w_AI_rng2, w_AI_enum, w_AI_rev, w_AG_name, w_AGs_nil, w_AGs_cons, w_AG_tup, w_AF_ae, w_AF_lst, w_AF_lc, w_AF_list, w_AE_sl, w_AE_revT, w_AE_chain, w_AE_isi, w_AE_view, w_AT_view, w_AE_ownIx, w_AE_ownTup, w_AE_ownSl, w_AS_nop, w_AS_brk, w_AS_cnt, w_AS_seq, w_AS_set, w_AS_asg, w_AS_drop, w_AS_par, w_AS_par3, w_AS_ret, w_AS_retN, w_AS_ifS, w_AS_for, w_AS_while, w_AS_setOwn, w_AS_append, w_AS_setAt, w_AS_frz, w_AS_fgt, w_AS_never, w_AF_lstRg, w_AE_tupRg, w_AS_insert, w_AS_aug, w_AS_parB, w_AS_par3B, w_AS_parA, w_AS_tupA, w_AS_tupB, f_aAdd, f_aMul, f_aEq, f_aNe, f_aIsN, f_aNotN, f_aIx, f_aNeg, f_aLen, f_aRepr, f_aInt, f_aIn, f_aNotIn, f_aIsB, f_aIsNotB, f_aTup, f_aI, f_aI0, f_aB0, f_aMin, f_aMax, q_inL, q_inT, q_notInL, q_notInT, q_isB, q_isNotB, q_addI, q_addT, q_addL, q_int, q_int0, q_bool0, q_mulI, q_mulT, q_mulL, q_eqI, q_eqS, q_neI, q_neS, q_isN, q_notN, q_ixT, q_ixL, q_neg, q_lenT, q_lenL, q_repr, q_two, q_intB, q_tupT, q_tupL, q_slT, q_slL, q_unB, q_unI, q_unT, q_unL, q_unI1, q_unI2, q_unT1, q_unS1T, q_unS1L, q_un1, q_un2, q_un3, q_hd, q_rd, q_ow, q_ctrT, q_ctrI, q_ctrS, q_ctrS2, q_brdT, q_brd0, q_brd1, q_rowI, q_rowT, q_rowT1, q_rowL, q_at0, q_at1, q_at2, q_at3, w_AI_zipM, q_unTL, f_aSortR, sortRF, w_lenSet, w_ext, w_lc2, w_minD, w_AI_zip, q_unTT, w_asgPop, w_ownLst, w_revL, q_unL0, w_parO, w_AF_rep, w_sortSet, wipeE, List.getElem?_cons_zero, List.getElem?_cons_succ, List.set_cons_zero, List.set_cons_succ, if_true, Bool.false_eq_true, if_false, true_and, and_true, Lim, dkS_deck, List.length_cons, List.length_nil, Nat.reduceAdd, Nat.reduceLeDiff, Nat.zero_le, Nat.zero_add, Int.reduceLT, Int.reduceLE, Int.reducePow, Int.reduceNeg, eq_self, decide_true, Bool.not_true, Bool.not_false, q_neB, q_eqB, q_isiR, q_rtT, q_rtT1, q_rtL, q_rtS0, q_rtS1, q_rtI, q_rtA, viewE_cons, viewE_nil, viewS_own, viewS_dat, viewS_deck, flat_int, flat_bool, flat_str, List.cons_append, List.nil_append]
            rw [en]
            by_cases h : c.s = z.1
            · rw [decide_eq_true h, if_pos h]
              simp only [w_AE_var, w_AE_int, w_AE_bl, w_AE_str, w_AE_non, w_AE_op, w_AE_un, w_AA_nil, w_AA_cons, w_AE_tup, w_AE_lst, w_AE_cb, w_AE_call, w_AE_callD, w_AT_test, w_AT_b, w_AT_not, w_AT_and, w_AT_or, w_AT_yes, w_AE_ifx, w_AE_and, w_AE_or, w_AE_not, w_AO_none, w_AO_some, w_AI_tup, w_AI_lst, w_AI_rng, w_AI_rng2, w_AI_enum, w_AI_rev, w_AG_name, w_AGs_nil, w_AGs_cons, w_AG_tup, w_AF_ae, w_AF_lst, w_AF_lc, w_AF_list, w_AE_sl, w_AE_revT, w_AE_chain, w_AE_isi, w_AE_view, w_AT_view, w_AE_ownIx, w_AE_ownTup, w_AE_ownSl, w_AS_nop, w_AS_brk, w_AS_cnt, w_AS_seq, w_AS_set, w_AS_asg, w_AS_drop, w_AS_par, w_AS_par3, w_AS_ret, w_AS_retN, w_AS_ifS, w_AS_for, w_AS_while, w_AS_setOwn, w_AS_append, w_AS_setAt, w_AS_frz, w_AS_fgt, w_AS_never, w_AF_lstRg, w_AE_tupRg, w_AS_insert, w_AS_aug, w_AS_parB, w_AS_par3B, w_AS_parA, w_AS_tupA, w_AS_tupB, f_aAdd, f_aMul, f_aEq, f_aNe, f_aIsN, f_aNotN, f_aIx, f_aNeg, f_aLen, f_aRepr, f_aInt, f_aIn, f_aNotIn, f_aIsB, f_aIsNotB, f_aTup, f_aI, f_aI0, f_aB0, f_aMin, f_aMax, q_inL, q_inT, q_notInL, q_notInT, q_isB, q_isNotB, q_addI, q_addT, q_addL, q_int, q_int0, q_bool0, q_mulI, q_mulT, q_mulL, q_eqI, q_eqS, q_neI, q_neS, q_isN, q_notN, q_ixT, q_ixL, q_neg, q_lenT, q_lenL, q_repr, q_two, q_intB, q_tupT, q_tupL, q_slT, q_slL, q_unB, q_unI, q_unT, q_unL, q_unI1, q_unI2, q_unT1, q_unS1T, q_unS1L, q_un1, q_un2, q_un3, q_hd, q_rd, q_ow, q_ctrT, q_ctrI, q_ctrS, q_ctrS2, q_brdT, q_brd0, q_brd1, q_rowI, q_rowT, q_rowT1, q_rowL, q_at0, q_at1, q_at2, q_at3, w_AI_zipM, q_unTL, f_aSortR, sortRF, w_lenSet, w_ext, w_lc2, w_minD, w_AI_zip, q_unTT, w_asgPop, w_ownLst, w_revL, q_unL0, w_parO, w_AF_rep, w_sortSet, wipeE, List.getElem?_cons_zero, List.getElem?_cons_succ, List.set_cons_zero, List.set_cons_succ, if_true, Bool.false_eq_true, if_false, true_and, and_true, Lim, dkS_deck, List.length_cons, List.length_nil, Nat.reduceAdd, Nat.reduceLeDiff, Nat.zero_le, Nat.zero_add, Int.reduceLT, Int.reduceLE, Int.reducePow, Int.reduceNeg, eq_self, decide_true, Bool.not_true, Bool.not_false, q_neB, q_eqB, q_isiR, q_rtT, q_rtT1, q_rtL, q_rtS0, q_rtS1, q_rtI, q_rtA, viewE_cons, viewE_nil, viewS_own, viewS_dat, viewS_deck, flat_int, flat_bool, flat_str, List.cons_append, List.nil_append, p_lchanged, w_pP]
              rw [← List.append_assoc, List.map_append (l₂ := [(c.t, z.2 / c.g * c.e)])]
              exact ⟨by rw [List.length_map, List.length_append]; omega, _, ⟨(m : Int), c, z.2, rfl, cok, rfl⟩, _, rfl⟩
            · rw [decide_eq_false h, if_neg h, List.append_nil]
              simp only [w_AE_var, w_AE_int, w_AE_bl, w_AE_str, w_AE_non, w_AE_op, w_AE_un, w_AA_nil, w_AA_cons, w_AE_tup, w_AE_lst, w_AE_cb, w_AE_call, w_AE_callD, w_AT_test, w_AT_b, w_AT_not, w_AT_and, w_AT_or, w_AT_yes, w_AE_ifx, w_AE_and, w_AE_or, w_AE_not, w_AO_none, w_AO_some, w_AI_tup, w_AI_lst, w_AI_rng, w_AI_rng2, w_AI_enum, w_AI_rev, w_AG_name, w_AGs_nil, w_AGs_cons, w_AG_tup, w_AF_ae, w_AF_lst, w_AF_lc, w_AF_list, w_AE_sl, w_AE_revT, w_AE_chain, w_AE_isi, w_AE_view, w_AT_view, w_AE_ownIx, w_AE_ownTup, w_AE_ownSl, w_AS_nop, w_AS_brk, w_AS_cnt, w_AS_seq, w_AS_set, w_AS_asg, w_AS_drop, w_AS_par, w_AS_par3, w_AS_ret, w_AS_retN, w_AS_ifS, w_AS_for, w_AS_while, w_AS_setOwn, w_AS_append, w_AS_setAt, w_AS_frz, w_AS_fgt, w_AS_never, w_AF_lstRg, w_AE_tupRg, w_AS_insert, w_AS_aug, w_AS_parB, w_AS_par3B, w_AS_parA, w_AS_tupA, w_AS_tupB, f_aAdd, f_aMul, f_aEq, f_aNe, f_aIsN, f_aNotN, f_aIx, f_aNeg, f_aLen, f_aRepr, f_aInt, f_aIn, f_aNotIn, f_aIsB, f_aIsNotB, f_aTup, f_aI, f_aI0, f_aB0, f_aMin, f_aMax, q_inL, q_inT, q_notInL, q_notInT, q_isB, q_isNotB, q_addI, q_addT, q_addL, q_int, q_int0, q_bool0, q_mulI, q_mulT, q_mulL, q_eqI, q_eqS, q_neI, q_neS, q_isN, q_notN, q_ixT, q_ixL, q_neg, q_lenT, q_lenL, q_repr, q_two, q_intB, q_tupT, q_tupL, q_slT, q_slL, q_unB, q_unI, q_unT, q_unL, q_unI1, q_unI2, q_unT1, q_unS1T, q_unS1L, q_un1, q_un2, q_un3, q_hd, q_rd, q_ow, q_ctrT, q_ctrI, q_ctrS, q_ctrS2, q_brdT, q_brd0, q_brd1, q_rowI, q_rowT, q_rowT1, q_rowL, q_at0, q_at1, q_at2, q_at3, w_AI_zipM, q_unTL, f_aSortR, sortRF, w_lenSet, w_ext, w_lc2, w_minD, w_AI_zip, q_unTT, w_asgPop, w_ownLst, w_revL, q_unL0, w_parO, w_AF_rep, w_sortSet, wipeE, List.getElem?_cons_zero, List.getElem?_cons_succ, List.set_cons_zero, List.set_cons_succ, if_true, Bool.false_eq_true, if_false, true_and, and_true, Lim, dkS_deck, List.length_cons, List.length_nil, Nat.reduceAdd, Nat.reduceLeDiff, Nat.zero_le, Nat.zero_add, Int.reduceLT, Int.reduceLE, Int.reducePow, Int.reduceNeg, eq_self, decide_true, Bool.not_true, Bool.not_false, q_neB, q_eqB, q_isiR, q_rtT, q_rtT1, q_rtL, q_rtS0, q_rtS1, q_rtI, q_rtA, viewE_cons, viewE_nil, viewS_own, viewS_dat, viewS_deck, flat_int, flat_bool, flat_str, List.cons_append, List.nil_append]
              exact ⟨_, rfl⟩
        · rintro e s3 ⟨y10, rfl, rfl⟩
          rw [List.length_map, List.take_length]
          exact ⟨_, _, _, rfl, rfl⟩
    · rintro e s2 ⟨y8, y9, y10, rfl, rfl⟩
      rw [List.length_map, List.take_length]
      obtain ⟨b1, _, _⟩ := R.bound l8 i3
      have lo : ∀ e ∈ nxt cs es, 0 ≤ e.1 ∧ e.1 < (m : Int) ∧ 0 ≤ e.2 := fun e he => by
        obtain ⟨d, hd, c, hc, h, rfl⟩ := mem_nxt.mp he
        have co := hok c hc
        have := co.g0; have := co.e0
        exact ⟨co.t0, co.t1, Int.mul_nonneg (Int.ediv_nonneg (R.lo d hd).2.2.1 (by omega)) (by omega)⟩
      simp only [w_AE_var, w_AE_int, w_AE_bl, w_AE_str, w_AE_non, w_AE_op, w_AE_un, w_AA_nil, w_AA_cons, w_AE_tup, w_AE_lst, w_AE_cb, w_AE_call, w_AE_callD, w_AT_test, w_AT_b, w_AT_not, w_AT_and, w_AT_or, w_AT_yes, w_AE_ifx, w_AE_and, w_AE_or, w_AE_not, w_AO_none, w_AO_some, w_AI_tup, w_AI_lst, w_AI_rng, w_AI_rng2, w_AI_enum, w_AI_rev, w_AG_name, w_AGs_nil, w_AGs_cons, w_AG_tup, w_AF_ae, w_AF_lst, w_AF_lc, w_AF_list, w_AE_sl, w_AE_revT, w_AE_chain, w_AE_isi, w_AE_view, w_AT_view, w_AE_ownIx, w_AE_ownTup, w_AE_ownSl, w_AS_nop, w_AS_brk, w_AS_cnt, w_AS_seq, w_AS_set, w_AS_asg, w_AS_drop, w_AS_par, w_AS_par3, w_AS_ret, w_AS_retN, w_AS_ifS, w_AS_for, w_AS_while, w_AS_setOwn, w_AS_append, w_AS_setAt, w_AS_frz, w_AS_fgt, w_AS_never, w_AF_lstRg, w_AE_tupRg, w_AS_insert, w_AS_aug, w_AS_parB, w_AS_par3B, w_AS_parA, w_AS_tupA, w_AS_tupB, f_aAdd, f_aMul, f_aEq, f_aNe, f_aIsN, f_aNotN, f_aIx, f_aNeg, f_aLen, f_aRepr, f_aInt, f_aIn, f_aNotIn, f_aIsB, f_aIsNotB, f_aTup, f_aI, f_aI0, f_aB0, f_aMin, f_aMax, q_inL, q_inT, q_notInL, q_notInT, q_isB, q_isNotB, q_addI, q_addT, q_addL, q_int, q_int0, q_bool0, q_mulI, q_mulT, q_mulL, q_eqI, q_eqS, q_neI, q_neS, q_isN, q_notN, q_ixT, q_ixL, q_neg, q_lenT, q_lenL, q_repr, q_two, q_intB, q_tupT, q_tupL, q_slT, q_slL, q_unB, q_unI, q_unT, q_unL, q_unI1, q_unI2, q_unT1, q_unS1T, q_unS1L, q_un1, q_un2, q_un3, q_hd, q_rd, q_ow, q_ctrT, q_ctrI, q_ctrS, q_ctrS2, q_brdT, q_brd0, q_brd1, q_rowI, q_rowT, q_rowT1, q_rowL, q_at0, q_at1, q_at2, q_at3, w_AI_zipM, q_unTL, f_aSortR, sortRF, w_lenSet, w_ext, w_lc2, w_minD, w_AI_zip, q_unTT, w_asgPop, w_ownLst, w_revL, q_unL0, w_parO, w_AF_rep, w_sortSet, wipeE, List.getElem?_cons_zero, List.getElem?_cons_succ, List.set_cons_zero, List.set_cons_succ, if_true, Bool.false_eq_true, if_false, true_and, and_true, Lim, dkS_deck, List.length_cons, List.length_nil, Nat.reduceAdd, Nat.reduceLeDiff, Nat.zero_le, Nat.zero_add, Int.reduceLT, Int.reduceLE, Int.reducePow, Int.reduceNeg, eq_self, decide_true, Bool.not_true, Bool.not_false, q_neB, q_eqB, q_isiR, q_rtT, q_rtT1, q_rtL, q_rtS0, q_rtS1, q_rtI, q_rtA, viewE_cons, viewE_nil, viewS_own, viewS_dat, viewS_deck, flat_int, flat_bool, flat_str, List.cons_append, List.nil_append, b_all_2b2]
      refine ⟨fun q e s3 => ∃ (y8 y9 y10 : Sl), e = [.dat (boardD (m : Int) cs), .dat (.int k0), .dat (.int a), .dat (.int (N : Int)), .dat (.list (es.map pairD)), .own (vecL m (foldM ((nxt cs es).take q) (itA cs (s0 k0 a) i))), .dat (.int (i : Int)), .dat (.list ((nxt cs es).map pairD)), y8, y9, y10] ∧ s3 = s2 ∧ AllN m (foldM ((nxt cs es).take q) (itA cs (s0 k0 a) i)), ⟨_, _, _, rfl, rfl, xN⟩, ?_, ?_⟩
      · rintro q d e s3 hd ⟨y8, y9, y10, rfl, rfl, hy⟩
        rw [List.getElem?_map] at hd
        cases hq : (nxt cs es)[q]? with
        | none => rw [hq] at hd; cases hd
        | some z =>
          rw [hq] at hd
          cases hd
          obtain ⟨z0, z1, z2⟩ := lo z (List.mem_of_getElem? hq)
          have en : foldM ((nxt cs es).take (q + 1)) (itA cs (s0 k0 a) i) = up1 z (foldM ((nxt cs es).take q) (itA cs (s0 k0 a) i)) := by unfold foldM; rw [take_next hq, List.foldl_append]; rfl
          rw [show pairD z = .tuple [.int z.1, .int z.2] from rfl]
          try simp only [w_AE_var, w_AE_int, w_AE_bl, w_AE_str, w_AE_non, w_AE_op, w_AE_un, w_AA_nil, w_AA_cons, w_AE_tup, w_AE_lst, w_AE_cb, w_AE_call, w_AE_callD, w_AT_test, w_AT_b, w_AT_not, w_AT_and, w_AT_or, w_AT_yes, w_AE_ifx, w_AE_and, w_AE_or, w_AE_not, w_AO_none, w_AO_some, w_AI_tup, w_AI_lst, w_AI_rng, w_AI_rng2, w_AI_enum, w_AI_rev, w_AG_name, w_AGs_nil, w_AGs_cons, w_AG_tup, w_AF_ae, w_AF_lst, w_AF_lc, w_AF_list, w_AE_sl, w_AE_revT, w_AE_chain, w_AE_isi, w_AE_view, w_AT_view, w_AE_ownIx, w_AE_ownTup, w_AE_ownSl, w_AS_nop, w_AS_brk, w_AS_cnt, w_AS_seq, w_AS_set, w_AS_asg, w_AS_drop, w_AS_par, w_AS_par3, w_AS_ret, w_AS_retN, w_AS_ifS, w_AS_for, w_AS_while, w_AS_setOwn, w_AS_append, w_AS_setAt, w_AS_frz, w_AS_fgt, w_AS_never, w_AF_lstRg, w_AE_tupRg, w_AS_insert, w_AS_aug, w_AS_parB, w_AS_par3B, w_AS_parA, w_AS_tupA, w_AS_tupB, f_aAdd, f_aMul, f_aEq, f_aNe, f_aIsN, f_aNotN, f_aIx, f_aNeg, f_aLen, f_aRepr, f_aInt, f_aIn, f_aNotIn, f_aIsB, f_aIsNotB, f_aTup, f_aI, f_aI0, f_aB0, f_aMin, f_aMax, q_inL, q_inT, q_notInL, q_notInT, q_isB, q_isNotB, q_addI, q_addT, q_addL, q_int, q_int0, q_bool0, q_mulI, q_mulT, q_mulL, q_eqI, q_eqS, q_neI, q_neS, q_isN, q_notN, q_ixT, q_ixL, q_neg, q_lenT, q_lenL, q_repr, q_two, q_intB, q_tupT, q_tupL, q_slT, q_slL, q_unB, q_unI, q_unT, q_unL, q_unI1, q_unI2, q_unT1, q_unS1T, q_unS1L, q_un1, q_un2, q_un3, q_hd, q_rd, q_ow, q_ctrT, q_ctrI, q_ctrS, q_ctrS2, q_brdT, q_brd0, q_brd1, q_rowI, q_rowT, q_rowT1, q_rowL, q_at0, q_at1, q_at2, q_at3, w_AI_zipM, q_unTL, f_aSortR, sortRF, w_lenSet, w_ext, w_lc2, w_minD, w_AI_zip, q_unTT, w_asgPop, w_ownLst, w_revL, q_unL0, w_parO, w_AF_rep, w_sortSet, wipeE, List.getElem?_cons_zero, List.getElem?_cons_succ, List.set_cons_zero, List.set_cons_succ, if_true, Bool.false_eq_true, if_false, true_and, and_true, Lim, dkS_deck, List.length_cons, List.length_nil, Nat.reduceAdd, Nat.reduceLeDiff, Nat.zero_le, Nat.zero_add, Int.reduceLT, Int.reduceLE, Int.reducePow, Int.reduceNeg, eq_self, decide_true, Bool.not_true, Bool.not_false, q_neB, q_eqB, q_isiR, q_rtT, q_rtT1, q_rtL, q_rtS0, q_rtS1, q_rtI, q_rtA, viewE_cons, viewE_nil, viewS_own, viewS_dat, viewS_deck, flat_int, flat_bool, flat_str, List.cons_append, List.nil_append]
          rw [en]
          generalize foldM ((nxt cs es).take q) (itA cs (s0 k0 a) i) = y at hy ⊢
          obtain ⟨u, hu, u0⟩ := hy z.1 z0 z1
          refine atW_of (at_vec z0 z1) ?_
          rw [hu, show numD (some u) = .int u from rfl]
          simp only [w_AE_var, w_AE_int, w_AE_bl, w_AE_str, w_AE_non, w_AE_op, w_AE_un, w_AA_nil, w_AA_cons, w_AE_tup, w_AE_lst, w_AE_cb, w_AE_call, w_AE_callD, w_AT_test, w_AT_b, w_AT_not, w_AT_and, w_AT_or, w_AT_yes, w_AE_ifx, w_AE_and, w_AE_or, w_AE_not, w_AO_none, w_AO_some, w_AI_tup, w_AI_lst, w_AI_rng, w_AI_rng2, w_AI_enum, w_AI_rev, w_AG_name, w_AGs_nil, w_AGs_cons, w_AG_tup, w_AF_ae, w_AF_lst, w_AF_lc, w_AF_list, w_AE_sl, w_AE_revT, w_AE_chain, w_AE_isi, w_AE_view, w_AT_view, w_AE_ownIx, w_AE_ownTup, w_AE_ownSl, w_AS_nop, w_AS_brk, w_AS_cnt, w_AS_seq, w_AS_set, w_AS_asg, w_AS_drop, w_AS_par, w_AS_par3, w_AS_ret, w_AS_retN, w_AS_ifS, w_AS_for, w_AS_while, w_AS_setOwn, w_AS_append, w_AS_setAt, w_AS_frz, w_AS_fgt, w_AS_never, w_AF_lstRg, w_AE_tupRg, w_AS_insert, w_AS_aug, w_AS_parB, w_AS_par3B, w_AS_parA, w_AS_tupA, w_AS_tupB, f_aAdd, f_aMul, f_aEq, f_aNe, f_aIsN, f_aNotN, f_aIx, f_aNeg, f_aLen, f_aRepr, f_aInt, f_aIn, f_aNotIn, f_aIsB, f_aIsNotB, f_aTup, f_aI, f_aI0, f_aB0, f_aMin, f_aMax, q_inL, q_inT, q_notInL, q_notInT, q_isB, q_isNotB, q_addI, q_addT, q_addL, q_int, q_int0, q_bool0, q_mulI, q_mulT, q_mulL, q_eqI, q_eqS, q_neI, q_neS, q_isN, q_notN, q_ixT, q_ixL, q_neg, q_lenT, q_lenL, q_repr, q_two, q_intB, q_tupT, q_tupL, q_slT, q_slL, q_unB, q_unI, q_unT, q_unL, q_unI1, q_unI2, q_unT1, q_unS1T, q_unS1L, q_un1, q_un2, q_un3, q_hd, q_rd, q_ow, q_ctrT, q_ctrI, q_ctrS, q_ctrS2, q_brdT, q_brd0, q_brd1, q_rowI, q_rowT, q_rowT1, q_rowL, q_at0, q_at1, q_at2, q_at3, w_AI_zipM, q_unTL, f_aSortR, sortRF, w_lenSet, w_ext, w_lc2, w_minD, w_AI_zip, q_unTT, w_asgPop, w_ownLst, w_revL, q_unL0, w_parO, w_AF_rep, w_sortSet, wipeE, List.getElem?_cons_zero, List.getElem?_cons_succ, List.set_cons_zero, List.set_cons_succ, if_true, Bool.false_eq_true, if_false, true_and, and_true, Lim, dkS_deck, List.length_cons, List.length_nil, Nat.reduceAdd, Nat.reduceLeDiff, Nat.zero_le, Nat.zero_add, Int.reduceLT, Int.reduceLE, Int.reducePow, Int.reduceNeg, eq_self, decide_true, Bool.not_true, Bool.not_false, q_neB, q_eqB, q_isiR, q_rtT, q_rtT1, q_rtL, q_rtS0, q_rtS1, q_rtI, q_rtA, viewE_cons, viewE_nil, viewS_own, viewS_dat, viewS_deck, flat_int, flat_bool, flat_str, List.cons_append, List.nil_append]
          refine ⟨_, ix_vec z0 z1, ?_⟩
          rw [set_vec (z := up1 z y) z0 z1 (by unfold up1; rw [if_pos rfl, hu]; simp only [nmax, numD]) fun i hi => by unfold up1; rw [if_neg hi]]
          exact ⟨_, _, _, rfl, up1All z2 hy⟩
      · rintro e s3 ⟨y8, y9, y10, rfl, rfl, hy⟩
        rw [List.length_map, List.take_length, R.found hok]
        simp only [w_AE_var, w_AE_int, w_AE_bl, w_AE_str, w_AE_non, w_AE_op, w_AE_un, w_AA_nil, w_AA_cons, w_AE_tup, w_AE_lst, w_AE_cb, w_AE_call, w_AE_callD, w_AT_test, w_AT_b, w_AT_not, w_AT_and, w_AT_or, w_AT_yes, w_AE_ifx, w_AE_and, w_AE_or, w_AE_not, w_AO_none, w_AO_some, w_AI_tup, w_AI_lst, w_AI_rng, w_AI_rng2, w_AI_enum, w_AI_rev, w_AG_name, w_AGs_nil, w_AGs_cons, w_AG_tup, w_AF_ae, w_AF_lst, w_AF_lc, w_AF_list, w_AE_sl, w_AE_revT, w_AE_chain, w_AE_isi, w_AE_view, w_AT_view, w_AE_ownIx, w_AE_ownTup, w_AE_ownSl, w_AS_nop, w_AS_brk, w_AS_cnt, w_AS_seq, w_AS_set, w_AS_asg, w_AS_drop, w_AS_par, w_AS_par3, w_AS_ret, w_AS_retN, w_AS_ifS, w_AS_for, w_AS_while, w_AS_setOwn, w_AS_append, w_AS_setAt, w_AS_frz, w_AS_fgt, w_AS_never, w_AF_lstRg, w_AE_tupRg, w_AS_insert, w_AS_aug, w_AS_parB, w_AS_par3B, w_AS_parA, w_AS_tupA, w_AS_tupB, f_aAdd, f_aMul, f_aEq, f_aNe, f_aIsN, f_aNotN, f_aIx, f_aNeg, f_aLen, f_aRepr, f_aInt, f_aIn, f_aNotIn, f_aIsB, f_aIsNotB, f_aTup, f_aI, f_aI0, f_aB0, f_aMin, f_aMax, q_inL, q_inT, q_notInL, q_notInT, q_isB, q_isNotB, q_addI, q_addT, q_addL, q_int, q_int0, q_bool0, q_mulI, q_mulT, q_mulL, q_eqI, q_eqS, q_neI, q_neS, q_isN, q_notN, q_ixT, q_ixL, q_neg, q_lenT, q_lenL, q_repr, q_two, q_intB, q_tupT, q_tupL, q_slT, q_slL, q_unB, q_unI, q_unT, q_unL, q_unI1, q_unI2, q_unT1, q_unS1T, q_unS1L, q_un1, q_un2, q_un3, q_hd, q_rd, q_ow, q_ctrT, q_ctrI, q_ctrS, q_ctrS2, q_brdT, q_brd0, q_brd1, q_rowI, q_rowT, q_rowT1, q_rowL, q_at0, q_at1, q_at2, q_at3, w_AI_zipM, q_unTL, f_aSortR, sortRF, w_lenSet, w_ext, w_lc2, w_minD, w_AI_zip, q_unTT, w_asgPop, w_ownLst, w_revL, q_unL0, w_parO, w_AF_rep, w_sortSet, wipeE, List.getElem?_cons_zero, List.getElem?_cons_succ, List.set_cons_zero, List.set_cons_succ, if_true, Bool.false_eq_true, if_false, true_and, and_true, Lim, dkS_deck, List.length_cons, List.length_nil, Nat.reduceAdd, Nat.reduceLeDiff, Nat.zero_le, Nat.zero_add, Int.reduceLT, Int.reduceLE, Int.reducePow, Int.reduceNeg, eq_self, decide_true, Bool.not_true, Bool.not_false, q_neB, q_eqB, q_isiR, q_rtT, q_rtT1, q_rtL, q_rtS0, q_rtS1, q_rtI, q_rtA, viewE_cons, viewE_nil, viewS_own, viewS_dat, viewS_deck, flat_int, flat_bool, flat_str, List.cons_append, List.nil_append, b_all_2b3]
        obtain ⟨fs, f1, f2, f3⟩ := ss2 (nxt cs es)
        refine ⟨(nxt cs es).map rw2, by rw [pair_rows], fun r hr => ?_, by rw [List.length_map]; omega, ?_⟩
        · obtain ⟨e, _, rfl⟩ := List.mem_map.mp hr
          exact fun z => nomatch z
        · rw [f1, ← pair_rows]
          exact ⟨fs, _, _, _, _, _, rfl, R.step hok l8 i3 f2 f3⟩
  · rintro e s ⟨es, y6, y7, y8, y9, y10, rfl, rfl, R⟩
    rw [rngD_length, show ((N : Int) - 0).toNat = N by omega]
    simp only [w_AE_var, w_AE_int, w_AE_bl, w_AE_str, w_AE_non, w_AE_op, w_AE_un, w_AA_nil, w_AA_cons, w_AE_tup, w_AE_lst, w_AE_cb, w_AE_call, w_AE_callD, w_AT_test, w_AT_b, w_AT_not, w_AT_and, w_AT_or, w_AT_yes, w_AE_ifx, w_AE_and, w_AE_or, w_AE_not, w_AO_none, w_AO_some, w_AI_tup, w_AI_lst, w_AI_rng, w_AI_rng2, w_AI_enum, w_AI_rev, w_AG_name, w_AGs_nil, w_AGs_cons, w_AG_tup, w_AF_ae, w_AF_lst, w_AF_lc, w_AF_list, w_AE_sl, w_AE_revT, w_AE_chain, w_AE_isi, w_AE_view, w_AT_view, w_AE_ownIx, w_AE_ownTup, w_AE_ownSl, w_AS_nop, w_AS_brk, w_AS_cnt, w_AS_seq, w_AS_set, w_AS_asg, w_AS_drop, w_AS_par, w_AS_par3, w_AS_ret, w_AS_retN, w_AS_ifS, w_AS_for, w_AS_while, w_AS_setOwn, w_AS_append, w_AS_setAt, w_AS_frz, w_AS_fgt, w_AS_never, w_AF_lstRg, w_AE_tupRg, w_AS_insert, w_AS_aug, w_AS_parB, w_AS_par3B, w_AS_parA, w_AS_tupA, w_AS_tupB, f_aAdd, f_aMul, f_aEq, f_aNe, f_aIsN, f_aNotN, f_aIx, f_aNeg, f_aLen, f_aRepr, f_aInt, f_aIn, f_aNotIn, f_aIsB, f_aIsNotB, f_aTup, f_aI, f_aI0, f_aB0, f_aMin, f_aMax, q_inL, q_inT, q_notInL, q_notInT, q_isB, q_isNotB, q_addI, q_addT, q_addL, q_int, q_int0, q_bool0, q_mulI, q_mulT, q_mulL, q_eqI, q_eqS, q_neI, q_neS, q_isN, q_notN, q_ixT, q_ixL, q_neg, q_lenT, q_lenL, q_repr, q_two, q_intB, q_tupT, q_tupL, q_slT, q_slL, q_unB, q_unI, q_unT, q_unL, q_unI1, q_unI2, q_unT1, q_unS1T, q_unS1L, q_un1, q_un2, q_un3, q_hd, q_rd, q_ow, q_ctrT, q_ctrI, q_ctrS, q_ctrS2, q_brdT, q_brd0, q_brd1, q_rowI, q_rowT, q_rowT1, q_rowL, q_at0, q_at1, q_at2, q_at3, w_AI_zipM, q_unTL, f_aSortR, sortRF, w_lenSet, w_ext, w_lc2, w_minD, w_AI_zip, q_unTT, w_asgPop, w_ownLst, w_revL, q_unL0, w_parO, w_AF_rep, w_sortSet, wipeE, List.getElem?_cons_zero, List.getElem?_cons_succ, List.set_cons_zero, List.set_cons_succ, if_true, Bool.false_eq_true, if_false, true_and, and_true, Lim, dkS_deck, List.length_cons, List.length_nil, Nat.reduceAdd, Nat.reduceLeDiff, Nat.zero_le, Nat.zero_add, Int.reduceLT, Int.reduceLE, Int.reducePow, Int.reduceNeg, eq_self, decide_true, Bool.not_true, Bool.not_false, q_neB, q_eqB, q_isiR, q_rtT, q_rtT1, q_rtL, q_rtS0, q_rtS1, q_rtI, q_rtA, viewE_cons, viewE_nil, viewS_own, viewS_dat, viewS_deck, flat_int, flat_bool, flat_str, List.cons_append, List.nil_append, b_all_3]
    exact hk
end
end CG

namespace CG
open PySem PySem.Spec PyProof.Rows L2
theorem sm_intW {i : Int} (h : i.natAbs < 2 ^ 600) : Sm 0 602 (.int i) := by
  have hl : i.natAbs.log2 < 601 := by
    by_cases z : i.natAbs = 0
    · rw [z]; decide
    · have := (Nat.log2_lt z).mpr h
      omega
  refine ⟨?_, by simp only [PyData.hasDict], by simp only [PyData.depth]; exact Nat.le_refl _, ?_⟩
  · simp only [PyData.showable, decide_eq_true_eq]
    omega
  · rw [PyData.shown_int]
    have := int_text_length_le (a := i) (k := 601) (by decide) hl
    show (Str.ofString (toString i)).length ≤ 602
    rw [PySem.ofString_length]
    exact this
/-- no number is more than this -/
theorem it_top {m : Nat} {cs : List Ctr} {x : Vec} {b : Int} (hok : ∀ c ∈ cs, c.Ok (m : Int)) (b0 : 0 ≤ b) (hx : AllN m x) (hb : vle x fun _ => some b) : ∀ n, vle (itA cs x n) fun _ => some (b * 5 ^ n)
  | 0 => by
    rw [Int.pow_zero, Int.mul_one]
    exact hb
  | n + 1 => by
    have ih := it_top hok b0 hx hb n
    have p0 : (0 : Int) ≤ b * 5 ^ n := Int.mul_nonneg b0 (Int.pow_nonneg (by decide))
    have e : b * 5 ^ (n + 1) = 5 * (b * 5 ^ n) := by rw [Int.pow_succ, ← Int.mul_assoc, Int.mul_comm]
    refine foldA_le (vle_trans ih fun j y hy => ?_) fun c hc => ?_
    · cases hy
      exact ⟨_, rfl, by omega⟩
    · have co := hok c hc
      obtain ⟨v, hv, v0⟩ := itAll hok hx n c.s co.s0 co.s1
      obtain ⟨u, hu, hl⟩ := ih c.s _ rfl
      rw [hv] at hu
      cases hu
      rw [hv, fc_some]
      intro y hy
      cases hy
      refine ⟨_, rfl, ?_⟩
      have g0 := co.g0; have e0 := co.e0; have e1 := co.e1
      have h1 : v / c.g ≤ v := Int.ediv_le_self _ v0
      have h2 : 0 ≤ v / c.g := Int.ediv_nonneg v0 (by omega)
      have h3 : v / c.g * c.e ≤ v / c.g * 5 := Int.mul_le_mul_of_nonneg_left e1 h2
      omega
theorem it_shx {m : Nat} {cs : List Ctr} {k a : Int} {n : Nat} (hm : m ≤ 4) (hok : ∀ c ∈ cs, c.Ok (m : Int)) (a0 : 0 ≤ a) (a1 : a ≤ 1000000000000) (hn : n ≤ 100) : Shx (vecD m (itA cs (s0 k a) n)) := by
  have tp := it_top hok (b := 1000000000000) (by decide) (s0All (m := m) (k := k) a0) (fun j y hy => by
    cases hy
    unfold s0
    split
    · exact ⟨a, rfl, a1⟩
    · exact ⟨0, rfl, by decide⟩) n
  refine .inl (Sm.mono (sm_tup (n := 0) (m := 602) fun d hd => ?_) (by decide) (by rw [vecL_length]; omega))
  obtain ⟨j, hj, rfl⟩ := List.mem_map.mp hd
  obtain ⟨v, hv, v0⟩ := itAll hok (s0All (m := m) (k := k) a0) n (j : Int) (by omega) (by have := List.mem_range.mp hj; omega)
  obtain ⟨u, hu, hl⟩ := tp (j : Int) _ rfl
  rw [hv] at hu
  cases hu
  rw [hv]
  refine sm_intW ?_
  have e1 : ((5 ^ n : Nat) : Int) ≤ ((5 ^ 100 : Nat) : Int) := Int.ofNat_le.mpr (Nat.pow_le_pow_right (by decide) hn)
  rw [Int.natCast_pow, Int.natCast_pow] at e1
  replace e1 : (5 : Int) ^ n ≤ 5 ^ 100 := e1
  have e2 : (1000000000000 : Int) * 5 ^ n ≤ 1000000000000 * 5 ^ 100 := Int.mul_le_mul_of_nonneg_left e1 (by decide)
  have e3 : (1000000000000 : Int) * 5 ^ 100 < ((2 ^ 600 : Nat) : Int) := by decide +kernel
  have e4 : ((v.natAbs : Nat) : Int) = v := Int.natAbs_of_nonneg v0
  omega
section
variable {P : Program} {w : World} {K : PySem.W.Frag} {mg : Str → Option Value} {base : Heap}
def b_law_0b2b1b3 (K : PySem.W.Frag) : AS K := (AS.ifS (AT.and (AT.test (AE.op (aLt K) (AE.var K 9) (AE.int K 4))) (AT.test (AE.op (aNe K) (AE.var K 10) (AE.call p_all E0 (AA.cons (AE.var K 3) (AA.cons (AE.var K 7) (AA.cons (AE.var K 4) (AA.cons (AE.var K 9) (AA.nil K))))))))) (AS.ret (AE.bl K false)) (AS.nop K))
def b_law_0b2b1b2 (K : PySem.W.Frag) : AS K := (AS.seq (AS.ifS (AT.test (AE.op (aNe K) (AE.cb (aRepr K) (AA.cons (AE.call p_within E0 (AA.cons (AE.var K 3) (AA.cons (AE.var K 7) (AA.cons (AE.var K 4) (AA.cons (AE.var K 9) (AA.nil K)))))) (AA.nil K))) (AE.cb (aRepr K) (AA.cons (AE.var K 10) (AA.nil K))))) (AS.ret (AE.bl K false)) (AS.nop K)) (b_law_0b2b1b3 K))
def b_law_0b2b1b1 (K : PySem.W.Frag) : AS K := (AS.seq (AS.ifS (AT.test (AE.op (aNe K) (AE.cb (aRepr K) (AA.cons (AE.var K 11) (AA.nil K))) (AE.cb (aRepr K) (AA.cons (AE.var K 10) (AA.nil K))))) (AS.ret (AE.bl K false)) (AS.nop K)) (b_law_0b2b1b2 K))
def b_law_0b2b1b0 (K : PySem.W.Frag) : AS K := (AS.seq (AS.par 10 11 (AA.cons (AE.op (aIx K) (AE.var K 8) (AE.var K 9)) (AA.cons (AE.call p_within E0 (AA.cons (AE.var K 3) (AA.cons (AE.var K 7) (AA.cons (AE.var K 4) (AA.cons (AE.var K 9) (AA.nil K)))))) (AA.nil K)))) (b_law_0b2b1b1 K))
def b_law_0b2b1 (K : PySem.W.Frag) : AS K := (AS.for (AI.lst (AE.var K 6)) (AG.name K 9) (b_law_0b2b1b0 K))
def b_law_0b2b0 (K : PySem.W.Frag) : AS K := (AS.seq (AS.set 8 (AE.call p_layers E0 (AA.cons (AE.var K 3) (AA.cons (AE.var K 7) (AA.cons (AE.var K 4) (AA.cons (AE.int K 100) (AA.nil K))))))) (b_law_0b2b1 K))
def b_law_0b4 (K : PySem.W.Frag) : AS K := (AS.ifS (AT.test (AE.op (aNe K) (AE.cb (aRepr K) (AA.cons (AE.var K 3) (AA.nil K))) (AE.var K 5))) (AS.ret (AE.bl K false)) (AS.nop K))
def b_law_0b3 (K : PySem.W.Frag) : AS K := (AS.seq (AS.ifS (AT.test (AE.op (aNe K) (AE.call p_all E0 (AA.cons (AE.var K 3) (AA.cons (AE.int K 0) (AA.cons (AE.var K 4) (AA.cons (AE.int K 4) (AA.nil K)))))) (AE.call p_within E0 (AA.cons (AE.var K 3) (AA.cons (AE.int K 0) (AA.cons (AE.var K 4) (AA.cons (AE.int K 4) (AA.nil K)))))))) (AS.ret (AE.bl K false)) (AS.nop K)) (b_law_0b4 K))
def b_law_0b2 (K : PySem.W.Frag) : AS K := (AS.seq (AS.for (AI.rng (AA.cons (AE.op (aIx K) (AE.var K 3) (AE.int K 0)) (AA.nil K))) (AG.name K 7) (b_law_0b2b0 K)) (b_law_0b3 K))
def b_law_0b1 (K : PySem.W.Frag) : AS K := (AS.seq (AS.par 5 6 (AA.cons (AE.cb (aRepr K) (AA.cons (AE.var K 3) (AA.nil K))) (AA.cons (AE.lst (AA.cons (AE.int K 0) (AA.cons (AE.int K 1) (AA.cons (AE.int K 2) (AA.cons (AE.int K 3) (AA.cons (AE.int K 4) (AA.cons (AE.op (aAdd K) (AE.int K 5) (AE.callD MC p_draw E0 1 (AA.cons (AE.int K 20) (AA.nil K)))) (AA.cons (AE.int K 100) (AA.nil K))))))))) (AA.nil K)))) (b_law_0b2 K))
def b_law_0b0 (K : PySem.W.Frag) : AS K := (AS.seq (AS.par 3 4 (AA.cons (AE.callD MC p_board E0 1 (AA.cons (AE.int K 4) (AA.cons (AE.op (aIx K) (AE.lst (AA.cons (AE.int K 8) (AA.cons (AE.int K 4) (AA.nil K)))) (AE.op (aMod K) (AE.var K 2) (AE.int K 2))) (AA.nil K)))) (AA.cons (AE.callD MC p_amount E0 1 (AA.nil K)) (AA.nil K)))) (b_law_0b1 K))
def b_law_1 (K : PySem.W.Frag) : AS K := (AS.ret (AE.bl K true))
def b_law (K : PySem.W.Frag) : AS K := (AS.seq (AS.for (AI.rng (AA.cons (AE.int K 8) (AA.nil K))) (AG.name K 2) (b_law_0b0 K)) (b_law_1 K))
theorem ok_law {f f1 f2 f3 f4 f5 f6 f7 : Addr} {fd fd1 fd2 fd3 fd4 fd5 fd6 fd7 : FuncData} (h : Has K mg "law" sLaw ["_law_script"] f fd) (T : Bz mg) (T_draws : Has K mg "_law_draws" sDraws ["_law_script"] f1 fd1) (T_next : Has K mg "_law_next" sNext ["_law_state", "_law_many"] f2 fd2) (T_board : Has K mg "_law_board" sBoard ["_law_state", "_law_most", "_law_counters"] f3 fd3) (T_amount : Has K mg "_law_amount" sAmount ["_law_state"] f4 fd4) (T_layers : Has K mg "_law_layers" sLayers ["_law_board_here", "_law_kind", "_law_amount_here", "_law_steps"] f5 fd5) (T_all : Has K mg "_law_all" sAll ["_law_board_here", "_law_kind", "_law_amount_here", "_law_steps"] f6 fd6) (T_best_within : Has K mg "best_within" sPBest_within ["board", "kind", "amount", "steps"] f7 fd7)
    (G_draws : FnG P w K mg base CX0 1 f1 fd1 ["_law_script"] (spM K MC)) (G_next : FnG P w K mg base CX0 1 f2 fd2 ["_law_state", "_law_many"] (spD K MC p_draw)) (G_board : FnG P w K mg base CX0 2 f3 fd3 ["_law_state", "_law_most", "_law_counters"] (spD K MC p_board)) (G_amount : FnG P w K mg base CX0 2 f4 fd4 ["_law_state"] (spD K MC p_amount)) (G_layers : FnG P w K mg base CX0 1 f5 fd5 ["_law_board_here", "_law_kind", "_law_amount_here", "_law_steps"] (spA K p_layers)) (G_all : FnG P w K mg base CX0 2 f6 fd6 ["_law_board_here", "_law_kind", "_law_amount_here", "_law_steps"] (spA K p_all)) (G_best_within : FnG P w K mg base CX0 3 f7 fd7 ["board", "kind", "amount", "steps"] (spA K p_within)) : FnG P w K mg base CX0 4 f fd ["_law_script"] (spLaw K) := by
  refine okLaw h scLaw (b_law K) (fun cd A out s H E hgd hr => ⟨_, (pss_cons (ps_set (i := 1) scLaw.nd rfl (Or.inl rfl) (pe_callG G_draws hgd (hr.mono (by decide)) rfl T_draws.m T_draws.F.kp T_draws.b .nil pass0 (pa_cons (pv 0) pa_nil)))
      (pss_cons (ps_for PassesOwn.never rfl (pi_range1 rfl T.z_range (pa_cons pe_int pa_nil)) (pg_name (i := 2) scLaw.nd rfl (Or.inl rfl))
        (pss_cons (ps_par (i := 3) (j := 4) rfl scLaw.nd rfl rfl (by decide) rfl rfl (pa_cons (pe_callG G_board hgd (hr.mono (by decide)) rfl T_board.m T_board.F.kp T_board.b .nil pass0 (pa_cons (pv 1) (pa_cons pe_int (pa_cons (pe_ix (r := rIx K) ix_seq (pe_lst (pa_cons pe_int (pa_cons pe_int pa_nil))) (pe_op op_mod (pv 2) pe_int) (fun _ _ => rfl)) pa_nil)))) (pa_cons (pe_callG G_amount hgd (hr.mono (by decide)) rfl T_amount.m T_amount.F.kp T_amount.b .nil pass0 (pa_cons (pv 1) pa_nil)) pa_nil)) rfl)
        (pss_cons (ps_par (i := 5) (j := 6) rfl scLaw.nd rfl rfl (by decide) rfl rfl (pa_cons (pe_callB (r := rRepr K) (call_reprD hgd hr.units) rfl T.z_repr boot_repr (pa_cons (pv 3) pa_nil)) (pa_cons (pe_lst (pa_cons pe_int (pa_cons pe_int (pa_cons pe_int (pa_cons pe_int (pa_cons pe_int (pa_cons (pe_op (r := rAddU K) op_addU pe_int (pe_callG G_next hgd (hr.mono (by decide)) rfl T_next.m T_next.F.kp T_next.b .nil pass0 (pa_cons (pv 1) (pa_cons pe_int pa_nil)))) (pa_cons pe_int pa_nil)))))))) pa_nil)) rfl)
        (pss_cons (ps_for PassesOwn.never rfl (pi_range1 rfl T.z_range (pa_cons (pe_ix (r := rIx K) ix_seq (pv 3) pe_int (fun _ _ => rfl)) pa_nil)) (pg_name (i := 7) scLaw.nd rfl (Or.inl rfl))
          (pss_cons (ps_set (i := 8) scLaw.nd rfl (Or.inl rfl) (pe_callG G_layers hgd (hr.mono (by decide)) rfl T_layers.m T_layers.F.kp T_layers.b .nil pass0 (pa_cons (pv 3) (pa_cons (pv 7) (pa_cons (pv 4) (pa_cons pe_int pa_nil))))))
          (pss_one (ps_for PassesOwn.never rfl (pi_list (pv 6)) (pg_name (i := 9) scLaw.nd rfl (Or.inl rfl))
            (pss_cons (ps_par (i := 10) (j := 11) rfl scLaw.nd rfl rfl (by decide) rfl rfl (pa_cons (pe_ix (r := rIx K) ix_seq (pv 8) (pv 9) (fun _ _ => rfl)) (pa_cons (pe_callG G_best_within hgd (hr.mono (by decide)) rfl T_best_within.m T_best_within.F.kp T_best_within.b .nil pass0 (pa_cons (pv 3) (pa_cons (pv 7) (pa_cons (pv 4) (pa_cons (pv 9) pa_nil))))) pa_nil)) rfl)
            (pss_cons (ps_if (pt_cmpR (r := rNeU K) (op_neU hr.units) (pe_callB (r := rRepr K) (call_reprD hgd hr.units) rfl T.z_repr boot_repr (pa_cons (pv 11) pa_nil)) (pe_callB (r := rRepr K) (call_reprD hgd hr.units) rfl T.z_repr boot_repr (pa_cons (pv 10) pa_nil)) (nomark _))
              (pss_one (ps_ret pe_bl))
              pss_nil)
            (pss_cons (ps_if (pt_cmpR (r := rNeU K) (op_neU hr.units) (pe_callB (r := rRepr K) (call_reprD hgd hr.units) rfl T.z_repr boot_repr (pa_cons (pe_callG G_best_within hgd (hr.mono (by decide)) rfl T_best_within.m T_best_within.F.kp T_best_within.b .nil pass0 (pa_cons (pv 3) (pa_cons (pv 7) (pa_cons (pv 4) (pa_cons (pv 9) pa_nil))))) pa_nil)) (pe_callB (r := rRepr K) (call_reprD hgd hr.units) rfl T.z_repr boot_repr (pa_cons (pv 10) pa_nil)) (nomark _))
              (pss_one (ps_ret pe_bl))
              pss_nil)
            (pss_one (ps_if (PW.pt (pw_and (pt_cmpR op_lt (pv 9) pe_int (nomark _)) (pw_and1 (pt_cmpR (r := rNeU K) (op_neU hr.units) (pv 10) (pe_callG G_all hgd (hr.mono (by decide)) rfl T_all.m T_all.F.kp T_all.b .nil pass0 (pa_cons (pv 3) (pa_cons (pv 7) (pa_cons (pv 4) (pa_cons (pv 9) pa_nil))))) (nomark _)))))
              (pss_one (ps_ret pe_bl))
              pss_nil)))))))))
        (pss_cons (ps_if (pt_cmpR (r := rNeU K) (op_neU hr.units) (pe_callG G_all hgd (hr.mono (by decide)) rfl T_all.m T_all.F.kp T_all.b .nil pass0 (pa_cons (pv 3) (pa_cons pe_int (pa_cons (pv 4) (pa_cons pe_int pa_nil))))) (pe_callG G_best_within hgd (hr.mono (by decide)) rfl T_best_within.m T_best_within.F.kp T_best_within.b .nil pass0 (pa_cons (pv 3) (pa_cons pe_int (pa_cons (pv 4) (pa_cons pe_int pa_nil))))) (nomark _))
          (pss_one (ps_ret pe_bl))
          pss_nil)
        (pss_one (ps_if (pt_cmpR (r := rNeU K) (op_neU hr.units) (pe_callB (r := rRepr K) (call_reprD hgd hr.units) rfl T.z_repr boot_repr (pa_cons (pv 3) pa_nil)) (pv 5) (nomark _))
          (pss_one (ps_ret pe_bl))
          pss_nil)))))))
      (pss_one (ps_ret pe_bl)))), by (simp only [b_law_0b2b1b3, b_law_0b2b1b2, b_law_0b2b1b1, b_law_0b2b1b0, b_law_0b2b1, b_law_0b2b0, b_law_0b4, b_law_0b3, b_law_0b2, b_law_0b1, b_law_0b0, b_law_1, b_law, t_AE_var, t_AE_int, t_AE_bl, t_AE_str, t_AE_non, t_AE_op, t_AE_un, t_AA_nil, t_AA_cons, t_AE_tup, t_AE_lst, t_AE_cb, t_AE_call, t_AE_callD, t_AT_test, t_AT_b, t_AT_not, t_AT_and, t_AT_or, t_AT_yes, t_AE_ifx, t_AE_and, t_AE_or, t_AE_not, t_AO_none, t_AO_some, t_AI_tup, t_AI_lst, t_AI_rng, t_AI_rng2, t_AI_enum, t_AI_rev, t_AG_name, t_AGs_nil, n_AGs_nil, t_AGs_cons, n_AGs_cons, t_AG_tup, t_AF_ae, t_AF_lst, t_AF_lc, t_AF_list, t_AE_sl, t_AE_revT, t_AE_chain, t_AE_isi, t_AE_view, t_AT_view, t_AE_ownIx, t_AE_ownTup, t_AE_ownSl, t_AS_nop, t_AS_brk, t_AS_cnt, t_AS_seq, t_AS_set, t_AS_asg, t_AS_drop, t_AS_par, t_AS_par3, t_AS_ret, t_AS_retN, t_AS_ifS, t_AS_for, t_AS_while, t_AS_setOwn, t_AS_append, t_AS_setAt, t_AS_frz, t_AS_fgt, t_AS_never, t_AF_lstRg, t_AE_tupRg, t_AS_insert, t_AS_aug, t_AS_parB, t_AS_par3B, t_AS_parA, t_AS_tupA, t_AS_tupB, t_aAdd, t_aMul, t_aEq, t_aNe, t_aIsN, t_aNotN, t_aIx, t_aNeg, t_aLen, t_aRepr, t_aInt, t_aIn, t_aNotIn, t_aIsB, t_aIsNotB, t_aTup, t_aMin, t_aMax, t_aI, t_aI0, t_aB0, t_AI_zipM, t_aSortR, t_lenSet, t_ext, t_lc2, t_minD, t_AI_zip, t_asgPop, t_ownLst, t_revL, t_parO, t_AF_rep, t_sortSet]) <;> rfl⟩) (by decide) ?_
  show (b_law K).wp [.un, .deck MC, .un, .un, .un, .un, .un, .un, .un, .un, .un, .un] 0 _
  simp only [w_AE_var, w_AE_int, w_AE_bl, w_AE_str, w_AE_non, w_AE_op, w_AE_un, w_AA_nil, w_AA_cons, w_AE_tup, w_AE_lst, w_AE_cb, w_AE_call, w_AE_callD, w_AT_test, w_AT_b, w_AT_not, w_AT_and, w_AT_or, w_AT_yes, w_AE_ifx, w_AE_and, w_AE_or, w_AE_not, w_AO_none, w_AO_some, w_AI_tup, w_AI_lst, w_AI_rng, w_AI_rng2, w_AI_enum, w_AI_rev, w_AG_name, w_AGs_nil, w_AGs_cons, w_AG_tup, w_AF_ae, w_AF_lst, w_AF_lc, w_AF_list, w_AE_sl, w_AE_revT, w_AE_chain, w_AE_isi, w_AE_view, w_AT_view, w_AE_ownIx, w_AE_ownTup, w_AE_ownSl, w_AS_nop, w_AS_brk, w_AS_cnt, w_AS_seq, w_AS_set, w_AS_asg, w_AS_drop, w_AS_par, w_AS_par3, w_AS_ret, w_AS_retN, w_AS_ifS, w_AS_for, w_AS_while, w_AS_setOwn, w_AS_append, w_AS_setAt, w_AS_frz, w_AS_fgt, w_AS_never, w_AF_lstRg, w_AE_tupRg, w_AS_insert, w_AS_aug, w_AS_parB, w_AS_par3B, w_AS_parA, w_AS_tupA, w_AS_tupB, f_aAdd, f_aMul, f_aEq, f_aNe, f_aIsN, f_aNotN, f_aIx, f_aNeg, f_aLen, f_aRepr, f_aInt, f_aIn, f_aNotIn, f_aIsB, f_aIsNotB, f_aTup, f_aI, f_aI0, f_aB0, f_aMin, f_aMax, q_inL, q_inT, q_notInL, q_notInT, q_isB, q_isNotB, q_addI, q_addT, q_addL, q_int, q_int0, q_bool0, q_mulI, q_mulT, q_mulL, q_eqI, q_eqS, q_neI, q_neS, q_isN, q_notN, q_ixT, q_ixL, q_neg, q_lenT, q_lenL, q_repr, q_two, q_intB, q_tupT, q_tupL, q_slT, q_slL, q_unB, q_unI, q_unT, q_unL, q_unI1, q_unI2, q_unT1, q_unS1T, q_unS1L, q_un1, q_un2, q_un3, q_hd, q_rd, q_ow, q_ctrT, q_ctrI, q_ctrS, q_ctrS2, q_brdT, q_brd0, q_brd1, q_rowI, q_rowT, q_rowT1, q_rowL, q_at0, q_at1, q_at2, q_at3, w_AI_zipM, q_unTL, f_aSortR, sortRF, w_lenSet, w_ext, w_lc2, w_minD, w_AI_zip, q_unTT, w_asgPop, w_ownLst, w_revL, q_unL0, w_parO, w_AF_rep, w_sortSet, wipeE, List.getElem?_cons_zero, List.getElem?_cons_succ, List.set_cons_zero, List.set_cons_succ, if_true, Bool.false_eq_true, if_false, true_and, and_true, Lim, dkS_deck, List.length_cons, List.length_nil, Nat.reduceAdd, Nat.reduceLeDiff, Nat.zero_le, Nat.zero_add, Int.reduceLT, Int.reduceLE, Int.reducePow, Int.reduceNeg, eq_self, decide_true, Bool.not_true, Bool.not_false, q_neB, q_eqB, q_isiR, q_rtT, q_rtT1, q_rtL, q_rtS0, q_rtS1, q_rtI, q_rtA, viewE_cons, viewE_nil, viewS_own, viewS_dat, viewS_deck, flat_int, flat_bool, flat_str, List.cons_append, List.nil_append, b_law]
  refine ⟨fun i e t => ∃ (y2 y3 y4 y5 y6 y7 y8 y9 y10 y11 : Sl), e = [.un, .deck MC, y2, y3, y4, y5, y6, y7, y8, y9, y10, y11] ∧ t ≤ 100 * i, ⟨_, _, _, _, _, _, _, _, _, _, rfl, by omega⟩, ?_, ?_⟩
  · rintro i d e t hd ⟨y2, y3, y4, y5, y6, y7, y8, y9, y10, y11, rfl, lt⟩
    obtain ⟨hi, rfl⟩ := rng0_get hd
    simp only [w_AE_var, w_AE_int, w_AE_bl, w_AE_str, w_AE_non, w_AE_op, w_AE_un, w_AA_nil, w_AA_cons, w_AE_tup, w_AE_lst, w_AE_cb, w_AE_call, w_AE_callD, w_AT_test, w_AT_b, w_AT_not, w_AT_and, w_AT_or, w_AT_yes, w_AE_ifx, w_AE_and, w_AE_or, w_AE_not, w_AO_none, w_AO_some, w_AI_tup, w_AI_lst, w_AI_rng, w_AI_rng2, w_AI_enum, w_AI_rev, w_AG_name, w_AGs_nil, w_AGs_cons, w_AG_tup, w_AF_ae, w_AF_lst, w_AF_lc, w_AF_list, w_AE_sl, w_AE_revT, w_AE_chain, w_AE_isi, w_AE_view, w_AT_view, w_AE_ownIx, w_AE_ownTup, w_AE_ownSl, w_AS_nop, w_AS_brk, w_AS_cnt, w_AS_seq, w_AS_set, w_AS_asg, w_AS_drop, w_AS_par, w_AS_par3, w_AS_ret, w_AS_retN, w_AS_ifS, w_AS_for, w_AS_while, w_AS_setOwn, w_AS_append, w_AS_setAt, w_AS_frz, w_AS_fgt, w_AS_never, w_AF_lstRg, w_AE_tupRg, w_AS_insert, w_AS_aug, w_AS_parB, w_AS_par3B, w_AS_parA, w_AS_tupA, w_AS_tupB, f_aAdd, f_aMul, f_aEq, f_aNe, f_aIsN, f_aNotN, f_aIx, f_aNeg, f_aLen, f_aRepr, f_aInt, f_aIn, f_aNotIn, f_aIsB, f_aIsNotB, f_aTup, f_aI, f_aI0, f_aB0, f_aMin, f_aMax, q_inL, q_inT, q_notInL, q_notInT, q_isB, q_isNotB, q_addI, q_addT, q_addL, q_int, q_int0, q_bool0, q_mulI, q_mulT, q_mulL, q_eqI, q_eqS, q_neI, q_neS, q_isN, q_notN, q_ixT, q_ixL, q_neg, q_lenT, q_lenL, q_repr, q_two, q_intB, q_tupT, q_tupL, q_slT, q_slL, q_unB, q_unI, q_unT, q_unL, q_unI1, q_unI2, q_unT1, q_unS1T, q_unS1L, q_un1, q_un2, q_un3, q_hd, q_rd, q_ow, q_ctrT, q_ctrI, q_ctrS, q_ctrS2, q_brdT, q_brd0, q_brd1, q_rowI, q_rowT, q_rowT1, q_rowL, q_at0, q_at1, q_at2, q_at3, w_AI_zipM, q_unTL, f_aSortR, sortRF, w_lenSet, w_ext, w_lc2, w_minD, w_AI_zip, q_unTT, w_asgPop, w_ownLst, w_revL, q_unL0, w_parO, w_AF_rep, w_sortSet, wipeE, List.getElem?_cons_zero, List.getElem?_cons_succ, List.set_cons_zero, List.set_cons_succ, if_true, Bool.false_eq_true, if_false, true_and, and_true, Lim, dkS_deck, List.length_cons, List.length_nil, Nat.reduceAdd, Nat.reduceLeDiff, Nat.zero_le, Nat.zero_add, Int.reduceLT, Int.reduceLE, Int.reducePow, Int.reduceNeg, eq_self, decide_true, Bool.not_true, Bool.not_false, q_neB, q_eqB, q_isiR, q_rtT, q_rtT1, q_rtL, q_rtS0, q_rtS1, q_rtI, q_rtA, viewE_cons, viewE_nil, viewS_own, viewS_dat, viewS_deck, flat_int, flat_bool, flat_str, List.cons_append, List.nil_append, b_law_0b0, p_board, w_pD]
    obtain ⟨b, eb, b0, b1⟩ : ∃ b : Int, atI [PyData.int 8, .int 4] ((i : Int) % 2) = some (.int b) ∧ 0 ≤ b ∧ b ≤ 8 := by
      have c : (i : Int) % 2 = 0 ∨ (i : Int) % 2 = 1 := by omega
      rcases c with e | e <;> rw [e] <;> exact ⟨_, rfl, by decide, by decide⟩
    refine atW_of eb ⟨⟨4, b, rfl, by omega, by omega, b0, b1⟩, by omega, fun d t1 hb l1 => ?_⟩
    obtain ⟨n, cs, rfl, n0, n1, lcs, hok⟩ := hb 4 b rfl
    obtain ⟨m, rfl⟩ : ∃ m : Nat, n = (m : Int) := ⟨n.toNat, by omega⟩
    have hm : m ≤ 4 := by omega
    have hl : cs.length ≤ 8 := by omega
    have shB : Shx (boardD (m : Int) cs) := .inl (Sm.mono (sm_board hok (by omega) (by omega) (by omega)) (by decide) (by decide))
    simp only [w_AE_var, w_AE_int, w_AE_bl, w_AE_str, w_AE_non, w_AE_op, w_AE_un, w_AA_nil, w_AA_cons, w_AE_tup, w_AE_lst, w_AE_cb, w_AE_call, w_AE_callD, w_AT_test, w_AT_b, w_AT_not, w_AT_and, w_AT_or, w_AT_yes, w_AE_ifx, w_AE_and, w_AE_or, w_AE_not, w_AO_none, w_AO_some, w_AI_tup, w_AI_lst, w_AI_rng, w_AI_rng2, w_AI_enum, w_AI_rev, w_AG_name, w_AGs_nil, w_AGs_cons, w_AG_tup, w_AF_ae, w_AF_lst, w_AF_lc, w_AF_list, w_AE_sl, w_AE_revT, w_AE_chain, w_AE_isi, w_AE_view, w_AT_view, w_AE_ownIx, w_AE_ownTup, w_AE_ownSl, w_AS_nop, w_AS_brk, w_AS_cnt, w_AS_seq, w_AS_set, w_AS_asg, w_AS_drop, w_AS_par, w_AS_par3, w_AS_ret, w_AS_retN, w_AS_ifS, w_AS_for, w_AS_while, w_AS_setOwn, w_AS_append, w_AS_setAt, w_AS_frz, w_AS_fgt, w_AS_never, w_AF_lstRg, w_AE_tupRg, w_AS_insert, w_AS_aug, w_AS_parB, w_AS_par3B, w_AS_parA, w_AS_tupA, w_AS_tupB, f_aAdd, f_aMul, f_aEq, f_aNe, f_aIsN, f_aNotN, f_aIx, f_aNeg, f_aLen, f_aRepr, f_aInt, f_aIn, f_aNotIn, f_aIsB, f_aIsNotB, f_aTup, f_aI, f_aI0, f_aB0, f_aMin, f_aMax, q_inL, q_inT, q_notInL, q_notInT, q_isB, q_isNotB, q_addI, q_addT, q_addL, q_int, q_int0, q_bool0, q_mulI, q_mulT, q_mulL, q_eqI, q_eqS, q_neI, q_neS, q_isN, q_notN, q_ixT, q_ixL, q_neg, q_lenT, q_lenL, q_repr, q_two, q_intB, q_tupT, q_tupL, q_slT, q_slL, q_unB, q_unI, q_unT, q_unL, q_unI1, q_unI2, q_unT1, q_unS1T, q_unS1L, q_un1, q_un2, q_un3, q_hd, q_rd, q_ow, q_ctrT, q_ctrI, q_ctrS, q_ctrS2, q_brdT, q_brd0, q_brd1, q_rowI, q_rowT, q_rowT1, q_rowL, q_at0, q_at1, q_at2, q_at3, w_AI_zipM, q_unTL, f_aSortR, sortRF, w_lenSet, w_ext, w_lc2, w_minD, w_AI_zip, q_unTT, w_asgPop, w_ownLst, w_revL, q_unL0, w_parO, w_AF_rep, w_sortSet, wipeE, List.getElem?_cons_zero, List.getElem?_cons_succ, List.set_cons_zero, List.set_cons_succ, if_true, Bool.false_eq_true, if_false, true_and, and_true, Lim, dkS_deck, List.length_cons, List.length_nil, Nat.reduceAdd, Nat.reduceLeDiff, Nat.zero_le, Nat.zero_add, Int.reduceLT, Int.reduceLE, Int.reducePow, Int.reduceNeg, eq_self, decide_true, Bool.not_true, Bool.not_false, q_neB, q_eqB, q_isiR, q_rtT, q_rtT1, q_rtL, q_rtS0, q_rtS1, q_rtI, q_rtA, viewE_cons, viewE_nil, viewS_own, viewS_dat, viewS_deck, flat_int, flat_bool, flat_str, List.cons_append, List.nil_append, p_amount, w_pD]
    refine ⟨by omega, fun d t2 ha l2 => ?_⟩
    obtain ⟨a, rfl, a0, a1⟩ := ha
    simp only [w_AE_var, w_AE_int, w_AE_bl, w_AE_str, w_AE_non, w_AE_op, w_AE_un, w_AA_nil, w_AA_cons, w_AE_tup, w_AE_lst, w_AE_cb, w_AE_call, w_AE_callD, w_AT_test, w_AT_b, w_AT_not, w_AT_and, w_AT_or, w_AT_yes, w_AE_ifx, w_AE_and, w_AE_or, w_AE_not, w_AO_none, w_AO_some, w_AI_tup, w_AI_lst, w_AI_rng, w_AI_rng2, w_AI_enum, w_AI_rev, w_AG_name, w_AGs_nil, w_AGs_cons, w_AG_tup, w_AF_ae, w_AF_lst, w_AF_lc, w_AF_list, w_AE_sl, w_AE_revT, w_AE_chain, w_AE_isi, w_AE_view, w_AT_view, w_AE_ownIx, w_AE_ownTup, w_AE_ownSl, w_AS_nop, w_AS_brk, w_AS_cnt, w_AS_seq, w_AS_set, w_AS_asg, w_AS_drop, w_AS_par, w_AS_par3, w_AS_ret, w_AS_retN, w_AS_ifS, w_AS_for, w_AS_while, w_AS_setOwn, w_AS_append, w_AS_setAt, w_AS_frz, w_AS_fgt, w_AS_never, w_AF_lstRg, w_AE_tupRg, w_AS_insert, w_AS_aug, w_AS_parB, w_AS_par3B, w_AS_parA, w_AS_tupA, w_AS_tupB, f_aAdd, f_aMul, f_aEq, f_aNe, f_aIsN, f_aNotN, f_aIx, f_aNeg, f_aLen, f_aRepr, f_aInt, f_aIn, f_aNotIn, f_aIsB, f_aIsNotB, f_aTup, f_aI, f_aI0, f_aB0, f_aMin, f_aMax, q_inL, q_inT, q_notInL, q_notInT, q_isB, q_isNotB, q_addI, q_addT, q_addL, q_int, q_int0, q_bool0, q_mulI, q_mulT, q_mulL, q_eqI, q_eqS, q_neI, q_neS, q_isN, q_notN, q_ixT, q_ixL, q_neg, q_lenT, q_lenL, q_repr, q_two, q_intB, q_tupT, q_tupL, q_slT, q_slL, q_unB, q_unI, q_unT, q_unL, q_unI1, q_unI2, q_unT1, q_unS1T, q_unS1L, q_un1, q_un2, q_un3, q_hd, q_rd, q_ow, q_ctrT, q_ctrI, q_ctrS, q_ctrS2, q_brdT, q_brd0, q_brd1, q_rowI, q_rowT, q_rowT1, q_rowL, q_at0, q_at1, q_at2, q_at3, w_AI_zipM, q_unTL, f_aSortR, sortRF, w_lenSet, w_ext, w_lc2, w_minD, w_AI_zip, q_unTT, w_asgPop, w_ownLst, w_revL, q_unL0, w_parO, w_AF_rep, w_sortSet, wipeE, List.getElem?_cons_zero, List.getElem?_cons_succ, List.set_cons_zero, List.set_cons_succ, if_true, Bool.false_eq_true, if_false, true_and, and_true, Lim, dkS_deck, List.length_cons, List.length_nil, Nat.reduceAdd, Nat.reduceLeDiff, Nat.zero_le, Nat.zero_add, Int.reduceLT, Int.reduceLE, Int.reducePow, Int.reduceNeg, eq_self, decide_true, Bool.not_true, Bool.not_false, q_neB, q_eqB, q_isiR, q_rtT, q_rtT1, q_rtL, q_rtS0, q_rtS1, q_rtI, q_rtA, viewE_cons, viewE_nil, viewS_own, viewS_dat, viewS_deck, flat_int, flat_bool, flat_str, List.cons_append, List.nil_append, b_law_0b1, w_draw, drawW]
    refine ⟨shB, by omega, fun r r0 r1 => ?_⟩
    have same : ∀ (k : Int) (n : Nat), 0 ≤ k → k < (m : Int) → n ≤ 100 → Shx (vecD m (itA cs (s0 k a) n)) := fun k n _ _ hn => it_shx hm hok a0 a1 hn
    simp only [w_AE_var, w_AE_int, w_AE_bl, w_AE_str, w_AE_non, w_AE_op, w_AE_un, w_AA_nil, w_AA_cons, w_AE_tup, w_AE_lst, w_AE_cb, w_AE_call, w_AE_callD, w_AT_test, w_AT_b, w_AT_not, w_AT_and, w_AT_or, w_AT_yes, w_AE_ifx, w_AE_and, w_AE_or, w_AE_not, w_AO_none, w_AO_some, w_AI_tup, w_AI_lst, w_AI_rng, w_AI_rng2, w_AI_enum, w_AI_rev, w_AG_name, w_AGs_nil, w_AGs_cons, w_AG_tup, w_AF_ae, w_AF_lst, w_AF_lc, w_AF_list, w_AE_sl, w_AE_revT, w_AE_chain, w_AE_isi, w_AE_view, w_AT_view, w_AE_ownIx, w_AE_ownTup, w_AE_ownSl, w_AS_nop, w_AS_brk, w_AS_cnt, w_AS_seq, w_AS_set, w_AS_asg, w_AS_drop, w_AS_par, w_AS_par3, w_AS_ret, w_AS_retN, w_AS_ifS, w_AS_for, w_AS_while, w_AS_setOwn, w_AS_append, w_AS_setAt, w_AS_frz, w_AS_fgt, w_AS_never, w_AF_lstRg, w_AE_tupRg, w_AS_insert, w_AS_aug, w_AS_parB, w_AS_par3B, w_AS_parA, w_AS_tupA, w_AS_tupB, f_aAdd, f_aMul, f_aEq, f_aNe, f_aIsN, f_aNotN, f_aIx, f_aNeg, f_aLen, f_aRepr, f_aInt, f_aIn, f_aNotIn, f_aIsB, f_aIsNotB, f_aTup, f_aI, f_aI0, f_aB0, f_aMin, f_aMax, q_inL, q_inT, q_notInL, q_notInT, q_isB, q_isNotB, q_addI, q_addT, q_addL, q_int, q_int0, q_bool0, q_mulI, q_mulT, q_mulL, q_eqI, q_eqS, q_neI, q_neS, q_isN, q_notN, q_ixT, q_ixL, q_neg, q_lenT, q_lenL, q_repr, q_two, q_intB, q_tupT, q_tupL, q_slT, q_slL, q_unB, q_unI, q_unT, q_unL, q_unI1, q_unI2, q_unT1, q_unS1T, q_unS1L, q_un1, q_un2, q_un3, q_hd, q_rd, q_ow, q_ctrT, q_ctrI, q_ctrS, q_ctrS2, q_brdT, q_brd0, q_brd1, q_rowI, q_rowT, q_rowT1, q_rowL, q_at0, q_at1, q_at2, q_at3, w_AI_zipM, q_unTL, f_aSortR, sortRF, w_lenSet, w_ext, w_lc2, w_minD, w_AI_zip, q_unTT, w_asgPop, w_ownLst, w_revL, q_unL0, w_parO, w_AF_rep, w_sortSet, wipeE, List.getElem?_cons_zero, List.getElem?_cons_succ, List.set_cons_zero, List.set_cons_succ, if_true, Bool.false_eq_true, if_false, true_and, and_true, Lim, dkS_deck, List.length_cons, List.length_nil, Nat.reduceAdd, Nat.reduceLeDiff, Nat.zero_le, Nat.zero_add, Int.reduceLT, Int.reduceLE, Int.reducePow, Int.reduceNeg, eq_self, decide_true, Bool.not_true, Bool.not_false, q_neB, q_eqB, q_isiR, q_rtT, q_rtT1, q_rtL, q_rtS0, q_rtS1, q_rtI, q_rtA, viewE_cons, viewE_nil, viewS_own, viewS_dat, viewS_deck, flat_int, flat_bool, flat_str, List.cons_append, List.nil_append, b_law_0b2]
    refine ⟨⟨by omega, by omega⟩, fun q e s => ∃ (y7 y8 y9 y10 y11 : Sl), e = [.un, .deck MC, .dat (.int (i : Int)), .dat (boardD (m : Int) cs), .dat (.int a), .dat (.str (boardD (m : Int) cs).shown), .dat (.list [.int 0, .int 1, .int 2, .int 3, .int 4, .int (5 + r), .int 100]), y7, y8, y9, y10, y11] ∧ s = t2 + 1, ⟨_, _, _, _, _, rfl, rfl⟩, ?_, ?_⟩
    · rintro q d e s hd ⟨y7, y8, y9, y10, y11, rfl, rfl⟩
      obtain ⟨hq, rfl⟩ := rng0_get hd
      simp only [w_AE_var, w_AE_int, w_AE_bl, w_AE_str, w_AE_non, w_AE_op, w_AE_un, w_AA_nil, w_AA_cons, w_AE_tup, w_AE_lst, w_AE_cb, w_AE_call, w_AE_callD, w_AT_test, w_AT_b, w_AT_not, w_AT_and, w_AT_or, w_AT_yes, w_AE_ifx, w_AE_and, w_AE_or, w_AE_not, w_AO_none, w_AO_some, w_AI_tup, w_AI_lst, w_AI_rng, w_AI_rng2, w_AI_enum, w_AI_rev, w_AG_name, w_AGs_nil, w_AGs_cons, w_AG_tup, w_AF_ae, w_AF_lst, w_AF_lc, w_AF_list, w_AE_sl, w_AE_revT, w_AE_chain, w_AE_isi, w_AE_view, w_AT_view, w_AE_ownIx, w_AE_ownTup, w_AE_ownSl, w_AS_nop, w_AS_brk, w_AS_cnt, w_AS_seq, w_AS_set, w_AS_asg, w_AS_drop, w_AS_par, w_AS_par3, w_AS_ret, w_AS_retN, w_AS_ifS, w_AS_for, w_AS_while, w_AS_setOwn, w_AS_append, w_AS_setAt, w_AS_frz, w_AS_fgt, w_AS_never, w_AF_lstRg, w_AE_tupRg, w_AS_insert, w_AS_aug, w_AS_parB, w_AS_par3B, w_AS_parA, w_AS_tupA, w_AS_tupB, f_aAdd, f_aMul, f_aEq, f_aNe, f_aIsN, f_aNotN, f_aIx, f_aNeg, f_aLen, f_aRepr, f_aInt, f_aIn, f_aNotIn, f_aIsB, f_aIsNotB, f_aTup, f_aI, f_aI0, f_aB0, f_aMin, f_aMax, q_inL, q_inT, q_notInL, q_notInT, q_isB, q_isNotB, q_addI, q_addT, q_addL, q_int, q_int0, q_bool0, q_mulI, q_mulT, q_mulL, q_eqI, q_eqS, q_neI, q_neS, q_isN, q_notN, q_ixT, q_ixL, q_neg, q_lenT, q_lenL, q_repr, q_two, q_intB, q_tupT, q_tupL, q_slT, q_slL, q_unB, q_unI, q_unT, q_unL, q_unI1, q_unI2, q_unT1, q_unS1T, q_unS1L, q_un1, q_un2, q_un3, q_hd, q_rd, q_ow, q_ctrT, q_ctrI, q_ctrS, q_ctrS2, q_brdT, q_brd0, q_brd1, q_rowI, q_rowT, q_rowT1, q_rowL, q_at0, q_at1, q_at2, q_at3, w_AI_zipM, q_unTL, f_aSortR, sortRF, w_lenSet, w_ext, w_lc2, w_minD, w_AI_zip, q_unTT, w_asgPop, w_ownLst, w_revL, q_unL0, w_parO, w_AF_rep, w_sortSet, wipeE, List.getElem?_cons_zero, List.getElem?_cons_succ, List.set_cons_zero, List.set_cons_succ, if_true, Bool.false_eq_true, if_false, true_and, and_true, Lim, dkS_deck, List.length_cons, List.length_nil, Nat.reduceAdd, Nat.reduceLeDiff, Nat.zero_le, Nat.zero_add, Int.reduceLT, Int.reduceLE, Int.reducePow, Int.reduceNeg, eq_self, decide_true, Bool.not_true, Bool.not_false, q_neB, q_eqB, q_isiR, q_rtT, q_rtT1, q_rtL, q_rtS0, q_rtS1, q_rtI, q_rtA, viewE_cons, viewE_nil, viewS_own, viewS_dat, viewS_deck, flat_int, flat_bool, flat_str, List.cons_append, List.nil_append, b_law_0b2b0, p_layers, w_pP]
      refine ⟨_, ⟨m, cs, (q : Int), a, 100, rfl, by omega, by omega, by decide, by omega, by omega, a0, hok, rfl⟩, ?_⟩
      simp only [w_AE_var, w_AE_int, w_AE_bl, w_AE_str, w_AE_non, w_AE_op, w_AE_un, w_AA_nil, w_AA_cons, w_AE_tup, w_AE_lst, w_AE_cb, w_AE_call, w_AE_callD, w_AT_test, w_AT_b, w_AT_not, w_AT_and, w_AT_or, w_AT_yes, w_AE_ifx, w_AE_and, w_AE_or, w_AE_not, w_AO_none, w_AO_some, w_AI_tup, w_AI_lst, w_AI_rng, w_AI_rng2, w_AI_enum, w_AI_rev, w_AG_name, w_AGs_nil, w_AGs_cons, w_AG_tup, w_AF_ae, w_AF_lst, w_AF_lc, w_AF_list, w_AE_sl, w_AE_revT, w_AE_chain, w_AE_isi, w_AE_view, w_AT_view, w_AE_ownIx, w_AE_ownTup, w_AE_ownSl, w_AS_nop, w_AS_brk, w_AS_cnt, w_AS_seq, w_AS_set, w_AS_asg, w_AS_drop, w_AS_par, w_AS_par3, w_AS_ret, w_AS_retN, w_AS_ifS, w_AS_for, w_AS_while, w_AS_setOwn, w_AS_append, w_AS_setAt, w_AS_frz, w_AS_fgt, w_AS_never, w_AF_lstRg, w_AE_tupRg, w_AS_insert, w_AS_aug, w_AS_parB, w_AS_par3B, w_AS_parA, w_AS_tupA, w_AS_tupB, f_aAdd, f_aMul, f_aEq, f_aNe, f_aIsN, f_aNotN, f_aIx, f_aNeg, f_aLen, f_aRepr, f_aInt, f_aIn, f_aNotIn, f_aIsB, f_aIsNotB, f_aTup, f_aI, f_aI0, f_aB0, f_aMin, f_aMax, q_inL, q_inT, q_notInL, q_notInT, q_isB, q_isNotB, q_addI, q_addT, q_addL, q_int, q_int0, q_bool0, q_mulI, q_mulT, q_mulL, q_eqI, q_eqS, q_neI, q_neS, q_isN, q_notN, q_ixT, q_ixL, q_neg, q_lenT, q_lenL, q_repr, q_two, q_intB, q_tupT, q_tupL, q_slT, q_slL, q_unB, q_unI, q_unT, q_unL, q_unI1, q_unI2, q_unT1, q_unS1T, q_unS1L, q_un1, q_un2, q_un3, q_hd, q_rd, q_ow, q_ctrT, q_ctrI, q_ctrS, q_ctrS2, q_brdT, q_brd0, q_brd1, q_rowI, q_rowT, q_rowT1, q_rowL, q_at0, q_at1, q_at2, q_at3, w_AI_zipM, q_unTL, f_aSortR, sortRF, w_lenSet, w_ext, w_lc2, w_minD, w_AI_zip, q_unTT, w_asgPop, w_ownLst, w_revL, q_unL0, w_parO, w_AF_rep, w_sortSet, wipeE, List.getElem?_cons_zero, List.getElem?_cons_succ, List.set_cons_zero, List.set_cons_succ, if_true, Bool.false_eq_true, if_false, true_and, and_true, Lim, dkS_deck, List.length_cons, List.length_nil, Nat.reduceAdd, Nat.reduceLeDiff, Nat.zero_le, Nat.zero_add, Int.reduceLT, Int.reduceLE, Int.reducePow, Int.reduceNeg, eq_self, decide_true, Bool.not_true, Bool.not_false, q_neB, q_eqB, q_isiR, q_rtT, q_rtT1, q_rtL, q_rtS0, q_rtS1, q_rtI, q_rtA, viewE_cons, viewE_nil, viewS_own, viewS_dat, viewS_deck, flat_int, flat_bool, flat_str, List.cons_append, List.nil_append, b_law_0b2b1]
      refine ⟨fun z e s2 => ∃ (y9 y10 y11 : Sl), e = [.un, .deck MC, .dat (.int (i : Int)), .dat (boardD (m : Int) cs), .dat (.int a), .dat (.str (boardD (m : Int) cs).shown), .dat (.list [.int 0, .int 1, .int 2, .int 3, .int 4, .int (5 + r), .int 100]), .dat (.int (q : Int)), .dat (.list (layL m cs (s0 (q : Int) a) 101)), y9, y10, y11] ∧ s2 = t2 + 1, ⟨_, _, _, rfl, rfl⟩, ?_, ?_⟩
      · rintro z d e s2 hd ⟨y9, y10, y11, rfl, rfl⟩
        obtain ⟨n, rfl, hn⟩ : ∃ n : Nat, d = .int (n : Int) ∧ n ≤ 100 := by
          match z, hd with
          | 0, hd => cases hd; exact ⟨0, rfl, by decide⟩
          | 1, hd => cases hd; exact ⟨1, rfl, by decide⟩
          | 2, hd => cases hd; exact ⟨2, rfl, by decide⟩
          | 3, hd => cases hd; exact ⟨3, rfl, by decide⟩
          | 4, hd => cases hd; exact ⟨4, rfl, by decide⟩
          | 5, hd => cases hd; exact ⟨(5 + r).toNat, by rw [show (((5 + r).toNat : Nat) : Int) = 5 + r by omega], by omega⟩
          | 6, hd => cases hd; exact ⟨100, rfl, by decide⟩
        have sh := same (q : Int) n (by omega) (by omega) hn
        have pv : Pl 64 (.tuple (vecL m (itA cs (s0 (q : Int) a) n))) := (pl_vec (m := m) (x := itA cs (s0 (q : Int) a) n)).mono (by decide)
        have al : atI (layL m cs (s0 (q : Int) a) 101) (n : Int) = some (vecD m (itA cs (s0 (q : Int) a) n)) := by
          rw [atI_nn]
          unfold layL
          rw [List.getElem?_map, List.getElem?_range (by omega)]
          rfl
        simp only [w_AE_var, w_AE_int, w_AE_bl, w_AE_str, w_AE_non, w_AE_op, w_AE_un, w_AA_nil, w_AA_cons, w_AE_tup, w_AE_lst, w_AE_cb, w_AE_call, w_AE_callD, w_AT_test, w_AT_b, w_AT_not, w_AT_and, w_AT_or, w_AT_yes, w_AE_ifx, w_AE_and, w_AE_or, w_AE_not, w_AO_none, w_AO_some, w_AI_tup, w_AI_lst, w_AI_rng, w_AI_rng2, w_AI_enum, w_AI_rev, w_AG_name, w_AGs_nil, w_AGs_cons, w_AG_tup, w_AF_ae, w_AF_lst, w_AF_lc, w_AF_list, w_AE_sl, w_AE_revT, w_AE_chain, w_AE_isi, w_AE_view, w_AT_view, w_AE_ownIx, w_AE_ownTup, w_AE_ownSl, w_AS_nop, w_AS_brk, w_AS_cnt, w_AS_seq, w_AS_set, w_AS_asg, w_AS_drop, w_AS_par, w_AS_par3, w_AS_ret, w_AS_retN, w_AS_ifS, w_AS_for, w_AS_while, w_AS_setOwn, w_AS_append, w_AS_setAt, w_AS_frz, w_AS_fgt, w_AS_never, w_AF_lstRg, w_AE_tupRg, w_AS_insert, w_AS_aug, w_AS_parB, w_AS_par3B, w_AS_parA, w_AS_tupA, w_AS_tupB, f_aAdd, f_aMul, f_aEq, f_aNe, f_aIsN, f_aNotN, f_aIx, f_aNeg, f_aLen, f_aRepr, f_aInt, f_aIn, f_aNotIn, f_aIsB, f_aIsNotB, f_aTup, f_aI, f_aI0, f_aB0, f_aMin, f_aMax, q_inL, q_inT, q_notInL, q_notInT, q_isB, q_isNotB, q_addI, q_addT, q_addL, q_int, q_int0, q_bool0, q_mulI, q_mulT, q_mulL, q_eqI, q_eqS, q_neI, q_neS, q_isN, q_notN, q_ixT, q_ixL, q_neg, q_lenT, q_lenL, q_repr, q_two, q_intB, q_tupT, q_tupL, q_slT, q_slL, q_unB, q_unI, q_unT, q_unL, q_unI1, q_unI2, q_unT1, q_unS1T, q_unS1L, q_un1, q_un2, q_un3, q_hd, q_rd, q_ow, q_ctrT, q_ctrI, q_ctrS, q_ctrS2, q_brdT, q_brd0, q_brd1, q_rowI, q_rowT, q_rowT1, q_rowL, q_at0, q_at1, q_at2, q_at3, w_AI_zipM, q_unTL, f_aSortR, sortRF, w_lenSet, w_ext, w_lc2, w_minD, w_AI_zip, q_unTT, w_asgPop, w_ownLst, w_revL, q_unL0, w_parO, w_AF_rep, w_sortSet, wipeE, List.getElem?_cons_zero, List.getElem?_cons_succ, List.set_cons_zero, List.set_cons_succ, if_true, Bool.false_eq_true, if_false, true_and, and_true, Lim, dkS_deck, List.length_cons, List.length_nil, Nat.reduceAdd, Nat.reduceLeDiff, Nat.zero_le, Nat.zero_add, Int.reduceLT, Int.reduceLE, Int.reducePow, Int.reduceNeg, eq_self, decide_true, Bool.not_true, Bool.not_false, q_neB, q_eqB, q_isiR, q_rtT, q_rtT1, q_rtL, q_rtS0, q_rtS1, q_rtI, q_rtA, viewE_cons, viewE_nil, viewS_own, viewS_dat, viewS_deck, flat_int, flat_bool, flat_str, List.cons_append, List.nil_append, b_law_0b2b1b0, p_within, w_pP]
        refine atW_of al ⟨_, ⟨m, cs, (q : Int), a, n, rfl, by omega, by omega, hok, rfl⟩, ?_⟩
        simp only [w_AE_var, w_AE_int, w_AE_bl, w_AE_str, w_AE_non, w_AE_op, w_AE_un, w_AA_nil, w_AA_cons, w_AE_tup, w_AE_lst, w_AE_cb, w_AE_call, w_AE_callD, w_AT_test, w_AT_b, w_AT_not, w_AT_and, w_AT_or, w_AT_yes, w_AE_ifx, w_AE_and, w_AE_or, w_AE_not, w_AO_none, w_AO_some, w_AI_tup, w_AI_lst, w_AI_rng, w_AI_rng2, w_AI_enum, w_AI_rev, w_AG_name, w_AGs_nil, w_AGs_cons, w_AG_tup, w_AF_ae, w_AF_lst, w_AF_lc, w_AF_list, w_AE_sl, w_AE_revT, w_AE_chain, w_AE_isi, w_AE_view, w_AT_view, w_AE_ownIx, w_AE_ownTup, w_AE_ownSl, w_AS_nop, w_AS_brk, w_AS_cnt, w_AS_seq, w_AS_set, w_AS_asg, w_AS_drop, w_AS_par, w_AS_par3, w_AS_ret, w_AS_retN, w_AS_ifS, w_AS_for, w_AS_while, w_AS_setOwn, w_AS_append, w_AS_setAt, w_AS_frz, w_AS_fgt, w_AS_never, w_AF_lstRg, w_AE_tupRg, w_AS_insert, w_AS_aug, w_AS_parB, w_AS_par3B, w_AS_parA, w_AS_tupA, w_AS_tupB, f_aAdd, f_aMul, f_aEq, f_aNe, f_aIsN, f_aNotN, f_aIx, f_aNeg, f_aLen, f_aRepr, f_aInt, f_aIn, f_aNotIn, f_aIsB, f_aIsNotB, f_aTup, f_aI, f_aI0, f_aB0, f_aMin, f_aMax, q_inL, q_inT, q_notInL, q_notInT, q_isB, q_isNotB, q_addI, q_addT, q_addL, q_int, q_int0, q_bool0, q_mulI, q_mulT, q_mulL, q_eqI, q_eqS, q_neI, q_neS, q_isN, q_notN, q_ixT, q_ixL, q_neg, q_lenT, q_lenL, q_repr, q_two, q_intB, q_tupT, q_tupL, q_slT, q_slL, q_unB, q_unI, q_unT, q_unL, q_unI1, q_unI2, q_unT1, q_unS1T, q_unS1L, q_un1, q_un2, q_un3, q_hd, q_rd, q_ow, q_ctrT, q_ctrI, q_ctrS, q_ctrS2, q_brdT, q_brd0, q_brd1, q_rowI, q_rowT, q_rowT1, q_rowL, q_at0, q_at1, q_at2, q_at3, w_AI_zipM, q_unTL, f_aSortR, sortRF, w_lenSet, w_ext, w_lc2, w_minD, w_AI_zip, q_unTT, w_asgPop, w_ownLst, w_revL, q_unL0, w_parO, w_AF_rep, w_sortSet, wipeE, List.getElem?_cons_zero, List.getElem?_cons_succ, List.set_cons_zero, List.set_cons_succ, if_true, Bool.false_eq_true, if_false, true_and, and_true, Lim, dkS_deck, List.length_cons, List.length_nil, Nat.reduceAdd, Nat.reduceLeDiff, Nat.zero_le, Nat.zero_add, Int.reduceLT, Int.reduceLE, Int.reducePow, Int.reduceNeg, eq_self, decide_true, Bool.not_true, Bool.not_false, q_neB, q_eqB, q_isiR, q_rtT, q_rtT1, q_rtL, q_rtS0, q_rtS1, q_rtI, q_rtA, viewE_cons, viewE_nil, viewS_own, viewS_dat, viewS_deck, flat_int, flat_bool, flat_str, List.cons_append, List.nil_append, b_law_0b2b1b1]
        refine ⟨sh, sh, ?_⟩
        simp only [w_AE_var, w_AE_int, w_AE_bl, w_AE_str, w_AE_non, w_AE_op, w_AE_un, w_AA_nil, w_AA_cons, w_AE_tup, w_AE_lst, w_AE_cb, w_AE_call, w_AE_callD, w_AT_test, w_AT_b, w_AT_not, w_AT_and, w_AT_or, w_AT_yes, w_AE_ifx, w_AE_and, w_AE_or, w_AE_not, w_AO_none, w_AO_some, w_AI_tup, w_AI_lst, w_AI_rng, w_AI_rng2, w_AI_enum, w_AI_rev, w_AG_name, w_AGs_nil, w_AGs_cons, w_AG_tup, w_AF_ae, w_AF_lst, w_AF_lc, w_AF_list, w_AE_sl, w_AE_revT, w_AE_chain, w_AE_isi, w_AE_view, w_AT_view, w_AE_ownIx, w_AE_ownTup, w_AE_ownSl, w_AS_nop, w_AS_brk, w_AS_cnt, w_AS_seq, w_AS_set, w_AS_asg, w_AS_drop, w_AS_par, w_AS_par3, w_AS_ret, w_AS_retN, w_AS_ifS, w_AS_for, w_AS_while, w_AS_setOwn, w_AS_append, w_AS_setAt, w_AS_frz, w_AS_fgt, w_AS_never, w_AF_lstRg, w_AE_tupRg, w_AS_insert, w_AS_aug, w_AS_parB, w_AS_par3B, w_AS_parA, w_AS_tupA, w_AS_tupB, f_aAdd, f_aMul, f_aEq, f_aNe, f_aIsN, f_aNotN, f_aIx, f_aNeg, f_aLen, f_aRepr, f_aInt, f_aIn, f_aNotIn, f_aIsB, f_aIsNotB, f_aTup, f_aI, f_aI0, f_aB0, f_aMin, f_aMax, q_inL, q_inT, q_notInL, q_notInT, q_isB, q_isNotB, q_addI, q_addT, q_addL, q_int, q_int0, q_bool0, q_mulI, q_mulT, q_mulL, q_eqI, q_eqS, q_neI, q_neS, q_isN, q_notN, q_ixT, q_ixL, q_neg, q_lenT, q_lenL, q_repr, q_two, q_intB, q_tupT, q_tupL, q_slT, q_slL, q_unB, q_unI, q_unT, q_unL, q_unI1, q_unI2, q_unT1, q_unS1T, q_unS1L, q_un1, q_un2, q_un3, q_hd, q_rd, q_ow, q_ctrT, q_ctrI, q_ctrS, q_ctrS2, q_brdT, q_brd0, q_brd1, q_rowI, q_rowT, q_rowT1, q_rowL, q_at0, q_at1, q_at2, q_at3, w_AI_zipM, q_unTL, f_aSortR, sortRF, w_lenSet, w_ext, w_lc2, w_minD, w_AI_zip, q_unTT, w_asgPop, w_ownLst, w_revL, q_unL0, w_parO, w_AF_rep, w_sortSet, wipeE, List.getElem?_cons_zero, List.getElem?_cons_succ, List.set_cons_zero, List.set_cons_succ, if_true, Bool.false_eq_true, if_false, true_and, and_true, Lim, dkS_deck, List.length_cons, List.length_nil, Nat.reduceAdd, Nat.reduceLeDiff, Nat.zero_le, Nat.zero_add, Int.reduceLT, Int.reduceLE, Int.reducePow, Int.reduceNeg, eq_self, decide_true, Bool.not_true, Bool.not_false, q_neB, q_eqB, q_isiR, q_rtT, q_rtT1, q_rtL, q_rtS0, q_rtS1, q_rtI, q_rtA, viewE_cons, viewE_nil, viewS_own, viewS_dat, viewS_deck, flat_int, flat_bool, flat_str, List.cons_append, List.nil_append, b_law_0b2b1b2, p_within, w_pP]
        refine ⟨_, ⟨m, cs, (q : Int), a, n, rfl, by omega, by omega, hok, rfl⟩, sh, sh, ?_⟩
        simp only [w_AE_var, w_AE_int, w_AE_bl, w_AE_str, w_AE_non, w_AE_op, w_AE_un, w_AA_nil, w_AA_cons, w_AE_tup, w_AE_lst, w_AE_cb, w_AE_call, w_AE_callD, w_AT_test, w_AT_b, w_AT_not, w_AT_and, w_AT_or, w_AT_yes, w_AE_ifx, w_AE_and, w_AE_or, w_AE_not, w_AO_none, w_AO_some, w_AI_tup, w_AI_lst, w_AI_rng, w_AI_rng2, w_AI_enum, w_AI_rev, w_AG_name, w_AGs_nil, w_AGs_cons, w_AG_tup, w_AF_ae, w_AF_lst, w_AF_lc, w_AF_list, w_AE_sl, w_AE_revT, w_AE_chain, w_AE_isi, w_AE_view, w_AT_view, w_AE_ownIx, w_AE_ownTup, w_AE_ownSl, w_AS_nop, w_AS_brk, w_AS_cnt, w_AS_seq, w_AS_set, w_AS_asg, w_AS_drop, w_AS_par, w_AS_par3, w_AS_ret, w_AS_retN, w_AS_ifS, w_AS_for, w_AS_while, w_AS_setOwn, w_AS_append, w_AS_setAt, w_AS_frz, w_AS_fgt, w_AS_never, w_AF_lstRg, w_AE_tupRg, w_AS_insert, w_AS_aug, w_AS_parB, w_AS_par3B, w_AS_parA, w_AS_tupA, w_AS_tupB, f_aAdd, f_aMul, f_aEq, f_aNe, f_aIsN, f_aNotN, f_aIx, f_aNeg, f_aLen, f_aRepr, f_aInt, f_aIn, f_aNotIn, f_aIsB, f_aIsNotB, f_aTup, f_aI, f_aI0, f_aB0, f_aMin, f_aMax, q_inL, q_inT, q_notInL, q_notInT, q_isB, q_isNotB, q_addI, q_addT, q_addL, q_int, q_int0, q_bool0, q_mulI, q_mulT, q_mulL, q_eqI, q_eqS, q_neI, q_neS, q_isN, q_notN, q_ixT, q_ixL, q_neg, q_lenT, q_lenL, q_repr, q_two, q_intB, q_tupT, q_tupL, q_slT, q_slL, q_unB, q_unI, q_unT, q_unL, q_unI1, q_unI2, q_unT1, q_unS1T, q_unS1L, q_un1, q_un2, q_un3, q_hd, q_rd, q_ow, q_ctrT, q_ctrI, q_ctrS, q_ctrS2, q_brdT, q_brd0, q_brd1, q_rowI, q_rowT, q_rowT1, q_rowL, q_at0, q_at1, q_at2, q_at3, w_AI_zipM, q_unTL, f_aSortR, sortRF, w_lenSet, w_ext, w_lc2, w_minD, w_AI_zip, q_unTT, w_asgPop, w_ownLst, w_revL, q_unL0, w_parO, w_AF_rep, w_sortSet, wipeE, List.getElem?_cons_zero, List.getElem?_cons_succ, List.set_cons_zero, List.set_cons_succ, if_true, Bool.false_eq_true, if_false, true_and, and_true, Lim, dkS_deck, List.length_cons, List.length_nil, Nat.reduceAdd, Nat.reduceLeDiff, Nat.zero_le, Nat.zero_add, Int.reduceLT, Int.reduceLE, Int.reducePow, Int.reduceNeg, eq_self, decide_true, Bool.not_true, Bool.not_false, q_neB, q_eqB, q_isiR, q_rtT, q_rtT1, q_rtL, q_rtS0, q_rtS1, q_rtI, q_rtA, viewE_cons, viewE_nil, viewS_own, viewS_dat, viewS_deck, flat_int, flat_bool, flat_str, List.cons_append, List.nil_append, b_law_0b2b1b3, p_all, w_pP]
        by_cases c : (n : Int) < 4
        · rw [decide_eq_true c]
          try simp only [w_AE_var, w_AE_int, w_AE_bl, w_AE_str, w_AE_non, w_AE_op, w_AE_un, w_AA_nil, w_AA_cons, w_AE_tup, w_AE_lst, w_AE_cb, w_AE_call, w_AE_callD, w_AT_test, w_AT_b, w_AT_not, w_AT_and, w_AT_or, w_AT_yes, w_AE_ifx, w_AE_and, w_AE_or, w_AE_not, w_AO_none, w_AO_some, w_AI_tup, w_AI_lst, w_AI_rng, w_AI_rng2, w_AI_enum, w_AI_rev, w_AG_name, w_AGs_nil, w_AGs_cons, w_AG_tup, w_AF_ae, w_AF_lst, w_AF_lc, w_AF_list, w_AE_sl, w_AE_revT, w_AE_chain, w_AE_isi, w_AE_view, w_AT_view, w_AE_ownIx, w_AE_ownTup, w_AE_ownSl, w_AS_nop, w_AS_brk, w_AS_cnt, w_AS_seq, w_AS_set, w_AS_asg, w_AS_drop, w_AS_par, w_AS_par3, w_AS_ret, w_AS_retN, w_AS_ifS, w_AS_for, w_AS_while, w_AS_setOwn, w_AS_append, w_AS_setAt, w_AS_frz, w_AS_fgt, w_AS_never, w_AF_lstRg, w_AE_tupRg, w_AS_insert, w_AS_aug, w_AS_parB, w_AS_par3B, w_AS_parA, w_AS_tupA, w_AS_tupB, f_aAdd, f_aMul, f_aEq, f_aNe, f_aIsN, f_aNotN, f_aIx, f_aNeg, f_aLen, f_aRepr, f_aInt, f_aIn, f_aNotIn, f_aIsB, f_aIsNotB, f_aTup, f_aI, f_aI0, f_aB0, f_aMin, f_aMax, q_inL, q_inT, q_notInL, q_notInT, q_isB, q_isNotB, q_addI, q_addT, q_addL, q_int, q_int0, q_bool0, q_mulI, q_mulT, q_mulL, q_eqI, q_eqS, q_neI, q_neS, q_isN, q_notN, q_ixT, q_ixL, q_neg, q_lenT, q_lenL, q_repr, q_two, q_intB, q_tupT, q_tupL, q_slT, q_slL, q_unB, q_unI, q_unT, q_unL, q_unI1, q_unI2, q_unT1, q_unS1T, q_unS1L, q_un1, q_un2, q_un3, q_hd, q_rd, q_ow, q_ctrT, q_ctrI, q_ctrS, q_ctrS2, q_brdT, q_brd0, q_brd1, q_rowI, q_rowT, q_rowT1, q_rowL, q_at0, q_at1, q_at2, q_at3, w_AI_zipM, q_unTL, f_aSortR, sortRF, w_lenSet, w_ext, w_lc2, w_minD, w_AI_zip, q_unTT, w_asgPop, w_ownLst, w_revL, q_unL0, w_parO, w_AF_rep, w_sortSet, wipeE, List.getElem?_cons_zero, List.getElem?_cons_succ, List.set_cons_zero, List.set_cons_succ, if_true, Bool.false_eq_true, if_false, true_and, and_true, Lim, dkS_deck, List.length_cons, List.length_nil, Nat.reduceAdd, Nat.reduceLeDiff, Nat.zero_le, Nat.zero_add, Int.reduceLT, Int.reduceLE, Int.reducePow, Int.reduceNeg, eq_self, decide_true, Bool.not_true, Bool.not_false, q_neB, q_eqB, q_isiR, q_rtT, q_rtT1, q_rtL, q_rtS0, q_rtS1, q_rtI, q_rtA, viewE_cons, viewE_nil, viewS_own, viewS_dat, viewS_deck, flat_int, flat_bool, flat_str, List.cons_append, List.nil_append]
          refine ⟨_, ⟨m, cs, (q : Int), a, n, rfl, by omega, by omega, by omega, hl, by omega, by omega, a0, hok, rfl⟩, ?_⟩
          refine neT pv pv ?_
          rw [eqv_self pv]
          try simp only [w_AE_var, w_AE_int, w_AE_bl, w_AE_str, w_AE_non, w_AE_op, w_AE_un, w_AA_nil, w_AA_cons, w_AE_tup, w_AE_lst, w_AE_cb, w_AE_call, w_AE_callD, w_AT_test, w_AT_b, w_AT_not, w_AT_and, w_AT_or, w_AT_yes, w_AE_ifx, w_AE_and, w_AE_or, w_AE_not, w_AO_none, w_AO_some, w_AI_tup, w_AI_lst, w_AI_rng, w_AI_rng2, w_AI_enum, w_AI_rev, w_AG_name, w_AGs_nil, w_AGs_cons, w_AG_tup, w_AF_ae, w_AF_lst, w_AF_lc, w_AF_list, w_AE_sl, w_AE_revT, w_AE_chain, w_AE_isi, w_AE_view, w_AT_view, w_AE_ownIx, w_AE_ownTup, w_AE_ownSl, w_AS_nop, w_AS_brk, w_AS_cnt, w_AS_seq, w_AS_set, w_AS_asg, w_AS_drop, w_AS_par, w_AS_par3, w_AS_ret, w_AS_retN, w_AS_ifS, w_AS_for, w_AS_while, w_AS_setOwn, w_AS_append, w_AS_setAt, w_AS_frz, w_AS_fgt, w_AS_never, w_AF_lstRg, w_AE_tupRg, w_AS_insert, w_AS_aug, w_AS_parB, w_AS_par3B, w_AS_parA, w_AS_tupA, w_AS_tupB, f_aAdd, f_aMul, f_aEq, f_aNe, f_aIsN, f_aNotN, f_aIx, f_aNeg, f_aLen, f_aRepr, f_aInt, f_aIn, f_aNotIn, f_aIsB, f_aIsNotB, f_aTup, f_aI, f_aI0, f_aB0, f_aMin, f_aMax, q_inL, q_inT, q_notInL, q_notInT, q_isB, q_isNotB, q_addI, q_addT, q_addL, q_int, q_int0, q_bool0, q_mulI, q_mulT, q_mulL, q_eqI, q_eqS, q_neI, q_neS, q_isN, q_notN, q_ixT, q_ixL, q_neg, q_lenT, q_lenL, q_repr, q_two, q_intB, q_tupT, q_tupL, q_slT, q_slL, q_unB, q_unI, q_unT, q_unL, q_unI1, q_unI2, q_unT1, q_unS1T, q_unS1L, q_un1, q_un2, q_un3, q_hd, q_rd, q_ow, q_ctrT, q_ctrI, q_ctrS, q_ctrS2, q_brdT, q_brd0, q_brd1, q_rowI, q_rowT, q_rowT1, q_rowL, q_at0, q_at1, q_at2, q_at3, w_AI_zipM, q_unTL, f_aSortR, sortRF, w_lenSet, w_ext, w_lc2, w_minD, w_AI_zip, q_unTT, w_asgPop, w_ownLst, w_revL, q_unL0, w_parO, w_AF_rep, w_sortSet, wipeE, List.getElem?_cons_zero, List.getElem?_cons_succ, List.set_cons_zero, List.set_cons_succ, if_true, Bool.false_eq_true, if_false, true_and, and_true, Lim, dkS_deck, List.length_cons, List.length_nil, Nat.reduceAdd, Nat.reduceLeDiff, Nat.zero_le, Nat.zero_add, Int.reduceLT, Int.reduceLE, Int.reducePow, Int.reduceNeg, eq_self, decide_true, Bool.not_true, Bool.not_false, q_neB, q_eqB, q_isiR, q_rtT, q_rtT1, q_rtL, q_rtS0, q_rtS1, q_rtI, q_rtA, viewE_cons, viewE_nil, viewS_own, viewS_dat, viewS_deck, flat_int, flat_bool, flat_str, List.cons_append, List.nil_append]
          exact ⟨_, _, _, rfl⟩
        · rw [decide_eq_false c]
          try simp only [w_AE_var, w_AE_int, w_AE_bl, w_AE_str, w_AE_non, w_AE_op, w_AE_un, w_AA_nil, w_AA_cons, w_AE_tup, w_AE_lst, w_AE_cb, w_AE_call, w_AE_callD, w_AT_test, w_AT_b, w_AT_not, w_AT_and, w_AT_or, w_AT_yes, w_AE_ifx, w_AE_and, w_AE_or, w_AE_not, w_AO_none, w_AO_some, w_AI_tup, w_AI_lst, w_AI_rng, w_AI_rng2, w_AI_enum, w_AI_rev, w_AG_name, w_AGs_nil, w_AGs_cons, w_AG_tup, w_AF_ae, w_AF_lst, w_AF_lc, w_AF_list, w_AE_sl, w_AE_revT, w_AE_chain, w_AE_isi, w_AE_view, w_AT_view, w_AE_ownIx, w_AE_ownTup, w_AE_ownSl, w_AS_nop, w_AS_brk, w_AS_cnt, w_AS_seq, w_AS_set, w_AS_asg, w_AS_drop, w_AS_par, w_AS_par3, w_AS_ret, w_AS_retN, w_AS_ifS, w_AS_for, w_AS_while, w_AS_setOwn, w_AS_append, w_AS_setAt, w_AS_frz, w_AS_fgt, w_AS_never, w_AF_lstRg, w_AE_tupRg, w_AS_insert, w_AS_aug, w_AS_parB, w_AS_par3B, w_AS_parA, w_AS_tupA, w_AS_tupB, f_aAdd, f_aMul, f_aEq, f_aNe, f_aIsN, f_aNotN, f_aIx, f_aNeg, f_aLen, f_aRepr, f_aInt, f_aIn, f_aNotIn, f_aIsB, f_aIsNotB, f_aTup, f_aI, f_aI0, f_aB0, f_aMin, f_aMax, q_inL, q_inT, q_notInL, q_notInT, q_isB, q_isNotB, q_addI, q_addT, q_addL, q_int, q_int0, q_bool0, q_mulI, q_mulT, q_mulL, q_eqI, q_eqS, q_neI, q_neS, q_isN, q_notN, q_ixT, q_ixL, q_neg, q_lenT, q_lenL, q_repr, q_two, q_intB, q_tupT, q_tupL, q_slT, q_slL, q_unB, q_unI, q_unT, q_unL, q_unI1, q_unI2, q_unT1, q_unS1T, q_unS1L, q_un1, q_un2, q_un3, q_hd, q_rd, q_ow, q_ctrT, q_ctrI, q_ctrS, q_ctrS2, q_brdT, q_brd0, q_brd1, q_rowI, q_rowT, q_rowT1, q_rowL, q_at0, q_at1, q_at2, q_at3, w_AI_zipM, q_unTL, f_aSortR, sortRF, w_lenSet, w_ext, w_lc2, w_minD, w_AI_zip, q_unTT, w_asgPop, w_ownLst, w_revL, q_unL0, w_parO, w_AF_rep, w_sortSet, wipeE, List.getElem?_cons_zero, List.getElem?_cons_succ, List.set_cons_zero, List.set_cons_succ, if_true, Bool.false_eq_true, if_false, true_and, and_true, Lim, dkS_deck, List.length_cons, List.length_nil, Nat.reduceAdd, Nat.reduceLeDiff, Nat.zero_le, Nat.zero_add, Int.reduceLT, Int.reduceLE, Int.reducePow, Int.reduceNeg, eq_self, decide_true, Bool.not_true, Bool.not_false, q_neB, q_eqB, q_isiR, q_rtT, q_rtT1, q_rtL, q_rtS0, q_rtS1, q_rtI, q_rtA, viewE_cons, viewE_nil, viewS_own, viewS_dat, viewS_deck, flat_int, flat_bool, flat_str, List.cons_append, List.nil_append]
          exact ⟨_, _, _, rfl⟩
      · rintro e s2 ⟨y9, y10, y11, rfl, rfl⟩
        exact ⟨_, _, _, _, _, rfl, rfl⟩
    · rintro e s ⟨y7, y8, y9, y10, y11, rfl, rfl⟩
      have pv : Pl 64 (.tuple (vecL m (itA cs (s0 0 a) 4))) := (pl_vec (m := m) (x := itA cs (s0 0 a) 4)).mono (by decide)
      simp only [w_AE_var, w_AE_int, w_AE_bl, w_AE_str, w_AE_non, w_AE_op, w_AE_un, w_AA_nil, w_AA_cons, w_AE_tup, w_AE_lst, w_AE_cb, w_AE_call, w_AE_callD, w_AT_test, w_AT_b, w_AT_not, w_AT_and, w_AT_or, w_AT_yes, w_AE_ifx, w_AE_and, w_AE_or, w_AE_not, w_AO_none, w_AO_some, w_AI_tup, w_AI_lst, w_AI_rng, w_AI_rng2, w_AI_enum, w_AI_rev, w_AG_name, w_AGs_nil, w_AGs_cons, w_AG_tup, w_AF_ae, w_AF_lst, w_AF_lc, w_AF_list, w_AE_sl, w_AE_revT, w_AE_chain, w_AE_isi, w_AE_view, w_AT_view, w_AE_ownIx, w_AE_ownTup, w_AE_ownSl, w_AS_nop, w_AS_brk, w_AS_cnt, w_AS_seq, w_AS_set, w_AS_asg, w_AS_drop, w_AS_par, w_AS_par3, w_AS_ret, w_AS_retN, w_AS_ifS, w_AS_for, w_AS_while, w_AS_setOwn, w_AS_append, w_AS_setAt, w_AS_frz, w_AS_fgt, w_AS_never, w_AF_lstRg, w_AE_tupRg, w_AS_insert, w_AS_aug, w_AS_parB, w_AS_par3B, w_AS_parA, w_AS_tupA, w_AS_tupB, f_aAdd, f_aMul, f_aEq, f_aNe, f_aIsN, f_aNotN, f_aIx, f_aNeg, f_aLen, f_aRepr, f_aInt, f_aIn, f_aNotIn, f_aIsB, f_aIsNotB, f_aTup, f_aI, f_aI0, f_aB0, f_aMin, f_aMax, q_inL, q_inT, q_notInL, q_notInT, q_isB, q_isNotB, q_addI, q_addT, q_addL, q_int, q_int0, q_bool0, q_mulI, q_mulT, q_mulL, q_eqI, q_eqS, q_neI, q_neS, q_isN, q_notN, q_ixT, q_ixL, q_neg, q_lenT, q_lenL, q_repr, q_two, q_intB, q_tupT, q_tupL, q_slT, q_slL, q_unB, q_unI, q_unT, q_unL, q_unI1, q_unI2, q_unT1, q_unS1T, q_unS1L, q_un1, q_un2, q_un3, q_hd, q_rd, q_ow, q_ctrT, q_ctrI, q_ctrS, q_ctrS2, q_brdT, q_brd0, q_brd1, q_rowI, q_rowT, q_rowT1, q_rowL, q_at0, q_at1, q_at2, q_at3, w_AI_zipM, q_unTL, f_aSortR, sortRF, w_lenSet, w_ext, w_lc2, w_minD, w_AI_zip, q_unTT, w_asgPop, w_ownLst, w_revL, q_unL0, w_parO, w_AF_rep, w_sortSet, wipeE, List.getElem?_cons_zero, List.getElem?_cons_succ, List.set_cons_zero, List.set_cons_succ, if_true, Bool.false_eq_true, if_false, true_and, and_true, Lim, dkS_deck, List.length_cons, List.length_nil, Nat.reduceAdd, Nat.reduceLeDiff, Nat.zero_le, Nat.zero_add, Int.reduceLT, Int.reduceLE, Int.reducePow, Int.reduceNeg, eq_self, decide_true, Bool.not_true, Bool.not_false, q_neB, q_eqB, q_isiR, q_rtT, q_rtT1, q_rtL, q_rtS0, q_rtS1, q_rtI, q_rtA, viewE_cons, viewE_nil, viewS_own, viewS_dat, viewS_deck, flat_int, flat_bool, flat_str, List.cons_append, List.nil_append, b_law_0b3, p_all, p_within, w_pP]
      refine ⟨_, ⟨m, cs, 0, a, 4, rfl, by omega, by omega, by decide, hl, by decide, by omega, a0, hok, rfl⟩, _, ⟨m, cs, 0, a, 4, rfl, by omega, by omega, hok, rfl⟩, ?_⟩
      refine neT pv pv ?_
      rw [eqv_self pv]
      simp only [w_AE_var, w_AE_int, w_AE_bl, w_AE_str, w_AE_non, w_AE_op, w_AE_un, w_AA_nil, w_AA_cons, w_AE_tup, w_AE_lst, w_AE_cb, w_AE_call, w_AE_callD, w_AT_test, w_AT_b, w_AT_not, w_AT_and, w_AT_or, w_AT_yes, w_AE_ifx, w_AE_and, w_AE_or, w_AE_not, w_AO_none, w_AO_some, w_AI_tup, w_AI_lst, w_AI_rng, w_AI_rng2, w_AI_enum, w_AI_rev, w_AG_name, w_AGs_nil, w_AGs_cons, w_AG_tup, w_AF_ae, w_AF_lst, w_AF_lc, w_AF_list, w_AE_sl, w_AE_revT, w_AE_chain, w_AE_isi, w_AE_view, w_AT_view, w_AE_ownIx, w_AE_ownTup, w_AE_ownSl, w_AS_nop, w_AS_brk, w_AS_cnt, w_AS_seq, w_AS_set, w_AS_asg, w_AS_drop, w_AS_par, w_AS_par3, w_AS_ret, w_AS_retN, w_AS_ifS, w_AS_for, w_AS_while, w_AS_setOwn, w_AS_append, w_AS_setAt, w_AS_frz, w_AS_fgt, w_AS_never, w_AF_lstRg, w_AE_tupRg, w_AS_insert, w_AS_aug, w_AS_parB, w_AS_par3B, w_AS_parA, w_AS_tupA, w_AS_tupB, f_aAdd, f_aMul, f_aEq, f_aNe, f_aIsN, f_aNotN, f_aIx, f_aNeg, f_aLen, f_aRepr, f_aInt, f_aIn, f_aNotIn, f_aIsB, f_aIsNotB, f_aTup, f_aI, f_aI0, f_aB0, f_aMin, f_aMax, q_inL, q_inT, q_notInL, q_notInT, q_isB, q_isNotB, q_addI, q_addT, q_addL, q_int, q_int0, q_bool0, q_mulI, q_mulT, q_mulL, q_eqI, q_eqS, q_neI, q_neS, q_isN, q_notN, q_ixT, q_ixL, q_neg, q_lenT, q_lenL, q_repr, q_two, q_intB, q_tupT, q_tupL, q_slT, q_slL, q_unB, q_unI, q_unT, q_unL, q_unI1, q_unI2, q_unT1, q_unS1T, q_unS1L, q_un1, q_un2, q_un3, q_hd, q_rd, q_ow, q_ctrT, q_ctrI, q_ctrS, q_ctrS2, q_brdT, q_brd0, q_brd1, q_rowI, q_rowT, q_rowT1, q_rowL, q_at0, q_at1, q_at2, q_at3, w_AI_zipM, q_unTL, f_aSortR, sortRF, w_lenSet, w_ext, w_lc2, w_minD, w_AI_zip, q_unTT, w_asgPop, w_ownLst, w_revL, q_unL0, w_parO, w_AF_rep, w_sortSet, wipeE, List.getElem?_cons_zero, List.getElem?_cons_succ, List.set_cons_zero, List.set_cons_succ, if_true, Bool.false_eq_true, if_false, true_and, and_true, Lim, dkS_deck, List.length_cons, List.length_nil, Nat.reduceAdd, Nat.reduceLeDiff, Nat.zero_le, Nat.zero_add, Int.reduceLT, Int.reduceLE, Int.reducePow, Int.reduceNeg, eq_self, decide_true, Bool.not_true, Bool.not_false, q_neB, q_eqB, q_isiR, q_rtT, q_rtT1, q_rtL, q_rtS0, q_rtS1, q_rtI, q_rtA, viewE_cons, viewE_nil, viewS_own, viewS_dat, viewS_deck, flat_int, flat_bool, flat_str, List.cons_append, List.nil_append, b_law_0b4]
      exact ⟨shB, _, _, _, _, _, _, _, _, _, _, rfl, by omega⟩
  · rintro e t ⟨y2, y3, y4, y5, y6, y7, y8, y9, y10, y11, rfl, lt⟩
    simp only [w_AE_var, w_AE_int, w_AE_bl, w_AE_str, w_AE_non, w_AE_op, w_AE_un, w_AA_nil, w_AA_cons, w_AE_tup, w_AE_lst, w_AE_cb, w_AE_call, w_AE_callD, w_AT_test, w_AT_b, w_AT_not, w_AT_and, w_AT_or, w_AT_yes, w_AE_ifx, w_AE_and, w_AE_or, w_AE_not, w_AO_none, w_AO_some, w_AI_tup, w_AI_lst, w_AI_rng, w_AI_rng2, w_AI_enum, w_AI_rev, w_AG_name, w_AGs_nil, w_AGs_cons, w_AG_tup, w_AF_ae, w_AF_lst, w_AF_lc, w_AF_list, w_AE_sl, w_AE_revT, w_AE_chain, w_AE_isi, w_AE_view, w_AT_view, w_AE_ownIx, w_AE_ownTup, w_AE_ownSl, w_AS_nop, w_AS_brk, w_AS_cnt, w_AS_seq, w_AS_set, w_AS_asg, w_AS_drop, w_AS_par, w_AS_par3, w_AS_ret, w_AS_retN, w_AS_ifS, w_AS_for, w_AS_while, w_AS_setOwn, w_AS_append, w_AS_setAt, w_AS_frz, w_AS_fgt, w_AS_never, w_AF_lstRg, w_AE_tupRg, w_AS_insert, w_AS_aug, w_AS_parB, w_AS_par3B, w_AS_parA, w_AS_tupA, w_AS_tupB, f_aAdd, f_aMul, f_aEq, f_aNe, f_aIsN, f_aNotN, f_aIx, f_aNeg, f_aLen, f_aRepr, f_aInt, f_aIn, f_aNotIn, f_aIsB, f_aIsNotB, f_aTup, f_aI, f_aI0, f_aB0, f_aMin, f_aMax, q_inL, q_inT, q_notInL, q_notInT, q_isB, q_isNotB, q_addI, q_addT, q_addL, q_int, q_int0, q_bool0, q_mulI, q_mulT, q_mulL, q_eqI, q_eqS, q_neI, q_neS, q_isN, q_notN, q_ixT, q_ixL, q_neg, q_lenT, q_lenL, q_repr, q_two, q_intB, q_tupT, q_tupL, q_slT, q_slL, q_unB, q_unI, q_unT, q_unL, q_unI1, q_unI2, q_unT1, q_unS1T, q_unS1L, q_un1, q_un2, q_un3, q_hd, q_rd, q_ow, q_ctrT, q_ctrI, q_ctrS, q_ctrS2, q_brdT, q_brd0, q_brd1, q_rowI, q_rowT, q_rowT1, q_rowL, q_at0, q_at1, q_at2, q_at3, w_AI_zipM, q_unTL, f_aSortR, sortRF, w_lenSet, w_ext, w_lc2, w_minD, w_AI_zip, q_unTT, w_asgPop, w_ownLst, w_revL, q_unL0, w_parO, w_AF_rep, w_sortSet, wipeE, List.getElem?_cons_zero, List.getElem?_cons_succ, List.set_cons_zero, List.set_cons_succ, if_true, Bool.false_eq_true, if_false, true_and, and_true, Lim, dkS_deck, List.length_cons, List.length_nil, Nat.reduceAdd, Nat.reduceLeDiff, Nat.zero_le, Nat.zero_add, Int.reduceLT, Int.reduceLE, Int.reducePow, Int.reduceNeg, eq_self, decide_true, Bool.not_true, Bool.not_false, q_neB, q_eqB, q_isiR, q_rtT, q_rtT1, q_rtL, q_rtS0, q_rtS1, q_rtI, q_rtA, viewE_cons, viewE_nil, viewS_own, viewS_dat, viewS_deck, flat_int, flat_bool, flat_str, List.cons_append, List.nil_append, b_law_1]
end
end CG

namespace CG
open PySem PySem.Spec PyProof.Rows L2
section
theorem all_mk {l : PySem.W.OpenLaw} {w : World} {K : PySem.W.Frag} {h : Heap} {mg : Str → Option Value} {fa f1 f2 f3 f4 f5 f6 f7 f8 f9 f10 f11 f12 : Addr} (X : K.In h) (G : h.Ns mainGlobals mg) (hfa : mg "law" = some (.ref fa))
    {od1 an1 od2 an2 od3 an3 od4 an4 od5 an5 od6 an6 od7 an7 od8 an8 od9 an9 od10 an10 od11 an11 od12 an12 : Option Addr} {sl1 sl2 sl3 sl4 sl5 sl6 sl7 sl8 sl9 sl10 sl11 sl12 : Array (Option Value)}
    {oc1 kV1 dc1 pm1 cd1 ct1 oc2 kV2 dc2 pm2 cd2 ct2 oc3 kV3 dc3 pm3 cd3 ct3 oc4 kV4 dc4 pm4 cd4 ct4 oc5 kV5 dc5 pm5 cd5 ct5 oc6 kV6 dc6 pm6 cd6 ct6 oc7 kV7 dc7 pm7 cd7 ct7 oc8 kV8 dc8 pm8 cd8 ct8 oc9 kV9 dc9 pm9 cd9 ct9 oc10 kV10 dc10 pm10 cd10 ct10 oc11 kV11 dc11 pm11 cd11 ct11 oc12 kV12 dc12 pm12 cd12 ct12 : Value}
    (a1 : PySem.W.nsIn K mainGlobals "_law_draws" = some (some (.ref f1)))
    (l1 : K.lookup f1 = some ⟨oc1, od1, .func (PySem.W.fnOf "_law_draws" "_law_draws" (defArgs sDraws) (defBody sDraws) (defScope sDraws) .none kV1 dc1 pm1 an1 cd1 ct1), sl1⟩)
    (c1 : PySem.W.codeIn K cd1 "_law_draws" = true) (k1 : PySem.W.keepIn K (.ref f1) = true)
    (a2 : PySem.W.nsIn K mainGlobals "_law_next" = some (some (.ref f2)))
    (l2 : K.lookup f2 = some ⟨oc2, od2, .func (PySem.W.fnOf "_law_next" "_law_next" (defArgs sNext) (defBody sNext) (defScope sNext) .none kV2 dc2 pm2 an2 cd2 ct2), sl2⟩)
    (c2 : PySem.W.codeIn K cd2 "_law_next" = true) (k2 : PySem.W.keepIn K (.ref f2) = true)
    (a3 : PySem.W.nsIn K mainGlobals "_law_board" = some (some (.ref f3)))
    (l3 : K.lookup f3 = some ⟨oc3, od3, .func (PySem.W.fnOf "_law_board" "_law_board" (defArgs sBoard) (defBody sBoard) (defScope sBoard) .none kV3 dc3 pm3 an3 cd3 ct3), sl3⟩)
    (c3 : PySem.W.codeIn K cd3 "_law_board" = true) (k3 : PySem.W.keepIn K (.ref f3) = true)
    (a4 : PySem.W.nsIn K mainGlobals "_law_changed" = some (some (.ref f4)))
    (l4 : K.lookup f4 = some ⟨oc4, od4, .func (PySem.W.fnOf "_law_changed" "_law_changed" (defArgs sLchanged) (defBody sLchanged) (defScope sLchanged) .none kV4 dc4 pm4 an4 cd4 ct4), sl4⟩)
    (c4 : PySem.W.codeIn K cd4 "_law_changed" = true) (k4 : PySem.W.keepIn K (.ref f4) = true)
    (a5 : PySem.W.nsIn K mainGlobals "_law_amount" = some (some (.ref f5)))
    (l5 : K.lookup f5 = some ⟨oc5, od5, .func (PySem.W.fnOf "_law_amount" "_law_amount" (defArgs sAmount) (defBody sAmount) (defScope sAmount) .none kV5 dc5 pm5 an5 cd5 ct5), sl5⟩)
    (c5 : PySem.W.codeIn K cd5 "_law_amount" = true) (k5 : PySem.W.keepIn K (.ref f5) = true)
    (a6 : PySem.W.nsIn K mainGlobals "_law_all" = some (some (.ref f6)))
    (l6 : K.lookup f6 = some ⟨oc6, od6, .func (PySem.W.fnOf "_law_all" "_law_all" (defArgs sAll) (defBody sAll) (defScope sAll) .none kV6 dc6 pm6 an6 cd6 ct6), sl6⟩)
    (c6 : PySem.W.codeIn K cd6 "_law_all" = true) (k6 : PySem.W.keepIn K (.ref f6) = true)
    (a7 : PySem.W.nsIn K mainGlobals "_law_layers" = some (some (.ref f7)))
    (l7 : K.lookup f7 = some ⟨oc7, od7, .func (PySem.W.fnOf "_law_layers" "_law_layers" (defArgs sLayers) (defBody sLayers) (defScope sLayers) .none kV7 dc7 pm7 an7 cd7 ct7), sl7⟩)
    (c7 : PySem.W.codeIn K cd7 "_law_layers" = true) (k7 : PySem.W.keepIn K (.ref f7) = true)
    (a8 : PySem.W.nsIn K mainGlobals "changed" = some (some (.ref f8)))
    (l8 : K.lookup f8 = some ⟨oc8, od8, .func (PySem.W.fnOf "changed" "changed" (defArgs sPChanged) (defBody sPChanged) (defScope sPChanged) .none kV8 dc8 pm8 an8 cd8 ct8), sl8⟩)
    (c8 : PySem.W.codeIn K cd8 "changed" = true) (k8 : PySem.W.keepIn K (.ref f8) = true)
    (a9 : PySem.W.nsIn K mainGlobals "start_numbers" = some (some (.ref f9)))
    (l9 : K.lookup f9 = some ⟨oc9, od9, .func (PySem.W.fnOf "start_numbers" "start_numbers" (defArgs sPStart_numbers) (defBody sPStart_numbers) (defScope sPStart_numbers) .none kV9 dc9 pm9 an9 cd9 ct9), sl9⟩)
    (c9 : PySem.W.codeIn K cd9 "start_numbers" = true) (k9 : PySem.W.keepIn K (.ref f9) = true)
    (a10 : PySem.W.nsIn K mainGlobals "after_one_more" = some (some (.ref f10)))
    (l10 : K.lookup f10 = some ⟨oc10, od10, .func (PySem.W.fnOf "after_one_more" "after_one_more" (defArgs sPAfter_one_more) (defBody sPAfter_one_more) (defScope sPAfter_one_more) .none kV10 dc10 pm10 an10 cd10 ct10), sl10⟩)
    (c10 : PySem.W.codeIn K cd10 "after_one_more" = true) (k10 : PySem.W.keepIn K (.ref f10) = true)
    (a11 : PySem.W.nsIn K mainGlobals "best_within" = some (some (.ref f11)))
    (l11 : K.lookup f11 = some ⟨oc11, od11, .func (PySem.W.fnOf "best_within" "best_within" (defArgs sPBest_within) (defBody sPBest_within) (defScope sPBest_within) .none kV11 dc11 pm11 an11 cd11 ct11), sl11⟩)
    (c11 : PySem.W.codeIn K cd11 "best_within" = true) (k11 : PySem.W.keepIn K (.ref f11) = true)
    (a12 : PySem.W.nsIn K mainGlobals "law" = some (some (.ref f12)))
    (l12 : K.lookup f12 = some ⟨oc12, od12, .func (PySem.W.fnOf "law" "law" (defArgs sLaw) (defBody sLaw) (defScope sLaw) .none kV12 dc12 pm12 an12 cd12 ct12), sl12⟩)
    (c12 : PySem.W.codeIn K cd12 "law" = true) (k12 : PySem.W.keepIn K (.ref f12) = true)
    (z_len : PySem.W.nsIn K mainGlobals "len" = some none)
    (z_abs : PySem.W.nsIn K mainGlobals "abs" = some none)
    (z_range : PySem.W.nsIn K mainGlobals "range" = some none)
    (z_repr : PySem.W.nsIn K mainGlobals "repr" = some none)
    (z_min : PySem.W.nsIn K mainGlobals "min" = some none)
    (z_max : PySem.W.nsIn K mainGlobals "max" = some none)
    (z_int : PySem.W.nsIn K mainGlobals "int" = some none)
    (z_tuple : PySem.W.nsIn K mainGlobals "tuple" = some none)
    (z_list : PySem.W.nsIn K mainGlobals "list" = some none)
    (z_bool : PySem.W.nsIn K mainGlobals "bool" = some none)
    (z_isinstance : PySem.W.nsIn K mainGlobals "isinstance" = some none)
    (z_enumerate : PySem.W.nsIn K mainGlobals "enumerate" = some none)
    (zso : PySem.W.nsIn K mainGlobals "sorted" = some none)
    (zse : PySem.W.nsIn K mainGlobals "set" = some none) :
    ∃ fd : FuncData, (∀ (s : Shared) (v : Value), BindsTo s fd ⟨[v], []⟩ [("_law_script", v)]) ∧ ∀ base : Heap, K.In base → base.Ns mainGlobals mg → FnG l.prog w K mg base CX0 4 fa fd ["_law_script"] (spLaw K) := by
  have e := hfa.symm.trans (PySem.W.mg_of X G a12)
  cases e
  have F1 := fun_mk (st := sDraws) l1 c1 k1
  have T1 : Has K mg "_law_draws" sDraws ["_law_script"] f1 _ := ⟨F1, PySem.W.mg_of X G a1, F1.binds fun _ _ _ _ _ _ us hl => match us, hl with | [_], _ => rfl⟩
  have F2 := fun_mk (st := sNext) l2 c2 k2
  have T2 : Has K mg "_law_next" sNext ["_law_state", "_law_many"] f2 _ := ⟨F2, PySem.W.mg_of X G a2, F2.binds fun _ _ _ _ _ _ us hl => match us, hl with | [_, _], _ => rfl⟩
  have F3 := fun_mk (st := sBoard) l3 c3 k3
  have T3 : Has K mg "_law_board" sBoard ["_law_state", "_law_most", "_law_counters"] f3 _ := ⟨F3, PySem.W.mg_of X G a3, F3.binds fun _ _ _ _ _ _ us hl => match us, hl with | [_, _, _], _ => rfl⟩
  have F4 := fun_mk (st := sLchanged) l4 c4 k4
  have T4 : Has K mg "_law_changed" sLchanged ["_law_counter", "_law_amount_here"] f4 _ := ⟨F4, PySem.W.mg_of X G a4, F4.binds fun _ _ _ _ _ _ us hl => match us, hl with | [_, _], _ => rfl⟩
  have F5 := fun_mk (st := sAmount) l5 c5 k5
  have T5 : Has K mg "_law_amount" sAmount ["_law_state"] f5 _ := ⟨F5, PySem.W.mg_of X G a5, F5.binds fun _ _ _ _ _ _ us hl => match us, hl with | [_], _ => rfl⟩
  have F6 := fun_mk (st := sAll) l6 c6 k6
  have T6 : Has K mg "_law_all" sAll ["_law_board_here", "_law_kind", "_law_amount_here", "_law_steps"] f6 _ := ⟨F6, PySem.W.mg_of X G a6, F6.binds fun _ _ _ _ _ _ us hl => match us, hl with | [_, _, _, _], _ => rfl⟩
  have F7 := fun_mk (st := sLayers) l7 c7 k7
  have T7 : Has K mg "_law_layers" sLayers ["_law_board_here", "_law_kind", "_law_amount_here", "_law_steps"] f7 _ := ⟨F7, PySem.W.mg_of X G a7, F7.binds fun _ _ _ _ _ _ us hl => match us, hl with | [_, _, _, _], _ => rfl⟩
  have F8 := fun_mk (st := sPChanged) l8 c8 k8
  have T8 : Has K mg "changed" sPChanged ["counter", "amount"] f8 _ := ⟨F8, PySem.W.mg_of X G a8, F8.binds fun _ _ _ _ _ _ us hl => match us, hl with | [_, _], _ => rfl⟩
  have F9 := fun_mk (st := sPStart_numbers) l9 c9 k9
  have T9 : Has K mg "start_numbers" sPStart_numbers ["board", "kind", "amount"] f9 _ := ⟨F9, PySem.W.mg_of X G a9, F9.binds fun _ _ _ _ _ _ us hl => match us, hl with | [_, _, _], _ => rfl⟩
  have F10 := fun_mk (st := sPAfter_one_more) l10 c10 k10
  have T10 : Has K mg "after_one_more" sPAfter_one_more ["board", "numbers"] f10 _ := ⟨F10, PySem.W.mg_of X G a10, F10.binds fun _ _ _ _ _ _ us hl => match us, hl with | [_, _], _ => rfl⟩
  have F11 := fun_mk (st := sPBest_within) l11 c11 k11
  have T11 : Has K mg "best_within" sPBest_within ["board", "kind", "amount", "steps"] f11 _ := ⟨F11, PySem.W.mg_of X G a11, F11.binds fun _ _ _ _ _ _ us hl => match us, hl with | [_, _, _, _], _ => rfl⟩
  have F12 := fun_mk (st := sLaw) l12 c12 k12
  have T12 : Has K mg "law" sLaw ["_law_script"] _ _ := ⟨F12, PySem.W.mg_of X G a12, F12.binds fun _ _ _ _ _ _ us hl => match us, hl with | [_], _ => rfl⟩
  have T : Bz mg := ⟨PySem.W.mg_none_of X G z_len, PySem.W.mg_none_of X G z_abs, PySem.W.mg_none_of X G z_range, PySem.W.mg_none_of X G z_repr, PySem.W.mg_none_of X G z_min, PySem.W.mg_none_of X G z_max, PySem.W.mg_none_of X G z_int, PySem.W.mg_none_of X G z_tuple, PySem.W.mg_none_of X G z_list, PySem.W.mg_none_of X G z_bool, PySem.W.mg_none_of X G z_isinstance, PySem.W.mg_none_of X G z_enumerate⟩
  have T_sorted := PySem.W.mg_none_of X G zso
  have T_set := PySem.W.mg_none_of X G zse
  exact ⟨PySem.W.fnOf "law" "law" (defArgs sLaw) (defBody sLaw) (defScope sLaw) .none kV12 dc12 pm12 an12 cd12 ct12, fun s v => .of_eq rfl, fun base _ _ => by
    have G2 := ok_next (P := l.prog) (w := w) (base := base) T2 T
    have Gc := ok_changed (P := l.prog) (w := w) (base := base) T8 T
    have Glc := ok_lchanged (P := l.prog) (w := w) (base := base) T4 T
    have Gw := ok_within (P := l.prog) (w := w) (base := base) T11 T T9 (ok_snum T9 T) T10 (ok_one T10 T T8 Gc)
    have Gal := ok_all (P := l.prog) (w := w) (base := base) T6 T T_sorted T_set T4 Glc
    have Gly := ok_layers (P := l.prog) (w := w) (base := base) T7 T
    exact ok_law T12 T T1 T2 T3 T5 T7 T6 T11 (ok_draws T1 T) G2 (ok_board T3 T T2 G2) (ok_amount T5 T T2 G2) Gly Gal Gw⟩
end
end CG
open PySem PySem.W PyProof.Rows
set_option maxRecDepth 100000 in
set_option maxHeartbeats 0 in
theorem PySem.Challenge.cw_coincounters_k24_best_within_steps_holds : PySem.Challenge.rw_coincounters_k24_best_within_steps.Holds := by
  w_on; o_law; k_head; (case hw => w_witness2)
  k_fill
  refine CG.walkG (l := PySem.Challenge.rw_coincounters_k24_best_within_steps) (n := 63) (k := 4) (x := "_law_script") (cx := fun _ => L2.CX0) (sp := fun w => CG.spLaw _) rfl (by decide) rfl ⟨rfl, by decide, by decide⟩ (fun w h Y => PySem.W.kIn_of Y) ?F (fun _ _ a ns hl _ hS => ⟨a, ns, rfl, hS, fun _ => rfl⟩) fun _ _ _ _ _ z => z
  case F =>
    intro w mg fa h KX G hmg
    refine' CG.all_mk KX G hmg ?a1 ?l1 ?c1 ?k1 ?a2 ?l2 ?c2 ?k2 ?a3 ?l3 ?c3 ?k3 ?a4 ?l4 ?c4 ?k4 ?a5 ?l5 ?c5 ?k5 ?a6 ?l6 ?c6 ?k6 ?a7 ?l7 ?c7 ?k7 ?a8 ?l8 ?c8 ?k8 ?a9 ?l9 ?c9 ?k9 ?a10 ?l10 ?c10 ?k10 ?a11 ?l11 ?c11 ?k11 ?a12 ?l12 ?c12 ?k12 ?z_len ?z_abs ?z_range ?z_repr ?z_min ?z_max ?z_int ?z_tuple ?z_list ?z_bool ?z_isinstance ?z_enumerate ?zso ?zse
    (case a1 => k_is); (case l1 => k_is); (case c1 => k_is); (case k1 => k_is)
    (case a2 => k_is); (case l2 => k_is); (case c2 => k_is); (case k2 => k_is)
    (case a3 => k_is); (case l3 => k_is); (case c3 => k_is); (case k3 => k_is)
    (case a4 => k_is); (case l4 => k_is); (case c4 => k_is); (case k4 => k_is)
    (case a5 => k_is); (case l5 => k_is); (case c5 => k_is); (case k5 => k_is)
    (case a6 => k_is); (case l6 => k_is); (case c6 => k_is); (case k6 => k_is)
    (case a7 => k_is); (case l7 => k_is); (case c7 => k_is); (case k7 => k_is)
    (case a8 => k_is); (case l8 => k_is); (case c8 => k_is); (case k8 => k_is)
    (case a9 => k_is); (case l9 => k_is); (case c9 => k_is); (case k9 => k_is)
    (case a10 => k_is); (case l10 => k_is); (case c10 => k_is); (case k10 => k_is)
    (case a11 => k_is); (case l11 => k_is); (case c11 => k_is); (case k11 => k_is)
    (case a12 => k_is); (case l12 => k_is); (case c12 => k_is); (case k12 => k_is)
    (case z_len => k_is); (case z_abs => k_is); (case z_range => k_is); (case z_repr => k_is)
    (case z_min => k_is); (case z_max => k_is); (case z_int => k_is); (case z_tuple => k_is)
    (case z_list => k_is); (case z_bool => k_is); (case z_isinstance => k_is); (case z_enumerate => k_is)
    (case zso => k_is); (case zse => k_is)

