import PyProof.Rows.All
import Wide.All
import OpenK.AllK
import Wide.FinOn
import HandS.ForMost
import HandS.ForExc
import HandS.EndBits
import PyProof.ReprLen
import PyProof.ReprRoads
import PyProof.FitsInt
import HandS.TupAny
import HandS.Iter
import HandS.ExcIs
import HandS.TupMul
import HandS.IsInst
import HandS.Style
import KE.GoesMore
import KE.GoesEnum
import PySem.Challenge.RW_coincounters_k00_boards_judged
set_option Elab.async false
set_option linter.all false
set_option maxRecDepth 100000
set_option maxHeartbeats 4000000
/-! Part 1: promises of defs that are called where no repr is under way. -/
namespace CG
open PySem PySem.Spec PyProof.Rows L2
/-- the def at f keeps the promise sp wherever no guard is up and there is room -/
structure FnG (pr : Program) (wo : World) (K : PySem.W.Frag) (mg : Str → Option Value) (ba : Heap) (cx : CXT)
    (k : Nat) (f : Addr) (fd : FuncData) (ps : List Str) (sp : Sp) : Prop where
  len : ∀ vs H Q E, sp vs H Q E → vs.length = ps.length
  run : ∀ (A : Around) (out : List Env) (s : Shared) (H : Hp) (ar : Args) (us : List Value) (vs : List V) (Q : VK) (E : XK),
    A.guards = some [] → Room k A → Env0 pr wo K mg ba A out s H → BindsTo s fd ar (ps.zip us) → Vals vs us → sp vs H Q E →
    codeAny (model pr wo) A (.call (.ref f) ar) (CR cx out pr wo H s Q E) s
section
variable {pr : Program} {wo : World} {K : PySem.W.Frag} {mg : Str → Option Value} {ba : Heap} {cx : CXT}
theorem FnG.mono {j k : Nat} {f : Addr} {fd : FuncData} {ps : List Str} {sp : Sp} (G : FnG pr wo K mg ba cx j f fd ps sp) (h : j ≤ k) :
    FnG pr wo K mg ba cx k f fd ps sp :=
  ⟨G.len, fun A out s H ar us vs Q E hg hr => G.run A out s H ar us vs Q E hg (hr.mono h)⟩
theorem FnG.of {k : Nat} {f : Addr} {fd : FuncData} {ps : List Str} {sp : Sp} (G : FnOk pr wo K mg ba cx k f fd ps sp) :
    FnG pr wo K mg ba cx k f fd ps sp :=
  ⟨G.len, fun A out s H ar us vs Q E _ hr => G.run A out s H ar us vs Q E hr⟩
theorem FnG.imp {k : Nat} {f : Addr} {fd : FuncData} {ps : List Str} {sp sp' : Sp} (G : FnG pr wo K mg ba cx k f fd ps sp)
    (h : ∀ vs H Q E, sp' vs H Q E → sp vs H Q E) : FnG pr wo K mg ba cx k f fd ps sp' :=
  ⟨fun vs H Q E q => G.len vs H Q E (h _ _ _ _ q), fun A out s H ar us vs Q E hg hr he hb hv hs => G.run A out s H ar us vs Q E hg hr he hb hv (h _ _ _ _ hs)⟩
/-- a def by its body -/
theorem fnG_of {k : Nat} {f : Addr} {nm qu : Str} {pa : Arguments} {bd : List Stmt} {sc : Scope} {v1 v2 v3 v4 cd v5 oc : Value} {an od : Option Addr}
    {sl : Array (Option Value)} {N ps : List Str} {sp : Sp}
    (lk : K.lookup f = some ⟨oc, od, .func (PySem.W.fnOf nm qu pa bd sc v1 v2 v3 v4 an cd v5), sl⟩)
    (hcd : PySem.W.codeIn K cd qu = true) (S : FnScope N ps sc)
    (len : ∀ vs H Q E, sp vs H Q E → vs.length = ps.length)
    (hbo : ∀ (A : Around) (out : List Env) (s : Shared) (H : Hp) (vs : List V) (Q : VK) (E : XK), A.guards = some [] →
      Room k (A.deeper (envOfC qu sc s.heap.objs.size f cd)) → sp vs H Q E →
      ∃ t, PSs (cxOf cx pr wo K mg ba N qu sc f cd A out s H E) bd t ∧ t { nx := fun _ H' => Q .non H', rt := Q } (start N vs) H) :
    FnG pr wo K mg ba cx (k + 1) f (PySem.W.fnOf nm qu pa bd sc v1 v2 v3 v4 an cd v5) ps sp := by
  refine ⟨len, fun A out s H ar us vs Q E hgd hr e0 hb r hsp => ?_⟩
  have hl := len _ _ _ _ hsp
  have kin : K.In s.heap := e0.mod.kin.keeps fun b o z => (e0.bs b o z).1
  have nol : s.heap.NoLimit := e0.mod.nolimit.keeps fun b o z => (e0.bs b o z).1
  have kinds : ∀ y ∈ ps.zip us, sc.names.lookup y.1 = some .local ∨
      (sc.names.lookup y.1 = some .cell ∧ ((cellsFrom (s.heap.objs.size + 1) sc.names []).lookup y.1).isSome = true) := by
    rintro ⟨n, v⟩ hy
    rcases S.par n (List.of_mem_zip hy).1 with z | z
    · exact .inl z
    · exact .inr ⟨z, PySem.W.cellsFrom_some _ _ _ (.inl z)⟩
  refine codeAny_call_function hr.depth (kin _ _ lk) rfl S.co S.gen rfl (PySem.W.codeRec_of kin hcd) (hb _ _ _ _ ?_)
  refine wpAny_newFunctionEnv_cells S.kind kinds fun ev hev s1 x => ?_
  subst hev
  refine ⟨nol.keeps x.toInCall.keep, codeAny_func ?_⟩
  obtain ⟨t, ht, hq⟩ := hbo A out s H vs Q E hgd (hr.deeper _) hsp
  have I0 : Inv (cxOf cx pr wo K mg ba N qu sc f cd A out s H E) [] (start N vs) H s1 := inv_start S hr.hd e0 hl r x
  refine wpAny_mono (ht.run [] s1 (start N vs) H _ I0 hq) (fun fl s2 hs => ?_) fun e s2 hs => hs
  have done : ∀ {τ : L2.St} {H2 : Hp} {v : V} {u : Value}, Inv (cxOf cx pr wo K mg ba N qu sc f cd A out s H E) [] τ H2 s2 →
      RelV v u → Q v H2 → CE out pr wo H s Q u s2 := fun {τ H2 v u} J rv q => ⟨v, H2, J.os, J.bare, J.base, J.hok, rv, q⟩
  cases fl with
  | ret u =>
    obtain ⟨v, τ, H2, J, rv, q⟩ := hs
    exact done J rv q
  | next =>
    obtain ⟨τ, H2, J, q⟩ := hs
    exact done (v := V.non) (u := Value.none) J rfl q
  | brk =>
    obtain ⟨_, _, _, q⟩ := hs
    exact q.elim
  | cont =>
    obtain ⟨_, _, _, q⟩ := hs
    exact q.elim
theorem okG {x qu : Str} {st : Stmt} {f : Addr} {fd : FuncData} {N ps : List Str} {k : Nat} {sp : Sp} (F : Fun K x qu st f fd)
    (S : FnScope N ps (defScope st)) (len : ∀ vs H Q E, sp vs H Q E → vs.length = ps.length)
    (hbo : ∀ (cd : Value) (A : Around) (out : List Env) (s : Shared) (H : Hp) (vs : List V) (Q : VK) (E : XK), A.guards = some [] →
      Room k (A.deeper (envOfC qu (defScope st) s.heap.objs.size f cd)) → sp vs H Q E →
      ∃ t, PSs (cxOf CX0 pr wo K mg ba N qu (defScope st) f cd A out s H E).nox (defBody st) t ∧
        t { nx := fun _ H' => Q .non H', rt := Q } (start N vs) H) : FnG pr wo K mg ba CX0 (k + 1) f fd ps sp := by
  obtain ⟨oc, od, v2, v3, v4, an, cd, v5, sl, rfl, lk, hcd⟩ := F.ex
  refine fnG_of lk hcd S len fun A out s H vs Q E hg hr hsp => ?_
  obtain ⟨t, h, q⟩ := hbo cd A out s H vs Q E hg hr hsp
  exact ⟨t, h.nox, q⟩
theorem okGX {x qu : Str} {st : Stmt} {f : Addr} {fd : FuncData} {N ps : List Str} {k : Nat} {sp : Sp} (F : Fun K x qu st f fd)
    (S : FnScope N ps (defScope st)) (len : ∀ vs H Q E, sp vs H Q E → vs.length = ps.length)
    (hbo : ∀ (cd : Value) (A : Around) (out : List Env) (s : Shared) (H : Hp) (vs : List V) (Q : VK) (E : XK), A.guards = some [] →
      Room k (A.deeper (envOfC qu (defScope st) s.heap.objs.size f cd)) → sp vs H Q E →
      ∃ t, PSs (cxOf (L2.CX pr wo) pr wo K mg ba N qu (defScope st) f cd A out s H E) (defBody st) t ∧
        t { nx := fun _ H' => Q .non H', rt := Q } (start N vs) H) : FnG pr wo K mg ba (L2.CX pr wo) (k + 1) f fd ps sp := by
  obtain ⟨oc, od, v2, v3, v4, an, cd, v5, sl, rfl, lk, hcd⟩ := F.ex
  exact fnG_of lk hcd S len fun A out s H vs Q E hg hr hsp => hbo cd A out s H vs Q E hg hr hsp
end
section
variable {X : Cx} {cx : CXT} {k : Nat} {f : Addr} {fd : FuncData} {ps : List Str} {sp : Sp} {dvs : List V} {ds : List Value} {E : XK}
  {x : Str} {p pos : Pos} {e : Expr} {es : List Expr} {t : TA}
theorem runG {pins : List (Addr × Obj)} {σ : L2.St} {H : Hp} {s : Shared} {Q : VK} {us : List Value} {vs : List V}
    (G : FnG X.prog X.w X.K X.mg X.base cx k f fd ps sp) (hgd : X.A.guards = some []) (hr : Room k X.A) (hb : Binds X.K fd ps ds)
    (hd : Vals dvs ds) (hx : Passes cx X E) (I : Inv X pins σ H s) (r : Vals vs us) (h : sp (vs ++ dvs) H Q E) :
    wpAny (model X.prog X.w) X.A (call (.ref f) us) (EP X pins σ Q) X.xe s := by
  have rr : Vals (vs ++ dvs) (us ++ ds) := r.append hd
  have hl : (us ++ ds).length = ps.length := by
    rw [← rr.length]
    exact G.len _ _ _ _ h
  have go := G.run X.A X.stack s H ⟨us, []⟩ (us ++ ds) (vs ++ dvs) Q E hgd hr I.env0 (hb s us I.kIn hl) rr h
  refine wpAny_call (codeAny_mono go fun w s2 hq => ?_)
  cases w with
  | error er => exact hx pins σ H s er s2 I hq
  | ok fl =>
    cases fl with
    | ret u => exact I.after hq
    | next => exact hq.elim
    | brk => exact hq.elim
    | cont => exact hq.elim
/-- f(e, ..) -/
theorem pe_callG (G : FnG X.prog X.w X.K X.mg X.base cx k f fd ps sp) (hgd : X.A.guards = some []) (hr : Room k X.A) (hg : Gl X x)
    (hm : X.mg x = some (.ref f)) (hk : PySem.W.keepIn X.K (.ref f) = true) (hb : Binds X.K fd ps ds) (hd : Vals dvs ds)
    (hx : Passes cx X E) (ha : PA X (e :: es) t) (hdb : (x == ("__debug__" : Str)) = false := by decide)
    (he : starEach (e :: es) X.env = (false, eval e X.env) :: starEach es X.env := by rfl)
    (hpl : (backTo pos (starEach es X.env)).any (·.1) = false := by rfl) : PE X (.Call (.Name x p) (e :: es) [] pos) (tCall sp dvs E t) := by
  refine ⟨fun pins s σ H Q I h => wpAny_Call_Name_kw (ld_glob I hg hm ?_ hdb)⟩
  refine PySem.W.callWith_K (h₀ := X.base) I.ok.mod.kin hk ?_ he hpl
  exact thn (ha.run pos pins s σ H _ I h) fun us s1 ⟨vs, H1, I1, r, q⟩ => ⟨I1.kIn, runG G hgd hr hb hd hx I1 r q⟩
theorem pe_call0G (G : FnG X.prog X.w X.K X.mg X.base cx k f fd ps sp) (hgd : X.A.guards = some []) (hr : Room k X.A) (hg : Gl X x)
    (hm : X.mg x = some (.ref f)) (hk : PySem.W.keepIn X.K (.ref f) = true) (hb : Binds X.K fd ps ds) (hd : Vals dvs ds)
    (hx : Passes cx X E) (hdb : (x == ("__debug__" : Str)) = false := by decide) :
    PE X (.Call (.Name x p) [] [] pos) (tCall sp dvs E tNil) :=
  ⟨fun pins s σ H Q I h => wpAny_Call_Name_kw (ld_glob I hg hm (PySem.W.callWith_K0 I.kIn hk (runG (us := []) G hgd hr hb hd hx I .nil h)) hdb)⟩
end
/-- the law's call at the heap behind the top -/
theorem lawG {pr : Program} {wo : World} {K : PySem.W.Frag} {mg mb : Str → Option Value} {cx : CXT} {k : Nat} {fa a : Addr} {fd : FuncData}
    {x : Str} {sp : Sp} {s : Shared} {vs : List Value} {ns : List Int}
    (kin : K.In s.heap) (hns : s.heap.Ns mainGlobals mg) (hbn : s.heap.Ns builtinsNs mb) (hbb : ∀ x : Str, x ≠ "__name__" → mb x = bootBuiltins x)
    (hlim : s.heap.NoLimit) (hg : s.gens = #[]) (ha : s.heap.get? a = some { cls := .type "list", data := .seq vs.toArray })
    (hi : IntsAre vs ns) (hl : ns.length ≤ sizeLine) (hr : Room k callerA)
    (F : ∀ ba : Heap, K.In ba → ba.Ns mainGlobals mg → FnG pr wo K mg ba cx k fa fd [x] sp)
    (hbind : ∀ (s : Shared) (u : Value), BindsTo s fd ⟨[u], []⟩ [(x, u)])
    (hsp : ∀ H : Hp, Only H → SqL K H a (ns.map V.int) → sp [.ref a] H (fun v _ => v = .bl true) fun _ _ _ => False)
    (hCX : ∀ H e s', cx [] H s (fun _ _ _ => False) e s' → False) :
    codeAny (model pr wo) callerA (.call (.ref fa) ⟨[.ref a], []⟩)
      (fun r s' => r = .ok (.ret (.bool true)) ∧ OldK s.heap s'.heap ∧ s'.os = s.os ∧ AllBare s'.gens) s := by
  have rv := vals_ints hi
  have lenV := hi.length
  have core : ∀ H : Hp, Only H → SqL K H a (ns.map V.int) → HOk pr wo H s.heap → (∀ b, H b ≠ none → b = a) → (H a ≠ none → K.lookup a = none) →
      codeAny (model pr wo) callerA (.call (.ref fa) ⟨[.ref a], []⟩)
        (fun r s' => r = .ok (.ret (.bool true)) ∧ OldK s.heap s'.heap ∧ s'.os = s.os ∧ AllBare s'.gens) s := by
    intro H hO hS hok hA hK
    have down : ∀ {b : Addr} {o : Obj}, s.heap.get? b = some o → H b = none → (hidT s.heap H).get? b = some o := fun e n => hidT_get e n
    have free : ∀ {b : Addr} {o : Obj} {es : Array DictEntry} {ep : Nat}, s.heap.get? b = some o → o.data = .dict es ep → H b = none := by
      intro b o es ep z d
      cases q : H b with
      | none => rfl
      | some u =>
        have eb : b = a := hA b (by rw [q]; simp)
        subst eb
        rw [ha] at z
        cases z
        have d2 : Data.seq vs.toArray _ = Data.dict es ep := d
        cases d2
    have nsD : ∀ {b : Addr} {m : Str → Option Value}, s.heap.Ns b m → (hidT s.heap H).Ns b m := by
      rintro b m ⟨o, es, ep, z, d, r⟩
      exact ⟨o, es, ep, down z (free z d), d, r⟩
    have kinD : K.In (hidT s.heap H) := by
      intro b o z
      refine down (kin b o z) ?_
      cases q : H b with
      | none => rfl
      | some u =>
        have eb : b = a := hA b (by rw [q]; simp)
        subst eb
        rw [hK (by rw [q]; simp)] at z
        cases z
    obtain ⟨mc, l1, l2⟩ := hlim
    have md : Mod K mg (hidT s.heap H) := ⟨kinD, nsD hns, ⟨mb, nsD hbn, hbb⟩, ⟨mc, nsD l1, l2⟩⟩
    have e0 : Env0 pr wo K mg (hidT s.heap H) callerA [] s H :=
      ⟨rfl, md, fun b o z => of_hidT z, Nat.le_of_eq (hidT_size _ _), trivial, fun b hb => absurd (show b ∈ ([] : List Addr) from hb) (by simp), hok, .of_eq hg⟩
    have go := (F _ kinD (nsD hns)).run callerA [] s H ⟨[.ref a], []⟩ [.ref a] [.ref a] _ _ rfl hr e0 (hbind s (.ref a)) (.cons rfl .nil) (hsp H hO hS)
    refine codeAny_mono go fun r s' h => ?_
    cases r with
    | error er => exact (hCX H er s' h).elim
    | ok fl =>
      cases fl with
      | next => exact h.elim
      | brk => exact h.elim
      | cont => exact h.elim
      | ret u =>
        obtain ⟨v, H', os, bare, un, hok', r', q⟩ := h
        have q' : v = .bl true := q
        subst q'
        obtain rfl : u = Value.bool true := r'
        refine ⟨rfl, OldK.of_keep fun b o z => ?_, os, bare⟩
        cases q : H b with
        | none => exact un.keep b o z q (fun w => absurd (show b ∈ ([] : List Addr) from w) (by simp)) (by simp)
        | some u =>
          rcases hO b with w | ⟨ob, xs, w⟩
          · rw [q] at w
            cases w
          · have w2 := un.frzs b ob _ w
            obtain ⟨g1, _⟩ := hok b _ w
            obtain ⟨g2, _⟩ := hok' b _ w2
            rw [z] at g1
            cases g1
            exact g2
  cases hk : K.lookup a with
  | some o =>
    have e := kin a o hk
    rw [ha] at e
    cases e
    have sq : SqL K (fun _ => none) a (ns.map V.int) :=
      .inr ⟨_, vs.toArray, _, hk, rfl, rfl, rfl, by rw [List.size_toArray, lenV]; exact hl, by simpa using rv⟩
    exact core (fun _ => none) (fun _ => .inl rfl) sq (fun b u z => nomatch (show (none : Option HO) = some u from z)) (fun b z => absurd rfl z) fun z => absurd rfl z
  | none =>
    refine core (fun b => if b = a then some (.frz { cls := .type "list", data := .seq vs.toArray } (.lst (ns.map V.int))) else none)
      (fun b => ?_) (.inl (.inr ⟨{ cls := .type "list", data := .seq vs.toArray }, if_pos rfl⟩)) (fun b u z => ?_) (fun b z => ?_) fun _ => hk
    · by_cases hb : b = a
      · exact .inr ⟨_, _, if_pos hb⟩
      · exact .inl (if_neg hb)
    · by_cases hb : b = a
      · have w := (if_pos hb).symm.trans z
        cases w
        subst hb
        exact ⟨ha, by rw [List.length_map]; exact hl, vs, _, rv, ha⟩
      · have w := (if_neg hb).symm.trans z
        cases w
    · by_cases hb : b = a
      · exact hb
      · exact absurd (if_neg hb) z
/-- the end -/
theorem walkG {l : PySem.W.OpenLaw} {n k : Nat} {q : Program} {lo : List Str} {XP : (Str → Option Value) → Heap → Prop} {YP : World → Heap → Prop}
    {d : DefRec} {K : Params → PySem.W.Frag} {cx : World → CXT} {sp : World → Sp} {x : Str}
    (hn : l.most = some n) (hn2 : n ≤ sizeLine) (hdf : d.params.defaults = []) (hr : Room k callerA) (hY : ∀ (w : World) (h : Heap), YP w h → (K w.params).In h)
    (F : ∀ (w : World) (mg : Str → Option Value) (fa : Addr) (h : Heap), (K w.params).In h → h.Ns mainGlobals mg → mg d.name = some (.ref fa) →
      ∃ fd : FuncData, (∀ (s : Shared) (u : Value), BindsTo s fd ⟨[u], []⟩ [(x, u)]) ∧
        ∀ ba : Heap, (K w.params).In ba → ba.Ns mainGlobals mg → FnG l.prog w (K w.params) mg ba (cx w) k fa fd [x] (sp w))
    (hsp : ∀ (w : World) (H : Hp) (a : Addr) (ns : List Int), ns.length ≤ n → Only H → SqL (K w.params) H a (ns.map V.int) →
      sp w [.ref a] H (fun v _ => v = .bl true) fun _ _ _ => False)
    (hCX : ∀ (w : World) (H : Hp) (s : Shared) (e : Value) (s' : Shared), cx w [] H s (fun _ _ _ => False) e s' → False) :
    PySem.W.WalkO q lo XP YP l.row.toRowW d [] (fun f vs => PySem.call f vs) := by
  refine Att.attach_call hn hdf fun w s0 s1 mg mb fa o pm cd doc a vs ns G Y ho hd hcd hmg hobj hints hlen hg => ?_
  have kin := hY w _ Y
  obtain ⟨fd, hb, hF⟩ := F w mg fa _ kin G.T.g hmg
  have sp' := fun H hO hS => hsp w H a ns hlen hO hS
  exact lawG kin G.T.g G.T.b G.T.builtins G.T.nolimit hg hobj hints (Nat.le_trans hlen hn2) hr hF hb sp' fun H e s' => hCX w H s1 e s'
end CG

/-! Part 2: data held by the heap, away from the volatile places B; readings that denote data. -/
namespace CG
open PySem PySem.Spec PyProof.Rows L2
/-- the volatile places are tracked -/
def Al (B : Addr → Prop) (H : Hp) : Prop := ∀ a, B a → H a ≠ none
/-- all but the volatile places is kept -/
structure Xt (B : Addr → Prop) (H H' : Hp) : Prop where
  kp : ∀ a o, ¬ B a → H a = some o → H' a = some o
  al : Al B H'
section
variable {B : Addr → Prop} {H H1 H2 : Hp} {K : PySem.W.Frag} {a p : Addr} {xs : List V}
theorem Xt.refl (h : Al B H) : Xt B H H := ⟨fun _ _ _ e => e, h⟩
theorem Xt.trans (x : Xt B H H1) (y : Xt B H1 H2) : Xt B H H2 := ⟨fun a o n e => y.kp a o n (x.kp a o n e), y.al⟩
theorem Al.same (h : Al B H) (e : Same H H1) : Al B H1 := fun a b => by
  cases q : H a with
  | none => exact absurd q (h a b)
  | some o => rw [e a o q]; simp
theorem Xt.same (x : Xt B H H1) (e : Same H1 H2) : Xt B H H2 := ⟨fun a o n z => e a o (x.kp a o n z), x.al.same e⟩
theorem Xt.of (h : Al B H) (e : Same H H1) : Xt B H H1 := (Xt.refl h).same e
theorem Al.new (h : Al B H) (n : H p = none) : ¬ B p := fun b => h p b n
theorem same_new {o : HO} (n : H p = none) : Same H (upd H p o) := fun b z e => by
  rw [upd_ne (ne_of_none e n)]
  exact e
theorem Xt.sqT (x : Xt B H H1) (nb : ¬ B a) (h : SqT K H a xs) : SqT K H1 a xs := by
  rcases h with (h | ⟨o, h⟩) | h
  · exact .inl (.inl (x.kp _ _ nb h))
  · exact .inl (.inr ⟨o, x.kp _ _ nb h⟩)
  · exact .inr h
theorem Xt.sqL (x : Xt B H H1) (nb : ¬ B a) (h : SqL K H a xs) : SqL K H1 a xs := by
  rcases h with (h | ⟨o, h⟩) | h
  · exact .inl (.inl (x.kp _ _ nb h))
  · exact .inl (.inr ⟨o, x.kp _ _ nb h⟩)
  · exact .inr h
end
/-- a tuple of the written part -/
def KT (K : PySem.W.Frag) (a : Addr) (xs : List V) : Prop :=
  ∃ (o : Obj) (its : Array Value) (n : Nat), K.lookup a = some o ∧ o.cls = .type "tuple" ∧ o.data = .seq its n ∧ its.size ≤ sizeLine ∧ Vals xs its.toList
/-- data that is no object of its own -/
def sV : PyData → Option V
  | .none => some .non
  | .bool b => some (.bl b)
  | .int i => some (.int i)
  | .str x => some (.str x)
  | _ => none
def sK : PyData → Option Key
  | .int i => some (.inl i)
  | .str x => some (.inr x)
  | _ => none
/-- a dict of such data -/
def FlatD : List (PyData × PyData) → List (Key × V) → Prop
  | [], es => es = []
  | (k, d) :: r, es => ∃ y x t, es = (y, x) :: t ∧ sK k = some y ∧ sV d = some x ∧ FlatD r t
mutual
/-- v is the data d -/
def Rp (K : PySem.W.Frag) (B : Addr → Prop) (H : Hp) : PyData → V → Prop
  | .none, v => v = .non
  | .bool b, v => v = .bl b
  | .int i, v => v = .int i
  | .str x, v => v = .str x
  | .list ds, v => ∃ a xs, v = .ref a ∧ ¬ B a ∧ H a = some (.lst xs) ∧ RpA K B H ds xs
  | .tuple ds, v => ∃ a xs, v = .ref a ∧ (¬ B a ∨ KT K a xs) ∧ SqT K H a xs ∧ RpA K B H ds xs
  | .dict kvs, v => ∃ a es, v = .ref a ∧ ¬ B a ∧ H a = some (.dK es) ∧ FlatD kvs es
def RpA (K : PySem.W.Frag) (B : Addr → Prop) (H : Hp) : List PyData → List V → Prop
  | [], xs => xs = []
  | d :: ds, xs => ∃ x r, xs = x :: r ∧ Rp K B H d x ∧ RpA K B H ds r
end
section
variable {K : PySem.W.Frag} {B : Addr → Prop} {H H1 H2 : Hp} {v : V} {d : PyData} {ds : List PyData} {xs : List V}
theorem rp_non : Rp K B H .none v ↔ v = .non := by simp only [Rp]
theorem rp_bl {b : Bool} : Rp K B H (.bool b) v ↔ v = .bl b := by simp only [Rp]
theorem rp_int {i : Int} : Rp K B H (.int i) v ↔ v = .int i := by simp only [Rp]
theorem rp_str {x : Str} : Rp K B H (.str x) v ↔ v = .str x := by simp only [Rp]
theorem rp_lst : Rp K B H (.list ds) v ↔ ∃ a xs, v = .ref a ∧ ¬ B a ∧ H a = some (.lst xs) ∧ RpA K B H ds xs := by simp only [Rp]
theorem rp_tup : Rp K B H (.tuple ds) v ↔ ∃ a xs, v = .ref a ∧ (¬ B a ∨ KT K a xs) ∧ SqT K H a xs ∧ RpA K B H ds xs := by simp only [Rp]
theorem rp_dct {kvs : List (PyData × PyData)} : Rp K B H (.dict kvs) v ↔ ∃ a es, v = .ref a ∧ ¬ B a ∧ H a = some (.dK es) ∧ FlatD kvs es := by simp only [Rp]
theorem rpa_nil : RpA K B H [] xs ↔ xs = [] := by simp only [RpA]
theorem rpa_cons : RpA K B H (d :: ds) xs ↔ ∃ x r, xs = x :: r ∧ Rp K B H d x ∧ RpA K B H ds r := by simp only [RpA]
theorem RpA.cons (h : Rp K B H d v) (t : RpA K B H ds xs) : RpA K B H (d :: ds) (v :: xs) := rpa_cons.mpr ⟨v, xs, rfl, h, t⟩
theorem RpA.nil : RpA K B H [] [] := rpa_nil.mpr rfl
theorem RpA.inv {x : V} (h : RpA K B H (d :: ds) (x :: xs)) : Rp K B H d x ∧ RpA K B H ds xs := by
  obtain ⟨y, r, e, h1, h2⟩ := rpa_cons.mp h
  cases e
  exact ⟨h1, h2⟩
mutual
theorem Rp.mono (x : Xt B H H1) : ∀ (d : PyData) (v : V), Rp K B H d v → Rp K B H1 d v
  | .none, v, h => rp_non.mpr (rp_non.mp h)
  | .bool b, v, h => rp_bl.mpr (rp_bl.mp h)
  | .int i, v, h => rp_int.mpr (rp_int.mp h)
  | .str s, v, h => rp_str.mpr (rp_str.mp h)
  | .list ds, v, h => by
    obtain ⟨a, xs, e, nb, s, t⟩ := rp_lst.mp h
    exact rp_lst.mpr ⟨a, xs, e, nb, x.kp _ _ nb s, RpA.mono x ds xs t⟩
  | .tuple ds, v, h => by
    obtain ⟨a, xs, e, nb, s, t⟩ := rp_tup.mp h
    exact rp_tup.mpr ⟨a, xs, e, nb, nb.elim (fun nb => x.sqT nb s) .inr, RpA.mono x ds xs t⟩
  | .dict kvs, v, h => by
    obtain ⟨a, es, e, nb, s, t⟩ := rp_dct.mp h
    exact rp_dct.mpr ⟨a, es, e, nb, x.kp _ _ nb s, t⟩
theorem RpA.mono (x : Xt B H H1) : ∀ (ds : List PyData) (xs : List V), RpA K B H ds xs → RpA K B H1 ds xs
  | [], xs, h => rpa_nil.mpr (rpa_nil.mp h)
  | d :: ds, xs, h => by
    obtain ⟨y, r, e, h1, h2⟩ := rpa_cons.mp h
    exact rpa_cons.mpr ⟨y, r, e, Rp.mono x d y h1, RpA.mono x ds r h2⟩
end
theorem Rp.up (h : Rp K B H d v) (x : Xt B H H1) : Rp K B H1 d v := Rp.mono x d v h
theorem RpA.up (h : RpA K B H ds xs) (x : Xt B H H1) : RpA K B H1 ds xs := RpA.mono x ds xs h
theorem RpA.length : ∀ {ds : List PyData} {xs : List V}, RpA K B H ds xs → ds.length = xs.length
  | [], xs, h => by rw [rpa_nil.mp h]; rfl
  | d :: ds, xs, h => by
    obtain ⟨y, r, e, h1, h2⟩ := rpa_cons.mp h
    rw [e, List.length_cons, List.length_cons, RpA.length h2]
theorem RpA.get : ∀ {ds : List PyData} {xs : List V} {i : Nat} {d : PyData}, RpA K B H ds xs → ds[i]? = some d → ∃ x, xs[i]? = some x ∧ Rp K B H d x
  | [], xs, i, d, h, g => by simp at g
  | c :: ds, xs, 0, d, h, g => by
    obtain ⟨y, r, e, h1, h2⟩ := rpa_cons.mp h
    subst e
    simp only [List.getElem?_cons_zero, Option.some.injEq] at g
    subst g
    exact ⟨y, rfl, h1⟩
  | c :: ds, xs, i + 1, d, h, g => by
    obtain ⟨y, r, e, h1, h2⟩ := rpa_cons.mp h
    subst e
    rw [List.getElem?_cons_succ] at g
    obtain ⟨z, g1, g2⟩ := RpA.get h2 g
    exact ⟨z, by rw [List.getElem?_cons_succ]; exact g1, g2⟩
theorem RpA.back : ∀ {ds : List PyData} {xs : List V} {i : Nat} {x : V}, RpA K B H ds xs → xs[i]? = some x → ∃ d, ds[i]? = some d ∧ Rp K B H d x
  | [], xs, i, x, h, g => by rw [rpa_nil.mp h] at g; simp at g
  | c :: ds, xs, 0, x, h, g => by
    obtain ⟨y, r, e, h1, h2⟩ := rpa_cons.mp h
    subst e
    simp only [List.getElem?_cons_zero, Option.some.injEq] at g
    subst g
    exact ⟨c, rfl, h1⟩
  | c :: ds, xs, i + 1, x, h, g => by
    obtain ⟨y, r, e, h1, h2⟩ := rpa_cons.mp h
    subst e
    rw [List.getElem?_cons_succ] at g
    obtain ⟨z, g1, g2⟩ := RpA.back h2 g
    exact ⟨z, by rw [List.getElem?_cons_succ]; exact g1, g2⟩
theorem RpA.append : ∀ {ds es : List PyData} {xs ys : List V}, RpA K B H ds xs → RpA K B H es ys → RpA K B H (ds ++ es) (xs ++ ys)
  | [], es, xs, ys, h, k => by rw [rpa_nil.mp h]; exact k
  | c :: ds, es, xs, ys, h, k => by
    obtain ⟨y, r, e, h1, h2⟩ := rpa_cons.mp h
    subst e
    exact RpA.cons h1 (RpA.append h2 k)
theorem RpA.drop : ∀ {ds : List PyData} {xs : List V} (n : Nat), RpA K B H ds xs → RpA K B H (ds.drop n) (xs.drop n)
  | ds, xs, 0, h => h
  | [], xs, n + 1, h => by rw [rpa_nil.mp h]; exact RpA.nil
  | c :: ds, xs, n + 1, h => by
    obtain ⟨y, r, e, h1, h2⟩ := rpa_cons.mp h
    subst e
    exact RpA.drop n h2
theorem RpA.take : ∀ {ds : List PyData} {xs : List V} (n : Nat), RpA K B H ds xs → RpA K B H (ds.take n) (xs.take n)
  | ds, xs, 0, h => RpA.nil
  | [], xs, n + 1, h => by rw [rpa_nil.mp h]; exact RpA.nil
  | c :: ds, xs, n + 1, h => by
    obtain ⟨y, r, e, h1, h2⟩ := rpa_cons.mp h
    subst e
    exact RpA.cons h1 (RpA.take n h2)
theorem RpA.ints : ∀ (ns : List Int), RpA K B H (ns.map PyData.int) (ns.map V.int)
  | [] => RpA.nil
  | n :: ns => RpA.cons (rp_int.mpr rfl) (RpA.ints ns)
theorem RpA.ints_inv : ∀ {ns : List Int} {xs : List V}, RpA K B H (ns.map PyData.int) xs → xs = ns.map V.int
  | [], xs, h => rpa_nil.mp h
  | n :: ns, xs, h => by
    obtain ⟨y, r, e, h1, h2⟩ := rpa_cons.mp h
    rw [e, rp_int.mp h1, RpA.ints_inv h2]
    rfl
end
/-- B' is B with places that H does not know -/
structure Gw (B B' : Addr → Prop) (H : Hp) : Prop where
  up : ∀ a, B a → B' a
  fr : ∀ a, B' a → B a ∨ H a = none
section
variable {K : PySem.W.Frag} {B B' : Addr → Prop} {H H1 H2 : Hp}
theorem sqT_alive {a : Addr} {xs : List V} (h : SqT K H a xs) : KT K a xs ∨ H a ≠ none := by
  rcases h with (h | ⟨o, h⟩) | h
  · exact .inr (by rw [h]; simp)
  · exact .inr (by rw [h]; simp)
  · exact .inl h
mutual
theorem Rp.grow (g : Gw B B' H) : ∀ (d : PyData) (v : V), Rp K B H d v → Rp K B' H d v
  | .none, v, h => rp_non.mpr (rp_non.mp h)
  | .bool b, v, h => rp_bl.mpr (rp_bl.mp h)
  | .int i, v, h => rp_int.mpr (rp_int.mp h)
  | .str s, v, h => rp_str.mpr (rp_str.mp h)
  | .list ds, v, h => by
    obtain ⟨a, xs, e, nb, s, t⟩ := rp_lst.mp h
    refine rp_lst.mpr ⟨a, xs, e, fun z => ?_, s, RpA.grow g ds xs t⟩
    rcases g.fr a z with w | w
    · exact nb w
    · rw [s] at w
      cases w
  | .tuple ds, v, h => by
    obtain ⟨a, xs, e, nb, s, t⟩ := rp_tup.mp h
    refine rp_tup.mpr ⟨a, xs, e, ?_, s, RpA.grow g ds xs t⟩
    rcases nb with nb | nb
    · rcases sqT_alive s with k | k
      · exact .inr k
      · refine .inl fun z => ?_
        rcases g.fr a z with w | w
        · exact nb w
        · exact k w
    · exact .inr nb
  | .dict kvs, v, h => by
    obtain ⟨a, es, e, nb, s, t⟩ := rp_dct.mp h
    refine rp_dct.mpr ⟨a, es, e, fun z => ?_, s, t⟩
    rcases g.fr a z with w | w
    · exact nb w
    · rw [s] at w
      cases w
theorem RpA.grow (g : Gw B B' H) : ∀ (ds : List PyData) (xs : List V), RpA K B H ds xs → RpA K B' H ds xs
  | [], xs, h => rpa_nil.mpr (rpa_nil.mp h)
  | d :: ds, xs, h => by
    obtain ⟨y, r, e, h1, h2⟩ := rpa_cons.mp h
    exact rpa_cons.mpr ⟨y, r, e, Rp.grow g d y h1, RpA.grow g ds r h2⟩
end
mutual
theorem Rp.less (g : ∀ a, B a → B' a) : ∀ (d : PyData) (v : V), Rp K B' H d v → Rp K B H d v
  | .none, v, h => rp_non.mpr (rp_non.mp h)
  | .bool b, v, h => rp_bl.mpr (rp_bl.mp h)
  | .int i, v, h => rp_int.mpr (rp_int.mp h)
  | .str s, v, h => rp_str.mpr (rp_str.mp h)
  | .list ds, v, h => by
    obtain ⟨a, xs, e, nb, s, t⟩ := rp_lst.mp h
    exact rp_lst.mpr ⟨a, xs, e, fun z => nb (g a z), s, RpA.less g ds xs t⟩
  | .tuple ds, v, h => by
    obtain ⟨a, xs, e, nb, s, t⟩ := rp_tup.mp h
    exact rp_tup.mpr ⟨a, xs, e, nb.imp (fun nb z => nb (g a z)) id, s, RpA.less g ds xs t⟩
  | .dict kvs, v, h => by
    obtain ⟨a, es, e, nb, s, t⟩ := rp_dct.mp h
    exact rp_dct.mpr ⟨a, es, e, fun z => nb (g a z), s, t⟩
theorem RpA.less (g : ∀ a, B a → B' a) : ∀ (ds : List PyData) (xs : List V), RpA K B' H ds xs → RpA K B H ds xs
  | [], xs, h => rpa_nil.mpr (rpa_nil.mp h)
  | d :: ds, xs, h => by
    obtain ⟨y, r, e, h1, h2⟩ := rpa_cons.mp h
    exact rpa_cons.mpr ⟨y, r, e, Rp.less g d y h1, RpA.less g ds r h2⟩
end
/-- one more place -/
def Bp (B : Addr → Prop) (p : Addr) : Addr → Prop := fun a => B a ∨ a = p
theorem gw_new {p : Addr} (n : H p = none) : Gw B (Bp B p) H := ⟨fun _ h => .inl h, fun a h => h.elim .inl fun e => .inr (by rw [e]; exact n)⟩
theorem bp_up {p : Addr} : ∀ a, B a → Bp B p a := fun _ h => .inl h
theorem Xt.less (x : Xt B' H H1) (g : ∀ a, B a → B' a) (fr : ∀ a, B' a → B a ∨ H a = none) : Xt B H H1 := ⟨fun a o nb e => x.kp a o (fun z => by
  rcases fr a z with w | w
  · exact nb w
  · rw [e] at w
    cases w) e, fun a h => x.al a (g a h)⟩
end
/-! ### repr -/
section
variable {X : Cx} {pins : List (Addr × Obj)} {σ : L2.St} {H : Hp} {s : Shared} {B : Addr → Prop}
theorem flat_key {k : PyData} {y : Key} {u : Value} {s : Shared} (h : sK k = some y) (r : (mixKind X.prog X.w).is y u = true) : Reads s.heap u k [] := by
  have r' : keyIs y u = true := r
  rcases keyIs_shape r' with ⟨i, t, rfl, rfl⟩ | ⟨x, t, rfl, rfl⟩
  · cases k <;> simp only [sK, Option.some.injEq, reduceCtorEq, Sum.inl.injEq] at h
    subst h
    exact .int _ t
  · cases k <;> simp only [sK, Option.some.injEq, reduceCtorEq, Sum.inr.injEq] at h
    subst h
    exact .str _ t
theorem flat_val {d : PyData} {x : V} {u : Value} {s : Shared} (h : sV d = some x) (r : RelV x u) : Reads s.heap u d [] := by
  cases d <;> simp only [sV, Option.some.injEq, reduceCtorEq] at h <;> subst h
  · obtain rfl : u = Value.none := r
    exact .none
  · obtain rfl := (show u = Value.bool _ from r)
    exact .bool _
  · obtain ⟨t, rfl⟩ := (show ∃ t, u = Value.int _ t from r)
    exact .int _ t
  · obtain ⟨t, rfl⟩ := (show ∃ t, u = Value.str _ t from r)
    exact .str _ t
theorem flat_reads {s : Shared} : ∀ {kvs : List (PyData × PyData)} {es : List (Key × V)} {vs : List (Key × Value)} {l : List DictEntry}, FlatD kvs es → KV es vs → Pairs (mixKind X.prog X.w) l vs →
    ReadsAll s.heap (l.map (·.key)) (kvs.map (·.1)) [] ∧ ReadsAll s.heap (l.map (·.val)) (kvs.map (·.2)) []
  | [], es, vs, l, hf, hk, hp => by
    obtain rfl : es = [] := hf
    cases hk
    cases hp
    exact ⟨.nil, .nil⟩
  | (k, d) :: r, es, vs, l, hf, hk, hp => by
    obtain ⟨y, x, t, rfl, h1, h2, h3⟩ := hf
    cases hk with
    | cons a b =>
      obtain ⟨a1, a2⟩ := a
      cases hp with
      | cons c1 c2 e =>
        obtain ⟨g1, g2⟩ := flat_reads (s := s) h3 b e
        dsimp only at a1 a2
        rw [← a1] at c1
        rw [← c2] at a2
        exact ⟨.cons (as := []) (bs := []) (flat_key h1 c1) g1, .cons (as := []) (bs := []) (flat_val h2 a2) g2⟩
mutual
def noList : PyData → Bool
  | .list _ => false
  | .tuple ds => noListAll ds
  | _ => true
def noListAll : List PyData → Bool
  | [] => true
  | d :: ds => noList d && noListAll ds
end
mutual
theorem Rp.reads (I : Inv X pins σ H s) : ∀ (d : PyData) (v : V) (u : Value), Rp X.K B H d v → RelV v u → ∃ as, Reads s.heap u d as ∧ (noList d = true → sysModules ∉ as)
  | .none, v, u, h, r => by
    rw [rp_non.mp h] at r
    obtain rfl : u = Value.none := r
    exact ⟨_, .none, fun _ z => nomatch z⟩
  | .bool b, v, u, h, r => by
    rw [rp_bl.mp h] at r
    obtain rfl : u = Value.bool b := r
    exact ⟨_, .bool b, fun _ z => nomatch z⟩
  | .int i, v, u, h, r => by
    rw [rp_int.mp h] at r
    obtain ⟨t, rfl⟩ : ∃ t, u = Value.int i t := r
    exact ⟨_, .int i t, fun _ z => nomatch z⟩
  | .str x, v, u, h, r => by
    rw [rp_str.mp h] at r
    obtain ⟨t, rfl⟩ : ∃ t, u = Value.str x t := r
    exact ⟨_, .str x t, fun _ z => nomatch z⟩
  | .list ds, v, u, h, r => by
    obtain ⟨a, xs, rfl, _, sq, t⟩ := rp_lst.mp h
    obtain rfl : u = Value.ref a := r
    obtain ⟨its, rv, ⟨o, n, e, hc, _, hd⟩, _⟩ := I.list (SqL.of sq)
    obtain ⟨as, g, _⟩ := RpA.reads I ds xs its t rv
    exact ⟨_, .list e hc hd (by simpa using g), fun z => by simp only [noList] at z; cases z⟩
  | .tuple ds, v, u, h, r => by
    obtain ⟨a, xs, rfl, _, sq, t⟩ := rp_tup.mp h
    obtain rfl : u = Value.ref a := r
    obtain ⟨its, rv, ⟨o, e, hc, n, hd⟩, _⟩ := I.tuple sq
    obtain ⟨as, g, g2⟩ := RpA.reads I ds xs its t rv
    exact ⟨_, .tuple e hc hd (by simpa using g), fun z => g2 (by simpa only [noList] using z)⟩
  | .dict kvs, v, u, h, r => by
    obtain ⟨a, es, rfl, _, sq, t⟩ := rp_dct.mp h
    obtain rfl : u = Value.ref a := r
    obtain ⟨_, sy, vs, kv, o, en, ep, e, ⟨hc, _⟩, hd, _, hp, _⟩ := (show ObjOk X.prog X.w H s.heap a (.dK es) from I.hok a _ sq)
    obtain ⟨g1, g2⟩ := flat_reads (s := s) t kv hp
    refine ⟨_, .dict e hc hd g1 g2, fun _ z => ?_⟩
    have : sysModules = a := by simpa using z
    rw [this] at sy
    simp at sy
theorem RpA.reads (I : Inv X pins σ H s) : ∀ (ds : List PyData) (xs : List V) (us : List Value), RpA X.K B H ds xs → Vals xs us → ∃ as, ReadsAll s.heap us ds as ∧ (noListAll ds = true → sysModules ∉ as)
  | [], xs, us, h, r => by
    rw [rpa_nil.mp h] at r
    cases r
    exact ⟨_, .nil, fun _ z => nomatch z⟩
  | d :: ds, xs, us, h, r => by
    obtain ⟨y, rr, e, h1, h2⟩ := rpa_cons.mp h
    subst e
    cases r with
    | cons a b =>
      obtain ⟨as, g, g2⟩ := Rp.reads I d _ _ h1 a
      obtain ⟨bs, k, k2⟩ := RpA.reads I ds _ _ h2 b
      refine ⟨_, .cons g k, fun z => ?_⟩
      simp only [noListAll, Bool.and_eq_true] at z
      exact fun w => (List.mem_append.mp w).elim (g2 z.1) (k2 z.2)
end
end
/-- data whose text is known to be short: nested below n, of at most m signs -/
structure Sm (n m : Nat) (d : PyData) : Prop where
  sh : d.showable = true
  nd : d.hasDict = false
  dp : d.depth ≤ n
  ln : d.shown.length ≤ m
theorem Sm.mono {n m n' m' : Nat} {d : PyData} (h : Sm n m d) (hn : n ≤ n') (hm : m ≤ m') : Sm n' m' d :=
  ⟨h.sh, h.nd, Nat.le_trans h.dp hn, Nat.le_trans h.ln hm⟩
theorem sm_int {i : Int} (h : i.natAbs < 2 ^ 200) : Sm 0 202 (.int i) := by
  have hl : i.natAbs.log2 < 201 := by
    by_cases z : i.natAbs = 0
    · rw [z]; decide
    · have := (Nat.log2_lt z).mpr h
      omega
  refine ⟨?_, by simp only [PyData.hasDict], by simp only [PyData.depth]; exact Nat.le_refl _, ?_⟩
  · simp only [PyData.showable, decide_eq_true_eq]
    omega
  · rw [PyData.shown_int]
    have := int_text_length_le (a := i) (k := 201) (by decide) hl
    show (Str.ofString (toString i)).length ≤ 202
    rw [PySem.ofString_length]
    exact this
theorem sm_all {n m : Nat} : ∀ {ds : List PyData}, (∀ d ∈ ds, Sm n m d) →
    PyData.showableAll ds = true ∧ PyData.hasDictAll ds = false ∧ PyData.depthAll ds ≤ n ∧ ((PyData.shownAll ds).map (·.length)).sum ≤ ds.length * m
  | [], _ => by simp [PyData.showableAll, PyData.hasDictAll, PyData.depthAll, PyData.shownAll]
  | d :: ds, h => by
    obtain ⟨h1, h2, h3, h4⟩ := sm_all (ds := ds) fun x hx => h x (List.mem_cons_of_mem _ hx)
    have k := h d List.mem_cons_self
    refine ⟨?_, ?_, ?_, ?_⟩
    · simp only [PyData.showableAll, k.sh, h1, Bool.and_true]
    · simp only [PyData.hasDictAll, k.nd, h2, Bool.or_false]
    · simp only [PyData.depthAll]
      exact Nat.max_le.mpr ⟨k.dp, h3⟩
    · simp only [PyData.shownAll, List.map_cons, List.sum_cons, List.length_cons, Nat.succ_mul]
      have := k.ln
      omega
theorem sm_tup {n m : Nat} {ds : List PyData} (h : ∀ d ∈ ds, Sm n m d) : Sm (n + 1) (ds.length * m + 2 * ds.length + 3) (.tuple ds) := by
  obtain ⟨h1, h2, h3, h4⟩ := sm_all h
  refine ⟨by simpa only [PyData.showable] using h1, by simpa only [PyData.hasDict] using h2, by simp only [PyData.depth]; omega, ?_⟩
  have := tupleText_len_le (PyData.shownAll ds)
  simp only [PyData.shown]
  rw [PyData.shownAll_length] at this
  omega
theorem sm_lst {n m : Nat} {ds : List PyData} (h : ∀ d ∈ ds, Sm n m d) : Sm (n + 1) (ds.length * m + 2 * ds.length + 3) (.list ds) := by
  obtain ⟨h1, h2, h3, h4⟩ := sm_all h
  refine ⟨by simpa only [PyData.showable] using h1, by simpa only [PyData.hasDict] using h2, by simp only [PyData.depth]; omega, ?_⟩
  have := listText_len_le (PyData.shownAll ds)
  simp only [PyData.shown]
  rw [PyData.shownAll_length] at this
  omega
/-- small enough for repr -/
def Shw (d : PyData) : Prop := Sm 60 1000000 d
/-- the same for data that may hold dicts and holds no list -/
structure SmT (n m : Nat) (d : PyData) : Prop where
  sh : d.showable = true
  nl : noList d = true
  dp : d.depth ≤ n
  ln : d.shown.length ≤ m
theorem SmT.mono {n m n' m' : Nat} {d : PyData} (h : SmT n m d) (hn : n ≤ n') (hm : m ≤ m') : SmT n' m' d :=
  ⟨h.sh, h.nl, Nat.le_trans h.dp hn, Nat.le_trans h.ln hm⟩
theorem smt_of {n m : Nat} {d : PyData} (h : Sm n m d) (hl : noList d = true) : SmT n m d := ⟨h.sh, hl, h.dp, h.ln⟩
theorem smt_all {n m : Nat} : ∀ {ds : List PyData}, (∀ d ∈ ds, SmT n m d) →
    PyData.showableAll ds = true ∧ noListAll ds = true ∧ PyData.depthAll ds ≤ n ∧ ((PyData.shownAll ds).map (·.length)).sum ≤ ds.length * m
  | [], _ => by simp [PyData.showableAll, noListAll, PyData.depthAll, PyData.shownAll]
  | d :: ds, h => by
    obtain ⟨h1, h2, h3, h4⟩ := smt_all (ds := ds) fun x hx => h x (List.mem_cons_of_mem _ hx)
    have k := h d List.mem_cons_self
    refine ⟨?_, ?_, ?_, ?_⟩
    · simp only [PyData.showableAll, k.sh, h1, Bool.and_true]
    · simp only [noListAll, k.nl, h2, Bool.and_true]
    · simp only [PyData.depthAll]
      exact Nat.max_le.mpr ⟨k.dp, h3⟩
    · simp only [PyData.shownAll, List.map_cons, List.sum_cons, List.length_cons, Nat.succ_mul]
      have := k.ln
      omega
theorem smt_tup {n m : Nat} {ds : List PyData} (h : ∀ d ∈ ds, SmT n m d) : SmT (n + 1) (ds.length * m + 2 * ds.length + 3) (.tuple ds) := by
  obtain ⟨h1, h2, h3, h4⟩ := smt_all h
  refine ⟨by simpa only [PyData.showable] using h1, by simpa only [noList] using h2, by simp only [PyData.depth]; omega, ?_⟩
  have := tupleText_len_le (PyData.shownAll ds)
  simp only [PyData.shown]
  rw [PyData.shownAll_length] at this
  omega
def Shx (d : PyData) : Prop := Shw d ∨ SmT 60 1000000 d
def rRepr (K : PySem.W.Frag) : List V → Hp → VK → Prop := fun xs H Q => ∃ B v d, xs = [v] ∧ Rp K B H d v ∧ Shx d ∧ Q (.str d.shown) H
theorem call_reprD {X : Cx} (hg : X.A.guards = some []) (hu : X.A.units + 64 < cLine) : CallR X (.builtin "repr") (rRepr X.K) := by
  intro pins s σ H xs us Q I r h
  obtain ⟨B, v, d, rfl, hd, hs, q⟩ := h
  obtain ⟨u, rfl, t⟩ := vals1 r
  obtain ⟨as, rd, rs⟩ := Rp.reads I d v u hd t
  have ln : d.shown.length ≤ 1000000 := hs.elim (·.ln) (·.ln)
  have sh : d.showable = true := hs.elim (·.sh) (·.sh)
  have dp : d.depth ≤ 60 := hs.elim (·.dp) (·.dp)
  have sm : d.hasDict = true → sysModules ∉ as := hs.elim (fun h => PyData.noDict_hsm h.nd) fun h _ => rs h.nl
  have sz : d.shown.length ≤ sizeLine := Nat.le_trans ln (by decide)
  have fin : ∀ (h' : Heap) (u : Tok) (tk : Nat), (∀ b o, s.heap.get? b = some o → h'.get? b = some o) →
      EP X pins σ Q (.str d.shown u) { s with heap := h', toks := tk } := fun h' u tk hk =>
    ⟨.str d.shown, H, I.un (Un.kept hk) (I.hok.kept hk), ⟨u, rfl⟩, q⟩
  cases rd with
  | none =>
    have := fin s.heap s.toks (s.toks + 1) fun _ _ z => z
    rw [PyData.shown_none] at this
    exact PySem.P.repr_of_none this
  | bool b =>
    have := fin s.heap s.toks (s.toks + 1) fun _ _ z => z
    rw [PyData.shown_bool] at this
    refine PySem.P.repr_of_bool ?_
    cases b <;> exact this
  | int i t =>
    have := fin s.heap s.toks (s.toks + 1) fun _ _ z => z
    rw [PyData.shown_int] at this
    simp only [PyData.showable, decide_eq_true_eq] at sh
    exact PySem.P.repr_of_int sh this
  | str x t =>
    have := fin s.heap s.toks (s.toks + 1) fun _ _ z => z
    rw [PyData.shown_str] at this
    exact PySem.P.repr_of_str this (by rw [← PyData.shown_str]; exact sz)
  | list a1 a2 a3 a4 => exact repr_of_reads' (.list a1 a2 a3 a4) sh sm hg (by omega) (fun _ _ z => z) (fun h' u tk hk => fin h' u tk hk) sz
  | tuple a1 a2 a3 a4 => exact repr_of_reads' (.tuple a1 a2 a3 a4) sh sm hg (by omega) (fun _ _ z => z) (fun h' u tk hk => fin h' u tk hk) sz
  | dict a1 a2 a3 a4 a5 => exact repr_of_reads' (.dict a1 a2 a3 a4 a5) sh sm hg (by omega) (fun _ _ z => z) (fun h' u tk hk => fin h' u tk hk) sz
end CG

/-! Part 3: readings that denote data. -/
namespace CG
open PySem PySem.Spec PyProof.Rows L2
/-- the reading te gives the data d and changes nothing that stands -/
def Dn (K : PySem.W.Frag) (B : Addr → Prop) (te : TE) (σ : L2.St) (H : Hp) (d : PyData) : Prop :=
  ∀ H1, Xt B H H1 → ∀ Q : VK, (∀ v H2, Same H1 H2 → Rp K B H2 d v → Q v H2) → te σ H1 Q
def DnA (K : PySem.W.Frag) (B : Addr → Prop) (ta : TA) (σ : L2.St) (H : Hp) (ds : List PyData) : Prop :=
  ∀ H1, Xt B H H1 → ∀ Q : List V → Hp → Prop, (∀ vs H2, Same H1 H2 → RpA K B H2 ds vs → Q vs H2) → ta σ H1 Q
def DnT (B : Addr → Prop) (tt : TT) (σ : L2.St) (H : Hp) (b : Bool) : Prop :=
  ∀ H1, Xt B H H1 → ∀ Q : Bool → Hp → Prop, (∀ H2, Same H1 H2 → Q b H2) → tt σ H1 Q
def DnO (B : Addr → Prop) (to : TO) (σ : L2.St) (H : Hp) (o : Option Int) : Prop :=
  ∀ H1, Xt B H H1 → ∀ Q : Option Int → Hp → Prop, (∀ H2, Same H1 H2 → Q o H2) → to σ H1 Q
/-- operations on data -/
def RvD (K : PySem.W.Frag) (B : Addr → Prop) (r : R2) (da db d : PyData) : Prop :=
  ∀ H1 x y, Al B H1 → Rp K B H1 da x → Rp K B H1 db y → ∀ Q : VK, (∀ v H2, Same H1 H2 → Rp K B H2 d v → Q v H2) → r x y H1 Q
def RuD (K : PySem.W.Frag) (B : Addr → Prop) (r : V → Hp → VK → Prop) (da d : PyData) : Prop :=
  ∀ H1 x, Al B H1 → Rp K B H1 da x → ∀ Q : VK, (∀ v H2, Same H1 H2 → Rp K B H2 d v → Q v H2) → r x H1 Q
def RcD (K : PySem.W.Frag) (B : Addr → Prop) (r : List V → Hp → VK → Prop) (ds : List PyData) (d : PyData) : Prop :=
  ∀ H1 xs, Al B H1 → RpA K B H1 ds xs → ∀ Q : VK, (∀ v H2, Same H1 H2 → Rp K B H2 d v → Q v H2) → r xs H1 Q
/-- a def's promise over data -/
def spP (K : PySem.W.Frag) (P : List PyData → PyData → Prop) : Sp := fun vs H Q _ =>
  ∃ B ds d, Al B H ∧ RpA K B H ds vs ∧ P ds d ∧ ∀ v H', Same H H' → Rp K B H' d v → Q v H'
section
variable {K : PySem.W.Frag} {B : Addr → Prop} {σ : L2.St} {H H1 H2 : Hp} {ta tb te : TE} {tx : TA} {tt tu : TT} {v : V} {d da db dc : PyData}
  {ds es : List PyData} {r : R2} {b c : Bool}
theorem Dn.up (h : Dn K B te σ H d) (x : Xt B H H1) : Dn K B te σ H1 d := fun H2 y Q q => h H2 (x.trans y) Q q
theorem DnT.eq (h : DnT B tt σ H b) (e : b = c) : DnT B tt σ H c := e ▸ h
theorem Dn.eq (h : Dn K B te σ H d) (e : d = da) : Dn K B te σ H da := e ▸ h
theorem dn_var {i : Nat} (h : σ[i]? = some (some v)) (r : Rp K B H d v) : Dn K B (tVar i) σ H d := fun H1 x Q q =>
  ⟨v, h, q v H1 (Same.refl H1) (r.up x)⟩
theorem dn_int {i : Int} : Dn K B (tC (.int i)) σ H (.int i) := fun H1 x Q q => q _ H1 (Same.refl H1) (rp_int.mpr rfl)
theorem dn_bl : Dn K B (tC (.bl b)) σ H (.bool b) := fun H1 x Q q => q _ H1 (Same.refl H1) (rp_bl.mpr rfl)
theorem dn_non : Dn K B (tC .non) σ H .none := fun H1 x Q q => q _ H1 (Same.refl H1) (rp_non.mpr rfl)
theorem dn_str {z : Str} : Dn K B (tC (.str z)) σ H (.str z) := fun H1 x Q q => q _ H1 (Same.refl H1) (rp_str.mpr rfl)
theorem dn_op (ha : Dn K B ta σ H da) (hb : Dn K B tb σ H db) (hr : RvD K B r da db d) : Dn K B (tOp r ta tb) σ H d := fun H1 x Q q =>
  ha H1 x _ fun v H2 e2 r2 => hb H2 (x.same e2) _ fun w H3 e3 r3 =>
    hr H3 v w ((x.same e2).same e3).al (r2.up (Xt.of (x.same e2).al e3)) r3 Q fun z H4 e4 r4 => q z H4 (e2.trans (e3.trans e4)) r4
theorem dn_un {r : V → Hp → VK → Prop} (ha : Dn K B ta σ H da) (hr : RuD K B r da d) : Dn K B (tUn r ta) σ H d := fun H1 x Q q =>
  ha H1 x _ fun v H2 e2 r2 => hr H2 v (x.same e2).al r2 Q fun z H4 e4 r4 => q z H4 (e2.trans e4) r4
theorem da_nil : DnA K B tNil σ H [] := fun H1 x Q q => q [] H1 (Same.refl H1) RpA.nil
theorem da_cons (ha : Dn K B te σ H d) (hr : DnA K B tx σ H ds) : DnA K B (tCons te tx) σ H (d :: ds) := fun H1 x Q q =>
  ha H1 x _ fun v H2 e2 r2 => hr H2 (x.same e2) _ fun vs H3 e3 r3 => q (v :: vs) H3 (e2.trans e3) (.cons (r2.up (Xt.of (x.same e2).al e3)) r3)
theorem dn_tup (h : DnA K B tx σ H ds) (z : ds.length ≤ 100000) : Dn K B (tTup tx) σ H (.tuple ds) := fun H1 x Q q =>
  h H1 x _ fun vs H2 e2 r2 => ⟨by rw [← r2.length]; exact Nat.le_trans z (by decide), fun p np =>
    q (.ref p) _ (e2.trans (same_new np)) (rp_tup.mpr ⟨p, vs, rfl, .inl ((x.same e2).al.new np), SqT.of upd_same, r2.up (Xt.of (x.same e2).al (same_new np))⟩)⟩
theorem dn_lst (h : DnA K B tx σ H ds) (z : ds.length ≤ 100000) : Dn K B (tLst tx) σ H (.list ds) := fun H1 x Q q =>
  h H1 x _ fun vs H2 e2 r2 => ⟨by rw [← r2.length]; exact Nat.le_trans z (by decide), fun p np =>
    q (.ref p) _ (e2.trans (same_new np)) (rp_lst.mpr ⟨p, vs, rfl, (x.same e2).al.new np, upd_same, r2.up (Xt.of (x.same e2).al (same_new np))⟩)⟩
theorem dn_cb {r : List V → Hp → VK → Prop} (h : DnA K B tx σ H ds) (hr : RcD K B r ds d) : Dn K B (tCB r tx) σ H d := fun H1 x Q q =>
  h H1 x _ fun vs H2 e2 r2 => hr H2 vs (x.same e2).al r2 Q fun z H4 e4 r4 => q z H4 (e2.trans e4) r4
theorem dn_call {P : List PyData → PyData → Prop} {E : XK} (h : DnA K B tx σ H ds) (hp : P ds d) : Dn K B (tCall (spP K P) [] E tx) σ H d := fun H1 x Q q =>
  h H1 x _ fun vs H2 e2 r2 => ⟨B, ds, d, (x.same e2).al, by rw [List.append_nil]; exact r2, hp, fun v H' e r => q v H' (e2.trans e) r⟩
/-! tests -/
theorem dt_test (h : Dn K B te σ H (.bool b)) : DnT B (tTest te) σ H b := fun H1 x Q q => h H1 x _ fun v H2 e r => ⟨b, rp_bl.mp r, q H2 e⟩
theorem dt_B (h : Dn K B te σ H (.bool b)) : DnT B (tB te) σ H b := fun H1 x Q q => h H1 x _ fun v H2 e r => ⟨b, rp_bl.mp r, q H2 e⟩
theorem dt_not (h : DnT B tt σ H b) : DnT B (tNot tt) σ H (!b) := fun H1 x Q q => h H1 x _ fun H2 e => q H2 e
theorem dt_and (h : DnT B tt σ H b) (k : b = true → DnT B tu σ H c) : DnT B (tAnd tt tu) σ H (b && c) := fun H1 x Q q => h H1 x _ fun H2 e => by
  cases b with
  | true =>
    rw [if_pos rfl]
    exact k rfl H2 (x.same e) Q fun H3 e3 => q H3 (e.trans e3)
  | false =>
    rw [if_neg (by decide)]
    exact q H2 e
theorem dt_or (h : DnT B tt σ H b) (k : b = false → DnT B tu σ H c) : DnT B (tOr tt tu) σ H (b || c) := fun H1 x Q q => h H1 x _ fun H2 e => by
  cases b with
  | true =>
    rw [if_pos rfl]
    exact q H2 e
  | false =>
    rw [if_neg (by decide)]
    exact k rfl H2 (x.same e) Q fun H3 e3 => q H3 (e.trans e3)
theorem dn_ifx (h : DnT B tt σ H b) (k1 : b = true → Dn K B ta σ H d) (k2 : b = false → Dn K B tb σ H d) : Dn K B (tIf tt ta tb) σ H d :=
  fun H1 x Q q => h H1 x _ fun H2 e => by
  cases b with
  | true =>
    rw [if_pos rfl]
    exact k1 rfl H2 (x.same e) Q fun v H3 e3 r3 => q v H3 (e.trans e3) r3
  | false =>
    rw [if_neg (by decide)]
    exact k2 rfl H2 (x.same e) Q fun v H3 e3 r3 => q v H3 (e.trans e3) r3
theorem dn_and (ha : Dn K B ta σ H (.bool b)) (hb : b = true → Dn K B tb σ H (.bool c)) : Dn K B (tAndV ta tb) σ H (.bool (b && c)) :=
  fun H1 x Q q => ha H1 x _ fun v H2 e r => ⟨b, rp_bl.mp r, by
  cases b with
  | true =>
    rw [if_pos rfl]
    exact hb rfl H2 (x.same e) Q fun v H3 e3 r3 => q v H3 (e.trans e3) r3
  | false =>
    rw [if_neg (by decide)]
    exact q _ H2 e (rp_bl.mpr rfl)⟩
theorem dn_or (ha : Dn K B ta σ H (.bool b)) (hb : b = false → Dn K B tb σ H (.bool c)) : Dn K B (tOrV ta tb) σ H (.bool (b || c)) :=
  fun H1 x Q q => ha H1 x _ fun v H2 e r => ⟨b, rp_bl.mp r, by
  cases b with
  | true =>
    rw [if_pos rfl]
    exact q _ H2 e (rp_bl.mpr rfl)
  | false =>
    rw [if_neg (by decide)]
    exact hb rfl H2 (x.same e) Q fun v H3 e3 r3 => q v H3 (e.trans e3) r3⟩
theorem dn_not (ha : Dn K B ta σ H (.bool b)) : Dn K B (tNotV ta) σ H (.bool (!b)) := fun H1 x Q q =>
  ha H1 x _ fun v H2 e r => ⟨b, rp_bl.mp r, q _ H2 e (rp_bl.mpr rfl)⟩
theorem do_none : DnO B tNoPart σ H none := fun H1 x Q q => q H1 (Same.refl H1)
theorem do_some {i : Int} (h : Dn K B te σ H (.int i)) : DnO B (tPart te) σ H (some i) := fun H1 x Q q =>
  h H1 x _ fun v H2 e r => ⟨i, rp_int.mp r, q H2 e⟩
/-! operators on ints -/
theorem rd_I0 {g : Int → Int → Int} {i j : Int} : RvD K B (rI0 fun i j => .int (g i j)) (.int i) (.int j) (.int (g i j)) := fun H1 x y _ hx hy Q q =>
  ⟨i, j, rp_int.mp hx, rp_int.mp hy, q _ H1 (Same.refl H1) (rp_int.mpr rfl)⟩
theorem rd_B0 {g : Int → Int → Bool} {i j : Int} : RvD K B (rI0 fun i j => .bl (g i j)) (.int i) (.int j) (.bool (g i j)) := fun H1 x y _ hx hy Q q =>
  ⟨i, j, rp_int.mp hx, rp_int.mp hy, q _ H1 (Same.refl H1) (rp_bl.mpr rfl)⟩
theorem rd_I {C : Int → Int → Prop} {g : Int → Int → Int} {i j : Int} (hc : C i j) : RvD K B (rI C fun i j => .int (g i j)) (.int i) (.int j) (.int (g i j)) :=
  fun H1 x y _ hx hy Q q => ⟨i, j, rp_int.mp hx, rp_int.mp hy, hc, q _ H1 (Same.refl H1) (rp_int.mpr rfl)⟩
theorem ru_neg {i : Int} : RuD K B (rU fun i => .int (-i)) (.int i) (.int (-i)) := fun H1 x _ hx Q q => ⟨i, rp_int.mp hx, q _ H1 (Same.refl H1) (rp_int.mpr rfl)⟩
theorem rd_eqI {i j : Int} : RvD K B rEq (.int i) (.int j) (.bool (decide (i = j))) := fun H1 x y _ hx hy Q q => by
  rw [rp_int.mp hx, rp_int.mp hy]
  refine ⟨rfl, ?_⟩
  have e : decide (V.int i = V.int j) = decide (i = j) := by simp
  rw [e]
  exact q _ H1 (Same.refl H1) (rp_bl.mpr rfl)
theorem rd_neI {i j : Int} : RvD K B rNe (.int i) (.int j) (.bool (!decide (i = j))) := fun H1 x y _ hx hy Q q => by
  rw [rp_int.mp hx, rp_int.mp hy]
  refine ⟨rfl, ?_⟩
  have e : decide (V.int i = V.int j) = decide (i = j) := by simp
  rw [e]
  exact q _ H1 (Same.refl H1) (rp_bl.mpr rfl)
theorem rd_eqS {i j : Str} : RvD K B rEq (.str i) (.str j) (.bool (decide (i = j))) := fun H1 x y _ hx hy Q q => by
  rw [rp_str.mp hx, rp_str.mp hy]
  refine ⟨rfl, ?_⟩
  have e : decide (V.str i = V.str j) = decide (i = j) := by simp
  rw [e]
  exact q _ H1 (Same.refl H1) (rp_bl.mpr rfl)
theorem rd_neS {i j : Str} : RvD K B rNe (.str i) (.str j) (.bool (!decide (i = j))) := fun H1 x y _ hx hy Q q => by
  rw [rp_str.mp hx, rp_str.mp hy]
  refine ⟨rfl, ?_⟩
  have e : decide (V.str i = V.str j) = decide (i = j) := by simp
  rw [e]
  exact q _ H1 (Same.refl H1) (rp_bl.mpr rfl)
/-! places -/
theorem at_data {i : Int} {xs : List V} (h : atI ds i = some d) (r : RpA K B H ds xs) : ∃ x, atI xs i = some x ∧ Rp K B H d x := by
  unfold atI at h ⊢
  rw [← r.length]
  cases e : ixN ds.length i with
  | none => rw [e] at h; cases h
  | some j =>
    rw [e] at h
    exact r.get h
theorem rd_ixT {i : Int} (h : atI ds i = some d) : RvD K B (rIx K) (.tuple ds) (.int i) d := fun H1 x y _ hx hy Q q => by
  obtain ⟨a, xs, rfl, _, s, t⟩ := rp_tup.mp hx
  obtain ⟨z, g, rz⟩ := at_data h t
  exact .inr (.inl ⟨a, xs, i, z, rfl, rp_int.mp hy, s, g, q z H1 (Same.refl H1) rz⟩)
theorem rd_ixL {i : Int} (h : atI ds i = some d) : RvD K B (rIx K) (.list ds) (.int i) d := fun H1 x y _ hx hy Q q => by
  obtain ⟨a, xs, rfl, _, s, t⟩ := rp_lst.mp hx
  obtain ⟨z, g, rz⟩ := at_data h t
  exact .inl ⟨a, xs, i, z, rfl, rp_int.mp hy, SqL.of s, g, q z H1 (Same.refl H1) rz⟩
theorem at_ints {ns : List Int} {i n : Int} (h : atI ns i = some n) : atI (ns.map PyData.int) i = some (.int n) := by
  unfold atI at h ⊢
  rw [List.length_map]
  cases e : ixN ns.length i with
  | none => rw [e] at h; cases h
  | some j =>
    rw [e] at h
    show (ns.map PyData.int)[j]? = some (.int n)
    rw [List.getElem?_map, show ns[j]? = some n from h]
    rfl
end
/-! ### sums -/
def rAddU (K : PySem.W.Frag) : R2 := fun x y H Q => (rI0 (fun i j => .int (i + j))) x y H Q ∨ (rCatA K x y H Q ∨ rCat x y H Q)
theorem op_addU {X : Cx} : OpR X (binaryOp .Add) (rAddU X.K) := op_add.or (op_catA.or op_cat)
/-! ### slices -/
def cutD (ds : List PyData) (lo hi : Option Int) : List PyData :=
  (ds.drop (HT.sIx ds.length 0 lo)).take (HT.sIx ds.length ds.length hi - HT.sIx ds.length 0 lo)
def rSlU (K : PySem.W.Frag) : V → Option Int → Option Int → Hp → VK → Prop := fun x lo hi H Q => rSlL K x lo hi H Q ∨ rSlA K x lo hi H Q
theorem sl_U {X : Cx} : SlR X (rSlU X.K) := sl_list.or sl_tupA
section
variable {K : PySem.W.Frag} {B : Addr → Prop} {σ : L2.St} {H H1 H2 : Hp} {ta tb te : TE} {tx : TA} {tt tu : TT} {v : V} {d da db dc : PyData}
  {ds es : List PyData} {r : R2} {b c : Bool} {lo hi : Option Int} {tl th : TO}
theorem rd_add {i j : Int} : RvD K B (rAddU K) (.int i) (.int j) (.int (i + j)) := fun H1 x y al hx hy Q q => .inl (rd_I0 (g := fun i j => i + j) H1 x y al hx hy Q q)
theorem rd_catT (z : ds.length + es.length ≤ 100000) : RvD K B (rAddU K) (.tuple ds) (.tuple es) (.tuple (ds ++ es)) := fun H1 x y al hx hy Q q => by
  obtain ⟨a, xs, rfl, na, s, t⟩ := rp_tup.mp hx
  obtain ⟨b, ys, rfl, nb, s2, t2⟩ := rp_tup.mp hy
  refine .inr (.inl ⟨a, b, xs, ys, rfl, rfl, s, s2, ?_, fun e => ?_, fun _ e => ?_, fun _ _ p np => ?_⟩)
  · rw [← t.length, ← t2.length]
    exact Nat.le_trans z (by decide)
  · subst e
    obtain rfl : ds = [] := List.length_eq_zero_iff.mp t.length
    exact q _ H1 (Same.refl H1) hy
  · subst e
    obtain rfl : es = [] := List.length_eq_zero_iff.mp t2.length
    rw [List.append_nil] at q
    exact q _ H1 (Same.refl H1) hx
  · refine q (.ref p) _ (same_new np) (rp_tup.mpr ⟨p, _, rfl, .inl (al.new np), SqT.of upd_same, (t.append t2).up (Xt.of al (same_new np))⟩)
theorem rd_catL (z : ds.length + es.length ≤ 100000) : RvD K B (rAddU K) (.list ds) (.list es) (.list (ds ++ es)) := fun H1 x y al hx hy Q q => by
  obtain ⟨a, xs, rfl, na, s, t⟩ := rp_lst.mp hx
  obtain ⟨b, ys, rfl, nb, s2, t2⟩ := rp_lst.mp hy
  refine .inr (.inr ⟨a, b, xs, ys, rfl, rfl, s, s2, ?_, fun p np => ?_⟩)
  · rw [← t.length, ← t2.length]
    exact Nat.le_trans z (by decide)
  · refine q (.ref p) _ (same_new np) (rp_lst.mpr ⟨p, _, rfl, al.new np, upd_same, (t.append t2).up (Xt.of al (same_new np))⟩)
theorem RpA.cut {xs : List V} (h : RpA K B H ds xs) : RpA K B H (cutD ds lo hi) (cutV xs lo hi) := by
  unfold cutD cutV
  rw [h.length]
  exact RpA.take _ (RpA.drop _ h)
theorem cutD_full (e1 : HT.sIx ds.length 0 lo = 0) (e2 : HT.sIx ds.length ds.length hi = ds.length) : cutD ds lo hi = ds := by
  unfold cutD
  rw [e1, e2, List.drop_zero, Nat.sub_zero, List.take_length]
theorem dn_slT (h : Dn K B te σ H (.tuple ds)) (hl : DnO B tl σ H lo) (hh : DnO B th σ H hi) : Dn K B (tSl (rSlU K) te tl th) σ H (.tuple (cutD ds lo hi)) :=
  fun H1 x Q q => h H1 x _ fun v H2 e2 r2 => hl H2 (x.same e2) _ fun H3 e3 => hh H3 ((x.same e2).same e3) _ fun H4 e4 => by
    have x4 := ((x.same e2).same e3).same e4
    have r4 := r2.up (Xt.of (x.same e2).al (e3.trans e4))
    obtain ⟨a, xs, rfl, na, s, t⟩ := rp_tup.mp r4
    have e14 := e2.trans (e3.trans e4)
    refine .inr ⟨a, xs, rfl, s, fun f => ?_, fun _ p np => ?_⟩
    · rw [← t.length] at f
      rw [cutD_full f.1 f.2] at q
      exact q _ H4 e14 r4
    · exact q (.ref p) _ (e14.trans (same_new np)) (rp_tup.mpr ⟨p, _, rfl, .inl (x4.al.new np), SqT.of upd_same, (RpA.cut t).up (Xt.of x4.al (same_new np))⟩)
theorem dn_slL (h : Dn K B te σ H (.list ds)) (hl : DnO B tl σ H lo) (hh : DnO B th σ H hi) : Dn K B (tSl (rSlU K) te tl th) σ H (.list (cutD ds lo hi)) :=
  fun H1 x Q q => h H1 x _ fun v H2 e2 r2 => hl H2 (x.same e2) _ fun H3 e3 => hh H3 ((x.same e2).same e3) _ fun H4 e4 => by
    have x4 := ((x.same e2).same e3).same e4
    have r4 := r2.up (Xt.of (x.same e2).al (e3.trans e4))
    obtain ⟨a, xs, rfl, na, s, t⟩ := rp_lst.mp r4
    have e14 := e2.trans (e3.trans e4)
    refine .inl ⟨a, xs, rfl, SqL.of s, fun p np => ?_⟩
    exact q (.ref p) _ (e14.trans (same_new np)) (rp_lst.mpr ⟨p, _, rfl, x4.al.new np, upd_same, (RpA.cut t).up (Xt.of x4.al (same_new np))⟩)
/-! ### built-in calls -/
def rLenU (K : PySem.W.Frag) : List V → Hp → VK → Prop := fun xs H Q => ∃ p ys, xs = [.ref p] ∧ (SqL K H p ys ∨ SqT K H p ys) ∧ Q (.int ys.length) H
theorem call_lenU {X : Cx} : CallR X (.builtin "len") (rLenU X.K) := call_len_seq
theorem rc_lenT : RcD K B (rLenU K) [.tuple ds] (.int ds.length) := fun H1 xs al h Q q => by
  obtain ⟨y, r, rfl, h1, h2⟩ := rpa_cons.mp h
  obtain rfl := rpa_nil.mp h2
  obtain ⟨a, xs, rfl, na, s, t⟩ := rp_tup.mp h1
  exact ⟨a, xs, rfl, .inr s, q _ H1 (Same.refl H1) (rp_int.mpr (by rw [t.length]))⟩
theorem rc_lenL : RcD K B (rLenU K) [.list ds] (.int ds.length) := fun H1 xs al h Q q => by
  obtain ⟨y, r, rfl, h1, h2⟩ := rpa_cons.mp h
  obtain rfl := rpa_nil.mp h2
  obtain ⟨a, xs, rfl, na, s, t⟩ := rp_lst.mp h1
  exact ⟨a, xs, rfl, .inl (SqL.of s), q _ H1 (Same.refl H1) (rp_int.mpr (by rw [t.length]))⟩
theorem rc_reprX (h : Shx d) : RcD K B (rRepr K) [d] (.str d.shown) := fun H1 xs al k Q q => by
  obtain ⟨y, r, rfl, h1, h2⟩ := rpa_cons.mp k
  obtain rfl := rpa_nil.mp h2
  exact ⟨B, y, d, rfl, h1, h, q _ H1 (Same.refl H1) (rp_str.mpr rfl)⟩
theorem rc_repr (h : Shw d) : RcD K B (rRepr K) [d] (.str d.shown) := rc_reprX (.inl h)
def rMinU : List V → Hp → VK → Prop := fun xs H Q => ∃ i j, xs = [.int i, .int j] ∧ Q (.int (if j < i then j else i)) H
def rMaxU : List V → Hp → VK → Prop := fun xs H Q => ∃ i j, xs = [.int i, .int j] ∧ Q (.int (if j > i then j else i)) H
theorem call_minU {X : Cx} (hc : X.calm = true) : CallR X (.builtin "min") rMinU := call_min2 hc
theorem call_maxU {X : Cx} (hc : X.calm = true) : CallR X (.builtin "max") rMaxU := call_max2 hc
theorem two_ints {i j : Int} {xs : List V} (h : RpA K B H [.int i, .int j] xs) : xs = [.int i, .int j] := by
  obtain ⟨y, r, rfl, h1, h2⟩ := rpa_cons.mp h
  obtain ⟨z, r, rfl, h3, h4⟩ := rpa_cons.mp h2
  rw [rpa_nil.mp h4, rp_int.mp h1, rp_int.mp h3]
theorem rc_min {i j : Int} : RcD K B rMinU [.int i, .int j] (.int (if j < i then j else i)) := fun H1 xs al h Q q =>
  ⟨i, j, two_ints h, q _ H1 (Same.refl H1) (rp_int.mpr rfl)⟩
theorem rc_max {i j : Int} : RcD K B rMaxU [.int i, .int j] (.int (if j > i then j else i)) := fun H1 xs al h Q q =>
  ⟨i, j, two_ints h, q _ H1 (Same.refl H1) (rp_int.mpr rfl)⟩
/-! ### statements -/
variable {D : Ends} {t u : TS} {i n : Nat}
theorem sd_set (h : Dn K B te σ H d) (x : Xt B H H1) (k : ∀ v H', Same H1 H' → Rp K B H' d v → D.nx (σ.set i (some v)) H') : tAsg te (gName i) D σ H1 := h H1 x _ k
theorem sd_ret (h : Dn K B te σ H d) (x : Xt B H H1) (k : ∀ v H', Same H1 H' → Rp K B H' d v → D.rt v H') : tRet te D σ H1 := h H1 x _ k
theorem sd_if (h : DnT B tt σ H b) (x : Xt B H H1) (k1 : b = true → ∀ H', Same H1 H' → t D σ H') (k2 : b = false → ∀ H', Same H1 H' → u D σ H') :
    tIfS tt t u D σ H1 := h H1 x _ fun H' e => by
  cases b with
  | true => exact (if_pos rfl).mpr (k1 rfl H' e)
  | false => exact (if_neg (by decide)).mpr (k2 rfl H' e)
theorem sd_unp {g : TGs} (h : Dn K B te σ H (.tuple ds)) (x : Xt B H H1) (hn : ds.length = n) (k : ∀ xs H', Same H1 H' → RpA K B H' ds xs → g xs σ H' D.nx) :
    tAsg te (gTup K n g) D σ H1 := h H1 x _ fun v H' e r => by
  obtain ⟨a, xs, rfl, na, s, t⟩ := rp_tup.mp r
  exact ⟨a, xs, rfl, s, by rw [← t.length, hn], k xs H' e t⟩
end
end CG

/-! Part 4: the deck, readings that draw from it. -/
namespace CG
open PySem PySem.Spec PyProof.Rows L2
def Bk (D C : Addr) : Addr → Prop := fun a => a = D ∨ a = C
/-- a deck at D, its cells at C, t draws done; both are among the places B that data avoid -/
structure Dk (B : Addr → Prop) (H : Hp) (D C : Addr) (t : Int) : Prop where
  bD : B D
  bC : B C
  al : Al B H
  ne : D ≠ C
  nn : 0 ≤ t
  ex : ∃ cs : List Int, H D = some (.lst [.ref C, .int t]) ∧ H C = some (.lst (cs.map V.int)) ∧ cs.length ≤ 63 ∧ ∀ c ∈ cs, 0 ≤ c
section
variable {K : PySem.W.Frag} {B : Addr → Prop} {D C : Addr} {H H1 H2 : Hp} {t t' n m : Int} {σ : L2.St} {te ta tb : TE} {tx : TA} {tt tu : TT} {d : PyData} {ds : List PyData}
  {Φ Ψ Θ : PyData → Prop} {Φs Ψs : List PyData → Prop} {r : R2} {v : V}
theorem Dk.alk (k : Dk B H D C t) : Al (Bk D C) H := fun a h => by
  rcases h with rfl | rfl
  · exact k.al a k.bD
  · exact k.al a k.bC
theorem Dk.same (k : Dk B H D C t) (e : Same H H1) : Dk B H1 D C t := by
  obtain ⟨bD, bC, al, ne, nn, cs, h1, h2, h3⟩ := k
  exact ⟨bD, bC, al.same e, ne, nn, cs, e _ _ h1, e _ _ h2, h3⟩
theorem Dk.xt (k : Dk B H D C t) (e : Same H H1) : Xt (Bk D C) H H1 := Xt.of k.alk e
/-- what is kept but for the deck is kept but for B -/
theorem Dk.wd (k : Dk B H D C t) (x : Xt (Bk D C) H H1) : Xt B H H1 := ⟨fun a o nb e => x.kp a o (fun z => nb (z.elim (fun w => w ▸ k.bD) fun w => w ▸ k.bC)) e, fun a h => by
  by_cases z : Bk D C a
  · exact x.al a z
  · cases q : H a with
    | none => exact absurd q (k.al a h)
    | some o => rw [x.kp a o z q]; simp⟩
theorem Dk.free {p : Addr} (k : Dk B H D C t) (x : Xt B H1 H) (n : H p = none) : H1 p = none := by
  cases q : H1 p with
  | none => rfl
  | some o =>
    have := x.kp p o (k.al.new n) q
    rw [n] at this
    cases this
/-- .. with one more place that data avoid -/
theorem Dk.grow {p : Addr} (k : Dk B H D C t) (h : H p ≠ none) : Dk (Bp B p) H D C t :=
  ⟨.inl k.bD, .inl k.bC, fun a z => z.elim (k.al a) fun e => e ▸ h, k.ne, k.nn, k.ex⟩
theorem Dk.less {B' : Addr → Prop} (k : Dk B' H D C t) (g : ∀ a, B a → B' a) (bD : B D) (bC : B C) : Dk B H D C t :=
  ⟨bD, bC, fun a z => k.al a (g a z), k.ne, k.nn, k.ex⟩
def Lim : Int := 1000000000000
/-- te gives some data of Φ, with at most n draws -/
def Ef (K : PySem.W.Frag) (B : Addr → Prop) (D C : Addr) (n : Int) (te : TE) (σ : L2.St) (H : Hp) (Φ : PyData → Prop) : Prop :=
  ∀ H1 t, Xt B H H1 → Dk B H1 D C t → t + n ≤ Lim → ∀ Q : VK,
    (∀ v d H2 t', Xt (Bk D C) H1 H2 → Dk B H2 D C t' → t' ≤ t + n → Φ d → Rp K B H2 d v → Q v H2) → te σ H1 Q
def EfA (K : PySem.W.Frag) (B : Addr → Prop) (D C : Addr) (n : Int) (tx : TA) (σ : L2.St) (H : Hp) (Φ : List PyData → Prop) : Prop :=
  ∀ H1 t, Xt B H H1 → Dk B H1 D C t → t + n ≤ Lim → ∀ Q : List V → Hp → Prop,
    (∀ vs ds H2 t', Xt (Bk D C) H1 H2 → Dk B H2 D C t' → t' ≤ t + n → Φ ds → RpA K B H2 ds vs → Q vs H2) → tx σ H1 Q
def EfT (B : Addr → Prop) (D C : Addr) (n : Int) (tt : TT) (σ : L2.St) (H : Hp) (Φ : Bool → Prop) : Prop :=
  ∀ H1 t, Xt B H H1 → Dk B H1 D C t → t + n ≤ Lim → ∀ Q : Bool → Hp → Prop,
    (∀ b H2 t', Xt (Bk D C) H1 H2 → Dk B H2 D C t' → t' ≤ t + n → Φ b → Q b H2) → tt σ H1 Q
/-- a promise of a def whose first argument is the deck -/
def spE (K : PySem.W.Frag) (n : Int) (Pre : List PyData → Prop) (P : List PyData → PyData → Prop) : Sp := fun vs H Q _ =>
  ∃ B D C t ds ws, vs = .ref D :: ws ∧ Dk B H D C t ∧ t + n ≤ Lim ∧ RpA K B H ds ws ∧ Pre ds ∧
    ∀ v d H' t', Xt (Bk D C) H H' → Dk B H' D C t' → t' ≤ t + n → P ds d → Rp K B H' d v → Q v H'
theorem Dn.ef (h : Dn K B te σ H d) : Ef K B D C 0 te σ H (fun z => z = d) := fun H1 t x k hl Q q =>
  h H1 x Q fun v H2 e r => q v d H2 t (k.xt e) (k.same e) (by omega) rfl r
theorem DnA.ef (h : DnA K B tx σ H ds) : EfA K B D C 0 tx σ H (fun z => z = ds) := fun H1 t x k hl Q q =>
  h H1 x Q fun v H2 e r => q v ds H2 t (k.xt e) (k.same e) (by omega) rfl r
theorem Ef.weak (h : Ef K B D C n te σ H Φ) (e : ∀ d, Φ d → Ψ d) (hn : n ≤ m) : Ef K B D C m te σ H Ψ := fun H1 t x k hl Q q =>
  h H1 t x k (by omega) Q fun v d H2 t' x2 k2 h2 p r => q v d H2 t' x2 k2 (by omega) (e d p) r
theorem Ef.to (h : Ef K B D C n te σ H Φ) (e : ∀ d, Φ d → Ψ d) : Ef K B D C n te σ H Ψ := h.weak e (Int.le_refl n)
theorem EfA.weak (h : EfA K B D C n tx σ H Φs) (e : ∀ d, Φs d → Ψs d) (hn : n ≤ m) : EfA K B D C m tx σ H Ψs := fun H1 t x k hl Q q =>
  h H1 t x k (by omega) Q fun v d H2 t' x2 k2 h2 p r => q v d H2 t' x2 k2 (by omega) (e d p) r
theorem Ef.up (h : Ef K B D C n te σ H Φ) (x : Xt B H H1) : Ef K B D C n te σ H1 Φ := fun H2 t y k hl Q q => h H2 t (x.trans y) k hl Q q
theorem ef_op (ha : Ef K B D C n ta σ H Φ) (hb : Ef K B D C m tb σ H Ψ) (hr : ∀ a b, Φ a → Ψ b → ∃ c, Θ c ∧ RvD K B r a b c) (hm : 0 ≤ m) :
    Ef K B D C (n + m) (tOp r ta tb) σ H Θ := fun H1 t x k hl Q q =>
  ha H1 t x k (by omega) _ fun v a H2 t2 x2 k2 l2 pa ra => hb H2 t2 (x.trans (k.wd x2)) k2 (by omega) _ fun w b H3 t3 x3 k3 l3 pb rb => by
    obtain ⟨c, pc, rc⟩ := hr a b pa pb
    exact rc H3 v w k3.al (ra.up (k2.wd x3)) rb Q fun z H4 e4 r4 => q z c H4 t3 (x2.trans (x3.same e4)) (k3.same e4) (by omega) pc r4
theorem ef_un {r : V → Hp → VK → Prop} (ha : Ef K B D C n ta σ H Φ) (hr : ∀ a, Φ a → ∃ c, Θ c ∧ RuD K B r a c) : Ef K B D C n (tUn r ta) σ H Θ :=
  fun H1 t x k hl Q q => ha H1 t x k hl _ fun v a H2 t2 x2 k2 l2 pa ra => by
    obtain ⟨c, pc, rc⟩ := hr a pa
    exact rc H2 v k2.al ra Q fun z H4 e4 r4 => q z c H4 t2 (x2.same e4) (k2.same e4) l2 pc r4
theorem ea_nil : EfA K B D C 0 tNil σ H (fun ds => ds = []) := fun H1 t x k hl Q q => q [] [] H1 t (Xt.refl k.alk) k (by omega) rfl RpA.nil
theorem ea_cons (ha : Ef K B D C n te σ H Φ) (hb : EfA K B D C m tx σ H Ψs) (hm : 0 ≤ m) : EfA K B D C (n + m) (tCons te tx) σ H (fun ds => ∃ d r, ds = d :: r ∧ Φ d ∧ Ψs r) :=
  fun H1 t x k hl Q q => ha H1 t x k (by omega) _ fun v a H2 t2 x2 k2 l2 pa ra => hb H2 t2 (x.trans (k.wd x2)) k2 (by omega) _ fun ws ds H3 t3 x3 k3 l3 pb rb =>
    q (v :: ws) (a :: ds) H3 t3 (x2.trans x3) k3 (by omega) ⟨a, ds, rfl, pa, pb⟩ (.cons (ra.up (k2.wd x3)) rb)
theorem ef_tup (h : EfA K B D C n tx σ H Φs) (z : ∀ ds, Φs ds → ds.length ≤ 100000) : Ef K B D C n (tTup tx) σ H (fun d => ∃ ds, d = .tuple ds ∧ Φs ds) :=
  fun H1 t x k hl Q q => h H1 t x k hl _ fun ws ds H2 t2 x2 k2 l2 pa ra => ⟨by rw [← ra.length]; exact Nat.le_trans (z ds pa) (by decide), fun p np =>
    q (.ref p) _ _ t2 (x2.same (same_new np)) (k2.same (same_new np)) l2 ⟨ds, rfl, pa⟩
      (rp_tup.mpr ⟨p, ws, rfl, .inl (k2.al.new np), SqT.of upd_same, ra.up (Xt.of k2.al (same_new np))⟩)⟩
theorem ef_lst (h : EfA K B D C n tx σ H Φs) (z : ∀ ds, Φs ds → ds.length ≤ 100000) : Ef K B D C n (tLst tx) σ H (fun d => ∃ ds, d = .list ds ∧ Φs ds) :=
  fun H1 t x k hl Q q => h H1 t x k hl _ fun ws ds H2 t2 x2 k2 l2 pa ra => ⟨by rw [← ra.length]; exact Nat.le_trans (z ds pa) (by decide), fun p np =>
    q (.ref p) _ _ t2 (x2.same (same_new np)) (k2.same (same_new np)) l2 ⟨ds, rfl, pa⟩
      (rp_lst.mpr ⟨p, ws, rfl, k2.al.new np, upd_same, ra.up (Xt.of k2.al (same_new np))⟩)⟩
theorem ef_cb {r : List V → Hp → VK → Prop} (h : EfA K B D C n tx σ H Φs) (hr : ∀ ds, Φs ds → ∃ c, Θ c ∧ RcD K B r ds c) : Ef K B D C n (tCB r tx) σ H Θ :=
  fun H1 t x k hl Q q => h H1 t x k hl _ fun ws ds H2 t2 x2 k2 l2 pa ra => by
    obtain ⟨c, pc, rc⟩ := hr ds pa
    exact rc H2 ws k2.al ra Q fun z H4 e4 r4 => q z c H4 t2 (x2.same e4) (k2.same e4) l2 pc r4
theorem ef_call {P : List PyData → PyData → Prop} {E : XK} (h : EfA K B D C n tx σ H Φs) (hp : ∀ ds, Φs ds → ∃ c, P ds c ∧ Θ c) :
    Ef K B D C n (tCall (spP K P) [] E tx) σ H Θ := fun H1 t x k hl Q q => h H1 t x k hl _ fun ws ds H2 t2 x2 k2 l2 pa ra => by
    obtain ⟨c, pc, tc⟩ := hp ds pa
    refine ⟨B, ds, c, k2.al, by rw [List.append_nil]; exact ra, pc, fun v H' e r => ?_⟩
    exact q v c H' t2 (x2.same e) (k2.same e) l2 tc r
/-- a def that draws -/
theorem ef_callE {i : Nat} {Pre : List PyData → Prop} {P : List PyData → PyData → Prop} {E : XK} (hs : σ[i]? = some (some (.ref D))) (h : EfA K B D C m tx σ H Φs)
    (hp : ∀ ds, Φs ds → Pre ds ∧ ∀ c, P ds c → Θ c) (hn : 0 ≤ n) : Ef K B D C (m + n) (tCall (spE K n Pre P) [] E (tCons (tVar i) tx)) σ H Θ :=
  fun H1 t x k hl Q q => ⟨.ref D, hs, h H1 t x k (by omega) _ fun ws ds H2 t2 x2 k2 l2 pa ra => by
    obtain ⟨p1, p2⟩ := hp ds pa
    refine ⟨B, D, C, t2, ds, ws, by rw [List.append_nil], k2, by omega, ra, p1, fun v d H' t' x3 k3 l3 pd rd => ?_⟩
    exact q v d H' t' (x2.trans x3) k3 (by omega) (p2 d pd) rd⟩
theorem et_test {Θ : Bool → Prop} (h : Ef K B D C n te σ H Φ) (hr : ∀ d, Φ d → ∃ b, d = .bool b ∧ Θ b) : EfT B D C n (tTest te) σ H Θ := fun H1 t x k hl Q q =>
  h H1 t x k hl _ fun v d H2 t2 x2 k2 l2 pa ra => by
    obtain ⟨b, rfl, pb⟩ := hr d pa
    exact ⟨b, rp_bl.mp ra, q b H2 t2 x2 k2 l2 pb⟩
theorem et_B {Θ : Bool → Prop} (h : Ef K B D C n te σ H Φ) (hr : ∀ d, Φ d → ∃ b, d = .bool b ∧ Θ b) : EfT B D C n (tB te) σ H Θ := fun H1 t x k hl Q q =>
  h H1 t x k hl _ fun v d H2 t2 x2 k2 l2 pa ra => by
    obtain ⟨b, rfl, pb⟩ := hr d pa
    exact ⟨b, rp_bl.mp ra, q b H2 t2 x2 k2 l2 pb⟩
end
/-- where a def of the text stands -/
structure Has (K : PySem.W.Frag) (mg : Str → Option Value) (x : Str) (st : Stmt) (ps : List Str) (f : Addr) (fd : FuncData) : Prop where
  F : Fun K x x st f fd
  m : mg x = some (.ref f)
  b : Binds K fd ps []
/-- the promise of a draw -/
def PreDraw (ds : List PyData) : Prop := ∃ n : Int, ds = [.int n] ∧ 0 < n ∧ n < 1073741824
def PDraw (ds : List PyData) (d : PyData) : Prop := ∃ n r : Int, ds = [.int n] ∧ d = .int r ∧ 0 ≤ r ∧ r < n
def spDraw (K : PySem.W.Frag) : Sp := spE K 1 PreDraw PDraw
def spDeck (K : PySem.W.Frag) : Sp := fun vs H Q _ => ∃ (a : Addr) (ns : List Int), vs = [.ref a] ∧ SqL K H a (ns.map V.int) ∧
  ∀ D C H', Same H H' → H D = none → H C = none → Dk (fun a => a = D ∨ a = C) H' D C 0 → Q (.ref D) H'
def PSame (ds : List PyData) (d : PyData) : Prop := ∃ a b, ds = [a, b] ∧ Shw a ∧ Shw b ∧ d = .bool (decide (a.shown = b.shown))
section
variable {K : PySem.W.Frag} {B : Addr → Prop} {D C : Addr} {H H1 H2 : Hp} {t n : Int} {σ : L2.St}
/-- _law_draw(deck, n), n written or computed -/
theorem ef_draw {i : Nat} {E : XK} {tx : TA} {Φs : List PyData → Prop} {m : Int} (hs : σ[i]? = some (some (.ref D))) (h : EfA K B D C m tx σ H Φs) (hp : ∀ ds, Φs ds → PreDraw ds) :
    Ef K B D C (m + 1) (tCall (spDraw K) [] E (tCons (tVar i) tx)) σ H (fun d => ∃ ds n r, Φs ds ∧ ds = [.int n] ∧ d = .int r ∧ 0 ≤ r ∧ r < n) :=
  fun H1 t x k hl Q q => ⟨.ref D, hs, h H1 t x k (by omega) _ fun ws ds H2 t2 x2 k2 l2 pa ra => by
    refine ⟨B, D, C, t2, ds, ws, by rw [List.append_nil], k2, by omega, ra, hp ds pa, fun v d H' t' x3 k3 l3 pd rd => ?_⟩
    obtain ⟨n, r, e, pd⟩ := pd
    exact q v d H' t' (x2.trans x3) k3 (by omega) ⟨ds, n, r, pa, e, pd⟩ rd⟩
theorem ef_drawN {i : Nat} {E : XK} (hs : σ[i]? = some (some (.ref D))) (h0 : 0 < n) (h1 : n < 1073741824) :
    Ef K B D C 1 (tCall (spDraw K) [] E (tCons (tVar i) (tCons (tC (.int n)) tNil))) σ H (fun d => ∃ r, d = .int r ∧ 0 ≤ r ∧ r < n) := by
  have a : EfA K B D C 0 (tCons (tC (.int n)) tNil) σ H (fun z => z = [.int n]) := (da_cons dn_int da_nil).ef
  have b := ef_draw (E := E) hs a fun ds e => ⟨n, e, h0, h1⟩
  refine b.weak (fun d p => ?_) (by omega)
  obtain ⟨ds, n', r, e1, e2, p⟩ := p
  subst e1
  simp only [List.cons.injEq, PyData.int.injEq, and_true] at e2
  subst e2
  exact ⟨r, p⟩
end
end CG
namespace CG
open PySem PySem.Spec PyProof.Rows L2
/-- the built-in names are still the built-in ones -/
structure Bz (mg : Str → Option Value) : Prop where
  z_len : mg "len" = none
  z_abs : mg "abs" = none
  z_range : mg "range" = none
  z_repr : mg "repr" = none
  z_min : mg "min" = none
  z_max : mg "max" = none
  z_int : mg "int" = none
  z_tuple : mg "tuple" = none
  z_list : mg "list" = none
  z_bool : mg "bool" = none
  z_isinstance : mg "isinstance" = none
  z_enumerate : mg "enumerate" = none
end CG

/-! Part 5: comprehensions. -/
namespace CG
open PySem PySem.Spec PyProof.Rows L2
section
variable {K : PySem.W.Frag} {B : Addr → Prop} {D C : Addr} {H H1 H2 : Hp} {t c : Int} {σ : L2.St} {te ta tb : TE} {tx : TA} {j n : Nat}
theorem wipe1 {v : V} : wipe ((wipe σ [j]).set j (some v)) [j] = wipe σ [j] := by
  show ((σ.set j none).set j (some v)).set j none = σ.set j none
  rw [List.set_set, List.set_set]
/-- [e for x in range(n)], with draws -/
theorem ef_lcR {Φ : Nat → PyData → Prop} (hx : DnA K B tx σ H [.int n]) (hn : n ≤ 1000) (hc : 0 ≤ c)
    (he : ∀ B', Gw B B' H → ∀ i, i < n → Ef K B' D C c te ((σ.set j none).set j (some (.int (0 + i)))) H (Φ i)) :
    Ef K B D C (n * c) (tLc (iRng1 tx) (gName j) tYes te [j]) σ H (fun d => ∃ ds, d = .list ds ∧ ds.length = n ∧ ∀ i d, ds[i]? = some d → Φ i d) := by
  intro H1 t x k hl Q q
  refine hx H1 x _ fun vs H2 e2 r2 => ?_
  obtain rfl : vs = [.int n] := RpA.ints_inv (ns := [(n : Int)]) r2
  refine ⟨n, rfl, by omega, by omega, fun L nL => ?_⟩
  have k2 := k.same e2
  have x2 := k.xt e2
  have xH : Xt B H H2 := x.trans (k.wd x2)
  have nLH : H L = none := k2.free xH nL
  have nLB : ¬ B L := k2.al.new nL
  have gw : Gw B (Bp B L) H := gw_new nLH
  refine lc_range (lo := 0) (n := n) (fun i H' => ∃ (t' : Int) (ds : List PyData) (vs : List V), Xt (Bk D C) H2 H' ∧ Dk (Bp B L) H' D C t' ∧ t' ≤ t + i * c ∧ H' L = some (.lst vs) ∧
      RpA K (Bp B L) H' ds vs ∧ ds.length = i ∧ ∀ i d, ds[i]? = some d → Φ i d) ?_ ?_ ?_
  · refine ⟨t, [], [], k2.xt (same_new nL), (k2.same (same_new nL)).grow (by rw [upd_same]; simp), by simp, upd_same, RpA.nil, rfl, fun i d h => by simp at h⟩
  · rintro i H' hi ⟨t', ds, vs, x', k', l', hL, ra, hlen, hΦ⟩
    refine ⟨wipe1, ?_⟩
    have xx : Xt (Bp B L) H H' := by
      have y := xH.trans (k2.wd x')
      exact ⟨fun a o nb e => y.kp a o (fun z => nb (.inl z)) e, k'.al⟩
    have bud : t' + c ≤ Lim := by
      have h1 : (i : Int) * c + c ≤ n * c := by
        have : ((i : Int) + 1) * c ≤ n * c := Int.mul_le_mul_of_nonneg_right (by omega) hc
        rw [Int.add_mul, Int.one_mul] at this
        exact this
      omega
    refine he (Bp B L) gw i hi H' t' xx k' bud _ fun v d H3 t3 x3 k3 l3 pd rd => ?_
    have nLk : ¬ Bk D C L := fun z => nLB (z.elim (fun w => w ▸ k2.bD) fun w => w ▸ k2.bC)
    have hL3 : H3 L = some (.lst vs) := x3.kp _ _ nLk hL
    have ra3 := ra.up (k'.wd x3)
    -- the list grows
    have sm : ∀ a o, ¬ Bp B L a → H3 a = some o → (upd H3 L (.lst (vs ++ [v]))) a = some o := fun a o nb e => by
      rw [upd_ne (fun z => nb (.inr z))]
      exact e
    have al4 : Al (Bp B L) (upd H3 L (.lst (vs ++ [v]))) := fun a h => by
      by_cases z : a = L
      · rw [z, upd_same]; simp
      · rw [upd_ne z]
        exact k3.al a h
    have x4 : Xt (Bp B L) H3 (upd H3 L (.lst (vs ++ [v]))) := ⟨sm, al4⟩
    have lv : vs.length = i := by rw [← ra.length, hlen]
    have neD : D ≠ L := fun z => nLB (z ▸ k2.bD)
    have neC : C ≠ L := fun z => nLB (z ▸ k2.bC)
    refine ⟨vs, hL3, Nat.lt_of_lt_of_le (show vs.length < 1001 by omega) (by decide), t3, ds ++ [d], vs ++ [v], ⟨fun a o nb e => ?_, fun a h => ?_⟩, ?_, ?_, upd_same, ?_, ?_, ?_⟩
    · by_cases z : a = L
      · subst z
        rw [nL] at e
        cases e
      · rw [upd_ne z]
        exact x3.kp a o nb (x'.kp a o nb e)
    · exact al4 a (h.elim (fun w => .inl (w ▸ k2.bD)) fun w => .inl (w ▸ k2.bC))
    · obtain ⟨bD, bC, al, ne, nn, cs, h1, h2, h3⟩ := k3
      exact ⟨bD, bC, al4, ne, nn, cs, by rw [upd_ne neD]; exact h1, by rw [upd_ne neC]; exact h2, h3⟩
    · have : ((i + 1 : Nat) : Int) * c = i * c + c := by
        rw [Int.natCast_add, Int.add_mul]
        simp
      rw [this]
      omega
    · exact RpA.append (ra3.up x4) (.cons (rd.up x4) .nil)
    · rw [List.length_append, hlen]
      rfl
    · intro m e h
      by_cases z : m < ds.length
      · rw [List.getElem?_append_left z] at h
        exact hΦ m e h
      · rw [List.getElem?_append_right (by omega)] at h
        have e0 : m - ds.length = 0 := by
          cases w : m - ds.length with
          | zero => rfl
          | succ u => rw [w] at h; simp at h
        rw [e0] at h
        simp only [List.getElem?_cons_zero, Option.some.injEq] at h
        subst h
        have : m = i := by omega
        rw [this]
        exact pd
  · rintro H' ⟨t', ds, vs, x', k', l', hL, ra, hlen, hΦ⟩
    have kB := k'.less bp_up k2.bD k2.bC
    exact q (.ref L) (.list ds) H' t' (x2.trans x') kB l' ⟨ds, rfl, hlen, hΦ⟩ (rp_lst.mpr ⟨L, vs, rfl, nLB, hL, RpA.less bp_up ds vs ra⟩)
/-! statements that draw -/
variable {Φ : PyData → Prop} {Dd : Ends} {m : Int} {tt : TT} {ts tu : TS} {Θ : Bool → Prop} {i : Nat}
theorem se_ret (h : Ef K B D C m te σ H Φ) (x : Xt B H H1) (k : Dk B H1 D C t) (hl : t + m ≤ Lim)
    (q : ∀ v d H2 t', Xt (Bk D C) H1 H2 → Dk B H2 D C t' → t' ≤ t + m → Φ d → Rp K B H2 d v → Dd.rt v H2) : tRet te Dd σ H1 := h H1 t x k hl _ q
theorem se_set (h : Ef K B D C m te σ H Φ) (x : Xt B H H1) (k : Dk B H1 D C t) (hl : t + m ≤ Lim)
    (q : ∀ v d H2 t', Xt (Bk D C) H1 H2 → Dk B H2 D C t' → t' ≤ t + m → Φ d → Rp K B H2 d v → Dd.nx (σ.set i (some v)) H2) : tAsg te (gName i) Dd σ H1 := h H1 t x k hl _ q
theorem se_expr (h : Ef K B D C m te σ H Φ) (x : Xt B H H1) (k : Dk B H1 D C t) (hl : t + m ≤ Lim)
    (q : ∀ v d H2 t', Xt (Bk D C) H1 H2 → Dk B H2 D C t' → t' ≤ t + m → Φ d → Rp K B H2 d v → Dd.nx σ H2) : tDrop te Dd σ H1 := h H1 t x k hl _ q
theorem se_if (h : EfT B D C m tt σ H Θ) (x : Xt B H H1) (k : Dk B H1 D C t) (hl : t + m ≤ Lim)
    (q1 : ∀ H2 t', Xt (Bk D C) H1 H2 → Dk B H2 D C t' → t' ≤ t + m → Θ true → ts Dd σ H2)
    (q2 : ∀ H2 t', Xt (Bk D C) H1 H2 → Dk B H2 D C t' → t' ≤ t + m → Θ false → tu Dd σ H2) : tIfS tt ts tu Dd σ H1 :=
  h H1 t x k hl _ fun b H2 t' x2 k2 l2 p => by
    cases b with
    | true => exact (if_pos rfl).mpr (q1 H2 t' x2 k2 l2 p)
    | false => exact (if_neg (by decide)).mpr (q2 H2 t' x2 k2 l2 p)
theorem se_par {i j : Nat} {Φs : List PyData → Prop} (h : EfA K B D C m tx σ H Φs) (hp : ∀ ds, Φs ds → ds.length = 2) (x : Xt B H H1) (k : Dk B H1 D C t) (hl : t + m ≤ Lim)
    (q : ∀ v w a b H2 t', Xt (Bk D C) H1 H2 → Dk B H2 D C t' → t' ≤ t + m → Φs [a, b] → Rp K B H2 a v → Rp K B H2 b w → Dd.nx ((σ.set i (some v)).set j (some w)) H2) :
    tPar i j tx Dd σ H1 := h H1 t x k hl _ fun vs ds H2 t' x2 k2 l2 p r => by
  have e := hp ds p
  match ds, e with
  | [a, b], _ =>
    obtain ⟨v, r1, rfl, h1, h2⟩ := rpa_cons.mp r
    obtain ⟨w, r2, rfl, h3, h4⟩ := rpa_cons.mp h2
    obtain rfl := rpa_nil.mp h4
    exact ⟨v, w, rfl, q v w a b H2 t' x2 k2 l2 p h1 h3⟩
/-- a, b = e, .. : the first one draws -/
theorem se_par1 {i j : Nat} (h : Ef K B D C m te σ H Φ) (x : Xt B H H1) (k : Dk B H1 D C t) (hl : t + m ≤ Lim)
    (q : ∀ v d H2 t', Xt (Bk D C) H1 H2 → Dk B H2 D C t' → t' ≤ t + m → Φ d → Rp K B H2 d v →
      tx σ H2 fun xs H3 => ∃ v' w, v :: xs = [v', w] ∧ Dd.nx ((σ.set i (some v')).set j (some w)) H3) : tPar i j (tCons te tx) Dd σ H1 := h H1 t x k hl _ q
end
end CG

/-! Part 6: counters and boards as data; further built-in calls; a list of one's own that grows. -/
namespace CG
open PySem PySem.Spec PyProof.Rows L2
structure Ctr where
  s : Int
  t : Int
  g : Int
  e : Int
def Ctr.d (c : Ctr) : PyData := .tuple [.int c.s, .int c.t, .int c.g, .int c.e]
structure Ctr.Ok (n : Int) (c : Ctr) : Prop where
  s0 : 0 ≤ c.s
  s1 : c.s < n
  t0 : 0 ≤ c.t
  t1 : c.t < n
  ne : c.s ≠ c.t
  g0 : 1 ≤ c.g
  g1 : c.g ≤ 5
  e0 : 1 ≤ c.e
  e1 : c.e ≤ 5
def rowsD (cs : List Ctr) : PyData := .tuple (cs.map Ctr.d)
def boardD (n : Int) (cs : List Ctr) : PyData := .tuple [.int n, rowsD cs]
/-- a drawn counter -/
def IsCtr (n : Int) (d : PyData) : Prop := ∃ c : Ctr, d = c.d ∧ c.Ok n
def IsBoard (most many : Int) (d : PyData) : Prop := ∃ (n : Int) (cs : List Ctr), d = boardD n cs ∧ 1 ≤ n ∧ n ≤ most ∧ (cs.length : Int) ≤ many ∧ ∀ c ∈ cs, c.Ok n
def PreCtr (ds : List PyData) : Prop := ∃ n : Int, ds = [.int n] ∧ 2 ≤ n ∧ n ≤ 4
def PCtr (ds : List PyData) (d : PyData) : Prop := ∃ n : Int, ds = [.int n] ∧ IsCtr n d
def PreBoard (ds : List PyData) : Prop := ∃ a b : Int, ds = [.int a, .int b] ∧ 1 ≤ a ∧ a ≤ 4 ∧ 0 ≤ b ∧ b ≤ 100
def PBoard (ds : List PyData) (d : PyData) : Prop := ∃ a b : Int, ds = [.int a, .int b] ∧ IsBoard a b d
theorem step_ne {s p n : Int} (h1 : 0 ≤ s) (h2 : s < n) (h3 : 1 ≤ p) (h4 : p < n) (h5 : n ≤ 4) : s ≠ (s + p) % n := by
  have c : n = 2 ∨ n = 3 ∨ n = 4 := by omega
  rcases c with rfl | rfl | rfl <;> omega
theorem sm_ctr {n : Int} {c : Ctr} (h : c.Ok n) (hn : n ≤ 100) : Sm 1 900 c.d := by
  refine (sm_tup (n := 0) (m := 202) (ds := [.int c.s, .int c.t, .int c.g, .int c.e]) fun d hd => ?_).mono (by decide) (by show 4 * 202 + 2 * 4 + 3 ≤ 900; decide)
  obtain ⟨h1, h2, h3, h4, _, h5, h6, h7, h8⟩ := h
  simp only [List.mem_cons, List.not_mem_nil, or_false] at hd
  rcases hd with rfl | rfl | rfl | rfl <;> exact sm_int (by omega)
theorem sm_rows {n : Int} {cs : List Ctr} (h : ∀ c ∈ cs, c.Ok n) (hn : n ≤ 100) (hl : cs.length ≤ 100) : Sm 2 100000 (rowsD cs) := by
  refine (sm_tup (n := 1) (m := 900) (ds := cs.map Ctr.d) fun d hd => ?_).mono (by decide) (by rw [List.length_map]; omega)
  obtain ⟨c, hc, rfl⟩ := List.mem_map.mp hd
  exact sm_ctr (h c hc) hn
theorem sm_board {n : Int} {cs : List Ctr} (h : ∀ c ∈ cs, c.Ok n) (hn0 : 0 ≤ n) (hn : n ≤ 100) (hl : cs.length ≤ 100) : Sm 3 200020 (boardD n cs) := by
  refine (sm_tup (n := 2) (m := 100000) (ds := [.int n, rowsD cs]) fun d hd => ?_).mono (by decide) (by show 2 * 100000 + 2 * 2 + 3 ≤ 200020; decide)
  simp only [List.mem_cons, List.not_mem_nil, or_false] at hd
  rcases hd with rfl | rfl
  · exact (sm_int (by omega)).mono (by decide) (by decide)
  · exact sm_rows h hn hl
/-! built-in types called -/
theorem boot_intU : bootBuiltins "int" = some (.type "int") := by decide +kernel
theorem boot_tupleU : bootBuiltins "tuple" = some (.type "tuple") := by decide +kernel
theorem boot_listU : bootBuiltins "list" = some (.type "list") := by decide +kernel
theorem boot_boolU : bootBuiltins "bool" = some (.type "bool") := by decide +kernel
def rIntU : List V → Hp → VK → Prop := fun xs H Q => (∃ i, xs = [.int i] ∧ Q (.int i) H) ∨ ∃ k, xs = [.bl k] ∧ Q (.int (if k then 1 else 0)) H
theorem call_intU {X : Cx} : CallR X (.type "int") rIntU := call_int1
def rTupU (K : PySem.W.Frag) : List V → Hp → VK → Prop := fun xs H Q => ∃ p ys, xs = [.ref p] ∧ ((SqL K H p ys ∧ ∀ l, H l = none → Q (.ref l) (upd H l (.tup ys))) ∨ (SqT K H p ys ∧ Q (.ref p) H))
theorem call_tupU {X : Cx} : CallR X (.type "tuple") (rTupU X.K) := call_tuple_of
def rLstU (K : PySem.W.Frag) : List V → Hp → VK → Prop := fun xs H Q => ∃ p ys, xs = [.ref p] ∧ (SqL K H p ys ∨ SqT K H p ys) ∧ ∀ l, H l = none → Q (.ref l) (upd H l (.lst ys))
theorem call_lstU {X : Cx} : CallR X (.type "list") (rLstU X.K) := call_list_of
section
variable {K : PySem.W.Frag} {B : Addr → Prop} {D C L : Addr} {H H1 H2 : Hp} {t : Int} {σ : L2.St} {ds : List PyData} {d : PyData}
theorem rpa_one {x : V} {xs : List V} (h : RpA K B H [d] xs) : ∃ x, xs = [x] ∧ Rp K B H d x := by
  obtain ⟨y, r, rfl, h1, h2⟩ := rpa_cons.mp h
  obtain rfl := rpa_nil.mp h2
  exact ⟨y, rfl, h1⟩
theorem rc_intB {b : Bool} : RcD K B rIntU [.bool b] (.int (if b then 1 else 0)) := fun H1 xs al h Q q => by
  obtain ⟨y, r, rfl, h1, h2⟩ := rpa_cons.mp h
  obtain rfl := rpa_nil.mp h2
  rw [rp_bl.mp h1]
  exact .inr ⟨b, rfl, q _ H1 (Same.refl H1) (rp_int.mpr rfl)⟩
theorem rc_tupL : RcD K B (rTupU K) [.list ds] (.tuple ds) := fun H1 xs al h Q q => by
  obtain ⟨y, r, rfl, h1, h2⟩ := rpa_cons.mp h
  obtain rfl := rpa_nil.mp h2
  obtain ⟨a, ys, rfl, na, s, t⟩ := rp_lst.mp h1
  refine ⟨a, ys, rfl, .inl ⟨SqL.of s, fun l nl => ?_⟩⟩
  exact q _ _ (same_new nl) (rp_tup.mpr ⟨l, ys, rfl, .inl (al.new nl), SqT.of upd_same, t.up (Xt.of al (same_new nl))⟩)
theorem rc_tupT : RcD K B (rTupU K) [.tuple ds] (.tuple ds) := fun H1 xs al h Q q => by
  obtain ⟨y, r, rfl, h1, h2⟩ := rpa_cons.mp h
  obtain rfl := rpa_nil.mp h2
  obtain ⟨a, ys, rfl, na, s, t⟩ := rp_tup.mp h1
  exact ⟨a, ys, rfl, .inr ⟨s, q _ H1 (Same.refl H1) h1⟩⟩
theorem rc_lstT : RcD K B (rLstU K) [.tuple ds] (.list ds) := fun H1 xs al h Q q => by
  obtain ⟨y, r, rfl, h1, h2⟩ := rpa_cons.mp h
  obtain rfl := rpa_nil.mp h2
  obtain ⟨a, ys, rfl, na, s, t⟩ := rp_tup.mp h1
  refine ⟨a, ys, rfl, .inr s, fun l nl => ?_⟩
  exact q _ _ (same_new nl) (rp_lst.mpr ⟨l, ys, rfl, al.new nl, upd_same, t.up (Xt.of al (same_new nl))⟩)
theorem rc_lstL : RcD K B (rLstU K) [.list ds] (.list ds) := fun H1 xs al h Q q => by
  obtain ⟨y, r, rfl, h1, h2⟩ := rpa_cons.mp h
  obtain rfl := rpa_nil.mp h2
  obtain ⟨a, ys, rfl, na, s, t⟩ := rp_lst.mp h1
  refine ⟨a, ys, rfl, .inl (SqL.of s), fun l nl => ?_⟩
  exact q _ _ (same_new nl) (rp_lst.mpr ⟨l, ys, rfl, al.new nl, upd_same, t.up (Xt.of al (same_new nl))⟩)
/-! a list of one's own at L is written -/
theorem Al.put {o : HO} (al : Al (Bp B L) H) : Al (Bp B L) (upd H L o) := fun a h => by
  by_cases z : a = L
  · rw [z, upd_same]; simp
  · rw [upd_ne z]
    exact al a h
theorem xt_put {o : HO} (al : Al (Bp B L) H) : Xt (Bp B L) H (upd H L o) := ⟨fun a o nb e => by
  rw [upd_ne (fun z => nb (.inr z))]
  exact e, al.put⟩
theorem Dk.put {o : HO} (k : Dk (Bp B L) H D C t) (nD : D ≠ L) (nC : C ≠ L) : Dk (Bp B L) (upd H L o) D C t := by
  obtain ⟨bD, bC, al, ne, nn, cs, h1, h2, h3⟩ := k
  exact ⟨bD, bC, al.put, ne, nn, cs, by rw [upd_ne nD]; exact h1, by rw [upd_ne nC]; exact h2, h3⟩
theorem xt_keep {o : HO} (x : Xt (Bk D C) H H1) (n : H L = none) (nD : D ≠ L) (nC : C ≠ L) : Xt (Bk D C) H (upd H1 L o) := ⟨fun a u nb e => by
  rw [upd_ne (ne_of_none e n)]
  exact x.kp a u nb e, fun a h => by
  have : a ≠ L := by
    rcases h with rfl | rfl
    · exact nD
    · exact nC
  rw [upd_ne this]
  exact x.al a h⟩
/-! ### loops -/
variable {te : TE} {tx : TA} {m : Int} {g : TG} {tb : TS} {Dd : Ends} {Φs : List PyData → Prop}
/-- for x in range(n), n drawn -/
theorem se_forR (h : EfA K B D C m tx σ H Φs) (hp : ∀ ds, Φs ds → ∃ n : Nat, ds = [.int n] ∧ n ≤ 1000000) (x : Xt B H H1) (k : Dk B H1 D C t) (hl : t + m ≤ Lim)
    (q : ∀ (n : Nat) H2 t', Xt (Bk D C) H1 H2 → Dk B H2 D C t' → t' ≤ t + m → Φs [.int n] → ∃ Pv : Nat → L2.St → Hp → Prop, Pv 0 σ H2 ∧
      (∀ i τ H', i < n → Pv i τ H' → g (.int (0 + i)) τ H' fun σ2 H3 => tb { Dd with nx := Pv (i + 1), ct := Pv (i + 1), bk := Dd.nx } σ2 H3) ∧ ∀ τ H', Pv n τ H' → Dd.nx τ H') :
    tFor (iRng1 tx) g tb Dd σ H1 := h H1 t x k hl _ fun vs ds H2 t2 x2 k2 l2 p r => by
  obtain ⟨n, rfl, hn⟩ := hp ds p
  obtain rfl : vs = [.int n] := RpA.ints_inv (ns := [(n : Int)]) r
  refine ⟨n, rfl, by omega, by omega, ?_⟩
  obtain ⟨Pv, h0, hs, hd⟩ := q n H2 t2 x2 k2 l2 p
  exact for_range (lo := 0) (n := n) Pv h0 hs hd
theorem sd_forR {n : Nat} (h : DnA K B tx σ H [.int n]) (hn : n ≤ 1000000) (x : Xt B H H1)
    (q : ∀ H2, Same H1 H2 → ∃ Pv : Nat → L2.St → Hp → Prop, Pv 0 σ H2 ∧
      (∀ i τ H', i < n → Pv i τ H' → g (.int (0 + i)) τ H' fun σ2 H3 => tb { Dd with nx := Pv (i + 1), ct := Pv (i + 1), bk := Dd.nx } σ2 H3) ∧ ∀ τ H', Pv n τ H' → Dd.nx τ H') :
    tFor (iRng1 tx) g tb Dd σ H1 := h H1 x _ fun vs H2 e2 r => by
  obtain rfl : vs = [.int n] := RpA.ints_inv (ns := [(n : Int)]) r
  refine ⟨n, rfl, by omega, by omega, ?_⟩
  obtain ⟨Pv, h0, hs, hd⟩ := q H2 e2
  exact for_range (lo := 0) (n := n) Pv h0 hs hd
/-- for x in a tuple -/
theorem sd_forT (h : Dn K B te σ H (.tuple ds)) (x : Xt B H H1)
    (q : ∀ H2, Same H1 H2 → ∃ Pv : Nat → L2.St → Hp → Prop, Pv 0 σ H2 ∧ (∀ i τ H', Pv i τ H' → Xt B H2 H') ∧
      (∀ i d v τ H', ds[i]? = some d → Rp K B H' d v → Pv i τ H' → g v τ H' fun σ2 H3 => tb { Dd with nx := Pv (i + 1), ct := Pv (i + 1), bk := Dd.nx } σ2 H3) ∧ ∀ τ H', Pv ds.length τ H' → Dd.nx τ H') :
    tFor (iTup K te) g tb Dd σ H1 := h H1 x _ fun v H2 e2 r => by
  obtain ⟨a, xs, rfl, na, s, t⟩ := rp_tup.mp r
  obtain ⟨Pv, h0, hx, hs, hd⟩ := q H2 e2
  have sq : ∀ i τ H', Pv i τ H' → SqT K H' a xs := fun i τ H' p => na.elim (fun na => (hx i τ H' p).sqT na s) .inr
  refine ⟨a, rfl, ⟨_, s⟩, for_tup (xs := xs) Pv h0 (fun i τ H' _ p => sq i τ H' p) (fun i y τ H' gy p => ?_) fun τ H' p => hd τ H' (by rw [t.length]; exact p)⟩
  obtain ⟨d, gd, rd⟩ := (t.up (hx i τ H' p)).back gy
  exact hs i d y τ H' gd rd p
/-- for x in a list -/
theorem sd_forL (h : Dn K B te σ H (.list ds)) (x : Xt B H H1)
    (q : ∀ H2, Same H1 H2 → ∃ Pv : Nat → L2.St → Hp → Prop, Pv 0 σ H2 ∧ (∀ i τ H', Pv i τ H' → Xt B H2 H') ∧
      (∀ i d v τ H', ds[i]? = some d → Rp K B H' d v → Pv i τ H' → g v τ H' fun σ2 H3 => tb { Dd with nx := Pv (i + 1), ct := Pv (i + 1), bk := Dd.nx } σ2 H3) ∧ ∀ τ H', Pv ds.length τ H' → Dd.nx τ H') :
    tFor (iList K te) g tb Dd σ H1 := h H1 x _ fun v H2 e2 r => by
  obtain ⟨a, xs, rfl, na, s, t⟩ := rp_lst.mp r
  obtain ⟨Pv, h0, hx, hs, hd⟩ := q H2 e2
  have sq : ∀ i τ H', Pv i τ H' → SqL K H' a xs := fun i τ H' p => SqL.of ((hx i τ H' p).kp _ _ na s)
  refine ⟨a, rfl, ⟨_, SqL.of s⟩, for_list (xs := xs) Pv h0 (fun i τ H' _ p => sq i τ H' p) (fun i y τ H' gy p => ?_) fun τ H' p => hd τ H' (by rw [t.length]; exact p)⟩
  obtain ⟨d, gd, rd⟩ := (t.up (hx i τ H' p)).back gy
  exact hs i d y τ H' gd rd p
/-- .. the list made with draws -/
theorem se_forL {Φ : PyData → Prop} (h : Ef K B D C m te σ H Φ) (x : Xt B H H1) (k : Dk B H1 D C t) (hl : t + m ≤ Lim) (hp : ∀ d, Φ d → ∃ ds, d = .list ds)
    (q : ∀ ds H2 t', Φ (.list ds) → Xt (Bk D C) H1 H2 → Dk B H2 D C t' → t' ≤ t + m → ∃ Pv : Nat → L2.St → Hp → Prop, Pv 0 σ H2 ∧ (∀ i τ H', Pv i τ H' → Xt B H2 H') ∧
      (∀ i d v τ H', ds[i]? = some d → Rp K B H' d v → Pv i τ H' → g v τ H' fun σ2 H3 => tb { Dd with nx := Pv (i + 1), ct := Pv (i + 1), bk := Dd.nx } σ2 H3) ∧ ∀ τ H', Pv ds.length τ H' → Dd.nx τ H') :
    tFor (iList K te) g tb Dd σ H1 := h H1 t x k hl _ fun v d H2 t2 x2 k2 l2 p r => by
  obtain ⟨ds, rfl⟩ := hp d p
  obtain ⟨a, xs, rfl, na, s, t⟩ := rp_lst.mp r
  obtain ⟨Pv, h0, hx, hs, hd⟩ := q ds H2 t2 p x2 k2 l2
  have sq : ∀ i τ H', Pv i τ H' → SqL K H' a xs := fun i τ H' p => SqL.of ((hx i τ H' p).kp _ _ na s)
  refine ⟨a, rfl, ⟨_, SqL.of s⟩, for_list (xs := xs) Pv h0 (fun i τ H' _ p => sq i τ H' p) (fun i y τ H' gy p => ?_) fun τ H' p => hd τ H' (by rw [t.length]; exact p)⟩
  obtain ⟨d, gd, rd⟩ := (t.up (hx i τ H' p)).back gy
  exact hs i d y τ H' gd rd p
end
end CG

/-! Part 7: errors of one's own, isinstance of a caught one; products of lists and tuples; comprehensions without draws. -/
namespace CG
open PySem PySem.Spec PyProof.Rows L2
section
variable {X : Cx} {C : Addr} {bmB : List Value} {B newId initId : String}
/-- X() of an own class without own __init__ -/
theorem pmk_own0 {x : Str} {p pos : Pos} (F : ExcBaseFacts B newId initId bmB) (q : PySem.W.excIn X.K C bmB newId = true) (gC : X.mg x = some (.ref C))
    (kC : PySem.W.keepIn X.K (.ref C) = true) (r : Raises X (.ref C)) (hg : Gl X x) (hdb : (x == ("__debug__" : Str)) = false := by decide) :
    PMk X (.Call (.Name x p) [] [] pos) (fun _ H Q => Q (.ref C) none H) := by
  intro pins s σ H Q I h
  refine wpAny_Call_Name_kw (ld_glob I hg gC ?_ hdb)
  refine PySem.W.callWith_K0 I.kIn kC ?_
  obtain ⟨bm, N, nm, qn, bs, hd, sn, sub, ab, col, dd, k0, k1, k2, k3, k5, mN, hC, hN, hni, T⟩ := exc_obj I.kIn q
  refine wpAny_call_exc_subT F T hC hN hni (fun h' e hm => ?_) (by show 0 ≤ sizeLine; omega)
  exact mk_of I hm r h (I.hok.gone hm.new)
end
/-- f(e, ..) where what is raised is wished for at the slots -/
theorem pe_callSG {X : Cx} {cx : CXT} {k : Nat} {f : Addr} {fd : FuncData} {ps : List Str} {sp : Sp} {E : L2.St → XK} {x : Str} {p pos : Pos} {e : Expr} {es : List Expr} {t : TA}
    (G : FnG X.prog X.w X.K X.mg X.base cx k f fd ps sp) (hgd : X.A.guards = some []) (hr : Room k X.A) (hg : Gl X x) (hm : X.mg x = some (.ref f))
    (hk : PySem.W.keepIn X.K (.ref f) = true) (hb : Binds X.K fd ps []) (hx : ∀ σ, PassesAt cx X σ (E σ)) (ha : PA X (e :: es) t)
    (hdb : (x == ("__debug__" : Str)) = false := by decide) (he : starEach (e :: es) X.env = (false, eval e X.env) :: starEach es X.env := by rfl)
    (hpl : (backTo pos (starEach es X.env)).any (·.1) = false := by rfl) : PE X (.Call (.Name x p) (e :: es) [] pos) (tCallS sp E t) := by
  refine ⟨fun pins s σ H Q I h => wpAny_Call_Name_kw (ld_glob I hg hm ?_ hdb)⟩
  refine PySem.W.callWith_K (h₀ := X.base) I.ok.mod.kin hk ?_ he hpl
  refine thn (ha.run pos pins s σ H _ I h) fun us s1 ⟨vs, H1, I1, r, q⟩ => ⟨I1.kIn, ?_⟩
  have hl : us.length = ps.length := by
    rw [← r.length]
    exact G.len _ _ _ _ q
  have b := hb s1 us I1.kIn (by rw [List.append_nil]; exact hl)
  rw [List.append_nil] at b
  refine wpAny_call (codeAny_mono (G.run X.A X.stack s1 H1 ⟨us, []⟩ us vs Q (E σ) hgd hr I1.env0 b r q) fun w s2 hq => ?_)
  cases w with
  | error er => exact hx σ pins H1 s1 er s2 I1 hq
  | ok fl =>
    cases fl with
    | ret u => exact I1.after hq
    | next => exact hq.elim
    | brk => exact hq.elim
    | cont => exact hq.elim
/-- isinstance(e, c), isinstance(e, (c1, ..)) in an except suite, e of the class cls -/
def rIsX (K : PySem.W.Frag) (cls : Value) (d : Option Addr) (a : Addr) : List V → Hp → VK → Prop := fun xs H Q => ∃ D : Addr, cls = .ref D ∧ d = none ∧ ExcC K D ∧
  ((∃ (c : Addr) (b : Bool), xs = [.ref a, .ref c] ∧ PySem.W.kitOne K (.ref D) (.ref c) = some b ∧ Q (.bl b) H) ∨
    ∃ (t : Addr) (cs : List Addr) (b : Bool), xs = [.ref a, .ref t] ∧ H t = some (.tup (cs.map V.ref)) ∧ PySem.W.kitAny K (.ref D) (cs.map Value.ref) = some b ∧ Q (.bl b) H)
theorem vals_refs : ∀ {cs : List Addr} {us : List Value}, Vals (cs.map V.ref) us → us = cs.map Value.ref
  | [], _, .nil => rfl
  | c :: cs, _, .cons r t => by
    rw [vals_refs t]
    obtain rfl := (show _ = Value.ref c from r)
    rfl
theorem call_isX {X : Cx} {a : Addr} {cls : Value} {d : Option Addr} {oe : Obj} {pn : List (Addr × Obj)} (hz : Zc cls d oe) (hf : ∃ vs, oe.data = .fields vs) :
    CallR (X.suite a ((a, oe) :: pn)) (.builtin "isinstance") (rIsX X.K cls d a) := by
  intro pins s σ H xs us Q I r h
  obtain ⟨D, rfl, rfl, C, h⟩ := h
  obtain ⟨hget, _⟩ := I.pin (a, oe) (List.mem_append.mpr (.inl List.mem_cons_self))
  obtain ⟨fs, hv⟩ := hf
  have J : PySem.W.InstAt s.heap a oe D none := by
    obtain ⟨oc, od, oda, osl⟩ := oe
    obtain ⟨h1, h2⟩ := hz
    dsimp only at h1 h2 hv
    subst h1 h2 hv
    exact ⟨hget, rfl, rfl, trivial⟩
  have Z := PySem.W.handS_kitx_exc (x := a) (ox := oe) C.hg C.hk C.hs C.hd C.ha C.hn C.ht C.hm
  rcases h with ⟨c, b, rfl, e, q⟩ | ⟨t, cs, b, rfl, hT, e, q⟩
  · obtain ⟨u1, u2, rfl, r1, r2⟩ := vals2 r
    obtain rfl := (show u1 = Value.ref a from r1)
    obtain rfl := (show u2 = Value.ref c from r2)
    exact PySem.W.kia_one Z I.kIn J e (fun z => nomatch z) fun tk => ⟨.bl b, H, I.kept (t' := tk) fun _ _ z => z, rfl, q⟩
  · obtain ⟨u1, u2, rfl, r1, r2⟩ := vals2 r
    obtain rfl := (show u1 = Value.ref a from r1)
    obtain rfl := (show u2 = Value.ref t from r2)
    obtain ⟨_, its, rv, o, h1, h2, n, h3⟩ := (show ObjOk X.prog X.w H s.heap t (.tup (cs.map V.ref)) from I.hok t _ hT)
    obtain rfl := vals_refs rv
    obtain ⟨oc, od, dt, sl⟩ := o
    simp only at h2 h3
    subst h2 h3
    exact PySem.W.kia_tup Z I.kIn J h1 e (fun z => nomatch z) fun tk => ⟨.bl b, H, I.kept (t' := tk) fun _ _ z => z, rfl, q⟩
theorem pe_ref {X : Cx} {x : Str} {C : Addr} {pos : Pos} (hg : Gl X x) (hm : X.mg x = some (.ref C)) (hdb : (x == ("__debug__" : Str)) = false := by decide) : PE X (.Name x pos) (tC (.ref C)) := pe_glob hg hm rfl hdb
/-- what the top says of an error class without own __init__ -/
structure XC (K : PySem.W.Frag) (mg : Str → Option Value) (x : Str) (C : Addr) : Prop where
  g : mg x = some (.ref C)
  q : PySem.W.excIn K C [.type "ValueError", .type "Exception", .type "BaseException", .type "object"] "ValueError.__new__" = true
  k : PySem.W.keepIn K (.ref C) = true
  s : PySem.W.subIn K (.ref C) (.type "BaseException") = some true
  t : PySem.W.typeIn K (.ref C) = some (.type "type")
  c : ExcC K C
/-- isinstance of one class against another one, by what the top says -/
theorem kit_ref {K : PySem.W.Frag} {C D : Addr} {b : Bool} (ne : C ≠ D) (hd : PySem.W.hasDictIn K D = true) (ht : PySem.W.typeIn K (.ref D) = some (.type "type"))
    (hs : PySem.W.subIn K (.ref C) (.ref D) = some b) : PySem.W.kitOne K (.ref C) (.ref D) = some b := by
  obtain ⟨cd, hc, _⟩ := PySem.W.any_some hd
  have e1 : ¬ ((Value.ref C == Value.ref D) = true) := fun z => ne (Value.ref.inj (beq_iff_eq.mp z))
  have e2 : ((PySem.W.clsIn K D).isSome && PySem.W.typeIn K (.ref D) == some (.type "type")) = true := by rw [hc, ht] <;> rfl
  unfold PySem.W.kitOne PySem.W.kitCls
  rw [if_neg e1]
  dsimp only
  rw [if_pos e2]
  exact hs
theorem kit_self {K : PySem.W.Frag} {C : Addr} : PySem.W.kitOne K (.ref C) (.ref C) = some true := by
  unfold PySem.W.kitOne
  rw [if_pos (beq_iff_eq.mpr rfl)]
theorem kit_nil {K : PySem.W.Frag} {C : Addr} : PySem.W.kitAny K (.ref C) [] = some false := rfl
theorem kit_cons {K : PySem.W.Frag} {C : Addr} {v : Value} {vs : List Value} (h : PySem.W.kitOne K (.ref C) v = some false) (t : PySem.W.kitAny K (.ref C) vs = some false) :
    PySem.W.kitAny K (.ref C) (v :: vs) = some false := by
  unfold PySem.W.kitAny
  rw [h]
  exact t
/-- a promise that may also raise C -/
def spPX (K : PySem.W.Frag) (C : Addr) (P : List PyData → PyData → Prop) (R : List PyData → Prop) : Sp := fun vs H Q E =>
  ∃ B ds, Al B H ∧ RpA K B H ds vs ∧ ((∃ d, P ds d ∧ ∀ v H', Same H H' → Rp K B H' d v → Q v H') ∨ (R ds ∧ ∀ H', Same H H' → E (.ref C) none H'))
/-! ### products -/
def rMulU (K : PySem.W.Frag) : R2 := fun x y H Q => (rI CMul (fun i j => .int (i * j))) x y H Q ∨ (rRepT K x y H Q ∨ rRep x y H Q)
theorem op_mulU {X : Cx} : OpR X (binaryOp .Mult) (rMulU X.K) := op_mul.or (op_repT.or op_rep)
section
variable {K : PySem.W.Frag} {B : Addr → Prop} {D C L : Addr} {H H1 H2 : Hp} {t : Int} {σ : L2.St} {ds : List PyData} {d : PyData} {te : TE} {tx : TA} {j n : Nat}
theorem rpa_flat {xs : List V} (h : RpA K B H ds xs) : ∀ m : Nat, RpA K B H (List.replicate m ds).flatten (List.replicate m xs).flatten
  | 0 => RpA.nil
  | m + 1 => by
    rw [List.replicate_succ, List.replicate_succ, List.flatten_cons, List.flatten_cons]
    exact RpA.append h (rpa_flat h m)
theorem rd_repT {k : Int} (h0 : ds ≠ []) (h1 : 2 ≤ k) (h2 : k ≤ 1000) (hl : ds.length ≤ 1000) : RvD K B (rMulU K) (.tuple ds) (.int k) (.tuple (List.replicate k.toNat ds).flatten) :=
  fun H1 x y al hx hy Q q => by
  obtain ⟨a, xs, rfl, na, s, t⟩ := rp_tup.mp hx
  refine .inr (.inl ⟨a, k, xs, rfl, rp_int.mp hy, s, fun z => ?_, h1, h2, by rw [← t.length]; exact hl, fun p np => ?_⟩)
  · subst z
    exact h0 (List.length_eq_zero_iff.mp t.length)
  · exact q _ _ (same_new np) (rp_tup.mpr ⟨p, _, rfl, .inl (al.new np), SqT.of upd_same, (rpa_flat t _).up (Xt.of al (same_new np))⟩)
theorem rd_repL {k : Int} (h1 : 0 ≤ k) (h2 : k ≤ 1000) (hl : ds.length ≤ 1000) : RvD K B (rMulU K) (.list ds) (.int k) (.list (List.replicate k.toNat ds).flatten) :=
  fun H1 x y al hx hy Q q => by
  obtain ⟨a, xs, rfl, na, s, t⟩ := rp_lst.mp hx
  refine .inr (.inr ⟨a, k, xs, rfl, rp_int.mp hy, s, by omega, by omega, ?_, fun p np => ?_⟩)
  · rw [← t.length]
    refine Nat.le_trans (Nat.mul_le_mul hl (show k.toNat ≤ 1000 by omega)) (by decide)
  · exact q _ _ (same_new np) (rp_lst.mpr ⟨p, _, rfl, al.new np, upd_same, (rpa_flat t _).up (Xt.of al (same_new np))⟩)
theorem rd_mulI {i k : Int} (h : CMul i k) : RvD K B (rMulU K) (.int i) (.int k) (.int (i * k)) := fun H1 x y al hx hy Q q => .inl (rd_I (g := fun i j => i * j) h H1 x y al hx hy Q q)
/-! ### comprehensions without draws: es, item by item -/
/-- what stands while the list at L is made: i items are there -/
def LcI (K : PySem.W.Frag) (B : Addr → Prop) (L : Addr) (H : Hp) (es : List PyData) (i : Nat) (H' : Hp) : Prop :=
  Same H H' ∧ Al (Bp B L) H' ∧ ∃ vs, H' L = some (.lst vs) ∧ RpA K (Bp B L) H' (es.take i) vs
theorem lc_begin {es : List PyData} (al : Al B H) (nL : H L = none) : LcI K B L H es 0 (upd H L (.lst [])) :=
  ⟨same_new nL, fun a h => h.elim (fun b => (al.same (same_new nL)) a b) fun e => by rw [e, upd_same]; simp, [], upd_same, RpA.nil⟩
theorem lc_step {es : List PyData} {e : PyData} {i : Nat} {H' : Hp} (nL : H L = none) (p : LcI K B L H es i H') (hi : i < 100000) (ge : es[i]? = some e) (he : Dn K (Bp B L) te σ H' e) :
    te σ H' fun y H4 => ∃ acc, H4 L = some (.lst acc) ∧ acc.length < sizeLine ∧ LcI K B L H es (i + 1) (upd H4 L (.lst (acc ++ [y]))) := by
  obtain ⟨s1, al, vs, hL, ra⟩ := p
  refine he H' (Xt.refl al) _ fun y H4 s4 r4 => ?_
  have al4 := al.same s4
  have x4 : Xt (Bp B L) H4 (upd H4 L (.lst (vs ++ [y]))) := xt_put al4
  refine ⟨vs, s4 _ _ hL, ?_, fun b o eb => ?_, x4.al, vs ++ [y], upd_same, ?_⟩
  · have e1 := ra.length
    rw [List.length_take] at e1
    exact Nat.lt_of_lt_of_le (show vs.length < 100001 by omega) (by decide)
  · rw [upd_ne (ne_of_none eb nL)]
    exact s4 _ _ (s1 b o eb)
  · rw [List.take_add_one, ge]
    exact RpA.append ((ra.up (Xt.of al s4)).up x4) (.cons (r4.up x4) .nil)
theorem lc_end {es : List PyData} {H' : Hp} (nB : ¬ B L) (hn : es.length ≤ n) (p : LcI K B L H es n H') : Same H H' ∧ Rp K B H' (.list es) (.ref L) := by
  obtain ⟨s1, al, vs, hL, ra⟩ := p
  rw [List.take_of_length_le hn] at ra
  exact ⟨s1, rp_lst.mpr ⟨L, vs, rfl, nB, hL, RpA.less bp_up _ _ ra⟩⟩
/-- [e for x in range(n)] -/
theorem dn_lcR {es : List PyData} (hx : DnA K B tx σ H [.int n]) (hn : n ≤ 1000) (hes : es.length = n)
    (he : ∀ B', Gw B B' H → ∀ (i : Nat) e, es[i]? = some e → Dn K B' te ((σ.set j none).set j (some (.int (0 + i)))) H e) :
    Dn K B (tLc (iRng1 tx) (gName j) tYes te [j]) σ H (.list es) := fun H1 x Q q => hx H1 x _ fun vs H2 e2 r2 => by
  obtain rfl : vs = [.int n] := RpA.ints_inv (ns := [(n : Int)]) r2
  refine ⟨n, rfl, by omega, by omega, fun L nL => ?_⟩
  have x2 := x.same e2
  have nB : ¬ B L := x2.al.new nL
  have nLH : H L = none := by
    cases e : H L with
    | none => rfl
    | some o =>
      have := x2.kp L o nB e
      rw [nL] at this
      cases this
  refine lc_range (lo := 0) (n := n) (LcI K B L H2 es) (lc_begin x2.al nL) (fun i H' hi p => ⟨wipe1, ?_⟩) fun H' p => ?_
  · obtain ⟨e, ge⟩ : ∃ e, es[i]? = some e := ⟨es[i]'(by omega), List.getElem?_eq_getElem (by omega)⟩
    refine lc_step nL p (by omega) ge ((he (Bp B L) (gw_new nLH) i e ge).up ⟨fun a o nb z => p.1 a o (x2.kp a o (fun w => nb (.inl w)) z), p.2.1⟩)
  · obtain ⟨s1, r1⟩ := lc_end nB (by omega) p
    exact q _ H' (e2.trans s1) r1
/-- [e for .. in a tuple], any target -/
theorem dn_lcT {t0 : TE} {g : TG} {es : List PyData} {vs : List Nat} (h : Dn K B t0 σ H (.tuple ds)) (hl : ds.length ≤ 1000) (hes : es.length = ds.length)
    (he : ∀ B', Gw B B' H → ∀ (i : Nat) d e v H1, ds[i]? = some d → es[i]? = some e → Xt B' H H1 → Rp K B' H1 d v → ∀ Q : L2.St → Hp → Prop,
      (∀ σ2, wipe σ2 vs = wipe σ vs → Dn K B' te σ2 H1 e → Q σ2 H1) → g v (wipe σ vs) H1 Q) :
    Dn K B (tLc (iTup K t0) g tYes te vs) σ H (.list es) := fun H1 x Q q => h H1 x _ fun v H2 e2 r2 => by
  obtain ⟨a, xs, rfl, na, s, t⟩ := rp_tup.mp r2
  refine ⟨a, rfl, ⟨_, s⟩, fun L nL => ?_⟩
  have x2 := x.same e2
  have nB : ¬ B L := x2.al.new nL
  have nLH : H L = none := by
    cases e : H L with
    | none => rfl
    | some o =>
      have := x2.kp L o nB e
      rw [nL] at this
      cases this
  have xl := t.length
  have t' := RpA.grow (gw_new nL) _ _ t
  have up : ∀ {i H'}, LcI K B L H2 es i H' → Xt (Bp B L) H2 H' := fun p => ⟨fun a o _ z => p.1 a o z, p.2.1⟩
  have na' : ∀ {H' : Hp}, Xt (Bp B L) H2 H' → SqT K H' a xs := fun y => by
    rcases na with na | na
    · rcases sqT_alive s with z | z
      · exact .inr z
      · refine y.sqT (fun w => w.elim na fun e => z ?_) s
        rw [e]
        exact nL
    · exact .inr na
  refine lc_tup (xs := xs) (LcI K B L H2 es) (lc_begin x2.al nL) (fun i H' _ p => na' (up p)) (fun i y H' gy p => ?_) fun H' p => ?_
  · have hi : i < xs.length := (List.getElem?_eq_some_iff.mp gy).1
    obtain ⟨d, gd, rd⟩ := (t'.up (up p)).back gy
    obtain ⟨e, ge⟩ : ∃ e, es[i]? = some e := ⟨es[i]'(by omega), List.getElem?_eq_getElem (by omega)⟩
    refine he (Bp B L) (gw_new nLH) i d e y H' gd ge ⟨fun a o nb z => p.1 a o (x2.kp a o (fun w => nb (.inl w)) z), p.2.1⟩ rd _ fun σ2 hw hd => ⟨hw, ?_⟩
    exact lc_step nL p (by omega) ge hd
  · obtain ⟨s1, r1⟩ := lc_end nB (by omega) p
    exact q _ H' (e2.trans s1) r1
/-! slices -/
theorem cutD_take (k : Nat) : cutD ds none (some (k : Int)) = ds.take k := by
  unfold cutD
  rw [HT.sIx_none, HT.sIx_nat, List.drop_zero, Nat.sub_zero, List.take_eq_take_iff]
  omega
theorem cutD_drop (k : Nat) : cutD ds (some (k : Int)) none = ds.drop k := by
  unfold cutD
  rw [HT.sIx_none, HT.sIx_nat]
  by_cases h : k ≤ ds.length
  · rw [Nat.min_eq_left h, List.take_of_length_le (by rw [List.length_drop]; omega)]
  · rw [Nat.min_eq_right (by omega), List.drop_length, List.drop_of_length_le (by omega)]
    exact List.take_nil
/-! isinstance of the caught error -/
theorem dn_isC {a c D : Addr} {i : Nat} {b : Bool} (X : ExcC K D) (h : σ[i]? = some (some (.ref a))) (hk : PySem.W.kitOne K (.ref D) (.ref c) = some b) :
    Dn K B (tCB (rIsX K (.ref D) none a) (tCons (tVar i) (tCons (tC (.ref c)) tNil))) σ H (.bool b) := fun H1 x Q q =>
  ⟨.ref a, h, D, rfl, rfl, X, .inl ⟨c, b, rfl, hk, q _ H1 (Same.refl H1) (rp_bl.mpr rfl)⟩⟩
theorem dn_isT {a D : Addr} {cs : List Addr} {i : Nat} {b : Bool} {tc : TA} (X : ExcC K D) (h : σ[i]? = some (some (.ref a))) (hc : ∀ H1 (Q : List V → Hp → Prop), Q (cs.map V.ref) H1 → tc σ H1 Q)
    (hl : cs.length ≤ 1000) (hk : PySem.W.kitAny K (.ref D) (cs.map Value.ref) = some b) :
    Dn K B (tCB (rIsX K (.ref D) none a) (tCons (tVar i) (tCons (tTup tc) tNil))) σ H (.bool b) := fun H1 x Q q =>
  ⟨.ref a, h, hc H1 _ ⟨by rw [List.length_map]; exact Nat.le_trans hl (by decide), fun p np => ⟨D, rfl, rfl, X, .inr ⟨p, cs, b, rfl, upd_same, hk, q _ _ (same_new np) (rp_bl.mpr rfl)⟩⟩⟩⟩
end
/-- a statement, then the rest, with a word between -/
def tMid (t u : TS) : TS := fun Dd σ H => ∃ M : L2.St → Hp → Prop, t { Dd with nx := M } σ H ∧ ∀ σ' H', M σ' H' → u Dd σ' H'
theorem pss_mid {X : Cx} {st : Stmt} {rest : List Stmt} {t u : TS} (h1 : PS X st t) (h2 : PSs X rest u) : PSs X (st :: rest) (tMid t u) := by
  refine ⟨fun pins s σ H Dd I h => ?_⟩
  obtain ⟨M, hm, hu⟩ := h
  refine wpAny_execs_cons (thn (h1.run pins s σ H { Dd with nx := M } I hm) fun f s1 q => ?_)
  cases f with
  | next =>
    obtain ⟨τ, H1, I1, q⟩ := q
    exact h2.run pins s1 τ H1 Dd I1 (hu τ H1 q)
  | ret v => exact q
  | brk => exact q
  | cont => exact q
end CG

/-! Part 8: enumerate of a tuple, t[::-1], isinstance of data, dict displays. -/
namespace CG
open PySem PySem.Spec PyProof.Rows L2
/-! ### t[::-1] -/
section
variable {prog : Program} {w : World} {A : Around} {E : Value → Shared → Prop} {s : Shared}
theorem rev_adjust (n : Nat) : Builtin.Slice.sliceAdjust none none (-1) (n : Int) = ((n : Int) - 1, -1) := by
  unfold Builtin.Slice.sliceAdjust
  simp
theorem rev_places (n : Nat) : Builtin.Slice.slicePlaces ((n : Int) - 1) (-1) (-1) = n := by
  unfold Builtin.Slice.slicePlaces
  simp
  omega
theorem rev_applied {sl : Addr} {vs : Value} {n : Nat} {Q : Int × Int × Nat → Shared → Prop} (hs : s.heap.IsSliceOf sl .none .none vs) (ps : IsPart vs (some (-1))) (h : Q ((n : Int) - 1, -1, n) s) :
    wpAny (model prog w) A (Builtin.Slice.sliceApplied (.ref sl) (pure (n : Int))) Q E s := by
  obtain ⟨os, hos, hcs, hds⟩ := id hs
  unfold Builtin.Slice.sliceApplied Builtin.Slice.sliceFields
  refine wpAny_bind (wpAny_bind (wpAny_field hos hds (x := .none) rfl (wpAny_bind (wpAny_field hos hds (x := .none) rfl (wpAny_bind (wpAny_field hos hds (x := vs) rfl (wpAny_pure ?_)))))))
  refine wpAny_bind (HT.slicePart_ ps ?_)
  show wpAny _ _ (if ((-1 : Int) == 0) = true then _ else _) _ _ s
  rw [if_neg (by decide)]
  refine wpAny_bind (HT.slicePart_ .none (wpAny_bind (HT.slicePart_ .none (wpAny_bind (wpAny_pure ?_)))))
  show wpAny _ _ (match Builtin.Slice.sliceAdjust none none (-1) (n : Int) with | (lo, hi) => pure (lo, (-1 : Int), Builtin.Slice.slicePlaces lo hi (-1))) _ _ s
  rw [rev_adjust n]
  show wpAny _ _ (pure ((n : Int) - 1, (-1 : Int), Builtin.Slice.slicePlaces ((n : Int) - 1) (-1) (-1))) _ _ s
  rw [rev_places]
  exact wpAny_pure h
theorem fm_all {α β : Type} {f : α → Option β} {g : α → β} : ∀ {l : List α}, (∀ a ∈ l, f a = some (g a)) → l.filterMap f = l.map g
  | [], _ => rfl
  | a :: l, h => by
    rw [List.filterMap_cons, h a List.mem_cons_self, List.map_cons, fm_all fun b hb => h b (List.mem_cons_of_mem _ hb)]
theorem rev_pick (xs : List Value) : ((List.range xs.toArray.size).filterMap fun (k : Nat) => xs.toArray[(((xs.toArray.size : Nat) : Int) - 1 + (k : Int) * -1).toNat]?) = xs.reverse := by
  apply List.ext_getElem?
  intro i
  have e : (List.range xs.toArray.size).filterMap (fun (k : Nat) => xs.toArray[(((xs.toArray.size : Nat) : Int) - 1 + (k : Int) * -1).toNat]?) =
      (List.range xs.length).map (fun k => xs.reverse.getD k .none) := by
    rw [List.size_toArray]
    refine fm_all fun k hk => ?_
    have hk' : k < xs.length := List.mem_range.mp hk
    have e1 : (((xs.length : Nat) : Int) - 1 + (k : Int) * -1).toNat = xs.length - 1 - k := by omega
    rw [e1]
    simp only [List.getElem?_toArray, List.getD_eq_getElem?_getD]
    rw [List.getElem?_reverse hk', List.getElem?_eq_getElem (by omega)]
    rfl
  rw [e, List.getElem?_map]
  by_cases hi : i < xs.length
  · rw [List.getElem?_range hi, List.getElem?_reverse hi, List.getElem?_eq_getElem (by omega)]
    simp only [Option.map_some, List.getD_eq_getElem?_getD]
    rw [List.getElem?_reverse hi, List.getElem?_eq_getElem (by omega)]
    rfl
  · rw [List.getElem?_eq_none (by rw [List.length_range]; omega), List.getElem?_eq_none (by rw [List.length_reverse]; omega)]
    rfl
theorem rev_item {t sl : Addr} {its : List Value} {vs : Value} {Q : Value → Shared → Prop} (ht : IsTup s.heap t its.toArray) (hs : s.heap.IsSliceOf sl .none .none vs) (ps : IsPart vs (some (-1)))
    (h : Q (.ref s.heap.objs.size) { s with heap := s.heap.push { cls := .type "tuple", data := .seq its.reverse.toArray } })
    (hsz : its.length ≤ sizeLine) : wpAny (model prog w) A (getItem (.ref t) (.ref sl)) Q E s := by
  have hok : sizeOk (.seq its.reverse.toArray) := by
    show its.reverse.toArray.size ≤ sizeLine
    rw [List.size_toArray, List.length_reverse]
    exact hsz
  obtain ⟨os, hos, hcs, hds⟩ := id hs
  have hTs : s.TypeIs (.ref sl) "slice" := ⟨os, hos, hcs⟩
  unfold getItem
  try with_reducible refine wpAny_holding ?_
  first | refine wpAny_bind (wpAny_pure ?_) | skip
  refine wpAny_bind (wpAny_sequenceKey ht.typeIs (by decide) ?_)
  refine wpAny_bind (wpAny_callSpecial?_slot (name := Str.ofString "__getitem__") ht.typeIs PyProof.Rows.slot_tuple_getitem
    (wpAny_call_entry PyProof.Rows.slot_tuple_getitem ht.typeIs entry_tuple_getitem ?_ (args_tuple_getitem _ _)))
  show wpAny _ _ (Builtin.Tuple.tupleItemsOf (.ref t) >>= _) _ _ s
  refine wpAny_bind (tupleItemsOf_ ht ?_)
  refine wpAny_bind (wpAny_typeOf hTs ?_)
  rw [if_pos (by decide)]
  refine wpAny_bind (rev_applied hs ps ?_)
  have hno : ¬ ((((its.toArray.size : Nat) : Int) - 1 == 0 && (-1 : Int) == 1 && its.toArray.size == its.toArray.size) = true) := by
    intro q
    rw [Bool.and_eq_true, Bool.and_eq_true] at q
    exact absurd (eq_of_beq q.1.2) (by decide)
  show wpAny _ _ (if (((its.toArray.size : Nat) : Int) - 1 == 0 && (-1 : Int) == 1 && its.toArray.size == its.toArray.size) = true then _ else _) _ _ s
  rw [if_neg hno, rev_pick]
  first
    | exact wpAny_bind (m := Builtin.Tuple.tupleExact _) (wpAny_newObj_type (wpAny_pure ⟨_, rfl, wpAny_pure h⟩) hok)
    | exact wpAny_bind (m := Builtin.Tuple.tupleExact _) (wpAny_newObj_type (wpAny_bind (wpAny_pure (wpAny_pure ⟨_, rfl, wpAny_pure h⟩))) hok)
    | exact wpAny_bind (wpAny_bind (m := Builtin.Tuple.tupleExact _) (wpAny_newObj_type (wpAny_pure (wpAny_pure ⟨_, rfl, wpAny_pure h⟩)) hok))
    | exact wpAny_bind (wpAny_bind (m := Builtin.Tuple.tupleExact _) (wpAny_newObj_type (wpAny_pure ⟨_, rfl, wpAny_pure h⟩) hok))
end
/-- t[::-1] -/
def tRevT (K : PySem.W.Frag) (te : TE) : TE := fun σ H Q => te σ H fun x H1 => ∃ a xs, x = .ref a ∧ SqT K H1 a xs ∧ ∀ p, H1 p = none → Q (.ref p) (upd H1 p (.tup xs.reverse))
theorem pe_revT {X : Cx} {e : Expr} {te : TE} {k : Nat} {p1 p2 p3 pos : Pos} (he : PE X e te) :
    PE X (.Subscript e (.Slice none none (some (.UnaryOp .USub (.Constant (.int 1) k p1) p2)) p3) pos) (tRevT X.K te) := by
  refine ⟨fun pins s σ H Q I h => ?_⟩
  refine Subscript_ (thn (he.run pins s σ H _ I h) fun v s1 ⟨x, H1, I1, r1, q1⟩ => ?_)
  obtain ⟨a, xs, rfl, hx, q⟩ := q1
  cases r1
  have hst : PO X (some (.UnaryOp .USub (.Constant (.int 1) k p1) p2)) (tPart (tUn (rU fun i => .int (-i)) (tC (.int 1)))) := po_some (pe_un un_neg pe_int)
  refine wpAny_Slice (thn (po_none.run pins s1 σ H1 (fun o G => o = none ∧ G = H1) I1 ⟨rfl, rfl⟩) fun vl s2 ⟨l, H2, I2, pl, el, e2⟩ => ?_)
  subst el e2
  refine thn (po_none.run pins s2 σ H2 (fun o G => o = none ∧ G = H2) I2 ⟨rfl, rfl⟩) fun vu s3 ⟨u, H3, I3, pu, eu, e3⟩ => ?_
  subst eu e3
  refine thn (hst.run pins s3 σ H3 (fun o G => o = some (-1) ∧ G = H3) I3 ⟨1, rfl, -1, rfl, rfl, rfl⟩) fun vs s4 ⟨o, H4, I4, ps, eo, e4⟩ => ?_
  subst eo e4
  have I5 : Inv X pins σ H4 { s4 with heap := s4.heap.push { cls := .type "slice", data := .fields #[vl, vu, vs] } } := I4.kept (t' := s4.toks) fun b ob q => Heap.get?_push_of_some _ q
  obtain ⟨its, r, ht, hz⟩ := I5.tuple hx
  obtain rfl : vl = Value.none := by cases pl; rfl
  obtain rfl : vu = Value.none := by cases pu; rfl
  show wpAny (model X.prog X.w) X.A (subscriptTail e (.Slice none none (some (.UnaryOp .USub (.Constant (.int 1) k p1) p2)) p3) (.ref a) (.ref s4.heap.objs.size)) (EP X pins σ Q) X.xe { s4 with heap := s4.heap.push { cls := .type "slice", data := .fields #[.none, .none, vs] } }
  refine tail_any (ops := [.ref a, .ref s4.heap.objs.size]) ht.typeIs (PyProof.Rows.slot_tuple_getitem.lookup) ?_ (by with_unfolding_all rfl)
  refine rev_item ht (Heap.IsSliceOf.new _ .none .none vs) ps ?_ (by rw [← r.length]; exact hz)
  refine ⟨.ref _, _, I5.laid (t' := s4.toks) (o := .tup xs.reverse) (fun b ob q => Heap.get?_push_of_some _ q) (Nat.le_refl _) ?_, rfl, q _ (I5.hok.fresh (Nat.le_refl _))⟩
  exact ⟨by rw [List.length_reverse]; exact hz, _, r.reverse, IsTup.new _ _⟩
theorem RpA.rev {K : PySem.W.Frag} {B : Addr → Prop} {H : Hp} : ∀ {ds : List PyData} {xs : List V}, RpA K B H ds xs → RpA K B H ds.reverse xs.reverse
  | [], xs, h => by rw [rpa_nil.mp h]; exact .nil
  | d :: ds, xs, h => by
    obtain ⟨x, r, rfl, h1, h2⟩ := rpa_cons.mp h
    rw [List.reverse_cons, List.reverse_cons]
    exact RpA.append (RpA.rev h2) (.cons h1 .nil)
theorem dn_revT {K : PySem.W.Frag} {B : Addr → Prop} {te : TE} {σ : L2.St} {H : Hp} {ds : List PyData} (h : Dn K B te σ H (.tuple ds)) : Dn K B (tRevT K te) σ H (.tuple ds.reverse) :=
  fun H1 x Q q => h H1 x _ fun v H2 e2 r2 => by
  obtain ⟨a, xs, rfl, na, s, t⟩ := rp_tup.mp r2
  have al := (x.same e2).al
  exact ⟨a, xs, rfl, s, fun p np => q _ _ (e2.trans (same_new np)) (rp_tup.mpr ⟨p, _, rfl, .inl (al.new np), SqT.of upd_same, (RpA.rev t).up (Xt.of al (same_new np))⟩)⟩
/-! ### enumerate of a tuple -/
theorem meets_enumT (l : Addr) (items : Array Value) (n : Nat) (dct : Option Addr) (sl : Array (Option Value)) :
    Meets (Builtin.«enumerate.__new__» ⟨[.type "enumerate", .ref l], []⟩) (fun _ R s => s.heap.get? l = some { cls := .type "tuple", dict := dct, data := .seq items n, slots := sl } ∧
      R (.ok (.ret (.ref (s.heap.push { cls := .type "tuple_iterator", data := .fields #[.ref l, .int 0 0] }).objs.size)))
        { s with heap := (s.heap.push { cls := .type "tuple_iterator", data := .fields #[.ref l, .int 0 0] }).push { cls := .type "enumerate", data := .fields #[.none, .bool false, .ref s.heap.objs.size, rawInt 0, .none, .none] } }) :=
  .of_wp fun prog w A R s h => by
    obtain ⟨hp, g, d, tk, os⟩ := s
    obtain ⟨hl, h⟩ := h
    have hsub := sub_enumerate
    have hL : Heap.IsTuple (Shared.heap ⟨hp, g, d, tk, os⟩) l items := ⟨_, hl, rfl, n, rfl⟩
    wp_walk using AutoSeq1.wpAny_loadPart' hl
    refine wpAny_stack_any fun st => wpAny_pure ?_
    split
    · rename_i c _ _ _ _ _
      cases (c == Value.type "enumerate")
      · wp_walk using AutoSeq1.wpAny_loadPart' hl, wpAny_pyIter_tuple hL
        exact ⟨_, rfl, h⟩
      · wp_walk using AutoSeq1.wpAny_loadPart' hl, wpAny_pyIter_tuple hL
        exact ⟨_, rfl, h⟩
    · wp_walk using AutoSeq1.wpAny_loadPart' hl, wpAny_pyIter_tuple hL
      exact ⟨_, rfl, h⟩
theorem call_enumT {prog : Program} {w : World} {A : Around} {E : Value → Shared → Prop} {s : Shared} {l : Addr} {items : Array Value} {Q : Value → Shared → Prop} (hL : s.heap.IsTuple l items)
    (h : ∀ h', IsEnum h' (s.heap.objs.size + 1) s.heap.objs.size 0 .none → h'.IsTupleIter s.heap.objs.size l 0 →
      (∀ b o, s.heap.get? b = some o → h'.get? b = some o) → Q (.ref (s.heap.objs.size + 1)) { s with heap := h' }) :
    wpAny (model prog w) A (call (.type "enumerate") [.ref l]) Q E s := by
  obtain ⟨⟨c, dct, dt, sl⟩, hl, hc, n, hd⟩ := hL
  replace hc : c = .type "tuple" := hc
  replace hd : dt = .seq items n := hd
  subst hc hd
  refine callType_new F.called_enumerate (by decide) (F.typeCall_enumerate_1 _) (F.newCall_enumerate_1 _) (fun obj => F.args_object_init_2 obj _) F.entry_enumerate_new
    (meets_enumT l items n dct sl) ⟨hl, ?_⟩
  have hz : (s.heap.push { cls := .type "tuple_iterator", data := .fields #[.ref l, .int 0 0] }).objs.size = s.heap.objs.size + 1 := Heap.size_push ..
  show _ ∧ _
  rw [hz]
  have he : IsEnum ((s.heap.push { cls := .type "tuple_iterator", data := .fields #[.ref l, .int 0 0] }).push
      { cls := .type "enumerate", data := .fields #[.none, .bool false, .ref s.heap.objs.size, rawInt 0, .none, .none] }) (s.heap.objs.size + 1) s.heap.objs.size 0 .none := by
    have := Heap.get?_push_size (s.heap.push { cls := .type "tuple_iterator", data := .fields #[.ref l, .int 0 0] })
      (o := { cls := .type "enumerate", data := .fields #[.none, .bool false, .ref s.heap.objs.size, rawInt 0, .none, .none] }) rfl
    rw [hz] at this
    exact this
  exact ⟨⟨_, he, rfl⟩, h _ he ⟨_, Heap.get?_push_of_some _ (Heap.get?_push_size _ rfl), rfl, rfl⟩ fun b o x => Heap.get?_push_of_some _ (Heap.get?_push_of_some _ x)⟩
/-- the tuple at a as it stands, each item in a new pair -/
def IteT (K : PySem.W.Frag) (a : Addr) : It :=
  ⟨fun i H => ∃ (xs : List V) (x : V), SqT K H a xs ∧ xs[i]? = some x,
    fun i H v H' => ∃ T x, v = .ref T ∧ H T = none ∧ H' = upd H T (.tup [.int (i : Nat), x]) ∧ ∀ xs, SqT K H a xs → xs[i]? = some x, fun i H => ∃ xs : List V, SqT K H a xs ∧ xs.length = i⟩
theorem turn_enumT {P : Program} {w : World} {K : PySem.W.Frag} {elts : List Expr} {kk : Nat} {tpos : Pos} (a e it : Addr) :
    Turn P w K (.Tuple elts kk tpos) (IteT K a) [e, it] e (fun i h => (∃ old, IsEnum h e it ((i : Nat) : Int) old) ∧ h.IsTupleIter it a i ∧ e ≠ it) where
  mem := by simp
  obj := fun i h st b hb => by
    obtain ⟨⟨old, he⟩, ⟨o, ho, hc, hd⟩, _⟩ := st
    have z : b = e ∨ b = it := by simpa using hb
    rcases z with z | z
    · rw [z]; exact ⟨_, he, fun v q => nomatch q⟩
    · rw [z]; exact ⟨o, ho, fun v q => by rw [hd] at q; cases q⟩
  keep := fun i h h' st k => let ⟨⟨old, he⟩, hi, hne⟩ := st; ⟨⟨old, k e (by simp) _ he⟩, hi.at fun o q => k it (by simp) o q, hne⟩
  item := by
    intro X hP hw hK hc i pins s σ H E I hf st hg
    subst hP hw hK
    obtain ⟨⟨old, he⟩, hit, hne⟩ := st
    obtain ⟨xs, x, hq, hx⟩ := hg
    obtain ⟨its, rv, p, hz⟩ := I.tuple hq
    obtain ⟨u, hu, ru⟩ := rv.get hx
    have hel : e < s.heap.objs.size := Heap.lt_size he
    have hil : it < s.heap.objs.size := by obtain ⟨_, q, _⟩ := hit; exact Heap.lt_size q
    have nea : e ≠ a := fun z => by
      obtain ⟨o, ho, hoc, _⟩ := p
      rw [← z] at ho
      have he' := he
      unfold IsEnum at he'
      rw [he'] at ho
      cases ho
      exact absurd (show Value.type "enumerate" = Value.type "tuple" from hoc) (by decide)
    have nia : a ≠ it := fun z => by
      obtain ⟨o, ho, hoc, _⟩ := p
      obtain ⟨o2, ho2, hoc2, _⟩ := hit
      rw [z, ho2] at ho
      cases ho
      rw [hoc2] at hoc
      exact absurd hoc (by decide)
    have hlt : i < its.toArray.size := by
      rw [List.size_toArray]
      exact (List.getElem?_eq_some_iff.mp hu).1
    have hh : X.A.in1.handled = none := I.ok.hd hc
    refine wpAny_pyNext_enum_itemD (Draws.tuple hh it a nia its.toArray) he ⟨hit, p⟩ hlt hne (by simp [hne, nea]) fun y h' tk py ho hst' hT hsz hk => ?_
    have hyu : y = u := by
      have : its.toArray[i]? = some u := by simpa using hu
      rw [this] at py
      exact (Option.some.inj py).symm
    subst hyu
    refine ⟨_, rfl, wpAny_letOwnedTupleGo_enum (s := { s with heap := h', toks := tk + 1 }) ho fun h2 he' sb => ?_⟩
    have hT2 : h2.get? s.heap.objs.size = some { cls := .type "tuple", data := .seq #[.int i tk, y] } := (sb.2 _ (Nat.ne_of_gt hel)).trans hT
    have new : ObjOk X.prog X.w (upd H s.heap.objs.size (.tup [.int (i : Nat), x])) h2 s.heap.objs.size (.tup [.int (i : Nat), x]) :=
      ⟨by show 2 ≤ sizeLine; decide, [.int i tk, y], .cons ⟨_, rfl⟩ (.cons ru .nil), ⟨_, hT2, rfl, _, rfl⟩⟩
    have I1 : Inv X pins σ (upd H s.heap.objs.size (.tup [.int (i : Nat), x])) { s with heap := h2, toks := tk + 1 } :=
      I.turnedNew (ch := [e, it]) (fun b ob hb q => (sb.2 b (fun z => hb (by simp [z]))).trans (hk b ob (fun z => hb (by simp [z])) (fun z => hb (by simp [z])) q)) hf (Nat.le_refl _) new
    refine ⟨.ref s.heap.objs.size, _, I1, rfl, ⟨_, x, rfl, I.hok.fresh (Nat.le_refl _), rfl, fun ys hy => by rw [I.tuple_inj hy hq]; exact hx⟩, ⟨⟨y, ?_⟩, hst'.1.at fun o q => (sb.2 it (Ne.symm hne)).trans q, hne⟩, fun b hb => ?_⟩
    · have e1 : ((i + 1 : Nat) : Int) = (i : Int) + 1 := by omega
      rw [e1]
      exact he'
    · have hb' : b < s.heap.objs.size := by
        have z : b = e ∨ b = it := by simpa using hb
        rcases z with z | z
        · rw [z]; exact hel
        · rw [z]; exact hil
      rw [upd_ne (Nat.ne_of_lt hb')]
      exact (hf b hb).1
  done := by
    intro X hP hw hK hc i pins s σ H E I hf st hg
    subst hP hw hK
    obtain ⟨⟨old, he⟩, hit, hne⟩ := st
    obtain ⟨xs, hq, hx⟩ := hg
    obtain ⟨its, rv, p, hz⟩ := I.tuple hq
    obtain ⟨f0, f1, f2, f3, f4, f5⟩ := hf it (by simp)
    have nia : a ≠ it := fun z => by
      obtain ⟨o, ho, hoc, _⟩ := p
      obtain ⟨o2, ho2, hoc2, _⟩ := hit
      rw [z, ho2] at ho
      cases ho
      rw [hoc2] at hoc
      exact absurd hoc (by decide)
    have hl : its.toArray.size = i := by rw [List.size_toArray, ← rv.length, hx]
    have hh : X.A.in1.handled = none := I.ok.hd hc
    exact wpAny_pyNext_enum_endD (Draws.tuple hh it a nia its.toArray) he (by rw [hl]; exact ⟨hit, p⟩) fun h' eb => ⟨rfl, I.turned (t' := s.toks) (fun b o hb q => eb b o hb q) f0 f1 f3 f4 f5⟩
  self := fun A i s Q E st h => let ⟨⟨_, he⟩, _⟩ := st; wpAny_pyIter_enum he h
def iEnumT (K : PySem.W.Frag) (ta : TA) : TI := fun σ H R => ta σ H fun vs H1 => ∃ a xs, vs = [.ref a] ∧ SqT K H1 a xs ∧ R (IteT K a) H1
theorem pi_enumT {X : Cx} {e : Expr} {ta : TA} {p pos tpos : Pos} {elts : List Expr} {kk : Nat} (hg : Gl X "enumerate") (hm : X.mg "enumerate" = none) (ha : PA X [e] ta)
    (hs : starEach [e] X.env = [(false, eval e X.env)] := by rfl) : PI X (.Tuple elts kk tpos) (.Call (.Name "enumerate" p) [e] [] pos) (iEnumT X.K ta) := by
  refine ⟨fun pins s σ H R I h => ?_⟩
  refine Call_ (ld_blt I hg hm boot_enumerate (PyProof.Rows.callWith_type1 (thn (ha.run pos pins s σ H _ I h) fun us s1 ⟨vs, H1, I1, r1, q1⟩ => ?_) hs rfl))
  obtain ⟨a, xs, rfl, hq, q⟩ := q1
  cases r1 with
  | cons r rr =>
    cases rr
    cases r
    obtain ⟨its, rv, p', hz⟩ := I1.tuple hq
    refine call_enumT p' fun h' he hit hk => wpAny_pyIter_enum he ?_
    have I2 : Inv X pins σ H1 { s1 with heap := h' } := I1.kept (t' := s1.toks) hk
    refine ⟨s1.heap.objs.size + 1, [s1.heap.objs.size + 1, s1.heap.objs.size], _, _, H1, rfl, I2, turn_enumT a (s1.heap.objs.size + 1) s1.heap.objs.size, ⟨⟨.none, he⟩, hit, Nat.succ_ne_self _⟩, fun b hb => ?_, q⟩
    have z : b = s1.heap.objs.size + 1 ∨ b = s1.heap.objs.size := by simpa using hb
    have hle : s1.heap.objs.size ≤ b := by
      rcases z with z | z
      · rw [z]; exact Nat.le_add_right _ _
      · rw [z]; exact Nat.le_refl _
    exact I1.fpOk hle (I1.hok.fresh hle)
/-- for i, x in enumerate(a tuple) -/
theorem sd_enumT {K : PySem.W.Frag} {B : Addr → Prop} {te : TE} {σ : L2.St} {H H1 : Hp} {ds : List PyData} {g : TG} {tb : TS} {Dd : Ends} (h : Dn K B te σ H (.tuple ds)) (x : Xt B H H1)
    (q : ∀ H2, Same H1 H2 → ∃ Pv : Nat → L2.St → Hp → Prop, Pv 0 σ H2 ∧ (∀ i τ H', Pv i τ H' → Xt B H2 H') ∧
      (∀ (i : Nat) d p τ H', ds[i]? = some d → Rp K B H' (.tuple [.int i, d]) (.ref p) → (∃ H0, Pv i τ H0 ∧ Same H0 H') → g (.ref p) τ H' fun σ2 H3 => tb { Dd with nx := Pv (i + 1), ct := Pv (i + 1), bk := Dd.nx } σ2 H3) ∧
      ∀ τ H', Pv ds.length τ H' → Dd.nx τ H') : tFor (iEnumT K (tCons te tNil)) g tb Dd σ H1 := h H1 x _ fun v H2 e2 r => by
  obtain ⟨a, xs, rfl, na, s, t⟩ := rp_tup.mp r
  obtain ⟨Pv, h0, hx, hs, hd⟩ := q H2 e2
  have tl := t.length
  have sq : ∀ i τ H', Pv i τ H' → SqT K H' a xs := fun i τ H' p => na.elim (fun na => (hx i τ H' p).sqT na s) .inr
  refine ⟨a, xs, rfl, s, fun i m τ H' => m = ds.length - i ∧ i ≤ ds.length ∧ Pv i τ H', ⟨ds.length, by simp, Nat.zero_le _, h0⟩, ?_⟩
  rintro i m τ H' ⟨rfl, hi, p⟩
  have sqi := sq i τ H' p
  by_cases hlt : i < ds.length
  · refine .inr ⟨⟨xs, xs[i]'(by omega), sqi, by simp⟩, Pv (i + 1), fun τ2 G p2 => ⟨ds.length - (i + 1), by omega, rfl, hlt, p2⟩, fun y G hy => ?_⟩
    obtain ⟨T, z, rfl, nT, rfl, fz⟩ := hy
    have gz := fz xs sqi
    have al := (hx i τ H' p).al
    obtain ⟨d, gd, rd⟩ := (t.up (hx i τ H' p)).back gz
    refine hs i d T τ _ gd (rp_tup.mpr ⟨T, _, rfl, .inl (al.new nT), SqT.of upd_same, .cons (rp_int.mpr rfl) (.cons (rd.up (Xt.of al (same_new nT))) .nil)⟩) ⟨H', p, same_new nT⟩
  · have e : i = ds.length := by omega
    subst e
    exact .inl ⟨⟨xs, sqi, by omega⟩, hd τ H' p⟩
/-! ### isinstance of data -/
def tyName : PyData → String
  | .none => "NoneType"
  | .bool _ => "bool"
  | .int _ => "int"
  | .str _ => "str"
  | .list _ => "list"
  | .tuple _ => "tuple"
  | .dict _ => "dict"
theorem Rp.ty {K : PySem.W.Frag} {B : Addr → Prop} {H : Hp} {v : V} : ∀ {d : PyData}, Rp K B H d v → TyX K H v (.type (tyName d))
  | .none, h => by rw [rp_non.mp h]; exact .base .non
  | .bool b, h => by rw [rp_bl.mp h]; exact .base (.bl b)
  | .int i, h => by rw [rp_int.mp h]; exact .base (.int i)
  | .str x, h => by rw [rp_str.mp h]; exact .base (.str x)
  | .list ds, h => by
    obtain ⟨a, xs, rfl, _, s, _⟩ := rp_lst.mp h
    exact .base (.lst s)
  | .tuple ds, h => by
    obtain ⟨a, xs, rfl, _, s, _⟩ := rp_tup.mp h
    rcases s with (s | ⟨o, s⟩) | ⟨o, its, n, s, c, _⟩
    · exact .base (.tup s)
    · exact .fTuple s
    · exact .kTuple s c
  | .dict kvs, h => by
    obtain ⟨a, es, rfl, _, s, _⟩ := rp_dct.mp h
    exact .base (.dK s)
theorem pe_ty {X : Cx} {x : Str} {T : String} {pos : Pos} (hg : Gl X x) (hm : X.mg x = none) (hv : bootBuiltins x = some (.type T)) (hn : x ≠ "__name__" := by decide) (hdb : (x == ("__debug__" : Str)) = false := by decide) :
    PE X (.Name x pos) (tC (.ty T)) := pe_bltn hg hm hv rfl hn hdb
theorem dn_isi {K : PySem.W.Frag} {B : Addr → Prop} {te : TE} {σ : L2.St} {H : Hp} {d : PyData} {T : String} {b : Bool} (h : Dn K B te σ H d) (hk : kitB (tyName d) T = some b) :
    Dn K B (tCB (rIsi K) (tCons te (tCons (tC (.ty T)) tNil))) σ H (.bool b) := fun H1 x Q q => h H1 x _ fun v H2 e2 r2 =>
  ⟨v, .ty T, _, _, b, rfl, .ty T, r2.ty, kit_ty hk, q _ H2 e2 (rp_bl.mpr rfl)⟩
def isInt : PyData → Bool
  | .int _ => true
  | .bool _ => true
  | _ => false
def isBool : PyData → Bool
  | .bool _ => true
  | _ => false
def isTup : PyData → Bool
  | .tuple _ => true
  | _ => false
theorem kit_int : ∀ d, kitB (tyName d) "int" = some (isInt d)
  | .none => (by decide +kernel : kitB "NoneType" "int" = some false)
  | .bool _ => (by decide +kernel : kitB "bool" "int" = some true)
  | .int _ => (by decide +kernel : kitB "int" "int" = some true)
  | .str _ => (by decide +kernel : kitB "str" "int" = some false)
  | .list _ => (by decide +kernel : kitB "list" "int" = some false)
  | .tuple _ => (by decide +kernel : kitB "tuple" "int" = some false)
  | .dict _ => (by decide +kernel : kitB "dict" "int" = some false)
theorem kit_bool : ∀ d, kitB (tyName d) "bool" = some (isBool d)
  | .none => (by decide +kernel : kitB "NoneType" "bool" = some false)
  | .bool _ => (by decide +kernel : kitB "bool" "bool" = some true)
  | .int _ => (by decide +kernel : kitB "int" "bool" = some false)
  | .str _ => (by decide +kernel : kitB "str" "bool" = some false)
  | .list _ => (by decide +kernel : kitB "list" "bool" = some false)
  | .tuple _ => (by decide +kernel : kitB "tuple" "bool" = some false)
  | .dict _ => (by decide +kernel : kitB "dict" "bool" = some false)
theorem kit_tup : ∀ d, kitB (tyName d) "tuple" = some (isTup d)
  | .none => (by decide +kernel : kitB "NoneType" "tuple" = some false)
  | .bool _ => (by decide +kernel : kitB "bool" "tuple" = some false)
  | .int _ => (by decide +kernel : kitB "int" "tuple" = some false)
  | .str _ => (by decide +kernel : kitB "str" "tuple" = some false)
  | .list _ => (by decide +kernel : kitB "list" "tuple" = some false)
  | .tuple _ => (by decide +kernel : kitB "tuple" "tuple" = some true)
  | .dict _ => (by decide +kernel : kitB "dict" "tuple" = some false)
end CG

/-! Part 9: chains, is None, deep comparisons, dict displays, comprehensions with a test. -/
namespace CG
open PySem PySem.Spec PyProof.Rows L2
def rIsNU : R2 := fun x y H Q => y = .non ∧ Q (.bl (decide (x = .non))) H
theorem op_isNU {X : Cx} : OpR X (compareOp .Is) rIsNU := op_isN
def isNone : PyData → Bool
  | .none => true
  | _ => false
def rNeU (K : PySem.W.Frag) : R2 := fun x y H Q => rNe x y H Q ∨ rNeD K x y H Q
theorem op_neU {X : Cx} (hu : X.A.units + 64 < cLine) : OpR X (compareOp .NotEq) (rNeU X.K) := op_ne.or (op_neD hu)
def rEqU (K : PySem.W.Frag) : R2 := fun x y H Q => rEq x y H Q ∨ rEqD K x y H Q
theorem op_eqU {X : Cx} (hu : X.A.units + 64 < cLine) : OpR X (compareOp .Eq) (rEqU X.K) := op_eq.or (op_eqD hu)
section
variable {K : PySem.W.Frag} {B : Addr → Prop} {D C L : Addr} {H H1 H2 : Hp} {t : Int} {σ : L2.St} {ds : List PyData} {d da db dc : PyData} {te ta tb tc : TE} {tx : TA} {tt : TT} {j n : Nat} {r r' : R2} {b c : Bool}
theorem dn_chain (ha : Dn K B ta σ H da) (hb : Dn K B tb σ H db) (h1 : RvD K B r da db (.bool b)) (hc : b = true → Dn K B tc σ H dc) (h2 : b = true → RvD K B r' db dc (.bool c)) :
    Dn K B (tChain r r' ta tb tc) σ H (.bool (b && c)) := fun H1 x Q q =>
  ha H1 x _ fun v H2 e2 r2 => hb H2 (x.same e2) _ fun w H3 e3 r3 => h1 H3 v w ((x.same e2).same e3).al (r2.up (Xt.of (x.same e2).al e3)) r3 _ fun z H4 e4 r4 => ⟨b, rp_bl.mp r4, by
    have x4 := ((x.same e2).same e3).same e4
    have s14 := e2.trans (e3.trans e4)
    cases b with
    | true =>
      rw [if_pos rfl]
      refine hc rfl H4 x4 _ fun u H5 e5 r5 => ?_
      refine h2 rfl H5 w u (x4.same e5).al (r3.up (Xt.of ((x.same e2).same e3).al (e4.trans e5))) r5 Q fun y H6 e6 r6 => ?_
      exact q y H6 (s14.trans (e5.trans e6)) r6
    | false =>
      rw [if_neg (by decide)]
      exact q _ H4 s14 (rp_bl.mpr rfl)⟩
theorem rd_isN : RvD K B rIsNU d .none (.bool (isNone d)) := fun H1 x y al hx hy Q q => by
  refine ⟨rp_non.mp hy, ?_⟩
  have e : decide (x = V.non) = isNone d := by
    cases d with
    | none => rw [rp_non.mp hx]; rfl
    | bool b => rw [rp_bl.mp hx]; rfl
    | int i => rw [rp_int.mp hx]; rfl
    | str s => rw [rp_str.mp hx]; rfl
    | list ds =>
      obtain ⟨a, xs, rfl, _⟩ := rp_lst.mp hx
      rfl
    | tuple ds =>
      obtain ⟨a, xs, rfl, _⟩ := rp_tup.mp hx
      rfl
    | dict kvs =>
      obtain ⟨a, xs, rfl, _⟩ := rp_dct.mp hx
      rfl
  rw [e]
  exact q _ H1 (Same.refl H1) (rp_bl.mpr rfl)
mutual
theorem Rp.dp : ∀ (d : PyData) (v : V), Rp K B H d v → d.hasDict = false → Dp K H v d
  | .none, v, h, _ => by rw [rp_non.mp h]; exact .non
  | .bool b, v, h, _ => by rw [rp_bl.mp h]; exact .bl b
  | .int i, v, h, _ => by rw [rp_int.mp h]; exact .int i
  | .str x, v, h, _ => by rw [rp_str.mp h]; exact .str x
  | .list ds, v, h, hd => by
    obtain ⟨a, xs, rfl, _, s, t⟩ := rp_lst.mp h
    exact .lst (SqL.of s) (RpA.dp ds xs t (by simpa only [PyData.hasDict] using hd))
  | .tuple ds, v, h, hd => by
    obtain ⟨a, xs, rfl, _, s, t⟩ := rp_tup.mp h
    exact .tup s (RpA.dp ds xs t (by simpa only [PyData.hasDict] using hd))
  | .dict kvs, v, h, hd => by
    simp only [PyData.hasDict] at hd
    cases hd
theorem RpA.dp : ∀ (ds : List PyData) (xs : List V), RpA K B H ds xs → PyData.hasDictAll ds = false → DpAll K H xs ds
  | [], xs, h, _ => by rw [rpa_nil.mp h]; exact .nil
  | d :: ds, xs, h, hd => by
    obtain ⟨x, r, rfl, h1, h2⟩ := rpa_cons.mp h
    simp only [PyData.hasDictAll, Bool.or_eq_false_iff] at hd
    exact .cons (Rp.dp d x h1 hd.1) (RpA.dp ds r h2 hd.2)
end
theorem rd_neD (ha : da.hasDict = false) (hb : db.hasDict = false) (sa : SeqAt.shaped da = true) (sb : SeqAt.shaped db = true) : RvD K B (rNeU K) da db (.bool (!PyData.eqv da db)) := fun H1 x y al hx hy Q q =>
  .inr ⟨da, db, Rp.dp _ _ hx ha, Rp.dp _ _ hy hb, sa, sb, q _ H1 (Same.refl H1) (rp_bl.mpr rfl)⟩
theorem rd_eqD (ha : da.hasDict = false) (hb : db.hasDict = false) (sa : SeqAt.shaped da = true) (sb : SeqAt.shaped db = true) : RvD K B (rEqU K) da db (.bool (PyData.eqv da db)) := fun H1 x y al hx hy Q q =>
  .inr ⟨da, db, Rp.dp _ _ hx ha, Rp.dp _ _ hy hb, sa, sb, q _ H1 (Same.refl H1) (rp_bl.mpr rfl)⟩
theorem dn_dict0 : Dn K B tDNewK σ H (.dict []) := fun H1 x Q q p np =>
  q _ _ (same_new np) (rp_dct.mpr ⟨p, [], rfl, x.al.new np, upd_same, rfl⟩)
theorem dn_dict1 {k : Str} {i : Int} : Dn K B (tDisp [(tC (.str k), tC (.int i))]) σ H (.dict [(.str k, .int i)]) := fun H1 x Q q p np => by
  have e : upd (upd H1 p (.dK [])) p (.dK (mergeK [] [((Sum.inr k : Key), V.int i)])) = upd H1 p (.dK [((Sum.inr k : Key), V.int i)]) := upd_upd
  refine ⟨upd_same, [(Sum.inr k, .int i)], rfl, by show (1 : Nat) ≤ 15; decide, ?_⟩
  rw [e]
  exact q _ _ (same_new np) (rp_dct.mpr ⟨p, _, rfl, x.al.new np, upd_same, ⟨_, _, _, rfl, rfl, rfl, rfl⟩⟩)
/-- [e for x in range(n) if test] -/
theorem dn_lcRF {f : Nat → PyData} {p : Nat → Bool} (hx : DnA K B tx σ H [.int n]) (hn : n ≤ 1000)
    (ht : ∀ B', Gw B B' H → ∀ i : Nat, i < n → DnT B' tt ((σ.set j none).set j (some (.int (0 + i)))) H (p i))
    (he : ∀ B', Gw B B' H → ∀ i : Nat, i < n → Dn K B' te ((σ.set j none).set j (some (.int (0 + i)))) H (f i)) :
    Dn K B (tLc (iRng1 tx) (gName j) tt te [j]) σ H (.list (((List.range n).filter p).map f)) := fun H1 x Q q => hx H1 x _ fun vs H2 e2 r2 => by
  obtain rfl : vs = [.int n] := RpA.ints_inv (ns := [(n : Int)]) r2
  refine ⟨n, rfl, by omega, by omega, fun L nL => ?_⟩
  have x2 := x.same e2
  have nB : ¬ B L := x2.al.new nL
  have nLH : H L = none := by
    cases e : H L with
    | none => rfl
    | some o =>
      have := x2.kp L o nB e
      rw [nL] at this
      cases this
  have gw : Gw B (Bp B L) H := gw_new nLH
  refine lc_range (lo := 0) (n := n) (fun i H' => Same H2 H' ∧ Al (Bp B L) H' ∧ ∃ vs, H' L = some (.lst vs) ∧ RpA K (Bp B L) H' (((List.range i).filter p).map f) vs) ?_ ?_ ?_
  · obtain ⟨s1, al, vs, hL, ra⟩ := lc_begin (K := K) (es := []) x2.al nL
    exact ⟨s1, al, [], upd_same, RpA.nil⟩
  · rintro i H' hi ⟨s1, al, vs, hL, ra⟩
    refine ⟨wipe1, ?_⟩
    have xH : Xt (Bp B L) H H' := ⟨fun a o nb z => s1 a o (x2.kp a o (fun w => nb (.inl w)) z), al⟩
    refine ht (Bp B L) gw i hi H' xH _ fun H3 s3 => ?_
    have al3 := al.same s3
    cases hp : p i with
    | true =>
      rw [if_pos rfl]
      refine he (Bp B L) gw i hi H3 (xH.same s3) _ fun y H4 s4 r4 => ?_
      have al4 := al3.same s4
      have x4 : Xt (Bp B L) H4 (upd H4 L (.lst (vs ++ [y]))) := xt_put al4
      refine ⟨vs, s4 _ _ (s3 _ _ hL), ?_, fun b o eb => ?_, x4.al, vs ++ [y], upd_same, ?_⟩
      · have e1 := ra.length
        have e2 : ((List.range i).filter p).length ≤ i := Nat.le_trans (List.length_filter_le _ _) (by rw [List.length_range]; exact Nat.le_refl _)
        rw [List.length_map] at e1
        exact Nat.lt_of_lt_of_le (show vs.length < 1001 by omega) (by decide)
      · rw [upd_ne (ne_of_none eb nL)]
        exact s4 _ _ (s3 _ _ (s1 b o eb))
      · rw [List.range_succ, List.filter_append, List.map_append]
        have e3 : [i].filter p = [i] := by rw [List.filter_cons, hp]; rfl
        rw [e3]
        exact RpA.append ((ra.up (Xt.of al (s3.trans s4))).up x4) (.cons (r4.up x4) .nil)
    | false =>
      rw [if_neg (by decide)]
      refine ⟨s1.trans s3, al3, vs, s3 _ _ hL, ?_⟩
      have e3 : [i].filter p = [] := by rw [List.filter_cons, hp]; rfl
      rw [List.range_succ, List.filter_append, List.map_append, e3, List.map_nil, List.append_nil]
      exact ra.up (Xt.of al s3)
  · rintro H' ⟨s1, al, vs, hL, ra⟩
    exact q _ H' (e2.trans s1) (rp_lst.mpr ⟨L, vs, rfl, nB, hL, RpA.less bp_up _ _ ra⟩)
/-- a, b = x, y without draws -/
theorem sd_par {Dd : Ends} {i j : Nat} (h : DnA K B tx σ H [da, db]) (x : Xt B H H1)
    (k : ∀ v w H2, Same H1 H2 → Rp K B H2 da v → Rp K B H2 db w → Dd.nx ((σ.set i (some v)).set j (some w)) H2) : tPar i j tx Dd σ H1 := h H1 x _ fun vs H2 e r => by
  obtain ⟨v, r1, rfl, h1, h2⟩ := rpa_cons.mp r
  obtain ⟨w, r2, rfl, h3, h4⟩ := rpa_cons.mp h2
  obtain rfl := rpa_nil.mp h4
  exact ⟨v, w, rfl, k v w H2 e h1 h3⟩
end
end CG

/-! Part 10: small data of any kind; places drawn. -/
namespace CG
open PySem PySem.Spec PyProof.Rows L2
theorem at_some {ds : List PyData} {r : Int} (h0 : 0 ≤ r) (h1 : r < ds.length) : ∃ d, d ∈ ds ∧ atI ds r = some d := by
  obtain ⟨i, rfl⟩ : ∃ i : Nat, r = i := ⟨r.toNat, by omega⟩
  have hi : i < ds.length := by omega
  refine ⟨ds[i], List.getElem_mem hi, ?_⟩
  unfold atI ixN
  rw [if_pos (by omega)]
  simp [hi]
theorem at_nat {ds : List PyData} {i : Nat} (h : i < ds.length) : atI ds i = some ds[i] := by
  unfold atI ixN
  rw [if_pos (by omega)]
  simp [h]
/-- small, and without lists or without dicts -/
def Sx (n m : Nat) (d : PyData) : Prop := Sm n m d ∨ SmT n m d
/-- small, without both -/
structure Tm (n m : Nat) (d : PyData) : Prop where
  a : Sm n m d
  b : SmT n m d
section
variable {n m n' m' : Nat} {d x : PyData} {ds : List PyData}
theorem Tm.sx (h : Tm n m d) : Sx n m d := .inl h.a
theorem Tm.mono (h : Tm n m d) (hn : n ≤ n') (hm : m ≤ m') : Tm n' m' d := ⟨h.a.mono hn hm, h.b.mono hn hm⟩
theorem Sx.mono (h : Sx n m d) (hn : n ≤ n') (hm : m ≤ m') : Sx n' m' d := h.imp (·.mono hn hm) (·.mono hn hm)
theorem Sx.shx (h : Sx n m d) (hn : n ≤ 60) (hm : m ≤ 1000000) : Shx d := h.imp (·.mono hn hm) (·.mono hn hm)
theorem tm_int {i : Int} (h : i.natAbs < 2 ^ 200) : Tm 0 202 (.int i) := ⟨sm_int h, smt_of (sm_int h) rfl⟩
theorem tm_bool {b : Bool} : Tm 0 202 (.bool b) := by
  cases b <;> exact ⟨⟨by decide +kernel, by decide +kernel, by decide +kernel, by decide +kernel⟩, ⟨by decide +kernel, by decide +kernel, by decide +kernel, by decide +kernel⟩⟩
theorem tm_tup (h : ∀ d ∈ ds, Tm n m d) : Tm (n + 1) (ds.length * m + 2 * ds.length + 3) (.tuple ds) := ⟨sm_tup fun d hd => (h d hd).a, smt_tup fun d hd => (h d hd).b⟩
/-- a tuple of small data, one of them of any kind -/
theorem sx_mix (h : Sx n m x) (ht : ∀ d ∈ ds, Tm n m d ∨ d = x) : Sx (n + 1) (ds.length * m + 2 * ds.length + 3) (.tuple ds) := by
  rcases h with h | h
  · exact .inl (sm_tup fun d hd => (ht d hd).elim (·.a) fun e => e ▸ h)
  · exact .inr (smt_tup fun d hd => (ht d hd).elim (·.b) fun e => e ▸ h)
theorem tm_ctr {k : Int} {c : Ctr} (h : c.Ok k) (hk : k ≤ 100) : Tm 1 900 c.d := ⟨sm_ctr h hk, smt_of (sm_ctr h hk) rfl⟩
theorem nl_ctrs : ∀ (cs : List Ctr), noListAll (cs.map Ctr.d) = true
  | [] => rfl
  | c :: cs => by
    rw [List.map_cons]
    simp only [noListAll, nl_ctrs cs, Bool.and_true]
    rfl
theorem tm_rows {k : Int} {cs : List Ctr} (h : ∀ c ∈ cs, c.Ok k) (hk : k ≤ 100) (hl : cs.length ≤ 100) : Tm 2 100000 (rowsD cs) :=
  ⟨sm_rows h hk hl, smt_of (sm_rows h hk hl) (by unfold rowsD; simp only [noList]; exact nl_ctrs cs)⟩
theorem tm_board {k : Int} {cs : List Ctr} (h : ∀ c ∈ cs, c.Ok k) (h0 : 0 ≤ k) (hk : k ≤ 100) (hl : cs.length ≤ 100) : Tm 3 200020 (boardD k cs) :=
  ⟨sm_board h h0 hk hl, smt_of (sm_board h h0 hk hl) (by unfold boardD rowsD; simp only [noList, noListAll, nl_ctrs cs, Bool.and_true])⟩
end
end CG

/-! Part 11: lists of one's own that grow. -/
namespace CG
open PySem PySem.Spec PyProof.Rows L2
/-- all but the place L is kept -/
def Pt (L : Addr) (H H2 : Hp) : Prop := ∀ a o, a ≠ L → H a = some o → H2 a = some o
/-- the list at L holds ds; no other data reaches it -/
structure Own (K : PySem.W.Frag) (B : Addr → Prop) (L : Addr) (H : Hp) (ds : List PyData) : Prop where
  nB : ¬ B L
  ex : ∃ vs, H L = some (.lst vs) ∧ RpA K (Bp B L) H ds vs
section
variable {K : PySem.W.Frag} {B : Addr → Prop} {D C L : Addr} {H H0 H1 H2 : Hp} {t t' n m : Int} {σ : L2.St} {te ta tb : TE} {tx : TA} {tt tu : TT} {d : PyData} {ds : List PyData}
  {Φ Ψ Θ : PyData → Prop} {Φs Ψs : List PyData → Prop} {Dd : Ends} {i : Nat}
theorem Pt.refl : Pt L H H := fun _ _ _ e => e
theorem Pt.trans (h : Pt L H H1) (k : Pt L H1 H2) : Pt L H H2 := fun a o n e => k a o n (h a o n e)
theorem Pt.same (h : Pt L H H1) (k : Same H1 H2) : Pt L H H2 := fun a o n e => k a o (h a o n e)
theorem Pt.of (k : Same H H1) : Pt L H H1 := fun a o _ e => k a o e
theorem Pt.put {o : HO} : Pt L H (upd H L o) := fun a u n e => by rw [upd_ne n]; exact e
theorem Pt.xt (h : Pt L H H1) (al : Al (Bp B L) H1) : Xt (Bp B L) H H1 := ⟨fun a o nb e => h a o (fun z => nb (.inr z)) e, al⟩
theorem Dk.nD (k : Dk B H D C t) (nB : ¬ B L) : D ≠ L := fun e => nB (e ▸ k.bD)
theorem Dk.nC (k : Dk B H D C t) (nB : ¬ B L) : C ≠ L := fun e => nB (e ▸ k.bC)
theorem Dk.pt (k : Dk (Bp B L) H D C t) (h : Pt L H H1) (al : Al (Bp B L) H1) (nD : D ≠ L) (nC : C ≠ L) : Dk (Bp B L) H1 D C t := by
  obtain ⟨bD, bC, _, ne, nn, cs, h1, h2, h3⟩ := k
  exact ⟨bD, bC, al, ne, nn, cs, h _ _ nD h1, h _ _ nC h2, h3⟩
theorem Pt.xk (x : Xt (Bk D C) H0 H) (n : H0 L = none) (h : Pt L H H1) (nD : D ≠ L) (nC : C ≠ L) : Xt (Bk D C) H0 H1 := ⟨fun a o nb e => h a o (ne_of_none e n) (x.kp a o nb e), fun a z => by
  cases q : H a with
  | none => exact absurd q (x.al a z)
  | some o =>
    have : a ≠ L := by
      rcases z with rfl | rfl
      · exact nD
      · exact nC
    rw [h a o this q]
    simp⟩
theorem Own.same (o : Own K B L H ds) (al : Al (Bp B L) H) (e : Same H H1) : Own K B L H1 ds := by
  obtain ⟨nB, vs, h1, h2⟩ := o
  exact ⟨nB, vs, e _ _ h1, h2.up (Xt.of al e)⟩
/-- .. over draws -/
theorem Own.xk (o : Own K B L H ds) (k : Dk (Bp B L) H D C t) (nD : D ≠ L) (nC : C ≠ L) (x : Xt (Bk D C) H H1) : Own K B L H1 ds := by
  obtain ⟨nB, vs, h1, h2⟩ := o
  exact ⟨nB, vs, x.kp _ _ (fun z => z.elim (fun w => nD w.symm) fun w => nC w.symm) h1, h2.up (k.wd x)⟩
theorem Own.rp (o : Own K B L H ds) : Rp K B H (.list ds) (.ref L) := by
  obtain ⟨nB, vs, h1, h2⟩ := o
  exact rp_lst.mpr ⟨L, vs, rfl, nB, h1, RpA.less bp_up _ _ h2⟩
theorem al_new {o : HO} (al : Al B H) : Al (Bp B L) (upd H L o) := fun a h => by
  by_cases z : a = L
  · rw [z, upd_same]; simp
  · rw [upd_ne z]
    exact h.elim (al a) fun e => absurd e z
/-- x = [..]: a list that will grow -/
theorem se_newL (h : EfA K B D C m tx σ H Φs) (z : ∀ ds, Φs ds → ds.length ≤ 100000) (x : Xt B H H1) (k : Dk B H1 D C t) (hl : t + m ≤ Lim)
    (q : ∀ L H2 t' ds, H1 L = none → Xt (Bk D C) H1 H2 → Dk (Bp B L) H2 D C t' → t' ≤ t + m → Φs ds → Own K B L H2 ds → (∀ {d v}, Rp K B H1 d v → Rp K (Bp B L) H2 d v) → Dd.nx (σ.set i (some (.ref L))) H2) :
    tAsg (tLst tx) (gName i) Dd σ H1 := h H1 t x k hl _ fun vs ds H2 t' x2 k2 l2 p r => by
  refine ⟨by rw [← r.length]; exact Nat.le_trans (z ds p) (by decide), fun L nL => ?_⟩
  have nB : ¬ B L := k2.al.new nL
  have s2 : Same H2 (upd H2 L (.lst vs)) := same_new nL
  have al := al_new (o := .lst vs) (L := L) k2.al
  have n1 : H1 L = none := k2.free (k.wd x2) nL
  have gw : Gw B (Bp B L) H2 := gw_new nL
  have y : Xt (Bp B L) H2 (upd H2 L (.lst vs)) := ⟨fun a o _ e => s2 a o e, al⟩
  refine q L _ t' ds n1 (x2.same s2) ((k2.same s2).grow (by rw [upd_same]; simp)) l2 p ⟨nB, vs, upd_same, (RpA.grow gw _ _ r).up y⟩ fun r => ?_
  exact (Rp.grow gw _ _ (r.up (k.wd x2))).up y
theorem sd_newL (h : DnA K B tx σ H ds) (z : ds.length ≤ 100000) (x : Xt B H H1)
    (q : ∀ L H2, H1 L = none → Same H1 H2 → Al (Bp B L) H2 → Own K B L H2 ds → (∀ {d v}, Rp K B H1 d v → Rp K (Bp B L) H2 d v) → Dd.nx (σ.set i (some (.ref L))) H2) :
    tAsg (tLst tx) (gName i) Dd σ H1 := h H1 x _ fun vs H2 e2 r => by
  refine ⟨by rw [← r.length]; exact Nat.le_trans z (by decide), fun L nL => ?_⟩
  have x2 := x.same e2
  have nB : ¬ B L := x2.al.new nL
  have s2 : Same H2 (upd H2 L (.lst vs)) := same_new nL
  have al := al_new (o := .lst vs) (L := L) x2.al
  have n1 : H1 L = none := by
    cases q : H1 L with
    | none => rfl
    | some o =>
      have := e2 L o q
      rw [nL] at this
      cases this
  have gw : Gw B (Bp B L) H2 := gw_new nL
  have y : Xt (Bp B L) H2 (upd H2 L (.lst vs)) := ⟨fun a o _ e => s2 a o e, al⟩
  refine q L _ n1 (e2.trans s2) al ⟨nB, vs, upd_same, (RpA.grow gw _ _ r).up y⟩ fun r => ?_
  exact (Rp.grow gw _ _ (r.up (Xt.of x.al e2))).up y
/-- x.append(..) -/
theorem sd_append (hs : σ[i]? = some (some (.ref L))) (h : DnA K (Bp B L) tx σ H [d]) (x : Xt (Bp B L) H H1) (o : Own K B L H1 ds) (hl : ds.length < 100000)
    (q : ∀ H2, Pt L H1 H2 → Al (Bp B L) H2 → Own K B L H2 (ds ++ [d]) → Dd.nx σ H2) : tDrop (tBM K "list" rAppend (tVar i) tx) Dd σ H1 := by
  obtain ⟨nB, vs, h1, h2⟩ := o
  refine ⟨.ref L, hs, .inl ⟨rfl, _, SqL.of h1⟩, h H1 x _ fun ws H2 e2 r2 => ?_⟩
  obtain ⟨v, r, rfl, rv, rn⟩ := rpa_cons.mp r2
  obtain rfl := rpa_nil.mp rn
  have al2 := (x.same e2).al
  refine ⟨L, vs, v, rfl, rfl, e2 _ _ h1, by rw [← h2.length]; exact Nat.lt_of_lt_of_le hl (by decide), ?_⟩
  have y : Xt (Bp B L) H2 (upd H2 L (.lst (vs ++ [v]))) := xt_put al2
  exact q _ ((Pt.of e2).trans Pt.put) y.al ⟨nB, _, upd_same, RpA.append ((h2.up (Xt.of x.al e2)).up y) (.cons (rv.up y) .nil)⟩
theorem se_append (hs : σ[i]? = some (some (.ref L))) (h : EfA K (Bp B L) D C m tx σ H Φs) (hp : ∀ es, Φs es → es.length = 1) (x : Xt (Bp B L) H H1) (k : Dk (Bp B L) H1 D C t) (hb : t + m ≤ Lim)
    (nD : D ≠ L) (nC : C ≠ L) (o : Own K B L H1 ds) (hl : ds.length < 100000)
    (q : ∀ H2 H3 t' d, Xt (Bk D C) H1 H2 → Pt L H2 H3 → Dk (Bp B L) H3 D C t' → t' ≤ t + m → Φs [d] → Xt (Bp B L) H1 H3 → Own K B L H3 (ds ++ [d]) → Dd.nx σ H3) : tDrop (tBM K "list" rAppend (tVar i) tx) Dd σ H1 := by
  obtain ⟨nB, vs, h1, h2⟩ := o
  refine ⟨.ref L, hs, .inl ⟨rfl, _, SqL.of h1⟩, h H1 t x k hb _ fun ws es H2 t' x2 k2 l2 p r2 => ?_⟩
  match es, hp es p with
  | [d], _ =>
    obtain ⟨v, r, rfl, rv, rn⟩ := rpa_cons.mp r2
    obtain rfl := rpa_nil.mp rn
    have nk : ¬ Bk D C L := fun z => z.elim (fun w => nD w.symm) fun w => nC w.symm
    refine ⟨L, vs, v, rfl, rfl, x2.kp _ _ nk h1, by rw [← h2.length]; exact Nat.lt_of_lt_of_le hl (by decide), ?_⟩
    have y : Xt (Bp B L) H2 (upd H2 L (.lst (vs ++ [v]))) := xt_put k2.al
    exact q H2 _ t' d x2 Pt.put (k2.pt Pt.put y.al nD nC) l2 p ((k.wd x2).trans y) ⟨nB, _, upd_same, RpA.append ((h2.up (k.wd x2)).up y) (.cons (rv.up y) .nil)⟩
end
end CG

namespace CG
open PySem PySem.Spec PyProof.Rows L2
/-! ### the text -/
def topS (i : Nat) : Stmt := PySem.Challenge.pw_coincounters_k00_boards_judged.main.body.getD i (.Pass ⟨0, 0, 0, 0⟩)
abbrev sPIs_number : Stmt := topS 4
abbrev NscPIs_number : List Str := ["value"]
theorem scPIs_number : FnScope NscPIs_number ["value"] (defScope sPIs_number) := ⟨rfl, rfl, rfl, by decide +kernel, rfl, by decide +kernel, by decide +kernel⟩
abbrev sPIs_between : Stmt := topS 5
abbrev NscPIs_between : List Str := ["value", "least", "most"]
theorem scPIs_between : FnScope NscPIs_between ["value", "least", "most"] (defScope sPIs_between) := ⟨rfl, rfl, rfl, by decide +kernel, rfl, by decide +kernel, by decide +kernel⟩
abbrev sPIs_kind : Stmt := topS 7
abbrev NscPIs_kind : List Str := ["value", "kinds"]
theorem scPIs_kind : FnScope NscPIs_kind ["value", "kinds"] (defScope sPIs_kind) := ⟨rfl, rfl, rfl, by decide +kernel, rfl, by decide +kernel, by decide +kernel⟩
abbrev sPIs_rate : Stmt := topS 8
abbrev NscPIs_rate : List Str := ["value"]
theorem scPIs_rate : FnScope NscPIs_rate ["value"] (defScope sPIs_rate) := ⟨rfl, rfl, rfl, by decide +kernel, rfl, by decide +kernel, by decide +kernel⟩
abbrev sPIs_counter : Stmt := topS 9
abbrev NscPIs_counter : List Str := ["value", "kinds", "source", "to", "give", "get"]
theorem scPIs_counter : FnScope NscPIs_counter ["value", "kinds"] (defScope sPIs_counter) := ⟨rfl, rfl, rfl, by decide +kernel, rfl, by decide +kernel, by decide +kernel⟩
abbrev sPBoard_error : Stmt := topS 10
abbrev NscPBoard_error : List Str := ["value", "kinds", "counters", "index", "counter"]
theorem scPBoard_error : FnScope NscPBoard_error ["value"] (defScope sPBoard_error) := ⟨rfl, rfl, rfl, by decide +kernel, rfl, by decide +kernel, by decide +kernel⟩
abbrev sPIs_board : Stmt := topS 11
abbrev NscPIs_board : List Str := ["value"]
theorem scPIs_board : FnScope NscPIs_board ["value"] (defScope sPIs_board) := ⟨rfl, rfl, rfl, by decide +kernel, rfl, by decide +kernel, by decide +kernel⟩
abbrev sDeck : Stmt := topS 13
abbrev NscDeck : List Str := ["_law_script", "_law_cell"]
theorem scDeck : FnScope NscDeck ["_law_script"] (defScope sDeck) := ⟨rfl, rfl, rfl, by decide +kernel, rfl, by decide +kernel, by decide +kernel⟩
abbrev sDraw : Stmt := topS 14
abbrev NscDraw : List Str := ["_law_deck_here", "_law_limit", "_law_cell", "_law_index"]
theorem scDraw : FnScope NscDraw ["_law_deck_here", "_law_limit"] (defScope sDraw) := ⟨rfl, rfl, rfl, by decide +kernel, rfl, by decide +kernel, by decide +kernel⟩
abbrev sSame : Stmt := topS 15
abbrev NscSame : List Str := ["_law_value", "_law_due"]
theorem scSame : FnScope NscSame ["_law_value", "_law_due"] (defScope sSame) := ⟨rfl, rfl, rfl, by decide +kernel, rfl, by decide +kernel, by decide +kernel⟩
abbrev sL_number : Stmt := topS 16
abbrev NscL_number : List Str := ["_law_value", "_law_low", "_law_high"]
theorem scL_number : FnScope NscL_number ["_law_value", "_law_low", "_law_high"] (defScope sL_number) := ⟨rfl, rfl, rfl, by decide +kernel, rfl, by decide +kernel, by decide +kernel⟩
abbrev sCounter : Stmt := topS 17
abbrev NscCounter : List Str := ["_law_deck_here", "_law_kinds", "_law_source", "_law_step", "_law_give"]
theorem scCounter : FnScope NscCounter ["_law_deck_here", "_law_kinds"] (defScope sCounter) := ⟨rfl, rfl, rfl, by decide +kernel, rfl, by decide +kernel, by decide +kernel⟩
abbrev sBoard : Stmt := topS 18
abbrev NscBoard : List Str := ["_law_deck_here", "_law_most", "_law_many", "_law_kinds", "_law_found", "_law_k"]
theorem scBoard : FnScope NscBoard ["_law_deck_here", "_law_most", "_law_many"] (defScope sBoard) := ⟨rfl, rfl, rfl, by decide +kernel, rfl, by decide +kernel, by decide +kernel⟩
abbrev sOdd : Stmt := topS 19
abbrev NscOdd : List Str := ["_law_deck_here", "_law_some"]
theorem scOdd : FnScope NscOdd ["_law_deck_here"] (defScope sOdd) := ⟨rfl, rfl, rfl, by decide +kernel, rfl, by decide +kernel, by decide +kernel⟩
abbrev sTwin : Stmt := topS 20
abbrev NscTwin : List Str := ["_law_row", "_law_one"]
theorem scTwin : FnScope NscTwin ["_law_row"] (defScope sTwin) := ⟨rfl, rfl, rfl, by decide +kernel, rfl, by decide +kernel, by decide +kernel⟩
abbrev sError : Stmt := topS 21
abbrev NscError : List Str := ["_law_value", "_law_k", "_law_row", "_law_lows", "_law_highs", "_law_wrong", "_law_j"]
theorem scError : FnScope NscError ["_law_value"] (defScope sError) := ⟨rfl, rfl, rfl, by decide +kernel, rfl, by decide +kernel, by decide +kernel⟩
abbrev sChanged : Stmt := topS 22
abbrev NscChanged : List Str := ["_law_deck_here", "_law_board_here", "_law_kinds", "_law_rows", "_law_at", "_law_j", "_law_odd_here", "_law_row", "_law_part", "_law_bent", "_law_new", "_law_head", "_law_tail", "_law_some", "_law_more"]
theorem scChanged : FnScope NscChanged ["_law_deck_here", "_law_board_here"] (defScope sChanged) := ⟨rfl, rfl, rfl, by decide +kernel, rfl, by decide +kernel, by decide +kernel⟩
abbrev sLaw : Stmt := topS 23
abbrev NscLaw : List Str := ["_law_script", "_law_deck_here", "_law_turn", "_law_board_here", "_law_row", "_law_twin_here", "_law_values", "_law_value", "_law_before", "_law_due", "_law_k", "_law_again"]
theorem scLaw : FnScope NscLaw ["_law_script"] (defScope sLaw) := ⟨rfl, rfl, rfl, by decide +kernel, rfl, by decide +kernel, by decide +kernel⟩
section
variable {P : Program} {w : World} {K : PySem.W.Frag} {mg : Str → Option Value} {base : Heap}
theorem ok_deck {f : Addr} {fd : FuncData} (h : Has K mg "_law_deck" sDeck ["_law_script"] f fd) (T : Bz mg) : FnG P w K mg base CX0 1 f fd ["_law_script"] (spDeck K) := by
  refine okG h.F scDeck (fun vs H Q E h => ?_) (fun cd A out s H vs Q E hgd hr h => ?_)
  · obtain ⟨a, ns, rfl, _⟩ := h
    rfl
  · obtain ⟨a, ns, rfl, hS, q⟩ := h
    refine ⟨_, (pss_one (ps_ret (pe_lst (pa_cons (pe_lc (own := [("_law_cell", 1)]) rfl scDeck.nd (pi_list (pe_slice sl_U (pv 0) po_none (po_some pe_int))) (blkOk_by (N := NscDeck) (sc := defScope sDeck) (by decide +kernel)) (fun _ _ _ _ _ => (pg_name (i := 1) scDeck.nd rfl (Or.inl rfl))) (fun _ _ _ _ _ => pts_nil) (fun _ _ _ _ _ => (pe_callB call_abs rfl T.z_abs (by decide +kernel) (pa_cons (pv 1) pa_nil)))) (pa_cons pe_int pa_nil))))), ?_⟩
    refine ⟨.ref a, rfl, 63, rfl, .inl ⟨a, _, rfl, hS, fun c nc => ?_⟩⟩
    have e1 : Same H (upd H c (.lst (cutV (ns.map V.int) none (some 63)))) := same_new nc
    have ec : cutV (ns.map V.int) none (some 63) = (ns.take 63).map V.int := by
      unfold cutV
      rw [HT.sIx_none, show HT.sIx (ns.map V.int).length (ns.map V.int).length (some 63) = min 63 (ns.map V.int).length from HT.sIx_nat _ _ 63, List.drop_zero, Nat.sub_zero, List.map_take]
      rw [List.take_eq_take_iff]
      omega
    rw [ec]
    rw [ec] at e1
    have hml : (ns.take 63).length ≤ 63 := by rw [List.length_take]; omega
    clear ec
    generalize ns.take 63 = ms at e1 hml ⊢
    refine ⟨c, rfl, ⟨_, SqL.of upd_same⟩, fun L nL => ?_⟩
    refine lc_list (xs := ms.map V.int) (fun i H' => Same H H' ∧ H' c = some (.lst (ms.map V.int)) ∧ H' L = some (.lst (((ms.take i).map fun z => if z < 0 then -z else z).map V.int))) ?_ ?_ ?_ ?_
    · refine ⟨e1.trans (same_new nL), ?_, ?_⟩
      · rw [upd_ne (ne_of_none upd_same nL)]
        exact upd_same
      · rw [upd_same]
        rfl
    · rintro i H' _ ⟨_, hc, _⟩
      exact SqL.of hc
    · rintro i x H' gx ⟨e', hc, hL⟩
      rw [List.getElem?_map] at gx
      cases gz : ms[i]? with
      | none => rw [gz] at gx; cases gx
      | some z =>
        rw [gz] at gx
        cases gx
        have hi : i < ms.length := (List.getElem?_eq_some_iff.mp gz).1
        have hLn : H L = none := e1.free nL
        refine ⟨rfl, ?_⟩
        refine ⟨.int z, rfl, z, rfl, _, hL, ?_, ?_, ?_, ?_⟩
        · rw [List.length_map, List.length_map, List.length_take]
          exact Nat.lt_of_le_of_lt (show min i ms.length ≤ 63 by omega) (by decide)
        · intro b o eb
          rw [upd_ne (ne_of_none eb hLn)]
          exact e' b o eb
        · rw [upd_ne (fun z => ?_)]
          · exact hc
          · subst z
            rw [upd_same] at nL
            cases nL
        · rw [upd_same, List.take_add_one, gz]
          simp only [Option.toList_some, List.map_append, List.map_cons, List.map_nil]
    · rintro H' ⟨e', hc, hL⟩
      refine ⟨by show 2 ≤ sizeLine; decide, fun D nD => ?_⟩
      have hLn : H L = none := e1.free nL
      have hDn : H D = none := by
        cases q : H D with
        | none => rfl
        | some o => rw [e' D o q] at nD; cases nD
      refine q D L _ (fun b o eb => ?_) hDn hLn ⟨.inl rfl, .inr rfl, fun a h => ?_, fun z => ?_, by omega, ((ms.take (ms.map V.int).length).map fun z => if z < 0 then -z else z), upd_same, ?_, ?_, ?_⟩
      · rw [upd_ne (ne_of_none eb hDn)]
        exact e' b o eb
      · rcases h with rfl | rfl
        · rw [upd_same]; simp
        · rw [upd_ne (ne_of_none hL nD), hL]; simp
      · subst z
        rw [hL] at nD
        cases nD
      · rw [upd_ne (ne_of_none hL nD)]
        exact hL
      · rw [List.length_map, List.length_take]
        omega
      · intro z hz
        obtain ⟨y, _, rfl⟩ := List.mem_map.mp hz
        split <;> omega
theorem ok_same {f : Addr} {fd : FuncData} (h : Has K mg "_law_same" sSame ["_law_value", "_law_due"] f fd) (T : Bz mg) :
    FnG P w K mg base CX0 1 f fd ["_law_value", "_law_due"] (spP K PSame) := by
  refine okG h.F scSame (fun vs H Q E h => ?_) (fun cd A out s H vs Q E hgd hr h => ?_)
  · obtain ⟨B, ds, d, _, ra, ⟨a, b, rfl, _⟩, _⟩ := h
    exact ra.length.symm
  · obtain ⟨B, ds, d, al, ra, ⟨a, b, rfl, sa, sb, rfl⟩, q⟩ := h
    obtain ⟨x, r, rfl, h1, h2⟩ := rpa_cons.mp ra
    obtain ⟨y, r, rfl, h3, h4⟩ := rpa_cons.mp h2
    obtain rfl := rpa_nil.mp h4
    refine ⟨_, (pss_one (ps_ret (pe_cmpR op_eq (pe_callB (call_reprD hgd hr.units) rfl T.z_repr boot_repr (pa_cons (pv 0) pa_nil)) (pe_callB (call_reprD hgd hr.units) rfl T.z_repr boot_repr (pa_cons (pv 1) pa_nil)) (nomark _)))), ?_⟩
    refine sd_ret (H := H) (K := K) (B := B) ?_ (Xt.refl al) q
    exact dn_op (dn_cb (da_cons (dn_var (i := 0) rfl h1) da_nil) (rc_repr sa)) (dn_cb (da_cons (dn_var (i := 1) rfl h3) da_nil) (rc_repr sb)) rd_eqS
theorem ok_draw {f : Addr} {fd : FuncData} (h : Has K mg "_law_draw" sDraw ["_law_deck_here", "_law_limit"] f fd) (T : Bz mg) :
    FnG P w K mg base CX0 1 f fd ["_law_deck_here", "_law_limit"] (spDraw K) := by
  refine okG h.F scDraw (fun vs H Q E h => ?_) (fun cd A out s H vs Q E hgd hr h => ?_)
  · obtain ⟨B, D, C, t, ds, ws, rfl, _, _, ra, ⟨n, rfl, _⟩, _⟩ := h
    have := ra.length
    simp only [List.length_cons, List.length_nil] at this ⊢
    omega
  · obtain ⟨B, D, C, t, ds, ws, rfl, dk, hl, ra, ⟨n, rfl, n0, n1⟩, q⟩ := h
    obtain rfl : ws = [.int n] := RpA.ints_inv (ns := [n]) ra
    obtain ⟨bD, bC, al, ne, nn, cs, hD, hC, hlen, hcs⟩ := dk
    refine ⟨_, (pss_cons (ps_asg (pe_op op_addU (pe_ix ix_seq (pv 0) pe_int (fun _ _ => rfl)) pe_int) (pg_sub (pv 0) pe_int set_list))
      (pss_cons (ps_asg (pe_tup (pa_cons pe_int (pa_cons (pe_un un_neg pe_int) pa_nil))) (pg_tup rfl (pgs_cons (pg_name (i := 2) scDraw.nd rfl (Or.inl rfl)) (pgs_cons (pg_name (i := 3) scDraw.nd rfl (Or.inl rfl)) pgs_nil))))
      (pss_cons (ps_if (pt_cmpR op_gt (pe_callB call_lenU rfl T.z_len PySem.boot_len (pa_cons (pe_ix ix_seq (pv 0) pe_int (fun _ _ => rfl)) pa_nil)) pe_int (nomark _))
        (pss_cons (ps_set (i := 3) scDraw.nd rfl (Or.inl rfl) (pe_op op_mod (pe_ix ix_seq (pv 0) pe_int (fun _ _ => rfl)) (pe_callB call_lenU rfl T.z_len PySem.boot_len (pa_cons (pe_ix ix_seq (pv 0) pe_int (fun _ _ => rfl)) pa_nil))))
        (pss_one (ps_set (i := 2) scDraw.nd rfl (Or.inl rfl) (pe_ix ix_seq (pe_ix ix_seq (pv 0) pe_int (fun _ _ => rfl)) (pv 3) (fun _ _ => rfl)))))
        pss_nil)
      (pss_cons (ps_if (pt_cmpR op_ge (pv 2) (pe_op op_pow pe_int pe_int) (nomark _))
        (pss_cons (ps_asg (pe_op op_fdiv (pv 2) (pv 1)) (pg_sub (pe_ix ix_seq (pv 0) pe_int (fun _ _ => rfl)) (pv 3) set_list))
        (pss_one (ps_ret (pe_op op_mod (pv 2) (pv 1)))))
        pss_nil)
      (pss_one (ps_ret (pe_op op_mod (pe_op op_fdiv (pe_op op_mod (pe_op op_pow (pe_op op_addU (pe_op op_addU (pe_op op_mod (pv 2) pe_int) (pe_op op_mul pe_int (pe_ix ix_seq (pv 0) pe_int (fun _ _ => rfl)))) pe_int) pe_int) pe_int) pe_int) (pv 1)))))))), ?_⟩
    refine ⟨.ref D, rfl, .inl ⟨D, _, 1, .int t, rfl, rfl, SqL.of hD, rfl, .inl ⟨t, 1, rfl, rfl, .ref D, rfl, D, _, 1, 1, rfl, rfl, hD, rfl, ?_⟩⟩⟩
    have hD1 : (upd H D (.lst [.ref C, .int (t + 1)])) D = some (.lst [.ref C, .int (t + 1)]) := upd_same
    have hC1 : (upd H D (.lst [.ref C, .int (t + 1)])) C = some (.lst (cs.map V.int)) := by
      rw [upd_ne ne.symm]
      exact hC
    have kD : ∀ b o, b ≠ D → H b = some o → (upd H D (.lst [.ref C, .int (t + 1)])) b = some o := fun b o nb e => by rw [upd_ne nb]; exact e
    show tSeq _ _ _ _ (upd H D (.lst [.ref C, .int (t + 1)]))
    generalize upd H D (.lst [.ref C, .int (t + 1)]) = H1 at hD1 hC1 kD
    have fin : ∀ (H2 : Hp) (r : Int) (cs2 : List Int), (∀ b o, b ≠ D → b ≠ C → H b = some o → H2 b = some o) → H2 D = some (.lst [.ref C, .int (t + 1)]) → H2 C = some (.lst (cs2.map V.int)) →
        cs2.length ≤ 63 → (∀ c ∈ cs2, 0 ≤ c) → 0 ≤ r → r < n → Q (.int r) H2 := fun H2 r cs2 k1 k2 k3 k4 k5 r0 r1 => by
      have al2 : Al B H2 := fun a h => by
        by_cases z1 : a = D
        · rw [z1, k2]; simp
        · by_cases z2 : a = C
          · rw [z2, k3]; simp
          · cases e : H a with
            | none => exact absurd e (al a h)
            | some o => rw [k1 a o z1 z2 e]; simp
      have dk2 : Dk B H2 D C (t + 1) := ⟨bD, bC, al2, ne, by omega, cs2, k2, k3, k4, k5⟩
      refine q (.int r) (.int r) H2 (t + 1) ⟨fun a o nb e => ?_, dk2.alk⟩ dk2 (by omega) ⟨n, r, rfl, rfl, r0, r1⟩ (rp_int.mpr rfl)
      exact k1 a o (fun z => nb (.inl z)) (fun z => nb (.inr z)) e
    refine ⟨1, rfl, by show 2 ≤ sizeLine; decide, fun p np => ?_⟩
    refine ⟨p, _, rfl, SqT.of upd_same, rfl, .int 0, _, rfl, .int (-1), _, rfl, rfl, ?_⟩
    have sp : Same H1 (upd H1 p (.tup [.int 0, .int (-1)])) := same_new np
    replace hD1 := sp _ _ hD1
    replace hC1 := sp _ _ hC1
    replace kD := fun b o nb e => sp b o (kD b o nb e)
    show tSeq _ _ _ _ (upd H1 p (.tup [.int 0, .int (-1)]))
    generalize upd H1 p (.tup [.int 0, .int (-1)]) = H1 at hD1 hC1 kD
    refine ⟨.ref D, rfl, .inl ⟨D, _, 0, .ref C, rfl, rfl, SqL.of hD1, rfl, C, _, rfl, .inl (SqL.of hC1), _, _, rfl, rfl, _, rfl, ite2 (fun e => ?_) (fun e => ?_)⟩⟩
    · have e0 : 0 < cs.length := by
        have := of_decide_eq_true e
        rw [List.length_map] at this
        omega
      have hm0 : 0 ≤ (t + 1) % (cs.length : Int) := Int.emod_nonneg _ (by omega)
      have hm1 : (t + 1) % (cs.length : Int) < cs.length := Int.emod_lt_of_pos _ (by omega)
      obtain ⟨j, hj⟩ : ∃ j : Nat, (t + 1) % (cs.length : Int) = (j : Int) := ⟨((t + 1) % (cs.length : Int)).toNat, by omega⟩
      have hjl : j < cs.length := by omega
      have gj : (cs.map V.int)[j]? = some (.int cs[j]) := by
        rw [List.getElem?_map, List.getElem?_eq_getElem hjl]
        rfl
      have cj : 0 ≤ cs[j] := hcs _ (List.getElem_mem hjl)
      refine ⟨.ref D, rfl, .inl ⟨D, _, 1, .int (t + 1), rfl, rfl, SqL.of hD1, rfl, .ref D, rfl, .inl ⟨D, _, 0, .ref C, rfl, rfl, SqL.of hD1, rfl, C, _, rfl, .inl (SqL.of hC1), _, _, rfl, rfl, ?_, ?_⟩⟩⟩
      · rw [List.length_map]
        omega
      show gName 3 (V.int ((t + 1) % (((cs.map V.int).length : Nat) : Int))) _ _ _
      rw [List.length_map, hj]
      refine ⟨.ref D, rfl, .inl ⟨D, _, 0, .ref C, rfl, rfl, SqL.of hD1, rfl, .int j, rfl, .inl ⟨C, _, j, _, rfl, rfl, SqL.of hC1, atI_nat gj, ?_⟩⟩⟩
      refine ⟨.int cs[j], rfl, 10, 18, rfl, rfl, ⟨by decide, by decide, by decide⟩, _, _, rfl, rfl, _, rfl, ite2 (fun e1 => ?_) (fun e1 => ?_)⟩
      · have hix : ixN (cs.map V.int).length (j : Int) = some j := by
          unfold ixN
          rw [List.length_map, if_pos (by omega), if_pos (by omega)]
          simp
        refine ⟨.int cs[j], rfl, .int n, rfl, _, n, rfl, rfl, ⟨n0, n1⟩, .ref D, rfl, .inl ⟨D, _, 0, .ref C, rfl, rfl, SqL.of hD1, rfl, .int j, rfl, C, _, j, j, rfl, rfl, hC1, hix, ?_⟩⟩
        refine ⟨.int cs[j], rfl, .int n, rfl, _, n, rfl, rfl, n0, ?_⟩
        refine fin _ _ (cs.set j (cs[j] / n)) (fun b o b1 b2 e => ?_) ?_ ?_ ?_ ?_ (Int.emod_nonneg _ (by omega)) (Int.emod_lt_of_pos _ n0)
        · rw [upd_ne b2]
          exact kD b o b1 e
        · rw [upd_ne ne]
          exact hD1
        · rw [upd_same, List.map_set]
        · rw [List.length_set]
          exact hlen
        · intro c hc
          rcases List.mem_or_eq_of_mem_set hc with h | rfl
          · exact hcs c h
          · exact Int.ediv_nonneg cj (by omega)
      · refine ⟨.int cs[j], rfl, _, _, rfl, rfl, by show (0 : Int) < 2147483587; decide, .ref D, rfl, .inl ⟨D, _, 1, .int (t + 1), rfl, rfl, SqL.of hD1, rfl, 7919, t + 1, rfl, rfl, .inl ⟨by decide, by decide⟩, .inl ⟨_, _, rfl, rfl, .inl ⟨_, 1, rfl, rfl, _, 5, rfl, rfl, ⟨by decide, by decide, ?_⟩,
          _, _, rfl, rfl, by show (0 : Int) < 2147483647; decide, _, 7, rfl, rfl, ⟨by decide, by decide⟩, .int n, rfl, _, n, rfl, rfl, n0, ?_⟩⟩⟩⟩
        · have a0 : 0 ≤ cs[j] % 2147483587 := Int.emod_nonneg _ (by decide)
          have a1 : cs[j] % 2147483587 < 2147483587 := Int.emod_lt_of_pos _ (by decide)
          unfold Lim at hl
          show (cs[j] % 2147483587 + 7919 * (t + 1) + 1).natAbs < 2 ^ 64
          omega
        · exact fin H1 _ cs (fun b o b1 _ e => kD b o b1 e) hD1 hC1 hlen hcs (Int.emod_nonneg _ (by omega)) (Int.emod_lt_of_pos _ n0)
    · refine ⟨.int 0, rfl, 10, 18, rfl, rfl, ⟨by decide, by decide, by decide⟩, _, _, rfl, rfl, _, rfl, ite2 (fun e1 => ?_) (fun e1 => ?_)⟩
      · exact absurd (of_decide_eq_true e1) (by decide)
      · refine ⟨.int 0, rfl, _, _, rfl, rfl, by show (0 : Int) < 2147483587; decide, .ref D, rfl, .inl ⟨D, _, 1, .int (t + 1), rfl, rfl, SqL.of hD1, rfl, 7919, t + 1, rfl, rfl, .inl ⟨by decide, by decide⟩, .inl ⟨_, _, rfl, rfl, .inl ⟨_, 1, rfl, rfl, _, 5, rfl, rfl, ⟨by decide, by decide, ?_⟩,
          _, _, rfl, rfl, by show (0 : Int) < 2147483647; decide, _, 7, rfl, rfl, ⟨by decide, by decide⟩, .int n, rfl, _, n, rfl, rfl, n0, ?_⟩⟩⟩⟩
        · unfold Lim at hl
          show ((0 : Int) % 2147483587 + 7919 * (t + 1) + 1).natAbs < 2 ^ 64
          omega
        · exact fin H1 _ cs (fun b o b1 _ e => kD b o b1 e) hD1 hC1 hlen hcs (Int.emod_nonneg _ (by omega)) (Int.emod_lt_of_pos _ n0)
theorem ok_counter {f f_draw : Addr} {fd fd_draw : FuncData} (h : Has K mg "_law_counter" sCounter ["_law_deck_here", "_law_kinds"] f fd) (T_draw : Has K mg "_law_draw" sDraw ["_law_deck_here", "_law_limit"] f_draw fd_draw) (T : Bz mg)
    (G_draw : FnG P w K mg base CX0 1 f_draw fd_draw ["_law_deck_here", "_law_limit"] (spDraw K)) : FnG P w K mg base CX0 2 f fd ["_law_deck_here", "_law_kinds"] (spE K 4 PreCtr PCtr) := by
  refine okG h.F scCounter (fun vs H Q E h => ?_) (fun cd A out s H vs Q E hgd hr h => ?_)
  · obtain ⟨B, D, C, t, ds, ws, rfl, _, _, ra, ⟨n, rfl, _⟩, _⟩ := h
    have := ra.length
    simp only [List.length_cons, List.length_nil] at this ⊢
    omega
  · obtain ⟨B, D, C, t, ds, ws, rfl, dk, hl, ra, ⟨n, rfl, n0, n1⟩, q⟩ := h
    obtain rfl : ws = [.int n] := RpA.ints_inv (ns := [n]) ra
    have vi : ∀ {H' : Hp} {z : Int}, Rp K B H' (.int z) (.int z) := rp_int.mpr rfl
    refine ⟨_, (pss_cons (ps_par (i := 2) (j := 3) rfl scCounter.nd rfl rfl (by decide) rfl rfl (pa_cons (pe_callG G_draw hgd (hr.mono (by decide)) rfl T_draw.m T_draw.F.kp T_draw.b .nil pass0 (pa_cons (pv 0) (pa_cons (pv 1) pa_nil))) (pa_cons (pe_op (r := rAddU K) op_addU pe_int (pe_callG G_draw hgd (hr.mono (by decide)) rfl T_draw.m T_draw.F.kp T_draw.b .nil pass0 (pa_cons (pv 0) (pa_cons (pe_op op_sub (pv 1) pe_int) pa_nil)))) pa_nil)) rfl)
      (pss_cons (ps_set (i := 4) scCounter.nd rfl (Or.inl rfl) (pe_op (r := rAddU K) op_addU pe_int (pe_callG G_draw hgd (hr.mono (by decide)) rfl T_draw.m T_draw.F.kp T_draw.b .nil pass0 (pa_cons (pv 0) (pa_cons pe_int pa_nil)))))
      (pss_one (ps_ret (pe_tup (pa_cons (pv 2) (pa_cons (pe_op op_mod (pe_op (r := rAddU K) op_addU (pv 2) (pv 3)) (pv 1)) (pa_cons (pv 4) (pa_cons (pe_op (r := rAddU K) op_addU pe_int (pe_callG G_draw hgd (hr.mono (by decide)) rfl T_draw.m T_draw.F.kp T_draw.b .nil pass0 (pa_cons (pv 0) (pa_cons pe_int pa_nil)))) pa_nil))))))))), ?_⟩
    refine se_par (K := K) (B := B) (D := D) (C := C) (H := H) (t := t) (m := 2) (Φs := fun ds => ∃ a b : Int, ds = [.int a, .int b] ∧ 0 ≤ a ∧ a < n ∧ 1 ≤ b ∧ b < n) ?_ ?_ (Xt.refl dk.al) dk (by omega) (fun v w a b H1 t1 x1 k1 l1 p ra rb => ?_)
    · refine EfA.weak (ea_cons (ef_draw (m := 0) (Φs := fun ds => ds = [.int n]) rfl (DnA.ef (da_cons (dn_var rfl vi) da_nil)) ?_) (ea_cons (ef_op (Θ := fun d => ∃ z : Int, d = .int z ∧ 1 ≤ z ∧ z < n) (Dn.ef dn_int) (ef_draw (m := 0) (Φs := fun ds => ds = [.int (n - 1)]) rfl (DnA.ef (da_cons (dn_op (dn_var rfl vi) dn_int rd_I0) da_nil)) ?_) ?_ (by decide)) ea_nil (by decide)) (by decide)) ?_ (by decide)
      · rintro ds rfl
        exact ⟨n, rfl, by omega, by omega⟩
      · rintro ds rfl
        exact ⟨n - 1, rfl, by omega, by omega⟩
      · rintro a b rfl ⟨ds, m, r, rfl, em, rfl, h0, h1⟩
        simp only [List.cons.injEq, PyData.int.injEq, and_true] at em
        refine ⟨_, ⟨1 + r, rfl, ?_, ?_⟩, rd_add⟩ <;> omega
      · rintro ds ⟨_, _, rfl, ⟨ds, m, r, rfl, em, rfl, h0, h1⟩, _, _, rfl, ⟨z, rfl, z0, z1⟩, rfl⟩
        simp only [List.cons.injEq, PyData.int.injEq, and_true] at em
        exact ⟨r, z, rfl, h0, by omega, z0, z1⟩
    · rintro ds ⟨a, b, rfl, _⟩
      rfl
    obtain ⟨s0, p0, e, s1, s2, p1, p2⟩ := p
    simp only [List.cons.injEq, and_true] at e
    obtain ⟨rfl, rfl⟩ := e
    obtain rfl := rp_int.mp ra
    obtain rfl := rp_int.mp rb
    dsimp only [List.set]
    refine se_set (K := K) (B := B) (D := D) (C := C) (H := H1) (t := t1) (m := 1) (Φ := fun d => ∃ g : Int, d = .int g ∧ 1 ≤ g ∧ g ≤ 5) ?_ (Xt.refl k1.al) k1 (by omega) (fun v d H2 t2 x2 k2 l2 pd r2 => ?_)
    · refine Ef.weak (ef_op (Dn.ef dn_int) (ef_drawN rfl (by decide) (by decide)) ?_ (by decide)) (fun d p => p) (by decide)
      rintro a b rfl ⟨r, rfl, h0, h1⟩
      refine ⟨_, ⟨1 + r, rfl, ?_, ?_⟩, rd_add⟩ <;> omega
    obtain ⟨g, rfl, g0, g1⟩ := pd
    obtain rfl := rp_int.mp r2
    dsimp only [List.set]
    refine se_ret (K := K) (B := B) (D := D) (C := C) (H := H2) (t := t2) (m := 1) (Φ := IsCtr n) ?_ (Xt.refl k2.al) k2 (by omega) ?_
    · refine Ef.weak (ef_tup (ea_cons (Dn.ef (dn_var rfl vi)) (ea_cons (Dn.ef (dn_op (dn_op (dn_var rfl vi) (dn_var rfl vi) rd_add) (dn_var rfl vi) (rd_I (by show (0 : Int) < n; omega)))) (ea_cons (Dn.ef (dn_var rfl vi))
        (ea_cons (ef_op (Θ := fun d => ∃ g : Int, d = .int g ∧ 1 ≤ g ∧ g ≤ 5) (Dn.ef dn_int) (ef_drawN rfl (by decide) (by decide)) ?_ (by decide)) ea_nil (by decide)) (by decide)) (by decide)) (by decide)) ?_) ?_ (by decide)
      · rintro a b rfl ⟨r, rfl, h0, h1⟩
        refine ⟨_, ⟨1 + r, rfl, ?_, ?_⟩, rd_add⟩ <;> omega
      · rintro ds ⟨_, _, rfl, rfl, _, _, rfl, rfl, _, _, rfl, rfl, _, _, rfl, _, rfl⟩
        show (4 : Nat) ≤ 100000
        decide
      · rintro d ⟨ds, rfl, _, _, rfl, rfl, _, _, rfl, rfl, _, _, rfl, rfl, _, _, rfl, ⟨e, rfl, e0, e1⟩, rfl⟩
        refine ⟨⟨s0, (s0 + p0) % n, g, e⟩, rfl, ⟨s1, s2, ?_, ?_, step_ne s1 s2 p1 p2 n1, g0, g1, e0, e1⟩⟩
        · exact Int.emod_nonneg _ (by omega)
        · exact Int.emod_lt_of_pos _ (by omega)
    · intro v d H' t' x' k' l' pd r'
      exact q v d H' t' (x1.trans (x2.trans x')) k' (by omega) ⟨n, rfl, pd⟩ r'
theorem ok_board {f f_draw f_counter : Addr} {fd fd_draw fd_counter : FuncData} (h : Has K mg "_law_board" sBoard ["_law_deck_here", "_law_most", "_law_many"] f fd) (T_draw : Has K mg "_law_draw" sDraw ["_law_deck_here", "_law_limit"] f_draw fd_draw) (T_counter : Has K mg "_law_counter" sCounter ["_law_deck_here", "_law_kinds"] f_counter fd_counter) (T : Bz mg)
    (G_draw : FnG P w K mg base CX0 1 f_draw fd_draw ["_law_deck_here", "_law_limit"] (spDraw K)) (G_counter : FnG P w K mg base CX0 2 f_counter fd_counter ["_law_deck_here", "_law_kinds"] (spE K 4 PreCtr PCtr)) :
    FnG P w K mg base CX0 3 f fd ["_law_deck_here", "_law_most", "_law_many"] (spE K 1000 PreBoard PBoard) := by
  refine okG h.F scBoard (fun vs H Q E h => ?_) (fun cd A out s H vs Q E hgd hr h => ?_)
  · obtain ⟨B, D, C, t, ds, ws, rfl, _, _, ra, ⟨n, m, rfl, _⟩, _⟩ := h
    have := ra.length
    simp only [List.length_cons, List.length_nil] at this ⊢
    omega
  · obtain ⟨B, D, C, t, ds, ws, rfl, dk, hl, ra, ⟨mo, ma, rfl, mo0, mo1, ma0, ma1⟩, q⟩ := h
    obtain rfl : ws = [.int mo, .int ma] := RpA.ints_inv (ns := [mo, ma]) ra
    have vi : ∀ {B' : Addr → Prop} {H' : Hp} {z : Int}, Rp K B' H' (.int z) (.int z) := rp_int.mpr rfl
    refine ⟨_, (pss_cons (ps_par (i := 3) (j := 4) rfl scBoard.nd rfl rfl (by decide) rfl rfl (pa_cons (pe_ix (r := rIx K) ix_seq (pe_lst (pa_cons (pe_op (r := rAddU K) op_addU pe_int (pe_callG G_draw hgd (hr.mono (by decide)) rfl T_draw.m T_draw.F.kp T_draw.b .nil pass0 (pa_cons (pv 0) (pa_cons (pv 1) pa_nil)))) (pa_cons (pv 1) pa_nil))) (pe_callG G_draw hgd (hr.mono (by decide)) rfl T_draw.m T_draw.F.kp T_draw.b .nil pass0 (pa_cons (pv 0) (pa_cons pe_int pa_nil))) (fun _ _ => rfl)) (pa_cons (pe_lst pa_nil) pa_nil)) rfl)
      (pss_cons (ps_for PassesOwn.never rfl (pi_range1 rfl T.z_range (pa_cons (pe_op op_mul (pe_callG G_draw hgd (hr.mono (by decide)) rfl T_draw.m T_draw.F.kp T_draw.b .nil pass0 (pa_cons (pv 0) (pa_cons (pe_op (r := rAddU K) op_addU (pv 2) pe_int) pa_nil))) (pe_callTy call_intU rfl T.z_int boot_intU (pa_cons (pe_cmpR op_gt (pv 3) pe_int (nomark _)) pa_nil))) pa_nil)) (pg_name (i := 5) scBoard.nd rfl (Or.inl rfl))
        (pss_cons (ps_expr (pe_bm PySem.F.plainAttrs_list PySem.F.slot_list_append PySem.F.type_list_append mt_append (pv 4) (pa_cons (pe_callG G_counter hgd (hr.mono (by decide)) rfl T_counter.m T_counter.F.kp T_counter.b .nil pass0 (pa_cons (pv 0) (pa_cons (pv 3) pa_nil))) pa_nil)))
        (pss_one (ps_if (pt_cmpR op_eq (pe_callG G_draw hgd (hr.mono (by decide)) rfl T_draw.m T_draw.F.kp T_draw.b .nil pass0 (pa_cons (pv 0) (pa_cons pe_int pa_nil))) pe_int (nomark _))
          (pss_one (ps_expr (pe_bm PySem.F.plainAttrs_list PySem.F.slot_list_append PySem.F.type_list_append mt_append (pv 4) (pa_cons (pe_ix (r := rIx K) ix_seq (pv 4) (pe_callG G_draw hgd (hr.mono (by decide)) rfl T_draw.m T_draw.F.kp T_draw.b .nil pass0 (pa_cons (pv 0) (pa_cons (pe_callB (r := rLenU K) call_lenU rfl T.z_len PySem.boot_len (pa_cons (pv 4) pa_nil)) pa_nil))) (fun _ _ => rfl)) pa_nil))))
          pss_nil))))
      (pss_one (ps_ret (pe_tup (pa_cons (pv 3) (pa_cons (pe_callTy (r := rTupU K) call_tupU rfl T.z_tuple boot_tupleU (pa_cons (pe_slice (r := rSlU K) sl_U (pv 4) po_none (po_some (pv 2))) pa_nil)) pa_nil))))))), ?_⟩
    refine se_par1 (K := K) (B := B) (D := D) (C := C) (H := H) (t := t) (m := 2) (Φ := fun d => ∃ z : Int, d = .int z ∧ 1 ≤ z ∧ z ≤ mo) ?_ (Xt.refl dk.al) dk (by omega) (fun v d H1 t1 x1 k1 l1 p ra => ?_)
    · refine Ef.weak (ef_op (Θ := fun d => ∃ z : Int, d = .int z ∧ 1 ≤ z ∧ z ≤ mo) (ef_lst (ea_cons (ef_op (Θ := fun d => ∃ z : Int, d = .int z ∧ 1 ≤ z ∧ z ≤ mo) (Dn.ef dn_int) (ef_draw (m := 0) (Φs := fun ds => ds = [.int mo]) rfl (DnA.ef (da_cons (dn_var rfl vi) da_nil)) ?_) ?_ (by decide)) (ea_cons (Dn.ef (dn_var rfl vi)) ea_nil (by decide)) (by decide)) ?_) (ef_drawN rfl (by decide) (by decide)) ?_ (by decide)) (fun d p => p) (by decide)
      · rintro ds rfl
        exact ⟨mo, rfl, by omega, by omega⟩
      · rintro a b rfl ⟨ds, m, r, rfl, em, rfl, h0, h1⟩
        simp only [List.cons.injEq, PyData.int.injEq, and_true] at em
        refine ⟨_, ⟨1 + r, rfl, ?_, ?_⟩, rd_add⟩ <;> omega
      · rintro ds ⟨_, _, rfl, _, _, _, rfl, _, rfl⟩
        show (2 : Nat) ≤ 100000
        decide
      · rintro a b ⟨ds, rfl, _, _, rfl, ⟨z, rfl, z0, z1⟩, _, _, rfl, rfl, rfl⟩ ⟨r, rfl, h0, h1⟩
        have c : r = 0 ∨ r = 1 := by omega
        rcases c with rfl | rfl
        · exact ⟨_, ⟨z, rfl, z0, z1⟩, rd_ixL rfl⟩
        · exact ⟨_, ⟨mo, rfl, by omega, by omega⟩, rd_ixL rfl⟩
    obtain ⟨n, rfl, n0, n1⟩ := p
    obtain rfl := rp_int.mp ra
    refine ⟨Nat.zero_le _, fun L nL => ⟨.int n, .ref L, rfl, ?_⟩⟩
    have nLB : ¬ B L := k1.al.new nL
    have nLk : ¬ Bk D C L := fun z => nLB (z.elim (fun w => w ▸ k1.bD) fun w => w ▸ k1.bC)
    have nD : D ≠ L := fun z => nLk (.inl z.symm)
    have nC : C ≠ L := fun z => nLk (.inr z.symm)
    have hLH : H L = none := k1.free (dk.wd x1) nL
    replace x1 := x1.same (same_new (o := .lst []) nL)
    replace k1 := k1.same (same_new (o := .lst []) nL)
    have hL : (upd H1 L (.lst [])) L = some (.lst []) := upd_same
    dsimp only [List.set]
    generalize upd H1 L (.lst []) = H1 at x1 k1 hL
    refine se_forR (K := K) (B := B) (D := D) (C := C) (H := H1) (t := t1) (m := 1) (Φs := fun ds => ∃ j : Nat, ds = [.int j] ∧ (j : Int) ≤ ma ∧ (1 < n ∨ j = 0)) ?_ (fun ds ⟨j, e, h1, _⟩ => ⟨j, e, by omega⟩) (Xt.refl k1.al) k1 (by omega) (fun j H2 t2 x2 k2 l2 pj => ?_)
    · refine EfA.weak (ea_cons (ef_op (Θ := fun d => ∃ j : Nat, d = .int j ∧ (j : Int) ≤ ma ∧ (1 < n ∨ j = 0)) (ef_draw (m := 0) (Φs := fun ds => ds = [.int (ma + 1)]) rfl (DnA.ef (da_cons (dn_op (dn_var rfl vi) dn_int rd_add) da_nil)) ?_) (Dn.ef (dn_cb (da_cons (dn_op (dn_var rfl vi) dn_int rd_B0) da_nil) rc_intB)) ?_ (by decide)) ea_nil (by decide)) ?_ (by decide)
      · rintro ds rfl
        exact ⟨ma + 1, rfl, by omega, by omega⟩
      · rintro a b ⟨ds, m, r, rfl, em, rfl, h0, h1⟩ rfl
        simp only [List.cons.injEq, PyData.int.injEq, and_true] at em
        by_cases hn : 1 < n
        · refine ⟨_, ⟨r.toNat, rfl, by omega, .inl hn⟩, ?_⟩
          have e1 : r * (if decide (1 < n) = true then 1 else 0) = (r.toNat : Int) := by
            rw [decide_eq_true hn, if_pos rfl]
            omega
          rw [← e1]
          exact rd_I (C := CMul) (.inr ⟨by split <;> decide, by split <;> decide⟩)
        · refine ⟨_, ⟨0, rfl, by omega, .inr rfl⟩, ?_⟩
          have e1 : r * (if decide (1 < n) = true then 1 else 0) = ((0 : Nat) : Int) := by
            rw [decide_eq_false hn, if_neg (by decide)]
            omega
          rw [← e1]
          exact rd_I (C := CMul) (.inr ⟨by split <;> decide, by split <;> decide⟩)
      · rintro ds ⟨_, _, rfl, ⟨j, rfl, j0, j1⟩, rfl⟩
        exact ⟨j, rfl, j0, j1⟩
    obtain ⟨j', ej, j0, j1⟩ := pj
    simp only [List.cons.injEq, PyData.int.injEq, and_true] at ej
    obtain rfl : j = j' := by omega
    have hL2 : H2 L = some (.lst []) := x2.kp _ _ nLk hL
    refine ⟨fun i σ H' => ∃ (t' : Int) (y : Option V) (cs : List Ctr) (vs : List V), σ = [some (.ref D), some (.int mo), some (.int ma), some (.int n), some (.ref L), y] ∧ Xt (Bk D C) H H' ∧ Dk (Bp B L) H' D C t' ∧ t' ≤ t2 + 6 * i ∧
      H' L = some (.lst vs) ∧ RpA K (Bp B L) H' (cs.map Ctr.d) vs ∧ cs.length ≤ 2 * i ∧ ∀ c ∈ cs, c.Ok n, ?_, ?_, ?_⟩
    · exact ⟨t2, none, [], [], rfl, x1.trans x2, k2.grow (by rw [hL2]; simp), by omega, hL2, RpA.nil, by simp, fun c h => by simp at h⟩
    · rintro i _ H3 hi ⟨t3, y, cs, vs, rfl, x3, k3, l3, hL3, ra3, hcs, hok⟩
      have n2 : 2 ≤ n := by
        rcases j1 with h | h
        · omega
        · omega
      dsimp only [gName, List.set]
      -- found.append(counter)
      refine ⟨.ref L, rfl, .inl ⟨rfl, _, SqL.of hL3⟩, ?_⟩
      have ec : EfA K (Bp B L) D C 4 (tCons (tCall (spE K 4 PreCtr PCtr) [] E0 (tCons (tVar 0) (tCons (tVar 3) tNil))) tNil) [some (.ref D), some (.int mo), some (.int ma), some (.int n), some (.ref L), some (.int (0 + i))] H3 (fun ds => ∃ c : Ctr, ds = [c.d] ∧ c.Ok n) :=
        EfA.weak (ea_cons (ef_callE (Θ := IsCtr n) rfl (DnA.ef (da_cons (dn_var rfl vi) da_nil)) (by
          rintro ds rfl
          refine ⟨⟨n, rfl, n2, by omega⟩, fun c pc => ?_⟩
          obtain ⟨m, em, pc⟩ := pc
          simp only [List.cons.injEq, PyData.int.injEq, and_true] at em
          subst em
          exact pc) (by decide)) ea_nil (by decide)) (by
          rintro ds ⟨_, _, rfl, ⟨c, rfl, hc⟩, rfl⟩
          exact ⟨c, rfl, hc⟩) (by decide)
      refine ec H3 t3 (Xt.refl k3.al) k3 (by omega) _ fun ws ds H4 t4 x4 k4 l4 pd r4 => ?_
      obtain ⟨c, rfl, hc⟩ := pd
      obtain ⟨v, r, rfl, rv, rn⟩ := rpa_cons.mp r4
      obtain rfl := rpa_nil.mp rn
      have hL4 : H4 L = some (.lst vs) := x4.kp _ _ nLk hL3
      have ra4 := ra3.up (k3.wd x4)
      have len4 : vs.length = cs.length := by rw [← ra3.length, List.length_map]
      refine ⟨L, vs, v, rfl, rfl, hL4, Nat.lt_of_lt_of_le (show vs.length < 100000 by omega) (by decide), ?_⟩
      have k5 := k4.put (o := .lst (vs ++ [v])) nD nC
      have ra5 : RpA K (Bp B L) (upd H4 L (.lst (vs ++ [v]))) ((cs ++ [c]).map Ctr.d) (vs ++ [v]) := by
        rw [List.map_append]
        exact RpA.append (ra4.up (xt_put k4.al)) (.cons (rv.up (xt_put k4.al)) .nil)
      have x5 : Xt (Bk D C) H (upd H4 L (.lst (vs ++ [v]))) := xt_keep (x3.trans x4) hLH nD nC
      have hL5 : (upd H4 L (.lst (vs ++ [v]))) L = some (.lst (vs ++ [v])) := upd_same
      have ok5 : ∀ x ∈ cs ++ [c], x.Ok n := fun x hx => by
        rcases List.mem_append.mp hx with hx | hx
        · exact hok x hx
        · rw [List.mem_singleton.mp hx]
          exact hc
      have l5 : (cs ++ [c]).length ≤ 2 * i + 1 := by
        rw [List.length_append]
        show cs.length + 1 ≤ 2 * i + 1
        omega
      have p5 : 0 < (cs ++ [c]).length := by
        rw [List.length_append]
        show 0 < cs.length + 1
        omega
      generalize upd H4 L (.lst (vs ++ [v])) = H5 at k5 ra5 x5 hL5
      generalize cs ++ [c] = cs5 at ra5 ok5 l5 p5
      generalize vs ++ [v] = vs5 at ra5 hL5
      dsimp only
      -- if draw(deck, 6) == 0
      refine se_if (B := Bp B L) (D := D) (C := C) (H := H5) (t := t4) (m := 1) (Θ := fun _ => True) ?_ (Xt.refl k5.al) k5 (by omega) (fun H6 t6 x6 k6 l6 _ => ?_) (fun H6 t6 x6 k6 l6 _ => ?_)
      · refine et_test (K := K) (Φ := fun d => ∃ b, d = .bool b) (Ef.weak (ef_op (ef_drawN rfl (by decide) (by decide)) (Dn.ef dn_int) ?_ (by decide)) (fun d p => p) (by decide)) fun d ⟨b, e⟩ => ⟨b, e, trivial⟩
        rintro a b ⟨r, rfl, h0, h1⟩ rfl
        exact ⟨_, ⟨_, rfl⟩, rd_eqI⟩
      · have hL6 : H6 L = some (.lst vs5) := x6.kp _ _ nLk hL5
        have ra6 := ra5.up (k5.wd x6)
        have len6 : vs5.length = cs5.length := by rw [← ra6.length, List.length_map]
        refine ⟨.ref L, rfl, .inl ⟨rfl, _, SqL.of hL6⟩, .ref L, rfl, .ref D, rfl, .ref L, rfl, L, vs5, rfl, .inl (SqL.of hL6), Bp B L, D, C, t6, [.int vs5.length], [.int vs5.length], rfl, k6, by omega, RpA.cons vi .nil,
          ⟨_, rfl, by omega, by omega⟩, fun w d H7 t7 x7 k7 l7 pd rw7 => ?_⟩
        obtain ⟨m, r, em, rfl, h0, h1⟩ := pd
        simp only [List.cons.injEq, PyData.int.injEq, and_true] at em
        subst em
        obtain rfl := rp_int.mp rw7
        have hL7 : H7 L = some (.lst vs5) := x7.kp _ _ nLk hL6
        have ra7 := ra6.up (k6.wd x7)
        obtain ⟨u, rfl⟩ : ∃ u : Nat, r = (u : Int) := ⟨r.toNat, by omega⟩
        have hu : u < vs5.length := by omega
        have gu := List.getElem?_eq_getElem hu
        obtain ⟨d, gd, rd⟩ := ra7.back gu
        rw [List.getElem?_map] at gd
        cases gc : cs5[u]? with
        | none => rw [gc] at gd; cases gd
        | some c6 =>
          rw [gc] at gd
          cases gd
          refine .inl ⟨L, vs5, u, vs5[u], rfl, rfl, SqL.of hL7, atI_nat gu, L, vs5, vs5[u], rfl, rfl, hL7, Nat.lt_of_lt_of_le (show vs5.length < 100000 by omega) (by decide), ?_⟩
          refine ⟨t7, _, cs5 ++ [c6], vs5 ++ [vs5[u]], rfl, xt_keep (x5.trans (x6.trans x7)) hLH nD nC, k7.put nD nC, by omega, upd_same, ?_, ?_, fun x hx => ?_⟩
          · rw [List.map_append]
            exact RpA.append (ra7.up (xt_put k7.al)) (.cons (rd.up (xt_put k7.al)) .nil)
          · rw [List.length_append]
            show cs5.length + 1 ≤ 2 * (i + 1)
            omega
          · rcases List.mem_append.mp hx with hx | hx
            · exact ok5 x hx
            · rw [List.mem_singleton.mp hx]
              exact ok5 c6 (List.mem_of_getElem? gc)
      · exact ⟨t6, _, cs5, vs5, rfl, x5.trans x6, k6, by omega, x6.kp _ _ nLk hL5, ra5.up (k5.wd x6), by omega, ok5⟩
    · rintro _ H3 ⟨t3, y, cs, vs, rfl, x3, k3, l3, hL3, ra3, hcs, hok⟩
      have kB := k3.less bp_up k1.bD k1.bC
      have rL : Rp K B H3 (.list (cs.map Ctr.d)) (.ref L) := rp_lst.mpr ⟨L, vs, rfl, nLB, hL3, RpA.less bp_up _ _ ra3⟩
      dsimp only
      refine sd_ret (K := K) (B := B) (H := H3) (d := .tuple [.int n, .tuple (cutD (cs.map Ctr.d) none (some ma))]) ?_ (Xt.refl kB.al) ?_
      · exact dn_tup (da_cons (dn_var rfl vi) (da_cons (dn_cb (da_cons (dn_slL (dn_var rfl rL) do_none (do_some (K := K) (dn_var rfl vi))) da_nil) rc_tupL) da_nil)) (by show (2 : Nat) ≤ 100000; decide)
      · intro v H4 s4 r4
        refine q v _ H4 t3 (x3.same s4) (kB.same s4) (by omega) ⟨mo, ma, rfl, n, cs.take ma.toNat, ?_, n0, n1, ?_, fun c hc => hok c (List.mem_of_mem_take hc)⟩ r4
        · show PyData.tuple [.int n, .tuple (cutD (cs.map Ctr.d) none (some ma))] = .tuple [.int n, .tuple ((cs.take ma.toNat).map Ctr.d)]
          have e : cutD (cs.map Ctr.d) none (some ma) = (cs.map Ctr.d).take ma.toNat := by
            unfold cutD
            obtain ⟨u, rfl⟩ : ∃ u : Nat, ma = (u : Int) := ⟨ma.toNat, by omega⟩
            rw [HT.sIx_none, HT.sIx_nat, List.drop_zero, Nat.sub_zero, List.take_eq_take_iff]
            simp
          rw [e, List.map_take]
        · rw [List.length_take]
          omega
end
end CG

namespace CG
open PySem PySem.Spec PyProof.Rows L2
/-! ### what is asked of a value -/
def isNum : PyData → Bool
  | .int _ => true
  | _ => false
def num (x : PyData) (lo hi : Int) : Bool := match x with
  | .int i => decide (lo ≤ i) && decide (i ≤ hi)
  | _ => false
def differ : PyData → PyData → Bool
  | .int i, .int j => !decide (i = j)
  | _, _ => true
def ctr (n : Int) : PyData → Bool
  | .tuple [a, b, c, e] => num a 0 (n - 1) && num b 0 (n - 1) && differ a b && num c 1 5 && num e 1 5
  | _ => false
def isTupN (k : Nat) : PyData → Bool
  | .tuple ds => decide (ds.length = k)
  | _ => false
def isTupM (k : Nat) : PyData → Bool
  | .tuple ds => decide (ds.length ≤ k)
  | _ => false
def bad (i : PyData) (s : Str) : PyData := .tuple [i, .str s]
def ferr (n : Int) (cs : List PyData) : PyData := match cs.findIdx? (fun c => !ctr n c) with
  | none => .none
  | some i => bad (.int i) "counter"
def berr : PyData → PyData
  | .tuple [k, c] => match k with
    | .int n => if decide (1 ≤ n) && decide (n ≤ 4) then (match c with
      | .tuple cs => if cs.length ≤ 8 then ferr n cs else bad .none "counters"
      | _ => bad .none "counters") else bad .none "kinds"
    | _ => bad .none "kinds"
  | _ => bad .none "board"
theorem find_at {n : Int} : ∀ {cs : List PyData} {i : Nat} {c : PyData}, (cs.take i).all (ctr n) = true → cs[i]? = some c → ctr n c = false → cs.findIdx? (fun c => !ctr n c) = some i
  | [], i, c, _, h, _ => by simp at h
  | x :: cs, 0, c, _, h, hc => by
    simp only [List.getElem?_cons_zero, Option.some.injEq] at h
    subst h
    rw [List.findIdx?_cons, hc]
    rfl
  | x :: cs, i + 1, c, ha, h, hc => by
    rw [List.take_succ_cons, List.all_cons, Bool.and_eq_true] at ha
    rw [List.getElem?_cons_succ] at h
    rw [List.findIdx?_cons, ha.1, find_at ha.2 h hc]
    rfl
theorem find_none {n : Int} : ∀ {cs : List PyData}, cs.all (ctr n) = true → cs.findIdx? (fun c => !ctr n c) = none
  | [], _ => rfl
  | x :: cs, h => by
    rw [List.all_cons, Bool.and_eq_true] at h
    rw [List.findIdx?_cons, h.1, find_none h.2]
    rfl
theorem all_more {n : Int} {cs : List PyData} {i : Nat} {c : PyData} (h : (cs.take i).all (ctr n) = true) (g : cs[i]? = some c) (hc : ctr n c = true) : (cs.take (i + 1)).all (ctr n) = true := by
  rw [List.take_add_one, g, List.all_append, h]
  show (true && [c].all (ctr n)) = true
  rw [List.all_cons, hc]
  rfl
def P1 (f : PyData → PyData) (ds : List PyData) (d : PyData) : Prop := ∃ x, ds = [x] ∧ d = f x
def PBetween (ds : List PyData) (d : PyData) : Prop := ∃ (x : PyData) (lo hi : Int), ds = [x, .int lo, .int hi] ∧ d = .bool (num x lo hi)
def PKind (ds : List PyData) (d : PyData) : Prop := ∃ (x : PyData) (n : Int), ds = [x, .int n] ∧ d = .bool (num x 0 (n - 1))
def PCounter (ds : List PyData) (d : PyData) : Prop := ∃ (x : PyData) (n : Int), ds = [x, .int n] ∧ d = .bool (ctr n x)
section
variable {K : PySem.W.Frag} {B : Addr → Prop} {σ : L2.St} {H : Hp} {te : TE} {x : PyData}
theorem dt_tupN {k : Nat} (h : Dn K B te σ H x) : DnT B (tOr (tNot (tB (tCB (rIsi K) (tCons te (tCons (tC (.ty "tuple")) tNil))))) (tTest (tOp rNe (tCB (rLenU K) (tCons te tNil)) (tC (.int k))))) σ H (!isTupN k x) := by
  by_cases ht : isTup x = true
  · obtain ⟨ds, rfl⟩ : ∃ ds, x = .tuple ds := by cases x <;> first | exact ⟨_, rfl⟩ | cases ht
    refine DnT.eq (dt_or (b := false) (dt_not (b := true) (dt_B (K := K) (dn_isi h (kit_tup _)))) fun _ => dt_test (K := K) (dn_op (dn_cb (da_cons h da_nil) rc_lenT) dn_int rd_neI)) ?_
    show (false || !decide ((ds.length : Int) = k)) = !decide (ds.length = k)
    rw [Bool.false_or]
    congr 1
    exact decide_eq_decide.mpr (by omega)
  · have hf : isTup x = false := by cases e : isTup x with | true => exact absurd e ht | false => rfl
    have e2 : isTupN k x = false := by cases x <;> first | rfl | cases hf
    rw [e2]
    exact DnT.eq (dt_or (b := true) (c := true) (dt_not (b := false) (dt_B (K := K) (dn_isi h (by rw [kit_tup, hf])))) fun z => by cases z) rfl
theorem dt_tupM {k : Nat} (h : Dn K B te σ H x) : DnT B (tOr (tNot (tB (tCB (rIsi K) (tCons te (tCons (tC (.ty "tuple")) tNil))))) (tTest (tOp (rI0 fun i j => .bl (decide (j < i))) (tCB (rLenU K) (tCons te tNil)) (tC (.int k))))) σ H (!isTupM k x) := by
  by_cases ht : isTup x = true
  · obtain ⟨ds, rfl⟩ : ∃ ds, x = .tuple ds := by cases x <;> first | exact ⟨_, rfl⟩ | cases ht
    refine DnT.eq (dt_or (b := false) (dt_not (b := true) (dt_B (K := K) (dn_isi h (kit_tup _)))) fun _ => dt_test (K := K) (dn_op (dn_cb (da_cons h da_nil) rc_lenT) dn_int rd_B0)) ?_
    show (false || decide ((k : Int) < (ds.length : Int))) = !decide (ds.length ≤ k)
    rw [Bool.false_or, ← decide_not]
    exact decide_eq_decide.mpr (by omega)
  · have hf : isTup x = false := by cases e : isTup x with | true => exact absurd e ht | false => rfl
    have e2 : isTupM k x = false := by cases x <;> first | rfl | cases hf
    rw [e2]
    exact DnT.eq (dt_or (b := true) (c := true) (dt_not (b := false) (dt_B (K := K) (dn_isi h (by rw [kit_tup, hf])))) fun z => by cases z) rfl
theorem dn_bad {i : PyData} {s : Str} {ti : TE} (h : Dn K B ti σ H i) : Dn K B (tTup (tCons ti (tCons (tC (.str s)) tNil))) σ H (bad i s) := dn_tup (da_cons h (da_cons dn_str da_nil)) (by show (2 : Nat) ≤ 100000; decide)
end
section
variable {P : Program} {w : World} {K : PySem.W.Frag} {mg : Str → Option Value} {base : Heap}
theorem ok_number {f : Addr} {fd : FuncData} (h : Has K mg "is_number" sPIs_number ["value"] f fd) (T : Bz mg) : FnG P w K mg base CX0 1 f fd ["value"] (spP K (P1 fun x => .bool (isNum x))) := by
  refine okG h.F scPIs_number (fun vs H Q E h => ?_) (fun cd A out s H vs Q E hgd hr h => ?_)
  · obtain ⟨B, ds, d, _, ra, ⟨x, rfl, _⟩, _⟩ := h
    exact ra.length.symm
  · obtain ⟨B, ds, d, al, ra, ⟨x, rfl, rfl⟩, q⟩ := h
    obtain ⟨v, r, rfl, h1, h2⟩ := rpa_cons.mp ra
    obtain rfl := rpa_nil.mp h2
    refine ⟨_, (pss_one (ps_ret (pe_and (pe_callB (r := rIsi K) call_isi rfl T.z_isinstance boot_isinstance (pa_cons (pv 0) (pa_cons (pe_ty rfl T.z_int boot_intU) pa_nil))) (pe_one (pe_not (pe_callB (r := rIsi K) call_isi rfl T.z_isinstance boot_isinstance (pa_cons (pv 0) (pa_cons (pe_ty rfl T.z_bool boot_boolU) pa_nil)))))))), ?_⟩
    refine sd_ret (K := K) (B := B) (H := H) ?_ (Xt.refl al) q
    refine Dn.eq (dn_and (dn_isi (dn_var rfl h1) (kit_int x)) fun _ => dn_not (dn_isi (dn_var rfl h1) (kit_bool x))) ?_
    cases x <;> rfl
theorem ok_between {f f1 : Addr} {fd fd1 : FuncData} (h : Has K mg "is_between" sPIs_between ["value", "least", "most"] f fd) (T_is_number : Has K mg "is_number" sPIs_number ["value"] f1 fd1) (T : Bz mg)
    (G_is_number : FnG P w K mg base CX0 1 f1 fd1 ["value"] (spP K (P1 fun x => .bool (isNum x)))) : FnG P w K mg base CX0 2 f fd ["value", "least", "most"] (spP K PBetween) := by
  refine okG h.F scPIs_between (fun vs H Q E h => ?_) (fun cd A out s H vs Q E hgd hr h => ?_)
  · obtain ⟨B, ds, d, _, ra, ⟨x, lo, hi, rfl, _⟩, _⟩ := h
    exact ra.length.symm
  · obtain ⟨B, ds, d, al, ra, ⟨x, lo, hi, rfl, rfl⟩, q⟩ := h
    obtain ⟨v, r, rfl, h1, h2⟩ := rpa_cons.mp ra
    obtain rfl : r = [.int lo, .int hi] := RpA.ints_inv (ns := [lo, hi]) h2
    have vi : ∀ {z : Int}, Rp K B H (.int z) (.int z) := rp_int.mpr rfl
    refine ⟨_, (pss_one (ps_ret (pe_and (pe_callG G_is_number hgd (hr.mono (by decide)) rfl T_is_number.m T_is_number.F.kp T_is_number.b .nil pass0 (pa_cons (pv 0) pa_nil)) (pe_one (pe_chain op_le op_le (pv 1) (pv 0) (pv 2)))))), ?_⟩
    refine sd_ret (K := K) (B := B) (H := H) ?_ (Xt.refl al) q
    cases hx : isNum x with
    | true =>
      obtain ⟨i, rfl⟩ : ∃ i, x = .int i := by cases x <;> first | exact ⟨_, rfl⟩ | cases hx
      exact Dn.eq (dn_and (dn_call (da_cons (dn_var rfl h1) da_nil) ⟨_, rfl, rfl⟩) fun _ => dn_chain (dn_var rfl vi) (dn_var rfl h1) rd_B0 (fun _ => dn_var rfl vi) fun _ => rd_B0) rfl
    | false =>
      refine Dn.eq (dn_and (b := false) (c := true) (dn_call (da_cons (dn_var rfl h1) da_nil) ⟨x, rfl, by show PyData.bool false = PyData.bool (isNum x); rw [hx]⟩) fun z => by cases z) ?_
      cases x <;> first | rfl | cases hx
theorem ok_kind {f f1 : Addr} {fd fd1 : FuncData} (h : Has K mg "is_kind" sPIs_kind ["value", "kinds"] f fd) (T_is_between : Has K mg "is_between" sPIs_between ["value", "least", "most"] f1 fd1)
    (G_is_between : FnG P w K mg base CX0 2 f1 fd1 ["value", "least", "most"] (spP K PBetween)) : FnG P w K mg base CX0 3 f fd ["value", "kinds"] (spP K PKind) := by
  refine okG h.F scPIs_kind (fun vs H Q E h => ?_) (fun cd A out s H vs Q E hgd hr h => ?_)
  · obtain ⟨B, ds, d, _, ra, ⟨x, n, rfl, _⟩, _⟩ := h
    exact ra.length.symm
  · obtain ⟨B, ds, d, al, ra, ⟨x, n, rfl, rfl⟩, q⟩ := h
    obtain ⟨v, r, rfl, h1, h2⟩ := rpa_cons.mp ra
    obtain rfl : r = [.int n] := RpA.ints_inv (ns := [n]) h2
    refine ⟨_, (pss_one (ps_ret (pe_callG G_is_between hgd (hr.mono (by decide)) rfl T_is_between.m T_is_between.F.kp T_is_between.b .nil pass0 (pa_cons (pv 0) (pa_cons pe_int (pa_cons (pe_op op_sub (pv 1) pe_int) pa_nil)))))), ?_⟩
    refine sd_ret (K := K) (B := B) (H := H) ?_ (Xt.refl al) q
    exact dn_call (da_cons (dn_var rfl h1) (da_cons dn_int (da_cons (dn_op (dn_var rfl (rp_int.mpr rfl)) dn_int rd_I0) da_nil))) ⟨x, 0, n - 1, rfl, rfl⟩
theorem ok_rate {f f1 : Addr} {fd fd1 : FuncData} {u5 : Value} (h : Has K mg "is_rate" sPIs_rate ["value"] f fd) (T_is_between : Has K mg "is_between" sPIs_between ["value", "least", "most"] f1 fd1) (cR : mg "MAX_RATE" = some u5) (h5 : RelV (.int 5) u5)
    (G_is_between : FnG P w K mg base CX0 2 f1 fd1 ["value", "least", "most"] (spP K PBetween)) : FnG P w K mg base CX0 3 f fd ["value"] (spP K (P1 fun x => .bool (num x 1 5))) := by
  refine okG h.F scPIs_rate (fun vs H Q E h => ?_) (fun cd A out s H vs Q E hgd hr h => ?_)
  · obtain ⟨B, ds, d, _, ra, ⟨x, rfl, _⟩, _⟩ := h
    exact ra.length.symm
  · obtain ⟨B, ds, d, al, ra, ⟨x, rfl, rfl⟩, q⟩ := h
    obtain ⟨v, r, rfl, h1, h2⟩ := rpa_cons.mp ra
    obtain rfl := rpa_nil.mp h2
    refine ⟨_, (pss_one (ps_ret (pe_callG G_is_between hgd (hr.mono (by decide)) rfl T_is_between.m T_is_between.F.kp T_is_between.b .nil pass0 (pa_cons (pv 0) (pa_cons pe_int (pa_cons (pe_glob rfl cR h5) pa_nil)))))), ?_⟩
    refine sd_ret (K := K) (B := B) (H := H) ?_ (Xt.refl al) q
    exact dn_call (da_cons (dn_var rfl h1) (da_cons dn_int (da_cons dn_int da_nil))) ⟨x, 1, 5, rfl, rfl⟩
theorem ok_isctr {f f1 f2 : Addr} {fd fd1 fd2 : FuncData} (h : Has K mg "is_counter" sPIs_counter ["value", "kinds"] f fd) (T_is_kind : Has K mg "is_kind" sPIs_kind ["value", "kinds"] f1 fd1) (T_is_rate : Has K mg "is_rate" sPIs_rate ["value"] f2 fd2) (T : Bz mg)
    (G_is_kind : FnG P w K mg base CX0 3 f1 fd1 ["value", "kinds"] (spP K PKind)) (G_is_rate : FnG P w K mg base CX0 3 f2 fd2 ["value"] (spP K (P1 fun x => .bool (num x 1 5)))) :
    FnG P w K mg base CX0 4 f fd ["value", "kinds"] (spP K PCounter) := by
  refine okG h.F scPIs_counter (fun vs H Q E h => ?_) (fun cd A out s H vs Q E hgd hr h => ?_)
  · obtain ⟨B, ds, d, _, ra, ⟨x, n, rfl, _⟩, _⟩ := h
    exact ra.length.symm
  · obtain ⟨B, ds, d, al, ra, ⟨x, n, rfl, rfl⟩, q⟩ := h
    obtain ⟨v, r, rfl, h1, h2⟩ := rpa_cons.mp ra
    obtain rfl : r = [.int n] := RpA.ints_inv (ns := [n]) h2
    have vi : ∀ {H' : Hp} {z : Int}, Rp K B H' (.int z) (.int z) := rp_int.mpr rfl
    refine ⟨_, (pss_cons (ps_if (PW.pt (pw_or (pt_not (pt_val (pe_callB (r := rIsi K) call_isi rfl T.z_isinstance boot_isinstance (pa_cons (pv 0) (pa_cons (pe_ty rfl T.z_tuple boot_tupleU) pa_nil))))) (pw_or1 (pt_cmpR op_ne (pe_callB (r := rLenU K) call_lenU rfl T.z_len PySem.boot_len (pa_cons (pv 0) pa_nil)) pe_int (nomark _)))))
        (pss_one (ps_ret pe_bl))
        pss_nil)
      (pss_cons (ps_asg (pv 0) (pg_tup rfl (pgs_cons (pg_name (i := 2) scPIs_counter.nd rfl (Or.inl rfl)) (pgs_cons (pg_name (i := 3) scPIs_counter.nd rfl (Or.inl rfl)) (pgs_cons (pg_name (i := 4) scPIs_counter.nd rfl (Or.inl rfl)) (pgs_cons (pg_name (i := 5) scPIs_counter.nd rfl (Or.inl rfl)) pgs_nil))))))
      (pss_cons (ps_if (PW.pt (pw_or (pt_not (pt_val (pe_callG G_is_kind hgd (hr.mono (by decide)) rfl T_is_kind.m T_is_kind.F.kp T_is_kind.b .nil pass0 (pa_cons (pv 2) (pa_cons (pv 1) pa_nil))))) (pw_or1 (pt_not (pt_val (pe_callG G_is_kind hgd (hr.mono (by decide)) rfl T_is_kind.m T_is_kind.F.kp T_is_kind.b .nil pass0 (pa_cons (pv 3) (pa_cons (pv 1) pa_nil))))))))
        (pss_one (ps_ret pe_bl))
        pss_nil)
      (pss_one (ps_ret (pe_and (pe_cmpR op_ne (pv 2) (pv 3) (nomark _)) (pe_and (pe_callG G_is_rate hgd (hr.mono (by decide)) rfl T_is_rate.m T_is_rate.F.kp T_is_rate.b .nil pass0 (pa_cons (pv 4) pa_nil)) (pe_one (pe_callG G_is_rate hgd (hr.mono (by decide)) rfl T_is_rate.m T_is_rate.F.kp T_is_rate.b .nil pass0 (pa_cons (pv 5) pa_nil)))))))))), ?_⟩
    refine sd_if (B := B) (H := H) (b := !isTupN 4 x) (dt_tupN (k := 4) (dn_var (K := K) rfl h1)) (Xt.refl al) (fun z H1 s1 => ?_) (fun z H1 s1 => ?_)
    · refine sd_ret (K := K) (B := B) (H := H1) (d := .bool false) dn_bl (Xt.refl (al.same s1)) fun v H2 s2 r2 => q v H2 (s1.trans s2) ?_
      have e : ctr n x = false := by
        cases hc : ctr n x with
        | false => rfl
        | true =>
          unfold ctr at hc
          split at hc
          · cases z
          · cases hc
      rw [e]
      exact r2
    · obtain ⟨a, b, c, e, rfl⟩ : ∃ a b c e, x = .tuple [a, b, c, e] := by
        cases x <;> first | cases z | skip
        rename_i ds
        have hl : ds.length = 4 := by
          have := z
          simp only [isTupN, Bool.not_eq_false', decide_eq_true_eq] at this
          exact this
        match ds, hl with
        | [a, b, c, e], _ => exact ⟨a, b, c, e, rfl⟩
      dsimp only [tNext]
      have x1 : Xt B H H1 := Xt.of al s1
      refine sd_unp (K := K) (B := B) (H := H1) (ds := [a, b, c, e]) (dn_var rfl (h1.up x1)) (Xt.refl x1.al) rfl (fun xs H2 s2 r2 => ?_)
      obtain ⟨ya, r, rfl, ga, g2⟩ := rpa_cons.mp r2
      obtain ⟨yb, r, rfl, gb, g2⟩ := rpa_cons.mp g2
      obtain ⟨yc, r, rfl, gc, g2⟩ := rpa_cons.mp g2
      obtain ⟨ye, r, rfl, ge, g2⟩ := rpa_cons.mp g2
      obtain rfl := rpa_nil.mp g2
      refine ⟨_, _, rfl, _, _, rfl, _, _, rfl, _, _, rfl, rfl, ?_⟩
      dsimp only [L2.start, List.set]
      have x2 : Xt B H H2 := x1.same s2
      refine sd_if (B := B) (H := H2) (b := !num a 0 (n - 1) || !num b 0 (n - 1)) ?_ (Xt.refl x2.al) (fun z H3 s3 => ?_) (fun z H3 s3 => ?_)
      · exact dt_or (dt_not (dt_B (K := K) (dn_call (da_cons (dn_var rfl ga) (da_cons (dn_var rfl vi) da_nil)) ⟨a, n, rfl, rfl⟩))) fun _ => dt_not (dt_B (K := K) (dn_call (da_cons (dn_var rfl gb) (da_cons (dn_var rfl vi) da_nil)) ⟨b, n, rfl, rfl⟩))
      · refine sd_ret (K := K) (B := B) (H := H3) (d := .bool false) dn_bl (Xt.refl (x2.same s3).al) fun v H4 s4 r4 => q v H4 (s1.trans (s2.trans (s3.trans s4))) ?_
        have e : ctr n (.tuple [a, b, c, e]) = false := by
          show (num a 0 (n - 1) && num b 0 (n - 1) && differ a b && num c 1 5 && num e 1 5) = false
          cases h1 : num a 0 (n - 1) <;> cases h2 : num b 0 (n - 1) <;> rw [h1, h2] at z <;> first | rfl | cases z
        rw [e]
        exact r4
      · have hab : num a 0 (n - 1) = true ∧ num b 0 (n - 1) = true := by
          cases h1 : num a 0 (n - 1) <;> cases h2 : num b 0 (n - 1) <;> rw [h1, h2] at z <;> first | exact ⟨rfl, rfl⟩ | cases z
        obtain ⟨i, rfl⟩ : ∃ i, a = .int i := by
          have := hab.1
          cases a <;> first | exact ⟨_, rfl⟩ | cases this
        obtain ⟨j, rfl⟩ : ∃ j, b = .int j := by
          have := hab.2
          cases b <;> first | exact ⟨_, rfl⟩ | cases this
        dsimp only [tNext]
        have x3 : Xt B H2 H3 := Xt.of x2.al s3
        refine sd_ret (K := K) (B := B) (H := H3) (d := .bool (ctr n (.tuple [.int i, .int j, c, e]))) ?_ (Xt.refl x3.al) fun v H4 s4 r4 => q v H4 (s1.trans (s2.trans (s3.trans s4))) r4
        refine Dn.eq (dn_and (dn_op (dn_var rfl (ga.up x3)) (dn_var rfl (gb.up x3)) rd_neI) fun _ => dn_and (dn_call (da_cons (dn_var rfl (gc.up x3)) da_nil) ⟨c, rfl, rfl⟩) fun _ => dn_call (da_cons (dn_var rfl (ge.up x3)) da_nil) ⟨e, rfl, rfl⟩) ?_
        show PyData.bool (!decide (i = j) && (num c 1 5 && num e 1 5)) = .bool (num (.int i) 0 (n - 1) && num (.int j) 0 (n - 1) && differ (.int i) (.int j) && num c 1 5 && num e 1 5)
        rw [hab.1, hab.2]
        show PyData.bool (!decide (i = j) && (num c 1 5 && num e 1 5)) = .bool (true && true && (!decide (i = j)) && num c 1 5 && num e 1 5)
        rw [Bool.and_true, Bool.true_and, Bool.and_assoc]
theorem ok_berr {f f1 f2 : Addr} {fd fd1 fd2 : FuncData} {u4 u8 : Value} (h : Has K mg "board_error" sPBoard_error ["value"] f fd) (T_is_between : Has K mg "is_between" sPIs_between ["value", "least", "most"] f1 fd1) (T_is_counter : Has K mg "is_counter" sPIs_counter ["value", "kinds"] f2 fd2) (T : Bz mg)
    (cK : mg "MAX_KINDS" = some u4) (h4 : RelV (.int 4) u4) (cC : mg "MAX_COUNTERS" = some u8) (h8 : RelV (.int 8) u8)
    (G_is_between : FnG P w K mg base CX0 2 f1 fd1 ["value", "least", "most"] (spP K PBetween)) (G_is_counter : FnG P w K mg base CX0 4 f2 fd2 ["value", "kinds"] (spP K PCounter)) :
    FnG P w K mg base CX0 5 f fd ["value"] (spP K (P1 berr)) := by
  refine okG h.F scPBoard_error (fun vs H Q E h => ?_) (fun cd A out s H vs Q E hgd hr h => ?_)
  · obtain ⟨B, ds, d, _, ra, ⟨x, rfl, _⟩, _⟩ := h
    exact ra.length.symm
  · obtain ⟨B, ds, d, al, ra, ⟨x, rfl, rfl⟩, q⟩ := h
    obtain ⟨v, r, rfl, h1, h2⟩ := rpa_cons.mp ra
    obtain rfl := rpa_nil.mp h2
    refine ⟨_, (pss_cons (ps_if (PW.pt (pw_or (pt_not (pt_val (pe_callB (r := rIsi K) call_isi rfl T.z_isinstance boot_isinstance (pa_cons (pv 0) (pa_cons (pe_ty rfl T.z_tuple boot_tupleU) pa_nil))))) (pw_or1 (pt_cmpR op_ne (pe_callB (r := rLenU K) call_lenU rfl T.z_len PySem.boot_len (pa_cons (pv 0) pa_nil)) pe_int (nomark _)))))
        (pss_one (ps_ret (pe_tup (pa_cons pe_non (pa_cons pe_str pa_nil)))))
        pss_nil)
      (pss_cons (ps_asg (pv 0) (pg_tup rfl (pgs_cons (pg_name (i := 1) scPBoard_error.nd rfl (Or.inl rfl)) (pgs_cons (pg_name (i := 2) scPBoard_error.nd rfl (Or.inl rfl)) pgs_nil))))
      (pss_cons (ps_if (pt_not (pt_val (pe_callG G_is_between hgd (hr.mono (by decide)) rfl T_is_between.m T_is_between.F.kp T_is_between.b .nil pass0 (pa_cons (pv 1) (pa_cons pe_int (pa_cons (pe_glob rfl cK h4) pa_nil))))))
        (pss_one (ps_ret (pe_tup (pa_cons pe_non (pa_cons pe_str pa_nil)))))
        pss_nil)
      (pss_cons (ps_if (PW.pt (pw_or (pt_not (pt_val (pe_callB (r := rIsi K) call_isi rfl T.z_isinstance boot_isinstance (pa_cons (pv 2) (pa_cons (pe_ty rfl T.z_tuple boot_tupleU) pa_nil))))) (pw_or1 (pt_cmpR op_gt (pe_callB (r := rLenU K) call_lenU rfl T.z_len PySem.boot_len (pa_cons (pv 2) pa_nil)) (pe_glob rfl cC h8) (nomark _)))))
        (pss_one (ps_ret (pe_tup (pa_cons pe_non (pa_cons pe_str pa_nil)))))
        pss_nil)
      (pss_cons (ps_for PassesOwn.never rfl (pi_enumT rfl T.z_enumerate (pa_cons (pv 2) pa_nil)) (pg_tup rfl (pgs_cons (pg_name (i := 3) scPBoard_error.nd rfl (Or.inl rfl)) (pgs_cons (pg_name (i := 4) scPBoard_error.nd rfl (Or.inl rfl)) pgs_nil)))
        (pss_one (ps_if (pt_not (pt_val (pe_callG G_is_counter hgd (hr.mono (by decide)) rfl T_is_counter.m T_is_counter.F.kp T_is_counter.b .nil pass0 (pa_cons (pv 4) (pa_cons (pv 1) pa_nil)))))
          (pss_one (ps_ret (pe_tup (pa_cons (pv 3) (pa_cons pe_str pa_nil)))))
          pss_nil)))
      (pss_one (ps_ret pe_non))))))), ?_⟩
    refine sd_if (B := B) (H := H) (b := !isTupN 2 x) (dt_tupN (k := 2) (dn_var (K := K) rfl h1)) (Xt.refl al) (fun z H1 s1 => ?_) (fun z H1 s1 => ?_)
    · refine sd_ret (K := K) (B := B) (H := H1) (d := bad .none "board") (dn_bad dn_non) (Xt.refl (al.same s1)) fun v H2 s2 r2 => q v H2 (s1.trans s2) ?_
      have e : berr x = bad .none "board" := by
        unfold berr
        split
        · cases z
        · rfl
      rw [e]
      exact r2
    · obtain ⟨k, c, rfl⟩ : ∃ k c, x = .tuple [k, c] := by
        cases x <;> first | cases z | skip
        rename_i ds
        have hl : ds.length = 2 := by
          have := z
          simp only [isTupN, Bool.not_eq_false', decide_eq_true_eq] at this
          exact this
        match ds, hl with
        | [a, b], _ => exact ⟨a, b, rfl⟩
      dsimp only [tNext]
      have x1 : Xt B H H1 := Xt.of al s1
      refine sd_unp (K := K) (B := B) (H := H1) (ds := [k, c]) (dn_var rfl (h1.up x1)) (Xt.refl x1.al) rfl (fun xs H2 s2 r2 => ?_)
      obtain ⟨yk, r, rfl, gk, g2⟩ := rpa_cons.mp r2
      obtain ⟨yc, r, rfl, gc, g2⟩ := rpa_cons.mp g2
      obtain rfl := rpa_nil.mp g2
      refine ⟨_, _, rfl, _, _, rfl, rfl, ?_⟩
      dsimp only [L2.start, List.set]
      have x2 : Xt B H H2 := x1.same s2
      refine sd_if (B := B) (H := H2) (b := !num k 1 4) (dt_not (dt_B (K := K) (dn_call (da_cons (dn_var rfl gk) (da_cons dn_int (da_cons dn_int da_nil))) ⟨k, 1, 4, rfl, rfl⟩))) (Xt.refl x2.al) (fun z H3 s3 => ?_) (fun z H3 s3 => ?_)
      · refine sd_ret (K := K) (B := B) (H := H3) (d := bad .none "kinds") (dn_bad dn_non) (Xt.refl (x2.same s3).al) fun v H4 s4 r4 => q v H4 (s1.trans (s2.trans (s3.trans s4))) ?_
        have e : berr (.tuple [k, c]) = bad .none "kinds" := by
          match k, z with
          | .int i, z =>
            have z' : (decide (1 ≤ i) && decide (i ≤ 4)) = false := by
              have z' : (!(decide (1 ≤ i) && decide (i ≤ 4))) = true := z
              rwa [Bool.not_eq_true'] at z'
            show (if (decide (1 ≤ i) && decide (i ≤ 4)) = true then _ else bad .none "kinds") = bad .none "kinds"
            rw [z']
            rfl
          | .none, _ => rfl
          | .bool _, _ => rfl
          | .str _, _ => rfl
          | .list _, _ => rfl
          | .tuple _, _ => rfl
          | .dict _, _ => rfl
        rw [e]
        exact r4
      · obtain ⟨n, rfl⟩ : ∃ n, k = .int n := by cases k <;> first | exact ⟨_, rfl⟩ | cases z
        have hn : (decide (1 ≤ n) && decide (n ≤ 4)) = true := by
          have z' : (!(decide (1 ≤ n) && decide (n ≤ 4))) = false := z
          simpa using z'
        obtain rfl := rp_int.mp gk
        dsimp only [tNext]
        have x3 : Xt B H2 H3 := Xt.of x2.al s3
        refine sd_if (B := B) (H := H3) (b := !isTupM 8 c) (dt_tupM (k := 8) (dn_var (K := K) rfl (gc.up x3))) (Xt.refl x3.al) (fun z4 H4 s4 => ?_) (fun z4 H4 s4 => ?_)
        · refine sd_ret (K := K) (B := B) (H := H4) (d := bad .none "counters") (dn_bad dn_non) (Xt.refl (x3.same s4).al) fun v H5 s5 r5 => q v H5 (s1.trans (s2.trans (s3.trans (s4.trans s5)))) ?_
          have e : berr (.tuple [.int n, c]) = bad .none "counters" := by
            unfold berr
            dsimp only
            rw [hn, if_pos rfl]
            cases c <;> first | rfl | skip
            rename_i cs
            dsimp only
            rw [if_neg]
            have z' : (!decide (cs.length ≤ 8)) = true := z4
            simpa using z'
          rw [e]
          exact r5
        · obtain ⟨cs, rfl⟩ : ∃ cs, c = .tuple cs := by cases c <;> first | exact ⟨_, rfl⟩ | cases z4
          have hl : cs.length ≤ 8 := by
            have z' : (!decide (cs.length ≤ 8)) = false := z4
            simpa using z'
          have eb : berr (.tuple [.int n, .tuple cs]) = ferr n cs := by
            unfold berr
            dsimp only
            rw [hn, if_pos rfl, if_pos hl]
          rw [eb] at q
          have x4 : Xt B H3 H4 := Xt.of x3.al s4
          dsimp only [tNext]
          refine sd_enumT (K := K) (B := B) (H := H4) (ds := cs) (dn_var rfl ((gc.up x3).up x4)) (Xt.refl x4.al) (fun H5 s5 => ?_)
          have al5 := x4.al.same s5
          have s15 : Same H H5 := s1.trans (s2.trans (s3.trans (s4.trans s5)))
          refine ⟨fun i τ H' => ∃ y3 y4, τ = [some v, some (.int n), some yc, y3, y4] ∧ Same H5 H' ∧ (cs.take i).all (ctr n) = true, ?_, ?_, ?_, ?_⟩
          · exact ⟨none, none, rfl, Same.refl _, rfl⟩
          · rintro i τ H' ⟨_, _, _, s6, _⟩
            exact Xt.of al5 s6
          · rintro i c p τ H' gi rp ⟨H0, ⟨y3, y4, rfl, s6, ha⟩, s7⟩
            have x7 : Xt B H5 H' := Xt.of al5 (s6.trans s7)
            obtain ⟨a, ys, ea, _, sq, ra⟩ := rp_tup.mp rp
            cases ea
            obtain ⟨w1, r, rfl, g1, g2⟩ := rpa_cons.mp ra
            obtain ⟨w2, r, rfl, g3, g4⟩ := rpa_cons.mp g2
            obtain rfl := rpa_nil.mp g4
            refine ⟨p, _, rfl, sq, rfl, ?_⟩
            refine ⟨_, _, rfl, _, _, rfl, rfl, ?_⟩
            dsimp only [L2.start, List.set]
            refine sd_if (B := B) (H := H') (b := !ctr n c) (dt_not (dt_B (K := K) (dn_call (da_cons (dn_var rfl g3) (da_cons (dn_var rfl (rp_int.mpr rfl)) da_nil)) ⟨c, n, rfl, rfl⟩))) (Xt.refl x7.al) (fun z8 H8 s8 => ?_) (fun z8 H8 s8 => ?_)
            · refine sd_ret (K := K) (B := B) (H := H8) (d := bad (.int i) "counter") (dn_bad (dn_var rfl (g1.up (Xt.of x7.al s8)))) (Xt.refl (x7.same s8).al) fun v H9 s9 r9 => q v H9 (s15.trans ((s6.trans s7).trans (s8.trans s9))) ?_
              have e : ferr n cs = bad (.int i) "counter" := by
                unfold ferr
                rw [find_at ha gi (by rwa [Bool.not_eq_true'] at z8)]
              rw [e]
              exact r9
            · dsimp only [tNext]
              exact ⟨_, _, rfl, (s6.trans s7).trans s8, all_more ha gi (by rwa [Bool.not_eq_false'] at z8)⟩
          · rintro τ H' ⟨y3, y4, rfl, s6, ha⟩
            dsimp only [tNext]
            refine sd_ret (K := K) (B := B) (H := H') (d := .none) dn_non (Xt.refl (al5.same s6)) fun v H9 s9 r9 => q v H9 (s15.trans (s6.trans s9)) ?_
            have e : ferr n cs = .none := by
              unfold ferr
              rw [List.take_length] at ha
              rw [find_none ha]
            rw [e]
            exact r9
end
end CG

namespace CG
open PySem PySem.Spec PyProof.Rows L2
def odds : List PyData := [.none, .bool true, .bool false, .int (-1), .int 0, .int 1, .int 5, .int (10 ^ 39), .str "", .str "2", .tuple [], .list [], .dict [], .tuple [.int 0], .list [.int 0], .tuple [.int 1, .tuple []], .tuple [.int 1, .list []], .tuple [.int 2, .int 0]] ++
  [.tuple [.int 0, .int 1, .int 1, .int 1], .tuple [.int 0, .int 0, .int 1, .int 1], .tuple [.int 1, .tuple [], .tuple []], .tuple [.bool true, .tuple []], .dict [(.str "a", .int 0)], .tuple [.tuple []]]
def twin1 (i : Int) : PyData := if i < 2 then .bool (decide (i = 1)) else .int i
def PTwin (ds : List PyData) (d : PyData) : Prop := ∃ is : List Int, ds = [.tuple (is.map PyData.int)] ∧ is.length ≤ 1000 ∧ d = .tuple (is.map twin1)
def POdd (ds : List PyData) (d : PyData) : Prop := d ∈ odds
theorem ints_flat : ∀ (is : List Int), PyData.hasDictAll (is.map PyData.int) = false ∧ PyData.canLayAll0 (is.map PyData.int) = true ∧ PyData.depthAll (is.map PyData.int) = 0
  | [] => ⟨rfl, rfl, rfl⟩
  | i :: is => by
    obtain ⟨h1, h2, h3⟩ := ints_flat is
    simp [PyData.hasDictAll, PyData.canLayAll0, PyData.depthAll, PyData.hasDict, PyData.canLay0, PyData.depth, h1, h2, h3]
theorem ints_sh (is : List Int) : (PyData.list (is.map PyData.int)).hasDict = false ∧ SeqAt.shaped (.list (is.map PyData.int)) = true := by
  obtain ⟨h1, h2, h3⟩ := ints_flat is
  refine ⟨by simpa only [PyData.hasDict] using h1, ?_⟩
  simp [SeqAt.shaped, PyData.canLay0, PyData.depth, h2, h3]
theorem eqv_nil (is : List Int) : PyData.eqv (.list (is.map PyData.int)) (.list []) = is.isEmpty := by
  cases is <;> simp [PyData.eqv, PyData.eqvAll]
section
variable {P : Program} {w : World} {K : PySem.W.Frag} {mg : Str → Option Value} {base : Heap}
theorem ok_isboard {f f1 : Addr} {fd fd1 : FuncData} (h : Has K mg "is_board" sPIs_board ["value"] f fd) (T_board_error : Has K mg "board_error" sPBoard_error ["value"] f1 fd1)
    (G_board_error : FnG P w K mg base CX0 5 f1 fd1 ["value"] (spP K (P1 berr))) : FnG P w K mg base CX0 6 f fd ["value"] (spP K (P1 fun x => .bool (isNone (berr x)))) := by
  refine okG h.F scPIs_board (fun vs H Q E h => ?_) (fun cd A out s H vs Q E hgd hr h => ?_)
  · obtain ⟨B, ds, d, _, ra, ⟨x, rfl, _⟩, _⟩ := h
    exact ra.length.symm
  · obtain ⟨B, ds, d, al, ra, ⟨x, rfl, rfl⟩, q⟩ := h
    obtain ⟨v, r, rfl, h1, h2⟩ := rpa_cons.mp ra
    obtain rfl := rpa_nil.mp h2
    refine ⟨_, (pss_one (ps_ret (pe_cmpR op_isNU (pe_callG G_board_error hgd (hr.mono (by decide)) rfl T_board_error.m T_board_error.F.kp T_board_error.b .nil pass0 (pa_cons (pv 0) pa_nil)) pe_non (nomark _)))), ?_⟩
    refine sd_ret (K := K) (B := B) (H := H) ?_ (Xt.refl al) q
    exact dn_op (dn_call (da_cons (dn_var rfl h1) da_nil) ⟨x, rfl, rfl⟩) dn_non rd_isN
theorem ok_lnumber {f : Addr} {fd : FuncData} (h : Has K mg "_law_is_number" sL_number ["_law_value", "_law_low", "_law_high"] f fd) (T : Bz mg) : FnG P w K mg base CX0 1 f fd ["_law_value", "_law_low", "_law_high"] (spP K PBetween) := by
  refine okG h.F scL_number (fun vs H Q E h => ?_) (fun cd A out s H vs Q E hgd hr h => ?_)
  · obtain ⟨B, ds, d, _, ra, ⟨x, lo, hi, rfl, _⟩, _⟩ := h
    exact ra.length.symm
  · obtain ⟨B, ds, d, al, ra, ⟨x, lo, hi, rfl, rfl⟩, q⟩ := h
    obtain ⟨v, r, rfl, h1, h2⟩ := rpa_cons.mp ra
    obtain rfl : r = [.int lo, .int hi] := RpA.ints_inv (ns := [lo, hi]) h2
    have vi : ∀ {z : Int}, Rp K B H (.int z) (.int z) := rp_int.mpr rfl
    refine ⟨_, (pss_one (ps_ret (pe_and (pe_callB (r := rIsi K) call_isi rfl T.z_isinstance boot_isinstance (pa_cons (pv 0) (pa_cons (pe_ty rfl T.z_int boot_intU) pa_nil))) (pe_and (pe_not (pe_callB (r := rIsi K) call_isi rfl T.z_isinstance boot_isinstance (pa_cons (pv 0) (pa_cons (pe_ty rfl T.z_bool boot_boolU) pa_nil)))) (pe_one (pe_chain op_le op_le (pv 1) (pv 0) (pv 2))))))), ?_⟩
    refine sd_ret (K := K) (B := B) (H := H) ?_ (Xt.refl al) q
    cases hx : isNum x with
    | true =>
      obtain ⟨i, rfl⟩ : ∃ i, x = .int i := by cases x <;> first | exact ⟨_, rfl⟩ | cases hx
      exact Dn.eq (dn_and (b := true) (dn_isi (dn_var rfl h1) (kit_int _)) fun _ => dn_and (b := true) (dn_not (b := false) (dn_isi (dn_var rfl h1) (kit_bool _))) fun _ => dn_chain (dn_var rfl vi) (dn_var rfl h1) rd_B0 (fun _ => dn_var rfl vi) fun _ => rd_B0) rfl
    | false =>
      have e : num x lo hi = false := by cases x <;> first | rfl | cases hx
      rw [e]
      cases hb : isBool x with
      | true =>
        exact dn_and (b := isInt x) (c := false) (dn_isi (dn_var rfl h1) (kit_int _)) (fun _ => dn_and (b := false) (c := true) (dn_not (b := true) (dn_isi (dn_var rfl h1) (by rw [kit_bool, hb]))) fun z => by cases z) |>.eq (by rw [Bool.and_false])
      | false =>
        have ei : isInt x = false := by cases x <;> first | rfl | (cases hx; done) | (cases hb; done)
        exact dn_and (b := false) (c := true) (dn_isi (dn_var rfl h1) (by rw [kit_int, ei])) (fun z => by cases z)
theorem ok_odd {f f1 : Addr} {fd fd1 : FuncData} (h : Has K mg "_law_odd" sOdd ["_law_deck_here"] f fd) (T : Bz mg) (T_draw : Has K mg "_law_draw" sDraw ["_law_deck_here", "_law_limit"] f1 fd1) (G_draw : FnG P w K mg base CX0 1 f1 fd1 ["_law_deck_here", "_law_limit"] (spDraw K)) :
    FnG P w K mg base CX0 2 f fd ["_law_deck_here"] (spE K 1 (fun ds => ds = []) POdd) := by
  refine okG h.F scOdd (fun vs H Q E h => ?_) (fun cd A out s H vs Q E hgd hr h => ?_)
  · obtain ⟨B, D, C, t, ds, ws, rfl, _, _, ra, rfl, _⟩ := h
    obtain rfl := rpa_nil.mp ra
    rfl
  · obtain ⟨B, D, C, t, ds, ws, rfl, dk, hl, ra, rfl, q⟩ := h
    obtain rfl := rpa_nil.mp ra
    refine ⟨_, (pss_cons (ps_set (i := 1) scOdd.nd rfl (Or.inl rfl) (pe_lst (pa_cons pe_non (pa_cons pe_bl (pa_cons pe_bl (pa_cons (pe_un un_neg pe_int) (pa_cons pe_int (pa_cons pe_int (pa_cons pe_int (pa_cons (pe_op op_pow pe_int pe_int) (pa_cons pe_str (pa_cons pe_str (pa_cons (pe_tup pa_nil) (pa_cons (pe_lst pa_nil) (pa_cons pe_dnewK (pa_cons (pe_tup (pa_cons pe_int pa_nil)) (pa_cons (pe_lst (pa_cons pe_int pa_nil)) (pa_cons (pe_tup (pa_cons pe_int (pa_cons (pe_tup pa_nil) pa_nil))) (pa_cons (pe_tup (pa_cons pe_int (pa_cons (pe_lst pa_nil) pa_nil))) (pa_cons (pe_tup (pa_cons pe_int (pa_cons pe_int pa_nil))) pa_nil))))))))))))))))))))
      (pss_one (ps_ret (pe_ix (r := rIx K) ix_seq (pe_op (r := rAddU K) op_addU (pv 1) (pe_lst (pa_cons (pe_tup (pa_cons pe_int (pa_cons pe_int (pa_cons pe_int (pa_cons pe_int pa_nil))))) (pa_cons (pe_tup (pa_cons pe_int (pa_cons pe_int (pa_cons pe_int (pa_cons pe_int pa_nil))))) (pa_cons (pe_tup (pa_cons pe_int (pa_cons (pe_tup pa_nil) (pa_cons (pe_tup pa_nil) pa_nil)))) (pa_cons (pe_tup (pa_cons pe_bl (pa_cons (pe_tup pa_nil) pa_nil))) (pa_cons (pe_disp (pps_cons pe_str pe_int pps_nil) rfl rfl (by decide) (by decide)) (pa_cons (pe_tup (pa_cons (pe_tup pa_nil) pa_nil)) pa_nil)))))))) (pe_callG G_draw hgd (hr.mono (by decide)) rfl T_draw.m T_draw.F.kp T_draw.b .nil pass0 (pa_cons (pv 0) (pa_cons pe_int pa_nil))) (fun _ _ => rfl))))), ?_⟩
    refine sd_set (K := K) (B := B) (H := H) (d := .list (odds.take 18)) (Dn.eq ?_ (rfl : PyData.list [.none, .bool true, .bool false, .int (-1), .int 0, .int 1, .int 5, .int (10 ^ (39 : Int).toNat), .str "", .str "2", .tuple [], .list [], .dict [], .tuple [.int 0], .list [.int 0], .tuple [.int 1, .tuple []], .tuple [.int 1, .list []], .tuple [.int 2, .int 0]] = .list (odds.take 18))) (Xt.refl dk.al) (fun v1 H1 s1 r1 => ?_)
    · (repeat' first | with_reducible exact dn_int | with_reducible exact dn_bl | with_reducible exact dn_non | with_reducible exact dn_str | with_reducible exact da_nil | with_reducible exact rd_add | with_reducible exact rd_eqI | with_reducible exact rd_neI | with_reducible exact rd_eqS | with_reducible exact rd_neS | with_reducible exact rd_I0 | with_reducible exact rd_B0 | with_reducible exact rd_isN | with_reducible exact rc_lenT | with_reducible exact rc_lenL | with_reducible exact rc_tupL | with_reducible exact rc_tupT | with_reducible exact rc_lstT | with_reducible exact rc_lstL | with_reducible exact rc_intB | with_reducible exact rc_min | with_reducible exact rc_max | with_reducible exact ru_neg | with_reducible exact do_none | with_reducible exact dn_dict0 | with_reducible exact dn_dict1 | ((with_reducible apply dn_var); exact rfl; first | exact rp_int.mpr rfl | exact rp_str.mpr rfl | exact rp_bl.mpr rfl | assumption) | ((with_reducible apply rd_ixT); exact rfl) | ((with_reducible apply rd_ixL); exact rfl) | ((with_reducible apply rd_I); first | decide | exact ⟨by decide, by decide, by decide⟩) | with_reducible apply da_cons | with_reducible apply dn_tup | with_reducible apply dn_lst | with_reducible apply rd_catT | with_reducible apply rd_catL | with_reducible apply rd_repT | with_reducible apply rd_repL | with_reducible apply rd_mulI | with_reducible apply dn_slT | with_reducible apply dn_slL | with_reducible apply dn_op | with_reducible apply dn_un | with_reducible apply dn_cb | with_reducible apply dn_revT | with_reducible apply do_some (K := K) | ((with_reducible refine (show (_ : Nat) ≤ _ from ?_)); simp only [cutD, List.length_append, List.length_map, List.length_cons, List.length_nil, List.length_take, List.length_drop, List.length_reverse, List.length_replicate]; omega))
    have k1 := dk.same s1
    dsimp only [L2.start, List.set]
    refine se_ret (K := K) (B := B) (D := D) (C := C) (H := H1) (t := t) (m := 1) (Φ := fun d => d ∈ odds) ?_ (Xt.refl k1.al) k1 hl (fun v d H2 t2 x2 k2 l2 pd rd => ?_)
    · refine Ef.weak (ef_op (n := 0) (m := 1) (Dn.ef (d := .list odds) ?_) (ef_drawN rfl (by decide) (by decide)) ?_ (by decide)) (fun d p => p) (by decide)
      · refine Dn.eq (d := .list (odds.take 18 ++ [.tuple [.int 0, .int 1, .int 1, .int 1], .tuple [.int 0, .int 0, .int 1, .int 1], .tuple [.int 1, .tuple [], .tuple []], .tuple [.bool true, .tuple []], .dict [(.str "a", .int 0)], .tuple [.tuple []]])) (dn_op (dn_var rfl r1) ?_ (rd_catL (by decide))) rfl
        (repeat' first | with_reducible exact dn_int | with_reducible exact dn_bl | with_reducible exact dn_non | with_reducible exact dn_str | with_reducible exact da_nil | with_reducible exact rd_add | with_reducible exact rd_eqI | with_reducible exact rd_neI | with_reducible exact rd_eqS | with_reducible exact rd_neS | with_reducible exact rd_I0 | with_reducible exact rd_B0 | with_reducible exact rd_isN | with_reducible exact rc_lenT | with_reducible exact rc_lenL | with_reducible exact rc_tupL | with_reducible exact rc_tupT | with_reducible exact rc_lstT | with_reducible exact rc_lstL | with_reducible exact rc_intB | with_reducible exact rc_min | with_reducible exact rc_max | with_reducible exact ru_neg | with_reducible exact do_none | with_reducible exact dn_dict0 | with_reducible exact dn_dict1 | ((with_reducible apply dn_var); exact rfl; first | exact rp_int.mpr rfl | exact rp_str.mpr rfl | exact rp_bl.mpr rfl | assumption) | ((with_reducible apply rd_ixT); exact rfl) | ((with_reducible apply rd_ixL); exact rfl) | ((with_reducible apply rd_I); first | decide | exact ⟨by decide, by decide, by decide⟩) | with_reducible apply da_cons | with_reducible apply dn_tup | with_reducible apply dn_lst | with_reducible apply rd_catT | with_reducible apply rd_catL | with_reducible apply rd_repT | with_reducible apply rd_repL | with_reducible apply rd_mulI | with_reducible apply dn_slT | with_reducible apply dn_slL | with_reducible apply dn_op | with_reducible apply dn_un | with_reducible apply dn_cb | with_reducible apply dn_revT | with_reducible apply do_some (K := K) | ((with_reducible refine (show (_ : Nat) ≤ _ from ?_)); simp only [cutD, List.length_append, List.length_map, List.length_cons, List.length_nil, List.length_take, List.length_drop, List.length_reverse, List.length_replicate]; omega))
      · rintro a b rfl ⟨r, rfl, r0, r1⟩
        obtain ⟨d, m, e⟩ := at_some (ds := odds) r0 (by show r < (24 : Nat); omega)
        exact ⟨d, m, rd_ixL e⟩
    · exact q v d H2 t2 ((dk.xt s1).trans x2) k2 l2 pd rd
theorem ok_twin {f : Addr} {fd : FuncData} (h : Has K mg "_law_twin" sTwin ["_law_row"] f fd) (T : Bz mg) : FnG P w K mg base CX0 1 f fd ["_law_row"] (spP K PTwin) := by
  refine okG h.F scTwin (fun vs H Q E h => ?_) (fun cd A out s H vs Q E hgd hr h => ?_)
  · obtain ⟨B, ds, d, _, ra, ⟨x, rfl, _⟩, _⟩ := h
    exact ra.length.symm
  · obtain ⟨B, ds, d, al, ra, ⟨is, rfl, hl, rfl⟩, q⟩ := h
    obtain ⟨v, r, rfl, h1, h2⟩ := rpa_cons.mp ra
    obtain rfl := rpa_nil.mp h2
    refine ⟨_, (pss_one (ps_ret (pe_callTy (r := rTupU K) call_tupU rfl T.z_tuple boot_tupleU (pa_cons (pe_lc (own := [("_law_one", 1)]) rfl scTwin.nd (pi_tup (pv 0)) (blkOk_by (N := NscTwin) (sc := defScope sTwin) (by decide +kernel)) (fun _ _ _ _ _ => (pg_name (i := 1) scTwin.nd rfl (Or.inl rfl))) (fun _ _ _ _ _ => pts_nil) (fun _ _ _ _ _ => (pe_ix (r := rIx K) ix_seq (pe_lst (pa_cons (pv 1) (pa_cons (pe_cmpR op_eq (pv 1) pe_int (nomark _)) pa_nil))) (pe_callTy call_intU rfl T.z_int boot_intU (pa_cons (pe_cmpR op_lt (pv 1) pe_int (nomark _)) pa_nil)) (fun _ _ => rfl)))) pa_nil)))), ?_⟩
    refine sd_ret (K := K) (B := B) (H := H) ?_ (Xt.refl al) q
    refine dn_cb (da_cons (dn_lcT (es := is.map twin1) (dn_var rfl h1) (by rw [List.length_map]; exact hl) (by rw [List.length_map, List.length_map]) ?_) da_nil) rc_tupL
    intro B' gw i d e v' H1 gd ge x1 r1 Q' q'
    rw [List.getElem?_map] at gd ge
    cases gi : is[i]? with
    | none => rw [gi] at gd; cases gd
    | some z =>
      rw [gi] at gd ge
      cases gd
      cases ge
      obtain rfl := rp_int.mp r1
      refine q' _ rfl ?_
      by_cases hz : z < 2
      · refine dn_op (r := rIx K) (dn_lst (da_cons (dn_var rfl r1) (da_cons (dn_op (dn_var rfl r1) dn_int rd_eqI) da_nil)) (by show (2 : Nat) ≤ 100000; decide)) (dn_cb (da_cons (dn_op (dn_var rfl r1) dn_int rd_B0) da_nil) rc_intB) (rd_ixL ?_)
        unfold twin1
        rw [if_pos hz, decide_eq_true hz]
        rfl
      · refine dn_op (r := rIx K) (dn_lst (da_cons (dn_var rfl r1) (da_cons (dn_op (dn_var rfl r1) dn_int rd_eqI) da_nil)) (by show (2 : Nat) ≤ 100000; decide)) (dn_cb (da_cons (dn_op (dn_var rfl r1) dn_int rd_B0) da_nil) rc_intB) (rd_ixL ?_)
        unfold twin1
        rw [if_neg hz, decide_eq_false hz]
        rfl
end
end CG

namespace CG
open PySem PySem.Spec PyProof.Rows L2
theorem wrong_empty (p : Nat → Bool) : (((List.range 4).filter p).map fun (i : Nat) => (0 + (i : Int))).isEmpty = (!p 0 && !p 1 && !p 2 && !p 3) := by
  show (((([0, 1, 2, 3] : List Nat).filter p).map fun (i : Nat) => (0 + (i : Int))).isEmpty) = _
  cases h0 : p 0 <;> cases h1 : p 1 <;> cases h2 : p 2 <;> cases h3 : p 3 <;> simp [List.filter, h0, h1, h2, h3]
def wrongAt (n : Int) (a b c e : PyData) : Nat → Bool
  | 0 => !num a 0 (n - 1)
  | 1 => !num b 0 (n - 1)
  | 2 => !num c 1 5
  | _ => !num e 1 5
section
variable {P : Program} {w : World} {K : PySem.W.Frag} {mg : Str → Option Value} {base : Heap}
theorem ok_error {f f1 : Addr} {fd fd1 : FuncData} (h : Has K mg "_law_error" sError ["_law_value"] f fd) (T_l_number : Has K mg "_law_is_number" sL_number ["_law_value", "_law_low", "_law_high"] f1 fd1) (T : Bz mg)
    (G_l_number : FnG P w K mg base CX0 1 f1 fd1 ["_law_value", "_law_low", "_law_high"] (spP K PBetween)) :
    FnG P w K mg base CX0 2 f fd ["_law_value"] (spP K (P1 berr)) := by
  refine okG h.F scError (fun vs H Q E h => ?_) (fun cd A out s H vs Q E hgd hr h => ?_)
  · obtain ⟨B, ds, d, _, ra, ⟨x, rfl, _⟩, _⟩ := h
    exact ra.length.symm
  · obtain ⟨B, ds, d, al, ra, ⟨x, rfl, rfl⟩, q⟩ := h
    obtain ⟨v, r, rfl, h1, h2⟩ := rpa_cons.mp ra
    obtain rfl := rpa_nil.mp h2
    have vi : ∀ {B' : Addr → Prop} {H' : Hp} {z : Int}, Rp K B' H' (.int z) (.int z) := rp_int.mpr rfl
    refine ⟨_, (pss_cons (ps_if (PW.pt (pw_or (pt_not (pt_val (pe_callB (r := rIsi K) call_isi rfl T.z_isinstance boot_isinstance (pa_cons (pv 0) (pa_cons (pe_ty rfl T.z_tuple boot_tupleU) pa_nil))))) (pw_or1 (pt_cmpR op_ne (pe_callB (r := rLenU K) call_lenU rfl T.z_len PySem.boot_len (pa_cons (pv 0) pa_nil)) pe_int (nomark _)))))
        (pss_one (ps_ret (pe_tup (pa_cons pe_non (pa_cons pe_str pa_nil)))))
        pss_nil)
      (pss_cons (ps_if (pt_not (pt_val (pe_callG G_l_number hgd (hr.mono (by decide)) rfl T_l_number.m T_l_number.F.kp T_l_number.b .nil pass0 (pa_cons (pe_ix (r := rIx K) ix_seq (pv 0) pe_int (fun _ _ => rfl)) (pa_cons pe_int (pa_cons pe_int pa_nil))))))
        (pss_one (ps_ret (pe_tup (pa_cons pe_non (pa_cons pe_str pa_nil)))))
        pss_nil)
      (pss_cons (ps_if (PW.pt (pw_or (pt_not (pt_val (pe_callB (r := rIsi K) call_isi rfl T.z_isinstance boot_isinstance (pa_cons (pe_ix (r := rIx K) ix_seq (pv 0) pe_int (fun _ _ => rfl)) (pa_cons (pe_ty rfl T.z_tuple boot_tupleU) pa_nil))))) (pw_or1 (pt_cmpR op_gt (pe_callB (r := rLenU K) call_lenU rfl T.z_len PySem.boot_len (pa_cons (pe_ix (r := rIx K) ix_seq (pv 0) pe_int (fun _ _ => rfl)) pa_nil)) pe_int (nomark _)))))
        (pss_one (ps_ret (pe_tup (pa_cons pe_non (pa_cons pe_str pa_nil)))))
        pss_nil)
      (pss_cons (ps_for PassesOwn.never rfl (pi_enumT rfl T.z_enumerate (pa_cons (pe_ix (r := rIx K) ix_seq (pv 0) pe_int (fun _ _ => rfl)) pa_nil)) (pg_tup rfl (pgs_cons (pg_name (i := 1) scError.nd rfl (Or.inl rfl)) (pgs_cons (pg_name (i := 2) scError.nd rfl (Or.inr rfl)) pgs_nil)))
        (pss_cons (ps_if (PW.pt (pw_or (pt_not (pt_val (pe_callB (r := rIsi K) call_isi rfl T.z_isinstance boot_isinstance (pa_cons (pv 2) (pa_cons (pe_ty rfl T.z_tuple boot_tupleU) pa_nil))))) (pw_or1 (pt_cmpR op_ne (pe_callB (r := rLenU K) call_lenU rfl T.z_len PySem.boot_len (pa_cons (pv 2) pa_nil)) pe_int (nomark _)))))
          (pss_one (ps_ret (pe_tup (pa_cons (pv 1) (pa_cons pe_str pa_nil)))))
          pss_nil)
        (pss_cons (ps_asg (pe_tup (pa_cons (pe_lst (pa_cons pe_int (pa_cons pe_int (pa_cons pe_int (pa_cons pe_int pa_nil))))) (pa_cons (pe_lst (pa_cons (pe_op op_sub (pe_ix (r := rIx K) ix_seq (pv 0) pe_int (fun _ _ => rfl)) pe_int) (pa_cons (pe_op op_sub (pe_ix (r := rIx K) ix_seq (pv 0) pe_int (fun _ _ => rfl)) pe_int) (pa_cons pe_int (pa_cons pe_int pa_nil))))) pa_nil))) (pg_tup rfl (pgs_cons (pg_name (i := 3) scError.nd rfl (Or.inr rfl)) (pgs_cons (pg_name (i := 4) scError.nd rfl (Or.inr rfl)) pgs_nil))))
        (pss_cons (ps_setLc (i := 5)  (own := [("_law_j", 6)]) rfl scError.nd rfl rfl (sw_true rfl rfl rfl (by decide +kernel)) (pi_range1 rfl T.z_range (pa_cons pe_int pa_nil)) (blkOk_by (N := NscError) (sc := defScope sError) (by decide +kernel)) (fun _ _ _ _ _ => (pg_name (i := 6) scError.nd rfl (Or.inl rfl))) (fun _ _ _ _ _ => (pts_one (pt_not (pt_val (pe_callG G_l_number hgd (hr.mono (by decide)) rfl T_l_number.m T_l_number.F.kp T_l_number.b .nil pass0 (pa_cons (pe_ix (r := rIx K) ix_seq (pv 2) (pv 6) (fun _ _ => rfl)) (pa_cons (pe_ix (r := rIx K) ix_seq (pv 3) (pv 6) (fun _ _ => rfl)) (pa_cons (pe_ix (r := rIx K) ix_seq (pv 4) (pv 6) (fun _ _ => rfl)) pa_nil)))))))) (fun _ _ _ _ _ => (pv 6)))
        (pss_one (ps_if (PW.pt (pw_or (pt_cmpR (op_neU hr.units) (pv 5) (pe_lst pa_nil) (nomark _)) (pw_or1 (pt_cmpR op_eq (pe_ix (r := rIx K) ix_seq (pv 2) pe_int (fun _ _ => rfl)) (pe_ix (r := rIx K) ix_seq (pv 2) pe_int (fun _ _ => rfl)) (nomark _)))))
          (pss_one (ps_ret (pe_tup (pa_cons (pv 1) (pa_cons pe_str pa_nil)))))
          pss_nil))))))
      (pss_one (ps_ret pe_non)))))), ?_⟩
    refine sd_if (B := B) (H := H) (b := !isTupN 2 x) (dt_tupN (k := 2) (dn_var (K := K) rfl h1)) (Xt.refl al) (fun z H1 s1 => ?_) (fun z H1 s1 => ?_)
    · refine sd_ret (K := K) (B := B) (H := H1) (d := bad .none "board") (dn_bad dn_non) (Xt.refl (al.same s1)) fun v H2 s2 r2 => q v H2 (s1.trans s2) ?_
      have e : berr x = bad .none "board" := by
        unfold berr
        split
        · cases z
        · rfl
      rw [e]
      exact r2
    · obtain ⟨k, c, rfl⟩ : ∃ k c, x = .tuple [k, c] := by
        cases x <;> first | cases z | skip
        rename_i ds
        have hl : ds.length = 2 := by
          have := z
          simp only [isTupN, Bool.not_eq_false', decide_eq_true_eq] at this
          exact this
        match ds, hl with
        | [a, b], _ => exact ⟨a, b, rfl⟩
      dsimp only [tNext]
      have x1 : Xt B H H1 := Xt.of al s1
      have h1' := h1.up x1
      have ix0 : ∀ {σ : L2.St} {H' : Hp}, σ[0]? = some (some v) → Xt B H1 H' → Dn K B (tOp (rIx K) (tVar 0) (tC (.int 0))) σ H' k := fun h x => dn_op (dn_var h (h1'.up x)) dn_int (rd_ixT rfl)
      have ix1 : ∀ {σ : L2.St} {H' : Hp}, σ[0]? = some (some v) → Xt B H1 H' → Dn K B (tOp (rIx K) (tVar 0) (tC (.int 1))) σ H' c := fun h x => dn_op (dn_var h (h1'.up x)) dn_int (rd_ixT rfl)
      have y1 : Xt B H1 H1 := Xt.refl x1.al
      refine sd_if (B := B) (H := H1) (b := !num k 1 4) (dt_not (dt_B (K := K) (dn_call (da_cons (ix0 rfl y1) (da_cons dn_int (da_cons dn_int da_nil))) ⟨k, 1, 4, rfl, rfl⟩))) y1 (fun z H3 s3 => ?_) (fun z H3 s3 => ?_)
      · refine sd_ret (K := K) (B := B) (H := H3) (d := bad .none "kinds") (dn_bad dn_non) (Xt.refl (x1.same s3).al) fun v H4 s4 r4 => q v H4 (s1.trans (s3.trans s4)) ?_
        have e : berr (.tuple [k, c]) = bad .none "kinds" := by
          match k, z with
          | .int i, z =>
            have z' : (decide (1 ≤ i) && decide (i ≤ 4)) = false := by
              have z' : (!(decide (1 ≤ i) && decide (i ≤ 4))) = true := z
              rwa [Bool.not_eq_true'] at z'
            show (if (decide (1 ≤ i) && decide (i ≤ 4)) = true then _ else bad .none "kinds") = bad .none "kinds"
            rw [z']
            rfl
          | .none, _ => rfl
          | .bool _, _ => rfl
          | .str _, _ => rfl
          | .list _, _ => rfl
          | .tuple _, _ => rfl
          | .dict _, _ => rfl
        rw [e]
        exact r4
      · obtain ⟨n, rfl⟩ : ∃ n, k = .int n := by cases k <;> first | exact ⟨_, rfl⟩ | cases z
        have hn : (decide (1 ≤ n) && decide (n ≤ 4)) = true := by
          have z' : (!(decide (1 ≤ n) && decide (n ≤ 4))) = false := z
          simpa using z'
        dsimp only [tNext]
        have x3 : Xt B H1 H3 := Xt.of x1.al s3
        refine sd_if (B := B) (H := H3) (b := !isTupM 8 c) (dt_tupM (k := 8) (ix1 rfl x3)) (Xt.refl x3.al) (fun z4 H4 s4 => ?_) (fun z4 H4 s4 => ?_)
        · refine sd_ret (K := K) (B := B) (H := H4) (d := bad .none "counters") (dn_bad dn_non) (Xt.refl (x3.same s4).al) fun v H5 s5 r5 => q v H5 (s1.trans (s3.trans (s4.trans s5))) ?_
          have e : berr (.tuple [.int n, c]) = bad .none "counters" := by
            unfold berr
            dsimp only
            rw [hn, if_pos rfl]
            cases c <;> first | rfl | skip
            rename_i cs
            dsimp only
            rw [if_neg]
            have z' : (!decide (cs.length ≤ 8)) = true := z4
            simpa using z'
          rw [e]
          exact r5
        · obtain ⟨cs, rfl⟩ : ∃ cs, c = .tuple cs := by cases c <;> first | exact ⟨_, rfl⟩ | cases z4
          have hl : cs.length ≤ 8 := by
            have z' : (!decide (cs.length ≤ 8)) = false := z4
            simpa using z'
          have eb : berr (.tuple [.int n, .tuple cs]) = ferr n cs := by
            unfold berr
            dsimp only
            rw [hn, if_pos rfl, if_pos hl]
          rw [eb] at q
          have x4 : Xt B H1 H4 := x3.same s4
          dsimp only [tNext]
          refine sd_enumT (K := K) (B := B) (H := H4) (ds := cs) (ix1 rfl x4) (Xt.refl x4.al) (fun H5 s5 => ?_)
          have x5 : Xt B H1 H5 := x4.same s5
          have s15 : Same H H5 := s1.trans (s3.trans (s4.trans s5))
          refine ⟨fun i τ H' => ∃ y1 y2 y3 y4 y5 y6, τ = [some v, y1, y2, y3, y4, y5, y6] ∧ Same H5 H' ∧ (cs.take i).all (ctr n) = true, ?_, ?_, ?_, ?_⟩
          · exact ⟨none, none, none, none, none, none, rfl, Same.refl _, rfl⟩
          · rintro i τ H' ⟨_, _, _, _, _, _, _, s6, _⟩
            exact Xt.of x5.al s6
          · rintro i c p τ H' gi rp ⟨H0, ⟨y1, y2, y3, y4, y5, y6, rfl, s6, ha⟩, s7⟩
            have x7 : Xt B H1 H' := x5.same (s6.trans s7)
            have s17 : Same H H' := s15.trans (s6.trans s7)
            obtain ⟨a, ys, ea, _, sq, ra⟩ := rp_tup.mp rp
            cases ea
            obtain ⟨w1, r, rfl, g1, g2⟩ := rpa_cons.mp ra
            obtain ⟨w2, r, rfl, g3, g4⟩ := rpa_cons.mp g2
            obtain rfl := rpa_nil.mp g4
            obtain rfl := rp_int.mp g1
            refine ⟨p, _, rfl, sq, rfl, ?_⟩
            refine ⟨_, _, rfl, _, _, rfl, rfl, ?_⟩
            dsimp only [L2.start, List.set]
            have fin : ctr n c = false → ferr n cs = bad (.int i) "counter" := fun hc => by
              unfold ferr
              rw [find_at ha gi hc]
            refine sd_if (B := B) (H := H') (b := !isTupN 4 c) (dt_tupN (k := 4) (dn_var (K := K) rfl g3)) (Xt.refl x7.al) (fun z8 H8 s8 => ?_) (fun z8 H8 s8 => ?_)
            · refine sd_ret (K := K) (B := B) (H := H8) (d := bad (.int i) "counter") (dn_bad (dn_var rfl vi)) (Xt.refl (x7.same s8).al) fun v H9 s9 r9 => q v H9 (s17.trans (s8.trans s9)) ?_
              rw [fin]
              · exact r9
              · cases hc : ctr n c with
                | false => rfl
                | true =>
                  unfold ctr at hc
                  split at hc
                  · cases z8
                  · cases hc
            · obtain ⟨a, b, c, e, rfl⟩ : ∃ a b c' e, c = .tuple [a, b, c', e] := by
                cases c <;> first | cases z8 | skip
                rename_i ds
                have hl : ds.length = 4 := by
                  have := z8
                  simp only [isTupN, Bool.not_eq_false', decide_eq_true_eq] at this
                  exact this
                match ds, hl with
                | [a, b, c, e], _ => exact ⟨a, b, c, e, rfl⟩
              have x8 : Xt B H1 H8 := x7.same s8
              have s18 : Same H H8 := s17.trans s8
              replace g3 := g3.up (Xt.of x7.al s8)
              dsimp only [tNext]
              refine sd_unp (K := K) (B := B) (H := H8) (ds := [.list [.int 0, .int 0, .int 1, .int 1], .list [.int (n - 1), .int (n - 1), .int 5, .int 5]]) (dn_tup ?_ (by show (2 : Nat) ≤ 100000; decide)) (Xt.refl x8.al) rfl (fun xs H9 s9 rlh => ?_)
              · exact da_cons (dn_lst (da_cons dn_int (da_cons dn_int (da_cons dn_int (da_cons dn_int da_nil)))) (by decide)) (da_cons (dn_lst (da_cons (dn_op (ix0 rfl x8) dn_int rd_I0) (da_cons (dn_op (ix0 rfl x8) dn_int rd_I0) (da_cons dn_int (da_cons dn_int da_nil)))) (by show (4 : Nat) ≤ 100000; decide)) da_nil)
              obtain ⟨vl, r, rfl, rl, g2⟩ := rpa_cons.mp rlh
              obtain ⟨vh, r, rfl, rh, g2⟩ := rpa_cons.mp g2
              obtain rfl := rpa_nil.mp g2
              refine ⟨_, _, rfl, _, _, rfl, rfl, ?_⟩
              dsimp only [L2.start, List.set]
              have x9 : Xt B H1 H9 := x8.same s9
              have s19 : Same H H9 := s18.trans s9
              replace g3 := g3.up (Xt.of x8.al s9)
              refine sd_set (K := K) (B := B) (H := H9) (d := .list (((List.range 4).filter (wrongAt n a b c e)).map fun (i : Nat) => PyData.int (0 + (i : Int)))) ?_ (Xt.refl x9.al) (fun vw H10 s10 rw => ?_)
              · refine dn_lcRF (n := 4) (p := wrongAt n a b c e) (f := fun (i : Nat) => PyData.int (0 + (i : Int))) (da_cons dn_int da_nil) (by decide) (fun B' gw i hi => ?_) (fun B' gw i hi => dn_var rfl vi)
                have g3' := Rp.grow gw _ _ g3
                have rl' := Rp.grow gw _ _ rl
                have rh' := Rp.grow gw _ _ rh
                have ci : i = 0 ∨ i = 1 ∨ i = 2 ∨ i = 3 := by omega
                rcases ci with rfl | rfl | rfl | rfl
                · exact dt_not (dt_B (K := K) (dn_call (da_cons (dn_op (dn_var rfl g3') (dn_var rfl vi) (rd_ixT rfl)) (da_cons (dn_op (dn_var rfl rl') (dn_var rfl vi) (rd_ixL rfl)) (da_cons (dn_op (dn_var rfl rh') (dn_var rfl vi) (rd_ixL rfl)) da_nil))) ⟨_, _, _, rfl, rfl⟩))
                · exact dt_not (dt_B (K := K) (dn_call (da_cons (dn_op (dn_var rfl g3') (dn_var rfl vi) (rd_ixT rfl)) (da_cons (dn_op (dn_var rfl rl') (dn_var rfl vi) (rd_ixL rfl)) (da_cons (dn_op (dn_var rfl rh') (dn_var rfl vi) (rd_ixL rfl)) da_nil))) ⟨_, _, _, rfl, rfl⟩))
                · exact dt_not (dt_B (K := K) (dn_call (da_cons (dn_op (dn_var rfl g3') (dn_var rfl vi) (rd_ixT rfl)) (da_cons (dn_op (dn_var rfl rl') (dn_var rfl vi) (rd_ixL rfl)) (da_cons (dn_op (dn_var rfl rh') (dn_var rfl vi) (rd_ixL rfl)) da_nil))) ⟨_, _, _, rfl, rfl⟩))
                · exact dt_not (dt_B (K := K) (dn_call (da_cons (dn_op (dn_var rfl g3') (dn_var rfl vi) (rd_ixT rfl)) (da_cons (dn_op (dn_var rfl rl') (dn_var rfl vi) (rd_ixL rfl)) (da_cons (dn_op (dn_var rfl rh') (dn_var rfl vi) (rd_ixL rfl)) da_nil))) ⟨_, _, _, rfl, rfl⟩))
              dsimp only [List.set]
              have x10 : Xt B H1 H10 := x9.same s10
              have s110 : Same H H10 := s19.trans s10
              replace g3 := g3.up (Xt.of x9.al s10)
              have ew : (((List.range 4).filter (wrongAt n a b c e)).map fun (i : Nat) => PyData.int (0 + (i : Int))) = (((List.range 4).filter (wrongAt n a b c e)).map fun (i : Nat) => (0 + (i : Int))).map PyData.int := by rw [List.map_map]; rfl
              rw [ew] at rw
              have em := wrong_empty (wrongAt n a b c e)
              generalize ((((List.range 4).filter (wrongAt n a b c e)).map fun (i : Nat) => (0 + (i : Int)))) = ws at rw em
              have em' : ws.isEmpty = (num a 0 (n - 1) && num b 0 (n - 1) && num c 1 5 && num e 1 5) := by
                rw [em]
                show (!!num a 0 (n - 1) && !!num b 0 (n - 1) && !!num c 1 5 && !!num e 1 5) = _
                simp only [Bool.not_not]
              refine sd_if (B := B) (H := H10) (b := !ctr n (.tuple [a, b, c, e])) ?_ (Xt.refl x10.al) (fun z11 H11 s11 => ?_) (fun z11 H11 s11 => ?_)
              · have sh := ints_sh ws
                refine DnT.eq (dt_or (b := !ws.isEmpty) (c := !differ a b) (dt_test (K := K) (dn_op (r := rNeU K) (dn_var rfl rw) (dn_lst da_nil (by decide)) ?_)) (fun hb => ?_)) ?_
                · rw [← eqv_nil ws]
                  exact rd_neD sh.1 (by decide +kernel) sh.2 (by decide +kernel)
                · rw [Bool.not_eq_false'] at hb
                  rw [hb] at em'
                  have hab : num a 0 (n - 1) = true ∧ num b 0 (n - 1) = true := by
                    cases h1 : num a 0 (n - 1) <;> cases h2 : num b 0 (n - 1) <;> rw [h1, h2] at em' <;> first | exact ⟨rfl, rfl⟩ | cases em'
                  obtain ⟨i, rfl⟩ : ∃ i, a = .int i := by
                    have := hab.1
                    cases a <;> first | exact ⟨_, rfl⟩ | cases this
                  obtain ⟨j, rfl⟩ : ∃ j, b = .int j := by
                    have := hab.2
                    cases b <;> first | exact ⟨_, rfl⟩ | cases this
                  refine DnT.eq (dt_test (K := K) (dn_op (dn_op (dn_var rfl g3) dn_int (rd_ixT rfl)) (dn_op (dn_var rfl g3) dn_int (rd_ixT rfl)) rd_eqI)) ?_
                  show _ = !!decide (i = j)
                  rw [Bool.not_not]
                · rw [em']
                  show _ = !(num a 0 (n - 1) && num b 0 (n - 1) && differ a b && num c 1 5 && num e 1 5)
                  cases num a 0 (n - 1) <;> cases num b 0 (n - 1) <;> cases differ a b <;> cases num c 1 5 <;> cases num e 1 5 <;> rfl
              · refine sd_ret (K := K) (B := B) (H := H11) (d := bad (.int i) "counter") (dn_bad (dn_var rfl vi)) (Xt.refl (x10.same s11).al) fun v H12 s12 r12 => q v H12 (s110.trans (s11.trans s12)) ?_
                rw [fin (by rwa [Bool.not_eq_true'] at z11)]
                exact r12
              · dsimp only [tNext]
                exact ⟨_, _, _, _, _, _, rfl, (s6.trans s7).trans (s8.trans (s9.trans (s10.trans s11))), all_more ha gi (by rwa [Bool.not_eq_false'] at z11)⟩
          · rintro τ H' ⟨y1, y2, y3, y4, y5, y6, rfl, s6, ha⟩
            dsimp only [tNext]
            refine sd_ret (K := K) (B := B) (H := H') (d := .none) dn_non (Xt.refl (x5.same s6).al) fun v H9 s9 r9 => q v H9 (s15.trans (s6.trans s9)) ?_
            have e : ferr n cs = .none := by
              unfold ferr
              rw [List.take_length] at ha
              rw [find_none ha]
            rw [e]
            exact r9
end
end CG

namespace CG
open PySem PySem.Spec PyProof.Rows L2
section
variable {K : PySem.W.Frag} {B : Addr → Prop} {D C : Addr} {H H1 H2 : Hp} {t c m : Int} {σ : L2.St} {tx : TA} {Dd : Ends}
theorem se_par3 {i j l : Nat} {Φs : List PyData → Prop} (h : EfA K B D C m tx σ H Φs) (hp : ∀ ds, Φs ds → ds.length = 3) (x : Xt B H H1) (k : Dk B H1 D C t) (hl : t + m ≤ Lim)
    (q : ∀ u v w a b c H2 t', Xt (Bk D C) H1 H2 → Dk B H2 D C t' → t' ≤ t + m → Φs [a, b, c] → Rp K B H2 a u → Rp K B H2 b v → Rp K B H2 c w → Dd.nx (((σ.set i (some u)).set j (some v)).set l (some w)) H2) :
    tPar3 i j l tx Dd σ H1 := h H1 t x k hl _ fun vs ds H2 t' x2 k2 l2 p r => by
  have e := hp ds p
  match ds, e with
  | [a, b, c], _ =>
    obtain ⟨u, r1, rfl, h1, h2⟩ := rpa_cons.mp r
    obtain ⟨v, r2, rfl, h3, h4⟩ := rpa_cons.mp h2
    obtain ⟨w, r3, rfl, h5, h6⟩ := rpa_cons.mp h4
    obtain rfl := rpa_nil.mp h6
    exact ⟨u, v, w, rfl, q u v w a b c H2 t' x2 k2 l2 p h1 h3 h5⟩
end
theorem odds_sx {d : PyData} (h : d ∈ odds) : Sx 2 900 d := by
  have hh : d ∈ [PyData.none, .bool true, .bool false, .int (-1), .int 0, .int 1, .int 5, .int (10 ^ 39), .str "", .str "2", .tuple [], .list [], .dict [], .tuple [.int 0], .list [.int 0], .tuple [.int 1, .tuple []], .tuple [.int 1, .list []], .tuple [.int 2, .int 0],
    .tuple [.int 0, .int 1, .int 1, .int 1], .tuple [.int 0, .int 0, .int 1, .int 1], .tuple [.int 1, .tuple [], .tuple []], .tuple [.bool true, .tuple []], .dict [(.str "a", .int 0)], .tuple [.tuple []]] := h
  simp only [List.mem_cons, List.not_mem_nil, or_false] at hh
  rcases hh with rfl | rfl | rfl | rfl | rfl | rfl | rfl | rfl | rfl | rfl | rfl | rfl | rfl | rfl | rfl | rfl | rfl | rfl | rfl | rfl | rfl | rfl | rfl | rfl <;>
    first | exact .inl ⟨by decide +kernel, by decide +kernel, by decide +kernel, by decide +kernel⟩ | exact .inr ⟨by decide +kernel, by decide +kernel, by decide +kernel, by decide +kernel⟩
def PreChanged (ds : List PyData) : Prop := ∃ (n : Int) (cs : List Ctr), ds = [boardD n cs] ∧ 1 ≤ n ∧ n ≤ 4 ∧ cs.length ≤ 8 ∧ ∀ c ∈ cs, c.Ok n
def PChanged (ds : List PyData) (d : PyData) : Prop := Sx 10 900000 d
structure Ctr.Lo (c : Ctr) : Prop where
  s : c.s.natAbs < 100
  t : c.t.natAbs < 100
  g : c.g.natAbs < 100
  e : c.e.natAbs < 100
theorem Ctr.Ok.lo {c : Ctr} {n : Int} (h : c.Ok n) (hn : n ≤ 4) : c.Lo := by
  obtain ⟨h1, h2, h3, h4, _, h5, h6, h7, h8⟩ := h
  exact ⟨by omega, by omega, by omega, by omega⟩
theorem tm_small {i : Int} (h : i.natAbs < 100) : Tm 0 202 (.int i) := tm_int (Nat.lt_trans h (by decide))
theorem Ctr.Lo.items {c : Ctr} (h : c.Lo) : ∀ d ∈ [PyData.int c.s, .int c.t, .int c.g, .int c.e], Tm 0 202 d := by
  intro d hd
  simp only [List.mem_cons, List.not_mem_nil, or_false] at hd
  rcases hd with rfl | rfl | rfl | rfl
  · exact tm_small h.s
  · exact tm_small h.t
  · exact tm_small h.g
  · exact tm_small h.e
theorem mem_cutD {ds : List PyData} {lo hi : Option Int} {d : PyData} (h : d ∈ cutD ds lo hi) : d ∈ ds := List.mem_of_mem_drop (List.mem_of_mem_take h)
theorem len_cutD {ds : List PyData} {lo hi : Option Int} : (cutD ds lo hi).length ≤ ds.length := by
  unfold cutD
  rw [List.length_take, List.length_drop]
  omega
theorem sx_upto {n m M k : Nat} {x : PyData} {ds : List PyData} (h : Sx n m x) (ht : ∀ d ∈ ds, Tm n m d ∨ d = x) (hl : ds.length ≤ k) (hM : k * m + 2 * k + 3 ≤ M) : Sx (n + 1) M (.tuple ds) :=
  (sx_mix h ht).mono (Nat.le_refl _) (by
    have : ds.length * m ≤ k * m := Nat.mul_le_mul_right m hl
    omega)
theorem tm_upto {n m M k : Nat} {ds : List PyData} (ht : ∀ d ∈ ds, Tm n m d) (hl : ds.length ≤ k) (hM : k * m + 2 * k + 3 ≤ M) : Tm (n + 1) M (.tuple ds) :=
  (tm_tup ht).mono (Nat.le_refl _) (by
    have : ds.length * m ≤ k * m := Nat.mul_le_mul_right m hl
    omega)
theorem two_l {a x : PyData} (ha : Tm 5 400000 a) (h : Sx 5 400000 x) : Sx 10 900000 (.tuple [a, x]) :=
  (sx_upto (ds := [a, x]) (k := 2) (M := 900000) h (fun d hd => by
    simp only [List.mem_cons, List.not_mem_nil, or_false] at hd
    rcases hd with rfl | rfl
    · exact .inl ha
    · exact .inr rfl) (Nat.le_refl 2) (by decide)).mono (by decide) (Nat.le_refl _)
theorem two_r {a x : PyData} (ha : Tm 5 400000 a) (h : Sx 5 400000 x) : Sx 10 900000 (.tuple [x, a]) :=
  (sx_upto (ds := [x, a]) (k := 2) (M := 900000) h (fun d hd => by
    simp only [List.mem_cons, List.not_mem_nil, or_false] at hd
    rcases hd with rfl | rfl
    · exact .inr rfl
    · exact .inl ha) (Nat.le_refl 2) (by decide)).mono (by decide) (Nat.le_refl _)
/-- the six bent rows -/
def bents (c : Ctr) (j : Int) (part od : PyData) : List PyData :=
  let l := [PyData.int c.s, .int c.t, .int c.g, .int c.e]
  [.tuple (cutD l none (some j) ++ [part] ++ cutD l (some (j + 1)) none), .tuple l.reverse, .list l, .tuple (cutD l none (some 3)), .tuple (l ++ [.int 1]), od]
theorem bents_sx {c : Ctr} {j : Int} {part od new : PyData} (hc : c.Lo) (hp : Sx 2 900 part) (ho : Sx 2 900 od) (h : new ∈ bents c j part od) : Sx 3 10000 new := by
  have it := hc.items
  have up : ∀ d ∈ [PyData.int c.s, .int c.t, .int c.g, .int c.e], Tm 2 900 d := fun d hd => (it d hd).mono (by decide) (by decide)
  unfold bents at h
  simp only [List.mem_cons, List.not_mem_nil, or_false] at h
  rcases h with rfl | rfl | rfl | rfl | rfl | rfl
  · refine sx_upto (k := 9) hp (fun d hd => ?_) ?_ (by decide)
    · rcases List.mem_append.mp hd with hd | hd
      · rcases List.mem_append.mp hd with hd | hd
        · exact .inl (up d (mem_cutD hd))
        · exact .inr (List.mem_singleton.mp hd)
      · exact .inl (up d (mem_cutD hd))
    · have h1 := len_cutD (ds := [PyData.int c.s, .int c.t, .int c.g, .int c.e]) (lo := none) (hi := some j)
      have h2 := len_cutD (ds := [PyData.int c.s, .int c.t, .int c.g, .int c.e]) (lo := some (j + 1)) (hi := none)
      rw [List.length_append, List.length_append]
      simp only [List.length_cons, List.length_nil] at h1 h2 ⊢
      omega
  · exact (tm_upto (k := 4) (M := 10000) (fun d hd => up d (List.mem_reverse.mp hd)) (by rw [List.length_reverse]; exact Nat.le_refl 4) (by decide)).sx
  · exact (Sx.mono (.inl (sm_lst fun d hd => (up d hd).a)) (Nat.le_refl _) (by show 4 * 900 + 2 * 4 + 3 ≤ 10000; decide))
  · exact (tm_upto (k := 4) (M := 10000) (fun d hd => up d (mem_cutD hd)) len_cutD (by decide)).sx
  · refine (tm_upto (ds := [PyData.int c.s, .int c.t, .int c.g, .int c.e] ++ [PyData.int 1]) (n := 2) (m := 900) (k := 5) (M := 10000) (fun d hd => ?_) (Nat.le_refl 5) (by decide)).sx
    rcases List.mem_append.mp hd with hd | hd
    · exact up d hd
    · rw [List.mem_singleton.mp hd]
      exact (tm_small (by decide)).mono (by decide) (by decide)
  · exact ho.mono (by decide) (by decide)
def somes (n : Int) (rs : List PyData) (at' : Int) (new od row : PyData) : List PyData :=
  let head := cutD rs none (some at')
  let tail := cutD rs (some (at' + 1)) none
  let more := rs ++ (List.replicate (9 : Int).toNat [row]).flatten
  [.tuple [.int n, .tuple (head ++ [new] ++ tail)], .tuple [.int n, .tuple (head ++ [new] ++ cutD rs (some at') none)], .tuple [.int n, .tuple (head ++ tail)]] ++
  [.tuple [.int n, .tuple (cutD more none (some 8))], .tuple [.int n, .tuple (cutD more none (some 9))], .tuple [.int n, .list rs], .tuple [od, .tuple rs], .tuple [.int n, od], .tuple [.int 5, .tuple rs]] ++
  [.list [.int n, .tuple rs], .tuple [.int n, .tuple rs, .tuple []], .tuple [.int 0, .tuple rs], .tuple [.tuple rs, .int n]]
theorem somes_sx {n at' : Int} {rs : List PyData} {new od row d : PyData} (hn : n.natAbs < 100) (hr : ∀ d ∈ rs, Tm 1 900 d) (hl : rs.length ≤ 8) (hnew : Sx 3 10000 new) (ho : Sx 2 900 od) (hrow : Tm 1 900 row)
    (h : d ∈ somes n rs at' new od row) : Sx 10 900000 d := by
  have tn : ∀ {i : Int}, i.natAbs < 100 → Tm 5 400000 (.int i) := fun h => (tm_small h).mono (by decide) (by decide)
  have up : ∀ d ∈ rs, Tm 3 10000 d := fun d hd => (hr d hd).mono (by decide) (by decide)
  have trs : Tm 5 400000 (.tuple rs) := (tm_upto (k := 8) (M := 400000) up hl (by decide)).mono (by decide) (Nat.le_refl _)
  have more : ∀ d ∈ rs ++ (List.replicate (9 : Int).toNat [row]).flatten, Tm 3 10000 d := fun d hd => by
    rcases List.mem_append.mp hd with hd | hd
    · exact up d hd
    · obtain ⟨l, hl, hd⟩ := List.mem_flatten.mp hd
      rw [List.eq_of_mem_replicate hl] at hd
      rw [List.mem_singleton.mp hd]
      exact hrow.mono (by decide) (by decide)
  have lmore : (rs ++ (List.replicate (9 : Int).toNat [row]).flatten).length ≤ 17 := by
    rw [List.length_append]
    show rs.length + 9 ≤ 17
    omega
  have mix : ∀ {a b : List PyData}, (∀ d ∈ a, d ∈ rs) → (∀ d ∈ b, d ∈ rs) → a.length ≤ 8 → b.length ≤ 8 → Sx 5 400000 (.tuple (a ++ [new] ++ b)) := fun ha hb la lb => by
    refine (sx_upto (k := 17) (M := 400000) hnew (fun d hd => ?_) ?_ (by decide)).mono (by decide) (Nat.le_refl _)
    · rcases List.mem_append.mp hd with hd | hd
      · rcases List.mem_append.mp hd with hd | hd
        · exact .inl (up d (ha d hd))
        · exact .inr (List.mem_singleton.mp hd)
      · exact .inl (up d (hb d hd))
    · rw [List.length_append, List.length_append]
      simp only [List.length_cons, List.length_nil]
      omega
  have cl : ∀ {lo hi : Option Int}, (cutD rs lo hi).length ≤ 8 := Nat.le_trans len_cutD hl
  unfold somes at h
  simp only [List.mem_append, List.mem_cons, List.not_mem_nil, or_false] at h
  rcases h with ((rfl | rfl | rfl) | rfl | rfl | rfl | rfl | rfl | rfl) | rfl | rfl | rfl | rfl
  · exact two_l (tn hn) (mix (fun d hd => mem_cutD hd) (fun d hd => mem_cutD hd) cl cl)
  · exact two_l (tn hn) (mix (fun d hd => mem_cutD hd) (fun d hd => mem_cutD hd) cl cl)
  · refine two_l (tn hn) ((tm_upto (k := 16) (M := 400000) (n := 3) (m := 10000) (fun d hd => ?_) ?_ (by decide)).mono (by decide) (Nat.le_refl _)).sx
    · rcases List.mem_append.mp hd with hd | hd
      · exact up d (mem_cutD hd)
      · exact up d (mem_cutD hd)
    · have h1 := cl (lo := none) (hi := some at')
      have h2 := cl (lo := some (at' + 1)) (hi := none)
      rw [List.length_append]
      omega
  · exact two_l (tn hn) ((tm_upto (k := 17) (M := 400000) (n := 3) (m := 10000) (fun d hd => more d (mem_cutD hd)) (Nat.le_trans len_cutD lmore) (by decide)).mono (by decide) (Nat.le_refl _)).sx
  · exact two_l (tn hn) ((tm_upto (k := 17) (M := 400000) (n := 3) (m := 10000) (fun d hd => more d (mem_cutD hd)) (Nat.le_trans len_cutD lmore) (by decide)).mono (by decide) (Nat.le_refl _)).sx
  · exact two_l (tn hn) (.inl ((sm_lst (n := 3) (m := 10000) fun d hd => (up d hd).a).mono (by decide) (by omega)))
  · exact two_r trs (ho.mono (by decide) (by decide))
  · exact two_l (tn hn) (ho.mono (by decide) (by decide))
  · exact two_l (tn (by decide)) trs.sx
  · exact .inl ((sm_lst (n := 5) (m := 400000) fun d hd => by
      simp only [List.mem_cons, List.not_mem_nil, or_false] at hd
      rcases hd with rfl | rfl
      · exact (tn hn).a
      · exact trs.a).mono (by decide) (by show 2 * 400000 + 2 * 2 + 3 ≤ 900000; decide))
  · have trs' : Tm 5 200000 (.tuple rs) := (tm_upto (k := 8) (M := 200000) up hl (by decide)).mono (by decide) (Nat.le_refl _)
    refine ((tm_upto (ds := [.int n, .tuple rs, .tuple []]) (k := 3) (M := 900000) (n := 5) (m := 200000) (fun d hd => ?_) (Nat.le_refl 3) (by decide)).mono (by decide) (Nat.le_refl _)).sx
    simp only [List.mem_cons, List.not_mem_nil, or_false] at hd
    rcases hd with rfl | rfl | rfl
    · exact (tm_small hn).mono (by decide) (by decide)
    · exact trs'
    · exact (tm_tup (n := 0) (m := 0) (ds := []) (fun d hd => nomatch hd)).mono (by decide) (by decide)
  · exact two_l (tn (by decide)) trs.sx
  · exact two_l trs (tn hn).sx
end CG

set_option maxHeartbeats 1000000
namespace CG
open PySem PySem.Spec PyProof.Rows L2
theorem row_at {cs : List Ctr} {n r : Int} (hc : ∀ c ∈ cs, c.Ok n) (hn : n ≤ 4) (h0 : 0 ≤ r) (h1 : r < cs.length + 1) :
    ∃ c : Ctr, c.Lo ∧ atI (cs.map Ctr.d ++ [.tuple [.int 0, .int 1, .int 5, .int 1]]) r = some c.d := by
  obtain ⟨d, hd, e⟩ := at_some (ds := cs.map Ctr.d ++ [.tuple [.int 0, .int 1, .int 5, .int 1]]) h0 (by simp; omega)
  rcases List.mem_append.mp hd with hd | hd
  · obtain ⟨c, hm, rfl⟩ := List.mem_map.mp hd
    exact ⟨c, (hc c hm).lo hn, e⟩
  · rw [List.mem_singleton] at hd
    subst hd
    exact ⟨⟨0, 1, 5, 1⟩, ⟨by decide, by decide, by decide, by decide⟩, e⟩
theorem int_at {ks : List Int} {r : Int} (h : ∀ k ∈ ks, k.natAbs < 100) (h0 : 0 ≤ r) (h1 : r < ks.length) : ∃ k : Int, k.natAbs < 100 ∧ atI (ks.map PyData.int) r = some (.int k) := by
  obtain ⟨d, hd, e⟩ := at_some (ds := ks.map PyData.int) h0 (by rw [List.length_map]; exact h1)
  obtain ⟨k, hk, rfl⟩ := List.mem_map.mp hd
  exact ⟨k, h k hk, e⟩
section
variable {P : Program} {w : World} {K : PySem.W.Frag} {mg : Str → Option Value} {base : Heap}
theorem ok_changed {f f1 f2 : Addr} {fd fd1 fd2 : FuncData} (h : Has K mg "_law_changed" sChanged ["_law_deck_here", "_law_board_here"] f fd) (T : Bz mg) (T_draw : Has K mg "_law_draw" sDraw ["_law_deck_here", "_law_limit"] f1 fd1) (T_odd : Has K mg "_law_odd" sOdd ["_law_deck_here"] f2 fd2)
    (G_draw : FnG P w K mg base CX0 1 f1 fd1 ["_law_deck_here", "_law_limit"] (spDraw K)) (G_odd : FnG P w K mg base CX0 2 f2 fd2 ["_law_deck_here"] (spE K 1 (fun ds => ds = []) POdd)) :
    FnG P w K mg base CX0 3 f fd ["_law_deck_here", "_law_board_here"] (spE K 6 PreChanged PChanged) := by
  refine okG h.F scChanged (fun vs H Q E h => ?_) (fun cd A out s H vs Q E hgd hr h => ?_)
  · obtain ⟨B, D, C, t, ds, ws, rfl, _, _, ra, ⟨n, cs, rfl, _⟩, _⟩ := h
    rw [List.length_cons, ← ra.length]
    rfl
  · obtain ⟨B, D, C, t, ds, ws, rfl, dk, hl, ra, ⟨n, cs, rfl, n1, n4, lcs, hcs⟩, q⟩ := h
    obtain ⟨vb, r, rfl, rb, h2⟩ := rpa_cons.mp ra
    obtain rfl := rpa_nil.mp h2
    refine ⟨_, (pss_cons (ps_asg (pv 1) (pg_tup rfl (pgs_cons (pg_name (i := 2) scChanged.nd rfl (Or.inl rfl)) (pgs_cons (pg_name (i := 3) scChanged.nd rfl (Or.inl rfl)) pgs_nil))))
      (pss_cons (ps_par3 (i := 4) (j := 5) (l := 6) rfl scChanged.nd rfl rfl rfl (by decide) (by decide) (by decide) rfl rfl rfl (pa_cons (pe_callG G_draw hgd (hr.mono (by decide)) rfl T_draw.m T_draw.F.kp T_draw.b .nil pass0 (pa_cons (pv 0) (pa_cons (pe_op (r := rAddU K) op_addU (pe_callB (r := rLenU K) call_lenU rfl T.z_len PySem.boot_len (pa_cons (pv 3) pa_nil)) pe_int) pa_nil))) (pa_cons (pe_callG G_draw hgd (hr.mono (by decide)) rfl T_draw.m T_draw.F.kp T_draw.b .nil pass0 (pa_cons (pv 0) (pa_cons pe_int pa_nil))) (pa_cons (pe_callG G_odd hgd (hr.mono (by decide)) rfl T_odd.m T_odd.F.kp T_odd.b .nil pass0 (pa_cons (pv 0) pa_nil)) pa_nil))) rfl)
      (pss_cons (ps_set (i := 7) scChanged.nd rfl (Or.inl rfl) (pe_ix (r := rIx K) ix_seq (pe_op (r := rAddU K) op_addU (pv 3) (pe_tup (pa_cons (pe_tup (pa_cons pe_int (pa_cons pe_int (pa_cons pe_int (pa_cons pe_int pa_nil))))) pa_nil))) (pv 4) (fun _ _ => rfl)))
      (pss_cons (ps_set (i := 8) scChanged.nd rfl (Or.inl rfl) (pe_ix (r := rIx K) ix_seq (pe_lst (pa_cons (pv 6) (pa_cons (pe_ix (r := rIx K) ix_seq (pe_lst (pa_cons (pv 2) (pa_cons (pv 2) (pa_cons pe_int (pa_cons pe_int pa_nil))))) (pv 5) (fun _ _ => rfl)) (pa_cons (pe_ix (r := rIx K) ix_seq (pe_lst (pa_cons (pe_un un_neg pe_int) (pa_cons (pe_un un_neg pe_int) (pa_cons pe_int (pa_cons pe_int pa_nil))))) (pv 5) (fun _ _ => rfl)) (pa_cons (pe_ix (r := rIx K) ix_seq (pv 7) pe_int (fun _ _ => rfl)) pa_nil))))) (pe_callG G_draw hgd (hr.mono (by decide)) rfl T_draw.m T_draw.F.kp T_draw.b .nil pass0 (pa_cons (pv 0) (pa_cons pe_int pa_nil))) (fun _ _ => rfl)))
      (pss_cons (ps_set (i := 9) scChanged.nd rfl (Or.inl rfl) (pe_lst (pa_cons (pe_op (r := rAddU K) op_addU (pe_op (r := rAddU K) op_addU (pe_slice (r := rSlU K) sl_U (pv 7) po_none (po_some (pv 5))) (pe_tup (pa_cons (pv 8) pa_nil))) (pe_slice (r := rSlU K) sl_U (pv 7) (po_some (pe_op (r := rAddU K) op_addU (pv 5) pe_int)) po_none)) (pa_cons (pe_revT (pv 7)) (pa_cons (pe_callTy (r := rLstU K) call_lstU rfl T.z_list boot_listU (pa_cons (pv 7) pa_nil)) (pa_cons (pe_slice (r := rSlU K) sl_U (pv 7) po_none (po_some pe_int)) (pa_cons (pe_op (r := rAddU K) op_addU (pv 7) (pe_tup (pa_cons pe_int pa_nil))) (pa_cons (pv 6) pa_nil))))))))
      (pss_cons (ps_set (i := 10) scChanged.nd rfl (Or.inl rfl) (pe_ix (r := rIx K) ix_seq (pe_op (r := rAddU K) op_addU (pe_op (r := rMulU K) op_mulU (pe_slice (r := rSlU K) sl_U (pv 9) po_none (po_some pe_int)) pe_int) (pv 9)) (pe_callG G_draw hgd (hr.mono (by decide)) rfl T_draw.m T_draw.F.kp T_draw.b .nil pass0 (pa_cons (pv 0) (pa_cons pe_int pa_nil))) (fun _ _ => rfl)))
      (pss_cons (ps_par (i := 11) (j := 12) rfl scChanged.nd rfl rfl (by decide) rfl rfl (pa_cons (pe_slice (r := rSlU K) sl_U (pv 3) po_none (po_some (pv 4))) (pa_cons (pe_slice (r := rSlU K) sl_U (pv 3) (po_some (pe_op (r := rAddU K) op_addU (pv 4) pe_int)) po_none) pa_nil)) rfl)
      (pss_cons (ps_set (i := 13) scChanged.nd rfl (Or.inl rfl) (pe_lst (pa_cons (pe_tup (pa_cons (pv 2) (pa_cons (pe_op (r := rAddU K) op_addU (pe_op (r := rAddU K) op_addU (pv 11) (pe_tup (pa_cons (pv 10) pa_nil))) (pv 12)) pa_nil))) (pa_cons (pe_tup (pa_cons (pv 2) (pa_cons (pe_op (r := rAddU K) op_addU (pe_op (r := rAddU K) op_addU (pv 11) (pe_tup (pa_cons (pv 10) pa_nil))) (pe_slice (r := rSlU K) sl_U (pv 3) (po_some (pv 4)) po_none)) pa_nil))) (pa_cons (pe_tup (pa_cons (pv 2) (pa_cons (pe_op (r := rAddU K) op_addU (pv 11) (pv 12)) pa_nil))) pa_nil)))))
      (pss_cons (ps_set (i := 14) scChanged.nd rfl (Or.inl rfl) (pe_op (r := rAddU K) op_addU (pv 3) (pe_op (r := rMulU K) op_mulU (pe_tup (pa_cons (pv 7) pa_nil)) pe_int)))
      (pss_cons (ps_set (i := 13) scChanged.nd rfl (Or.inl rfl) (pe_op (r := rAddU K) op_addU (pv 13) (pe_lst (pa_cons (pe_tup (pa_cons (pv 2) (pa_cons (pe_slice (r := rSlU K) sl_U (pv 14) po_none (po_some pe_int)) pa_nil))) (pa_cons (pe_tup (pa_cons (pv 2) (pa_cons (pe_slice (r := rSlU K) sl_U (pv 14) po_none (po_some pe_int)) pa_nil))) (pa_cons (pe_tup (pa_cons (pv 2) (pa_cons (pe_callTy (r := rLstU K) call_lstU rfl T.z_list boot_listU (pa_cons (pv 3) pa_nil)) pa_nil))) (pa_cons (pe_tup (pa_cons (pv 6) (pa_cons (pv 3) pa_nil))) (pa_cons (pe_tup (pa_cons (pv 2) (pa_cons (pv 6) pa_nil))) (pa_cons (pe_tup (pa_cons pe_int (pa_cons (pv 3) pa_nil))) pa_nil)))))))))
      (pss_one (ps_ret (pe_ix (r := rIx K) ix_seq (pe_op (r := rAddU K) op_addU (pv 13) (pe_lst (pa_cons (pe_lst (pa_cons (pv 2) (pa_cons (pv 3) pa_nil))) (pa_cons (pe_tup (pa_cons (pv 2) (pa_cons (pv 3) (pa_cons (pe_tup pa_nil) pa_nil)))) (pa_cons (pe_tup (pa_cons pe_int (pa_cons (pv 3) pa_nil))) (pa_cons (pe_tup (pa_cons (pv 3) (pa_cons (pv 2) pa_nil))) pa_nil)))))) (pe_callB (call_maxU rfl) rfl T.z_max boot_max (pa_cons pe_int (pa_cons (pe_op op_sub (pe_callG G_draw hgd (hr.mono (by decide)) rfl T_draw.m T_draw.F.kp T_draw.b .nil pass0 (pa_cons (pv 0) (pa_cons pe_int pa_nil))) pe_int) pa_nil))) (fun _ _ => rfl)))))))))))))), ?_⟩
    rw [show L2.start NscChanged [.ref D, vb] = [some (.ref D), some (vb), none, none, none, none, none, none, none, none, none, none, none, none, none] from rfl]
    have xr : Xt B H H := Xt.refl dk.al
    refine sd_unp (K := K) (B := B) (H := H) (ds := [.int n, rowsD cs]) (dn_var rfl rb) xr rfl (fun xs H1 s1 rx => ?_)
    obtain ⟨vn, r, rfl, rn, g2⟩ := rpa_cons.mp rx
    obtain ⟨vr, r, rfl, rr, g2⟩ := rpa_cons.mp g2
    obtain rfl := rpa_nil.mp g2
    obtain rfl := rp_int.mp rn
    refine ⟨_, _, rfl, _, _, rfl, rfl, ?_⟩
    dsimp only [L2.start, List.set]
    have k1 := dk.same s1
    unfold rowsD at rr
    have lm : (cs.map Ctr.d).length = cs.length := List.length_map ..
    -- at, j, odd
    refine se_par3 (K := K) (B := B) (D := D) (C := C) (H := H1) (t := t) (m := 3) (Φs := fun ds => ∃ r j od, ds = [.int r, .int j, od] ∧ 0 ≤ r ∧ r < cs.length + 1 ∧ 0 ≤ j ∧ j < 4 ∧ od ∈ odds) ?_ ?_ (Xt.refl k1.al) k1 (by omega) (fun va vj vo a b od H2 t2 x2 k2 l2 p ra rj ro => ?_)
    · refine EfA.weak (ea_cons (ef_draw rfl (DnA.ef (da_cons (dn_op (dn_cb (da_cons (dn_var rfl rr) da_nil) rc_lenT) dn_int rd_add) da_nil)) ?_) (ea_cons (ef_drawN rfl (by decide) (by decide)) (ea_cons (ef_callE (Θ := fun d => d ∈ odds) rfl ea_nil (fun ds e => ⟨e, fun c p => p⟩) (by decide)) ea_nil (by decide)) (by decide)) (by decide)) ?_ (by decide)
      · rintro ds rfl
        exact ⟨_, rfl, by omega, by omega⟩
      · rintro ds ⟨d, r, rfl, ⟨_, n', r', rfl, e1, rfl, h0, h1⟩, d2, r2, rfl, ⟨j, rfl, j0, j1⟩, d3, r3, rfl, ho, rfl⟩
        simp only [List.cons.injEq, PyData.int.injEq, and_true] at e1
        subst e1
        rw [lm] at h1
        exact ⟨r', j, d3, rfl, h0, h1, j0, j1, ho⟩
    · rintro ds ⟨r, j, od, rfl, _⟩
      rfl
    obtain ⟨r, j, od_, e1, r0, r1, j0, j1, ho⟩ := p
    simp only [List.cons.injEq, and_true] at e1
    obtain ⟨rfl, rfl, rfl⟩ := e1
    obtain rfl := rp_int.mp ra
    obtain rfl := rp_int.mp rj
    dsimp only [List.set]
    replace rr := rr.up (k1.wd x2)
    obtain ⟨rw, lo, hrw⟩ := row_at hcs n4 r0 r1
    -- row
    refine sd_set (K := K) (B := B) (H := H2) (d := rw.d) (dn_op (dn_op (dn_var rfl rr) (dn_tup (da_cons (dn_tup (da_cons dn_int (da_cons dn_int (da_cons dn_int (da_cons dn_int da_nil)))) (by decide)) da_nil) (by decide)) (rd_catT (by rw [lm]; show cs.length + 1 ≤ 100000; omega))) (dn_var rfl (rp_int.mpr rfl)) (rd_ixT hrw)) (Xt.refl k2.al) (fun vw H3 s3 rw3 => ?_)
    have k3 := k2.same s3
    have y3 : Xt B H2 H3 := Xt.of k2.al s3
    replace rr := rr.up y3
    replace ro := ro.up y3
    dsimp only [List.set]
    obtain ⟨q1, hq1, eq1⟩ := int_at (ks := [n, n, 6, 6]) (r := j) (fun k hk => by
      simp only [List.mem_cons, List.not_mem_nil, or_false] at hk
      rcases hk with rfl | rfl | rfl | rfl <;> omega) j0 j1
    obtain ⟨q2, hq2, eq2⟩ := int_at (ks := [-1, -1, 0, 0]) (r := j) (fun k hk => by
      simp only [List.mem_cons, List.not_mem_nil, or_false] at hk
      rcases hk with rfl | rfl | rfl | rfl <;> omega) j0 j1
    have hsx := odds_sx ho
    have vi : ∀ {B' : Addr → Prop} {H' : Hp} {z : Int}, Rp K B' H' (.int z) (.int z) := rp_int.mpr rfl
    -- part
    refine se_set (K := K) (B := B) (D := D) (C := C) (H := H3) (t := t2) (m := 1) (Φ := fun d => Sx 2 900 d) ?_ (Xt.refl k3.al) k3 (by omega) (fun vp part H4 t4 x4 k4 l4 hpart rp => ?_)
    · refine Ef.weak (ef_op (n := 0) (m := 1) (Dn.ef (d := .list [od, .int q1, .int q2, .int rw.t]) ?_) (ef_drawN rfl (by decide) (by decide)) ?_ (by decide)) (fun d p => p) (by decide)
      · refine dn_lst (da_cons (dn_var rfl ro) (da_cons (dn_op (dn_lst (da_cons (dn_var rfl vi) (da_cons (dn_var rfl vi) (da_cons dn_int (da_cons dn_int da_nil)))) (by show (4 : Nat) ≤ 100000; decide)) (dn_var rfl vi) (rd_ixL eq1)) (da_cons (dn_op (dn_lst (da_cons (dn_un dn_int ru_neg) (da_cons (dn_un dn_int ru_neg) (da_cons dn_int (da_cons dn_int da_nil)))) (by show (4 : Nat) ≤ 100000; decide)) (dn_var rfl vi) (rd_ixL eq2)) (da_cons (dn_op (dn_var rfl rw3) dn_int (rd_ixT rfl)) da_nil)))) (by show (4 : Nat) ≤ 100000; decide)
      · rintro a b rfl ⟨z, rfl, z0, z1⟩
        obtain ⟨d, m, e⟩ := at_some (ds := [od, .int q1, .int q2, .int rw.t]) z0 (by show z < (4 : Nat); omega)
        refine ⟨d, ?_, rd_ixL e⟩
        simp only [List.mem_cons, List.not_mem_nil, or_false] at m
        rcases m with rfl | rfl | rfl | rfl
        · exact hsx
        · exact (tm_small hq1).sx.mono (by decide) (by decide)
        · exact (tm_small hq2).sx.mono (by decide) (by decide)
        · exact (tm_small lo.t).sx.mono (by decide) (by decide)
    replace rr := rr.up (k3.wd x4)
    replace ro := ro.up (k3.wd x4)
    replace rw3 := rw3.up (k3.wd x4)
    dsimp only [List.set]
    -- bent
    refine sd_set (K := K) (B := B) (H := H4) (d := .list (bents rw j part od)) ?_ (Xt.refl k4.al) (fun vbe H5 s5 rbe => ?_)
    · unfold Ctr.d at rw3
      unfold bents
      (repeat' first | with_reducible exact dn_int | with_reducible exact dn_bl | with_reducible exact dn_non | with_reducible exact dn_str | with_reducible exact da_nil | with_reducible exact rd_add | with_reducible exact rd_eqI | with_reducible exact rd_neI | with_reducible exact rd_eqS | with_reducible exact rd_neS | with_reducible exact rd_I0 | with_reducible exact rd_B0 | with_reducible exact rd_isN | with_reducible exact rc_lenT | with_reducible exact rc_lenL | with_reducible exact rc_tupL | with_reducible exact rc_tupT | with_reducible exact rc_lstT | with_reducible exact rc_lstL | with_reducible exact rc_intB | with_reducible exact rc_min | with_reducible exact rc_max | with_reducible exact ru_neg | with_reducible exact do_none | with_reducible exact dn_dict0 | with_reducible exact dn_dict1 | ((with_reducible apply dn_var); exact rfl; first | exact rp_int.mpr rfl | exact rp_str.mpr rfl | exact rp_bl.mpr rfl | assumption) | ((with_reducible apply rd_ixT); exact rfl) | ((with_reducible apply rd_ixL); exact rfl) | ((with_reducible apply rd_I); first | decide | exact ⟨by decide, by decide, by decide⟩) | with_reducible apply da_cons | with_reducible apply dn_tup | with_reducible apply dn_lst | with_reducible apply rd_catT | with_reducible apply rd_catL | with_reducible apply rd_repT | with_reducible apply rd_repL | with_reducible apply rd_mulI | with_reducible apply dn_slT | with_reducible apply dn_slL | with_reducible apply dn_op | with_reducible apply dn_un | with_reducible apply dn_cb | with_reducible apply do_some (K := K) | apply dn_revT | ((with_reducible refine (show (_ : Nat) ≤ _ from ?_)); simp only [cutD, List.length_append, List.length_map, List.length_cons, List.length_nil, List.length_take, List.length_drop, List.length_reverse, List.length_replicate]; omega))
    have k5 := k4.same s5
    have y5 : Xt B H4 H5 := Xt.of k4.al s5
    replace rr := rr.up y5
    replace ro := ro.up y5
    replace rw3 := rw3.up y5
    dsimp only [List.set]
    -- new
    refine se_set (K := K) (B := B) (D := D) (C := C) (H := H5) (t := t4) (m := 1) (Φ := fun d => Sx 3 10000 d) ?_ (Xt.refl k5.al) k5 (by omega) (fun vne new H6 t6 x6 k6 l6 hnew rne => ?_)
    · refine Ef.weak (ef_op (n := 0) (m := 1) (Dn.ef (d := .list ((List.replicate (3 : Int).toNat (cutD (bents rw j part od) none (some 1))).flatten ++ bents rw j part od)) ?_) (ef_drawN rfl (by decide) (by decide)) ?_ (by decide)) (fun d p => p) (by decide)
      · refine dn_op (dn_op (dn_slL (dn_var rfl rbe) do_none (do_some (K := K) dn_int)) dn_int (rd_repL (by decide) (by decide) (Nat.le_trans len_cutD (by show (6 : Nat) ≤ 1000; decide)))) (dn_var rfl rbe) (rd_catL ?_)
        rw [show (1 : Int) = ((1 : Nat) : Int) from rfl, cutD_take]
        show (9 : Nat) ≤ 100000
        decide
      · rintro a b rfl ⟨z, rfl, z0, z1⟩
        rw [show (some (1 : Int)) = some ((1 : Nat) : Int) from rfl, cutD_take]
        obtain ⟨d, m, e⟩ := at_some (ds := (List.replicate (3 : Int).toNat ((bents rw j part od).take 1)).flatten ++ bents rw j part od) z0 (by show z < (9 : Nat); omega)
        refine ⟨d, ?_, rd_ixL e⟩
        refine bents_sx lo hpart hsx (j := j) ?_
        rcases List.mem_append.mp m with m | m
        · obtain ⟨l, hl', hd⟩ := List.mem_flatten.mp m
          rw [List.eq_of_mem_replicate hl'] at hd
          exact List.mem_of_mem_take hd
        · exact m
    replace rr := rr.up (k5.wd x6)
    replace ro := ro.up (k5.wd x6)
    replace rw3 := rw3.up (k5.wd x6)
    dsimp only [List.set]
    -- head, tail
    refine sd_par (K := K) (B := B) (H := H6) (da := .tuple (cutD (cs.map Ctr.d) none (some r))) (db := .tuple (cutD (cs.map Ctr.d) (some (r + 1)) none)) ?_ (Xt.refl k6.al) (fun vh vt H7 s7 rh rt => ?_)
    · (repeat' first | with_reducible exact dn_int | with_reducible exact dn_bl | with_reducible exact dn_non | with_reducible exact dn_str | with_reducible exact da_nil | with_reducible exact rd_add | with_reducible exact rd_eqI | with_reducible exact rd_neI | with_reducible exact rd_eqS | with_reducible exact rd_neS | with_reducible exact rd_I0 | with_reducible exact rd_B0 | with_reducible exact rd_isN | with_reducible exact rc_lenT | with_reducible exact rc_lenL | with_reducible exact rc_tupL | with_reducible exact rc_tupT | with_reducible exact rc_lstT | with_reducible exact rc_lstL | with_reducible exact rc_intB | with_reducible exact rc_min | with_reducible exact rc_max | with_reducible exact ru_neg | with_reducible exact do_none | with_reducible exact dn_dict0 | with_reducible exact dn_dict1 | ((with_reducible apply dn_var); exact rfl; first | exact rp_int.mpr rfl | exact rp_str.mpr rfl | exact rp_bl.mpr rfl | assumption) | ((with_reducible apply rd_ixT); exact rfl) | ((with_reducible apply rd_ixL); exact rfl) | ((with_reducible apply rd_I); first | decide | exact ⟨by decide, by decide, by decide⟩) | with_reducible apply da_cons | with_reducible apply dn_tup | with_reducible apply dn_lst | with_reducible apply rd_catT | with_reducible apply rd_catL | with_reducible apply rd_repT | with_reducible apply rd_repL | with_reducible apply rd_mulI | with_reducible apply dn_slT | with_reducible apply dn_slL | with_reducible apply dn_op | with_reducible apply dn_un | with_reducible apply dn_cb | with_reducible apply do_some (K := K) | apply dn_revT | ((with_reducible refine (show (_ : Nat) ≤ _ from ?_)); simp only [cutD, List.length_append, List.length_map, List.length_cons, List.length_nil, List.length_take, List.length_drop, List.length_reverse, List.length_replicate]; omega))
    have k7 := k6.same s7
    have y7 : Xt B H6 H7 := Xt.of k6.al s7
    replace rr := rr.up y7
    replace ro := ro.up y7
    replace rw3 := rw3.up y7
    replace rne := rne.up y7
    dsimp only [List.set]
    -- some
    refine sd_set (K := K) (B := B) (H := H7) (d := .list ((somes n (cs.map Ctr.d) r new od rw.d).take 3)) (Dn.eq (d := .list [.tuple [.int n, .tuple (cutD (cs.map Ctr.d) none (some r) ++ [new] ++ cutD (cs.map Ctr.d) (some (r + 1)) none)], .tuple [.int n, .tuple (cutD (cs.map Ctr.d) none (some r) ++ [new] ++ cutD (cs.map Ctr.d) (some r) none)], .tuple [.int n, .tuple (cutD (cs.map Ctr.d) none (some r) ++ cutD (cs.map Ctr.d) (some (r + 1)) none)]]) ?_ rfl) (Xt.refl k7.al) (fun vs H8 s8 rs => ?_)
    · (repeat' first | with_reducible exact dn_int | with_reducible exact dn_bl | with_reducible exact dn_non | with_reducible exact dn_str | with_reducible exact da_nil | with_reducible exact rd_add | with_reducible exact rd_eqI | with_reducible exact rd_neI | with_reducible exact rd_eqS | with_reducible exact rd_neS | with_reducible exact rd_I0 | with_reducible exact rd_B0 | with_reducible exact rd_isN | with_reducible exact rc_lenT | with_reducible exact rc_lenL | with_reducible exact rc_tupL | with_reducible exact rc_tupT | with_reducible exact rc_lstT | with_reducible exact rc_lstL | with_reducible exact rc_intB | with_reducible exact rc_min | with_reducible exact rc_max | with_reducible exact ru_neg | with_reducible exact do_none | with_reducible exact dn_dict0 | with_reducible exact dn_dict1 | ((with_reducible apply dn_var); exact rfl; first | exact rp_int.mpr rfl | exact rp_str.mpr rfl | exact rp_bl.mpr rfl | assumption) | ((with_reducible apply rd_ixT); exact rfl) | ((with_reducible apply rd_ixL); exact rfl) | ((with_reducible apply rd_I); first | decide | exact ⟨by decide, by decide, by decide⟩) | with_reducible apply da_cons | with_reducible apply dn_tup | with_reducible apply dn_lst | with_reducible apply rd_catT | with_reducible apply rd_catL | with_reducible apply rd_repT | with_reducible apply rd_repL | with_reducible apply rd_mulI | with_reducible apply dn_slT | with_reducible apply dn_slL | with_reducible apply dn_op | with_reducible apply dn_un | with_reducible apply dn_cb | with_reducible apply do_some (K := K) | apply dn_revT | ((with_reducible refine (show (_ : Nat) ≤ _ from ?_)); simp only [cutD, List.length_append, List.length_map, List.length_cons, List.length_nil, List.length_take, List.length_drop, List.length_reverse, List.length_replicate]; omega))
    have k8 := k7.same s8
    have y8 : Xt B H7 H8 := Xt.of k7.al s8
    replace rr := rr.up y8
    replace ro := ro.up y8
    replace rw3 := rw3.up y8
    dsimp only [List.set]
    -- more
    refine sd_set (K := K) (B := B) (H := H8) (d := .tuple (cs.map Ctr.d ++ (List.replicate (9 : Int).toNat [rw.d]).flatten)) (dn_op (dn_var rfl rr) (dn_op (dn_tup (da_cons (dn_var rfl rw3) da_nil) (by show (1 : Nat) ≤ 100000; decide)) dn_int (rd_repT (by simp) (by decide) (by decide) (by show (1 : Nat) ≤ 1000; decide))) (rd_catT (by rw [lm]; show cs.length + 9 ≤ 100000; omega))) (Xt.refl k8.al) (fun vm H9 s9 rm => ?_)
    have k9 := k8.same s9
    have y9 : Xt B H8 H9 := Xt.of k8.al s9
    replace rr := rr.up y9
    replace ro := ro.up y9
    replace rs := rs.up y9
    dsimp only [List.set]
    -- some again
    refine sd_set (K := K) (B := B) (H := H9) (d := .list ((somes n (cs.map Ctr.d) r new od rw.d).take 9)) (Dn.eq (d := .list ((somes n (cs.map Ctr.d) r new od rw.d).take 3 ++ [.tuple [.int n, .tuple (cutD (cs.map Ctr.d ++ (List.replicate (9 : Int).toNat [rw.d]).flatten) none (some 8))], .tuple [.int n, .tuple (cutD (cs.map Ctr.d ++ (List.replicate (9 : Int).toNat [rw.d]).flatten) none (some 9))], .tuple [.int n, .list (cs.map Ctr.d)], .tuple [od, .tuple (cs.map Ctr.d)], .tuple [.int n, od], .tuple [.int 5, .tuple (cs.map Ctr.d)]])) (dn_op (dn_var rfl rs) ?_ (rd_catL (by show (9 : Nat) ≤ 100000; decide))) rfl) (Xt.refl k9.al) (fun vs2 H10 s10 rs2 => ?_)
    · (repeat' first | with_reducible exact dn_int | with_reducible exact dn_bl | with_reducible exact dn_non | with_reducible exact dn_str | with_reducible exact da_nil | with_reducible exact rd_add | with_reducible exact rd_eqI | with_reducible exact rd_neI | with_reducible exact rd_eqS | with_reducible exact rd_neS | with_reducible exact rd_I0 | with_reducible exact rd_B0 | with_reducible exact rd_isN | with_reducible exact rc_lenT | with_reducible exact rc_lenL | with_reducible exact rc_tupL | with_reducible exact rc_tupT | with_reducible exact rc_lstT | with_reducible exact rc_lstL | with_reducible exact rc_intB | with_reducible exact rc_min | with_reducible exact rc_max | with_reducible exact ru_neg | with_reducible exact do_none | with_reducible exact dn_dict0 | with_reducible exact dn_dict1 | ((with_reducible apply dn_var); exact rfl; first | exact rp_int.mpr rfl | exact rp_str.mpr rfl | exact rp_bl.mpr rfl | assumption) | ((with_reducible apply rd_ixT); exact rfl) | ((with_reducible apply rd_ixL); exact rfl) | ((with_reducible apply rd_I); first | decide | exact ⟨by decide, by decide, by decide⟩) | with_reducible apply da_cons | with_reducible apply dn_tup | with_reducible apply dn_lst | with_reducible apply rd_catT | with_reducible apply rd_catL | with_reducible apply rd_repT | with_reducible apply rd_repL | with_reducible apply rd_mulI | with_reducible apply dn_slT | with_reducible apply dn_slL | with_reducible apply dn_op | with_reducible apply dn_un | with_reducible apply dn_cb | with_reducible apply do_some (K := K) | apply dn_revT | ((with_reducible refine (show (_ : Nat) ≤ _ from ?_)); simp only [cutD, List.length_append, List.length_map, List.length_cons, List.length_nil, List.length_take, List.length_drop, List.length_reverse, List.length_replicate]; omega))
    have k10 := k9.same s10
    have y10 : Xt B H9 H10 := Xt.of k9.al s10
    replace rr := rr.up y10
    dsimp only [List.set]
    -- the end
    refine se_ret (K := K) (B := B) (D := D) (C := C) (H := H10) (t := t6) (m := 1) (Φ := fun d => Sx 10 900000 d) ?_ (Xt.refl k10.al) k10 (by omega) (fun v d H11 t11 x11 k11 l11 pd rd => ?_)
    · refine Ef.weak (ef_op (n := 0) (m := 1) (Ψ := fun d => ∃ z, d = .int z ∧ 0 ≤ z ∧ z < 13) (Dn.ef (d := .list (somes n (cs.map Ctr.d) r new od rw.d)) ?_) (Ef.weak (ef_cb (Θ := fun d => ∃ z, d = .int z ∧ 0 ≤ z ∧ z < 13) (ea_cons (Dn.ef dn_int) (ea_cons (ef_op (Θ := fun d => ∃ z, d = .int z ∧ z < 13) (ef_drawN rfl (by decide) (by decide)) (Dn.ef dn_int) ?_ (by decide)) ea_nil (by decide)) (by decide)) ?_) (fun d p => p) (by decide)) ?_ (by decide)) (fun d p => p) (by decide)
      · refine Dn.eq (d := .list ((somes n (cs.map Ctr.d) r new od rw.d).take 9 ++ [.list [.int n, .tuple (cs.map Ctr.d)], .tuple [.int n, .tuple (cs.map Ctr.d), .tuple []], .tuple [.int 0, .tuple (cs.map Ctr.d)], .tuple [.tuple (cs.map Ctr.d), .int n]])) (dn_op (dn_var rfl rs2) ?_ (rd_catL (by show (13 : Nat) ≤ 100000; decide))) rfl
        (repeat' first | with_reducible exact dn_int | with_reducible exact dn_bl | with_reducible exact dn_non | with_reducible exact dn_str | with_reducible exact da_nil | with_reducible exact rd_add | with_reducible exact rd_eqI | with_reducible exact rd_neI | with_reducible exact rd_eqS | with_reducible exact rd_neS | with_reducible exact rd_I0 | with_reducible exact rd_B0 | with_reducible exact rd_isN | with_reducible exact rc_lenT | with_reducible exact rc_lenL | with_reducible exact rc_tupL | with_reducible exact rc_tupT | with_reducible exact rc_lstT | with_reducible exact rc_lstL | with_reducible exact rc_intB | with_reducible exact rc_min | with_reducible exact rc_max | with_reducible exact ru_neg | with_reducible exact do_none | with_reducible exact dn_dict0 | with_reducible exact dn_dict1 | ((with_reducible apply dn_var); exact rfl; first | exact rp_int.mpr rfl | exact rp_str.mpr rfl | exact rp_bl.mpr rfl | assumption) | ((with_reducible apply rd_ixT); exact rfl) | ((with_reducible apply rd_ixL); exact rfl) | ((with_reducible apply rd_I); first | decide | exact ⟨by decide, by decide, by decide⟩) | with_reducible apply da_cons | with_reducible apply dn_tup | with_reducible apply dn_lst | with_reducible apply rd_catT | with_reducible apply rd_catL | with_reducible apply rd_repT | with_reducible apply rd_repL | with_reducible apply rd_mulI | with_reducible apply dn_slT | with_reducible apply dn_slL | with_reducible apply dn_op | with_reducible apply dn_un | with_reducible apply dn_cb | with_reducible apply do_some (K := K) | apply dn_revT | ((with_reducible refine (show (_ : Nat) ≤ _ from ?_)); simp only [cutD, List.length_append, List.length_map, List.length_cons, List.length_nil, List.length_take, List.length_drop, List.length_reverse, List.length_replicate]; omega))
      · rintro a b ⟨z, rfl, z0, z1⟩ rfl
        exact ⟨_, ⟨z - 2, rfl, by omega⟩, rd_I0⟩
      · rintro ds ⟨a, r', rfl, rfl, b, r'', rfl, ⟨z, rfl, z1⟩, rfl⟩
        refine ⟨_, ⟨_, rfl, ?_, ?_⟩, rc_max⟩ <;> split <;> omega
      · rintro a b rfl ⟨z, rfl, z0, z1⟩
        obtain ⟨d, m, e⟩ := at_some (ds := somes n (cs.map Ctr.d) r new od rw.d) z0 (by show z < (13 : Nat); omega)
        refine ⟨d, somes_sx (by omega) (fun d hd => ?_) (by rw [lm]; exact lcs) hnew hsx ?_ m, rd_ixL e⟩
        · obtain ⟨c, hc, rfl⟩ := List.mem_map.mp hd
          exact tm_ctr (hcs c hc) (by omega)
        · exact (tm_tup lo.items).mono (by decide) (by show 4 * 202 + 2 * 4 + 3 ≤ 900; decide)
    · refine q v d H11 t11 ?_ k11 (by omega) pd rd
      exact (dk.xt s1).trans (x2.trans ((k2.xt s3).trans (x4.trans ((k4.xt s5).trans (x6.trans ((k6.xt s7).trans ((k7.xt s8).trans ((k8.xt s9).trans ((k9.xt s10).trans x11)))))))))
end
end CG

namespace CG
open PySem PySem.Spec PyProof.Rows L2
theorem draw3 (i : Nat) : ∃ m : Int, atI [PyData.int 4, .int 2, .int 3] ((0 + (i : Int)) % 3) = some (.int m) ∧ 1 ≤ m ∧ m ≤ 4 := by
  have c : (0 + (i : Int)) % 3 = 0 ∨ (0 + (i : Int)) % 3 = 1 ∨ (0 + (i : Int)) % 3 = 2 := by omega
  rcases c with e | e | e
  · exact ⟨4, by rw [e]; rfl, by decide, by decide⟩
  · exact ⟨2, by rw [e]; rfl, by decide, by decide⟩
  · exact ⟨3, by rw [e]; rfl, by decide, by decide⟩
def twinC (c : Ctr) : PyData := .tuple ([c.s, c.t, c.g, c.e].map twin1)
theorem tm_twin {i : Int} (h : i.natAbs < 100) : Tm 0 202 (twin1 i) := by
  unfold twin1
  split
  · exact tm_bool
  · exact tm_small h
theorem tm_twinC {c : Ctr} (h : c.Lo) : Tm 1 900 (twinC c) := by
  refine (tm_tup (n := 0) (m := 202) (ds := [c.s, c.t, c.g, c.e].map twin1) fun d hd => ?_).mono (by decide) (by show 4 * 202 + 2 * 4 + 3 ≤ 900; decide)
  obtain ⟨i, hi, rfl⟩ := List.mem_map.mp hd
  simp only [List.mem_cons, List.not_mem_nil, or_false] at hi
  rcases hi with rfl | rfl | rfl | rfl
  · exact tm_twin h.s
  · exact tm_twin h.t
  · exact tm_twin h.g
  · exact tm_twin h.e
theorem sm_bad (x : PyData) (s : Str) (hx : Sm 0 202 x) (hs : Sm 0 202 (.str s)) : Sm 1 500 (bad x s) := by
  refine (sm_tup (n := 0) (m := 202) (ds := [x, .str s]) fun d hd => ?_).mono (by decide) (by show 2 * 202 + 2 * 2 + 3 ≤ 500; decide)
  simp only [List.mem_cons, List.not_mem_nil, or_false] at hd
  rcases hd with rfl | rfl
  · exact hx
  · exact hs
theorem sm_none : Sm 0 202 .none := ⟨by decide +kernel, by decide +kernel, by decide +kernel, by decide +kernel⟩
theorem sm_berr (x : PyData) : Sm 1 500 (berr x) := by
  have s1 : Sm 0 202 (.str "board") := ⟨by decide +kernel, by decide +kernel, by decide +kernel, by decide +kernel⟩
  have s2 : Sm 0 202 (.str "kinds") := ⟨by decide +kernel, by decide +kernel, by decide +kernel, by decide +kernel⟩
  have s3 : Sm 0 202 (.str "counters") := ⟨by decide +kernel, by decide +kernel, by decide +kernel, by decide +kernel⟩
  have s4 : Sm 0 202 (.str "counter") := ⟨by decide +kernel, by decide +kernel, by decide +kernel, by decide +kernel⟩
  unfold berr
  split
  · split
    · split
      · split
        · rename_i cs
          split
          · rename_i hl
            unfold ferr
            split
            · exact sm_none.mono (by decide) (by decide)
            · rename_i i hi
              refine sm_bad _ _ (sm_int ?_) s4
              have : i < cs.length := (List.findIdx?_eq_some_iff_getElem.mp hi).1
              have h2 : (i : Int).natAbs = i := Int.natAbs_natCast i
              rw [h2]
              exact Nat.lt_of_lt_of_le (show i < 8 by omega) (by decide)
          · exact sm_bad _ _ sm_none s3
        · exact sm_bad _ _ sm_none s3
      · exact sm_bad _ _ sm_none s2
    · exact sm_bad _ _ sm_none s2
  · exact sm_bad _ _ sm_none s1
theorem shw_two {d : PyData} {n m : Nat} (h : Sm n m d) (hn : n ≤ 59) (hm : m ≤ 400000) : Shw (.list [d, d]) :=
  Sm.mono (sm_lst (n := n) (m := m) fun x hx => by
    simp only [List.mem_cons, List.not_mem_nil, or_false, or_self] at hx
    rw [hx]
    exact h) (by omega) (by show 2 * m + 2 * 2 + 3 ≤ 1000000; omega)
theorem shw_bool {b : Bool} : Shw (.bool b) := (tm_bool).a.mono (by decide) (by decide)
def six : List PyData := [.tuple [.int 0, .int 1, .int 1, .int 1], .tuple [.bool false, .int 1, .int 1, .int 1], .tuple [.int 0, .bool true, .int 1, .int 1], .tuple [.int 0, .int 1, .bool true, .int 1], .tuple [.int 0, .int 1, .int 1, .bool true], .tuple [.int 0, .int 1, .int 1, .int 1]]
def inBoard (d : PyData) : PyData := .tuple [.int 2, .tuple [d]]
theorem tm_dec {n m : Nat} {d : PyData} (h1 : d.showable = true) (h2 : d.hasDict = false) (h3 : d.depth ≤ n) (h4 : d.shown.length ≤ m) (h5 : noList d = true) : Tm n m d := ⟨⟨h1, h2, h3, h4⟩, ⟨h1, h5, h3, h4⟩⟩
theorem six_sx {d : PyData} (h : d ∈ six) : Sx 10 900000 (inBoard d) := by
  unfold six at h
  simp only [List.mem_cons, List.not_mem_nil, or_false] at h
  rcases h with rfl | rfl | rfl | rfl | rfl | rfl <;> exact .inl ⟨by decide +kernel, by decide +kernel, by decide +kernel, by decide +kernel⟩
def eights (n : Int) (cs : List Ctr) (od : PyData) : List PyData :=
  [boardD n cs, .tuple [.int n, .tuple (cs.map twinC)], boardD n cs, .tuple [.int 1, .tuple []], .tuple [.bool true, .tuple []], .tuple [.int 1, .tuple []], od, .tuple [.int 4, .tuple []]]
theorem eights_sx {n : Int} {cs : List Ctr} {od d : PyData} (n1 : 1 ≤ n) (n4 : n ≤ 4) (hl : cs.length ≤ 8) (hc : ∀ c ∈ cs, c.Ok n) (ho : od ∈ odds) (h : d ∈ eights n cs od) : Sx 10 900000 d := by
  have hb : Sx 10 900000 (boardD n cs) := (tm_board hc (by omega) (by omega) (by omega)).sx.mono (by decide) (by decide)
  unfold eights at h
  simp only [List.mem_cons, List.not_mem_nil, or_false] at h
  rcases h with rfl | rfl | rfl | rfl | rfl | rfl | rfl | rfl
  · exact hb
  · refine two_l ((tm_small (by omega)).mono (by decide) (by decide)) ((tm_upto (k := 8) (n := 1) (m := 900) (M := 400000) (fun d hd => ?_) (by rw [List.length_map]; exact hl) (by decide)).mono (by decide) (by decide)).sx
    obtain ⟨c, hm, rfl⟩ := List.mem_map.mp hd
    exact tm_twinC ((hc c hm).lo n4)
  · exact hb
  · exact .inl ⟨by decide +kernel, by decide +kernel, by decide +kernel, by decide +kernel⟩
  · exact .inl ⟨by decide +kernel, by decide +kernel, by decide +kernel, by decide +kernel⟩
  · exact .inl ⟨by decide +kernel, by decide +kernel, by decide +kernel, by decide +kernel⟩
  · exact (odds_sx ho).mono (by decide) (by decide)
  · exact .inl ⟨by decide +kernel, by decide +kernel, by decide +kernel, by decide +kernel⟩
section
variable {P : Program} {w : World} {K : PySem.W.Frag} {mg : Str → Option Value} {base : Heap}
def spLaw (K : PySem.W.Frag) : Sp := fun vs H Q _ => ∃ (a : Addr) (ns : List Int), vs = [.ref a] ∧ SqL K H a (ns.map V.int) ∧ ∀ H', Q (.bl true) H'
theorem ok_law {f f1 f2 f3 f4 f5 f6 f7 f8 f9 : Addr} {fd fd1 fd2 fd3 fd4 fd5 fd6 fd7 fd8 fd9 : FuncData} (h : Has K mg "law" sLaw ["_law_script"] f fd) (T : Bz mg)
    (T_deck : Has K mg "_law_deck" sDeck ["_law_script"] f1 fd1) (T_same : Has K mg "_law_same" sSame ["_law_value", "_law_due"] f2 fd2) (T_board : Has K mg "_law_board" sBoard ["_law_deck_here", "_law_most", "_law_many"] f3 fd3) (T_odd : Has K mg "_law_odd" sOdd ["_law_deck_here"] f4 fd4) (T_twin : Has K mg "_law_twin" sTwin ["_law_row"] f5 fd5) (T_error : Has K mg "_law_error" sError ["_law_value"] f6 fd6)
    (T_changed : Has K mg "_law_changed" sChanged ["_law_deck_here", "_law_board_here"] f7 fd7) (T_board_error : Has K mg "board_error" sPBoard_error ["value"] f8 fd8) (T_is_board : Has K mg "is_board" sPIs_board ["value"] f9 fd9)
    (G_deck : FnG P w K mg base CX0 1 f1 fd1 ["_law_script"] (spDeck K)) (G_same : FnG P w K mg base CX0 1 f2 fd2 ["_law_value", "_law_due"] (spP K PSame)) (G_board : FnG P w K mg base CX0 3 f3 fd3 ["_law_deck_here", "_law_most", "_law_many"] (spE K 1000 PreBoard PBoard))
    (G_odd : FnG P w K mg base CX0 2 f4 fd4 ["_law_deck_here"] (spE K 1 (fun ds => ds = []) POdd)) (G_twin : FnG P w K mg base CX0 1 f5 fd5 ["_law_row"] (spP K PTwin)) (G_error : FnG P w K mg base CX0 2 f6 fd6 ["_law_value"] (spP K (P1 berr)))
    (G_changed : FnG P w K mg base CX0 3 f7 fd7 ["_law_deck_here", "_law_board_here"] (spE K 6 PreChanged PChanged)) (G_board_error : FnG P w K mg base CX0 5 f8 fd8 ["value"] (spP K (P1 berr)))
    (G_is_board : FnG P w K mg base CX0 6 f9 fd9 ["value"] (spP K (P1 fun x => .bool (isNone (berr x))))) :
    FnG P w K mg base CX0 7 f fd ["_law_script"] (spLaw K) := by
  refine okG h.F scLaw (fun vs H Q E h => ?_) (fun cd A out s H vs Q E hgd hr h => ?_)
  · obtain ⟨a, ns, rfl, _⟩ := h
    rfl
  · obtain ⟨a, ns, rfl, hS, q⟩ := h
    refine ⟨_, (pss_cons (ps_set (i := 1) scLaw.nd rfl (Or.inr rfl) (pe_callG G_deck hgd (hr.mono (by decide)) rfl T_deck.m T_deck.F.kp T_deck.b .nil pass0 (pa_cons (pv 0) pa_nil)))
      (pss_cons (ps_for PassesOwn.never rfl (pi_range1 rfl T.z_range (pa_cons pe_int pa_nil)) (pg_name (i := 2) scLaw.nd rfl (Or.inl rfl))
        (pss_cons (ps_set (i := 3) scLaw.nd rfl (Or.inr rfl) (pe_callG G_board hgd (hr.mono (by decide)) rfl T_board.m T_board.F.kp T_board.b .nil pass0 (pa_cons (pv 1) (pa_cons (pe_ix (r := rIx K) ix_seq (pe_lst (pa_cons pe_int (pa_cons pe_int (pa_cons pe_int pa_nil)))) (pe_op op_mod (pv 2) pe_int) (fun _ _ => rfl)) (pa_cons pe_int pa_nil)))))
        (pss_cons (ps_set (i := 5) scLaw.nd rfl (Or.inl rfl) (pe_tup (pa_cons (pe_ix (r := rIx K) ix_seq (pv 3) pe_int (fun _ _ => rfl)) (pa_cons (pe_callTy (r := rTupU K) call_tupU rfl T.z_tuple boot_tupleU (pa_cons (pe_lc (own := [("_law_row", 4)]) rfl scLaw.nd (pi_tup (pe_ix (r := rIx K) ix_seq (pv 3) pe_int (fun _ _ => rfl))) (blkOk_by (N := NscLaw) (sc := defScope sLaw) (by decide +kernel)) (fun _ _ _ _ _ => (pg_name (i := 4) scLaw.nd rfl (Or.inl rfl))) (fun _ _ _ _ _ => pts_nil) (fun _ _ _ _ _ => (pe_callG G_twin hgd (hr.mono (by decide)) rfl T_twin.m T_twin.F.kp T_twin.b .nil pass0 (pa_cons (pv 4) pa_nil)))) pa_nil)) pa_nil))))
        (pss_cons (ps_set (i := 6) scLaw.nd rfl (Or.inl rfl) (pe_lst (pa_cons (pv 3) (pa_cons (pv 5) (pa_cons (pv 3) (pa_cons (pe_tup (pa_cons pe_int (pa_cons (pe_tup pa_nil) pa_nil))) (pa_cons (pe_tup (pa_cons pe_bl (pa_cons (pe_tup pa_nil) pa_nil))) (pa_cons (pe_tup (pa_cons pe_int (pa_cons (pe_tup pa_nil) pa_nil))) (pa_cons (pe_callG G_odd hgd (hr.mono (by decide)) rfl T_odd.m T_odd.F.kp T_odd.b .nil pass0 (pa_cons (pv 1) pa_nil)) (pa_cons (pe_tup (pa_cons pe_int (pa_cons (pe_tup pa_nil) pa_nil))) pa_nil))))))))))
        (pss_cons (ps_for PassesOwn.never rfl (pi_list (pe_lst (pa_cons (pe_tup (pa_cons pe_int (pa_cons pe_int (pa_cons pe_int (pa_cons pe_int pa_nil))))) (pa_cons (pe_tup (pa_cons pe_bl (pa_cons pe_int (pa_cons pe_int (pa_cons pe_int pa_nil))))) (pa_cons (pe_tup (pa_cons pe_int (pa_cons pe_bl (pa_cons pe_int (pa_cons pe_int pa_nil))))) (pa_cons (pe_tup (pa_cons pe_int (pa_cons pe_int (pa_cons pe_bl (pa_cons pe_int pa_nil))))) (pa_cons (pe_tup (pa_cons pe_int (pa_cons pe_int (pa_cons pe_int (pa_cons pe_bl pa_nil))))) (pa_cons (pe_tup (pa_cons pe_int (pa_cons pe_int (pa_cons pe_int (pa_cons pe_int pa_nil))))) pa_nil)))))))) (pg_name (i := 4) scLaw.nd rfl (Or.inl rfl))
          (pss_one (ps_expr (pe_bm PySem.F.plainAttrs_list PySem.F.slot_list_append PySem.F.type_list_append mt_append (pv 6) (pa_cons (pe_tup (pa_cons pe_int (pa_cons (pe_tup (pa_cons (pv 4) pa_nil)) pa_nil))) pa_nil)))))
        (pss_one (ps_for PassesOwn.never rfl (pi_list (pe_op (r := rAddU K) op_addU (pv 6) (pe_lc (own := [("_law_k", 10)]) rfl scLaw.nd (pi_range1 rfl T.z_range (pa_cons pe_int pa_nil)) (blkOk_by (N := NscLaw) (sc := defScope sLaw) (by decide +kernel)) (fun _ _ _ _ _ => (pg_name (i := 10) scLaw.nd rfl (Or.inl rfl))) (fun _ _ _ _ _ => pts_nil) (fun _ _ _ _ _ => (pe_callG G_changed hgd (hr.mono (by decide)) rfl T_changed.m T_changed.F.kp T_changed.b .nil pass0 (pa_cons (pv 1) (pa_cons (pv 3) pa_nil))))))) (pg_name (i := 7) scLaw.nd rfl (Or.inr rfl))
          (pss_cons (ps_par (i := 8) (j := 9) rfl scLaw.nd rfl rfl (by decide) rfl rfl (pa_cons (pe_callB (r := rRepr K) (call_reprD hgd hr.units) rfl T.z_repr boot_repr (pa_cons (pv 7) pa_nil)) (pa_cons (pe_callG G_error hgd (hr.mono (by decide)) rfl T_error.m T_error.F.kp T_error.b .nil pass0 (pa_cons (pv 7) pa_nil)) pa_nil)) rfl)
          (pss_cons (ps_if (pt_not (pt_val (pe_callG G_same hgd (hr.mono (by decide)) rfl T_same.m T_same.F.kp T_same.b .nil pass0 (pa_cons (pe_lc (own := [("_law_again", 11)]) rfl scLaw.nd (pi_range1 rfl T.z_range (pa_cons pe_int pa_nil)) (blkOk_by (N := NscLaw) (sc := defScope sLaw) (by decide +kernel)) (fun _ _ _ _ _ => (pg_name (i := 11) scLaw.nd rfl (Or.inl rfl))) (fun _ _ _ _ _ => pts_nil) (fun _ _ _ _ _ => (pe_callG G_board_error hgd (hr.mono (by decide)) rfl T_board_error.m T_board_error.F.kp T_board_error.b .nil pass0 (pa_cons (pv 7) pa_nil)))) (pa_cons (pe_lst (pa_cons (pv 9) (pa_cons (pv 9) pa_nil))) pa_nil)))))
            (pss_one (ps_ret pe_bl))
            pss_nil)
          (pss_one (ps_if (PW.pt (pw_or (pt_cmpR op_ne (pe_callB (r := rRepr K) (call_reprD hgd hr.units) rfl T.z_repr boot_repr (pa_cons (pe_callG G_is_board hgd (hr.mono (by decide)) rfl T_is_board.m T_is_board.F.kp T_is_board.b .nil pass0 (pa_cons (pv 7) pa_nil)) pa_nil)) (pe_callB (r := rRepr K) (call_reprD hgd hr.units) rfl T.z_repr boot_repr (pa_cons (pe_cmpR op_isNU (pv 9) pe_non (nomark _)) pa_nil)) (nomark _)) (pw_or1 (pt_cmpR op_ne (pe_callB (r := rRepr K) (call_reprD hgd hr.units) rfl T.z_repr boot_repr (pa_cons (pv 7) pa_nil)) (pv 8) (nomark _)))))
            (pss_one (ps_ret pe_bl))
            pss_nil)))))))))))
      (pss_one (ps_ret pe_bl)))), ?_⟩
    rw [show L2.start NscLaw [.ref a] = [some (.ref a), none, none, none, none, none, none, none, none, none, none, none] from rfl]
    refine ⟨.ref a, rfl, a, ns, rfl, hS, fun D C H1 s1 nD nC dk => ?_⟩
    dsimp only [List.set]
    generalize hB : (fun a => a = D ∨ a = C) = B at dk
    have vi : ∀ {B' : Addr → Prop} {H' : Hp} {z : Int}, Rp K B' H' (.int z) (.int z) := rp_int.mpr rfl
    refine sd_forR (K := K) (B := B) (H := H1) (n := 8) (da_cons dn_int da_nil) (by decide) (Xt.refl dk.al) (fun H2 s2 => ?_)
    have dk2 := dk.same s2
    refine ⟨fun i σ H' => ∃ (t : Int) (y2 y3 y4 y5 y6 y7 y8 y9 y10 y11 : Option V), σ = [some (.ref a), some (.ref D), y2, y3, y4, y5, y6, y7, y8, y9, y10, y11] ∧ Dk B H' D C t ∧ t ≤ 1100 * i, ?_, ?_, ?_⟩
    · exact ⟨0, none, none, none, none, none, none, none, none, none, none, rfl, dk2, by omega⟩
    · rintro i _ H3 hi ⟨t3, y2, y3, y4, y5, y6, y7, y8, y9, y10, y11, rfl, k3, l3⟩
      dsimp only [gName, List.set]
      obtain ⟨m, hm, m0, m1⟩ := draw3 i
      -- board
      refine se_set (K := K) (B := B) (D := D) (C := C) (H := H3) (t := t3) (m := 1000) (Φ := IsBoard 4 8) ?_ (Xt.refl k3.al) k3 (by unfold Lim; omega) (fun vb d H4 t4 x4 k4 l4 pd rb => ?_)
      · refine Ef.weak (ef_callE rfl (DnA.ef (da_cons (dn_op (dn_lst (da_cons dn_int (da_cons dn_int (da_cons dn_int da_nil))) (by decide)) (dn_op (dn_var rfl vi) dn_int (rd_I (by decide))) (rd_ixL hm)) (da_cons dn_int da_nil))) ?_ (by decide)) (fun d p => p) (by decide)
        rintro ds rfl
        refine ⟨⟨m, 8, rfl, m0, m1, by decide, by decide⟩, fun c pc => ?_⟩
        obtain ⟨a', b', e, n, cs, rfl, p1, p2, p3, p4⟩ := pc
        simp only [List.cons.injEq, PyData.int.injEq, and_true] at e
        obtain ⟨rfl, rfl⟩ := e
        exact ⟨n, cs, rfl, p1, by omega, p3, p4⟩
      obtain ⟨n, cs, rfl, n0, n4, lcs, hcs⟩ := pd
      have lc8 : cs.length ≤ 8 := by omega
      dsimp only [List.set]
      -- twin
      refine sd_set (K := K) (B := B) (H := H4) (d := .tuple [.int n, .tuple (cs.map twinC)]) ?_ (Xt.refl k4.al) (fun vt H5 s5 rt => ?_)
      · refine dn_tup (da_cons (dn_op (dn_var rfl rb) dn_int (rd_ixT rfl)) (da_cons (dn_cb (da_cons (dn_lcT (ds := cs.map Ctr.d) (es := cs.map twinC) (dn_op (dn_var rfl rb) dn_int (rd_ixT rfl)) (by rw [List.length_map]; omega) (by rw [List.length_map, List.length_map]) ?_) da_nil) rc_tupL) da_nil)) (by show (2 : Nat) ≤ 100000; decide)
        intro B' gw i d e v' H1 gd ge x1 r1 Q' q'
        rw [List.getElem?_map] at gd ge
        cases gi : cs[i]? with
        | none => rw [gi] at gd; cases gd
        | some z =>
          rw [gi] at gd ge
          cases gd
          cases ge
          refine q' _ rfl ?_
          exact dn_call (da_cons (dn_var rfl r1) da_nil) ⟨[z.s, z.t, z.g, z.e], rfl, by show (4 : Nat) ≤ 1000; decide, rfl⟩
      have k5 := k4.same s5
      replace rb := rb.up (Xt.of k4.al s5)
      dsimp only [List.set]
      -- values
      refine se_newL (K := K) (B := B) (D := D) (C := C) (H := H5) (t := t4) (m := 1) (Φs := fun ds => ∃ od ∈ odds, ds = eights n cs od) ?_ ?_ (Xt.refl k5.al) k5 (by unfold Lim; omega) (fun L H6 t6 ds nL x6 k6 l6 pds own up => ?_)
      · refine EfA.weak (ea_cons (Dn.ef (dn_var rfl rb)) (ea_cons (Dn.ef (dn_var rfl rt)) (ea_cons (Dn.ef (dn_var rfl rb)) (ea_cons (Dn.ef (d := .tuple [.int 1, .tuple []]) ?_) (ea_cons (Dn.ef (d := .tuple [.bool true, .tuple []]) ?_) (ea_cons (Dn.ef (d := .tuple [.int 1, .tuple []]) ?_) (ea_cons (ef_callE (Θ := fun d => d ∈ odds) rfl ea_nil (fun ds e => ⟨e, fun c p => p⟩) (by decide)) (ea_cons (Dn.ef (d := .tuple [.int 4, .tuple []]) ?_) ea_nil (by decide)) (by decide)) (by decide)) (by decide)) (by decide)) (by decide)) (by decide)) (by decide)) ?_ (by decide)
        · (repeat' first | with_reducible exact dn_int | with_reducible exact dn_bl | with_reducible exact dn_non | with_reducible exact dn_str | with_reducible exact da_nil | with_reducible exact rd_add | with_reducible exact rd_eqI | with_reducible exact rd_neI | with_reducible exact rd_eqS | with_reducible exact rd_neS | with_reducible exact rd_I0 | with_reducible exact rd_B0 | with_reducible exact rd_isN | with_reducible exact rc_lenT | with_reducible exact rc_lenL | with_reducible exact rc_tupL | with_reducible exact rc_tupT | with_reducible exact rc_lstT | with_reducible exact rc_lstL | with_reducible exact rc_intB | with_reducible exact rc_min | with_reducible exact rc_max | with_reducible exact ru_neg | with_reducible exact do_none | with_reducible exact dn_dict0 | with_reducible exact dn_dict1 | ((with_reducible apply dn_var); exact rfl; first | exact rp_int.mpr rfl | exact rp_str.mpr rfl | exact rp_bl.mpr rfl | assumption) | ((with_reducible apply rd_ixT); exact rfl) | ((with_reducible apply rd_ixL); exact rfl) | ((with_reducible apply rd_I); first | decide | exact ⟨by decide, by decide, by decide⟩) | with_reducible apply da_cons | with_reducible apply dn_tup | with_reducible apply dn_lst | with_reducible apply rd_catT | with_reducible apply rd_catL | with_reducible apply rd_repT | with_reducible apply rd_repL | with_reducible apply rd_mulI | with_reducible apply dn_slT | with_reducible apply dn_slL | with_reducible apply dn_op | with_reducible apply dn_un | with_reducible apply dn_cb | with_reducible apply do_some (K := K) | apply dn_revT | ((with_reducible refine (show (_ : Nat) ≤ _ from ?_)); simp only [cutD, List.length_append, List.length_map, List.length_cons, List.length_nil, List.length_take, List.length_drop, List.length_reverse, List.length_replicate]; omega))
        · (repeat' first | with_reducible exact dn_int | with_reducible exact dn_bl | with_reducible exact dn_non | with_reducible exact dn_str | with_reducible exact da_nil | with_reducible exact rd_add | with_reducible exact rd_eqI | with_reducible exact rd_neI | with_reducible exact rd_eqS | with_reducible exact rd_neS | with_reducible exact rd_I0 | with_reducible exact rd_B0 | with_reducible exact rd_isN | with_reducible exact rc_lenT | with_reducible exact rc_lenL | with_reducible exact rc_tupL | with_reducible exact rc_tupT | with_reducible exact rc_lstT | with_reducible exact rc_lstL | with_reducible exact rc_intB | with_reducible exact rc_min | with_reducible exact rc_max | with_reducible exact ru_neg | with_reducible exact do_none | with_reducible exact dn_dict0 | with_reducible exact dn_dict1 | ((with_reducible apply dn_var); exact rfl; first | exact rp_int.mpr rfl | exact rp_str.mpr rfl | exact rp_bl.mpr rfl | assumption) | ((with_reducible apply rd_ixT); exact rfl) | ((with_reducible apply rd_ixL); exact rfl) | ((with_reducible apply rd_I); first | decide | exact ⟨by decide, by decide, by decide⟩) | with_reducible apply da_cons | with_reducible apply dn_tup | with_reducible apply dn_lst | with_reducible apply rd_catT | with_reducible apply rd_catL | with_reducible apply rd_repT | with_reducible apply rd_repL | with_reducible apply rd_mulI | with_reducible apply dn_slT | with_reducible apply dn_slL | with_reducible apply dn_op | with_reducible apply dn_un | with_reducible apply dn_cb | with_reducible apply do_some (K := K) | apply dn_revT | ((with_reducible refine (show (_ : Nat) ≤ _ from ?_)); simp only [cutD, List.length_append, List.length_map, List.length_cons, List.length_nil, List.length_take, List.length_drop, List.length_reverse, List.length_replicate]; omega))
        · (repeat' first | with_reducible exact dn_int | with_reducible exact dn_bl | with_reducible exact dn_non | with_reducible exact dn_str | with_reducible exact da_nil | with_reducible exact rd_add | with_reducible exact rd_eqI | with_reducible exact rd_neI | with_reducible exact rd_eqS | with_reducible exact rd_neS | with_reducible exact rd_I0 | with_reducible exact rd_B0 | with_reducible exact rd_isN | with_reducible exact rc_lenT | with_reducible exact rc_lenL | with_reducible exact rc_tupL | with_reducible exact rc_tupT | with_reducible exact rc_lstT | with_reducible exact rc_lstL | with_reducible exact rc_intB | with_reducible exact rc_min | with_reducible exact rc_max | with_reducible exact ru_neg | with_reducible exact do_none | with_reducible exact dn_dict0 | with_reducible exact dn_dict1 | ((with_reducible apply dn_var); exact rfl; first | exact rp_int.mpr rfl | exact rp_str.mpr rfl | exact rp_bl.mpr rfl | assumption) | ((with_reducible apply rd_ixT); exact rfl) | ((with_reducible apply rd_ixL); exact rfl) | ((with_reducible apply rd_I); first | decide | exact ⟨by decide, by decide, by decide⟩) | with_reducible apply da_cons | with_reducible apply dn_tup | with_reducible apply dn_lst | with_reducible apply rd_catT | with_reducible apply rd_catL | with_reducible apply rd_repT | with_reducible apply rd_repL | with_reducible apply rd_mulI | with_reducible apply dn_slT | with_reducible apply dn_slL | with_reducible apply dn_op | with_reducible apply dn_un | with_reducible apply dn_cb | with_reducible apply do_some (K := K) | apply dn_revT | ((with_reducible refine (show (_ : Nat) ≤ _ from ?_)); simp only [cutD, List.length_append, List.length_map, List.length_cons, List.length_nil, List.length_take, List.length_drop, List.length_reverse, List.length_replicate]; omega))
        · (repeat' first | with_reducible exact dn_int | with_reducible exact dn_bl | with_reducible exact dn_non | with_reducible exact dn_str | with_reducible exact da_nil | with_reducible exact rd_add | with_reducible exact rd_eqI | with_reducible exact rd_neI | with_reducible exact rd_eqS | with_reducible exact rd_neS | with_reducible exact rd_I0 | with_reducible exact rd_B0 | with_reducible exact rd_isN | with_reducible exact rc_lenT | with_reducible exact rc_lenL | with_reducible exact rc_tupL | with_reducible exact rc_tupT | with_reducible exact rc_lstT | with_reducible exact rc_lstL | with_reducible exact rc_intB | with_reducible exact rc_min | with_reducible exact rc_max | with_reducible exact ru_neg | with_reducible exact do_none | with_reducible exact dn_dict0 | with_reducible exact dn_dict1 | ((with_reducible apply dn_var); exact rfl; first | exact rp_int.mpr rfl | exact rp_str.mpr rfl | exact rp_bl.mpr rfl | assumption) | ((with_reducible apply rd_ixT); exact rfl) | ((with_reducible apply rd_ixL); exact rfl) | ((with_reducible apply rd_I); first | decide | exact ⟨by decide, by decide, by decide⟩) | with_reducible apply da_cons | with_reducible apply dn_tup | with_reducible apply dn_lst | with_reducible apply rd_catT | with_reducible apply rd_catL | with_reducible apply rd_repT | with_reducible apply rd_repL | with_reducible apply rd_mulI | with_reducible apply dn_slT | with_reducible apply dn_slL | with_reducible apply dn_op | with_reducible apply dn_un | with_reducible apply dn_cb | with_reducible apply do_some (K := K) | apply dn_revT | ((with_reducible refine (show (_ : Nat) ≤ _ from ?_)); simp only [cutD, List.length_append, List.length_map, List.length_cons, List.length_nil, List.length_take, List.length_drop, List.length_reverse, List.length_replicate]; omega))
        · rintro ds ⟨_, _, rfl, rfl, _, _, rfl, rfl, _, _, rfl, rfl, _, _, rfl, rfl, _, _, rfl, rfl, _, _, rfl, rfl, od, _, rfl, ho, _, _, rfl, rfl, rfl⟩
          exact ⟨od, ho, rfl⟩
      · rintro ds ⟨od, _, rfl⟩
        show (8 : Nat) ≤ 100000
        decide
      obtain ⟨od, ho, rfl⟩ := pds
      have nB := own.nB
      have nDL : D ≠ L := k5.nD nB
      have nCL : C ≠ L := k5.nC nB
      have rb6 := up rb
      have rt6 := up rt
      dsimp only [List.set]
      -- six more
      refine sd_forL (K := K) (B := Bp B L) (H := H6) (ds := six) ?_ (Xt.refl k6.al) (fun H7 s7 => ?_)
      · unfold six
        (repeat' first | with_reducible exact dn_int | with_reducible exact dn_bl | with_reducible exact dn_non | with_reducible exact dn_str | with_reducible exact da_nil | with_reducible exact rd_add | with_reducible exact rd_eqI | with_reducible exact rd_neI | with_reducible exact rd_eqS | with_reducible exact rd_neS | with_reducible exact rd_I0 | with_reducible exact rd_B0 | with_reducible exact rd_isN | with_reducible exact rc_lenT | with_reducible exact rc_lenL | with_reducible exact rc_tupL | with_reducible exact rc_tupT | with_reducible exact rc_lstT | with_reducible exact rc_lstL | with_reducible exact rc_intB | with_reducible exact rc_min | with_reducible exact rc_max | with_reducible exact ru_neg | with_reducible exact do_none | with_reducible exact dn_dict0 | with_reducible exact dn_dict1 | ((with_reducible apply dn_var); exact rfl; first | exact rp_int.mpr rfl | exact rp_str.mpr rfl | exact rp_bl.mpr rfl | assumption) | ((with_reducible apply rd_ixT); exact rfl) | ((with_reducible apply rd_ixL); exact rfl) | ((with_reducible apply rd_I); first | decide | exact ⟨by decide, by decide, by decide⟩) | with_reducible apply da_cons | with_reducible apply dn_tup | with_reducible apply dn_lst | with_reducible apply rd_catT | with_reducible apply rd_catL | with_reducible apply rd_repT | with_reducible apply rd_repL | with_reducible apply rd_mulI | with_reducible apply dn_slT | with_reducible apply dn_slL | with_reducible apply dn_op | with_reducible apply dn_un | with_reducible apply dn_cb | with_reducible apply do_some (K := K) | apply dn_revT | ((with_reducible refine (show (_ : Nat) ≤ _ from ?_)); simp only [cutD, List.length_append, List.length_map, List.length_cons, List.length_nil, List.length_take, List.length_drop, List.length_reverse, List.length_replicate]; omega))
      have k7 := k6.same s7
      refine ⟨fun j σ H' => ∃ (y4 y7 y8 y9 y10 y11 : Option V), σ = [some (.ref a), some (.ref D), some (.int (0 + i)), some vb, y4, some vt, some (.ref L), y7, y8, y9, y10, y11] ∧ Pt L H7 H' ∧ Al (Bp B L) H' ∧ Own K B L H' (eights n cs od ++ (six.take j).map inBoard), ?_, ?_, ?_, ?_⟩
      · exact ⟨_, _, _, _, _, _, rfl, Pt.refl, k7.al, by rw [show (six.take 0).map inBoard = [] from rfl, List.append_nil]; exact own.same k6.al s7⟩
      · rintro j _ H' ⟨_, _, _, _, _, _, _, pt, al, _⟩
        exact pt.xt al
      · rintro j d v _ H8 gd rv ⟨y4, y7, y8, y9, y10, y11, rfl, pt, al, own8⟩
        dsimp only [gName, List.set]
        have lj : (six.take j).length ≤ 6 := by rw [List.length_take]; exact Nat.min_le_right _ _
        refine sd_append (K := K) (B := B) (L := L) (H := H8) (d := inBoard d) rfl ?_ (Xt.refl al) own8 (by rw [List.length_append, List.length_map]; show 8 + _ < 100000; omega) (fun H9 p9 al9 own9 => ?_)
        · unfold inBoard
          (repeat' first | with_reducible exact dn_int | with_reducible exact dn_bl | with_reducible exact dn_non | with_reducible exact dn_str | with_reducible exact da_nil | with_reducible exact rd_add | with_reducible exact rd_eqI | with_reducible exact rd_neI | with_reducible exact rd_eqS | with_reducible exact rd_neS | with_reducible exact rd_I0 | with_reducible exact rd_B0 | with_reducible exact rd_isN | with_reducible exact rc_lenT | with_reducible exact rc_lenL | with_reducible exact rc_tupL | with_reducible exact rc_tupT | with_reducible exact rc_lstT | with_reducible exact rc_lstL | with_reducible exact rc_intB | with_reducible exact rc_min | with_reducible exact rc_max | with_reducible exact ru_neg | with_reducible exact do_none | with_reducible exact dn_dict0 | with_reducible exact dn_dict1 | ((with_reducible apply dn_var); exact rfl; first | exact rp_int.mpr rfl | exact rp_str.mpr rfl | exact rp_bl.mpr rfl | assumption) | ((with_reducible apply rd_ixT); exact rfl) | ((with_reducible apply rd_ixL); exact rfl) | ((with_reducible apply rd_I); first | decide | exact ⟨by decide, by decide, by decide⟩) | with_reducible apply da_cons | with_reducible apply dn_tup | with_reducible apply dn_lst | with_reducible apply rd_catT | with_reducible apply rd_catL | with_reducible apply rd_repT | with_reducible apply rd_repL | with_reducible apply rd_mulI | with_reducible apply dn_slT | with_reducible apply dn_slL | with_reducible apply dn_op | with_reducible apply dn_un | with_reducible apply dn_cb | with_reducible apply do_some (K := K) | apply dn_revT | ((with_reducible refine (show (_ : Nat) ≤ _ from ?_)); simp only [cutD, List.length_append, List.length_map, List.length_cons, List.length_nil, List.length_take, List.length_drop, List.length_reverse, List.length_replicate]; omega))
        · refine ⟨_, _, _, _, _, _, rfl, pt.trans p9, al9, ?_⟩
          rw [List.take_add_one, gd, List.map_append, ← List.append_assoc]
          exact own9
      rintro _ H8 ⟨y4, y7, y8, y9, y10, y11, rfl, pt, al, own8⟩
      have x68 : Xt (Bk D C) H5 H8 := Pt.xk x6 nL ((Pt.of s7).trans pt) nDL nCL
      have k8' : Dk (Bp B L) H8 D C t6 := k7.pt pt al nDL nCL
      have k8 : Dk B H8 D C t6 := k8'.less bp_up k5.bD k5.bC
      have rb8 := rb.up (k5.wd x68)
      have rL := own8.rp
      rw [show six.take six.length = six from List.take_length] at rL
      generalize hvs : eights n cs od ++ six.map inBoard = vals at rL
      have hvals : ∀ x ∈ vals, Sx 10 900000 x := fun x hx => by
        rw [← hvs] at hx
        rcases List.mem_append.mp hx with hx | hx
        · exact eights_sx (by omega) n4 lc8 hcs ho hx
        · obtain ⟨y, hy, rfl⟩ := List.mem_map.mp hx
          exact six_sx hy
      have lvals : vals.length = 14 := by rw [← hvs]; rfl
      dsimp only
      -- for value
      refine se_forL (K := K) (B := B) (D := D) (C := C) (H := H8) (t := t6) (m := 60) (Φ := fun d => ∃ ds, d = .list ds ∧ ∀ x ∈ ds, Sx 10 900000 x) ?_ (Xt.refl k8.al) k8 (by unfold Lim; omega) (fun d ⟨ds, e, _⟩ => ⟨ds, e⟩) (fun ds H9 t9 pds x9 k9 l9 => ?_)
      · refine Ef.weak (ef_op (n := 0) (m := 60) (Ψ := fun d => ∃ ds, d = .list ds ∧ ds.length = 10 ∧ ∀ (i : Nat) d, ds[i]? = some d → Sx 10 900000 d) (Dn.ef (dn_var rfl rL)) (Ef.weak (ef_lcR (n := 10) (c := 6) (Φ := fun _ d => Sx 10 900000 d) (da_cons dn_int da_nil) (by decide) (by decide) ?_) (fun d p => p) (by decide)) ?_ (by decide)) (fun d p => p) (by decide)
        · intro B' gw j hj
          refine Ef.weak (ef_callE (Θ := fun d => Sx 10 900000 d) rfl (DnA.ef (da_cons (dn_var rfl (Rp.grow gw _ _ rb8)) da_nil)) ?_ (by decide)) (fun d p => p) (by decide)
          rintro ds rfl
          exact ⟨⟨n, cs, rfl, by omega, n4, lc8, hcs⟩, fun c p => p⟩
        · rintro _ _ rfl ⟨es, rfl, le, he⟩
          refine ⟨_, ⟨vals ++ es, rfl, fun x hx => ?_⟩, rd_catL (by omega)⟩
          rcases List.mem_append.mp hx with hx | hx
          · exact hvals x hx
          · obtain ⟨i, hi⟩ := List.mem_iff_getElem?.mp hx
            exact he i x hi
      obtain ⟨ds', e1, hds⟩ := pds
      cases e1
      refine ⟨fun _ σ H' => ∃ (y4 y7 y8 y9 y10 y11 : Option V), σ = [some (.ref a), some (.ref D), some (.int (0 + i)), some vb, y4, some vt, some (.ref L), y7, y8, y9, y10, y11] ∧ Same H9 H', ?_, ?_, ?_, ?_⟩
      · exact ⟨_, _, _, _, _, _, rfl, Same.refl H9⟩
      · rintro _ _ H' ⟨_, _, _, _, _, _, _, sx⟩
        exact Xt.of k9.al sx
      · rintro j x v _ H10 gd rv ⟨y4, y7, y8, y9, y10, y11, rfl, s10⟩
        dsimp only [gName, List.set]
        have al10 := k9.al.same s10
        have hx := hds x (List.mem_of_getElem? gd)
        have shx : Shx x := hx.shx (by decide) (by decide)
        -- before, due
        refine sd_par (K := K) (B := B) (H := H10) (da := .str x.shown) (db := berr x) (da_cons (dn_cb (da_cons (dn_var rfl rv) da_nil) (rc_reprX shx)) (da_cons (dn_call (da_cons (dn_var rfl rv) da_nil) ⟨x, rfl, rfl⟩) da_nil)) (Xt.refl al10) (fun ve vd H11 s11 re rd => ?_)
        obtain rfl := rp_str.mp re
        have al11 := al10.same s11
        replace rv := rv.up (Xt.of al10 s11)
        dsimp only [List.set]
        have sh2 := shw_two (sm_berr x) (by decide) (by decide)
        refine sd_if (B := B) (H := H11) (b := false) ?_ (Xt.refl al11) (fun z => by cases z) (fun _ H12 s12 => ?_)
        · refine dt_not (b := true) (dt_B (K := K) (dn_call (da_cons (dn_lcR (n := 2) (es := [berr x, berr x]) (da_cons dn_int da_nil) (by decide) rfl fun B' gw k e ge => ?_) (da_cons (dn_lst (da_cons (dn_var rfl rd) (da_cons (dn_var rfl rd) da_nil)) (by show (2 : Nat) ≤ 100000; decide)) da_nil)) ⟨_, _, rfl, sh2, sh2, by rw [decide_eq_true rfl]⟩))
          have ee : e = berr x := by
            match k, ge with
            | 0, ge => exact (Option.some.inj ge).symm
            | 1, ge => exact (Option.some.inj ge).symm
            | k + 2, ge => simp at ge
          subst ee
          exact dn_call (da_cons (dn_var rfl (Rp.grow gw _ _ rv)) da_nil) ⟨x, rfl, rfl⟩
        dsimp only [tNext]
        have al12 := al11.same s12
        replace rv := rv.up (Xt.of al11 s12)
        replace rd := rd.up (Xt.of al11 s12)
        refine sd_if (B := B) (H := H12) (b := false) ?_ (Xt.refl al12) (fun z => by cases z) (fun _ H13 s13 => ?_)
        · refine DnT.eq (dt_or (b := false) (c := false) (DnT.eq (dt_test (K := K) (dn_op (dn_cb (da_cons (dn_call (da_cons (dn_var rfl rv) da_nil) ⟨x, rfl, rfl⟩) da_nil) (rc_repr shw_bool)) (dn_cb (da_cons (dn_op (dn_var rfl rd) dn_non rd_isN) da_nil) (rc_repr shw_bool)) rd_neS)) ?_) fun _ => DnT.eq (dt_test (K := K) (dn_op (dn_cb (da_cons (dn_var rfl rv) da_nil) (rc_reprX shx)) (dn_var rfl (rp_str.mpr rfl)) rd_neS)) ?_) rfl
          · rw [decide_eq_true rfl]
            rfl
          · rw [decide_eq_true rfl]
            rfl
        · exact ⟨_, _, _, _, _, _, rfl, s10.trans (s11.trans (s12.trans s13))⟩
      · rintro _ H10 ⟨y4, y7, y8, y9, y10, y11, rfl, s10⟩
        exact ⟨t9, _, _, _, _, _, _, _, _, _, _, rfl, k9.same s10, by omega⟩
    · rintro _ H3 ⟨t3, y2, y3, y4, y5, y6, y7, y8, y9, y10, y11, rfl, k3, l3⟩
      exact q H3
end
end CG

namespace CG
open PySem PySem.Spec PyProof.Rows L2
section
theorem all_mk {l : PySem.W.OpenLaw} {w : World} {K : PySem.W.Frag} {h : Heap} {mg : Str → Option Value} {fa f1 f2 f3 f4 f5 f6 f7 f8 f9 f10 f11 f12 f13 f14 f15 f16 f17 f18 : Addr} (X : K.In h) (G : h.Ns mainGlobals mg) (hfa : mg "law" = some (.ref fa))
    {od1 an1 od2 an2 od3 an3 od4 an4 od5 an5 od6 an6 od7 an7 od8 an8 od9 an9 od10 an10 od11 an11 od12 an12 od13 an13 od14 an14 od15 an15 od16 an16 od17 an17 od18 an18 : Option Addr} {sl1 sl2 sl3 sl4 sl5 sl6 sl7 sl8 sl9 sl10 sl11 sl12 sl13 sl14 sl15 sl16 sl17 sl18 : Array (Option Value)}
    {oc1 kV1 dc1 pm1 cd1 ct1 oc2 kV2 dc2 pm2 cd2 ct2 oc3 kV3 dc3 pm3 cd3 ct3 oc4 kV4 dc4 pm4 cd4 ct4 oc5 kV5 dc5 pm5 cd5 ct5 oc6 kV6 dc6 pm6 cd6 ct6 oc7 kV7 dc7 pm7 cd7 ct7 oc8 kV8 dc8 pm8 cd8 ct8 oc9 kV9 dc9 pm9 cd9 ct9 oc10 kV10 dc10 pm10 cd10 ct10 oc11 kV11 dc11 pm11 cd11 ct11 oc12 kV12 dc12 pm12 cd12 ct12 oc13 kV13 dc13 pm13 cd13 ct13 oc14 kV14 dc14 pm14 cd14 ct14 oc15 kV15 dc15 pm15 cd15 ct15 oc16 kV16 dc16 pm16 cd16 ct16 oc17 kV17 dc17 pm17 cd17 ct17 oc18 kV18 dc18 pm18 cd18 ct18 : Value}
    {tk1 tk2 tk3 : Tok}
    (a1 : PySem.W.nsIn K mainGlobals "is_number" = some (some (.ref f1)))
    (l1 : K.lookup f1 = some ⟨oc1, od1, .func (PySem.W.fnOf "is_number" "is_number" (defArgs sPIs_number) (defBody sPIs_number) (defScope sPIs_number) .none kV1 dc1 pm1 an1 cd1 ct1), sl1⟩)
    (c1 : PySem.W.codeIn K cd1 "is_number" = true) (k1 : PySem.W.keepIn K (.ref f1) = true)
    (a2 : PySem.W.nsIn K mainGlobals "is_between" = some (some (.ref f2)))
    (l2 : K.lookup f2 = some ⟨oc2, od2, .func (PySem.W.fnOf "is_between" "is_between" (defArgs sPIs_between) (defBody sPIs_between) (defScope sPIs_between) .none kV2 dc2 pm2 an2 cd2 ct2), sl2⟩)
    (c2 : PySem.W.codeIn K cd2 "is_between" = true) (k2 : PySem.W.keepIn K (.ref f2) = true)
    (a3 : PySem.W.nsIn K mainGlobals "is_kind" = some (some (.ref f3)))
    (l3 : K.lookup f3 = some ⟨oc3, od3, .func (PySem.W.fnOf "is_kind" "is_kind" (defArgs sPIs_kind) (defBody sPIs_kind) (defScope sPIs_kind) .none kV3 dc3 pm3 an3 cd3 ct3), sl3⟩)
    (c3 : PySem.W.codeIn K cd3 "is_kind" = true) (k3 : PySem.W.keepIn K (.ref f3) = true)
    (a4 : PySem.W.nsIn K mainGlobals "is_rate" = some (some (.ref f4)))
    (l4 : K.lookup f4 = some ⟨oc4, od4, .func (PySem.W.fnOf "is_rate" "is_rate" (defArgs sPIs_rate) (defBody sPIs_rate) (defScope sPIs_rate) .none kV4 dc4 pm4 an4 cd4 ct4), sl4⟩)
    (c4 : PySem.W.codeIn K cd4 "is_rate" = true) (k4 : PySem.W.keepIn K (.ref f4) = true)
    (a5 : PySem.W.nsIn K mainGlobals "is_counter" = some (some (.ref f5)))
    (l5 : K.lookup f5 = some ⟨oc5, od5, .func (PySem.W.fnOf "is_counter" "is_counter" (defArgs sPIs_counter) (defBody sPIs_counter) (defScope sPIs_counter) .none kV5 dc5 pm5 an5 cd5 ct5), sl5⟩)
    (c5 : PySem.W.codeIn K cd5 "is_counter" = true) (k5 : PySem.W.keepIn K (.ref f5) = true)
    (a6 : PySem.W.nsIn K mainGlobals "board_error" = some (some (.ref f6)))
    (l6 : K.lookup f6 = some ⟨oc6, od6, .func (PySem.W.fnOf "board_error" "board_error" (defArgs sPBoard_error) (defBody sPBoard_error) (defScope sPBoard_error) .none kV6 dc6 pm6 an6 cd6 ct6), sl6⟩)
    (c6 : PySem.W.codeIn K cd6 "board_error" = true) (k6 : PySem.W.keepIn K (.ref f6) = true)
    (a7 : PySem.W.nsIn K mainGlobals "is_board" = some (some (.ref f7)))
    (l7 : K.lookup f7 = some ⟨oc7, od7, .func (PySem.W.fnOf "is_board" "is_board" (defArgs sPIs_board) (defBody sPIs_board) (defScope sPIs_board) .none kV7 dc7 pm7 an7 cd7 ct7), sl7⟩)
    (c7 : PySem.W.codeIn K cd7 "is_board" = true) (k7 : PySem.W.keepIn K (.ref f7) = true)
    (a8 : PySem.W.nsIn K mainGlobals "_law_deck" = some (some (.ref f8)))
    (l8 : K.lookup f8 = some ⟨oc8, od8, .func (PySem.W.fnOf "_law_deck" "_law_deck" (defArgs sDeck) (defBody sDeck) (defScope sDeck) .none kV8 dc8 pm8 an8 cd8 ct8), sl8⟩)
    (c8 : PySem.W.codeIn K cd8 "_law_deck" = true) (k8 : PySem.W.keepIn K (.ref f8) = true)
    (a9 : PySem.W.nsIn K mainGlobals "_law_draw" = some (some (.ref f9)))
    (l9 : K.lookup f9 = some ⟨oc9, od9, .func (PySem.W.fnOf "_law_draw" "_law_draw" (defArgs sDraw) (defBody sDraw) (defScope sDraw) .none kV9 dc9 pm9 an9 cd9 ct9), sl9⟩)
    (c9 : PySem.W.codeIn K cd9 "_law_draw" = true) (k9 : PySem.W.keepIn K (.ref f9) = true)
    (a10 : PySem.W.nsIn K mainGlobals "_law_same" = some (some (.ref f10)))
    (l10 : K.lookup f10 = some ⟨oc10, od10, .func (PySem.W.fnOf "_law_same" "_law_same" (defArgs sSame) (defBody sSame) (defScope sSame) .none kV10 dc10 pm10 an10 cd10 ct10), sl10⟩)
    (c10 : PySem.W.codeIn K cd10 "_law_same" = true) (k10 : PySem.W.keepIn K (.ref f10) = true)
    (a11 : PySem.W.nsIn K mainGlobals "_law_is_number" = some (some (.ref f11)))
    (l11 : K.lookup f11 = some ⟨oc11, od11, .func (PySem.W.fnOf "_law_is_number" "_law_is_number" (defArgs sL_number) (defBody sL_number) (defScope sL_number) .none kV11 dc11 pm11 an11 cd11 ct11), sl11⟩)
    (c11 : PySem.W.codeIn K cd11 "_law_is_number" = true) (k11 : PySem.W.keepIn K (.ref f11) = true)
    (a12 : PySem.W.nsIn K mainGlobals "_law_counter" = some (some (.ref f12)))
    (l12 : K.lookup f12 = some ⟨oc12, od12, .func (PySem.W.fnOf "_law_counter" "_law_counter" (defArgs sCounter) (defBody sCounter) (defScope sCounter) .none kV12 dc12 pm12 an12 cd12 ct12), sl12⟩)
    (c12 : PySem.W.codeIn K cd12 "_law_counter" = true) (k12 : PySem.W.keepIn K (.ref f12) = true)
    (a13 : PySem.W.nsIn K mainGlobals "_law_board" = some (some (.ref f13)))
    (l13 : K.lookup f13 = some ⟨oc13, od13, .func (PySem.W.fnOf "_law_board" "_law_board" (defArgs sBoard) (defBody sBoard) (defScope sBoard) .none kV13 dc13 pm13 an13 cd13 ct13), sl13⟩)
    (c13 : PySem.W.codeIn K cd13 "_law_board" = true) (k13 : PySem.W.keepIn K (.ref f13) = true)
    (a14 : PySem.W.nsIn K mainGlobals "_law_odd" = some (some (.ref f14)))
    (l14 : K.lookup f14 = some ⟨oc14, od14, .func (PySem.W.fnOf "_law_odd" "_law_odd" (defArgs sOdd) (defBody sOdd) (defScope sOdd) .none kV14 dc14 pm14 an14 cd14 ct14), sl14⟩)
    (c14 : PySem.W.codeIn K cd14 "_law_odd" = true) (k14 : PySem.W.keepIn K (.ref f14) = true)
    (a15 : PySem.W.nsIn K mainGlobals "_law_twin" = some (some (.ref f15)))
    (l15 : K.lookup f15 = some ⟨oc15, od15, .func (PySem.W.fnOf "_law_twin" "_law_twin" (defArgs sTwin) (defBody sTwin) (defScope sTwin) .none kV15 dc15 pm15 an15 cd15 ct15), sl15⟩)
    (c15 : PySem.W.codeIn K cd15 "_law_twin" = true) (k15 : PySem.W.keepIn K (.ref f15) = true)
    (a16 : PySem.W.nsIn K mainGlobals "_law_error" = some (some (.ref f16)))
    (l16 : K.lookup f16 = some ⟨oc16, od16, .func (PySem.W.fnOf "_law_error" "_law_error" (defArgs sError) (defBody sError) (defScope sError) .none kV16 dc16 pm16 an16 cd16 ct16), sl16⟩)
    (c16 : PySem.W.codeIn K cd16 "_law_error" = true) (k16 : PySem.W.keepIn K (.ref f16) = true)
    (a17 : PySem.W.nsIn K mainGlobals "_law_changed" = some (some (.ref f17)))
    (l17 : K.lookup f17 = some ⟨oc17, od17, .func (PySem.W.fnOf "_law_changed" "_law_changed" (defArgs sChanged) (defBody sChanged) (defScope sChanged) .none kV17 dc17 pm17 an17 cd17 ct17), sl17⟩)
    (c17 : PySem.W.codeIn K cd17 "_law_changed" = true) (k17 : PySem.W.keepIn K (.ref f17) = true)
    (a18 : PySem.W.nsIn K mainGlobals "law" = some (some (.ref f18)))
    (l18 : K.lookup f18 = some ⟨oc18, od18, .func (PySem.W.fnOf "law" "law" (defArgs sLaw) (defBody sLaw) (defScope sLaw) .none kV18 dc18 pm18 an18 cd18 ct18), sl18⟩)
    (c18 : PySem.W.codeIn K cd18 "law" = true) (k18 : PySem.W.keepIn K (.ref f18) = true)
    (z_len : PySem.W.nsIn K mainGlobals "len" = some none)
    (z_abs : PySem.W.nsIn K mainGlobals "abs" = some none)
    (z_range : PySem.W.nsIn K mainGlobals "range" = some none)
    (z_repr : PySem.W.nsIn K mainGlobals "repr" = some none)
    (z_min : PySem.W.nsIn K mainGlobals "min" = some none)
    (z_max : PySem.W.nsIn K mainGlobals "max" = some none)
    (z_int : PySem.W.nsIn K mainGlobals "int" = some none)
    (z_tuple : PySem.W.nsIn K mainGlobals "tuple" = some none)
    (z_list : PySem.W.nsIn K mainGlobals "list" = some none)
    (z_bool : PySem.W.nsIn K mainGlobals "bool" = some none)
    (z_isinstance : PySem.W.nsIn K mainGlobals "isinstance" = some none)
    (z_enumerate : PySem.W.nsIn K mainGlobals "enumerate" = some none)
    (u_MAX_RATE : PySem.W.nsIn K mainGlobals "MAX_RATE" = some (some (.int 5 tk1)))
    (u_MAX_KINDS : PySem.W.nsIn K mainGlobals "MAX_KINDS" = some (some (.int 4 tk2)))
    (u_MAX_COUNTERS : PySem.W.nsIn K mainGlobals "MAX_COUNTERS" = some (some (.int 8 tk3))) :
    ∃ fd : FuncData, (∀ (s : Shared) (v : Value), BindsTo s fd ⟨[v], []⟩ [("_law_script", v)]) ∧ ∀ base : Heap, K.In base → base.Ns mainGlobals mg → FnG l.prog w K mg base CX0 7 fa fd ["_law_script"] (spLaw K) := by
  have e := hfa.symm.trans (PySem.W.mg_of X G a18)
  cases e
  have F1 := fun_mk (st := sPIs_number) l1 c1 k1
  have T1 : Has K mg "is_number" sPIs_number ["value"] f1 _ := ⟨F1, PySem.W.mg_of X G a1, F1.binds fun _ _ _ _ _ _ us hl => match us, hl with | [_], _ => rfl⟩
  have F2 := fun_mk (st := sPIs_between) l2 c2 k2
  have T2 : Has K mg "is_between" sPIs_between ["value", "least", "most"] f2 _ := ⟨F2, PySem.W.mg_of X G a2, F2.binds fun _ _ _ _ _ _ us hl => match us, hl with | [_, _, _], _ => rfl⟩
  have F3 := fun_mk (st := sPIs_kind) l3 c3 k3
  have T3 : Has K mg "is_kind" sPIs_kind ["value", "kinds"] f3 _ := ⟨F3, PySem.W.mg_of X G a3, F3.binds fun _ _ _ _ _ _ us hl => match us, hl with | [_, _], _ => rfl⟩
  have F4 := fun_mk (st := sPIs_rate) l4 c4 k4
  have T4 : Has K mg "is_rate" sPIs_rate ["value"] f4 _ := ⟨F4, PySem.W.mg_of X G a4, F4.binds fun _ _ _ _ _ _ us hl => match us, hl with | [_], _ => rfl⟩
  have F5 := fun_mk (st := sPIs_counter) l5 c5 k5
  have T5 : Has K mg "is_counter" sPIs_counter ["value", "kinds"] f5 _ := ⟨F5, PySem.W.mg_of X G a5, F5.binds fun _ _ _ _ _ _ us hl => match us, hl with | [_, _], _ => rfl⟩
  have F6 := fun_mk (st := sPBoard_error) l6 c6 k6
  have T6 : Has K mg "board_error" sPBoard_error ["value"] f6 _ := ⟨F6, PySem.W.mg_of X G a6, F6.binds fun _ _ _ _ _ _ us hl => match us, hl with | [_], _ => rfl⟩
  have F7 := fun_mk (st := sPIs_board) l7 c7 k7
  have T7 : Has K mg "is_board" sPIs_board ["value"] f7 _ := ⟨F7, PySem.W.mg_of X G a7, F7.binds fun _ _ _ _ _ _ us hl => match us, hl with | [_], _ => rfl⟩
  have F8 := fun_mk (st := sDeck) l8 c8 k8
  have T8 : Has K mg "_law_deck" sDeck ["_law_script"] f8 _ := ⟨F8, PySem.W.mg_of X G a8, F8.binds fun _ _ _ _ _ _ us hl => match us, hl with | [_], _ => rfl⟩
  have F9 := fun_mk (st := sDraw) l9 c9 k9
  have T9 : Has K mg "_law_draw" sDraw ["_law_deck_here", "_law_limit"] f9 _ := ⟨F9, PySem.W.mg_of X G a9, F9.binds fun _ _ _ _ _ _ us hl => match us, hl with | [_, _], _ => rfl⟩
  have F10 := fun_mk (st := sSame) l10 c10 k10
  have T10 : Has K mg "_law_same" sSame ["_law_value", "_law_due"] f10 _ := ⟨F10, PySem.W.mg_of X G a10, F10.binds fun _ _ _ _ _ _ us hl => match us, hl with | [_, _], _ => rfl⟩
  have F11 := fun_mk (st := sL_number) l11 c11 k11
  have T11 : Has K mg "_law_is_number" sL_number ["_law_value", "_law_low", "_law_high"] f11 _ := ⟨F11, PySem.W.mg_of X G a11, F11.binds fun _ _ _ _ _ _ us hl => match us, hl with | [_, _, _], _ => rfl⟩
  have F12 := fun_mk (st := sCounter) l12 c12 k12
  have T12 : Has K mg "_law_counter" sCounter ["_law_deck_here", "_law_kinds"] f12 _ := ⟨F12, PySem.W.mg_of X G a12, F12.binds fun _ _ _ _ _ _ us hl => match us, hl with | [_, _], _ => rfl⟩
  have F13 := fun_mk (st := sBoard) l13 c13 k13
  have T13 : Has K mg "_law_board" sBoard ["_law_deck_here", "_law_most", "_law_many"] f13 _ := ⟨F13, PySem.W.mg_of X G a13, F13.binds fun _ _ _ _ _ _ us hl => match us, hl with | [_, _, _], _ => rfl⟩
  have F14 := fun_mk (st := sOdd) l14 c14 k14
  have T14 : Has K mg "_law_odd" sOdd ["_law_deck_here"] f14 _ := ⟨F14, PySem.W.mg_of X G a14, F14.binds fun _ _ _ _ _ _ us hl => match us, hl with | [_], _ => rfl⟩
  have F15 := fun_mk (st := sTwin) l15 c15 k15
  have T15 : Has K mg "_law_twin" sTwin ["_law_row"] f15 _ := ⟨F15, PySem.W.mg_of X G a15, F15.binds fun _ _ _ _ _ _ us hl => match us, hl with | [_], _ => rfl⟩
  have F16 := fun_mk (st := sError) l16 c16 k16
  have T16 : Has K mg "_law_error" sError ["_law_value"] f16 _ := ⟨F16, PySem.W.mg_of X G a16, F16.binds fun _ _ _ _ _ _ us hl => match us, hl with | [_], _ => rfl⟩
  have F17 := fun_mk (st := sChanged) l17 c17 k17
  have T17 : Has K mg "_law_changed" sChanged ["_law_deck_here", "_law_board_here"] f17 _ := ⟨F17, PySem.W.mg_of X G a17, F17.binds fun _ _ _ _ _ _ us hl => match us, hl with | [_, _], _ => rfl⟩
  have F18 := fun_mk (st := sLaw) l18 c18 k18
  have T18 : Has K mg "law" sLaw ["_law_script"] _ _ := ⟨F18, PySem.W.mg_of X G a18, F18.binds fun _ _ _ _ _ _ us hl => match us, hl with | [_], _ => rfl⟩
  have T : Bz mg := ⟨PySem.W.mg_none_of X G z_len, PySem.W.mg_none_of X G z_abs, PySem.W.mg_none_of X G z_range, PySem.W.mg_none_of X G z_repr, PySem.W.mg_none_of X G z_min, PySem.W.mg_none_of X G z_max, PySem.W.mg_none_of X G z_int, PySem.W.mg_none_of X G z_tuple, PySem.W.mg_none_of X G z_list, PySem.W.mg_none_of X G z_bool, PySem.W.mg_none_of X G z_isinstance, PySem.W.mg_none_of X G z_enumerate⟩
  have C_MAX_RATE := PySem.W.mg_of X G u_MAX_RATE
  have C_MAX_KINDS := PySem.W.mg_of X G u_MAX_KINDS
  have C_MAX_COUNTERS := PySem.W.mg_of X G u_MAX_COUNTERS
  exact ⟨PySem.W.fnOf "law" "law" (defArgs sLaw) (defBody sLaw) (defScope sLaw) .none kV18 dc18 pm18 an18 cd18 ct18, fun s v => .of_eq rfl, fun base _ _ => by
    have G1 := ok_number (P := l.prog) (w := w) (base := base) T1 T
    have G2 := ok_between T2 T1 T G1
    have G3 := ok_kind T3 T2 G2
    have G4 := ok_rate T4 T2 C_MAX_RATE ⟨_, rfl⟩ G2
    have G5 := ok_isctr T5 T3 T4 T G3 G4
    have G6 := ok_berr T6 T2 T5 T C_MAX_KINDS ⟨_, rfl⟩ C_MAX_COUNTERS ⟨_, rfl⟩ G2 G5
    have G7 := ok_isboard T7 T6 G6
    have G9 := ok_draw (P := l.prog) (w := w) (base := base) T9 T
    have G11 := ok_lnumber (P := l.prog) (w := w) (base := base) T11 T
    have G12 := ok_counter T12 T9 T G9
    have G14 := ok_odd T14 T T9 G9
    exact ok_law T18 T T8 T10 T13 T14 T15 T16 T17 T6 T7 (ok_deck T8 T) (ok_same T10 T) (ok_board T13 T9 T12 T G9 G12) G14 (ok_twin T15 T) (ok_error T16 T11 T G11) (ok_changed T17 T T9 T14 G9 G14) G6 G7⟩
end
end CG
open PySem PySem.W PyProof.Rows
set_option maxRecDepth 100000 in
set_option maxHeartbeats 0 in
theorem PySem.Challenge.cw_coincounters_k00_boards_judged_holds : PySem.Challenge.rw_coincounters_k00_boards_judged.Holds := by
  w_on; o_law; k_head; (case hw => w_witness2)
  k_fill
  refine CG.walkG (l := PySem.Challenge.rw_coincounters_k00_boards_judged) (n := 63) (k := 7) (x := "_law_script") (cx := fun _ => L2.CX0) (sp := fun w => CG.spLaw _) rfl (by decide) rfl ⟨rfl, by decide, by decide⟩ (fun w h Y => PySem.W.kIn_of Y) ?F (fun _ _ a ns hl _ hS => ⟨a, ns, rfl, hS, fun _ => rfl⟩) fun _ _ _ _ _ z => z
  case F =>
    intro w mg fa h KX G hmg
    refine' CG.all_mk KX G hmg ?a1 ?l1 ?c1 ?k1 ?a2 ?l2 ?c2 ?k2 ?a3 ?l3 ?c3 ?k3 ?a4 ?l4 ?c4 ?k4 ?a5 ?l5 ?c5 ?k5 ?a6 ?l6 ?c6 ?k6 ?a7 ?l7 ?c7 ?k7 ?a8 ?l8 ?c8 ?k8 ?a9 ?l9 ?c9 ?k9 ?a10 ?l10 ?c10 ?k10 ?a11 ?l11 ?c11 ?k11 ?a12 ?l12 ?c12 ?k12 ?a13 ?l13 ?c13 ?k13 ?a14 ?l14 ?c14 ?k14 ?a15 ?l15 ?c15 ?k15 ?a16 ?l16 ?c16 ?k16 ?a17 ?l17 ?c17 ?k17 ?a18 ?l18 ?c18 ?k18 ?z_len ?z_abs ?z_range ?z_repr ?z_min ?z_max ?z_int ?z_tuple ?z_list ?z_bool ?z_isinstance ?z_enumerate ?u_MAX_RATE ?u_MAX_KINDS ?u_MAX_COUNTERS
    (case a1 => k_is); (case l1 => k_is); (case c1 => k_is); (case k1 => k_is)
    (case a2 => k_is); (case l2 => k_is); (case c2 => k_is); (case k2 => k_is)
    (case a3 => k_is); (case l3 => k_is); (case c3 => k_is); (case k3 => k_is)
    (case a4 => k_is); (case l4 => k_is); (case c4 => k_is); (case k4 => k_is)
    (case a5 => k_is); (case l5 => k_is); (case c5 => k_is); (case k5 => k_is)
    (case a6 => k_is); (case l6 => k_is); (case c6 => k_is); (case k6 => k_is)
    (case a7 => k_is); (case l7 => k_is); (case c7 => k_is); (case k7 => k_is)
    (case a8 => k_is); (case l8 => k_is); (case c8 => k_is); (case k8 => k_is)
    (case a9 => k_is); (case l9 => k_is); (case c9 => k_is); (case k9 => k_is)
    (case a10 => k_is); (case l10 => k_is); (case c10 => k_is); (case k10 => k_is)
    (case a11 => k_is); (case l11 => k_is); (case c11 => k_is); (case k11 => k_is)
    (case a12 => k_is); (case l12 => k_is); (case c12 => k_is); (case k12 => k_is)
    (case a13 => k_is); (case l13 => k_is); (case c13 => k_is); (case k13 => k_is)
    (case a14 => k_is); (case l14 => k_is); (case c14 => k_is); (case k14 => k_is)
    (case a15 => k_is); (case l15 => k_is); (case c15 => k_is); (case k15 => k_is)
    (case a16 => k_is); (case l16 => k_is); (case c16 => k_is); (case k16 => k_is)
    (case a17 => k_is); (case l17 => k_is); (case c17 => k_is); (case k17 => k_is)
    (case a18 => k_is); (case l18 => k_is); (case c18 => k_is); (case k18 => k_is)
    (case z_len => k_is); (case z_abs => k_is); (case z_range => k_is); (case z_repr => k_is)
    (case z_min => k_is); (case z_max => k_is); (case z_int => k_is); (case z_tuple => k_is)
    (case z_list => k_is); (case z_bool => k_is); (case z_isinstance => k_is); (case z_enumerate => k_is)
    (case u_MAX_RATE => k_is); (case u_MAX_KINDS => k_is); (case u_MAX_COUNTERS => k_is)

