import PyProof.Rows.All
import Wide.All
import OpenK.AllK
import Wide.FinOn
import HandS.ForMost
import HandS.ForExc
import HandS.EndBits
import PyProof.ReprLen
import PyProof.ReprRoads
import PyProof.FitsInt
import HandS.TupAny
import HandS.Iter
import PySem.Challenge.RW_coincounters_k01_coins_changed
set_option Elab.async false
set_option linter.all false
set_option maxRecDepth 100000
set_option maxHeartbeats 4000000
/-! Part 1: promises of defs that are called where no repr is under way. -/
namespace CG
open PySem PySem.Spec PyProof.Rows L2
/-- the def at f keeps the promise sp wherever no guard is up and there is room -/
structure FnG (pr : Program) (wo : World) (K : PySem.W.Frag) (mg : Str → Option Value) (ba : Heap) (cx : CXT)
    (k : Nat) (f : Addr) (fd : FuncData) (ps : List Str) (sp : Sp) : Prop where
  len : ∀ vs H Q E, sp vs H Q E → vs.length = ps.length
  run : ∀ (A : Around) (out : List Env) (s : Shared) (H : Hp) (ar : Args) (us : List Value) (vs : List V) (Q : VK) (E : XK),
    A.guards = some [] → Room k A → Env0 pr wo K mg ba A out s H → BindsTo s fd ar (ps.zip us) → Vals vs us → sp vs H Q E →
    codeAny (model pr wo) A (.call (.ref f) ar) (CR cx out pr wo H s Q E) s
section
variable {pr : Program} {wo : World} {K : PySem.W.Frag} {mg : Str → Option Value} {ba : Heap} {cx : CXT}
theorem FnG.mono {j k : Nat} {f : Addr} {fd : FuncData} {ps : List Str} {sp : Sp} (G : FnG pr wo K mg ba cx j f fd ps sp) (h : j ≤ k) :
    FnG pr wo K mg ba cx k f fd ps sp :=
  ⟨G.len, fun A out s H ar us vs Q E hg hr => G.run A out s H ar us vs Q E hg (hr.mono h)⟩
theorem FnG.of {k : Nat} {f : Addr} {fd : FuncData} {ps : List Str} {sp : Sp} (G : FnOk pr wo K mg ba cx k f fd ps sp) :
    FnG pr wo K mg ba cx k f fd ps sp :=
  ⟨G.len, fun A out s H ar us vs Q E _ hr => G.run A out s H ar us vs Q E hr⟩
theorem FnG.imp {k : Nat} {f : Addr} {fd : FuncData} {ps : List Str} {sp sp' : Sp} (G : FnG pr wo K mg ba cx k f fd ps sp)
    (h : ∀ vs H Q E, sp' vs H Q E → sp vs H Q E) : FnG pr wo K mg ba cx k f fd ps sp' :=
  ⟨fun vs H Q E q => G.len vs H Q E (h _ _ _ _ q), fun A out s H ar us vs Q E hg hr he hb hv hs => G.run A out s H ar us vs Q E hg hr he hb hv (h _ _ _ _ hs)⟩
/-- a def by its body -/
theorem fnG_of {k : Nat} {f : Addr} {nm qu : Str} {pa : Arguments} {bd : List Stmt} {sc : Scope} {v1 v2 v3 v4 cd v5 oc : Value} {an od : Option Addr}
    {sl : Array (Option Value)} {N ps : List Str} {sp : Sp}
    (lk : K.lookup f = some ⟨oc, od, .func (PySem.W.fnOf nm qu pa bd sc v1 v2 v3 v4 an cd v5), sl⟩)
    (hcd : PySem.W.codeIn K cd qu = true) (S : FnScope N ps sc)
    (len : ∀ vs H Q E, sp vs H Q E → vs.length = ps.length)
    (hbo : ∀ (A : Around) (out : List Env) (s : Shared) (H : Hp) (vs : List V) (Q : VK) (E : XK), A.guards = some [] →
      Room k (A.deeper (envOfC qu sc s.heap.objs.size f cd)) → sp vs H Q E →
      ∃ t, PSs (cxOf cx pr wo K mg ba N qu sc f cd A out s H E) bd t ∧ t { nx := fun _ H' => Q .non H', rt := Q } (start N vs) H) :
    FnG pr wo K mg ba cx (k + 1) f (PySem.W.fnOf nm qu pa bd sc v1 v2 v3 v4 an cd v5) ps sp := by
  refine ⟨len, fun A out s H ar us vs Q E hgd hr e0 hb r hsp => ?_⟩
  have hl := len _ _ _ _ hsp
  have kin : K.In s.heap := e0.mod.kin.keeps fun b o z => (e0.bs b o z).1
  have nol : s.heap.NoLimit := e0.mod.nolimit.keeps fun b o z => (e0.bs b o z).1
  have kinds : ∀ y ∈ ps.zip us, sc.names.lookup y.1 = some .local ∨
      (sc.names.lookup y.1 = some .cell ∧ ((cellsFrom (s.heap.objs.size + 1) sc.names []).lookup y.1).isSome = true) := by
    rintro ⟨n, v⟩ hy
    rcases S.par n (List.of_mem_zip hy).1 with z | z
    · exact .inl z
    · exact .inr ⟨z, PySem.W.cellsFrom_some _ _ _ (.inl z)⟩
  refine codeAny_call_function hr.depth (kin _ _ lk) rfl S.co S.gen rfl (PySem.W.codeRec_of kin hcd) (hb _ _ _ _ ?_)
  refine wpAny_newFunctionEnv_cells S.kind kinds fun ev hev s1 x => ?_
  subst hev
  refine ⟨nol.keeps x.toInCall.keep, codeAny_func ?_⟩
  obtain ⟨t, ht, hq⟩ := hbo A out s H vs Q E hgd (hr.deeper _) hsp
  have I0 : Inv (cxOf cx pr wo K mg ba N qu sc f cd A out s H E) [] (start N vs) H s1 := inv_start S hr.hd e0 hl r x
  refine wpAny_mono (ht.run [] s1 (start N vs) H _ I0 hq) (fun fl s2 hs => ?_) fun e s2 hs => hs
  have done : ∀ {τ : L2.St} {H2 : Hp} {v : V} {u : Value}, Inv (cxOf cx pr wo K mg ba N qu sc f cd A out s H E) [] τ H2 s2 →
      RelV v u → Q v H2 → CE out pr wo H s Q u s2 := fun {τ H2 v u} J rv q => ⟨v, H2, J.os, J.bare, J.base, J.hok, rv, q⟩
  cases fl with
  | ret u =>
    obtain ⟨v, τ, H2, J, rv, q⟩ := hs
    exact done J rv q
  | next =>
    obtain ⟨τ, H2, J, q⟩ := hs
    exact done (v := V.non) (u := Value.none) J rfl q
  | brk =>
    obtain ⟨_, _, _, q⟩ := hs
    exact q.elim
  | cont =>
    obtain ⟨_, _, _, q⟩ := hs
    exact q.elim
theorem okG {x qu : Str} {st : Stmt} {f : Addr} {fd : FuncData} {N ps : List Str} {k : Nat} {sp : Sp} (F : Fun K x qu st f fd)
    (S : FnScope N ps (defScope st)) (len : ∀ vs H Q E, sp vs H Q E → vs.length = ps.length)
    (hbo : ∀ (cd : Value) (A : Around) (out : List Env) (s : Shared) (H : Hp) (vs : List V) (Q : VK) (E : XK), A.guards = some [] →
      Room k (A.deeper (envOfC qu (defScope st) s.heap.objs.size f cd)) → sp vs H Q E →
      ∃ t, PSs (cxOf CX0 pr wo K mg ba N qu (defScope st) f cd A out s H E).nox (defBody st) t ∧
        t { nx := fun _ H' => Q .non H', rt := Q } (start N vs) H) : FnG pr wo K mg ba CX0 (k + 1) f fd ps sp := by
  obtain ⟨oc, od, v2, v3, v4, an, cd, v5, sl, rfl, lk, hcd⟩ := F.ex
  refine fnG_of lk hcd S len fun A out s H vs Q E hg hr hsp => ?_
  obtain ⟨t, h, q⟩ := hbo cd A out s H vs Q E hg hr hsp
  exact ⟨t, h.nox, q⟩
theorem okGX {x qu : Str} {st : Stmt} {f : Addr} {fd : FuncData} {N ps : List Str} {k : Nat} {sp : Sp} (F : Fun K x qu st f fd)
    (S : FnScope N ps (defScope st)) (len : ∀ vs H Q E, sp vs H Q E → vs.length = ps.length)
    (hbo : ∀ (cd : Value) (A : Around) (out : List Env) (s : Shared) (H : Hp) (vs : List V) (Q : VK) (E : XK), A.guards = some [] →
      Room k (A.deeper (envOfC qu (defScope st) s.heap.objs.size f cd)) → sp vs H Q E →
      ∃ t, PSs (cxOf (L2.CX pr wo) pr wo K mg ba N qu (defScope st) f cd A out s H E) (defBody st) t ∧
        t { nx := fun _ H' => Q .non H', rt := Q } (start N vs) H) : FnG pr wo K mg ba (L2.CX pr wo) (k + 1) f fd ps sp := by
  obtain ⟨oc, od, v2, v3, v4, an, cd, v5, sl, rfl, lk, hcd⟩ := F.ex
  exact fnG_of lk hcd S len fun A out s H vs Q E hg hr hsp => hbo cd A out s H vs Q E hg hr hsp
end
section
variable {X : Cx} {cx : CXT} {k : Nat} {f : Addr} {fd : FuncData} {ps : List Str} {sp : Sp} {dvs : List V} {ds : List Value} {E : XK}
  {x : Str} {p pos : Pos} {e : Expr} {es : List Expr} {t : TA}
theorem runG {pins : List (Addr × Obj)} {σ : L2.St} {H : Hp} {s : Shared} {Q : VK} {us : List Value} {vs : List V}
    (G : FnG X.prog X.w X.K X.mg X.base cx k f fd ps sp) (hgd : X.A.guards = some []) (hr : Room k X.A) (hb : Binds X.K fd ps ds)
    (hd : Vals dvs ds) (hx : Passes cx X E) (I : Inv X pins σ H s) (r : Vals vs us) (h : sp (vs ++ dvs) H Q E) :
    wpAny (model X.prog X.w) X.A (call (.ref f) us) (EP X pins σ Q) X.xe s := by
  have rr : Vals (vs ++ dvs) (us ++ ds) := r.append hd
  have hl : (us ++ ds).length = ps.length := by
    rw [← rr.length]
    exact G.len _ _ _ _ h
  have go := G.run X.A X.stack s H ⟨us, []⟩ (us ++ ds) (vs ++ dvs) Q E hgd hr I.env0 (hb s us I.kIn hl) rr h
  refine wpAny_call (codeAny_mono go fun w s2 hq => ?_)
  cases w with
  | error er => exact hx pins σ H s er s2 I hq
  | ok fl =>
    cases fl with
    | ret u => exact I.after hq
    | next => exact hq.elim
    | brk => exact hq.elim
    | cont => exact hq.elim
/-- f(e, ..) -/
theorem pe_callG (G : FnG X.prog X.w X.K X.mg X.base cx k f fd ps sp) (hgd : X.A.guards = some []) (hr : Room k X.A) (hg : Gl X x)
    (hm : X.mg x = some (.ref f)) (hk : PySem.W.keepIn X.K (.ref f) = true) (hb : Binds X.K fd ps ds) (hd : Vals dvs ds)
    (hx : Passes cx X E) (ha : PA X (e :: es) t) (hdb : (x == ("__debug__" : Str)) = false := by decide)
    (he : starEach (e :: es) X.env = (false, eval e X.env) :: starEach es X.env := by rfl)
    (hpl : (backTo pos (starEach es X.env)).any (·.1) = false := by rfl) : PE X (.Call (.Name x p) (e :: es) [] pos) (tCall sp dvs E t) := by
  refine ⟨fun pins s σ H Q I h => wpAny_Call_Name_kw (ld_glob I hg hm ?_ hdb)⟩
  refine PySem.W.callWith_K (h₀ := X.base) I.ok.mod.kin hk ?_ he hpl
  exact thn (ha.run pos pins s σ H _ I h) fun us s1 ⟨vs, H1, I1, r, q⟩ => ⟨I1.kIn, runG G hgd hr hb hd hx I1 r q⟩
theorem pe_call0G (G : FnG X.prog X.w X.K X.mg X.base cx k f fd ps sp) (hgd : X.A.guards = some []) (hr : Room k X.A) (hg : Gl X x)
    (hm : X.mg x = some (.ref f)) (hk : PySem.W.keepIn X.K (.ref f) = true) (hb : Binds X.K fd ps ds) (hd : Vals dvs ds)
    (hx : Passes cx X E) (hdb : (x == ("__debug__" : Str)) = false := by decide) :
    PE X (.Call (.Name x p) [] [] pos) (tCall sp dvs E tNil) :=
  ⟨fun pins s σ H Q I h => wpAny_Call_Name_kw (ld_glob I hg hm (PySem.W.callWith_K0 I.kIn hk (runG (us := []) G hgd hr hb hd hx I .nil h)) hdb)⟩
end
/-- the law's call at the heap behind the top -/
theorem lawG {pr : Program} {wo : World} {K : PySem.W.Frag} {mg mb : Str → Option Value} {cx : CXT} {k : Nat} {fa a : Addr} {fd : FuncData}
    {x : Str} {sp : Sp} {s : Shared} {vs : List Value} {ns : List Int}
    (kin : K.In s.heap) (hns : s.heap.Ns mainGlobals mg) (hbn : s.heap.Ns builtinsNs mb) (hbb : ∀ x : Str, x ≠ "__name__" → mb x = bootBuiltins x)
    (hlim : s.heap.NoLimit) (hg : s.gens = #[]) (ha : s.heap.get? a = some { cls := .type "list", data := .seq vs.toArray })
    (hi : IntsAre vs ns) (hl : ns.length ≤ sizeLine) (hr : Room k callerA)
    (F : ∀ ba : Heap, K.In ba → ba.Ns mainGlobals mg → FnG pr wo K mg ba cx k fa fd [x] sp)
    (hbind : ∀ (s : Shared) (u : Value), BindsTo s fd ⟨[u], []⟩ [(x, u)])
    (hsp : ∀ H : Hp, Only H → SqL K H a (ns.map V.int) → sp [.ref a] H (fun v _ => v = .bl true) fun _ _ _ => False)
    (hCX : ∀ H e s', cx [] H s (fun _ _ _ => False) e s' → False) :
    codeAny (model pr wo) callerA (.call (.ref fa) ⟨[.ref a], []⟩)
      (fun r s' => r = .ok (.ret (.bool true)) ∧ OldK s.heap s'.heap ∧ s'.os = s.os ∧ AllBare s'.gens) s := by
  have rv := vals_ints hi
  have lenV := hi.length
  have core : ∀ H : Hp, Only H → SqL K H a (ns.map V.int) → HOk pr wo H s.heap → (∀ b, H b ≠ none → b = a) → (H a ≠ none → K.lookup a = none) →
      codeAny (model pr wo) callerA (.call (.ref fa) ⟨[.ref a], []⟩)
        (fun r s' => r = .ok (.ret (.bool true)) ∧ OldK s.heap s'.heap ∧ s'.os = s.os ∧ AllBare s'.gens) s := by
    intro H hO hS hok hA hK
    have down : ∀ {b : Addr} {o : Obj}, s.heap.get? b = some o → H b = none → (hidT s.heap H).get? b = some o := fun e n => hidT_get e n
    have free : ∀ {b : Addr} {o : Obj} {es : Array DictEntry} {ep : Nat}, s.heap.get? b = some o → o.data = .dict es ep → H b = none := by
      intro b o es ep z d
      cases q : H b with
      | none => rfl
      | some u =>
        have eb : b = a := hA b (by rw [q]; simp)
        subst eb
        rw [ha] at z
        cases z
        have d2 : Data.seq vs.toArray _ = Data.dict es ep := d
        cases d2
    have nsD : ∀ {b : Addr} {m : Str → Option Value}, s.heap.Ns b m → (hidT s.heap H).Ns b m := by
      rintro b m ⟨o, es, ep, z, d, r⟩
      exact ⟨o, es, ep, down z (free z d), d, r⟩
    have kinD : K.In (hidT s.heap H) := by
      intro b o z
      refine down (kin b o z) ?_
      cases q : H b with
      | none => rfl
      | some u =>
        have eb : b = a := hA b (by rw [q]; simp)
        subst eb
        rw [hK (by rw [q]; simp)] at z
        cases z
    obtain ⟨mc, l1, l2⟩ := hlim
    have md : Mod K mg (hidT s.heap H) := ⟨kinD, nsD hns, ⟨mb, nsD hbn, hbb⟩, ⟨mc, nsD l1, l2⟩⟩
    have e0 : Env0 pr wo K mg (hidT s.heap H) callerA [] s H :=
      ⟨rfl, md, fun b o z => of_hidT z, Nat.le_of_eq (hidT_size _ _), trivial, fun b hb => absurd (show b ∈ ([] : List Addr) from hb) (by simp), hok, .of_eq hg⟩
    have go := (F _ kinD (nsD hns)).run callerA [] s H ⟨[.ref a], []⟩ [.ref a] [.ref a] _ _ rfl hr e0 (hbind s (.ref a)) (.cons rfl .nil) (hsp H hO hS)
    refine codeAny_mono go fun r s' h => ?_
    cases r with
    | error er => exact (hCX H er s' h).elim
    | ok fl =>
      cases fl with
      | next => exact h.elim
      | brk => exact h.elim
      | cont => exact h.elim
      | ret u =>
        obtain ⟨v, H', os, bare, un, hok', r', q⟩ := h
        have q' : v = .bl true := q
        subst q'
        obtain rfl : u = Value.bool true := r'
        refine ⟨rfl, OldK.of_keep fun b o z => ?_, os, bare⟩
        cases q : H b with
        | none => exact un.keep b o z q (fun w => absurd (show b ∈ ([] : List Addr) from w) (by simp)) (by simp)
        | some u =>
          rcases hO b with w | ⟨ob, xs, w⟩
          · rw [q] at w
            cases w
          · have w2 := un.frzs b ob _ w
            obtain ⟨g1, _⟩ := hok b _ w
            obtain ⟨g2, _⟩ := hok' b _ w2
            rw [z] at g1
            cases g1
            exact g2
  cases hk : K.lookup a with
  | some o =>
    have e := kin a o hk
    rw [ha] at e
    cases e
    have sq : SqL K (fun _ => none) a (ns.map V.int) :=
      .inr ⟨_, vs.toArray, _, hk, rfl, rfl, rfl, by rw [List.size_toArray, lenV]; exact hl, by simpa using rv⟩
    exact core (fun _ => none) (fun _ => .inl rfl) sq (fun b u z => nomatch (show (none : Option HO) = some u from z)) (fun b z => absurd rfl z) fun z => absurd rfl z
  | none =>
    refine core (fun b => if b = a then some (.frz { cls := .type "list", data := .seq vs.toArray } (.lst (ns.map V.int))) else none)
      (fun b => ?_) (.inl (.inr ⟨{ cls := .type "list", data := .seq vs.toArray }, if_pos rfl⟩)) (fun b u z => ?_) (fun b z => ?_) fun _ => hk
    · by_cases hb : b = a
      · exact .inr ⟨_, _, if_pos hb⟩
      · exact .inl (if_neg hb)
    · by_cases hb : b = a
      · have w := (if_pos hb).symm.trans z
        cases w
        subst hb
        exact ⟨ha, by rw [List.length_map]; exact hl, vs, _, rv, ha⟩
      · have w := (if_neg hb).symm.trans z
        cases w
    · by_cases hb : b = a
      · exact hb
      · exact absurd (if_neg hb) z
/-- the end -/
theorem walkG {l : PySem.W.OpenLaw} {n k : Nat} {q : Program} {lo : List Str} {XP : (Str → Option Value) → Heap → Prop} {YP : World → Heap → Prop}
    {d : DefRec} {K : Params → PySem.W.Frag} {cx : World → CXT} {sp : World → Sp} {x : Str}
    (hn : l.most = some n) (hn2 : n ≤ sizeLine) (hdf : d.params.defaults = []) (hr : Room k callerA) (hY : ∀ (w : World) (h : Heap), YP w h → (K w.params).In h)
    (F : ∀ (w : World) (mg : Str → Option Value) (fa : Addr) (h : Heap), (K w.params).In h → h.Ns mainGlobals mg → mg d.name = some (.ref fa) →
      ∃ fd : FuncData, (∀ (s : Shared) (u : Value), BindsTo s fd ⟨[u], []⟩ [(x, u)]) ∧
        ∀ ba : Heap, (K w.params).In ba → ba.Ns mainGlobals mg → FnG l.prog w (K w.params) mg ba (cx w) k fa fd [x] (sp w))
    (hsp : ∀ (w : World) (H : Hp) (a : Addr) (ns : List Int), ns.length ≤ n → Only H → SqL (K w.params) H a (ns.map V.int) →
      sp w [.ref a] H (fun v _ => v = .bl true) fun _ _ _ => False)
    (hCX : ∀ (w : World) (H : Hp) (s : Shared) (e : Value) (s' : Shared), cx w [] H s (fun _ _ _ => False) e s' → False) :
    PySem.W.WalkO q lo XP YP l.row.toRowW d [] (fun f vs => PySem.call f vs) := by
  refine Att.attach_call hn hdf fun w s0 s1 mg mb fa o pm cd doc a vs ns G Y ho hd hcd hmg hobj hints hlen hg => ?_
  have kin := hY w _ Y
  obtain ⟨fd, hb, hF⟩ := F w mg fa _ kin G.T.g hmg
  have sp' := fun H hO hS => hsp w H a ns hlen hO hS
  exact lawG kin G.T.g G.T.b G.T.builtins G.T.nolimit hg hobj hints (Nat.le_trans hlen hn2) hr hF hb sp' fun H e s' => hCX w H s1 e s'
end CG

/-! Part 2: data held by the heap, away from the volatile places B; readings that denote data. -/
namespace CG
open PySem PySem.Spec PyProof.Rows L2
/-- the volatile places are tracked -/
def Al (B : Addr → Prop) (H : Hp) : Prop := ∀ a, B a → H a ≠ none
/-- all but the volatile places is kept -/
structure Xt (B : Addr → Prop) (H H' : Hp) : Prop where
  kp : ∀ a o, ¬ B a → H a = some o → H' a = some o
  al : Al B H'
section
variable {B : Addr → Prop} {H H1 H2 : Hp} {K : PySem.W.Frag} {a p : Addr} {xs : List V}
theorem Xt.refl (h : Al B H) : Xt B H H := ⟨fun _ _ _ e => e, h⟩
theorem Xt.trans (x : Xt B H H1) (y : Xt B H1 H2) : Xt B H H2 := ⟨fun a o n e => y.kp a o n (x.kp a o n e), y.al⟩
theorem Al.same (h : Al B H) (e : Same H H1) : Al B H1 := fun a b => by
  cases q : H a with
  | none => exact absurd q (h a b)
  | some o => rw [e a o q]; simp
theorem Xt.same (x : Xt B H H1) (e : Same H1 H2) : Xt B H H2 := ⟨fun a o n z => e a o (x.kp a o n z), x.al.same e⟩
theorem Xt.of (h : Al B H) (e : Same H H1) : Xt B H H1 := (Xt.refl h).same e
theorem Al.new (h : Al B H) (n : H p = none) : ¬ B p := fun b => h p b n
theorem same_new {o : HO} (n : H p = none) : Same H (upd H p o) := fun b z e => by
  rw [upd_ne (ne_of_none e n)]
  exact e
theorem Xt.sqT (x : Xt B H H1) (nb : ¬ B a) (h : SqT K H a xs) : SqT K H1 a xs := by
  rcases h with (h | ⟨o, h⟩) | h
  · exact .inl (.inl (x.kp _ _ nb h))
  · exact .inl (.inr ⟨o, x.kp _ _ nb h⟩)
  · exact .inr h
theorem Xt.sqL (x : Xt B H H1) (nb : ¬ B a) (h : SqL K H a xs) : SqL K H1 a xs := by
  rcases h with (h | ⟨o, h⟩) | h
  · exact .inl (.inl (x.kp _ _ nb h))
  · exact .inl (.inr ⟨o, x.kp _ _ nb h⟩)
  · exact .inr h
end
/-- a tuple of the written part -/
def KT (K : PySem.W.Frag) (a : Addr) (xs : List V) : Prop :=
  ∃ (o : Obj) (its : Array Value) (n : Nat), K.lookup a = some o ∧ o.cls = .type "tuple" ∧ o.data = .seq its n ∧ its.size ≤ sizeLine ∧ Vals xs its.toList
mutual
/-- v is the data d -/
def Rp (K : PySem.W.Frag) (B : Addr → Prop) (H : Hp) : PyData → V → Prop
  | .none, v => v = .non
  | .bool b, v => v = .bl b
  | .int i, v => v = .int i
  | .str x, v => v = .str x
  | .list ds, v => ∃ a xs, v = .ref a ∧ ¬ B a ∧ H a = some (.lst xs) ∧ RpA K B H ds xs
  | .tuple ds, v => ∃ a xs, v = .ref a ∧ (¬ B a ∨ KT K a xs) ∧ SqT K H a xs ∧ RpA K B H ds xs
  | .dict _, _ => False
def RpA (K : PySem.W.Frag) (B : Addr → Prop) (H : Hp) : List PyData → List V → Prop
  | [], xs => xs = []
  | d :: ds, xs => ∃ x r, xs = x :: r ∧ Rp K B H d x ∧ RpA K B H ds r
end
section
variable {K : PySem.W.Frag} {B : Addr → Prop} {H H1 H2 : Hp} {v : V} {d : PyData} {ds : List PyData} {xs : List V}
theorem rp_non : Rp K B H .none v ↔ v = .non := by simp only [Rp]
theorem rp_bl {b : Bool} : Rp K B H (.bool b) v ↔ v = .bl b := by simp only [Rp]
theorem rp_int {i : Int} : Rp K B H (.int i) v ↔ v = .int i := by simp only [Rp]
theorem rp_str {x : Str} : Rp K B H (.str x) v ↔ v = .str x := by simp only [Rp]
theorem rp_lst : Rp K B H (.list ds) v ↔ ∃ a xs, v = .ref a ∧ ¬ B a ∧ H a = some (.lst xs) ∧ RpA K B H ds xs := by simp only [Rp]
theorem rp_tup : Rp K B H (.tuple ds) v ↔ ∃ a xs, v = .ref a ∧ (¬ B a ∨ KT K a xs) ∧ SqT K H a xs ∧ RpA K B H ds xs := by simp only [Rp]
theorem rpa_nil : RpA K B H [] xs ↔ xs = [] := by simp only [RpA]
theorem rpa_cons : RpA K B H (d :: ds) xs ↔ ∃ x r, xs = x :: r ∧ Rp K B H d x ∧ RpA K B H ds r := by simp only [RpA]
theorem RpA.cons (h : Rp K B H d v) (t : RpA K B H ds xs) : RpA K B H (d :: ds) (v :: xs) := rpa_cons.mpr ⟨v, xs, rfl, h, t⟩
theorem RpA.nil : RpA K B H [] [] := rpa_nil.mpr rfl
theorem RpA.inv {x : V} (h : RpA K B H (d :: ds) (x :: xs)) : Rp K B H d x ∧ RpA K B H ds xs := by
  obtain ⟨y, r, e, h1, h2⟩ := rpa_cons.mp h
  cases e
  exact ⟨h1, h2⟩
mutual
theorem Rp.mono (x : Xt B H H1) : ∀ (d : PyData) (v : V), Rp K B H d v → Rp K B H1 d v
  | .none, v, h => rp_non.mpr (rp_non.mp h)
  | .bool b, v, h => rp_bl.mpr (rp_bl.mp h)
  | .int i, v, h => rp_int.mpr (rp_int.mp h)
  | .str s, v, h => rp_str.mpr (rp_str.mp h)
  | .list ds, v, h => by
    obtain ⟨a, xs, e, nb, s, t⟩ := rp_lst.mp h
    exact rp_lst.mpr ⟨a, xs, e, nb, x.kp _ _ nb s, RpA.mono x ds xs t⟩
  | .tuple ds, v, h => by
    obtain ⟨a, xs, e, nb, s, t⟩ := rp_tup.mp h
    exact rp_tup.mpr ⟨a, xs, e, nb, nb.elim (fun nb => x.sqT nb s) .inr, RpA.mono x ds xs t⟩
  | .dict kvs, v, h => by
    simp only [Rp] at h
theorem RpA.mono (x : Xt B H H1) : ∀ (ds : List PyData) (xs : List V), RpA K B H ds xs → RpA K B H1 ds xs
  | [], xs, h => rpa_nil.mpr (rpa_nil.mp h)
  | d :: ds, xs, h => by
    obtain ⟨y, r, e, h1, h2⟩ := rpa_cons.mp h
    exact rpa_cons.mpr ⟨y, r, e, Rp.mono x d y h1, RpA.mono x ds r h2⟩
end
theorem Rp.up (h : Rp K B H d v) (x : Xt B H H1) : Rp K B H1 d v := Rp.mono x d v h
theorem RpA.up (h : RpA K B H ds xs) (x : Xt B H H1) : RpA K B H1 ds xs := RpA.mono x ds xs h
theorem RpA.length : ∀ {ds : List PyData} {xs : List V}, RpA K B H ds xs → ds.length = xs.length
  | [], xs, h => by rw [rpa_nil.mp h]; rfl
  | d :: ds, xs, h => by
    obtain ⟨y, r, e, h1, h2⟩ := rpa_cons.mp h
    rw [e, List.length_cons, List.length_cons, RpA.length h2]
theorem RpA.get : ∀ {ds : List PyData} {xs : List V} {i : Nat} {d : PyData}, RpA K B H ds xs → ds[i]? = some d → ∃ x, xs[i]? = some x ∧ Rp K B H d x
  | [], xs, i, d, h, g => by simp at g
  | c :: ds, xs, 0, d, h, g => by
    obtain ⟨y, r, e, h1, h2⟩ := rpa_cons.mp h
    subst e
    simp only [List.getElem?_cons_zero, Option.some.injEq] at g
    subst g
    exact ⟨y, rfl, h1⟩
  | c :: ds, xs, i + 1, d, h, g => by
    obtain ⟨y, r, e, h1, h2⟩ := rpa_cons.mp h
    subst e
    rw [List.getElem?_cons_succ] at g
    obtain ⟨z, g1, g2⟩ := RpA.get h2 g
    exact ⟨z, by rw [List.getElem?_cons_succ]; exact g1, g2⟩
theorem RpA.back : ∀ {ds : List PyData} {xs : List V} {i : Nat} {x : V}, RpA K B H ds xs → xs[i]? = some x → ∃ d, ds[i]? = some d ∧ Rp K B H d x
  | [], xs, i, x, h, g => by rw [rpa_nil.mp h] at g; simp at g
  | c :: ds, xs, 0, x, h, g => by
    obtain ⟨y, r, e, h1, h2⟩ := rpa_cons.mp h
    subst e
    simp only [List.getElem?_cons_zero, Option.some.injEq] at g
    subst g
    exact ⟨c, rfl, h1⟩
  | c :: ds, xs, i + 1, x, h, g => by
    obtain ⟨y, r, e, h1, h2⟩ := rpa_cons.mp h
    subst e
    rw [List.getElem?_cons_succ] at g
    obtain ⟨z, g1, g2⟩ := RpA.back h2 g
    exact ⟨z, by rw [List.getElem?_cons_succ]; exact g1, g2⟩
theorem RpA.append : ∀ {ds es : List PyData} {xs ys : List V}, RpA K B H ds xs → RpA K B H es ys → RpA K B H (ds ++ es) (xs ++ ys)
  | [], es, xs, ys, h, k => by rw [rpa_nil.mp h]; exact k
  | c :: ds, es, xs, ys, h, k => by
    obtain ⟨y, r, e, h1, h2⟩ := rpa_cons.mp h
    subst e
    exact RpA.cons h1 (RpA.append h2 k)
theorem RpA.drop : ∀ {ds : List PyData} {xs : List V} (n : Nat), RpA K B H ds xs → RpA K B H (ds.drop n) (xs.drop n)
  | ds, xs, 0, h => h
  | [], xs, n + 1, h => by rw [rpa_nil.mp h]; exact RpA.nil
  | c :: ds, xs, n + 1, h => by
    obtain ⟨y, r, e, h1, h2⟩ := rpa_cons.mp h
    subst e
    exact RpA.drop n h2
theorem RpA.take : ∀ {ds : List PyData} {xs : List V} (n : Nat), RpA K B H ds xs → RpA K B H (ds.take n) (xs.take n)
  | ds, xs, 0, h => RpA.nil
  | [], xs, n + 1, h => by rw [rpa_nil.mp h]; exact RpA.nil
  | c :: ds, xs, n + 1, h => by
    obtain ⟨y, r, e, h1, h2⟩ := rpa_cons.mp h
    subst e
    exact RpA.cons h1 (RpA.take n h2)
theorem RpA.ints : ∀ (ns : List Int), RpA K B H (ns.map PyData.int) (ns.map V.int)
  | [] => RpA.nil
  | n :: ns => RpA.cons (rp_int.mpr rfl) (RpA.ints ns)
theorem RpA.ints_inv : ∀ {ns : List Int} {xs : List V}, RpA K B H (ns.map PyData.int) xs → xs = ns.map V.int
  | [], xs, h => rpa_nil.mp h
  | n :: ns, xs, h => by
    obtain ⟨y, r, e, h1, h2⟩ := rpa_cons.mp h
    rw [e, rp_int.mp h1, RpA.ints_inv h2]
    rfl
end
/-- B' is B with places that H does not know -/
structure Gw (B B' : Addr → Prop) (H : Hp) : Prop where
  up : ∀ a, B a → B' a
  fr : ∀ a, B' a → B a ∨ H a = none
section
variable {K : PySem.W.Frag} {B B' : Addr → Prop} {H H1 H2 : Hp}
theorem sqT_alive {a : Addr} {xs : List V} (h : SqT K H a xs) : KT K a xs ∨ H a ≠ none := by
  rcases h with (h | ⟨o, h⟩) | h
  · exact .inr (by rw [h]; simp)
  · exact .inr (by rw [h]; simp)
  · exact .inl h
mutual
theorem Rp.grow (g : Gw B B' H) : ∀ (d : PyData) (v : V), Rp K B H d v → Rp K B' H d v
  | .none, v, h => rp_non.mpr (rp_non.mp h)
  | .bool b, v, h => rp_bl.mpr (rp_bl.mp h)
  | .int i, v, h => rp_int.mpr (rp_int.mp h)
  | .str s, v, h => rp_str.mpr (rp_str.mp h)
  | .list ds, v, h => by
    obtain ⟨a, xs, e, nb, s, t⟩ := rp_lst.mp h
    refine rp_lst.mpr ⟨a, xs, e, fun z => ?_, s, RpA.grow g ds xs t⟩
    rcases g.fr a z with w | w
    · exact nb w
    · rw [s] at w
      cases w
  | .tuple ds, v, h => by
    obtain ⟨a, xs, e, nb, s, t⟩ := rp_tup.mp h
    refine rp_tup.mpr ⟨a, xs, e, ?_, s, RpA.grow g ds xs t⟩
    rcases nb with nb | nb
    · rcases sqT_alive s with k | k
      · exact .inr k
      · refine .inl fun z => ?_
        rcases g.fr a z with w | w
        · exact nb w
        · exact k w
    · exact .inr nb
  | .dict kvs, v, h => by
    simp only [Rp] at h
theorem RpA.grow (g : Gw B B' H) : ∀ (ds : List PyData) (xs : List V), RpA K B H ds xs → RpA K B' H ds xs
  | [], xs, h => rpa_nil.mpr (rpa_nil.mp h)
  | d :: ds, xs, h => by
    obtain ⟨y, r, e, h1, h2⟩ := rpa_cons.mp h
    exact rpa_cons.mpr ⟨y, r, e, Rp.grow g d y h1, RpA.grow g ds r h2⟩
end
mutual
theorem Rp.less (g : ∀ a, B a → B' a) : ∀ (d : PyData) (v : V), Rp K B' H d v → Rp K B H d v
  | .none, v, h => rp_non.mpr (rp_non.mp h)
  | .bool b, v, h => rp_bl.mpr (rp_bl.mp h)
  | .int i, v, h => rp_int.mpr (rp_int.mp h)
  | .str s, v, h => rp_str.mpr (rp_str.mp h)
  | .list ds, v, h => by
    obtain ⟨a, xs, e, nb, s, t⟩ := rp_lst.mp h
    exact rp_lst.mpr ⟨a, xs, e, fun z => nb (g a z), s, RpA.less g ds xs t⟩
  | .tuple ds, v, h => by
    obtain ⟨a, xs, e, nb, s, t⟩ := rp_tup.mp h
    exact rp_tup.mpr ⟨a, xs, e, nb.imp (fun nb z => nb (g a z)) id, s, RpA.less g ds xs t⟩
  | .dict kvs, v, h => by
    simp only [Rp] at h
theorem RpA.less (g : ∀ a, B a → B' a) : ∀ (ds : List PyData) (xs : List V), RpA K B' H ds xs → RpA K B H ds xs
  | [], xs, h => rpa_nil.mpr (rpa_nil.mp h)
  | d :: ds, xs, h => by
    obtain ⟨y, r, e, h1, h2⟩ := rpa_cons.mp h
    exact rpa_cons.mpr ⟨y, r, e, Rp.less g d y h1, RpA.less g ds r h2⟩
end
/-- one more place -/
def Bp (B : Addr → Prop) (p : Addr) : Addr → Prop := fun a => B a ∨ a = p
theorem gw_new {p : Addr} (n : H p = none) : Gw B (Bp B p) H := ⟨fun _ h => .inl h, fun a h => h.elim .inl fun e => .inr (by rw [e]; exact n)⟩
theorem bp_up {p : Addr} : ∀ a, B a → Bp B p a := fun _ h => .inl h
theorem Xt.less (x : Xt B' H H1) (g : ∀ a, B a → B' a) (fr : ∀ a, B' a → B a ∨ H a = none) : Xt B H H1 := ⟨fun a o nb e => x.kp a o (fun z => by
  rcases fr a z with w | w
  · exact nb w
  · rw [e] at w
    cases w) e, fun a h => x.al a (g a h)⟩
end
/-! ### repr -/
section
variable {X : Cx} {pins : List (Addr × Obj)} {σ : L2.St} {H : Hp} {s : Shared} {B : Addr → Prop}
mutual
theorem Rp.reads (I : Inv X pins σ H s) : ∀ (d : PyData) (v : V) (u : Value), Rp X.K B H d v → RelV v u → ∃ as, Reads s.heap u d as
  | .none, v, u, h, r => by
    rw [rp_non.mp h] at r
    obtain rfl : u = Value.none := r
    exact ⟨_, .none⟩
  | .bool b, v, u, h, r => by
    rw [rp_bl.mp h] at r
    obtain rfl : u = Value.bool b := r
    exact ⟨_, .bool b⟩
  | .int i, v, u, h, r => by
    rw [rp_int.mp h] at r
    obtain ⟨t, rfl⟩ : ∃ t, u = Value.int i t := r
    exact ⟨_, .int i t⟩
  | .str x, v, u, h, r => by
    rw [rp_str.mp h] at r
    obtain ⟨t, rfl⟩ : ∃ t, u = Value.str x t := r
    exact ⟨_, .str x t⟩
  | .list ds, v, u, h, r => by
    obtain ⟨a, xs, rfl, _, sq, t⟩ := rp_lst.mp h
    obtain rfl : u = Value.ref a := r
    obtain ⟨its, rv, ⟨o, n, e, hc, _, hd⟩, _⟩ := I.list (SqL.of sq)
    obtain ⟨as, g⟩ := RpA.reads I ds xs its t rv
    exact ⟨_, .list e hc hd (by simpa using g)⟩
  | .tuple ds, v, u, h, r => by
    obtain ⟨a, xs, rfl, _, sq, t⟩ := rp_tup.mp h
    obtain rfl : u = Value.ref a := r
    obtain ⟨its, rv, ⟨o, e, hc, n, hd⟩, _⟩ := I.tuple sq
    obtain ⟨as, g⟩ := RpA.reads I ds xs its t rv
    exact ⟨_, .tuple e hc hd (by simpa using g)⟩
  | .dict kvs, v, u, h, r => by
    simp only [Rp] at h
theorem RpA.reads (I : Inv X pins σ H s) : ∀ (ds : List PyData) (xs : List V) (us : List Value), RpA X.K B H ds xs → Vals xs us → ∃ as, ReadsAll s.heap us ds as
  | [], xs, us, h, r => by
    rw [rpa_nil.mp h] at r
    cases r
    exact ⟨_, .nil⟩
  | d :: ds, xs, us, h, r => by
    obtain ⟨y, rr, e, h1, h2⟩ := rpa_cons.mp h
    subst e
    cases r with
    | cons a b =>
      obtain ⟨as, g⟩ := Rp.reads I d _ _ h1 a
      obtain ⟨bs, k⟩ := RpA.reads I ds _ _ h2 b
      exact ⟨_, .cons g k⟩
end
end
/-- data whose text is known to be short: nested below n, of at most m signs -/
structure Sm (n m : Nat) (d : PyData) : Prop where
  sh : d.showable = true
  nd : d.hasDict = false
  dp : d.depth ≤ n
  ln : d.shown.length ≤ m
theorem Sm.mono {n m n' m' : Nat} {d : PyData} (h : Sm n m d) (hn : n ≤ n') (hm : m ≤ m') : Sm n' m' d :=
  ⟨h.sh, h.nd, Nat.le_trans h.dp hn, Nat.le_trans h.ln hm⟩
theorem sm_int {i : Int} (h : i.natAbs < 2 ^ 200) : Sm 0 202 (.int i) := by
  have hl : i.natAbs.log2 < 201 := by
    by_cases z : i.natAbs = 0
    · rw [z]; decide
    · have := (Nat.log2_lt z).mpr h
      omega
  refine ⟨?_, by simp only [PyData.hasDict], by simp only [PyData.depth]; exact Nat.le_refl _, ?_⟩
  · simp only [PyData.showable, decide_eq_true_eq]
    omega
  · rw [PyData.shown_int]
    have := int_text_length_le (a := i) (k := 201) (by decide) hl
    show (Str.ofString (toString i)).length ≤ 202
    rw [PySem.ofString_length]
    exact this
theorem sm_all {n m : Nat} : ∀ {ds : List PyData}, (∀ d ∈ ds, Sm n m d) →
    PyData.showableAll ds = true ∧ PyData.hasDictAll ds = false ∧ PyData.depthAll ds ≤ n ∧ ((PyData.shownAll ds).map (·.length)).sum ≤ ds.length * m
  | [], _ => by simp [PyData.showableAll, PyData.hasDictAll, PyData.depthAll, PyData.shownAll]
  | d :: ds, h => by
    obtain ⟨h1, h2, h3, h4⟩ := sm_all (ds := ds) fun x hx => h x (List.mem_cons_of_mem _ hx)
    have k := h d List.mem_cons_self
    refine ⟨?_, ?_, ?_, ?_⟩
    · simp only [PyData.showableAll, k.sh, h1, Bool.and_true]
    · simp only [PyData.hasDictAll, k.nd, h2, Bool.or_false]
    · simp only [PyData.depthAll]
      exact Nat.max_le.mpr ⟨k.dp, h3⟩
    · simp only [PyData.shownAll, List.map_cons, List.sum_cons, List.length_cons, Nat.succ_mul]
      have := k.ln
      omega
theorem sm_tup {n m : Nat} {ds : List PyData} (h : ∀ d ∈ ds, Sm n m d) : Sm (n + 1) (ds.length * m + 2 * ds.length + 3) (.tuple ds) := by
  obtain ⟨h1, h2, h3, h4⟩ := sm_all h
  refine ⟨by simpa only [PyData.showable] using h1, by simpa only [PyData.hasDict] using h2, by simp only [PyData.depth]; omega, ?_⟩
  have := tupleText_len_le (PyData.shownAll ds)
  simp only [PyData.shown]
  rw [PyData.shownAll_length] at this
  omega
theorem sm_lst {n m : Nat} {ds : List PyData} (h : ∀ d ∈ ds, Sm n m d) : Sm (n + 1) (ds.length * m + 2 * ds.length + 3) (.list ds) := by
  obtain ⟨h1, h2, h3, h4⟩ := sm_all h
  refine ⟨by simpa only [PyData.showable] using h1, by simpa only [PyData.hasDict] using h2, by simp only [PyData.depth]; omega, ?_⟩
  have := listText_len_le (PyData.shownAll ds)
  simp only [PyData.shown]
  rw [PyData.shownAll_length] at this
  omega
/-- small enough for repr -/
def Shw (d : PyData) : Prop := Sm 60 1000000 d
def rRepr (K : PySem.W.Frag) : List V → Hp → VK → Prop := fun xs H Q => ∃ B v d, xs = [v] ∧ Rp K B H d v ∧ Shw d ∧ Q (.str d.shown) H
theorem call_reprD {X : Cx} (hg : X.A.guards = some []) (hu : X.A.units + 64 < cLine) : CallR X (.builtin "repr") (rRepr X.K) := by
  intro pins s σ H xs us Q I r h
  obtain ⟨B, v, d, rfl, hd, hs, q⟩ := h
  obtain ⟨u, rfl, t⟩ := vals1 r
  obtain ⟨as, rd⟩ := Rp.reads I d v u hd t
  have sz : d.shown.length ≤ sizeLine := Nat.le_trans hs.ln (by decide)
  have fin : ∀ (h' : Heap) (u : Tok) (tk : Nat), (∀ b o, s.heap.get? b = some o → h'.get? b = some o) →
      EP X pins σ Q (.str d.shown u) { s with heap := h', toks := tk } := fun h' u tk hk =>
    ⟨.str d.shown, H, I.un (Un.kept hk) (I.hok.kept hk), ⟨u, rfl⟩, q⟩
  cases rd with
  | none =>
    have := fin s.heap s.toks (s.toks + 1) fun _ _ z => z
    rw [PyData.shown_none] at this
    exact PySem.P.repr_of_none this
  | bool b =>
    have := fin s.heap s.toks (s.toks + 1) fun _ _ z => z
    rw [PyData.shown_bool] at this
    refine PySem.P.repr_of_bool ?_
    cases b <;> exact this
  | int i t =>
    have := fin s.heap s.toks (s.toks + 1) fun _ _ z => z
    rw [PyData.shown_int] at this
    have z := hs.sh
    simp only [PyData.showable, decide_eq_true_eq] at z
    exact PySem.P.repr_of_int z this
  | str x t =>
    have := fin s.heap s.toks (s.toks + 1) fun _ _ z => z
    rw [PyData.shown_str] at this
    exact PySem.P.repr_of_str this (by rw [← PyData.shown_str]; exact sz)
  | list a1 a2 a3 a4 =>
    exact repr_of_reads' (.list a1 a2 a3 a4) hs.sh (PyData.noDict_hsm hs.nd) hg (by have := hs.dp; omega) (fun _ _ z => z) (fun h' u tk hk => fin h' u tk hk) sz
  | tuple a1 a2 a3 a4 =>
    exact repr_of_reads' (.tuple a1 a2 a3 a4) hs.sh (PyData.noDict_hsm hs.nd) hg (by have := hs.dp; omega) (fun _ _ z => z) (fun h' u tk hk => fin h' u tk hk) sz
  | dict =>
    have := hs.nd
    simp only [PyData.hasDict] at this
    cases this
end CG

/-! Part 3: readings that denote data. -/
namespace CG
open PySem PySem.Spec PyProof.Rows L2
/-- the reading te gives the data d and changes nothing that stands -/
def Dn (K : PySem.W.Frag) (B : Addr → Prop) (te : TE) (σ : L2.St) (H : Hp) (d : PyData) : Prop :=
  ∀ H1, Xt B H H1 → ∀ Q : VK, (∀ v H2, Same H1 H2 → Rp K B H2 d v → Q v H2) → te σ H1 Q
def DnA (K : PySem.W.Frag) (B : Addr → Prop) (ta : TA) (σ : L2.St) (H : Hp) (ds : List PyData) : Prop :=
  ∀ H1, Xt B H H1 → ∀ Q : List V → Hp → Prop, (∀ vs H2, Same H1 H2 → RpA K B H2 ds vs → Q vs H2) → ta σ H1 Q
def DnT (B : Addr → Prop) (tt : TT) (σ : L2.St) (H : Hp) (b : Bool) : Prop :=
  ∀ H1, Xt B H H1 → ∀ Q : Bool → Hp → Prop, (∀ H2, Same H1 H2 → Q b H2) → tt σ H1 Q
def DnO (B : Addr → Prop) (to : TO) (σ : L2.St) (H : Hp) (o : Option Int) : Prop :=
  ∀ H1, Xt B H H1 → ∀ Q : Option Int → Hp → Prop, (∀ H2, Same H1 H2 → Q o H2) → to σ H1 Q
/-- operations on data -/
def RvD (K : PySem.W.Frag) (B : Addr → Prop) (r : R2) (da db d : PyData) : Prop :=
  ∀ H1 x y, Al B H1 → Rp K B H1 da x → Rp K B H1 db y → ∀ Q : VK, (∀ v H2, Same H1 H2 → Rp K B H2 d v → Q v H2) → r x y H1 Q
def RuD (K : PySem.W.Frag) (B : Addr → Prop) (r : V → Hp → VK → Prop) (da d : PyData) : Prop :=
  ∀ H1 x, Al B H1 → Rp K B H1 da x → ∀ Q : VK, (∀ v H2, Same H1 H2 → Rp K B H2 d v → Q v H2) → r x H1 Q
def RcD (K : PySem.W.Frag) (B : Addr → Prop) (r : List V → Hp → VK → Prop) (ds : List PyData) (d : PyData) : Prop :=
  ∀ H1 xs, Al B H1 → RpA K B H1 ds xs → ∀ Q : VK, (∀ v H2, Same H1 H2 → Rp K B H2 d v → Q v H2) → r xs H1 Q
/-- a def's promise over data -/
def spP (K : PySem.W.Frag) (P : List PyData → PyData → Prop) : Sp := fun vs H Q _ =>
  ∃ B ds d, Al B H ∧ RpA K B H ds vs ∧ P ds d ∧ ∀ v H', Same H H' → Rp K B H' d v → Q v H'
section
variable {K : PySem.W.Frag} {B : Addr → Prop} {σ : L2.St} {H H1 H2 : Hp} {ta tb te : TE} {tx : TA} {tt tu : TT} {v : V} {d da db dc : PyData}
  {ds es : List PyData} {r : R2} {b c : Bool}
theorem Dn.up (h : Dn K B te σ H d) (x : Xt B H H1) : Dn K B te σ H1 d := fun H2 y Q q => h H2 (x.trans y) Q q
theorem DnT.eq (h : DnT B tt σ H b) (e : b = c) : DnT B tt σ H c := e ▸ h
theorem Dn.eq (h : Dn K B te σ H d) (e : d = da) : Dn K B te σ H da := e ▸ h
theorem dn_var {i : Nat} (h : σ[i]? = some (some v)) (r : Rp K B H d v) : Dn K B (tVar i) σ H d := fun H1 x Q q =>
  ⟨v, h, q v H1 (Same.refl H1) (r.up x)⟩
theorem dn_int {i : Int} : Dn K B (tC (.int i)) σ H (.int i) := fun H1 x Q q => q _ H1 (Same.refl H1) (rp_int.mpr rfl)
theorem dn_bl : Dn K B (tC (.bl b)) σ H (.bool b) := fun H1 x Q q => q _ H1 (Same.refl H1) (rp_bl.mpr rfl)
theorem dn_non : Dn K B (tC .non) σ H .none := fun H1 x Q q => q _ H1 (Same.refl H1) (rp_non.mpr rfl)
theorem dn_str {z : Str} : Dn K B (tC (.str z)) σ H (.str z) := fun H1 x Q q => q _ H1 (Same.refl H1) (rp_str.mpr rfl)
theorem dn_op (ha : Dn K B ta σ H da) (hb : Dn K B tb σ H db) (hr : RvD K B r da db d) : Dn K B (tOp r ta tb) σ H d := fun H1 x Q q =>
  ha H1 x _ fun v H2 e2 r2 => hb H2 (x.same e2) _ fun w H3 e3 r3 =>
    hr H3 v w ((x.same e2).same e3).al (r2.up (Xt.of (x.same e2).al e3)) r3 Q fun z H4 e4 r4 => q z H4 (e2.trans (e3.trans e4)) r4
theorem dn_un {r : V → Hp → VK → Prop} (ha : Dn K B ta σ H da) (hr : RuD K B r da d) : Dn K B (tUn r ta) σ H d := fun H1 x Q q =>
  ha H1 x _ fun v H2 e2 r2 => hr H2 v (x.same e2).al r2 Q fun z H4 e4 r4 => q z H4 (e2.trans e4) r4
theorem da_nil : DnA K B tNil σ H [] := fun H1 x Q q => q [] H1 (Same.refl H1) RpA.nil
theorem da_cons (ha : Dn K B te σ H d) (hr : DnA K B tx σ H ds) : DnA K B (tCons te tx) σ H (d :: ds) := fun H1 x Q q =>
  ha H1 x _ fun v H2 e2 r2 => hr H2 (x.same e2) _ fun vs H3 e3 r3 => q (v :: vs) H3 (e2.trans e3) (.cons (r2.up (Xt.of (x.same e2).al e3)) r3)
theorem dn_tup (h : DnA K B tx σ H ds) (z : ds.length ≤ 100000) : Dn K B (tTup tx) σ H (.tuple ds) := fun H1 x Q q =>
  h H1 x _ fun vs H2 e2 r2 => ⟨by rw [← r2.length]; exact Nat.le_trans z (by decide), fun p np =>
    q (.ref p) _ (e2.trans (same_new np)) (rp_tup.mpr ⟨p, vs, rfl, .inl ((x.same e2).al.new np), SqT.of upd_same, r2.up (Xt.of (x.same e2).al (same_new np))⟩)⟩
theorem dn_lst (h : DnA K B tx σ H ds) (z : ds.length ≤ 100000) : Dn K B (tLst tx) σ H (.list ds) := fun H1 x Q q =>
  h H1 x _ fun vs H2 e2 r2 => ⟨by rw [← r2.length]; exact Nat.le_trans z (by decide), fun p np =>
    q (.ref p) _ (e2.trans (same_new np)) (rp_lst.mpr ⟨p, vs, rfl, (x.same e2).al.new np, upd_same, r2.up (Xt.of (x.same e2).al (same_new np))⟩)⟩
theorem dn_cb {r : List V → Hp → VK → Prop} (h : DnA K B tx σ H ds) (hr : RcD K B r ds d) : Dn K B (tCB r tx) σ H d := fun H1 x Q q =>
  h H1 x _ fun vs H2 e2 r2 => hr H2 vs (x.same e2).al r2 Q fun z H4 e4 r4 => q z H4 (e2.trans e4) r4
theorem dn_call {P : List PyData → PyData → Prop} {E : XK} (h : DnA K B tx σ H ds) (hp : P ds d) : Dn K B (tCall (spP K P) [] E tx) σ H d := fun H1 x Q q =>
  h H1 x _ fun vs H2 e2 r2 => ⟨B, ds, d, (x.same e2).al, by rw [List.append_nil]; exact r2, hp, fun v H' e r => q v H' (e2.trans e) r⟩
/-! tests -/
theorem dt_test (h : Dn K B te σ H (.bool b)) : DnT B (tTest te) σ H b := fun H1 x Q q => h H1 x _ fun v H2 e r => ⟨b, rp_bl.mp r, q H2 e⟩
theorem dt_B (h : Dn K B te σ H (.bool b)) : DnT B (tB te) σ H b := fun H1 x Q q => h H1 x _ fun v H2 e r => ⟨b, rp_bl.mp r, q H2 e⟩
theorem dt_not (h : DnT B tt σ H b) : DnT B (tNot tt) σ H (!b) := fun H1 x Q q => h H1 x _ fun H2 e => q H2 e
theorem dt_and (h : DnT B tt σ H b) (k : b = true → DnT B tu σ H c) : DnT B (tAnd tt tu) σ H (b && c) := fun H1 x Q q => h H1 x _ fun H2 e => by
  cases b with
  | true =>
    rw [if_pos rfl]
    exact k rfl H2 (x.same e) Q fun H3 e3 => q H3 (e.trans e3)
  | false =>
    rw [if_neg (by decide)]
    exact q H2 e
theorem dt_or (h : DnT B tt σ H b) (k : b = false → DnT B tu σ H c) : DnT B (tOr tt tu) σ H (b || c) := fun H1 x Q q => h H1 x _ fun H2 e => by
  cases b with
  | true =>
    rw [if_pos rfl]
    exact q H2 e
  | false =>
    rw [if_neg (by decide)]
    exact k rfl H2 (x.same e) Q fun H3 e3 => q H3 (e.trans e3)
theorem dn_ifx (h : DnT B tt σ H b) (k1 : b = true → Dn K B ta σ H d) (k2 : b = false → Dn K B tb σ H d) : Dn K B (tIf tt ta tb) σ H d :=
  fun H1 x Q q => h H1 x _ fun H2 e => by
  cases b with
  | true =>
    rw [if_pos rfl]
    exact k1 rfl H2 (x.same e) Q fun v H3 e3 r3 => q v H3 (e.trans e3) r3
  | false =>
    rw [if_neg (by decide)]
    exact k2 rfl H2 (x.same e) Q fun v H3 e3 r3 => q v H3 (e.trans e3) r3
theorem dn_and (ha : Dn K B ta σ H (.bool b)) (hb : b = true → Dn K B tb σ H (.bool c)) : Dn K B (tAndV ta tb) σ H (.bool (b && c)) :=
  fun H1 x Q q => ha H1 x _ fun v H2 e r => ⟨b, rp_bl.mp r, by
  cases b with
  | true =>
    rw [if_pos rfl]
    exact hb rfl H2 (x.same e) Q fun v H3 e3 r3 => q v H3 (e.trans e3) r3
  | false =>
    rw [if_neg (by decide)]
    exact q _ H2 e (rp_bl.mpr rfl)⟩
theorem dn_or (ha : Dn K B ta σ H (.bool b)) (hb : b = false → Dn K B tb σ H (.bool c)) : Dn K B (tOrV ta tb) σ H (.bool (b || c)) :=
  fun H1 x Q q => ha H1 x _ fun v H2 e r => ⟨b, rp_bl.mp r, by
  cases b with
  | true =>
    rw [if_pos rfl]
    exact q _ H2 e (rp_bl.mpr rfl)
  | false =>
    rw [if_neg (by decide)]
    exact hb rfl H2 (x.same e) Q fun v H3 e3 r3 => q v H3 (e.trans e3) r3⟩
theorem dn_not (ha : Dn K B ta σ H (.bool b)) : Dn K B (tNotV ta) σ H (.bool (!b)) := fun H1 x Q q =>
  ha H1 x _ fun v H2 e r => ⟨b, rp_bl.mp r, q _ H2 e (rp_bl.mpr rfl)⟩
theorem do_none : DnO B tNoPart σ H none := fun H1 x Q q => q H1 (Same.refl H1)
theorem do_some {i : Int} (h : Dn K B te σ H (.int i)) : DnO B (tPart te) σ H (some i) := fun H1 x Q q =>
  h H1 x _ fun v H2 e r => ⟨i, rp_int.mp r, q H2 e⟩
/-! operators on ints -/
theorem rd_I0 {g : Int → Int → Int} {i j : Int} : RvD K B (rI0 fun i j => .int (g i j)) (.int i) (.int j) (.int (g i j)) := fun H1 x y _ hx hy Q q =>
  ⟨i, j, rp_int.mp hx, rp_int.mp hy, q _ H1 (Same.refl H1) (rp_int.mpr rfl)⟩
theorem rd_B0 {g : Int → Int → Bool} {i j : Int} : RvD K B (rI0 fun i j => .bl (g i j)) (.int i) (.int j) (.bool (g i j)) := fun H1 x y _ hx hy Q q =>
  ⟨i, j, rp_int.mp hx, rp_int.mp hy, q _ H1 (Same.refl H1) (rp_bl.mpr rfl)⟩
theorem rd_I {C : Int → Int → Prop} {g : Int → Int → Int} {i j : Int} (hc : C i j) : RvD K B (rI C fun i j => .int (g i j)) (.int i) (.int j) (.int (g i j)) :=
  fun H1 x y _ hx hy Q q => ⟨i, j, rp_int.mp hx, rp_int.mp hy, hc, q _ H1 (Same.refl H1) (rp_int.mpr rfl)⟩
theorem ru_neg {i : Int} : RuD K B (rU fun i => .int (-i)) (.int i) (.int (-i)) := fun H1 x _ hx Q q => ⟨i, rp_int.mp hx, q _ H1 (Same.refl H1) (rp_int.mpr rfl)⟩
theorem rd_eqI {i j : Int} : RvD K B rEq (.int i) (.int j) (.bool (decide (i = j))) := fun H1 x y _ hx hy Q q => by
  rw [rp_int.mp hx, rp_int.mp hy]
  refine ⟨rfl, ?_⟩
  have e : decide (V.int i = V.int j) = decide (i = j) := by simp
  rw [e]
  exact q _ H1 (Same.refl H1) (rp_bl.mpr rfl)
theorem rd_neI {i j : Int} : RvD K B rNe (.int i) (.int j) (.bool (!decide (i = j))) := fun H1 x y _ hx hy Q q => by
  rw [rp_int.mp hx, rp_int.mp hy]
  refine ⟨rfl, ?_⟩
  have e : decide (V.int i = V.int j) = decide (i = j) := by simp
  rw [e]
  exact q _ H1 (Same.refl H1) (rp_bl.mpr rfl)
theorem rd_eqS {i j : Str} : RvD K B rEq (.str i) (.str j) (.bool (decide (i = j))) := fun H1 x y _ hx hy Q q => by
  rw [rp_str.mp hx, rp_str.mp hy]
  refine ⟨rfl, ?_⟩
  have e : decide (V.str i = V.str j) = decide (i = j) := by simp
  rw [e]
  exact q _ H1 (Same.refl H1) (rp_bl.mpr rfl)
theorem rd_neS {i j : Str} : RvD K B rNe (.str i) (.str j) (.bool (!decide (i = j))) := fun H1 x y _ hx hy Q q => by
  rw [rp_str.mp hx, rp_str.mp hy]
  refine ⟨rfl, ?_⟩
  have e : decide (V.str i = V.str j) = decide (i = j) := by simp
  rw [e]
  exact q _ H1 (Same.refl H1) (rp_bl.mpr rfl)
/-! places -/
theorem at_data {i : Int} {xs : List V} (h : atI ds i = some d) (r : RpA K B H ds xs) : ∃ x, atI xs i = some x ∧ Rp K B H d x := by
  unfold atI at h ⊢
  rw [← r.length]
  cases e : ixN ds.length i with
  | none => rw [e] at h; cases h
  | some j =>
    rw [e] at h
    exact r.get h
theorem rd_ixT {i : Int} (h : atI ds i = some d) : RvD K B (rIx K) (.tuple ds) (.int i) d := fun H1 x y _ hx hy Q q => by
  obtain ⟨a, xs, rfl, _, s, t⟩ := rp_tup.mp hx
  obtain ⟨z, g, rz⟩ := at_data h t
  exact .inr (.inl ⟨a, xs, i, z, rfl, rp_int.mp hy, s, g, q z H1 (Same.refl H1) rz⟩)
theorem rd_ixL {i : Int} (h : atI ds i = some d) : RvD K B (rIx K) (.list ds) (.int i) d := fun H1 x y _ hx hy Q q => by
  obtain ⟨a, xs, rfl, _, s, t⟩ := rp_lst.mp hx
  obtain ⟨z, g, rz⟩ := at_data h t
  exact .inl ⟨a, xs, i, z, rfl, rp_int.mp hy, SqL.of s, g, q z H1 (Same.refl H1) rz⟩
theorem at_ints {ns : List Int} {i n : Int} (h : atI ns i = some n) : atI (ns.map PyData.int) i = some (.int n) := by
  unfold atI at h ⊢
  rw [List.length_map]
  cases e : ixN ns.length i with
  | none => rw [e] at h; cases h
  | some j =>
    rw [e] at h
    show (ns.map PyData.int)[j]? = some (.int n)
    rw [List.getElem?_map, show ns[j]? = some n from h]
    rfl
end
/-! ### sums -/
def rAddU (K : PySem.W.Frag) : R2 := fun x y H Q => (rI0 (fun i j => .int (i + j))) x y H Q ∨ (rCatA K x y H Q ∨ rCat x y H Q)
theorem op_addU {X : Cx} : OpR X (binaryOp .Add) (rAddU X.K) := op_add.or (op_catA.or op_cat)
/-! ### slices -/
def cutD (ds : List PyData) (lo hi : Option Int) : List PyData :=
  (ds.drop (HT.sIx ds.length 0 lo)).take (HT.sIx ds.length ds.length hi - HT.sIx ds.length 0 lo)
def rSlU (K : PySem.W.Frag) : V → Option Int → Option Int → Hp → VK → Prop := fun x lo hi H Q => rSlL K x lo hi H Q ∨ rSlA K x lo hi H Q
theorem sl_U {X : Cx} : SlR X (rSlU X.K) := sl_list.or sl_tupA
section
variable {K : PySem.W.Frag} {B : Addr → Prop} {σ : L2.St} {H H1 H2 : Hp} {ta tb te : TE} {tx : TA} {tt tu : TT} {v : V} {d da db dc : PyData}
  {ds es : List PyData} {r : R2} {b c : Bool} {lo hi : Option Int} {tl th : TO}
theorem rd_add {i j : Int} : RvD K B (rAddU K) (.int i) (.int j) (.int (i + j)) := fun H1 x y al hx hy Q q => .inl (rd_I0 (g := fun i j => i + j) H1 x y al hx hy Q q)
theorem rd_catT (z : ds.length + es.length ≤ 100000) : RvD K B (rAddU K) (.tuple ds) (.tuple es) (.tuple (ds ++ es)) := fun H1 x y al hx hy Q q => by
  obtain ⟨a, xs, rfl, na, s, t⟩ := rp_tup.mp hx
  obtain ⟨b, ys, rfl, nb, s2, t2⟩ := rp_tup.mp hy
  refine .inr (.inl ⟨a, b, xs, ys, rfl, rfl, s, s2, ?_, fun e => ?_, fun _ e => ?_, fun _ _ p np => ?_⟩)
  · rw [← t.length, ← t2.length]
    exact Nat.le_trans z (by decide)
  · subst e
    obtain rfl : ds = [] := List.length_eq_zero_iff.mp t.length
    exact q _ H1 (Same.refl H1) hy
  · subst e
    obtain rfl : es = [] := List.length_eq_zero_iff.mp t2.length
    rw [List.append_nil] at q
    exact q _ H1 (Same.refl H1) hx
  · refine q (.ref p) _ (same_new np) (rp_tup.mpr ⟨p, _, rfl, .inl (al.new np), SqT.of upd_same, (t.append t2).up (Xt.of al (same_new np))⟩)
theorem rd_catL (z : ds.length + es.length ≤ 100000) : RvD K B (rAddU K) (.list ds) (.list es) (.list (ds ++ es)) := fun H1 x y al hx hy Q q => by
  obtain ⟨a, xs, rfl, na, s, t⟩ := rp_lst.mp hx
  obtain ⟨b, ys, rfl, nb, s2, t2⟩ := rp_lst.mp hy
  refine .inr (.inr ⟨a, b, xs, ys, rfl, rfl, s, s2, ?_, fun p np => ?_⟩)
  · rw [← t.length, ← t2.length]
    exact Nat.le_trans z (by decide)
  · refine q (.ref p) _ (same_new np) (rp_lst.mpr ⟨p, _, rfl, al.new np, upd_same, (t.append t2).up (Xt.of al (same_new np))⟩)
theorem RpA.cut {xs : List V} (h : RpA K B H ds xs) : RpA K B H (cutD ds lo hi) (cutV xs lo hi) := by
  unfold cutD cutV
  rw [h.length]
  exact RpA.take _ (RpA.drop _ h)
theorem cutD_full (e1 : HT.sIx ds.length 0 lo = 0) (e2 : HT.sIx ds.length ds.length hi = ds.length) : cutD ds lo hi = ds := by
  unfold cutD
  rw [e1, e2, List.drop_zero, Nat.sub_zero, List.take_length]
theorem dn_slT (h : Dn K B te σ H (.tuple ds)) (hl : DnO B tl σ H lo) (hh : DnO B th σ H hi) : Dn K B (tSl (rSlU K) te tl th) σ H (.tuple (cutD ds lo hi)) :=
  fun H1 x Q q => h H1 x _ fun v H2 e2 r2 => hl H2 (x.same e2) _ fun H3 e3 => hh H3 ((x.same e2).same e3) _ fun H4 e4 => by
    have x4 := ((x.same e2).same e3).same e4
    have r4 := r2.up (Xt.of (x.same e2).al (e3.trans e4))
    obtain ⟨a, xs, rfl, na, s, t⟩ := rp_tup.mp r4
    have e14 := e2.trans (e3.trans e4)
    refine .inr ⟨a, xs, rfl, s, fun f => ?_, fun _ p np => ?_⟩
    · rw [← t.length] at f
      rw [cutD_full f.1 f.2] at q
      exact q _ H4 e14 r4
    · exact q (.ref p) _ (e14.trans (same_new np)) (rp_tup.mpr ⟨p, _, rfl, .inl (x4.al.new np), SqT.of upd_same, (RpA.cut t).up (Xt.of x4.al (same_new np))⟩)
theorem dn_slL (h : Dn K B te σ H (.list ds)) (hl : DnO B tl σ H lo) (hh : DnO B th σ H hi) : Dn K B (tSl (rSlU K) te tl th) σ H (.list (cutD ds lo hi)) :=
  fun H1 x Q q => h H1 x _ fun v H2 e2 r2 => hl H2 (x.same e2) _ fun H3 e3 => hh H3 ((x.same e2).same e3) _ fun H4 e4 => by
    have x4 := ((x.same e2).same e3).same e4
    have r4 := r2.up (Xt.of (x.same e2).al (e3.trans e4))
    obtain ⟨a, xs, rfl, na, s, t⟩ := rp_lst.mp r4
    have e14 := e2.trans (e3.trans e4)
    refine .inl ⟨a, xs, rfl, SqL.of s, fun p np => ?_⟩
    exact q (.ref p) _ (e14.trans (same_new np)) (rp_lst.mpr ⟨p, _, rfl, x4.al.new np, upd_same, (RpA.cut t).up (Xt.of x4.al (same_new np))⟩)
/-! ### built-in calls -/
def rLenU (K : PySem.W.Frag) : List V → Hp → VK → Prop := fun xs H Q => ∃ p ys, xs = [.ref p] ∧ (SqL K H p ys ∨ SqT K H p ys) ∧ Q (.int ys.length) H
theorem call_lenU {X : Cx} : CallR X (.builtin "len") (rLenU X.K) := call_len_seq
theorem rc_lenT : RcD K B (rLenU K) [.tuple ds] (.int ds.length) := fun H1 xs al h Q q => by
  obtain ⟨y, r, rfl, h1, h2⟩ := rpa_cons.mp h
  obtain rfl := rpa_nil.mp h2
  obtain ⟨a, xs, rfl, na, s, t⟩ := rp_tup.mp h1
  exact ⟨a, xs, rfl, .inr s, q _ H1 (Same.refl H1) (rp_int.mpr (by rw [t.length]))⟩
theorem rc_lenL : RcD K B (rLenU K) [.list ds] (.int ds.length) := fun H1 xs al h Q q => by
  obtain ⟨y, r, rfl, h1, h2⟩ := rpa_cons.mp h
  obtain rfl := rpa_nil.mp h2
  obtain ⟨a, xs, rfl, na, s, t⟩ := rp_lst.mp h1
  exact ⟨a, xs, rfl, .inl (SqL.of s), q _ H1 (Same.refl H1) (rp_int.mpr (by rw [t.length]))⟩
theorem rc_repr (h : Shw d) : RcD K B (rRepr K) [d] (.str d.shown) := fun H1 xs al k Q q => by
  obtain ⟨y, r, rfl, h1, h2⟩ := rpa_cons.mp k
  obtain rfl := rpa_nil.mp h2
  exact ⟨B, y, d, rfl, h1, h, q _ H1 (Same.refl H1) (rp_str.mpr rfl)⟩
def rMinU : List V → Hp → VK → Prop := fun xs H Q => ∃ i j, xs = [.int i, .int j] ∧ Q (.int (if j < i then j else i)) H
def rMaxU : List V → Hp → VK → Prop := fun xs H Q => ∃ i j, xs = [.int i, .int j] ∧ Q (.int (if j > i then j else i)) H
theorem call_minU {X : Cx} (hc : X.calm = true) : CallR X (.builtin "min") rMinU := call_min2 hc
theorem call_maxU {X : Cx} (hc : X.calm = true) : CallR X (.builtin "max") rMaxU := call_max2 hc
theorem two_ints {i j : Int} {xs : List V} (h : RpA K B H [.int i, .int j] xs) : xs = [.int i, .int j] := by
  obtain ⟨y, r, rfl, h1, h2⟩ := rpa_cons.mp h
  obtain ⟨z, r, rfl, h3, h4⟩ := rpa_cons.mp h2
  rw [rpa_nil.mp h4, rp_int.mp h1, rp_int.mp h3]
theorem rc_min {i j : Int} : RcD K B rMinU [.int i, .int j] (.int (if j < i then j else i)) := fun H1 xs al h Q q =>
  ⟨i, j, two_ints h, q _ H1 (Same.refl H1) (rp_int.mpr rfl)⟩
theorem rc_max {i j : Int} : RcD K B rMaxU [.int i, .int j] (.int (if j > i then j else i)) := fun H1 xs al h Q q =>
  ⟨i, j, two_ints h, q _ H1 (Same.refl H1) (rp_int.mpr rfl)⟩
/-! ### statements -/
variable {D : Ends} {t u : TS} {i n : Nat}
theorem sd_set (h : Dn K B te σ H d) (x : Xt B H H1) (k : ∀ v H', Same H1 H' → Rp K B H' d v → D.nx (σ.set i (some v)) H') : tAsg te (gName i) D σ H1 := h H1 x _ k
theorem sd_ret (h : Dn K B te σ H d) (x : Xt B H H1) (k : ∀ v H', Same H1 H' → Rp K B H' d v → D.rt v H') : tRet te D σ H1 := h H1 x _ k
theorem sd_if (h : DnT B tt σ H b) (x : Xt B H H1) (k1 : b = true → ∀ H', Same H1 H' → t D σ H') (k2 : b = false → ∀ H', Same H1 H' → u D σ H') :
    tIfS tt t u D σ H1 := h H1 x _ fun H' e => by
  cases b with
  | true => exact (if_pos rfl).mpr (k1 rfl H' e)
  | false => exact (if_neg (by decide)).mpr (k2 rfl H' e)
theorem sd_unp {g : TGs} (h : Dn K B te σ H (.tuple ds)) (x : Xt B H H1) (hn : ds.length = n) (k : ∀ xs H', Same H1 H' → RpA K B H' ds xs → g xs σ H' D.nx) :
    tAsg te (gTup K n g) D σ H1 := h H1 x _ fun v H' e r => by
  obtain ⟨a, xs, rfl, na, s, t⟩ := rp_tup.mp r
  exact ⟨a, xs, rfl, s, by rw [← t.length, hn], k xs H' e t⟩
end
end CG

/-! Part 4: the deck, readings that draw from it. -/
namespace CG
open PySem PySem.Spec PyProof.Rows L2
def Bk (D C : Addr) : Addr → Prop := fun a => a = D ∨ a = C
/-- a deck at D, its cells at C, t draws done; both are among the places B that data avoid -/
structure Dk (B : Addr → Prop) (H : Hp) (D C : Addr) (t : Int) : Prop where
  bD : B D
  bC : B C
  al : Al B H
  ne : D ≠ C
  nn : 0 ≤ t
  ex : ∃ cs : List Int, H D = some (.lst [.ref C, .int t]) ∧ H C = some (.lst (cs.map V.int)) ∧ cs.length ≤ 63 ∧ ∀ c ∈ cs, 0 ≤ c
section
variable {K : PySem.W.Frag} {B : Addr → Prop} {D C : Addr} {H H1 H2 : Hp} {t t' n m : Int} {σ : L2.St} {te ta tb : TE} {tx : TA} {tt tu : TT} {d : PyData} {ds : List PyData}
  {Φ Ψ Θ : PyData → Prop} {Φs Ψs : List PyData → Prop} {r : R2} {v : V}
theorem Dk.alk (k : Dk B H D C t) : Al (Bk D C) H := fun a h => by
  rcases h with rfl | rfl
  · exact k.al a k.bD
  · exact k.al a k.bC
theorem Dk.same (k : Dk B H D C t) (e : Same H H1) : Dk B H1 D C t := by
  obtain ⟨bD, bC, al, ne, nn, cs, h1, h2, h3⟩ := k
  exact ⟨bD, bC, al.same e, ne, nn, cs, e _ _ h1, e _ _ h2, h3⟩
theorem Dk.xt (k : Dk B H D C t) (e : Same H H1) : Xt (Bk D C) H H1 := Xt.of k.alk e
/-- what is kept but for the deck is kept but for B -/
theorem Dk.wd (k : Dk B H D C t) (x : Xt (Bk D C) H H1) : Xt B H H1 := ⟨fun a o nb e => x.kp a o (fun z => nb (z.elim (fun w => w ▸ k.bD) fun w => w ▸ k.bC)) e, fun a h => by
  by_cases z : Bk D C a
  · exact x.al a z
  · cases q : H a with
    | none => exact absurd q (k.al a h)
    | some o => rw [x.kp a o z q]; simp⟩
theorem Dk.free {p : Addr} (k : Dk B H D C t) (x : Xt B H1 H) (n : H p = none) : H1 p = none := by
  cases q : H1 p with
  | none => rfl
  | some o =>
    have := x.kp p o (k.al.new n) q
    rw [n] at this
    cases this
/-- .. with one more place that data avoid -/
theorem Dk.grow {p : Addr} (k : Dk B H D C t) (h : H p ≠ none) : Dk (Bp B p) H D C t :=
  ⟨.inl k.bD, .inl k.bC, fun a z => z.elim (k.al a) fun e => e ▸ h, k.ne, k.nn, k.ex⟩
theorem Dk.less {B' : Addr → Prop} (k : Dk B' H D C t) (g : ∀ a, B a → B' a) (bD : B D) (bC : B C) : Dk B H D C t :=
  ⟨bD, bC, fun a z => k.al a (g a z), k.ne, k.nn, k.ex⟩
def Lim : Int := 1000000000000
/-- te gives some data of Φ, with at most n draws -/
def Ef (K : PySem.W.Frag) (B : Addr → Prop) (D C : Addr) (n : Int) (te : TE) (σ : L2.St) (H : Hp) (Φ : PyData → Prop) : Prop :=
  ∀ H1 t, Xt B H H1 → Dk B H1 D C t → t + n ≤ Lim → ∀ Q : VK,
    (∀ v d H2 t', Xt (Bk D C) H1 H2 → Dk B H2 D C t' → t' ≤ t + n → Φ d → Rp K B H2 d v → Q v H2) → te σ H1 Q
def EfA (K : PySem.W.Frag) (B : Addr → Prop) (D C : Addr) (n : Int) (tx : TA) (σ : L2.St) (H : Hp) (Φ : List PyData → Prop) : Prop :=
  ∀ H1 t, Xt B H H1 → Dk B H1 D C t → t + n ≤ Lim → ∀ Q : List V → Hp → Prop,
    (∀ vs ds H2 t', Xt (Bk D C) H1 H2 → Dk B H2 D C t' → t' ≤ t + n → Φ ds → RpA K B H2 ds vs → Q vs H2) → tx σ H1 Q
def EfT (B : Addr → Prop) (D C : Addr) (n : Int) (tt : TT) (σ : L2.St) (H : Hp) (Φ : Bool → Prop) : Prop :=
  ∀ H1 t, Xt B H H1 → Dk B H1 D C t → t + n ≤ Lim → ∀ Q : Bool → Hp → Prop,
    (∀ b H2 t', Xt (Bk D C) H1 H2 → Dk B H2 D C t' → t' ≤ t + n → Φ b → Q b H2) → tt σ H1 Q
/-- a promise of a def whose first argument is the deck -/
def spE (K : PySem.W.Frag) (n : Int) (Pre : List PyData → Prop) (P : List PyData → PyData → Prop) : Sp := fun vs H Q _ =>
  ∃ B D C t ds ws, vs = .ref D :: ws ∧ Dk B H D C t ∧ t + n ≤ Lim ∧ RpA K B H ds ws ∧ Pre ds ∧
    ∀ v d H' t', Xt (Bk D C) H H' → Dk B H' D C t' → t' ≤ t + n → P ds d → Rp K B H' d v → Q v H'
theorem Dn.ef (h : Dn K B te σ H d) : Ef K B D C 0 te σ H (fun z => z = d) := fun H1 t x k hl Q q =>
  h H1 x Q fun v H2 e r => q v d H2 t (k.xt e) (k.same e) (by omega) rfl r
theorem DnA.ef (h : DnA K B tx σ H ds) : EfA K B D C 0 tx σ H (fun z => z = ds) := fun H1 t x k hl Q q =>
  h H1 x Q fun v H2 e r => q v ds H2 t (k.xt e) (k.same e) (by omega) rfl r
theorem Ef.weak (h : Ef K B D C n te σ H Φ) (e : ∀ d, Φ d → Ψ d) (hn : n ≤ m) : Ef K B D C m te σ H Ψ := fun H1 t x k hl Q q =>
  h H1 t x k (by omega) Q fun v d H2 t' x2 k2 h2 p r => q v d H2 t' x2 k2 (by omega) (e d p) r
theorem Ef.to (h : Ef K B D C n te σ H Φ) (e : ∀ d, Φ d → Ψ d) : Ef K B D C n te σ H Ψ := h.weak e (Int.le_refl n)
theorem EfA.weak (h : EfA K B D C n tx σ H Φs) (e : ∀ d, Φs d → Ψs d) (hn : n ≤ m) : EfA K B D C m tx σ H Ψs := fun H1 t x k hl Q q =>
  h H1 t x k (by omega) Q fun v d H2 t' x2 k2 h2 p r => q v d H2 t' x2 k2 (by omega) (e d p) r
theorem Ef.up (h : Ef K B D C n te σ H Φ) (x : Xt B H H1) : Ef K B D C n te σ H1 Φ := fun H2 t y k hl Q q => h H2 t (x.trans y) k hl Q q
theorem ef_op (ha : Ef K B D C n ta σ H Φ) (hb : Ef K B D C m tb σ H Ψ) (hr : ∀ a b, Φ a → Ψ b → ∃ c, Θ c ∧ RvD K B r a b c) (hm : 0 ≤ m) :
    Ef K B D C (n + m) (tOp r ta tb) σ H Θ := fun H1 t x k hl Q q =>
  ha H1 t x k (by omega) _ fun v a H2 t2 x2 k2 l2 pa ra => hb H2 t2 (x.trans (k.wd x2)) k2 (by omega) _ fun w b H3 t3 x3 k3 l3 pb rb => by
    obtain ⟨c, pc, rc⟩ := hr a b pa pb
    exact rc H3 v w k3.al (ra.up (k2.wd x3)) rb Q fun z H4 e4 r4 => q z c H4 t3 (x2.trans (x3.same e4)) (k3.same e4) (by omega) pc r4
theorem ef_un {r : V → Hp → VK → Prop} (ha : Ef K B D C n ta σ H Φ) (hr : ∀ a, Φ a → ∃ c, Θ c ∧ RuD K B r a c) : Ef K B D C n (tUn r ta) σ H Θ :=
  fun H1 t x k hl Q q => ha H1 t x k hl _ fun v a H2 t2 x2 k2 l2 pa ra => by
    obtain ⟨c, pc, rc⟩ := hr a pa
    exact rc H2 v k2.al ra Q fun z H4 e4 r4 => q z c H4 t2 (x2.same e4) (k2.same e4) l2 pc r4
theorem ea_nil : EfA K B D C 0 tNil σ H (fun ds => ds = []) := fun H1 t x k hl Q q => q [] [] H1 t (Xt.refl k.alk) k (by omega) rfl RpA.nil
theorem ea_cons (ha : Ef K B D C n te σ H Φ) (hb : EfA K B D C m tx σ H Ψs) (hm : 0 ≤ m) : EfA K B D C (n + m) (tCons te tx) σ H (fun ds => ∃ d r, ds = d :: r ∧ Φ d ∧ Ψs r) :=
  fun H1 t x k hl Q q => ha H1 t x k (by omega) _ fun v a H2 t2 x2 k2 l2 pa ra => hb H2 t2 (x.trans (k.wd x2)) k2 (by omega) _ fun ws ds H3 t3 x3 k3 l3 pb rb =>
    q (v :: ws) (a :: ds) H3 t3 (x2.trans x3) k3 (by omega) ⟨a, ds, rfl, pa, pb⟩ (.cons (ra.up (k2.wd x3)) rb)
theorem ef_tup (h : EfA K B D C n tx σ H Φs) (z : ∀ ds, Φs ds → ds.length ≤ 100000) : Ef K B D C n (tTup tx) σ H (fun d => ∃ ds, d = .tuple ds ∧ Φs ds) :=
  fun H1 t x k hl Q q => h H1 t x k hl _ fun ws ds H2 t2 x2 k2 l2 pa ra => ⟨by rw [← ra.length]; exact Nat.le_trans (z ds pa) (by decide), fun p np =>
    q (.ref p) _ _ t2 (x2.same (same_new np)) (k2.same (same_new np)) l2 ⟨ds, rfl, pa⟩
      (rp_tup.mpr ⟨p, ws, rfl, .inl (k2.al.new np), SqT.of upd_same, ra.up (Xt.of k2.al (same_new np))⟩)⟩
theorem ef_lst (h : EfA K B D C n tx σ H Φs) (z : ∀ ds, Φs ds → ds.length ≤ 100000) : Ef K B D C n (tLst tx) σ H (fun d => ∃ ds, d = .list ds ∧ Φs ds) :=
  fun H1 t x k hl Q q => h H1 t x k hl _ fun ws ds H2 t2 x2 k2 l2 pa ra => ⟨by rw [← ra.length]; exact Nat.le_trans (z ds pa) (by decide), fun p np =>
    q (.ref p) _ _ t2 (x2.same (same_new np)) (k2.same (same_new np)) l2 ⟨ds, rfl, pa⟩
      (rp_lst.mpr ⟨p, ws, rfl, k2.al.new np, upd_same, ra.up (Xt.of k2.al (same_new np))⟩)⟩
theorem ef_cb {r : List V → Hp → VK → Prop} (h : EfA K B D C n tx σ H Φs) (hr : ∀ ds, Φs ds → ∃ c, Θ c ∧ RcD K B r ds c) : Ef K B D C n (tCB r tx) σ H Θ :=
  fun H1 t x k hl Q q => h H1 t x k hl _ fun ws ds H2 t2 x2 k2 l2 pa ra => by
    obtain ⟨c, pc, rc⟩ := hr ds pa
    exact rc H2 ws k2.al ra Q fun z H4 e4 r4 => q z c H4 t2 (x2.same e4) (k2.same e4) l2 pc r4
theorem ef_call {P : List PyData → PyData → Prop} {E : XK} (h : EfA K B D C n tx σ H Φs) (hp : ∀ ds, Φs ds → ∃ c, P ds c ∧ Θ c) :
    Ef K B D C n (tCall (spP K P) [] E tx) σ H Θ := fun H1 t x k hl Q q => h H1 t x k hl _ fun ws ds H2 t2 x2 k2 l2 pa ra => by
    obtain ⟨c, pc, tc⟩ := hp ds pa
    refine ⟨B, ds, c, k2.al, by rw [List.append_nil]; exact ra, pc, fun v H' e r => ?_⟩
    exact q v c H' t2 (x2.same e) (k2.same e) l2 tc r
/-- a def that draws -/
theorem ef_callE {i : Nat} {Pre : List PyData → Prop} {P : List PyData → PyData → Prop} {E : XK} (hs : σ[i]? = some (some (.ref D))) (h : EfA K B D C m tx σ H Φs)
    (hp : ∀ ds, Φs ds → Pre ds ∧ ∀ c, P ds c → Θ c) (hn : 0 ≤ n) : Ef K B D C (m + n) (tCall (spE K n Pre P) [] E (tCons (tVar i) tx)) σ H Θ :=
  fun H1 t x k hl Q q => ⟨.ref D, hs, h H1 t x k (by omega) _ fun ws ds H2 t2 x2 k2 l2 pa ra => by
    obtain ⟨p1, p2⟩ := hp ds pa
    refine ⟨B, D, C, t2, ds, ws, by rw [List.append_nil], k2, by omega, ra, p1, fun v d H' t' x3 k3 l3 pd rd => ?_⟩
    exact q v d H' t' (x2.trans x3) k3 (by omega) (p2 d pd) rd⟩
theorem et_test {Θ : Bool → Prop} (h : Ef K B D C n te σ H Φ) (hr : ∀ d, Φ d → ∃ b, d = .bool b ∧ Θ b) : EfT B D C n (tTest te) σ H Θ := fun H1 t x k hl Q q =>
  h H1 t x k hl _ fun v d H2 t2 x2 k2 l2 pa ra => by
    obtain ⟨b, rfl, pb⟩ := hr d pa
    exact ⟨b, rp_bl.mp ra, q b H2 t2 x2 k2 l2 pb⟩
theorem et_B {Θ : Bool → Prop} (h : Ef K B D C n te σ H Φ) (hr : ∀ d, Φ d → ∃ b, d = .bool b ∧ Θ b) : EfT B D C n (tB te) σ H Θ := fun H1 t x k hl Q q =>
  h H1 t x k hl _ fun v d H2 t2 x2 k2 l2 pa ra => by
    obtain ⟨b, rfl, pb⟩ := hr d pa
    exact ⟨b, rp_bl.mp ra, q b H2 t2 x2 k2 l2 pb⟩
end
/-- where a def of the text stands -/
structure Has (K : PySem.W.Frag) (mg : Str → Option Value) (x : Str) (st : Stmt) (ps : List Str) (f : Addr) (fd : FuncData) : Prop where
  F : Fun K x x st f fd
  m : mg x = some (.ref f)
  b : Binds K fd ps []
/-- the promise of a draw -/
def PreDraw (ds : List PyData) : Prop := ∃ n : Int, ds = [.int n] ∧ 0 < n ∧ n < 1073741824
def PDraw (ds : List PyData) (d : PyData) : Prop := ∃ n r : Int, ds = [.int n] ∧ d = .int r ∧ 0 ≤ r ∧ r < n
def spDraw (K : PySem.W.Frag) : Sp := spE K 1 PreDraw PDraw
def spDeck (K : PySem.W.Frag) : Sp := fun vs H Q _ => ∃ (a : Addr) (ns : List Int), vs = [.ref a] ∧ SqL K H a (ns.map V.int) ∧
  ∀ D C H', Same H H' → H D = none → H C = none → Dk (fun a => a = D ∨ a = C) H' D C 0 → Q (.ref D) H'
def PSame (ds : List PyData) (d : PyData) : Prop := ∃ a b, ds = [a, b] ∧ Shw a ∧ Shw b ∧ d = .bool (decide (a.shown = b.shown))
section
variable {K : PySem.W.Frag} {B : Addr → Prop} {D C : Addr} {H H1 H2 : Hp} {t n : Int} {σ : L2.St}
/-- _law_draw(deck, n), n written or computed -/
theorem ef_draw {i : Nat} {E : XK} {tx : TA} {Φs : List PyData → Prop} {m : Int} (hs : σ[i]? = some (some (.ref D))) (h : EfA K B D C m tx σ H Φs) (hp : ∀ ds, Φs ds → PreDraw ds) :
    Ef K B D C (m + 1) (tCall (spDraw K) [] E (tCons (tVar i) tx)) σ H (fun d => ∃ ds n r, Φs ds ∧ ds = [.int n] ∧ d = .int r ∧ 0 ≤ r ∧ r < n) :=
  fun H1 t x k hl Q q => ⟨.ref D, hs, h H1 t x k (by omega) _ fun ws ds H2 t2 x2 k2 l2 pa ra => by
    refine ⟨B, D, C, t2, ds, ws, by rw [List.append_nil], k2, by omega, ra, hp ds pa, fun v d H' t' x3 k3 l3 pd rd => ?_⟩
    obtain ⟨n, r, e, pd⟩ := pd
    exact q v d H' t' (x2.trans x3) k3 (by omega) ⟨ds, n, r, pa, e, pd⟩ rd⟩
theorem ef_drawN {i : Nat} {E : XK} (hs : σ[i]? = some (some (.ref D))) (h0 : 0 < n) (h1 : n < 1073741824) :
    Ef K B D C 1 (tCall (spDraw K) [] E (tCons (tVar i) (tCons (tC (.int n)) tNil))) σ H (fun d => ∃ r, d = .int r ∧ 0 ≤ r ∧ r < n) := by
  have a : EfA K B D C 0 (tCons (tC (.int n)) tNil) σ H (fun z => z = [.int n]) := (da_cons dn_int da_nil).ef
  have b := ef_draw (E := E) hs a fun ds e => ⟨n, e, h0, h1⟩
  refine b.weak (fun d p => ?_) (by omega)
  obtain ⟨ds, n', r, e1, e2, p⟩ := p
  subst e1
  simp only [List.cons.injEq, PyData.int.injEq, and_true] at e2
  subst e2
  exact ⟨r, p⟩
end
end CG
namespace CG
open PySem PySem.Spec PyProof.Rows L2
/-- the built-in names are still the built-in ones -/
structure Bz (mg : Str → Option Value) : Prop where
  z_len : mg "len" = none
  z_abs : mg "abs" = none
  z_range : mg "range" = none
  z_repr : mg "repr" = none
  z_min : mg "min" = none
  z_max : mg "max" = none
  z_int : mg "int" = none
  z_tuple : mg "tuple" = none
  z_list : mg "list" = none
  z_bool : mg "bool" = none
  z_isinstance : mg "isinstance" = none
  z_enumerate : mg "enumerate" = none
end CG

/-! Part 5: comprehensions. -/
namespace CG
open PySem PySem.Spec PyProof.Rows L2
section
variable {K : PySem.W.Frag} {B : Addr → Prop} {D C : Addr} {H H1 H2 : Hp} {t c : Int} {σ : L2.St} {te ta tb : TE} {tx : TA} {j n : Nat}
theorem wipe1 {v : V} : wipe ((wipe σ [j]).set j (some v)) [j] = wipe σ [j] := by
  show ((σ.set j none).set j (some v)).set j none = σ.set j none
  rw [List.set_set, List.set_set]
/-- [e for x in range(n)], with draws -/
theorem ef_lcR {Φ : Nat → PyData → Prop} (hx : DnA K B tx σ H [.int n]) (hn : n ≤ 1000) (hc : 0 ≤ c)
    (he : ∀ B', Gw B B' H → ∀ i, i < n → Ef K B' D C c te ((σ.set j none).set j (some (.int (0 + i)))) H (Φ i)) :
    Ef K B D C (n * c) (tLc (iRng1 tx) (gName j) tYes te [j]) σ H (fun d => ∃ ds, d = .list ds ∧ ds.length = n ∧ ∀ i d, ds[i]? = some d → Φ i d) := by
  intro H1 t x k hl Q q
  refine hx H1 x _ fun vs H2 e2 r2 => ?_
  obtain rfl : vs = [.int n] := RpA.ints_inv (ns := [(n : Int)]) r2
  refine ⟨n, rfl, by omega, by omega, fun L nL => ?_⟩
  have k2 := k.same e2
  have x2 := k.xt e2
  have xH : Xt B H H2 := x.trans (k.wd x2)
  have nLH : H L = none := k2.free xH nL
  have nLB : ¬ B L := k2.al.new nL
  have gw : Gw B (Bp B L) H := gw_new nLH
  refine lc_range (lo := 0) (n := n) (fun i H' => ∃ (t' : Int) (ds : List PyData) (vs : List V), Xt (Bk D C) H2 H' ∧ Dk (Bp B L) H' D C t' ∧ t' ≤ t + i * c ∧ H' L = some (.lst vs) ∧
      RpA K (Bp B L) H' ds vs ∧ ds.length = i ∧ ∀ i d, ds[i]? = some d → Φ i d) ?_ ?_ ?_
  · refine ⟨t, [], [], k2.xt (same_new nL), (k2.same (same_new nL)).grow (by rw [upd_same]; simp), by simp, upd_same, RpA.nil, rfl, fun i d h => by simp at h⟩
  · rintro i H' hi ⟨t', ds, vs, x', k', l', hL, ra, hlen, hΦ⟩
    refine ⟨wipe1, ?_⟩
    have xx : Xt (Bp B L) H H' := by
      have y := xH.trans (k2.wd x')
      exact ⟨fun a o nb e => y.kp a o (fun z => nb (.inl z)) e, k'.al⟩
    have bud : t' + c ≤ Lim := by
      have h1 : (i : Int) * c + c ≤ n * c := by
        have : ((i : Int) + 1) * c ≤ n * c := Int.mul_le_mul_of_nonneg_right (by omega) hc
        rw [Int.add_mul, Int.one_mul] at this
        exact this
      omega
    refine he (Bp B L) gw i hi H' t' xx k' bud _ fun v d H3 t3 x3 k3 l3 pd rd => ?_
    have nLk : ¬ Bk D C L := fun z => nLB (z.elim (fun w => w ▸ k2.bD) fun w => w ▸ k2.bC)
    have hL3 : H3 L = some (.lst vs) := x3.kp _ _ nLk hL
    have ra3 := ra.up (k'.wd x3)
    -- the list grows
    have sm : ∀ a o, ¬ Bp B L a → H3 a = some o → (upd H3 L (.lst (vs ++ [v]))) a = some o := fun a o nb e => by
      rw [upd_ne (fun z => nb (.inr z))]
      exact e
    have al4 : Al (Bp B L) (upd H3 L (.lst (vs ++ [v]))) := fun a h => by
      by_cases z : a = L
      · rw [z, upd_same]; simp
      · rw [upd_ne z]
        exact k3.al a h
    have x4 : Xt (Bp B L) H3 (upd H3 L (.lst (vs ++ [v]))) := ⟨sm, al4⟩
    have lv : vs.length = i := by rw [← ra.length, hlen]
    have neD : D ≠ L := fun z => nLB (z ▸ k2.bD)
    have neC : C ≠ L := fun z => nLB (z ▸ k2.bC)
    refine ⟨vs, hL3, Nat.lt_of_lt_of_le (show vs.length < 1001 by omega) (by decide), t3, ds ++ [d], vs ++ [v], ⟨fun a o nb e => ?_, fun a h => ?_⟩, ?_, ?_, upd_same, ?_, ?_, ?_⟩
    · by_cases z : a = L
      · subst z
        rw [nL] at e
        cases e
      · rw [upd_ne z]
        exact x3.kp a o nb (x'.kp a o nb e)
    · exact al4 a (h.elim (fun w => .inl (w ▸ k2.bD)) fun w => .inl (w ▸ k2.bC))
    · obtain ⟨bD, bC, al, ne, nn, cs, h1, h2, h3⟩ := k3
      exact ⟨bD, bC, al4, ne, nn, cs, by rw [upd_ne neD]; exact h1, by rw [upd_ne neC]; exact h2, h3⟩
    · have : ((i + 1 : Nat) : Int) * c = i * c + c := by
        rw [Int.natCast_add, Int.add_mul]
        simp
      rw [this]
      omega
    · exact RpA.append (ra3.up x4) (.cons (rd.up x4) .nil)
    · rw [List.length_append, hlen]
      rfl
    · intro m e h
      by_cases z : m < ds.length
      · rw [List.getElem?_append_left z] at h
        exact hΦ m e h
      · rw [List.getElem?_append_right (by omega)] at h
        have e0 : m - ds.length = 0 := by
          cases w : m - ds.length with
          | zero => rfl
          | succ u => rw [w] at h; simp at h
        rw [e0] at h
        simp only [List.getElem?_cons_zero, Option.some.injEq] at h
        subst h
        have : m = i := by omega
        rw [this]
        exact pd
  · rintro H' ⟨t', ds, vs, x', k', l', hL, ra, hlen, hΦ⟩
    have kB := k'.less bp_up k2.bD k2.bC
    exact q (.ref L) (.list ds) H' t' (x2.trans x') kB l' ⟨ds, rfl, hlen, hΦ⟩ (rp_lst.mpr ⟨L, vs, rfl, nLB, hL, RpA.less bp_up ds vs ra⟩)
/-! statements that draw -/
variable {Φ : PyData → Prop} {Dd : Ends} {m : Int} {tt : TT} {ts tu : TS} {Θ : Bool → Prop} {i : Nat}
theorem se_ret (h : Ef K B D C m te σ H Φ) (x : Xt B H H1) (k : Dk B H1 D C t) (hl : t + m ≤ Lim)
    (q : ∀ v d H2 t', Xt (Bk D C) H1 H2 → Dk B H2 D C t' → t' ≤ t + m → Φ d → Rp K B H2 d v → Dd.rt v H2) : tRet te Dd σ H1 := h H1 t x k hl _ q
theorem se_set (h : Ef K B D C m te σ H Φ) (x : Xt B H H1) (k : Dk B H1 D C t) (hl : t + m ≤ Lim)
    (q : ∀ v d H2 t', Xt (Bk D C) H1 H2 → Dk B H2 D C t' → t' ≤ t + m → Φ d → Rp K B H2 d v → Dd.nx (σ.set i (some v)) H2) : tAsg te (gName i) Dd σ H1 := h H1 t x k hl _ q
theorem se_expr (h : Ef K B D C m te σ H Φ) (x : Xt B H H1) (k : Dk B H1 D C t) (hl : t + m ≤ Lim)
    (q : ∀ v d H2 t', Xt (Bk D C) H1 H2 → Dk B H2 D C t' → t' ≤ t + m → Φ d → Rp K B H2 d v → Dd.nx σ H2) : tDrop te Dd σ H1 := h H1 t x k hl _ q
theorem se_if (h : EfT B D C m tt σ H Θ) (x : Xt B H H1) (k : Dk B H1 D C t) (hl : t + m ≤ Lim)
    (q1 : ∀ H2 t', Xt (Bk D C) H1 H2 → Dk B H2 D C t' → t' ≤ t + m → Θ true → ts Dd σ H2)
    (q2 : ∀ H2 t', Xt (Bk D C) H1 H2 → Dk B H2 D C t' → t' ≤ t + m → Θ false → tu Dd σ H2) : tIfS tt ts tu Dd σ H1 :=
  h H1 t x k hl _ fun b H2 t' x2 k2 l2 p => by
    cases b with
    | true => exact (if_pos rfl).mpr (q1 H2 t' x2 k2 l2 p)
    | false => exact (if_neg (by decide)).mpr (q2 H2 t' x2 k2 l2 p)
theorem se_par {i j : Nat} {Φs : List PyData → Prop} (h : EfA K B D C m tx σ H Φs) (hp : ∀ ds, Φs ds → ds.length = 2) (x : Xt B H H1) (k : Dk B H1 D C t) (hl : t + m ≤ Lim)
    (q : ∀ v w a b H2 t', Xt (Bk D C) H1 H2 → Dk B H2 D C t' → t' ≤ t + m → Φs [a, b] → Rp K B H2 a v → Rp K B H2 b w → Dd.nx ((σ.set i (some v)).set j (some w)) H2) :
    tPar i j tx Dd σ H1 := h H1 t x k hl _ fun vs ds H2 t' x2 k2 l2 p r => by
  have e := hp ds p
  match ds, e with
  | [a, b], _ =>
    obtain ⟨v, r1, rfl, h1, h2⟩ := rpa_cons.mp r
    obtain ⟨w, r2, rfl, h3, h4⟩ := rpa_cons.mp h2
    obtain rfl := rpa_nil.mp h4
    exact ⟨v, w, rfl, q v w a b H2 t' x2 k2 l2 p h1 h3⟩
end
end CG

namespace CG
open PySem PySem.Spec PyProof.Rows L2
/-! ### the text -/
def topS (i : Nat) : Stmt := PySem.Challenge.pw_coincounters_k01_coins_changed.main.body.getD i (.Pass ⟨0, 0, 0, 0⟩)
abbrev sDeck : Stmt := topS 3
abbrev NscDeck : List Str := ["_law_script", "_law_cell"]
theorem scDeck : FnScope NscDeck ["_law_script"] (defScope sDeck) := ⟨rfl, rfl, rfl, by decide +kernel, rfl, by decide +kernel, by decide +kernel⟩
abbrev sDraw : Stmt := topS 4
abbrev NscDraw : List Str := ["_law_deck_here", "_law_limit", "_law_cell", "_law_index"]
theorem scDraw : FnScope NscDraw ["_law_deck_here", "_law_limit"] (defScope sDraw) := ⟨rfl, rfl, rfl, by decide +kernel, rfl, by decide +kernel, by decide +kernel⟩
abbrev sSame : Stmt := topS 5
abbrev NscSame : List Str := ["_law_value", "_law_due_here"]
theorem scSame : FnScope NscSame ["_law_value", "_law_due_here"] (defScope sSame) := ⟨rfl, rfl, rfl, by decide +kernel, rfl, by decide +kernel, by decide +kernel⟩
section
variable {P : Program} {w : World} {K : PySem.W.Frag} {mg : Str → Option Value} {base : Heap}
theorem ok_deck {f : Addr} {fd : FuncData} (h : Has K mg "_law_deck" sDeck ["_law_script"] f fd) (T : Bz mg) : FnG P w K mg base CX0 1 f fd ["_law_script"] (spDeck K) := by
  refine okG h.F scDeck (fun vs H Q E h => ?_) (fun cd A out s H vs Q E hgd hr h => ?_)
  · obtain ⟨a, ns, rfl, _⟩ := h
    rfl
  · obtain ⟨a, ns, rfl, hS, q⟩ := h
    refine ⟨_, (pss_one (ps_ret (pe_lst (pa_cons (pe_lc (own := [("_law_cell", 1)]) rfl scDeck.nd (pi_list (pe_slice sl_U (pv 0) po_none (po_some pe_int))) (blkOk_by (N := NscDeck) (sc := defScope sDeck) (by decide +kernel)) (fun _ _ _ _ _ => (pg_name (i := 1) scDeck.nd rfl (Or.inl rfl))) (fun _ _ _ _ _ => pts_nil) (fun _ _ _ _ _ => (pe_callB call_abs rfl T.z_abs (by decide +kernel) (pa_cons (pv 1) pa_nil)))) (pa_cons pe_int pa_nil))))), ?_⟩
    refine ⟨.ref a, rfl, 63, rfl, .inl ⟨a, _, rfl, hS, fun c nc => ?_⟩⟩
    have e1 : Same H (upd H c (.lst (cutV (ns.map V.int) none (some 63)))) := same_new nc
    have ec : cutV (ns.map V.int) none (some 63) = (ns.take 63).map V.int := by
      unfold cutV
      rw [HT.sIx_none, show HT.sIx (ns.map V.int).length (ns.map V.int).length (some 63) = min 63 (ns.map V.int).length from HT.sIx_nat _ _ 63, List.drop_zero, Nat.sub_zero, List.map_take]
      rw [List.take_eq_take_iff]
      omega
    rw [ec]
    rw [ec] at e1
    have hml : (ns.take 63).length ≤ 63 := by rw [List.length_take]; omega
    clear ec
    generalize ns.take 63 = ms at e1 hml ⊢
    refine ⟨c, rfl, ⟨_, SqL.of upd_same⟩, fun L nL => ?_⟩
    refine lc_list (xs := ms.map V.int) (fun i H' => Same H H' ∧ H' c = some (.lst (ms.map V.int)) ∧ H' L = some (.lst (((ms.take i).map fun z => if z < 0 then -z else z).map V.int))) ?_ ?_ ?_ ?_
    · refine ⟨e1.trans (same_new nL), ?_, ?_⟩
      · rw [upd_ne (ne_of_none upd_same nL)]
        exact upd_same
      · rw [upd_same]
        rfl
    · rintro i H' _ ⟨_, hc, _⟩
      exact SqL.of hc
    · rintro i x H' gx ⟨e', hc, hL⟩
      rw [List.getElem?_map] at gx
      cases gz : ms[i]? with
      | none => rw [gz] at gx; cases gx
      | some z =>
        rw [gz] at gx
        cases gx
        have hi : i < ms.length := (List.getElem?_eq_some_iff.mp gz).1
        have hLn : H L = none := e1.free nL
        refine ⟨rfl, ?_⟩
        refine ⟨.int z, rfl, z, rfl, _, hL, ?_, ?_, ?_, ?_⟩
        · rw [List.length_map, List.length_map, List.length_take]
          exact Nat.lt_of_le_of_lt (show min i ms.length ≤ 63 by omega) (by decide)
        · intro b o eb
          rw [upd_ne (ne_of_none eb hLn)]
          exact e' b o eb
        · rw [upd_ne (fun z => ?_)]
          · exact hc
          · subst z
            rw [upd_same] at nL
            cases nL
        · rw [upd_same, List.take_add_one, gz]
          simp only [Option.toList_some, List.map_append, List.map_cons, List.map_nil]
    · rintro H' ⟨e', hc, hL⟩
      refine ⟨by show 2 ≤ sizeLine; decide, fun D nD => ?_⟩
      have hLn : H L = none := e1.free nL
      have hDn : H D = none := by
        cases q : H D with
        | none => rfl
        | some o => rw [e' D o q] at nD; cases nD
      refine q D L _ (fun b o eb => ?_) hDn hLn ⟨.inl rfl, .inr rfl, fun a h => ?_, fun z => ?_, by omega, ((ms.take (ms.map V.int).length).map fun z => if z < 0 then -z else z), upd_same, ?_, ?_, ?_⟩
      · rw [upd_ne (ne_of_none eb hDn)]
        exact e' b o eb
      · rcases h with rfl | rfl
        · rw [upd_same]; simp
        · rw [upd_ne (ne_of_none hL nD), hL]; simp
      · subst z
        rw [hL] at nD
        cases nD
      · rw [upd_ne (ne_of_none hL nD)]
        exact hL
      · rw [List.length_map, List.length_take]
        omega
      · intro z hz
        obtain ⟨y, _, rfl⟩ := List.mem_map.mp hz
        split <;> omega
theorem ok_same {f : Addr} {fd : FuncData} (h : Has K mg "_law_same" sSame ["_law_value", "_law_due_here"] f fd) (T : Bz mg) :
    FnG P w K mg base CX0 1 f fd ["_law_value", "_law_due_here"] (spP K PSame) := by
  refine okG h.F scSame (fun vs H Q E h => ?_) (fun cd A out s H vs Q E hgd hr h => ?_)
  · obtain ⟨B, ds, d, _, ra, ⟨a, b, rfl, _⟩, _⟩ := h
    exact ra.length.symm
  · obtain ⟨B, ds, d, al, ra, ⟨a, b, rfl, sa, sb, rfl⟩, q⟩ := h
    obtain ⟨x, r, rfl, h1, h2⟩ := rpa_cons.mp ra
    obtain ⟨y, r, rfl, h3, h4⟩ := rpa_cons.mp h2
    obtain rfl := rpa_nil.mp h4
    refine ⟨_, (pss_one (ps_ret (pe_cmpR op_eq (pe_callB (call_reprD hgd hr.units) rfl T.z_repr boot_repr (pa_cons (pv 0) pa_nil)) (pe_callB (call_reprD hgd hr.units) rfl T.z_repr boot_repr (pa_cons (pv 1) pa_nil)) (nomark _)))), ?_⟩
    refine sd_ret (H := H) (K := K) (B := B) ?_ (Xt.refl al) q
    exact dn_op (dn_cb (da_cons (dn_var (i := 0) rfl h1) da_nil) (rc_repr sa)) (dn_cb (da_cons (dn_var (i := 1) rfl h3) da_nil) (rc_repr sb)) rd_eqS
theorem ok_draw {f : Addr} {fd : FuncData} (h : Has K mg "_law_draw" sDraw ["_law_deck_here", "_law_limit"] f fd) (T : Bz mg) :
    FnG P w K mg base CX0 1 f fd ["_law_deck_here", "_law_limit"] (spDraw K) := by
  refine okG h.F scDraw (fun vs H Q E h => ?_) (fun cd A out s H vs Q E hgd hr h => ?_)
  · obtain ⟨B, D, C, t, ds, ws, rfl, _, _, ra, ⟨n, rfl, _⟩, _⟩ := h
    have := ra.length
    simp only [List.length_cons, List.length_nil] at this ⊢
    omega
  · obtain ⟨B, D, C, t, ds, ws, rfl, dk, hl, ra, ⟨n, rfl, n0, n1⟩, q⟩ := h
    obtain rfl : ws = [.int n] := RpA.ints_inv (ns := [n]) ra
    obtain ⟨bD, bC, al, ne, nn, cs, hD, hC, hlen, hcs⟩ := dk
    refine ⟨_, (pss_cons (ps_asg (pe_op op_addU (pe_ix ix_seq (pv 0) pe_int (fun _ _ => rfl)) pe_int) (pg_sub (pv 0) pe_int set_list))
      (pss_cons (ps_asg (pe_tup (pa_cons pe_int (pa_cons (pe_un un_neg pe_int) pa_nil))) (pg_tup rfl (pgs_cons (pg_name (i := 2) scDraw.nd rfl (Or.inl rfl)) (pgs_cons (pg_name (i := 3) scDraw.nd rfl (Or.inl rfl)) pgs_nil))))
      (pss_cons (ps_if (pt_cmpR op_gt (pe_callB call_lenU rfl T.z_len PySem.boot_len (pa_cons (pe_ix ix_seq (pv 0) pe_int (fun _ _ => rfl)) pa_nil)) pe_int (nomark _))
        (pss_cons (ps_set (i := 3) scDraw.nd rfl (Or.inl rfl) (pe_op op_mod (pe_ix ix_seq (pv 0) pe_int (fun _ _ => rfl)) (pe_callB call_lenU rfl T.z_len PySem.boot_len (pa_cons (pe_ix ix_seq (pv 0) pe_int (fun _ _ => rfl)) pa_nil))))
        (pss_one (ps_set (i := 2) scDraw.nd rfl (Or.inl rfl) (pe_ix ix_seq (pe_ix ix_seq (pv 0) pe_int (fun _ _ => rfl)) (pv 3) (fun _ _ => rfl)))))
        pss_nil)
      (pss_cons (ps_if (pt_cmpR op_ge (pv 2) (pe_op op_pow pe_int pe_int) (nomark _))
        (pss_cons (ps_asg (pe_op op_fdiv (pv 2) (pv 1)) (pg_sub (pe_ix ix_seq (pv 0) pe_int (fun _ _ => rfl)) (pv 3) set_list))
        (pss_one (ps_ret (pe_op op_mod (pv 2) (pv 1)))))
        pss_nil)
      (pss_one (ps_ret (pe_op op_mod (pe_op op_fdiv (pe_op op_mod (pe_op op_pow (pe_op op_addU (pe_op op_addU (pe_op op_mod (pv 2) pe_int) (pe_op op_mul pe_int (pe_ix ix_seq (pv 0) pe_int (fun _ _ => rfl)))) pe_int) pe_int) pe_int) pe_int) (pv 1)))))))), ?_⟩
    refine ⟨.ref D, rfl, .inl ⟨D, _, 1, .int t, rfl, rfl, SqL.of hD, rfl, .inl ⟨t, 1, rfl, rfl, .ref D, rfl, D, _, 1, 1, rfl, rfl, hD, rfl, ?_⟩⟩⟩
    have hD1 : (upd H D (.lst [.ref C, .int (t + 1)])) D = some (.lst [.ref C, .int (t + 1)]) := upd_same
    have hC1 : (upd H D (.lst [.ref C, .int (t + 1)])) C = some (.lst (cs.map V.int)) := by
      rw [upd_ne ne.symm]
      exact hC
    have kD : ∀ b o, b ≠ D → H b = some o → (upd H D (.lst [.ref C, .int (t + 1)])) b = some o := fun b o nb e => by rw [upd_ne nb]; exact e
    show tSeq _ _ _ _ (upd H D (.lst [.ref C, .int (t + 1)]))
    generalize upd H D (.lst [.ref C, .int (t + 1)]) = H1 at hD1 hC1 kD
    have fin : ∀ (H2 : Hp) (r : Int) (cs2 : List Int), (∀ b o, b ≠ D → b ≠ C → H b = some o → H2 b = some o) → H2 D = some (.lst [.ref C, .int (t + 1)]) → H2 C = some (.lst (cs2.map V.int)) →
        cs2.length ≤ 63 → (∀ c ∈ cs2, 0 ≤ c) → 0 ≤ r → r < n → Q (.int r) H2 := fun H2 r cs2 k1 k2 k3 k4 k5 r0 r1 => by
      have al2 : Al B H2 := fun a h => by
        by_cases z1 : a = D
        · rw [z1, k2]; simp
        · by_cases z2 : a = C
          · rw [z2, k3]; simp
          · cases e : H a with
            | none => exact absurd e (al a h)
            | some o => rw [k1 a o z1 z2 e]; simp
      have dk2 : Dk B H2 D C (t + 1) := ⟨bD, bC, al2, ne, by omega, cs2, k2, k3, k4, k5⟩
      refine q (.int r) (.int r) H2 (t + 1) ⟨fun a o nb e => ?_, dk2.alk⟩ dk2 (by omega) ⟨n, r, rfl, rfl, r0, r1⟩ (rp_int.mpr rfl)
      exact k1 a o (fun z => nb (.inl z)) (fun z => nb (.inr z)) e
    refine ⟨1, rfl, by show 2 ≤ sizeLine; decide, fun p np => ?_⟩
    refine ⟨p, _, rfl, SqT.of upd_same, rfl, .int 0, _, rfl, .int (-1), _, rfl, rfl, ?_⟩
    have sp : Same H1 (upd H1 p (.tup [.int 0, .int (-1)])) := same_new np
    replace hD1 := sp _ _ hD1
    replace hC1 := sp _ _ hC1
    replace kD := fun b o nb e => sp b o (kD b o nb e)
    show tSeq _ _ _ _ (upd H1 p (.tup [.int 0, .int (-1)]))
    generalize upd H1 p (.tup [.int 0, .int (-1)]) = H1 at hD1 hC1 kD
    refine ⟨.ref D, rfl, .inl ⟨D, _, 0, .ref C, rfl, rfl, SqL.of hD1, rfl, C, _, rfl, .inl (SqL.of hC1), _, _, rfl, rfl, _, rfl, ite2 (fun e => ?_) (fun e => ?_)⟩⟩
    · have e0 : 0 < cs.length := by
        have := of_decide_eq_true e
        rw [List.length_map] at this
        omega
      have hm0 : 0 ≤ (t + 1) % (cs.length : Int) := Int.emod_nonneg _ (by omega)
      have hm1 : (t + 1) % (cs.length : Int) < cs.length := Int.emod_lt_of_pos _ (by omega)
      obtain ⟨j, hj⟩ : ∃ j : Nat, (t + 1) % (cs.length : Int) = (j : Int) := ⟨((t + 1) % (cs.length : Int)).toNat, by omega⟩
      have hjl : j < cs.length := by omega
      have gj : (cs.map V.int)[j]? = some (.int cs[j]) := by
        rw [List.getElem?_map, List.getElem?_eq_getElem hjl]
        rfl
      have cj : 0 ≤ cs[j] := hcs _ (List.getElem_mem hjl)
      refine ⟨.ref D, rfl, .inl ⟨D, _, 1, .int (t + 1), rfl, rfl, SqL.of hD1, rfl, .ref D, rfl, .inl ⟨D, _, 0, .ref C, rfl, rfl, SqL.of hD1, rfl, C, _, rfl, .inl (SqL.of hC1), _, _, rfl, rfl, ?_, ?_⟩⟩⟩
      · rw [List.length_map]
        omega
      show gName 3 (V.int ((t + 1) % (((cs.map V.int).length : Nat) : Int))) _ _ _
      rw [List.length_map, hj]
      refine ⟨.ref D, rfl, .inl ⟨D, _, 0, .ref C, rfl, rfl, SqL.of hD1, rfl, .int j, rfl, .inl ⟨C, _, j, _, rfl, rfl, SqL.of hC1, atI_nat gj, ?_⟩⟩⟩
      refine ⟨.int cs[j], rfl, 10, 18, rfl, rfl, ⟨by decide, by decide, by decide⟩, _, _, rfl, rfl, _, rfl, ite2 (fun e1 => ?_) (fun e1 => ?_)⟩
      · have hix : ixN (cs.map V.int).length (j : Int) = some j := by
          unfold ixN
          rw [List.length_map, if_pos (by omega), if_pos (by omega)]
          simp
        refine ⟨.int cs[j], rfl, .int n, rfl, _, n, rfl, rfl, ⟨n0, n1⟩, .ref D, rfl, .inl ⟨D, _, 0, .ref C, rfl, rfl, SqL.of hD1, rfl, .int j, rfl, C, _, j, j, rfl, rfl, hC1, hix, ?_⟩⟩
        refine ⟨.int cs[j], rfl, .int n, rfl, _, n, rfl, rfl, n0, ?_⟩
        refine fin _ _ (cs.set j (cs[j] / n)) (fun b o b1 b2 e => ?_) ?_ ?_ ?_ ?_ (Int.emod_nonneg _ (by omega)) (Int.emod_lt_of_pos _ n0)
        · rw [upd_ne b2]
          exact kD b o b1 e
        · rw [upd_ne ne]
          exact hD1
        · rw [upd_same, List.map_set]
        · rw [List.length_set]
          exact hlen
        · intro c hc
          rcases List.mem_or_eq_of_mem_set hc with h | rfl
          · exact hcs c h
          · exact Int.ediv_nonneg cj (by omega)
      · refine ⟨.int cs[j], rfl, _, _, rfl, rfl, by show (0 : Int) < 2147483587; decide, .ref D, rfl, .inl ⟨D, _, 1, .int (t + 1), rfl, rfl, SqL.of hD1, rfl, 7919, t + 1, rfl, rfl, .inl ⟨by decide, by decide⟩, .inl ⟨_, _, rfl, rfl, .inl ⟨_, 1, rfl, rfl, _, 5, rfl, rfl, ⟨by decide, by decide, ?_⟩,
          _, _, rfl, rfl, by show (0 : Int) < 2147483647; decide, _, 7, rfl, rfl, ⟨by decide, by decide⟩, .int n, rfl, _, n, rfl, rfl, n0, ?_⟩⟩⟩⟩
        · have a0 : 0 ≤ cs[j] % 2147483587 := Int.emod_nonneg _ (by decide)
          have a1 : cs[j] % 2147483587 < 2147483587 := Int.emod_lt_of_pos _ (by decide)
          unfold Lim at hl
          show (cs[j] % 2147483587 + 7919 * (t + 1) + 1).natAbs < 2 ^ 64
          omega
        · exact fin H1 _ cs (fun b o b1 _ e => kD b o b1 e) hD1 hC1 hlen hcs (Int.emod_nonneg _ (by omega)) (Int.emod_lt_of_pos _ n0)
    · refine ⟨.int 0, rfl, 10, 18, rfl, rfl, ⟨by decide, by decide, by decide⟩, _, _, rfl, rfl, _, rfl, ite2 (fun e1 => ?_) (fun e1 => ?_)⟩
      · exact absurd (of_decide_eq_true e1) (by decide)
      · refine ⟨.int 0, rfl, _, _, rfl, rfl, by show (0 : Int) < 2147483587; decide, .ref D, rfl, .inl ⟨D, _, 1, .int (t + 1), rfl, rfl, SqL.of hD1, rfl, 7919, t + 1, rfl, rfl, .inl ⟨by decide, by decide⟩, .inl ⟨_, _, rfl, rfl, .inl ⟨_, 1, rfl, rfl, _, 5, rfl, rfl, ⟨by decide, by decide, ?_⟩,
          _, _, rfl, rfl, by show (0 : Int) < 2147483647; decide, _, 7, rfl, rfl, ⟨by decide, by decide⟩, .int n, rfl, _, n, rfl, rfl, n0, ?_⟩⟩⟩⟩
        · unfold Lim at hl
          show ((0 : Int) % 2147483587 + 7919 * (t + 1) + 1).natAbs < 2 ^ 64
          omega
        · exact fin H1 _ cs (fun b o b1 _ e => kD b o b1 e) hD1 hC1 hlen hcs (Int.emod_nonneg _ (by omega)) (Int.emod_lt_of_pos _ n0)
end
end CG

namespace CG
open PySem PySem.Spec PyProof.Rows L2
abbrev sPChanged : Stmt := topS 1
abbrev NscPChanged : List Str := ["counter", "amount", "give", "get"]
theorem scPChanged : FnScope NscPChanged ["counter", "amount"] (defScope sPChanged) := ⟨rfl, rfl, rfl, by decide +kernel, rfl, by decide +kernel, by decide +kernel⟩
abbrev sAmount : Stmt := topS 6
abbrev NscAmount : List Str := ["_law_deck_here"]
theorem scAmount : FnScope NscAmount ["_law_deck_here"] (defScope sAmount) := ⟨rfl, rfl, rfl, by decide +kernel, rfl, by decide +kernel, by decide +kernel⟩
abbrev sDue : Stmt := topS 7
abbrev NscDue : List Str := ["_law_give", "_law_get", "_law_amount_here"]
theorem scDue : FnScope NscDue ["_law_give", "_law_get", "_law_amount_here"] (defScope sDue) := ⟨rfl, rfl, rfl, by decide +kernel, rfl, by decide +kernel, by decide +kernel⟩
/-- changed(counter, x) -/
def PChanged (ds : List PyData) (d : PyData) : Prop := ∃ a b g e x : Int, ds = [.tuple [.int a, .int b, .int g, .int e], .int x] ∧ 0 < g ∧ g ≤ 5 ∧ 0 < e ∧ e ≤ 5 ∧ d = .int (x / g * e)
def PDue (ds : List PyData) (d : PyData) : Prop := ∃ g e x : Int, ds = [.int g, .int e, .int x] ∧ 0 < g ∧ g ≤ 5 ∧ 0 < e ∧ e ≤ 5 ∧ d = .int ((x - x % g) * e / g)
def Amt (d : PyData) : Prop := ∃ x : Int, d = .int x ∧ 0 ≤ x ∧ x ≤ 1000000000000
section
variable {P : Program} {w : World} {K : PySem.W.Frag} {mg : Str → Option Value} {base : Heap}
theorem ok_changed {f : Addr} {fd : FuncData} (h : Has K mg "changed" sPChanged ["counter", "amount"] f fd) : FnG P w K mg base CX0 1 f fd ["counter", "amount"] (spP K PChanged) := by
  refine okG h.F scPChanged (fun vs H Q E h => ?_) (fun cd A out s H vs Q E hgd hr h => ?_)
  · obtain ⟨B, ds, d, _, ra, ⟨a, b, g, e, x, rfl, _⟩, _⟩ := h
    exact ra.length.symm
  · obtain ⟨B, ds, d, al, ra, ⟨a, b, g, e, x, rfl, g0, g1, e0, e1, rfl⟩, q⟩ := h
    obtain ⟨x1, r, rfl, h1, h2⟩ := rpa_cons.mp ra
    obtain ⟨x2, r, rfl, h3, h4⟩ := rpa_cons.mp h2
    obtain rfl := rpa_nil.mp h4
    refine ⟨_, (pss_cons (ps_asg (pe_slice sl_U (pv 0) (po_some pe_int) po_none) (pg_tup rfl (pgs_cons (pg_name (i := 2) scPChanged.nd rfl (Or.inl rfl)) (pgs_cons (pg_name (i := 3) scPChanged.nd rfl (Or.inl rfl)) pgs_nil))))
      (pss_one (ps_ret (pe_op op_mul (pe_op op_fdiv (pv 1) (pv 2)) (pv 3))))), ?_⟩
    refine sd_unp (K := K) (B := B) (H := H) (ds := [.int g, .int e]) ?_ (Xt.refl al) rfl (fun xs H1 s1 r1 => ?_)
    · exact dn_slT (ds := [.int a, .int b, .int g, .int e]) (dn_var rfl h1) (do_some (K := K) dn_int) do_none
    · obtain rfl : xs = [.int g, .int e] := RpA.ints_inv (ns := [g, e]) r1
      refine ⟨_, _, rfl, _, _, rfl, rfl, ?_⟩
      have x01 : Xt B H H1 := Xt.of al s1
      dsimp only
      refine sd_ret (K := K) (B := B) (H := H1) (d := .int (x / g * e)) ?_ (Xt.refl x01.al) ?_
      rotate_left
      · exact fun v H2 s2 r2 => q v H2 (s1.trans s2) r2
      exact dn_op (dn_op (dn_var rfl (h3.up x01)) (dn_var rfl (rp_int.mpr rfl)) (rd_I ⟨g0, by omega⟩)) (dn_var rfl (rp_int.mpr rfl)) (rd_I (.inr ⟨by omega, by omega⟩))
theorem ok_due {f : Addr} {fd : FuncData} (h : Has K mg "_law_due" sDue ["_law_give", "_law_get", "_law_amount_here"] f fd) :
    FnG P w K mg base CX0 1 f fd ["_law_give", "_law_get", "_law_amount_here"] (spP K PDue) := by
  refine okG h.F scDue (fun vs H Q E h => ?_) (fun cd A out s H vs Q E hgd hr h => ?_)
  · obtain ⟨B, ds, d, _, ra, ⟨g, e, x, rfl, _⟩, _⟩ := h
    exact ra.length.symm
  · obtain ⟨B, ds, d, al, ra, ⟨g, e, x, rfl, g0, g1, e0, e1, rfl⟩, q⟩ := h
    obtain rfl : vs = [.int g, .int e, .int x] := RpA.ints_inv (ns := [g, e, x]) ra
    refine ⟨_, (pss_one (ps_ret (pe_op op_fdiv (pe_op op_mul (pe_op op_sub (pv 2) (pe_op op_mod (pv 2) (pv 0))) (pv 1)) (pv 0)))), ?_⟩
    refine sd_ret (K := K) (B := B) (H := H) ?_ (Xt.refl al) q
    have vi : ∀ {z : Int}, Rp K B H (.int z) (.int z) := rp_int.mpr rfl
    exact dn_op (dn_op (dn_op (dn_var rfl vi) (dn_op (dn_var rfl vi) (dn_var rfl vi) (rd_I g0)) rd_I0) (dn_var rfl vi) (rd_I (.inr ⟨by omega, by omega⟩))) (dn_var rfl vi) (rd_I ⟨g0, by omega⟩)
theorem ok_amount {f fD : Addr} {fd fdD : FuncData} (h : Has K mg "_law_amount" sAmount ["_law_deck_here"] f fd) (hD : Has K mg "_law_draw" sDraw ["_law_deck_here", "_law_limit"] fD fdD) (T : Bz mg) :
    FnG P w K mg base CX0 2 f fd ["_law_deck_here"] (spE K 4 (fun ds => ds = []) (fun _ d => Amt d)) := by
  have G__law_draw : FnG P w K mg base CX0 1 fD fdD _ (spDraw K) := ok_draw hD T
  refine okG h.F scAmount (fun vs H Q E h => ?_) (fun cd A out s H vs Q E hgd hr h => ?_)
  · obtain ⟨B, D, C, t, ds, ws, rfl, _, _, ra, rfl, _⟩ := h
    rw [rpa_nil.mp ra]
    rfl
  · obtain ⟨B, D, C, t, ds, ws, rfl, dk, hl, ra, rfl, q⟩ := h
    obtain rfl := rpa_nil.mp ra
    refine ⟨_, (pss_one (ps_ret (pe_ix ix_seq (pe_lst (pa_cons pe_int (pa_cons (pe_callG G__law_draw hgd (hr.mono (by decide)) rfl hD.m hD.F.kp hD.b .nil pass0 (pa_cons (pv 0) (pa_cons pe_int pa_nil))) (pa_cons (pe_callG G__law_draw hgd (hr.mono (by decide)) rfl hD.m hD.F.kp hD.b .nil pass0 (pa_cons (pv 0) (pa_cons pe_int pa_nil))) (pa_cons (pe_callG G__law_draw hgd (hr.mono (by decide)) rfl hD.m hD.F.kp hD.b .nil pass0 (pa_cons (pv 0) (pa_cons pe_int pa_nil))) (pa_cons (pe_op op_pow pe_int pe_int) pa_nil)))))) (pe_callG G__law_draw hgd (hr.mono (by decide)) rfl hD.m hD.F.kp hD.b .nil pass0 (pa_cons (pv 0) (pa_cons pe_int pa_nil))) (fun _ _ => rfl)))), ?_⟩
    refine se_ret (K := K) (B := B) (D := D) (C := C) (H := H) (m := 4) (Φ := Amt) ?_ (Xt.refl dk.al) dk hl q
    refine Ef.weak (ef_op (ef_lst (ea_cons dn_int.ef (ea_cons (ef_drawN rfl (by decide) (by decide)) (ea_cons (ef_drawN rfl (by decide) (by decide)) (ea_cons (ef_drawN rfl (by decide) (by decide))
      (ea_cons (dn_op dn_int dn_int (rd_I ⟨by decide, by decide, by decide⟩)).ef ea_nil (by decide)) (by decide)) (by decide)) (by decide)) (by decide)) ?_) (ef_drawN rfl (by decide) (by decide)) ?_ (by decide)) (fun d p => p) (by decide)
    · rintro ds ⟨_, _, rfl, rfl, _, _, rfl, _, _, _, rfl, _, _, _, rfl, _, _, _, rfl, _, rfl⟩
      show (5 : Nat) ≤ 100000
      decide
    · rintro a b ⟨ds, rfl, _, _, rfl, rfl, _, _, rfl, ⟨r1, rfl, h1, h2⟩, _, _, rfl, ⟨r2, rfl, h3, h4⟩, _, _, rfl, ⟨r3, rfl, h5, h6⟩, _, _, rfl, rfl, rfl⟩ ⟨r, rfl, h7, h8⟩
      have c : r = 0 ∨ r = 1 ∨ r = 2 ∨ r = 3 ∨ r = 4 := by omega
      rcases c with rfl | rfl | rfl | rfl | rfl
      · exact ⟨_, ⟨_, rfl, by decide, by decide⟩, rd_ixL rfl⟩
      · exact ⟨_, ⟨_, rfl, h1, by omega⟩, rd_ixL rfl⟩
      · exact ⟨_, ⟨_, rfl, h3, by omega⟩, rd_ixL rfl⟩
      · exact ⟨_, ⟨_, rfl, h5, by omega⟩, rd_ixL rfl⟩
      · exact ⟨_, ⟨_, rfl, by decide, by decide⟩, rd_ixL rfl⟩
end
end CG

namespace CG
open PySem PySem.Spec PyProof.Rows L2
abbrev sLaw : Stmt := topS 8
abbrev NscLaw : List Str := ["_law_script", "_law_deck_here", "_law_some", "_law_give", "_law_get", "_law_kinds", "_law_counter", "_law_amount_here", "_law_due_here", "_law_other", "_law_both", "_law_k"]
theorem scLaw : FnScope NscLaw ["_law_script"] (defScope sLaw) := ⟨rfl, rfl, rfl, by decide +kernel, rfl, by decide +kernel, by decide +kernel⟩
/-! ### arithmetic -/
theorem due_eq (x g e : Int) (h : 0 < g) : (x - x % g) * e / g = x / g * e := by
  have h1 : x - x % g = g * (x / g) := by
    have := Int.mul_ediv_add_emod x g
    omega
  rw [h1, Int.mul_assoc]
  exact Int.mul_ediv_cancel_left _ (by omega)
theorem div_super (x o g : Int) (h : 0 < g) : x / g + o / g ≤ (x + o) / g := by
  refine (Int.le_ediv_iff_mul_le h).mpr ?_
  have a := Int.mul_ediv_add_emod x g
  have b := Int.mul_ediv_add_emod o g
  have c := Int.emod_nonneg x (show g ≠ 0 by omega)
  have d := Int.emod_nonneg o (show g ≠ 0 by omega)
  have z : (x / g + o / g) * g = g * (x / g) + g * (o / g) := by
    rw [Int.add_mul, Int.mul_comm (x / g) g, Int.mul_comm (o / g) g]
  omega
theorem amts {ds : List PyData} (h : ∀ (i : Nat) d, ds[i]? = some d → Amt d) : ∃ xs : List Int, ds = xs.map PyData.int ∧ ∀ x ∈ xs, 0 ≤ x ∧ x ≤ 1000000000000 := by
  induction ds with
  | nil => exact ⟨[], rfl, fun x hx => by simp at hx⟩
  | cons d ds ih =>
    obtain ⟨xs, e, h1⟩ := ih fun i c hc => h (i + 1) c (by rw [List.getElem?_cons_succ]; exact hc)
    obtain ⟨x, ex, h2⟩ := h 0 d rfl
    refine ⟨x :: xs, by rw [e, ex]; rfl, fun y hy => ?_⟩
    rcases List.mem_cons.mp hy with rfl | hy
    · exact h2
    · exact h1 y hy
theorem rp_lst_at {K : PySem.W.Frag} {B : Addr → Prop} {H : Hp} {S : Addr} {xs : List Int} (h : Rp K B H (.list (xs.map PyData.int)) (.ref S)) : H S = some (.lst (xs.map V.int)) := by
  obtain ⟨a, ys, e, _, g, r⟩ := rp_lst.mp h
  cases e
  rw [g, RpA.ints_inv r]
/-- what the law keeps as its amounts -/
def Some14 (d : PyData) : Prop := ∃ xs : List Int, d = .list (xs.map PyData.int) ∧ xs.length = 14 ∧ ∀ x ∈ xs, 0 ≤ x ∧ x ≤ 1000000000000
section
variable {P : Program} {w : World} {K : PySem.W.Frag} {mg : Str → Option Value} {base : Heap}
def spLaw (K : PySem.W.Frag) : Sp := fun vs H Q _ => ∃ (a : Addr) (ns : List Int), vs = [.ref a] ∧ SqL K H a (ns.map V.int) ∧ ∀ H', Q (.bl true) H'
theorem ok_law {f f1 f2 f3 f4 f5 f6 : Addr} {fd fd1 fd2 fd3 fd4 fd5 fd6 : FuncData} (h : Has K mg "law" sLaw ["_law_script"] f fd) (T : Bz mg)
    (T1 : Has K mg "_law_deck" sDeck ["_law_script"] f1 fd1) (T2 : Has K mg "_law_draw" sDraw ["_law_deck_here", "_law_limit"] f2 fd2)
    (T3 : Has K mg "_law_same" sSame ["_law_value", "_law_due_here"] f3 fd3) (T4 : Has K mg "_law_amount" sAmount ["_law_deck_here"] f4 fd4)
    (T5 : Has K mg "_law_due" sDue ["_law_give", "_law_get", "_law_amount_here"] f5 fd5) (T6 : Has K mg "changed" sPChanged ["counter", "amount"] f6 fd6) :
    FnG P w K mg base CX0 3 f fd ["_law_script"] (spLaw K) := by
  have G1 : FnG P w K mg base CX0 1 f1 fd1 _ (spDeck K) := ok_deck T1 T
  have G2 : FnG P w K mg base CX0 1 f2 fd2 _ (spDraw K) := ok_draw T2 T
  have G3 : FnG P w K mg base CX0 1 f3 fd3 _ (spP K PSame) := ok_same T3 T
  have G4 : FnG P w K mg base CX0 2 f4 fd4 _ (spE K 4 (fun ds => ds = []) (fun _ d => Amt d)) := ok_amount T4 T2 T
  have G5 : FnG P w K mg base CX0 1 f5 fd5 _ (spP K PDue) := ok_due T5
  have G6 : FnG P w K mg base CX0 1 f6 fd6 _ (spP K PChanged) := ok_changed T6
  refine okG h.F scLaw (fun vs H Q E h => ?_) (fun cd A out s H vs Q E hgd hr h => ?_)
  · obtain ⟨a, ns, rfl, _⟩ := h
    rfl
  · obtain ⟨a, ns, rfl, hS, q⟩ := h
    refine ⟨_, (pss_cons (ps_set (i := 1) scLaw.nd rfl (Or.inr rfl) (pe_callG G1 hgd (hr.mono (by decide)) rfl T1.m T1.F.kp T1.b .nil pass0 (pa_cons (pv 0) pa_nil)))
      (pss_cons (ps_set (i := 2) scLaw.nd rfl (Or.inl rfl) (pe_op op_addU (pe_lc (own := [("_law_k", 11)]) rfl scLaw.nd (pi_range1 rfl T.z_range (pa_cons pe_int pa_nil)) (blkOk_by (N := NscLaw) (sc := defScope sLaw) (by decide +kernel)) (fun _ _ _ _ _ => (pg_name (i := 11) scLaw.nd rfl (Or.inl rfl))) (fun _ _ _ _ _ => pts_nil) (fun _ _ _ _ _ => (pe_callG G4 hgd (hr.mono (by decide)) rfl T4.m T4.F.kp T4.b .nil pass0 (pa_cons (pv 1) pa_nil)))) (pe_lst (pa_cons pe_int (pa_cons pe_int (pa_cons pe_int (pa_cons pe_int (pa_cons pe_int (pa_cons pe_int (pa_cons pe_int (pa_cons (pe_op op_pow pe_int pe_int) (pa_cons (pe_op op_sub (pe_op op_pow pe_int pe_int) pe_int) pa_nil))))))))))))
      (pss_cons (ps_for PassesOwn.never rfl (pi_range2 rfl T.z_range (pa_cons pe_int (pa_cons pe_int pa_nil))) (pg_name (i := 3) scLaw.nd rfl (Or.inl rfl))
        (pss_one (ps_for PassesOwn.never rfl (pi_range2 rfl T.z_range (pa_cons pe_int (pa_cons pe_int pa_nil))) (pg_name (i := 4) scLaw.nd rfl (Or.inl rfl))
          (pss_cons (ps_set (i := 5) scLaw.nd rfl (Or.inl rfl) (pe_ix ix_seq (pe_lst (pa_cons (pe_tup (pa_cons pe_int (pa_cons pe_int pa_nil))) (pa_cons (pe_tup (pa_cons pe_int (pa_cons pe_int pa_nil))) (pa_cons (pe_tup (pa_cons pe_int (pa_cons pe_int pa_nil))) pa_nil)))) (pe_callG G2 hgd (hr.mono (by decide)) rfl T2.m T2.F.kp T2.b .nil pass0 (pa_cons (pv 1) (pa_cons pe_int pa_nil))) (fun _ _ => rfl)))
          (pss_cons (ps_set (i := 6) scLaw.nd rfl (Or.inl rfl) (pe_op op_addU (pv 5) (pe_tup (pa_cons (pv 3) (pa_cons (pv 4) pa_nil)))))
          (pss_one (ps_for PassesOwn.never rfl (pi_list (pv 2)) (pg_name (i := 7) scLaw.nd rfl (Or.inl rfl))
            (pss_cons (ps_set (i := 8) scLaw.nd rfl (Or.inl rfl) (pe_callG G5 hgd (hr.mono (by decide)) rfl T5.m T5.F.kp T5.b .nil pass0 (pa_cons (pv 3) (pa_cons (pv 4) (pa_cons (pv 7) pa_nil)))))
            (pss_cons (ps_if (pt_not (pt_val (pe_callG G3 hgd (hr.mono (by decide)) rfl T3.m T3.F.kp T3.b .nil pass0 (pa_cons (pe_lst (pa_cons (pe_callG G6 hgd (hr.mono (by decide)) rfl T6.m T6.F.kp T6.b .nil pass0 (pa_cons (pv 6) (pa_cons (pv 7) pa_nil))) (pa_cons (pe_callG G6 hgd (hr.mono (by decide)) rfl T6.m T6.F.kp T6.b .nil pass0 (pa_cons (pv 6) (pa_cons (pv 7) pa_nil))) pa_nil))) (pa_cons (pe_lst (pa_cons (pv 8) (pa_cons (pv 8) pa_nil))) pa_nil)))))
              (pss_one (ps_ret pe_bl))
              pss_nil)
            (pss_cons (ps_set (i := 9) scLaw.nd rfl (Or.inl rfl) (pe_callB (call_minU rfl) rfl T.z_min boot_min (pa_cons (pe_op op_sub (pe_op op_pow pe_int pe_int) (pv 7)) (pa_cons (pe_op op_fdiv (pe_ix ix_seq (pv 2) (pe_callG G2 hgd (hr.mono (by decide)) rfl T2.m T2.F.kp T2.b .nil pass0 (pa_cons (pv 1) (pa_cons (pe_callB call_lenU rfl T.z_len PySem.boot_len (pa_cons (pv 2) pa_nil)) pa_nil))) (fun _ _ => rfl)) pe_int) pa_nil))))
            (pss_cons (ps_set (i := 10) scLaw.nd rfl (Or.inl rfl) (pe_callG G6 hgd (hr.mono (by decide)) rfl T6.m T6.F.kp T6.b .nil pass0 (pa_cons (pv 6) (pa_cons (pe_op op_addU (pv 7) (pv 9)) pa_nil))))
            (pss_cons (ps_if (pt_cmpR op_gt (pe_op op_addU (pv 8) (pe_callG G6 hgd (hr.mono (by decide)) rfl T6.m T6.F.kp T6.b .nil pass0 (pa_cons (pv 6) (pa_cons (pv 9) pa_nil)))) (pv 10) (nomark _))
              (pss_one (ps_ret pe_bl))
              pss_nil)
            (pss_one (ps_if (PW.pt (pw_and (pt_cmpR op_gt (pv 7) pe_int (nomark _)) (pw_and1 (pt_cmpR op_gt (pe_callG G6 hgd (hr.mono (by decide)) rfl T6.m T6.F.kp T6.b .nil pass0 (pa_cons (pv 6) (pa_cons (pe_op op_sub (pv 7) pe_int) pa_nil))) (pv 8) (nomark _)))))
              (pss_one (ps_ret pe_bl))
              pss_nil))))))))))))))
      (pss_one (ps_ret pe_bl))))), ?_⟩
    -- the deck
    refine ⟨.ref a, rfl, a, ns, rfl, hS, fun D C H1 s1 nD nC dk => ?_⟩
    dsimp only
    generalize hB : (fun a => a = D ∨ a = C) = B at dk
    -- the amounts
    refine se_set (K := K) (B := B) (D := D) (C := C) (H := H1) (t := 0) (m := 20) (Φ := Some14) ?_ (Xt.refl dk.al) dk (by decide) (fun v d H2 t2 x2 k2 l2 pd rd => ?_)
    · refine Ef.weak (ef_op (ef_lcR (n := 5) (c := 4) (Φ := fun _ d => Amt d) (da_cons dn_int da_nil) (by decide) (by decide) ?_)
        (Dn.ef (dn_lst (da_cons dn_int (da_cons dn_int (da_cons dn_int (da_cons dn_int (da_cons dn_int (da_cons dn_int (da_cons dn_int (da_cons (dn_op dn_int dn_int (rd_I ⟨by decide, by decide, by decide⟩)) (da_cons (dn_op (dn_op dn_int dn_int (rd_I ⟨by decide, by decide, by decide⟩)) dn_int rd_I0) da_nil))))))))) ?_)) (Θ := Some14) ?_ (by decide)) (fun d p => p) (by decide)
      · intro B' gw i hi
        exact Ef.weak (n := 0 + 4) (ef_callE rfl ea_nil (fun ds e => ⟨e, fun c pc => pc⟩) (by decide)) (fun d p => p) (by decide)
      · show (9 : Nat) ≤ 100000
        decide
      · rintro x y ⟨ds, rfl, h1, h2⟩ rfl
        obtain ⟨xs, rfl, h3⟩ := amts h2
        rw [List.length_map] at h1
        refine ⟨_, ⟨xs ++ [0, 1, 4, 5, 59, 60, 61, 10 ^ 12, 10 ^ 12 - 1], rfl, by rw [List.length_append, h1]; rfl, fun x hx => ?_⟩, ?_⟩
        · rcases List.mem_append.mp hx with hx | hx
          · exact h3 x hx
          · simp only [List.mem_cons, List.not_mem_nil, or_false] at hx
            rcases hx with rfl | rfl | rfl | rfl | rfl | rfl | rfl | rfl | rfl <;> decide
        · rw [List.map_append]
          exact rd_catL (by rw [List.length_map, h1]; decide)
    obtain ⟨xs, rfl, hlen, hxs⟩ := pd
    obtain ⟨S, ys, rfl, nS, hSS, ry⟩ := rp_lst.mp rd
    obtain rfl := RpA.ints_inv ry
    have sS : ∀ {H' : Hp}, Xt B H2 H' → Rp K B H' (.list (xs.map PyData.int)) (.ref S) := fun x => rd.up x
    dsimp only
    -- for give
    refine ⟨1, 6, rfl, ⟨by decide, by decide, by decide, by decide⟩, ?_⟩
    refine for_range (lo := 1) (n := 5) (fun i σ H' => ∃ (t : Int) (y3 y4 y5 y6 y7 y8 y9 y10 y11 : Option V), σ = [some (.ref a), some (.ref D), some (.ref S), y3, y4, y5, y6, y7, y8, y9, y10, y11] ∧
      Xt (Bk D C) H2 H' ∧ Dk B H' D C t ∧ t ≤ 20 + 75 * i) ?_ ?_ ?_
    · exact ⟨t2, none, none, none, none, none, none, none, none, none, rfl, Xt.refl k2.alk, k2, by omega⟩
    · rintro i _ H3 hi ⟨t3, y3, y4, y5, y6, y7, y8, y9, y10, y11, rfl, x3, k3, l3⟩
      -- for get
      refine ⟨1, 6, rfl, ⟨by decide, by decide, by decide, by decide⟩, ?_⟩
      refine for_range (lo := 1) (n := 5) (fun j σ H' => ∃ (t : Int) (y4 y5 y6 y7 y8 y9 y10 y11 : Option V), σ = [some (.ref a), some (.ref D), some (.ref S), some (.int (1 + i)), y4, y5, y6, y7, y8, y9, y10, y11] ∧
        Xt (Bk D C) H2 H' ∧ Dk B H' D C t ∧ t ≤ 20 + 75 * i + 15 * j) ?_ ?_ ?_
      · exact ⟨t3, y4, y5, y6, y7, y8, y9, y10, y11, rfl, x3, k3, by omega⟩
      · rintro j _ H4 hj ⟨t4, y4, y5, y6, y7, y8, y9, y10, y11, rfl, x4, k4, l4⟩
        have g0 : (0 : Int) < 1 + i := by omega
        have g5 : (1 : Int) + i ≤ 5 := by omega
        have e0 : (0 : Int) < 1 + j := by omega
        have e5 : (1 : Int) + j ≤ 5 := by omega
        generalize (1 : Int) + i = g at g0 g5
        dsimp only [gName, List.set]
        generalize (1 : Int) + j = e at e0 e5
        -- kinds
        refine se_set (K := K) (B := B) (D := D) (C := C) (H := H4) (t := t4) (m := 1) (Φ := fun d => ∃ p r : Int, d = .tuple [.int p, .int r]) ?_ (Xt.refl k4.al) k4 (by unfold Lim; omega) (fun v5 d H5 t5 x5 k5 l5 pd r5 => ?_)
        · refine Ef.weak (ef_op (Dn.ef (dn_lst (da_cons (dn_tup (da_cons dn_int (da_cons dn_int da_nil)) (by decide)) (da_cons (dn_tup (da_cons dn_int (da_cons dn_int da_nil)) (by decide)) (da_cons (dn_tup (da_cons dn_int (da_cons dn_int da_nil)) (by decide)) da_nil))) (by decide)))
            (ef_drawN rfl (by decide) (by decide)) ?_ (by decide)) (fun d p => p) (by decide)
          rintro x y rfl ⟨r, rfl, h7, h8⟩
          have c : r = 0 ∨ r = 1 ∨ r = 2 := by omega
          rcases c with rfl | rfl | rfl
          · exact ⟨_, ⟨_, _, rfl⟩, rd_ixL rfl⟩
          · exact ⟨_, ⟨_, _, rfl⟩, rd_ixL rfl⟩
          · exact ⟨_, ⟨_, _, rfl⟩, rd_ixL rfl⟩
        obtain ⟨p, r, rfl⟩ := pd
        have xx5 : Xt (Bk D C) H2 H5 := x4.trans x5
        dsimp only [List.set]
        -- counter
        have vi : ∀ {H' : Hp} {z : Int}, Rp K B H' (.int z) (.int z) := rp_int.mpr rfl
        refine sd_set (K := K) (B := B) (H := H5) (d := .tuple [.int p, .int r, .int g, .int e]) ?_ (Xt.refl k5.al) (fun v6 H6 s6 r6 => ?_)
        · exact dn_op (dn_var rfl r5) (dn_tup (da_cons (dn_var rfl vi) (da_cons (dn_var rfl vi) da_nil)) (by show (2 : Nat) ≤ 100000; decide)) (rd_catT (ds := [.int p, .int r]) (es := [.int g, .int e]) (by show (4 : Nat) ≤ 100000; decide))
        dsimp only [List.set]
        have k6 := k5.same s6
        have xx6 : Xt (Bk D C) H2 H6 := xx5.same s6
        -- for amount
        refine ⟨.ref S, rfl, S, rfl, ⟨_, SqL.of (rp_lst_at (sS (k2.wd xx6)))⟩, ?_⟩
        refine for_list (xs := xs.map V.int) (fun n σ H' => ∃ (t : Int) (y7 y8 y9 y10 : Option V), σ = [some (.ref a), some (.ref D), some (.ref S), some (.int g), some (.int e), some v5, some v6, y7, y8, y9, y10, y11] ∧
          Xt (Bk D C) H6 H' ∧ Dk B H' D C t ∧ t ≤ 20 + 75 * i + 15 * j + 1 + n) ?_ ?_ ?_ ?_
        · exact ⟨t5, y7, y8, y9, y10, rfl, Xt.refl k6.alk, k6, by omega⟩
        · rintro n _ H7 hn ⟨t7, y7, y8, y9, y10, rfl, x7, k7, l7⟩
          exact SqL.of (rp_lst_at (sS (k2.wd (xx6.trans x7))))
        · rintro n y _ H7 gy ⟨t7, y7, y8, y9, y10, rfl, x7, k7, l7⟩
          rw [List.getElem?_map] at gy
          cases gz : xs[n]? with
          | none => rw [gz] at gy; cases gy
          | some x =>
            rw [gz] at gy
            cases gy
            have hn : n < 14 := by
              have := (List.getElem?_eq_some_iff.mp gz).1
              omega
            obtain ⟨x0, x1⟩ := hxs x (List.mem_of_getElem? gz)
            dsimp only [gName, List.set]
            have r6' := r6.up (k6.wd x7)
            -- due
            refine sd_set (K := K) (B := B) (H := H7) (d := .int (x / g * e)) ?_ (Xt.refl k7.al) (fun v8 H8 s8 r8 => ?_)
            · exact dn_call (da_cons (dn_var rfl vi) (da_cons (dn_var rfl vi) (da_cons (dn_var rfl vi) da_nil))) ⟨g, e, x, rfl, g0, g5, e0, e5, by rw [due_eq x g e g0]⟩
            obtain rfl := rp_int.mp r8
            have k8 := k7.same s8
            have r68 := r6'.up (Xt.of k7.al s8)
            have ch : ∀ {H' : Hp} {tq : TE} {τ : L2.St} {E : XK} {z : Int}, Rp K B H' (.tuple [.int p, .int r, .int g, .int e]) v6 → τ[6]? = some (some v6) → Dn K B tq τ H' (.int z) →
                Dn K B (tCall (spP K PChanged) [] E (tCons (tVar 6) (tCons tq tNil))) τ H' (.int (z / g * e)) := fun r6 h6 hz =>
              dn_call (da_cons (dn_var h6 r6) (da_cons hz da_nil)) ⟨p, r, g, e, _, rfl, g0, g5, e0, e5, rfl⟩
            have big : (x / g * e).natAbs < 2 ^ 200 := by
              have b0 : 0 ≤ x / g := Int.ediv_nonneg x0 (by omega)
              have b1 : x / g ≤ x := Int.ediv_le_self g x0
              have b2 : x / g * e ≤ x * 5 := Int.mul_le_mul b1 e5 (by omega) x0
              have b3 : 0 ≤ x / g * e := Int.mul_nonneg b0 (by omega)
              omega
            dsimp only [List.set]
            -- same
            refine sd_if (B := B) (H := H8) (b := false) ?_ (Xt.refl k8.al) (fun z => by cases z) (fun _ H9 s9 => ?_)
            · refine dt_not (b := true) (dt_B (K := K) (dn_call (ds := [.list [.int (x / g * e), .int (x / g * e)], .list [.int (x / g * e), .int (x / g * e)]]) (da_cons (dn_lst (da_cons (ch r68 rfl (dn_var rfl vi)) (da_cons (ch r68 rfl (dn_var rfl vi)) da_nil)) (by show (2 : Nat) ≤ 100000; decide)) (da_cons (dn_lst (da_cons (dn_var rfl vi) (da_cons (dn_var rfl vi) da_nil)) (by show (2 : Nat) ≤ 100000; decide)) da_nil)) ?_))
              have sh : Shw (.list [.int (x / g * e), .int (x / g * e)]) := Sm.mono (sm_lst (n := 0) (m := 202) fun d hd => by
                simp only [List.mem_cons, List.not_mem_nil, or_false, or_self] at hd
                rw [hd]
                exact sm_int big) (by decide) (by show 2 * 202 + 2 * 2 + 3 ≤ 1000000; decide)
              exact ⟨_, _, rfl, sh, sh, by rw [decide_eq_true rfl]⟩
            dsimp only [tNext]
            have k9 := k8.same s9
            have r69 := r68.up (Xt.of k8.al s9)
            have x29 : Xt B H2 H9 := (k2.wd (xx6.trans x7)).same (s8.trans s9)
            -- other
            refine se_set (K := K) (B := B) (D := D) (C := C) (H := H9) (t := t7) (m := 1) (Φ := fun d => ∃ o : Int, d = .int o ∧ 0 ≤ o ∧ o ≤ 1000000000000) ?_ (Xt.refl k9.al) k9 (by unfold Lim; omega) (fun v9 d H10 t10 x10 k10 l10 pd r10 => ?_)
            · refine Ef.weak (ef_cb (ea_cons (Dn.ef (dn_op (dn_op dn_int dn_int (rd_I ⟨by decide, by decide, by decide⟩)) (dn_var rfl vi) rd_I0))
                (ea_cons (ef_op (ef_op (Dn.ef (dn_var rfl (sS x29))) (ef_draw (m := 0) (Φs := fun ds => ds = [.int 14]) rfl (EfA.weak (n := 0) (DnA.ef (da_cons (dn_cb (da_cons (dn_var rfl (sS x29)) da_nil) rc_lenL) da_nil)) ?_ (by decide)) ?_) (Θ := fun d => ∃ o : Int, d = .int o ∧ 0 ≤ o ∧ o ≤ 1000000000000) ?_ (by decide))
                  (Dn.ef dn_int) (Θ := fun d => ∃ o : Int, d = .int o ∧ 0 ≤ o ∧ o ≤ 1000000000000) ?_ (by decide)) ea_nil (by decide)) (by decide)) ?_) (fun d p => p) (by decide)
              · rintro ds rfl
                rw [List.length_map, hlen]
                rfl
              · rintro ds rfl
                exact ⟨14, rfl, by decide, by decide⟩
              · rintro u v rfl ⟨_, m, r, rfl, em, rfl, h7, h8⟩
                simp only [List.cons.injEq, PyData.int.injEq, and_true] at em
                subst em
                obtain ⟨k, rfl⟩ : ∃ k : Nat, r = (k : Int) := ⟨r.toNat, by omega⟩
                have hk : k < xs.length := by omega
                have gk := List.getElem?_eq_getElem hk
                obtain ⟨b0, b1⟩ := hxs _ (List.getElem_mem hk)
                exact ⟨.int xs[k], ⟨_, rfl, b0, b1⟩, rd_ixL (at_ints (atI_nat gk))⟩
              · rintro u v ⟨o, rfl, o0, o1⟩ rfl
                refine ⟨_, ⟨o / 2, rfl, ?_, ?_⟩, rd_I ⟨by decide, by decide⟩⟩ <;> omega
              · rintro ds ⟨_, _, rfl, rfl, _, _, rfl, ⟨o, rfl, o0, o1⟩, rfl⟩
                have ten : (10 : Int) ^ (12 : Int).toNat = 1000000000000 := by decide
                refine ⟨_, ⟨_, rfl, ?_, ?_⟩, rc_min⟩
                · split <;> omega
                · split <;> omega
            obtain ⟨o, rfl, o0, o1⟩ := pd
            obtain rfl := rp_int.mp r10
            have r610 := r69.up (k9.wd x10)
            dsimp only [List.set]
            -- both
            refine sd_set (K := K) (B := B) (H := H10) (d := .int ((x + o) / g * e)) ?_ (Xt.refl k10.al) (fun v11 H11 s11 r11 => ?_)
            · exact ch r610 rfl (dn_op (dn_var rfl vi) (dn_var rfl vi) rd_add)
            obtain rfl := rp_int.mp r11
            have k11 := k10.same s11
            have r611 := r610.up (Xt.of k10.al s11)
            dsimp only [List.set]
            have le1 : x / g * e + o / g * e ≤ (x + o) / g * e := by
              rw [← Int.add_mul]
              exact Int.mul_le_mul_of_nonneg_right (div_super x o g g0) (by omega)
            refine sd_if (B := B) (H := H11) (b := false) ?_ (Xt.refl k11.al) (fun z => by cases z) (fun _ H12 s12 => ?_)
            · exact DnT.eq (dt_test (dn_op (dn_op (dn_var rfl vi) (ch r611 rfl (dn_var rfl vi)) rd_add) (dn_var rfl vi) rd_B0)) (decide_eq_false (by omega))
            dsimp only [tNext]
            have k12 := k11.same s12
            have r612 := r611.up (Xt.of k11.al s12)
            have le2 : (x - 1) / g * e ≤ x / g * e := Int.mul_le_mul_of_nonneg_right (Int.ediv_le_ediv g0 (by omega)) (by omega)
            refine sd_if (B := B) (H := H12) (b := decide (0 < x) && false) ?_ (Xt.refl k12.al) (fun z => by simp at z) (fun _ H13 s13 => ?_)
            · refine dt_and (dt_test (dn_op (K := K) (dn_var rfl vi) dn_int rd_B0)) fun _ => ?_
              exact DnT.eq (dt_test (dn_op (ch r612 rfl (dn_op (dn_var rfl vi) dn_int rd_I0)) (dn_var rfl vi) rd_B0)) (decide_eq_false (by omega))
            have k13 := k12.same s13
            exact ⟨t10, _, _, _, _, rfl, (x7.same (s8.trans s9)).trans (x10.same (s11.trans (s12.trans s13))), k13, by omega⟩
        · rintro _ H7 ⟨t7, y7, y8, y9, y10, rfl, x7, k7, l7⟩
          rw [List.length_map, hlen] at l7
          exact ⟨t7, _, _, _, _, _, _, _, _, rfl, xx6.trans x7, k7, by omega⟩
      · rintro _ H4 ⟨t4, y4, y5, y6, y7, y8, y9, y10, y11, rfl, x4, k4, l4⟩
        exact ⟨t4, _, y4, y5, y6, y7, y8, y9, y10, y11, rfl, x4, k4, by omega⟩
    · rintro _ H3 ⟨t3, y3, y4, y5, y6, y7, y8, y9, y10, y11, rfl, x3, k3, l3⟩
      exact q H3
end
end CG

namespace CG
open PySem PySem.Spec PyProof.Rows L2
section
theorem all_mk {l : PySem.W.OpenLaw} {w : World} {K : PySem.W.Frag} {h : Heap} {mg : Str → Option Value} {fa f1 f2 f3 f4 f5 f6 f7 : Addr} (X : K.In h) (G : h.Ns mainGlobals mg) (hfa : mg "law" = some (.ref fa))
    {od1 an1 od2 an2 od3 an3 od4 an4 od5 an5 od6 an6 od7 an7 : Option Addr} {sl1 sl2 sl3 sl4 sl5 sl6 sl7 : Array (Option Value)}
    {oc1 kV1 dc1 pm1 cd1 ct1 oc2 kV2 dc2 pm2 cd2 ct2 oc3 kV3 dc3 pm3 cd3 ct3 oc4 kV4 dc4 pm4 cd4 ct4 oc5 kV5 dc5 pm5 cd5 ct5 oc6 kV6 dc6 pm6 cd6 ct6 oc7 kV7 dc7 pm7 cd7 ct7 : Value}
    (a1 : PySem.W.nsIn K mainGlobals "_law_deck" = some (some (.ref f1)))
    (l1 : K.lookup f1 = some ⟨oc1, od1, .func (PySem.W.fnOf "_law_deck" "_law_deck" (defArgs sDeck) (defBody sDeck) (defScope sDeck) .none kV1 dc1 pm1 an1 cd1 ct1), sl1⟩)
    (c1 : PySem.W.codeIn K cd1 "_law_deck" = true) (k1 : PySem.W.keepIn K (.ref f1) = true)
    (a2 : PySem.W.nsIn K mainGlobals "_law_draw" = some (some (.ref f2)))
    (l2 : K.lookup f2 = some ⟨oc2, od2, .func (PySem.W.fnOf "_law_draw" "_law_draw" (defArgs sDraw) (defBody sDraw) (defScope sDraw) .none kV2 dc2 pm2 an2 cd2 ct2), sl2⟩)
    (c2 : PySem.W.codeIn K cd2 "_law_draw" = true) (k2 : PySem.W.keepIn K (.ref f2) = true)
    (a3 : PySem.W.nsIn K mainGlobals "_law_same" = some (some (.ref f3)))
    (l3 : K.lookup f3 = some ⟨oc3, od3, .func (PySem.W.fnOf "_law_same" "_law_same" (defArgs sSame) (defBody sSame) (defScope sSame) .none kV3 dc3 pm3 an3 cd3 ct3), sl3⟩)
    (c3 : PySem.W.codeIn K cd3 "_law_same" = true) (k3 : PySem.W.keepIn K (.ref f3) = true)
    (a4 : PySem.W.nsIn K mainGlobals "_law_amount" = some (some (.ref f4)))
    (l4 : K.lookup f4 = some ⟨oc4, od4, .func (PySem.W.fnOf "_law_amount" "_law_amount" (defArgs sAmount) (defBody sAmount) (defScope sAmount) .none kV4 dc4 pm4 an4 cd4 ct4), sl4⟩)
    (c4 : PySem.W.codeIn K cd4 "_law_amount" = true) (k4 : PySem.W.keepIn K (.ref f4) = true)
    (a5 : PySem.W.nsIn K mainGlobals "_law_due" = some (some (.ref f5)))
    (l5 : K.lookup f5 = some ⟨oc5, od5, .func (PySem.W.fnOf "_law_due" "_law_due" (defArgs sDue) (defBody sDue) (defScope sDue) .none kV5 dc5 pm5 an5 cd5 ct5), sl5⟩)
    (c5 : PySem.W.codeIn K cd5 "_law_due" = true) (k5 : PySem.W.keepIn K (.ref f5) = true)
    (a6 : PySem.W.nsIn K mainGlobals "changed" = some (some (.ref f6)))
    (l6 : K.lookup f6 = some ⟨oc6, od6, .func (PySem.W.fnOf "changed" "changed" (defArgs sPChanged) (defBody sPChanged) (defScope sPChanged) .none kV6 dc6 pm6 an6 cd6 ct6), sl6⟩)
    (c6 : PySem.W.codeIn K cd6 "changed" = true) (k6 : PySem.W.keepIn K (.ref f6) = true)
    (a7 : PySem.W.nsIn K mainGlobals "law" = some (some (.ref f7)))
    (l7 : K.lookup f7 = some ⟨oc7, od7, .func (PySem.W.fnOf "law" "law" (defArgs sLaw) (defBody sLaw) (defScope sLaw) .none kV7 dc7 pm7 an7 cd7 ct7), sl7⟩)
    (c7 : PySem.W.codeIn K cd7 "law" = true) (k7 : PySem.W.keepIn K (.ref f7) = true)
    (z_len : PySem.W.nsIn K mainGlobals "len" = some none)
    (z_abs : PySem.W.nsIn K mainGlobals "abs" = some none)
    (z_range : PySem.W.nsIn K mainGlobals "range" = some none)
    (z_repr : PySem.W.nsIn K mainGlobals "repr" = some none)
    (z_min : PySem.W.nsIn K mainGlobals "min" = some none)
    (z_max : PySem.W.nsIn K mainGlobals "max" = some none)
    (z_int : PySem.W.nsIn K mainGlobals "int" = some none)
    (z_tuple : PySem.W.nsIn K mainGlobals "tuple" = some none)
    (z_list : PySem.W.nsIn K mainGlobals "list" = some none)
    (z_bool : PySem.W.nsIn K mainGlobals "bool" = some none)
    (z_isinstance : PySem.W.nsIn K mainGlobals "isinstance" = some none)
    (z_enumerate : PySem.W.nsIn K mainGlobals "enumerate" = some none) :
    ∃ fd : FuncData, (∀ (s : Shared) (v : Value), BindsTo s fd ⟨[v], []⟩ [("_law_script", v)]) ∧ ∀ base : Heap, K.In base → base.Ns mainGlobals mg → FnG l.prog w K mg base CX0 3 fa fd ["_law_script"] (spLaw K) := by
  have e := hfa.symm.trans (PySem.W.mg_of X G a7)
  cases e
  have F1 := fun_mk (st := sDeck) l1 c1 k1
  have T1 : Has K mg "_law_deck" sDeck ["_law_script"] f1 _ := ⟨F1, PySem.W.mg_of X G a1, F1.binds fun _ _ _ _ _ _ us hl => match us, hl with | [_], _ => rfl⟩
  have F2 := fun_mk (st := sDraw) l2 c2 k2
  have T2 : Has K mg "_law_draw" sDraw ["_law_deck_here", "_law_limit"] f2 _ := ⟨F2, PySem.W.mg_of X G a2, F2.binds fun _ _ _ _ _ _ us hl => match us, hl with | [_, _], _ => rfl⟩
  have F3 := fun_mk (st := sSame) l3 c3 k3
  have T3 : Has K mg "_law_same" sSame ["_law_value", "_law_due_here"] f3 _ := ⟨F3, PySem.W.mg_of X G a3, F3.binds fun _ _ _ _ _ _ us hl => match us, hl with | [_, _], _ => rfl⟩
  have F4 := fun_mk (st := sAmount) l4 c4 k4
  have T4 : Has K mg "_law_amount" sAmount ["_law_deck_here"] f4 _ := ⟨F4, PySem.W.mg_of X G a4, F4.binds fun _ _ _ _ _ _ us hl => match us, hl with | [_], _ => rfl⟩
  have F5 := fun_mk (st := sDue) l5 c5 k5
  have T5 : Has K mg "_law_due" sDue ["_law_give", "_law_get", "_law_amount_here"] f5 _ := ⟨F5, PySem.W.mg_of X G a5, F5.binds fun _ _ _ _ _ _ us hl => match us, hl with | [_, _, _], _ => rfl⟩
  have F6 := fun_mk (st := sPChanged) l6 c6 k6
  have T6 : Has K mg "changed" sPChanged ["counter", "amount"] f6 _ := ⟨F6, PySem.W.mg_of X G a6, F6.binds fun _ _ _ _ _ _ us hl => match us, hl with | [_, _], _ => rfl⟩
  have F7 := fun_mk (st := sLaw) l7 c7 k7
  have T7 : Has K mg "law" sLaw ["_law_script"] _ _ := ⟨F7, PySem.W.mg_of X G a7, F7.binds fun _ _ _ _ _ _ us hl => match us, hl with | [_], _ => rfl⟩
  have T : Bz mg := ⟨PySem.W.mg_none_of X G z_len, PySem.W.mg_none_of X G z_abs, PySem.W.mg_none_of X G z_range, PySem.W.mg_none_of X G z_repr, PySem.W.mg_none_of X G z_min, PySem.W.mg_none_of X G z_max, PySem.W.mg_none_of X G z_int, PySem.W.mg_none_of X G z_tuple, PySem.W.mg_none_of X G z_list, PySem.W.mg_none_of X G z_bool, PySem.W.mg_none_of X G z_isinstance, PySem.W.mg_none_of X G z_enumerate⟩
  exact ⟨PySem.W.fnOf "law" "law" (defArgs sLaw) (defBody sLaw) (defScope sLaw) .none kV7 dc7 pm7 an7 cd7 ct7, fun s v => .of_eq rfl, fun base _ _ => ok_law T7 T T1 T2 T3 T4 T5 T6⟩
end
end CG
open PySem PySem.W PyProof.Rows
set_option maxRecDepth 100000 in
set_option maxHeartbeats 0 in
theorem PySem.Challenge.cw_coincounters_k01_coins_changed_holds : PySem.Challenge.rw_coincounters_k01_coins_changed.Holds := by
  w_on; o_law; k_head; (case hw => w_witness2)
  k_fill
  refine CG.walkG (l := PySem.Challenge.rw_coincounters_k01_coins_changed) (n := 63) (k := 3) (x := "_law_script") (cx := fun _ => L2.CX0) (sp := fun w => CG.spLaw _) rfl (by decide) rfl ⟨rfl, by decide, by decide⟩ (fun w h Y => PySem.W.kIn_of Y) ?F (fun _ _ a ns hl _ hS => ⟨a, ns, rfl, hS, fun _ => rfl⟩) fun _ _ _ _ _ z => z
  case F =>
    intro w mg fa h KX G hmg
    refine' CG.all_mk KX G hmg ?a1 ?l1 ?c1 ?k1 ?a2 ?l2 ?c2 ?k2 ?a3 ?l3 ?c3 ?k3 ?a4 ?l4 ?c4 ?k4 ?a5 ?l5 ?c5 ?k5 ?a6 ?l6 ?c6 ?k6 ?a7 ?l7 ?c7 ?k7 ?z_len ?z_abs ?z_range ?z_repr ?z_min ?z_max ?z_int ?z_tuple ?z_list ?z_bool ?z_isinstance ?z_enumerate
    (case a1 => k_is); (case l1 => k_is); (case c1 => k_is); (case k1 => k_is)
    (case a2 => k_is); (case l2 => k_is); (case c2 => k_is); (case k2 => k_is)
    (case a3 => k_is); (case l3 => k_is); (case c3 => k_is); (case k3 => k_is)
    (case a4 => k_is); (case l4 => k_is); (case c4 => k_is); (case k4 => k_is)
    (case a5 => k_is); (case l5 => k_is); (case c5 => k_is); (case k5 => k_is)
    (case a6 => k_is); (case l6 => k_is); (case c6 => k_is); (case k6 => k_is)
    (case a7 => k_is); (case l7 => k_is); (case c7 => k_is); (case k7 => k_is)
    (case z_len => k_is); (case z_abs => k_is); (case z_range => k_is); (case z_repr => k_is)
    (case z_min => k_is); (case z_max => k_is); (case z_int => k_is); (case z_tuple => k_is)
    (case z_list => k_is); (case z_bool => k_is); (case z_isinstance => k_is); (case z_enumerate => k_is)

