import PyProof.Rows.All
import Wide.All
import OpenK.AllK
import Wide.FinOn
import HandS.ForMost
import HandS.ForExc
import HandS.EndBits
import PyProof.ReprLen
import PyProof.ReprRoads
import PyProof.FitsInt
import HandS.TupAny
import HandS.Iter
import HandS.ExcIs
import HandS.TupMul
import HandS.IsInst
import PySem.Challenge.RW_coincounters_k02_counters_put_up_and_clo
set_option Elab.async false
set_option linter.all false
set_option maxRecDepth 100000
set_option maxHeartbeats 4000000
/-! Part 1: promises of defs that are called where no repr is under way. -/
namespace CG
open PySem PySem.Spec PyProof.Rows L2
/-- the def at f keeps the promise sp wherever no guard is up and there is room -/
structure FnG (pr : Program) (wo : World) (K : PySem.W.Frag) (mg : Str → Option Value) (ba : Heap) (cx : CXT)
    (k : Nat) (f : Addr) (fd : FuncData) (ps : List Str) (sp : Sp) : Prop where
  len : ∀ vs H Q E, sp vs H Q E → vs.length = ps.length
  run : ∀ (A : Around) (out : List Env) (s : Shared) (H : Hp) (ar : Args) (us : List Value) (vs : List V) (Q : VK) (E : XK),
    A.guards = some [] → Room k A → Env0 pr wo K mg ba A out s H → BindsTo s fd ar (ps.zip us) → Vals vs us → sp vs H Q E →
    codeAny (model pr wo) A (.call (.ref f) ar) (CR cx out pr wo H s Q E) s
section
variable {pr : Program} {wo : World} {K : PySem.W.Frag} {mg : Str → Option Value} {ba : Heap} {cx : CXT}
theorem FnG.mono {j k : Nat} {f : Addr} {fd : FuncData} {ps : List Str} {sp : Sp} (G : FnG pr wo K mg ba cx j f fd ps sp) (h : j ≤ k) :
    FnG pr wo K mg ba cx k f fd ps sp :=
  ⟨G.len, fun A out s H ar us vs Q E hg hr => G.run A out s H ar us vs Q E hg (hr.mono h)⟩
theorem FnG.of {k : Nat} {f : Addr} {fd : FuncData} {ps : List Str} {sp : Sp} (G : FnOk pr wo K mg ba cx k f fd ps sp) :
    FnG pr wo K mg ba cx k f fd ps sp :=
  ⟨G.len, fun A out s H ar us vs Q E _ hr => G.run A out s H ar us vs Q E hr⟩
theorem FnG.imp {k : Nat} {f : Addr} {fd : FuncData} {ps : List Str} {sp sp' : Sp} (G : FnG pr wo K mg ba cx k f fd ps sp)
    (h : ∀ vs H Q E, sp' vs H Q E → sp vs H Q E) : FnG pr wo K mg ba cx k f fd ps sp' :=
  ⟨fun vs H Q E q => G.len vs H Q E (h _ _ _ _ q), fun A out s H ar us vs Q E hg hr he hb hv hs => G.run A out s H ar us vs Q E hg hr he hb hv (h _ _ _ _ hs)⟩
/-- a def by its body -/
theorem fnG_of {k : Nat} {f : Addr} {nm qu : Str} {pa : Arguments} {bd : List Stmt} {sc : Scope} {v1 v2 v3 v4 cd v5 oc : Value} {an od : Option Addr}
    {sl : Array (Option Value)} {N ps : List Str} {sp : Sp}
    (lk : K.lookup f = some ⟨oc, od, .func (PySem.W.fnOf nm qu pa bd sc v1 v2 v3 v4 an cd v5), sl⟩)
    (hcd : PySem.W.codeIn K cd qu = true) (S : FnScope N ps sc)
    (len : ∀ vs H Q E, sp vs H Q E → vs.length = ps.length)
    (hbo : ∀ (A : Around) (out : List Env) (s : Shared) (H : Hp) (vs : List V) (Q : VK) (E : XK), A.guards = some [] →
      Room k (A.deeper (envOfC qu sc s.heap.objs.size f cd)) → sp vs H Q E →
      ∃ t, PSs (cxOf cx pr wo K mg ba N qu sc f cd A out s H E) bd t ∧ t { nx := fun _ H' => Q .non H', rt := Q } (start N vs) H) :
    FnG pr wo K mg ba cx (k + 1) f (PySem.W.fnOf nm qu pa bd sc v1 v2 v3 v4 an cd v5) ps sp := by
  refine ⟨len, fun A out s H ar us vs Q E hgd hr e0 hb r hsp => ?_⟩
  have hl := len _ _ _ _ hsp
  have kin : K.In s.heap := e0.mod.kin.keeps fun b o z => (e0.bs b o z).1
  have nol : s.heap.NoLimit := e0.mod.nolimit.keeps fun b o z => (e0.bs b o z).1
  have kinds : ∀ y ∈ ps.zip us, sc.names.lookup y.1 = some .local ∨
      (sc.names.lookup y.1 = some .cell ∧ ((cellsFrom (s.heap.objs.size + 1) sc.names []).lookup y.1).isSome = true) := by
    rintro ⟨n, v⟩ hy
    rcases S.par n (List.of_mem_zip hy).1 with z | z
    · exact .inl z
    · exact .inr ⟨z, PySem.W.cellsFrom_some _ _ _ (.inl z)⟩
  refine codeAny_call_function hr.depth (kin _ _ lk) rfl S.co S.gen rfl (PySem.W.codeRec_of kin hcd) (hb _ _ _ _ ?_)
  refine wpAny_newFunctionEnv_cells S.kind kinds fun ev hev s1 x => ?_
  subst hev
  refine ⟨nol.keeps x.toInCall.keep, codeAny_func ?_⟩
  obtain ⟨t, ht, hq⟩ := hbo A out s H vs Q E hgd (hr.deeper _) hsp
  have I0 : Inv (cxOf cx pr wo K mg ba N qu sc f cd A out s H E) [] (start N vs) H s1 := inv_start S hr.hd e0 hl r x
  refine wpAny_mono (ht.run [] s1 (start N vs) H _ I0 hq) (fun fl s2 hs => ?_) fun e s2 hs => hs
  have done : ∀ {τ : L2.St} {H2 : Hp} {v : V} {u : Value}, Inv (cxOf cx pr wo K mg ba N qu sc f cd A out s H E) [] τ H2 s2 →
      RelV v u → Q v H2 → CE out pr wo H s Q u s2 := fun {τ H2 v u} J rv q => ⟨v, H2, J.os, J.bare, J.base, J.hok, rv, q⟩
  cases fl with
  | ret u =>
    obtain ⟨v, τ, H2, J, rv, q⟩ := hs
    exact done J rv q
  | next =>
    obtain ⟨τ, H2, J, q⟩ := hs
    exact done (v := V.non) (u := Value.none) J rfl q
  | brk =>
    obtain ⟨_, _, _, q⟩ := hs
    exact q.elim
  | cont =>
    obtain ⟨_, _, _, q⟩ := hs
    exact q.elim
theorem okG {x qu : Str} {st : Stmt} {f : Addr} {fd : FuncData} {N ps : List Str} {k : Nat} {sp : Sp} (F : Fun K x qu st f fd)
    (S : FnScope N ps (defScope st)) (len : ∀ vs H Q E, sp vs H Q E → vs.length = ps.length)
    (hbo : ∀ (cd : Value) (A : Around) (out : List Env) (s : Shared) (H : Hp) (vs : List V) (Q : VK) (E : XK), A.guards = some [] →
      Room k (A.deeper (envOfC qu (defScope st) s.heap.objs.size f cd)) → sp vs H Q E →
      ∃ t, PSs (cxOf CX0 pr wo K mg ba N qu (defScope st) f cd A out s H E).nox (defBody st) t ∧
        t { nx := fun _ H' => Q .non H', rt := Q } (start N vs) H) : FnG pr wo K mg ba CX0 (k + 1) f fd ps sp := by
  obtain ⟨oc, od, v2, v3, v4, an, cd, v5, sl, rfl, lk, hcd⟩ := F.ex
  refine fnG_of lk hcd S len fun A out s H vs Q E hg hr hsp => ?_
  obtain ⟨t, h, q⟩ := hbo cd A out s H vs Q E hg hr hsp
  exact ⟨t, h.nox, q⟩
theorem okGX {x qu : Str} {st : Stmt} {f : Addr} {fd : FuncData} {N ps : List Str} {k : Nat} {sp : Sp} (F : Fun K x qu st f fd)
    (S : FnScope N ps (defScope st)) (len : ∀ vs H Q E, sp vs H Q E → vs.length = ps.length)
    (hbo : ∀ (cd : Value) (A : Around) (out : List Env) (s : Shared) (H : Hp) (vs : List V) (Q : VK) (E : XK), A.guards = some [] →
      Room k (A.deeper (envOfC qu (defScope st) s.heap.objs.size f cd)) → sp vs H Q E →
      ∃ t, PSs (cxOf (L2.CX pr wo) pr wo K mg ba N qu (defScope st) f cd A out s H E) (defBody st) t ∧
        t { nx := fun _ H' => Q .non H', rt := Q } (start N vs) H) : FnG pr wo K mg ba (L2.CX pr wo) (k + 1) f fd ps sp := by
  obtain ⟨oc, od, v2, v3, v4, an, cd, v5, sl, rfl, lk, hcd⟩ := F.ex
  exact fnG_of lk hcd S len fun A out s H vs Q E hg hr hsp => hbo cd A out s H vs Q E hg hr hsp
end
section
variable {X : Cx} {cx : CXT} {k : Nat} {f : Addr} {fd : FuncData} {ps : List Str} {sp : Sp} {dvs : List V} {ds : List Value} {E : XK}
  {x : Str} {p pos : Pos} {e : Expr} {es : List Expr} {t : TA}
theorem runG {pins : List (Addr × Obj)} {σ : L2.St} {H : Hp} {s : Shared} {Q : VK} {us : List Value} {vs : List V}
    (G : FnG X.prog X.w X.K X.mg X.base cx k f fd ps sp) (hgd : X.A.guards = some []) (hr : Room k X.A) (hb : Binds X.K fd ps ds)
    (hd : Vals dvs ds) (hx : Passes cx X E) (I : Inv X pins σ H s) (r : Vals vs us) (h : sp (vs ++ dvs) H Q E) :
    wpAny (model X.prog X.w) X.A (call (.ref f) us) (EP X pins σ Q) X.xe s := by
  have rr : Vals (vs ++ dvs) (us ++ ds) := r.append hd
  have hl : (us ++ ds).length = ps.length := by
    rw [← rr.length]
    exact G.len _ _ _ _ h
  have go := G.run X.A X.stack s H ⟨us, []⟩ (us ++ ds) (vs ++ dvs) Q E hgd hr I.env0 (hb s us I.kIn hl) rr h
  refine wpAny_call (codeAny_mono go fun w s2 hq => ?_)
  cases w with
  | error er => exact hx pins σ H s er s2 I hq
  | ok fl =>
    cases fl with
    | ret u => exact I.after hq
    | next => exact hq.elim
    | brk => exact hq.elim
    | cont => exact hq.elim
/-- f(e, ..) -/
theorem pe_callG (G : FnG X.prog X.w X.K X.mg X.base cx k f fd ps sp) (hgd : X.A.guards = some []) (hr : Room k X.A) (hg : Gl X x)
    (hm : X.mg x = some (.ref f)) (hk : PySem.W.keepIn X.K (.ref f) = true) (hb : Binds X.K fd ps ds) (hd : Vals dvs ds)
    (hx : Passes cx X E) (ha : PA X (e :: es) t) (hdb : (x == ("__debug__" : Str)) = false := by decide)
    (he : starEach (e :: es) X.env = (false, eval e X.env) :: starEach es X.env := by rfl)
    (hpl : (backTo pos (starEach es X.env)).any (·.1) = false := by rfl) : PE X (.Call (.Name x p) (e :: es) [] pos) (tCall sp dvs E t) := by
  refine ⟨fun pins s σ H Q I h => wpAny_Call_Name_kw (ld_glob I hg hm ?_ hdb)⟩
  refine PySem.W.callWith_K (h₀ := X.base) I.ok.mod.kin hk ?_ he hpl
  exact thn (ha.run pos pins s σ H _ I h) fun us s1 ⟨vs, H1, I1, r, q⟩ => ⟨I1.kIn, runG G hgd hr hb hd hx I1 r q⟩
theorem pe_call0G (G : FnG X.prog X.w X.K X.mg X.base cx k f fd ps sp) (hgd : X.A.guards = some []) (hr : Room k X.A) (hg : Gl X x)
    (hm : X.mg x = some (.ref f)) (hk : PySem.W.keepIn X.K (.ref f) = true) (hb : Binds X.K fd ps ds) (hd : Vals dvs ds)
    (hx : Passes cx X E) (hdb : (x == ("__debug__" : Str)) = false := by decide) :
    PE X (.Call (.Name x p) [] [] pos) (tCall sp dvs E tNil) :=
  ⟨fun pins s σ H Q I h => wpAny_Call_Name_kw (ld_glob I hg hm (PySem.W.callWith_K0 I.kIn hk (runG (us := []) G hgd hr hb hd hx I .nil h)) hdb)⟩
end
/-- the law's call at the heap behind the top -/
theorem lawG {pr : Program} {wo : World} {K : PySem.W.Frag} {mg mb : Str → Option Value} {cx : CXT} {k : Nat} {fa a : Addr} {fd : FuncData}
    {x : Str} {sp : Sp} {s : Shared} {vs : List Value} {ns : List Int}
    (kin : K.In s.heap) (hns : s.heap.Ns mainGlobals mg) (hbn : s.heap.Ns builtinsNs mb) (hbb : ∀ x : Str, x ≠ "__name__" → mb x = bootBuiltins x)
    (hlim : s.heap.NoLimit) (hg : s.gens = #[]) (ha : s.heap.get? a = some { cls := .type "list", data := .seq vs.toArray })
    (hi : IntsAre vs ns) (hl : ns.length ≤ sizeLine) (hr : Room k callerA)
    (F : ∀ ba : Heap, K.In ba → ba.Ns mainGlobals mg → FnG pr wo K mg ba cx k fa fd [x] sp)
    (hbind : ∀ (s : Shared) (u : Value), BindsTo s fd ⟨[u], []⟩ [(x, u)])
    (hsp : ∀ H : Hp, Only H → SqL K H a (ns.map V.int) → sp [.ref a] H (fun v _ => v = .bl true) fun _ _ _ => False)
    (hCX : ∀ H e s', cx [] H s (fun _ _ _ => False) e s' → False) :
    codeAny (model pr wo) callerA (.call (.ref fa) ⟨[.ref a], []⟩)
      (fun r s' => r = .ok (.ret (.bool true)) ∧ OldK s.heap s'.heap ∧ s'.os = s.os ∧ AllBare s'.gens) s := by
  have rv := vals_ints hi
  have lenV := hi.length
  have core : ∀ H : Hp, Only H → SqL K H a (ns.map V.int) → HOk pr wo H s.heap → (∀ b, H b ≠ none → b = a) → (H a ≠ none → K.lookup a = none) →
      codeAny (model pr wo) callerA (.call (.ref fa) ⟨[.ref a], []⟩)
        (fun r s' => r = .ok (.ret (.bool true)) ∧ OldK s.heap s'.heap ∧ s'.os = s.os ∧ AllBare s'.gens) s := by
    intro H hO hS hok hA hK
    have down : ∀ {b : Addr} {o : Obj}, s.heap.get? b = some o → H b = none → (hidT s.heap H).get? b = some o := fun e n => hidT_get e n
    have free : ∀ {b : Addr} {o : Obj} {es : Array DictEntry} {ep : Nat}, s.heap.get? b = some o → o.data = .dict es ep → H b = none := by
      intro b o es ep z d
      cases q : H b with
      | none => rfl
      | some u =>
        have eb : b = a := hA b (by rw [q]; simp)
        subst eb
        rw [ha] at z
        cases z
        have d2 : Data.seq vs.toArray _ = Data.dict es ep := d
        cases d2
    have nsD : ∀ {b : Addr} {m : Str → Option Value}, s.heap.Ns b m → (hidT s.heap H).Ns b m := by
      rintro b m ⟨o, es, ep, z, d, r⟩
      exact ⟨o, es, ep, down z (free z d), d, r⟩
    have kinD : K.In (hidT s.heap H) := by
      intro b o z
      refine down (kin b o z) ?_
      cases q : H b with
      | none => rfl
      | some u =>
        have eb : b = a := hA b (by rw [q]; simp)
        subst eb
        rw [hK (by rw [q]; simp)] at z
        cases z
    obtain ⟨mc, l1, l2⟩ := hlim
    have md : Mod K mg (hidT s.heap H) := ⟨kinD, nsD hns, ⟨mb, nsD hbn, hbb⟩, ⟨mc, nsD l1, l2⟩⟩
    have e0 : Env0 pr wo K mg (hidT s.heap H) callerA [] s H :=
      ⟨rfl, md, fun b o z => of_hidT z, Nat.le_of_eq (hidT_size _ _), trivial, fun b hb => absurd (show b ∈ ([] : List Addr) from hb) (by simp), hok, .of_eq hg⟩
    have go := (F _ kinD (nsD hns)).run callerA [] s H ⟨[.ref a], []⟩ [.ref a] [.ref a] _ _ rfl hr e0 (hbind s (.ref a)) (.cons rfl .nil) (hsp H hO hS)
    refine codeAny_mono go fun r s' h => ?_
    cases r with
    | error er => exact (hCX H er s' h).elim
    | ok fl =>
      cases fl with
      | next => exact h.elim
      | brk => exact h.elim
      | cont => exact h.elim
      | ret u =>
        obtain ⟨v, H', os, bare, un, hok', r', q⟩ := h
        have q' : v = .bl true := q
        subst q'
        obtain rfl : u = Value.bool true := r'
        refine ⟨rfl, OldK.of_keep fun b o z => ?_, os, bare⟩
        cases q : H b with
        | none => exact un.keep b o z q (fun w => absurd (show b ∈ ([] : List Addr) from w) (by simp)) (by simp)
        | some u =>
          rcases hO b with w | ⟨ob, xs, w⟩
          · rw [q] at w
            cases w
          · have w2 := un.frzs b ob _ w
            obtain ⟨g1, _⟩ := hok b _ w
            obtain ⟨g2, _⟩ := hok' b _ w2
            rw [z] at g1
            cases g1
            exact g2
  cases hk : K.lookup a with
  | some o =>
    have e := kin a o hk
    rw [ha] at e
    cases e
    have sq : SqL K (fun _ => none) a (ns.map V.int) :=
      .inr ⟨_, vs.toArray, _, hk, rfl, rfl, rfl, by rw [List.size_toArray, lenV]; exact hl, by simpa using rv⟩
    exact core (fun _ => none) (fun _ => .inl rfl) sq (fun b u z => nomatch (show (none : Option HO) = some u from z)) (fun b z => absurd rfl z) fun z => absurd rfl z
  | none =>
    refine core (fun b => if b = a then some (.frz { cls := .type "list", data := .seq vs.toArray } (.lst (ns.map V.int))) else none)
      (fun b => ?_) (.inl (.inr ⟨{ cls := .type "list", data := .seq vs.toArray }, if_pos rfl⟩)) (fun b u z => ?_) (fun b z => ?_) fun _ => hk
    · by_cases hb : b = a
      · exact .inr ⟨_, _, if_pos hb⟩
      · exact .inl (if_neg hb)
    · by_cases hb : b = a
      · have w := (if_pos hb).symm.trans z
        cases w
        subst hb
        exact ⟨ha, by rw [List.length_map]; exact hl, vs, _, rv, ha⟩
      · have w := (if_neg hb).symm.trans z
        cases w
    · by_cases hb : b = a
      · exact hb
      · exact absurd (if_neg hb) z
/-- the end -/
theorem walkG {l : PySem.W.OpenLaw} {n k : Nat} {q : Program} {lo : List Str} {XP : (Str → Option Value) → Heap → Prop} {YP : World → Heap → Prop}
    {d : DefRec} {K : Params → PySem.W.Frag} {cx : World → CXT} {sp : World → Sp} {x : Str}
    (hn : l.most = some n) (hn2 : n ≤ sizeLine) (hdf : d.params.defaults = []) (hr : Room k callerA) (hY : ∀ (w : World) (h : Heap), YP w h → (K w.params).In h)
    (F : ∀ (w : World) (mg : Str → Option Value) (fa : Addr) (h : Heap), (K w.params).In h → h.Ns mainGlobals mg → mg d.name = some (.ref fa) →
      ∃ fd : FuncData, (∀ (s : Shared) (u : Value), BindsTo s fd ⟨[u], []⟩ [(x, u)]) ∧
        ∀ ba : Heap, (K w.params).In ba → ba.Ns mainGlobals mg → FnG l.prog w (K w.params) mg ba (cx w) k fa fd [x] (sp w))
    (hsp : ∀ (w : World) (H : Hp) (a : Addr) (ns : List Int), ns.length ≤ n → Only H → SqL (K w.params) H a (ns.map V.int) →
      sp w [.ref a] H (fun v _ => v = .bl true) fun _ _ _ => False)
    (hCX : ∀ (w : World) (H : Hp) (s : Shared) (e : Value) (s' : Shared), cx w [] H s (fun _ _ _ => False) e s' → False) :
    PySem.W.WalkO q lo XP YP l.row.toRowW d [] (fun f vs => PySem.call f vs) := by
  refine Att.attach_call hn hdf fun w s0 s1 mg mb fa o pm cd doc a vs ns G Y ho hd hcd hmg hobj hints hlen hg => ?_
  have kin := hY w _ Y
  obtain ⟨fd, hb, hF⟩ := F w mg fa _ kin G.T.g hmg
  have sp' := fun H hO hS => hsp w H a ns hlen hO hS
  exact lawG kin G.T.g G.T.b G.T.builtins G.T.nolimit hg hobj hints (Nat.le_trans hlen hn2) hr hF hb sp' fun H e s' => hCX w H s1 e s'
end CG

/-! Part 2: data held by the heap, away from the volatile places B; readings that denote data. -/
namespace CG
open PySem PySem.Spec PyProof.Rows L2
/-- the volatile places are tracked -/
def Al (B : Addr → Prop) (H : Hp) : Prop := ∀ a, B a → H a ≠ none
/-- all but the volatile places is kept -/
structure Xt (B : Addr → Prop) (H H' : Hp) : Prop where
  kp : ∀ a o, ¬ B a → H a = some o → H' a = some o
  al : Al B H'
section
variable {B : Addr → Prop} {H H1 H2 : Hp} {K : PySem.W.Frag} {a p : Addr} {xs : List V}
theorem Xt.refl (h : Al B H) : Xt B H H := ⟨fun _ _ _ e => e, h⟩
theorem Xt.trans (x : Xt B H H1) (y : Xt B H1 H2) : Xt B H H2 := ⟨fun a o n e => y.kp a o n (x.kp a o n e), y.al⟩
theorem Al.same (h : Al B H) (e : Same H H1) : Al B H1 := fun a b => by
  cases q : H a with
  | none => exact absurd q (h a b)
  | some o => rw [e a o q]; simp
theorem Xt.same (x : Xt B H H1) (e : Same H1 H2) : Xt B H H2 := ⟨fun a o n z => e a o (x.kp a o n z), x.al.same e⟩
theorem Xt.of (h : Al B H) (e : Same H H1) : Xt B H H1 := (Xt.refl h).same e
theorem Al.new (h : Al B H) (n : H p = none) : ¬ B p := fun b => h p b n
theorem same_new {o : HO} (n : H p = none) : Same H (upd H p o) := fun b z e => by
  rw [upd_ne (ne_of_none e n)]
  exact e
theorem Xt.sqT (x : Xt B H H1) (nb : ¬ B a) (h : SqT K H a xs) : SqT K H1 a xs := by
  rcases h with (h | ⟨o, h⟩) | h
  · exact .inl (.inl (x.kp _ _ nb h))
  · exact .inl (.inr ⟨o, x.kp _ _ nb h⟩)
  · exact .inr h
theorem Xt.sqL (x : Xt B H H1) (nb : ¬ B a) (h : SqL K H a xs) : SqL K H1 a xs := by
  rcases h with (h | ⟨o, h⟩) | h
  · exact .inl (.inl (x.kp _ _ nb h))
  · exact .inl (.inr ⟨o, x.kp _ _ nb h⟩)
  · exact .inr h
end
/-- a tuple of the written part -/
def KT (K : PySem.W.Frag) (a : Addr) (xs : List V) : Prop :=
  ∃ (o : Obj) (its : Array Value) (n : Nat), K.lookup a = some o ∧ o.cls = .type "tuple" ∧ o.data = .seq its n ∧ its.size ≤ sizeLine ∧ Vals xs its.toList
mutual
/-- v is the data d -/
def Rp (K : PySem.W.Frag) (B : Addr → Prop) (H : Hp) : PyData → V → Prop
  | .none, v => v = .non
  | .bool b, v => v = .bl b
  | .int i, v => v = .int i
  | .str x, v => v = .str x
  | .list ds, v => ∃ a xs, v = .ref a ∧ ¬ B a ∧ H a = some (.lst xs) ∧ RpA K B H ds xs
  | .tuple ds, v => ∃ a xs, v = .ref a ∧ (¬ B a ∨ KT K a xs) ∧ SqT K H a xs ∧ RpA K B H ds xs
  | .dict _, _ => False
def RpA (K : PySem.W.Frag) (B : Addr → Prop) (H : Hp) : List PyData → List V → Prop
  | [], xs => xs = []
  | d :: ds, xs => ∃ x r, xs = x :: r ∧ Rp K B H d x ∧ RpA K B H ds r
end
section
variable {K : PySem.W.Frag} {B : Addr → Prop} {H H1 H2 : Hp} {v : V} {d : PyData} {ds : List PyData} {xs : List V}
theorem rp_non : Rp K B H .none v ↔ v = .non := by simp only [Rp]
theorem rp_bl {b : Bool} : Rp K B H (.bool b) v ↔ v = .bl b := by simp only [Rp]
theorem rp_int {i : Int} : Rp K B H (.int i) v ↔ v = .int i := by simp only [Rp]
theorem rp_str {x : Str} : Rp K B H (.str x) v ↔ v = .str x := by simp only [Rp]
theorem rp_lst : Rp K B H (.list ds) v ↔ ∃ a xs, v = .ref a ∧ ¬ B a ∧ H a = some (.lst xs) ∧ RpA K B H ds xs := by simp only [Rp]
theorem rp_tup : Rp K B H (.tuple ds) v ↔ ∃ a xs, v = .ref a ∧ (¬ B a ∨ KT K a xs) ∧ SqT K H a xs ∧ RpA K B H ds xs := by simp only [Rp]
theorem rpa_nil : RpA K B H [] xs ↔ xs = [] := by simp only [RpA]
theorem rpa_cons : RpA K B H (d :: ds) xs ↔ ∃ x r, xs = x :: r ∧ Rp K B H d x ∧ RpA K B H ds r := by simp only [RpA]
theorem RpA.cons (h : Rp K B H d v) (t : RpA K B H ds xs) : RpA K B H (d :: ds) (v :: xs) := rpa_cons.mpr ⟨v, xs, rfl, h, t⟩
theorem RpA.nil : RpA K B H [] [] := rpa_nil.mpr rfl
theorem RpA.inv {x : V} (h : RpA K B H (d :: ds) (x :: xs)) : Rp K B H d x ∧ RpA K B H ds xs := by
  obtain ⟨y, r, e, h1, h2⟩ := rpa_cons.mp h
  cases e
  exact ⟨h1, h2⟩
mutual
theorem Rp.mono (x : Xt B H H1) : ∀ (d : PyData) (v : V), Rp K B H d v → Rp K B H1 d v
  | .none, v, h => rp_non.mpr (rp_non.mp h)
  | .bool b, v, h => rp_bl.mpr (rp_bl.mp h)
  | .int i, v, h => rp_int.mpr (rp_int.mp h)
  | .str s, v, h => rp_str.mpr (rp_str.mp h)
  | .list ds, v, h => by
    obtain ⟨a, xs, e, nb, s, t⟩ := rp_lst.mp h
    exact rp_lst.mpr ⟨a, xs, e, nb, x.kp _ _ nb s, RpA.mono x ds xs t⟩
  | .tuple ds, v, h => by
    obtain ⟨a, xs, e, nb, s, t⟩ := rp_tup.mp h
    exact rp_tup.mpr ⟨a, xs, e, nb, nb.elim (fun nb => x.sqT nb s) .inr, RpA.mono x ds xs t⟩
  | .dict kvs, v, h => by
    simp only [Rp] at h
theorem RpA.mono (x : Xt B H H1) : ∀ (ds : List PyData) (xs : List V), RpA K B H ds xs → RpA K B H1 ds xs
  | [], xs, h => rpa_nil.mpr (rpa_nil.mp h)
  | d :: ds, xs, h => by
    obtain ⟨y, r, e, h1, h2⟩ := rpa_cons.mp h
    exact rpa_cons.mpr ⟨y, r, e, Rp.mono x d y h1, RpA.mono x ds r h2⟩
end
theorem Rp.up (h : Rp K B H d v) (x : Xt B H H1) : Rp K B H1 d v := Rp.mono x d v h
theorem RpA.up (h : RpA K B H ds xs) (x : Xt B H H1) : RpA K B H1 ds xs := RpA.mono x ds xs h
theorem RpA.length : ∀ {ds : List PyData} {xs : List V}, RpA K B H ds xs → ds.length = xs.length
  | [], xs, h => by rw [rpa_nil.mp h]; rfl
  | d :: ds, xs, h => by
    obtain ⟨y, r, e, h1, h2⟩ := rpa_cons.mp h
    rw [e, List.length_cons, List.length_cons, RpA.length h2]
theorem RpA.get : ∀ {ds : List PyData} {xs : List V} {i : Nat} {d : PyData}, RpA K B H ds xs → ds[i]? = some d → ∃ x, xs[i]? = some x ∧ Rp K B H d x
  | [], xs, i, d, h, g => by simp at g
  | c :: ds, xs, 0, d, h, g => by
    obtain ⟨y, r, e, h1, h2⟩ := rpa_cons.mp h
    subst e
    simp only [List.getElem?_cons_zero, Option.some.injEq] at g
    subst g
    exact ⟨y, rfl, h1⟩
  | c :: ds, xs, i + 1, d, h, g => by
    obtain ⟨y, r, e, h1, h2⟩ := rpa_cons.mp h
    subst e
    rw [List.getElem?_cons_succ] at g
    obtain ⟨z, g1, g2⟩ := RpA.get h2 g
    exact ⟨z, by rw [List.getElem?_cons_succ]; exact g1, g2⟩
theorem RpA.back : ∀ {ds : List PyData} {xs : List V} {i : Nat} {x : V}, RpA K B H ds xs → xs[i]? = some x → ∃ d, ds[i]? = some d ∧ Rp K B H d x
  | [], xs, i, x, h, g => by rw [rpa_nil.mp h] at g; simp at g
  | c :: ds, xs, 0, x, h, g => by
    obtain ⟨y, r, e, h1, h2⟩ := rpa_cons.mp h
    subst e
    simp only [List.getElem?_cons_zero, Option.some.injEq] at g
    subst g
    exact ⟨c, rfl, h1⟩
  | c :: ds, xs, i + 1, x, h, g => by
    obtain ⟨y, r, e, h1, h2⟩ := rpa_cons.mp h
    subst e
    rw [List.getElem?_cons_succ] at g
    obtain ⟨z, g1, g2⟩ := RpA.back h2 g
    exact ⟨z, by rw [List.getElem?_cons_succ]; exact g1, g2⟩
theorem RpA.append : ∀ {ds es : List PyData} {xs ys : List V}, RpA K B H ds xs → RpA K B H es ys → RpA K B H (ds ++ es) (xs ++ ys)
  | [], es, xs, ys, h, k => by rw [rpa_nil.mp h]; exact k
  | c :: ds, es, xs, ys, h, k => by
    obtain ⟨y, r, e, h1, h2⟩ := rpa_cons.mp h
    subst e
    exact RpA.cons h1 (RpA.append h2 k)
theorem RpA.drop : ∀ {ds : List PyData} {xs : List V} (n : Nat), RpA K B H ds xs → RpA K B H (ds.drop n) (xs.drop n)
  | ds, xs, 0, h => h
  | [], xs, n + 1, h => by rw [rpa_nil.mp h]; exact RpA.nil
  | c :: ds, xs, n + 1, h => by
    obtain ⟨y, r, e, h1, h2⟩ := rpa_cons.mp h
    subst e
    exact RpA.drop n h2
theorem RpA.take : ∀ {ds : List PyData} {xs : List V} (n : Nat), RpA K B H ds xs → RpA K B H (ds.take n) (xs.take n)
  | ds, xs, 0, h => RpA.nil
  | [], xs, n + 1, h => by rw [rpa_nil.mp h]; exact RpA.nil
  | c :: ds, xs, n + 1, h => by
    obtain ⟨y, r, e, h1, h2⟩ := rpa_cons.mp h
    subst e
    exact RpA.cons h1 (RpA.take n h2)
theorem RpA.ints : ∀ (ns : List Int), RpA K B H (ns.map PyData.int) (ns.map V.int)
  | [] => RpA.nil
  | n :: ns => RpA.cons (rp_int.mpr rfl) (RpA.ints ns)
theorem RpA.ints_inv : ∀ {ns : List Int} {xs : List V}, RpA K B H (ns.map PyData.int) xs → xs = ns.map V.int
  | [], xs, h => rpa_nil.mp h
  | n :: ns, xs, h => by
    obtain ⟨y, r, e, h1, h2⟩ := rpa_cons.mp h
    rw [e, rp_int.mp h1, RpA.ints_inv h2]
    rfl
end
/-- B' is B with places that H does not know -/
structure Gw (B B' : Addr → Prop) (H : Hp) : Prop where
  up : ∀ a, B a → B' a
  fr : ∀ a, B' a → B a ∨ H a = none
section
variable {K : PySem.W.Frag} {B B' : Addr → Prop} {H H1 H2 : Hp}
theorem sqT_alive {a : Addr} {xs : List V} (h : SqT K H a xs) : KT K a xs ∨ H a ≠ none := by
  rcases h with (h | ⟨o, h⟩) | h
  · exact .inr (by rw [h]; simp)
  · exact .inr (by rw [h]; simp)
  · exact .inl h
mutual
theorem Rp.grow (g : Gw B B' H) : ∀ (d : PyData) (v : V), Rp K B H d v → Rp K B' H d v
  | .none, v, h => rp_non.mpr (rp_non.mp h)
  | .bool b, v, h => rp_bl.mpr (rp_bl.mp h)
  | .int i, v, h => rp_int.mpr (rp_int.mp h)
  | .str s, v, h => rp_str.mpr (rp_str.mp h)
  | .list ds, v, h => by
    obtain ⟨a, xs, e, nb, s, t⟩ := rp_lst.mp h
    refine rp_lst.mpr ⟨a, xs, e, fun z => ?_, s, RpA.grow g ds xs t⟩
    rcases g.fr a z with w | w
    · exact nb w
    · rw [s] at w
      cases w
  | .tuple ds, v, h => by
    obtain ⟨a, xs, e, nb, s, t⟩ := rp_tup.mp h
    refine rp_tup.mpr ⟨a, xs, e, ?_, s, RpA.grow g ds xs t⟩
    rcases nb with nb | nb
    · rcases sqT_alive s with k | k
      · exact .inr k
      · refine .inl fun z => ?_
        rcases g.fr a z with w | w
        · exact nb w
        · exact k w
    · exact .inr nb
  | .dict kvs, v, h => by
    simp only [Rp] at h
theorem RpA.grow (g : Gw B B' H) : ∀ (ds : List PyData) (xs : List V), RpA K B H ds xs → RpA K B' H ds xs
  | [], xs, h => rpa_nil.mpr (rpa_nil.mp h)
  | d :: ds, xs, h => by
    obtain ⟨y, r, e, h1, h2⟩ := rpa_cons.mp h
    exact rpa_cons.mpr ⟨y, r, e, Rp.grow g d y h1, RpA.grow g ds r h2⟩
end
mutual
theorem Rp.less (g : ∀ a, B a → B' a) : ∀ (d : PyData) (v : V), Rp K B' H d v → Rp K B H d v
  | .none, v, h => rp_non.mpr (rp_non.mp h)
  | .bool b, v, h => rp_bl.mpr (rp_bl.mp h)
  | .int i, v, h => rp_int.mpr (rp_int.mp h)
  | .str s, v, h => rp_str.mpr (rp_str.mp h)
  | .list ds, v, h => by
    obtain ⟨a, xs, e, nb, s, t⟩ := rp_lst.mp h
    exact rp_lst.mpr ⟨a, xs, e, fun z => nb (g a z), s, RpA.less g ds xs t⟩
  | .tuple ds, v, h => by
    obtain ⟨a, xs, e, nb, s, t⟩ := rp_tup.mp h
    exact rp_tup.mpr ⟨a, xs, e, nb.imp (fun nb z => nb (g a z)) id, s, RpA.less g ds xs t⟩
  | .dict kvs, v, h => by
    simp only [Rp] at h
theorem RpA.less (g : ∀ a, B a → B' a) : ∀ (ds : List PyData) (xs : List V), RpA K B' H ds xs → RpA K B H ds xs
  | [], xs, h => rpa_nil.mpr (rpa_nil.mp h)
  | d :: ds, xs, h => by
    obtain ⟨y, r, e, h1, h2⟩ := rpa_cons.mp h
    exact rpa_cons.mpr ⟨y, r, e, Rp.less g d y h1, RpA.less g ds r h2⟩
end
/-- one more place -/
def Bp (B : Addr → Prop) (p : Addr) : Addr → Prop := fun a => B a ∨ a = p
theorem gw_new {p : Addr} (n : H p = none) : Gw B (Bp B p) H := ⟨fun _ h => .inl h, fun a h => h.elim .inl fun e => .inr (by rw [e]; exact n)⟩
theorem bp_up {p : Addr} : ∀ a, B a → Bp B p a := fun _ h => .inl h
theorem Xt.less (x : Xt B' H H1) (g : ∀ a, B a → B' a) (fr : ∀ a, B' a → B a ∨ H a = none) : Xt B H H1 := ⟨fun a o nb e => x.kp a o (fun z => by
  rcases fr a z with w | w
  · exact nb w
  · rw [e] at w
    cases w) e, fun a h => x.al a (g a h)⟩
end
/-! ### repr -/
section
variable {X : Cx} {pins : List (Addr × Obj)} {σ : L2.St} {H : Hp} {s : Shared} {B : Addr → Prop}
mutual
theorem Rp.reads (I : Inv X pins σ H s) : ∀ (d : PyData) (v : V) (u : Value), Rp X.K B H d v → RelV v u → ∃ as, Reads s.heap u d as
  | .none, v, u, h, r => by
    rw [rp_non.mp h] at r
    obtain rfl : u = Value.none := r
    exact ⟨_, .none⟩
  | .bool b, v, u, h, r => by
    rw [rp_bl.mp h] at r
    obtain rfl : u = Value.bool b := r
    exact ⟨_, .bool b⟩
  | .int i, v, u, h, r => by
    rw [rp_int.mp h] at r
    obtain ⟨t, rfl⟩ : ∃ t, u = Value.int i t := r
    exact ⟨_, .int i t⟩
  | .str x, v, u, h, r => by
    rw [rp_str.mp h] at r
    obtain ⟨t, rfl⟩ : ∃ t, u = Value.str x t := r
    exact ⟨_, .str x t⟩
  | .list ds, v, u, h, r => by
    obtain ⟨a, xs, rfl, _, sq, t⟩ := rp_lst.mp h
    obtain rfl : u = Value.ref a := r
    obtain ⟨its, rv, ⟨o, n, e, hc, _, hd⟩, _⟩ := I.list (SqL.of sq)
    obtain ⟨as, g⟩ := RpA.reads I ds xs its t rv
    exact ⟨_, .list e hc hd (by simpa using g)⟩
  | .tuple ds, v, u, h, r => by
    obtain ⟨a, xs, rfl, _, sq, t⟩ := rp_tup.mp h
    obtain rfl : u = Value.ref a := r
    obtain ⟨its, rv, ⟨o, e, hc, n, hd⟩, _⟩ := I.tuple sq
    obtain ⟨as, g⟩ := RpA.reads I ds xs its t rv
    exact ⟨_, .tuple e hc hd (by simpa using g)⟩
  | .dict kvs, v, u, h, r => by
    simp only [Rp] at h
theorem RpA.reads (I : Inv X pins σ H s) : ∀ (ds : List PyData) (xs : List V) (us : List Value), RpA X.K B H ds xs → Vals xs us → ∃ as, ReadsAll s.heap us ds as
  | [], xs, us, h, r => by
    rw [rpa_nil.mp h] at r
    cases r
    exact ⟨_, .nil⟩
  | d :: ds, xs, us, h, r => by
    obtain ⟨y, rr, e, h1, h2⟩ := rpa_cons.mp h
    subst e
    cases r with
    | cons a b =>
      obtain ⟨as, g⟩ := Rp.reads I d _ _ h1 a
      obtain ⟨bs, k⟩ := RpA.reads I ds _ _ h2 b
      exact ⟨_, .cons g k⟩
end
end
/-- data whose text is known to be short: nested below n, of at most m signs -/
structure Sm (n m : Nat) (d : PyData) : Prop where
  sh : d.showable = true
  nd : d.hasDict = false
  dp : d.depth ≤ n
  ln : d.shown.length ≤ m
theorem Sm.mono {n m n' m' : Nat} {d : PyData} (h : Sm n m d) (hn : n ≤ n') (hm : m ≤ m') : Sm n' m' d :=
  ⟨h.sh, h.nd, Nat.le_trans h.dp hn, Nat.le_trans h.ln hm⟩
theorem sm_int {i : Int} (h : i.natAbs < 2 ^ 200) : Sm 0 202 (.int i) := by
  have hl : i.natAbs.log2 < 201 := by
    by_cases z : i.natAbs = 0
    · rw [z]; decide
    · have := (Nat.log2_lt z).mpr h
      omega
  refine ⟨?_, by simp only [PyData.hasDict], by simp only [PyData.depth]; exact Nat.le_refl _, ?_⟩
  · simp only [PyData.showable, decide_eq_true_eq]
    omega
  · rw [PyData.shown_int]
    have := int_text_length_le (a := i) (k := 201) (by decide) hl
    show (Str.ofString (toString i)).length ≤ 202
    rw [PySem.ofString_length]
    exact this
theorem sm_all {n m : Nat} : ∀ {ds : List PyData}, (∀ d ∈ ds, Sm n m d) →
    PyData.showableAll ds = true ∧ PyData.hasDictAll ds = false ∧ PyData.depthAll ds ≤ n ∧ ((PyData.shownAll ds).map (·.length)).sum ≤ ds.length * m
  | [], _ => by simp [PyData.showableAll, PyData.hasDictAll, PyData.depthAll, PyData.shownAll]
  | d :: ds, h => by
    obtain ⟨h1, h2, h3, h4⟩ := sm_all (ds := ds) fun x hx => h x (List.mem_cons_of_mem _ hx)
    have k := h d List.mem_cons_self
    refine ⟨?_, ?_, ?_, ?_⟩
    · simp only [PyData.showableAll, k.sh, h1, Bool.and_true]
    · simp only [PyData.hasDictAll, k.nd, h2, Bool.or_false]
    · simp only [PyData.depthAll]
      exact Nat.max_le.mpr ⟨k.dp, h3⟩
    · simp only [PyData.shownAll, List.map_cons, List.sum_cons, List.length_cons, Nat.succ_mul]
      have := k.ln
      omega
theorem sm_tup {n m : Nat} {ds : List PyData} (h : ∀ d ∈ ds, Sm n m d) : Sm (n + 1) (ds.length * m + 2 * ds.length + 3) (.tuple ds) := by
  obtain ⟨h1, h2, h3, h4⟩ := sm_all h
  refine ⟨by simpa only [PyData.showable] using h1, by simpa only [PyData.hasDict] using h2, by simp only [PyData.depth]; omega, ?_⟩
  have := tupleText_len_le (PyData.shownAll ds)
  simp only [PyData.shown]
  rw [PyData.shownAll_length] at this
  omega
theorem sm_lst {n m : Nat} {ds : List PyData} (h : ∀ d ∈ ds, Sm n m d) : Sm (n + 1) (ds.length * m + 2 * ds.length + 3) (.list ds) := by
  obtain ⟨h1, h2, h3, h4⟩ := sm_all h
  refine ⟨by simpa only [PyData.showable] using h1, by simpa only [PyData.hasDict] using h2, by simp only [PyData.depth]; omega, ?_⟩
  have := listText_len_le (PyData.shownAll ds)
  simp only [PyData.shown]
  rw [PyData.shownAll_length] at this
  omega
/-- small enough for repr -/
def Shw (d : PyData) : Prop := Sm 60 1000000 d
def rRepr (K : PySem.W.Frag) : List V → Hp → VK → Prop := fun xs H Q => ∃ B v d, xs = [v] ∧ Rp K B H d v ∧ Shw d ∧ Q (.str d.shown) H
theorem call_reprD {X : Cx} (hg : X.A.guards = some []) (hu : X.A.units + 64 < cLine) : CallR X (.builtin "repr") (rRepr X.K) := by
  intro pins s σ H xs us Q I r h
  obtain ⟨B, v, d, rfl, hd, hs, q⟩ := h
  obtain ⟨u, rfl, t⟩ := vals1 r
  obtain ⟨as, rd⟩ := Rp.reads I d v u hd t
  have sz : d.shown.length ≤ sizeLine := Nat.le_trans hs.ln (by decide)
  have fin : ∀ (h' : Heap) (u : Tok) (tk : Nat), (∀ b o, s.heap.get? b = some o → h'.get? b = some o) →
      EP X pins σ Q (.str d.shown u) { s with heap := h', toks := tk } := fun h' u tk hk =>
    ⟨.str d.shown, H, I.un (Un.kept hk) (I.hok.kept hk), ⟨u, rfl⟩, q⟩
  cases rd with
  | none =>
    have := fin s.heap s.toks (s.toks + 1) fun _ _ z => z
    rw [PyData.shown_none] at this
    exact PySem.P.repr_of_none this
  | bool b =>
    have := fin s.heap s.toks (s.toks + 1) fun _ _ z => z
    rw [PyData.shown_bool] at this
    refine PySem.P.repr_of_bool ?_
    cases b <;> exact this
  | int i t =>
    have := fin s.heap s.toks (s.toks + 1) fun _ _ z => z
    rw [PyData.shown_int] at this
    have z := hs.sh
    simp only [PyData.showable, decide_eq_true_eq] at z
    exact PySem.P.repr_of_int z this
  | str x t =>
    have := fin s.heap s.toks (s.toks + 1) fun _ _ z => z
    rw [PyData.shown_str] at this
    exact PySem.P.repr_of_str this (by rw [← PyData.shown_str]; exact sz)
  | list a1 a2 a3 a4 =>
    exact repr_of_reads' (.list a1 a2 a3 a4) hs.sh (PyData.noDict_hsm hs.nd) hg (by have := hs.dp; omega) (fun _ _ z => z) (fun h' u tk hk => fin h' u tk hk) sz
  | tuple a1 a2 a3 a4 =>
    exact repr_of_reads' (.tuple a1 a2 a3 a4) hs.sh (PyData.noDict_hsm hs.nd) hg (by have := hs.dp; omega) (fun _ _ z => z) (fun h' u tk hk => fin h' u tk hk) sz
  | dict =>
    have := hs.nd
    simp only [PyData.hasDict] at this
    cases this
end CG

/-! Part 3: readings that denote data. -/
namespace CG
open PySem PySem.Spec PyProof.Rows L2
/-- the reading te gives the data d and changes nothing that stands -/
def Dn (K : PySem.W.Frag) (B : Addr → Prop) (te : TE) (σ : L2.St) (H : Hp) (d : PyData) : Prop :=
  ∀ H1, Xt B H H1 → ∀ Q : VK, (∀ v H2, Same H1 H2 → Rp K B H2 d v → Q v H2) → te σ H1 Q
def DnA (K : PySem.W.Frag) (B : Addr → Prop) (ta : TA) (σ : L2.St) (H : Hp) (ds : List PyData) : Prop :=
  ∀ H1, Xt B H H1 → ∀ Q : List V → Hp → Prop, (∀ vs H2, Same H1 H2 → RpA K B H2 ds vs → Q vs H2) → ta σ H1 Q
def DnT (B : Addr → Prop) (tt : TT) (σ : L2.St) (H : Hp) (b : Bool) : Prop :=
  ∀ H1, Xt B H H1 → ∀ Q : Bool → Hp → Prop, (∀ H2, Same H1 H2 → Q b H2) → tt σ H1 Q
def DnO (B : Addr → Prop) (to : TO) (σ : L2.St) (H : Hp) (o : Option Int) : Prop :=
  ∀ H1, Xt B H H1 → ∀ Q : Option Int → Hp → Prop, (∀ H2, Same H1 H2 → Q o H2) → to σ H1 Q
/-- operations on data -/
def RvD (K : PySem.W.Frag) (B : Addr → Prop) (r : R2) (da db d : PyData) : Prop :=
  ∀ H1 x y, Al B H1 → Rp K B H1 da x → Rp K B H1 db y → ∀ Q : VK, (∀ v H2, Same H1 H2 → Rp K B H2 d v → Q v H2) → r x y H1 Q
def RuD (K : PySem.W.Frag) (B : Addr → Prop) (r : V → Hp → VK → Prop) (da d : PyData) : Prop :=
  ∀ H1 x, Al B H1 → Rp K B H1 da x → ∀ Q : VK, (∀ v H2, Same H1 H2 → Rp K B H2 d v → Q v H2) → r x H1 Q
def RcD (K : PySem.W.Frag) (B : Addr → Prop) (r : List V → Hp → VK → Prop) (ds : List PyData) (d : PyData) : Prop :=
  ∀ H1 xs, Al B H1 → RpA K B H1 ds xs → ∀ Q : VK, (∀ v H2, Same H1 H2 → Rp K B H2 d v → Q v H2) → r xs H1 Q
/-- a def's promise over data -/
def spP (K : PySem.W.Frag) (P : List PyData → PyData → Prop) : Sp := fun vs H Q _ =>
  ∃ B ds d, Al B H ∧ RpA K B H ds vs ∧ P ds d ∧ ∀ v H', Same H H' → Rp K B H' d v → Q v H'
section
variable {K : PySem.W.Frag} {B : Addr → Prop} {σ : L2.St} {H H1 H2 : Hp} {ta tb te : TE} {tx : TA} {tt tu : TT} {v : V} {d da db dc : PyData}
  {ds es : List PyData} {r : R2} {b c : Bool}
theorem Dn.up (h : Dn K B te σ H d) (x : Xt B H H1) : Dn K B te σ H1 d := fun H2 y Q q => h H2 (x.trans y) Q q
theorem DnT.eq (h : DnT B tt σ H b) (e : b = c) : DnT B tt σ H c := e ▸ h
theorem Dn.eq (h : Dn K B te σ H d) (e : d = da) : Dn K B te σ H da := e ▸ h
theorem dn_var {i : Nat} (h : σ[i]? = some (some v)) (r : Rp K B H d v) : Dn K B (tVar i) σ H d := fun H1 x Q q =>
  ⟨v, h, q v H1 (Same.refl H1) (r.up x)⟩
theorem dn_int {i : Int} : Dn K B (tC (.int i)) σ H (.int i) := fun H1 x Q q => q _ H1 (Same.refl H1) (rp_int.mpr rfl)
theorem dn_bl : Dn K B (tC (.bl b)) σ H (.bool b) := fun H1 x Q q => q _ H1 (Same.refl H1) (rp_bl.mpr rfl)
theorem dn_non : Dn K B (tC .non) σ H .none := fun H1 x Q q => q _ H1 (Same.refl H1) (rp_non.mpr rfl)
theorem dn_str {z : Str} : Dn K B (tC (.str z)) σ H (.str z) := fun H1 x Q q => q _ H1 (Same.refl H1) (rp_str.mpr rfl)
theorem dn_op (ha : Dn K B ta σ H da) (hb : Dn K B tb σ H db) (hr : RvD K B r da db d) : Dn K B (tOp r ta tb) σ H d := fun H1 x Q q =>
  ha H1 x _ fun v H2 e2 r2 => hb H2 (x.same e2) _ fun w H3 e3 r3 =>
    hr H3 v w ((x.same e2).same e3).al (r2.up (Xt.of (x.same e2).al e3)) r3 Q fun z H4 e4 r4 => q z H4 (e2.trans (e3.trans e4)) r4
theorem dn_un {r : V → Hp → VK → Prop} (ha : Dn K B ta σ H da) (hr : RuD K B r da d) : Dn K B (tUn r ta) σ H d := fun H1 x Q q =>
  ha H1 x _ fun v H2 e2 r2 => hr H2 v (x.same e2).al r2 Q fun z H4 e4 r4 => q z H4 (e2.trans e4) r4
theorem da_nil : DnA K B tNil σ H [] := fun H1 x Q q => q [] H1 (Same.refl H1) RpA.nil
theorem da_cons (ha : Dn K B te σ H d) (hr : DnA K B tx σ H ds) : DnA K B (tCons te tx) σ H (d :: ds) := fun H1 x Q q =>
  ha H1 x _ fun v H2 e2 r2 => hr H2 (x.same e2) _ fun vs H3 e3 r3 => q (v :: vs) H3 (e2.trans e3) (.cons (r2.up (Xt.of (x.same e2).al e3)) r3)
theorem dn_tup (h : DnA K B tx σ H ds) (z : ds.length ≤ 100000) : Dn K B (tTup tx) σ H (.tuple ds) := fun H1 x Q q =>
  h H1 x _ fun vs H2 e2 r2 => ⟨by rw [← r2.length]; exact Nat.le_trans z (by decide), fun p np =>
    q (.ref p) _ (e2.trans (same_new np)) (rp_tup.mpr ⟨p, vs, rfl, .inl ((x.same e2).al.new np), SqT.of upd_same, r2.up (Xt.of (x.same e2).al (same_new np))⟩)⟩
theorem dn_lst (h : DnA K B tx σ H ds) (z : ds.length ≤ 100000) : Dn K B (tLst tx) σ H (.list ds) := fun H1 x Q q =>
  h H1 x _ fun vs H2 e2 r2 => ⟨by rw [← r2.length]; exact Nat.le_trans z (by decide), fun p np =>
    q (.ref p) _ (e2.trans (same_new np)) (rp_lst.mpr ⟨p, vs, rfl, (x.same e2).al.new np, upd_same, r2.up (Xt.of (x.same e2).al (same_new np))⟩)⟩
theorem dn_cb {r : List V → Hp → VK → Prop} (h : DnA K B tx σ H ds) (hr : RcD K B r ds d) : Dn K B (tCB r tx) σ H d := fun H1 x Q q =>
  h H1 x _ fun vs H2 e2 r2 => hr H2 vs (x.same e2).al r2 Q fun z H4 e4 r4 => q z H4 (e2.trans e4) r4
theorem dn_call {P : List PyData → PyData → Prop} {E : XK} (h : DnA K B tx σ H ds) (hp : P ds d) : Dn K B (tCall (spP K P) [] E tx) σ H d := fun H1 x Q q =>
  h H1 x _ fun vs H2 e2 r2 => ⟨B, ds, d, (x.same e2).al, by rw [List.append_nil]; exact r2, hp, fun v H' e r => q v H' (e2.trans e) r⟩
/-! tests -/
theorem dt_test (h : Dn K B te σ H (.bool b)) : DnT B (tTest te) σ H b := fun H1 x Q q => h H1 x _ fun v H2 e r => ⟨b, rp_bl.mp r, q H2 e⟩
theorem dt_B (h : Dn K B te σ H (.bool b)) : DnT B (tB te) σ H b := fun H1 x Q q => h H1 x _ fun v H2 e r => ⟨b, rp_bl.mp r, q H2 e⟩
theorem dt_not (h : DnT B tt σ H b) : DnT B (tNot tt) σ H (!b) := fun H1 x Q q => h H1 x _ fun H2 e => q H2 e
theorem dt_and (h : DnT B tt σ H b) (k : b = true → DnT B tu σ H c) : DnT B (tAnd tt tu) σ H (b && c) := fun H1 x Q q => h H1 x _ fun H2 e => by
  cases b with
  | true =>
    rw [if_pos rfl]
    exact k rfl H2 (x.same e) Q fun H3 e3 => q H3 (e.trans e3)
  | false =>
    rw [if_neg (by decide)]
    exact q H2 e
theorem dt_or (h : DnT B tt σ H b) (k : b = false → DnT B tu σ H c) : DnT B (tOr tt tu) σ H (b || c) := fun H1 x Q q => h H1 x _ fun H2 e => by
  cases b with
  | true =>
    rw [if_pos rfl]
    exact q H2 e
  | false =>
    rw [if_neg (by decide)]
    exact k rfl H2 (x.same e) Q fun H3 e3 => q H3 (e.trans e3)
theorem dn_ifx (h : DnT B tt σ H b) (k1 : b = true → Dn K B ta σ H d) (k2 : b = false → Dn K B tb σ H d) : Dn K B (tIf tt ta tb) σ H d :=
  fun H1 x Q q => h H1 x _ fun H2 e => by
  cases b with
  | true =>
    rw [if_pos rfl]
    exact k1 rfl H2 (x.same e) Q fun v H3 e3 r3 => q v H3 (e.trans e3) r3
  | false =>
    rw [if_neg (by decide)]
    exact k2 rfl H2 (x.same e) Q fun v H3 e3 r3 => q v H3 (e.trans e3) r3
theorem dn_and (ha : Dn K B ta σ H (.bool b)) (hb : b = true → Dn K B tb σ H (.bool c)) : Dn K B (tAndV ta tb) σ H (.bool (b && c)) :=
  fun H1 x Q q => ha H1 x _ fun v H2 e r => ⟨b, rp_bl.mp r, by
  cases b with
  | true =>
    rw [if_pos rfl]
    exact hb rfl H2 (x.same e) Q fun v H3 e3 r3 => q v H3 (e.trans e3) r3
  | false =>
    rw [if_neg (by decide)]
    exact q _ H2 e (rp_bl.mpr rfl)⟩
theorem dn_or (ha : Dn K B ta σ H (.bool b)) (hb : b = false → Dn K B tb σ H (.bool c)) : Dn K B (tOrV ta tb) σ H (.bool (b || c)) :=
  fun H1 x Q q => ha H1 x _ fun v H2 e r => ⟨b, rp_bl.mp r, by
  cases b with
  | true =>
    rw [if_pos rfl]
    exact q _ H2 e (rp_bl.mpr rfl)
  | false =>
    rw [if_neg (by decide)]
    exact hb rfl H2 (x.same e) Q fun v H3 e3 r3 => q v H3 (e.trans e3) r3⟩
theorem dn_not (ha : Dn K B ta σ H (.bool b)) : Dn K B (tNotV ta) σ H (.bool (!b)) := fun H1 x Q q =>
  ha H1 x _ fun v H2 e r => ⟨b, rp_bl.mp r, q _ H2 e (rp_bl.mpr rfl)⟩
theorem do_none : DnO B tNoPart σ H none := fun H1 x Q q => q H1 (Same.refl H1)
theorem do_some {i : Int} (h : Dn K B te σ H (.int i)) : DnO B (tPart te) σ H (some i) := fun H1 x Q q =>
  h H1 x _ fun v H2 e r => ⟨i, rp_int.mp r, q H2 e⟩
/-! operators on ints -/
theorem rd_I0 {g : Int → Int → Int} {i j : Int} : RvD K B (rI0 fun i j => .int (g i j)) (.int i) (.int j) (.int (g i j)) := fun H1 x y _ hx hy Q q =>
  ⟨i, j, rp_int.mp hx, rp_int.mp hy, q _ H1 (Same.refl H1) (rp_int.mpr rfl)⟩
theorem rd_B0 {g : Int → Int → Bool} {i j : Int} : RvD K B (rI0 fun i j => .bl (g i j)) (.int i) (.int j) (.bool (g i j)) := fun H1 x y _ hx hy Q q =>
  ⟨i, j, rp_int.mp hx, rp_int.mp hy, q _ H1 (Same.refl H1) (rp_bl.mpr rfl)⟩
theorem rd_I {C : Int → Int → Prop} {g : Int → Int → Int} {i j : Int} (hc : C i j) : RvD K B (rI C fun i j => .int (g i j)) (.int i) (.int j) (.int (g i j)) :=
  fun H1 x y _ hx hy Q q => ⟨i, j, rp_int.mp hx, rp_int.mp hy, hc, q _ H1 (Same.refl H1) (rp_int.mpr rfl)⟩
theorem ru_neg {i : Int} : RuD K B (rU fun i => .int (-i)) (.int i) (.int (-i)) := fun H1 x _ hx Q q => ⟨i, rp_int.mp hx, q _ H1 (Same.refl H1) (rp_int.mpr rfl)⟩
theorem rd_eqI {i j : Int} : RvD K B rEq (.int i) (.int j) (.bool (decide (i = j))) := fun H1 x y _ hx hy Q q => by
  rw [rp_int.mp hx, rp_int.mp hy]
  refine ⟨rfl, ?_⟩
  have e : decide (V.int i = V.int j) = decide (i = j) := by simp
  rw [e]
  exact q _ H1 (Same.refl H1) (rp_bl.mpr rfl)
theorem rd_neI {i j : Int} : RvD K B rNe (.int i) (.int j) (.bool (!decide (i = j))) := fun H1 x y _ hx hy Q q => by
  rw [rp_int.mp hx, rp_int.mp hy]
  refine ⟨rfl, ?_⟩
  have e : decide (V.int i = V.int j) = decide (i = j) := by simp
  rw [e]
  exact q _ H1 (Same.refl H1) (rp_bl.mpr rfl)
theorem rd_eqS {i j : Str} : RvD K B rEq (.str i) (.str j) (.bool (decide (i = j))) := fun H1 x y _ hx hy Q q => by
  rw [rp_str.mp hx, rp_str.mp hy]
  refine ⟨rfl, ?_⟩
  have e : decide (V.str i = V.str j) = decide (i = j) := by simp
  rw [e]
  exact q _ H1 (Same.refl H1) (rp_bl.mpr rfl)
theorem rd_neS {i j : Str} : RvD K B rNe (.str i) (.str j) (.bool (!decide (i = j))) := fun H1 x y _ hx hy Q q => by
  rw [rp_str.mp hx, rp_str.mp hy]
  refine ⟨rfl, ?_⟩
  have e : decide (V.str i = V.str j) = decide (i = j) := by simp
  rw [e]
  exact q _ H1 (Same.refl H1) (rp_bl.mpr rfl)
/-! places -/
theorem at_data {i : Int} {xs : List V} (h : atI ds i = some d) (r : RpA K B H ds xs) : ∃ x, atI xs i = some x ∧ Rp K B H d x := by
  unfold atI at h ⊢
  rw [← r.length]
  cases e : ixN ds.length i with
  | none => rw [e] at h; cases h
  | some j =>
    rw [e] at h
    exact r.get h
theorem rd_ixT {i : Int} (h : atI ds i = some d) : RvD K B (rIx K) (.tuple ds) (.int i) d := fun H1 x y _ hx hy Q q => by
  obtain ⟨a, xs, rfl, _, s, t⟩ := rp_tup.mp hx
  obtain ⟨z, g, rz⟩ := at_data h t
  exact .inr (.inl ⟨a, xs, i, z, rfl, rp_int.mp hy, s, g, q z H1 (Same.refl H1) rz⟩)
theorem rd_ixL {i : Int} (h : atI ds i = some d) : RvD K B (rIx K) (.list ds) (.int i) d := fun H1 x y _ hx hy Q q => by
  obtain ⟨a, xs, rfl, _, s, t⟩ := rp_lst.mp hx
  obtain ⟨z, g, rz⟩ := at_data h t
  exact .inl ⟨a, xs, i, z, rfl, rp_int.mp hy, SqL.of s, g, q z H1 (Same.refl H1) rz⟩
theorem at_ints {ns : List Int} {i n : Int} (h : atI ns i = some n) : atI (ns.map PyData.int) i = some (.int n) := by
  unfold atI at h ⊢
  rw [List.length_map]
  cases e : ixN ns.length i with
  | none => rw [e] at h; cases h
  | some j =>
    rw [e] at h
    show (ns.map PyData.int)[j]? = some (.int n)
    rw [List.getElem?_map, show ns[j]? = some n from h]
    rfl
end
/-! ### sums -/
def rAddU (K : PySem.W.Frag) : R2 := fun x y H Q => (rI0 (fun i j => .int (i + j))) x y H Q ∨ (rCatA K x y H Q ∨ rCat x y H Q)
theorem op_addU {X : Cx} : OpR X (binaryOp .Add) (rAddU X.K) := op_add.or (op_catA.or op_cat)
/-! ### slices -/
def cutD (ds : List PyData) (lo hi : Option Int) : List PyData :=
  (ds.drop (HT.sIx ds.length 0 lo)).take (HT.sIx ds.length ds.length hi - HT.sIx ds.length 0 lo)
def rSlU (K : PySem.W.Frag) : V → Option Int → Option Int → Hp → VK → Prop := fun x lo hi H Q => rSlL K x lo hi H Q ∨ rSlA K x lo hi H Q
theorem sl_U {X : Cx} : SlR X (rSlU X.K) := sl_list.or sl_tupA
section
variable {K : PySem.W.Frag} {B : Addr → Prop} {σ : L2.St} {H H1 H2 : Hp} {ta tb te : TE} {tx : TA} {tt tu : TT} {v : V} {d da db dc : PyData}
  {ds es : List PyData} {r : R2} {b c : Bool} {lo hi : Option Int} {tl th : TO}
theorem rd_add {i j : Int} : RvD K B (rAddU K) (.int i) (.int j) (.int (i + j)) := fun H1 x y al hx hy Q q => .inl (rd_I0 (g := fun i j => i + j) H1 x y al hx hy Q q)
theorem rd_catT (z : ds.length + es.length ≤ 100000) : RvD K B (rAddU K) (.tuple ds) (.tuple es) (.tuple (ds ++ es)) := fun H1 x y al hx hy Q q => by
  obtain ⟨a, xs, rfl, na, s, t⟩ := rp_tup.mp hx
  obtain ⟨b, ys, rfl, nb, s2, t2⟩ := rp_tup.mp hy
  refine .inr (.inl ⟨a, b, xs, ys, rfl, rfl, s, s2, ?_, fun e => ?_, fun _ e => ?_, fun _ _ p np => ?_⟩)
  · rw [← t.length, ← t2.length]
    exact Nat.le_trans z (by decide)
  · subst e
    obtain rfl : ds = [] := List.length_eq_zero_iff.mp t.length
    exact q _ H1 (Same.refl H1) hy
  · subst e
    obtain rfl : es = [] := List.length_eq_zero_iff.mp t2.length
    rw [List.append_nil] at q
    exact q _ H1 (Same.refl H1) hx
  · refine q (.ref p) _ (same_new np) (rp_tup.mpr ⟨p, _, rfl, .inl (al.new np), SqT.of upd_same, (t.append t2).up (Xt.of al (same_new np))⟩)
theorem rd_catL (z : ds.length + es.length ≤ 100000) : RvD K B (rAddU K) (.list ds) (.list es) (.list (ds ++ es)) := fun H1 x y al hx hy Q q => by
  obtain ⟨a, xs, rfl, na, s, t⟩ := rp_lst.mp hx
  obtain ⟨b, ys, rfl, nb, s2, t2⟩ := rp_lst.mp hy
  refine .inr (.inr ⟨a, b, xs, ys, rfl, rfl, s, s2, ?_, fun p np => ?_⟩)
  · rw [← t.length, ← t2.length]
    exact Nat.le_trans z (by decide)
  · refine q (.ref p) _ (same_new np) (rp_lst.mpr ⟨p, _, rfl, al.new np, upd_same, (t.append t2).up (Xt.of al (same_new np))⟩)
theorem RpA.cut {xs : List V} (h : RpA K B H ds xs) : RpA K B H (cutD ds lo hi) (cutV xs lo hi) := by
  unfold cutD cutV
  rw [h.length]
  exact RpA.take _ (RpA.drop _ h)
theorem cutD_full (e1 : HT.sIx ds.length 0 lo = 0) (e2 : HT.sIx ds.length ds.length hi = ds.length) : cutD ds lo hi = ds := by
  unfold cutD
  rw [e1, e2, List.drop_zero, Nat.sub_zero, List.take_length]
theorem dn_slT (h : Dn K B te σ H (.tuple ds)) (hl : DnO B tl σ H lo) (hh : DnO B th σ H hi) : Dn K B (tSl (rSlU K) te tl th) σ H (.tuple (cutD ds lo hi)) :=
  fun H1 x Q q => h H1 x _ fun v H2 e2 r2 => hl H2 (x.same e2) _ fun H3 e3 => hh H3 ((x.same e2).same e3) _ fun H4 e4 => by
    have x4 := ((x.same e2).same e3).same e4
    have r4 := r2.up (Xt.of (x.same e2).al (e3.trans e4))
    obtain ⟨a, xs, rfl, na, s, t⟩ := rp_tup.mp r4
    have e14 := e2.trans (e3.trans e4)
    refine .inr ⟨a, xs, rfl, s, fun f => ?_, fun _ p np => ?_⟩
    · rw [← t.length] at f
      rw [cutD_full f.1 f.2] at q
      exact q _ H4 e14 r4
    · exact q (.ref p) _ (e14.trans (same_new np)) (rp_tup.mpr ⟨p, _, rfl, .inl (x4.al.new np), SqT.of upd_same, (RpA.cut t).up (Xt.of x4.al (same_new np))⟩)
theorem dn_slL (h : Dn K B te σ H (.list ds)) (hl : DnO B tl σ H lo) (hh : DnO B th σ H hi) : Dn K B (tSl (rSlU K) te tl th) σ H (.list (cutD ds lo hi)) :=
  fun H1 x Q q => h H1 x _ fun v H2 e2 r2 => hl H2 (x.same e2) _ fun H3 e3 => hh H3 ((x.same e2).same e3) _ fun H4 e4 => by
    have x4 := ((x.same e2).same e3).same e4
    have r4 := r2.up (Xt.of (x.same e2).al (e3.trans e4))
    obtain ⟨a, xs, rfl, na, s, t⟩ := rp_lst.mp r4
    have e14 := e2.trans (e3.trans e4)
    refine .inl ⟨a, xs, rfl, SqL.of s, fun p np => ?_⟩
    exact q (.ref p) _ (e14.trans (same_new np)) (rp_lst.mpr ⟨p, _, rfl, x4.al.new np, upd_same, (RpA.cut t).up (Xt.of x4.al (same_new np))⟩)
/-! ### built-in calls -/
def rLenU (K : PySem.W.Frag) : List V → Hp → VK → Prop := fun xs H Q => ∃ p ys, xs = [.ref p] ∧ (SqL K H p ys ∨ SqT K H p ys) ∧ Q (.int ys.length) H
theorem call_lenU {X : Cx} : CallR X (.builtin "len") (rLenU X.K) := call_len_seq
theorem rc_lenT : RcD K B (rLenU K) [.tuple ds] (.int ds.length) := fun H1 xs al h Q q => by
  obtain ⟨y, r, rfl, h1, h2⟩ := rpa_cons.mp h
  obtain rfl := rpa_nil.mp h2
  obtain ⟨a, xs, rfl, na, s, t⟩ := rp_tup.mp h1
  exact ⟨a, xs, rfl, .inr s, q _ H1 (Same.refl H1) (rp_int.mpr (by rw [t.length]))⟩
theorem rc_lenL : RcD K B (rLenU K) [.list ds] (.int ds.length) := fun H1 xs al h Q q => by
  obtain ⟨y, r, rfl, h1, h2⟩ := rpa_cons.mp h
  obtain rfl := rpa_nil.mp h2
  obtain ⟨a, xs, rfl, na, s, t⟩ := rp_lst.mp h1
  exact ⟨a, xs, rfl, .inl (SqL.of s), q _ H1 (Same.refl H1) (rp_int.mpr (by rw [t.length]))⟩
theorem rc_repr (h : Shw d) : RcD K B (rRepr K) [d] (.str d.shown) := fun H1 xs al k Q q => by
  obtain ⟨y, r, rfl, h1, h2⟩ := rpa_cons.mp k
  obtain rfl := rpa_nil.mp h2
  exact ⟨B, y, d, rfl, h1, h, q _ H1 (Same.refl H1) (rp_str.mpr rfl)⟩
def rMinU : List V → Hp → VK → Prop := fun xs H Q => ∃ i j, xs = [.int i, .int j] ∧ Q (.int (if j < i then j else i)) H
def rMaxU : List V → Hp → VK → Prop := fun xs H Q => ∃ i j, xs = [.int i, .int j] ∧ Q (.int (if j > i then j else i)) H
theorem call_minU {X : Cx} (hc : X.calm = true) : CallR X (.builtin "min") rMinU := call_min2 hc
theorem call_maxU {X : Cx} (hc : X.calm = true) : CallR X (.builtin "max") rMaxU := call_max2 hc
theorem two_ints {i j : Int} {xs : List V} (h : RpA K B H [.int i, .int j] xs) : xs = [.int i, .int j] := by
  obtain ⟨y, r, rfl, h1, h2⟩ := rpa_cons.mp h
  obtain ⟨z, r, rfl, h3, h4⟩ := rpa_cons.mp h2
  rw [rpa_nil.mp h4, rp_int.mp h1, rp_int.mp h3]
theorem rc_min {i j : Int} : RcD K B rMinU [.int i, .int j] (.int (if j < i then j else i)) := fun H1 xs al h Q q =>
  ⟨i, j, two_ints h, q _ H1 (Same.refl H1) (rp_int.mpr rfl)⟩
theorem rc_max {i j : Int} : RcD K B rMaxU [.int i, .int j] (.int (if j > i then j else i)) := fun H1 xs al h Q q =>
  ⟨i, j, two_ints h, q _ H1 (Same.refl H1) (rp_int.mpr rfl)⟩
/-! ### statements -/
variable {D : Ends} {t u : TS} {i n : Nat}
theorem sd_set (h : Dn K B te σ H d) (x : Xt B H H1) (k : ∀ v H', Same H1 H' → Rp K B H' d v → D.nx (σ.set i (some v)) H') : tAsg te (gName i) D σ H1 := h H1 x _ k
theorem sd_ret (h : Dn K B te σ H d) (x : Xt B H H1) (k : ∀ v H', Same H1 H' → Rp K B H' d v → D.rt v H') : tRet te D σ H1 := h H1 x _ k
theorem sd_if (h : DnT B tt σ H b) (x : Xt B H H1) (k1 : b = true → ∀ H', Same H1 H' → t D σ H') (k2 : b = false → ∀ H', Same H1 H' → u D σ H') :
    tIfS tt t u D σ H1 := h H1 x _ fun H' e => by
  cases b with
  | true => exact (if_pos rfl).mpr (k1 rfl H' e)
  | false => exact (if_neg (by decide)).mpr (k2 rfl H' e)
theorem sd_unp {g : TGs} (h : Dn K B te σ H (.tuple ds)) (x : Xt B H H1) (hn : ds.length = n) (k : ∀ xs H', Same H1 H' → RpA K B H' ds xs → g xs σ H' D.nx) :
    tAsg te (gTup K n g) D σ H1 := h H1 x _ fun v H' e r => by
  obtain ⟨a, xs, rfl, na, s, t⟩ := rp_tup.mp r
  exact ⟨a, xs, rfl, s, by rw [← t.length, hn], k xs H' e t⟩
end
end CG

/-! Part 4: the deck, readings that draw from it. -/
namespace CG
open PySem PySem.Spec PyProof.Rows L2
def Bk (D C : Addr) : Addr → Prop := fun a => a = D ∨ a = C
/-- a deck at D, its cells at C, t draws done; both are among the places B that data avoid -/
structure Dk (B : Addr → Prop) (H : Hp) (D C : Addr) (t : Int) : Prop where
  bD : B D
  bC : B C
  al : Al B H
  ne : D ≠ C
  nn : 0 ≤ t
  ex : ∃ cs : List Int, H D = some (.lst [.ref C, .int t]) ∧ H C = some (.lst (cs.map V.int)) ∧ cs.length ≤ 63 ∧ ∀ c ∈ cs, 0 ≤ c
section
variable {K : PySem.W.Frag} {B : Addr → Prop} {D C : Addr} {H H1 H2 : Hp} {t t' n m : Int} {σ : L2.St} {te ta tb : TE} {tx : TA} {tt tu : TT} {d : PyData} {ds : List PyData}
  {Φ Ψ Θ : PyData → Prop} {Φs Ψs : List PyData → Prop} {r : R2} {v : V}
theorem Dk.alk (k : Dk B H D C t) : Al (Bk D C) H := fun a h => by
  rcases h with rfl | rfl
  · exact k.al a k.bD
  · exact k.al a k.bC
theorem Dk.same (k : Dk B H D C t) (e : Same H H1) : Dk B H1 D C t := by
  obtain ⟨bD, bC, al, ne, nn, cs, h1, h2, h3⟩ := k
  exact ⟨bD, bC, al.same e, ne, nn, cs, e _ _ h1, e _ _ h2, h3⟩
theorem Dk.xt (k : Dk B H D C t) (e : Same H H1) : Xt (Bk D C) H H1 := Xt.of k.alk e
/-- what is kept but for the deck is kept but for B -/
theorem Dk.wd (k : Dk B H D C t) (x : Xt (Bk D C) H H1) : Xt B H H1 := ⟨fun a o nb e => x.kp a o (fun z => nb (z.elim (fun w => w ▸ k.bD) fun w => w ▸ k.bC)) e, fun a h => by
  by_cases z : Bk D C a
  · exact x.al a z
  · cases q : H a with
    | none => exact absurd q (k.al a h)
    | some o => rw [x.kp a o z q]; simp⟩
theorem Dk.free {p : Addr} (k : Dk B H D C t) (x : Xt B H1 H) (n : H p = none) : H1 p = none := by
  cases q : H1 p with
  | none => rfl
  | some o =>
    have := x.kp p o (k.al.new n) q
    rw [n] at this
    cases this
/-- .. with one more place that data avoid -/
theorem Dk.grow {p : Addr} (k : Dk B H D C t) (h : H p ≠ none) : Dk (Bp B p) H D C t :=
  ⟨.inl k.bD, .inl k.bC, fun a z => z.elim (k.al a) fun e => e ▸ h, k.ne, k.nn, k.ex⟩
theorem Dk.less {B' : Addr → Prop} (k : Dk B' H D C t) (g : ∀ a, B a → B' a) (bD : B D) (bC : B C) : Dk B H D C t :=
  ⟨bD, bC, fun a z => k.al a (g a z), k.ne, k.nn, k.ex⟩
def Lim : Int := 1000000000000
/-- te gives some data of Φ, with at most n draws -/
def Ef (K : PySem.W.Frag) (B : Addr → Prop) (D C : Addr) (n : Int) (te : TE) (σ : L2.St) (H : Hp) (Φ : PyData → Prop) : Prop :=
  ∀ H1 t, Xt B H H1 → Dk B H1 D C t → t + n ≤ Lim → ∀ Q : VK,
    (∀ v d H2 t', Xt (Bk D C) H1 H2 → Dk B H2 D C t' → t' ≤ t + n → Φ d → Rp K B H2 d v → Q v H2) → te σ H1 Q
def EfA (K : PySem.W.Frag) (B : Addr → Prop) (D C : Addr) (n : Int) (tx : TA) (σ : L2.St) (H : Hp) (Φ : List PyData → Prop) : Prop :=
  ∀ H1 t, Xt B H H1 → Dk B H1 D C t → t + n ≤ Lim → ∀ Q : List V → Hp → Prop,
    (∀ vs ds H2 t', Xt (Bk D C) H1 H2 → Dk B H2 D C t' → t' ≤ t + n → Φ ds → RpA K B H2 ds vs → Q vs H2) → tx σ H1 Q
def EfT (B : Addr → Prop) (D C : Addr) (n : Int) (tt : TT) (σ : L2.St) (H : Hp) (Φ : Bool → Prop) : Prop :=
  ∀ H1 t, Xt B H H1 → Dk B H1 D C t → t + n ≤ Lim → ∀ Q : Bool → Hp → Prop,
    (∀ b H2 t', Xt (Bk D C) H1 H2 → Dk B H2 D C t' → t' ≤ t + n → Φ b → Q b H2) → tt σ H1 Q
/-- a promise of a def whose first argument is the deck -/
def spE (K : PySem.W.Frag) (n : Int) (Pre : List PyData → Prop) (P : List PyData → PyData → Prop) : Sp := fun vs H Q _ =>
  ∃ B D C t ds ws, vs = .ref D :: ws ∧ Dk B H D C t ∧ t + n ≤ Lim ∧ RpA K B H ds ws ∧ Pre ds ∧
    ∀ v d H' t', Xt (Bk D C) H H' → Dk B H' D C t' → t' ≤ t + n → P ds d → Rp K B H' d v → Q v H'
theorem Dn.ef (h : Dn K B te σ H d) : Ef K B D C 0 te σ H (fun z => z = d) := fun H1 t x k hl Q q =>
  h H1 x Q fun v H2 e r => q v d H2 t (k.xt e) (k.same e) (by omega) rfl r
theorem DnA.ef (h : DnA K B tx σ H ds) : EfA K B D C 0 tx σ H (fun z => z = ds) := fun H1 t x k hl Q q =>
  h H1 x Q fun v H2 e r => q v ds H2 t (k.xt e) (k.same e) (by omega) rfl r
theorem Ef.weak (h : Ef K B D C n te σ H Φ) (e : ∀ d, Φ d → Ψ d) (hn : n ≤ m) : Ef K B D C m te σ H Ψ := fun H1 t x k hl Q q =>
  h H1 t x k (by omega) Q fun v d H2 t' x2 k2 h2 p r => q v d H2 t' x2 k2 (by omega) (e d p) r
theorem Ef.to (h : Ef K B D C n te σ H Φ) (e : ∀ d, Φ d → Ψ d) : Ef K B D C n te σ H Ψ := h.weak e (Int.le_refl n)
theorem EfA.weak (h : EfA K B D C n tx σ H Φs) (e : ∀ d, Φs d → Ψs d) (hn : n ≤ m) : EfA K B D C m tx σ H Ψs := fun H1 t x k hl Q q =>
  h H1 t x k (by omega) Q fun v d H2 t' x2 k2 h2 p r => q v d H2 t' x2 k2 (by omega) (e d p) r
theorem Ef.up (h : Ef K B D C n te σ H Φ) (x : Xt B H H1) : Ef K B D C n te σ H1 Φ := fun H2 t y k hl Q q => h H2 t (x.trans y) k hl Q q
theorem ef_op (ha : Ef K B D C n ta σ H Φ) (hb : Ef K B D C m tb σ H Ψ) (hr : ∀ a b, Φ a → Ψ b → ∃ c, Θ c ∧ RvD K B r a b c) (hm : 0 ≤ m) :
    Ef K B D C (n + m) (tOp r ta tb) σ H Θ := fun H1 t x k hl Q q =>
  ha H1 t x k (by omega) _ fun v a H2 t2 x2 k2 l2 pa ra => hb H2 t2 (x.trans (k.wd x2)) k2 (by omega) _ fun w b H3 t3 x3 k3 l3 pb rb => by
    obtain ⟨c, pc, rc⟩ := hr a b pa pb
    exact rc H3 v w k3.al (ra.up (k2.wd x3)) rb Q fun z H4 e4 r4 => q z c H4 t3 (x2.trans (x3.same e4)) (k3.same e4) (by omega) pc r4
theorem ef_un {r : V → Hp → VK → Prop} (ha : Ef K B D C n ta σ H Φ) (hr : ∀ a, Φ a → ∃ c, Θ c ∧ RuD K B r a c) : Ef K B D C n (tUn r ta) σ H Θ :=
  fun H1 t x k hl Q q => ha H1 t x k hl _ fun v a H2 t2 x2 k2 l2 pa ra => by
    obtain ⟨c, pc, rc⟩ := hr a pa
    exact rc H2 v k2.al ra Q fun z H4 e4 r4 => q z c H4 t2 (x2.same e4) (k2.same e4) l2 pc r4
theorem ea_nil : EfA K B D C 0 tNil σ H (fun ds => ds = []) := fun H1 t x k hl Q q => q [] [] H1 t (Xt.refl k.alk) k (by omega) rfl RpA.nil
theorem ea_cons (ha : Ef K B D C n te σ H Φ) (hb : EfA K B D C m tx σ H Ψs) (hm : 0 ≤ m) : EfA K B D C (n + m) (tCons te tx) σ H (fun ds => ∃ d r, ds = d :: r ∧ Φ d ∧ Ψs r) :=
  fun H1 t x k hl Q q => ha H1 t x k (by omega) _ fun v a H2 t2 x2 k2 l2 pa ra => hb H2 t2 (x.trans (k.wd x2)) k2 (by omega) _ fun ws ds H3 t3 x3 k3 l3 pb rb =>
    q (v :: ws) (a :: ds) H3 t3 (x2.trans x3) k3 (by omega) ⟨a, ds, rfl, pa, pb⟩ (.cons (ra.up (k2.wd x3)) rb)
theorem ef_tup (h : EfA K B D C n tx σ H Φs) (z : ∀ ds, Φs ds → ds.length ≤ 100000) : Ef K B D C n (tTup tx) σ H (fun d => ∃ ds, d = .tuple ds ∧ Φs ds) :=
  fun H1 t x k hl Q q => h H1 t x k hl _ fun ws ds H2 t2 x2 k2 l2 pa ra => ⟨by rw [← ra.length]; exact Nat.le_trans (z ds pa) (by decide), fun p np =>
    q (.ref p) _ _ t2 (x2.same (same_new np)) (k2.same (same_new np)) l2 ⟨ds, rfl, pa⟩
      (rp_tup.mpr ⟨p, ws, rfl, .inl (k2.al.new np), SqT.of upd_same, ra.up (Xt.of k2.al (same_new np))⟩)⟩
theorem ef_lst (h : EfA K B D C n tx σ H Φs) (z : ∀ ds, Φs ds → ds.length ≤ 100000) : Ef K B D C n (tLst tx) σ H (fun d => ∃ ds, d = .list ds ∧ Φs ds) :=
  fun H1 t x k hl Q q => h H1 t x k hl _ fun ws ds H2 t2 x2 k2 l2 pa ra => ⟨by rw [← ra.length]; exact Nat.le_trans (z ds pa) (by decide), fun p np =>
    q (.ref p) _ _ t2 (x2.same (same_new np)) (k2.same (same_new np)) l2 ⟨ds, rfl, pa⟩
      (rp_lst.mpr ⟨p, ws, rfl, k2.al.new np, upd_same, ra.up (Xt.of k2.al (same_new np))⟩)⟩
theorem ef_cb {r : List V → Hp → VK → Prop} (h : EfA K B D C n tx σ H Φs) (hr : ∀ ds, Φs ds → ∃ c, Θ c ∧ RcD K B r ds c) : Ef K B D C n (tCB r tx) σ H Θ :=
  fun H1 t x k hl Q q => h H1 t x k hl _ fun ws ds H2 t2 x2 k2 l2 pa ra => by
    obtain ⟨c, pc, rc⟩ := hr ds pa
    exact rc H2 ws k2.al ra Q fun z H4 e4 r4 => q z c H4 t2 (x2.same e4) (k2.same e4) l2 pc r4
theorem ef_call {P : List PyData → PyData → Prop} {E : XK} (h : EfA K B D C n tx σ H Φs) (hp : ∀ ds, Φs ds → ∃ c, P ds c ∧ Θ c) :
    Ef K B D C n (tCall (spP K P) [] E tx) σ H Θ := fun H1 t x k hl Q q => h H1 t x k hl _ fun ws ds H2 t2 x2 k2 l2 pa ra => by
    obtain ⟨c, pc, tc⟩ := hp ds pa
    refine ⟨B, ds, c, k2.al, by rw [List.append_nil]; exact ra, pc, fun v H' e r => ?_⟩
    exact q v c H' t2 (x2.same e) (k2.same e) l2 tc r
/-- a def that draws -/
theorem ef_callE {i : Nat} {Pre : List PyData → Prop} {P : List PyData → PyData → Prop} {E : XK} (hs : σ[i]? = some (some (.ref D))) (h : EfA K B D C m tx σ H Φs)
    (hp : ∀ ds, Φs ds → Pre ds ∧ ∀ c, P ds c → Θ c) (hn : 0 ≤ n) : Ef K B D C (m + n) (tCall (spE K n Pre P) [] E (tCons (tVar i) tx)) σ H Θ :=
  fun H1 t x k hl Q q => ⟨.ref D, hs, h H1 t x k (by omega) _ fun ws ds H2 t2 x2 k2 l2 pa ra => by
    obtain ⟨p1, p2⟩ := hp ds pa
    refine ⟨B, D, C, t2, ds, ws, by rw [List.append_nil], k2, by omega, ra, p1, fun v d H' t' x3 k3 l3 pd rd => ?_⟩
    exact q v d H' t' (x2.trans x3) k3 (by omega) (p2 d pd) rd⟩
theorem et_test {Θ : Bool → Prop} (h : Ef K B D C n te σ H Φ) (hr : ∀ d, Φ d → ∃ b, d = .bool b ∧ Θ b) : EfT B D C n (tTest te) σ H Θ := fun H1 t x k hl Q q =>
  h H1 t x k hl _ fun v d H2 t2 x2 k2 l2 pa ra => by
    obtain ⟨b, rfl, pb⟩ := hr d pa
    exact ⟨b, rp_bl.mp ra, q b H2 t2 x2 k2 l2 pb⟩
theorem et_B {Θ : Bool → Prop} (h : Ef K B D C n te σ H Φ) (hr : ∀ d, Φ d → ∃ b, d = .bool b ∧ Θ b) : EfT B D C n (tB te) σ H Θ := fun H1 t x k hl Q q =>
  h H1 t x k hl _ fun v d H2 t2 x2 k2 l2 pa ra => by
    obtain ⟨b, rfl, pb⟩ := hr d pa
    exact ⟨b, rp_bl.mp ra, q b H2 t2 x2 k2 l2 pb⟩
end
/-- where a def of the text stands -/
structure Has (K : PySem.W.Frag) (mg : Str → Option Value) (x : Str) (st : Stmt) (ps : List Str) (f : Addr) (fd : FuncData) : Prop where
  F : Fun K x x st f fd
  m : mg x = some (.ref f)
  b : Binds K fd ps []
/-- the promise of a draw -/
def PreDraw (ds : List PyData) : Prop := ∃ n : Int, ds = [.int n] ∧ 0 < n ∧ n < 1073741824
def PDraw (ds : List PyData) (d : PyData) : Prop := ∃ n r : Int, ds = [.int n] ∧ d = .int r ∧ 0 ≤ r ∧ r < n
def spDraw (K : PySem.W.Frag) : Sp := spE K 1 PreDraw PDraw
def spDeck (K : PySem.W.Frag) : Sp := fun vs H Q _ => ∃ (a : Addr) (ns : List Int), vs = [.ref a] ∧ SqL K H a (ns.map V.int) ∧
  ∀ D C H', Same H H' → H D = none → H C = none → Dk (fun a => a = D ∨ a = C) H' D C 0 → Q (.ref D) H'
def PSame (ds : List PyData) (d : PyData) : Prop := ∃ a b, ds = [a, b] ∧ Shw a ∧ Shw b ∧ d = .bool (decide (a.shown = b.shown))
section
variable {K : PySem.W.Frag} {B : Addr → Prop} {D C : Addr} {H H1 H2 : Hp} {t n : Int} {σ : L2.St}
/-- _law_draw(deck, n), n written or computed -/
theorem ef_draw {i : Nat} {E : XK} {tx : TA} {Φs : List PyData → Prop} {m : Int} (hs : σ[i]? = some (some (.ref D))) (h : EfA K B D C m tx σ H Φs) (hp : ∀ ds, Φs ds → PreDraw ds) :
    Ef K B D C (m + 1) (tCall (spDraw K) [] E (tCons (tVar i) tx)) σ H (fun d => ∃ ds n r, Φs ds ∧ ds = [.int n] ∧ d = .int r ∧ 0 ≤ r ∧ r < n) :=
  fun H1 t x k hl Q q => ⟨.ref D, hs, h H1 t x k (by omega) _ fun ws ds H2 t2 x2 k2 l2 pa ra => by
    refine ⟨B, D, C, t2, ds, ws, by rw [List.append_nil], k2, by omega, ra, hp ds pa, fun v d H' t' x3 k3 l3 pd rd => ?_⟩
    obtain ⟨n, r, e, pd⟩ := pd
    exact q v d H' t' (x2.trans x3) k3 (by omega) ⟨ds, n, r, pa, e, pd⟩ rd⟩
theorem ef_drawN {i : Nat} {E : XK} (hs : σ[i]? = some (some (.ref D))) (h0 : 0 < n) (h1 : n < 1073741824) :
    Ef K B D C 1 (tCall (spDraw K) [] E (tCons (tVar i) (tCons (tC (.int n)) tNil))) σ H (fun d => ∃ r, d = .int r ∧ 0 ≤ r ∧ r < n) := by
  have a : EfA K B D C 0 (tCons (tC (.int n)) tNil) σ H (fun z => z = [.int n]) := (da_cons dn_int da_nil).ef
  have b := ef_draw (E := E) hs a fun ds e => ⟨n, e, h0, h1⟩
  refine b.weak (fun d p => ?_) (by omega)
  obtain ⟨ds, n', r, e1, e2, p⟩ := p
  subst e1
  simp only [List.cons.injEq, PyData.int.injEq, and_true] at e2
  subst e2
  exact ⟨r, p⟩
end
end CG
namespace CG
open PySem PySem.Spec PyProof.Rows L2
/-- the built-in names are still the built-in ones -/
structure Bz (mg : Str → Option Value) : Prop where
  z_len : mg "len" = none
  z_abs : mg "abs" = none
  z_range : mg "range" = none
  z_repr : mg "repr" = none
  z_min : mg "min" = none
  z_max : mg "max" = none
  z_int : mg "int" = none
  z_tuple : mg "tuple" = none
  z_list : mg "list" = none
  z_bool : mg "bool" = none
  z_isinstance : mg "isinstance" = none
  z_enumerate : mg "enumerate" = none
end CG

/-! Part 5: comprehensions. -/
namespace CG
open PySem PySem.Spec PyProof.Rows L2
section
variable {K : PySem.W.Frag} {B : Addr → Prop} {D C : Addr} {H H1 H2 : Hp} {t c : Int} {σ : L2.St} {te ta tb : TE} {tx : TA} {j n : Nat}
theorem wipe1 {v : V} : wipe ((wipe σ [j]).set j (some v)) [j] = wipe σ [j] := by
  show ((σ.set j none).set j (some v)).set j none = σ.set j none
  rw [List.set_set, List.set_set]
/-- [e for x in range(n)], with draws -/
theorem ef_lcR {Φ : Nat → PyData → Prop} (hx : DnA K B tx σ H [.int n]) (hn : n ≤ 1000) (hc : 0 ≤ c)
    (he : ∀ B', Gw B B' H → ∀ i, i < n → Ef K B' D C c te ((σ.set j none).set j (some (.int (0 + i)))) H (Φ i)) :
    Ef K B D C (n * c) (tLc (iRng1 tx) (gName j) tYes te [j]) σ H (fun d => ∃ ds, d = .list ds ∧ ds.length = n ∧ ∀ i d, ds[i]? = some d → Φ i d) := by
  intro H1 t x k hl Q q
  refine hx H1 x _ fun vs H2 e2 r2 => ?_
  obtain rfl : vs = [.int n] := RpA.ints_inv (ns := [(n : Int)]) r2
  refine ⟨n, rfl, by omega, by omega, fun L nL => ?_⟩
  have k2 := k.same e2
  have x2 := k.xt e2
  have xH : Xt B H H2 := x.trans (k.wd x2)
  have nLH : H L = none := k2.free xH nL
  have nLB : ¬ B L := k2.al.new nL
  have gw : Gw B (Bp B L) H := gw_new nLH
  refine lc_range (lo := 0) (n := n) (fun i H' => ∃ (t' : Int) (ds : List PyData) (vs : List V), Xt (Bk D C) H2 H' ∧ Dk (Bp B L) H' D C t' ∧ t' ≤ t + i * c ∧ H' L = some (.lst vs) ∧
      RpA K (Bp B L) H' ds vs ∧ ds.length = i ∧ ∀ i d, ds[i]? = some d → Φ i d) ?_ ?_ ?_
  · refine ⟨t, [], [], k2.xt (same_new nL), (k2.same (same_new nL)).grow (by rw [upd_same]; simp), by simp, upd_same, RpA.nil, rfl, fun i d h => by simp at h⟩
  · rintro i H' hi ⟨t', ds, vs, x', k', l', hL, ra, hlen, hΦ⟩
    refine ⟨wipe1, ?_⟩
    have xx : Xt (Bp B L) H H' := by
      have y := xH.trans (k2.wd x')
      exact ⟨fun a o nb e => y.kp a o (fun z => nb (.inl z)) e, k'.al⟩
    have bud : t' + c ≤ Lim := by
      have h1 : (i : Int) * c + c ≤ n * c := by
        have : ((i : Int) + 1) * c ≤ n * c := Int.mul_le_mul_of_nonneg_right (by omega) hc
        rw [Int.add_mul, Int.one_mul] at this
        exact this
      omega
    refine he (Bp B L) gw i hi H' t' xx k' bud _ fun v d H3 t3 x3 k3 l3 pd rd => ?_
    have nLk : ¬ Bk D C L := fun z => nLB (z.elim (fun w => w ▸ k2.bD) fun w => w ▸ k2.bC)
    have hL3 : H3 L = some (.lst vs) := x3.kp _ _ nLk hL
    have ra3 := ra.up (k'.wd x3)
    -- the list grows
    have sm : ∀ a o, ¬ Bp B L a → H3 a = some o → (upd H3 L (.lst (vs ++ [v]))) a = some o := fun a o nb e => by
      rw [upd_ne (fun z => nb (.inr z))]
      exact e
    have al4 : Al (Bp B L) (upd H3 L (.lst (vs ++ [v]))) := fun a h => by
      by_cases z : a = L
      · rw [z, upd_same]; simp
      · rw [upd_ne z]
        exact k3.al a h
    have x4 : Xt (Bp B L) H3 (upd H3 L (.lst (vs ++ [v]))) := ⟨sm, al4⟩
    have lv : vs.length = i := by rw [← ra.length, hlen]
    have neD : D ≠ L := fun z => nLB (z ▸ k2.bD)
    have neC : C ≠ L := fun z => nLB (z ▸ k2.bC)
    refine ⟨vs, hL3, Nat.lt_of_lt_of_le (show vs.length < 1001 by omega) (by decide), t3, ds ++ [d], vs ++ [v], ⟨fun a o nb e => ?_, fun a h => ?_⟩, ?_, ?_, upd_same, ?_, ?_, ?_⟩
    · by_cases z : a = L
      · subst z
        rw [nL] at e
        cases e
      · rw [upd_ne z]
        exact x3.kp a o nb (x'.kp a o nb e)
    · exact al4 a (h.elim (fun w => .inl (w ▸ k2.bD)) fun w => .inl (w ▸ k2.bC))
    · obtain ⟨bD, bC, al, ne, nn, cs, h1, h2, h3⟩ := k3
      exact ⟨bD, bC, al4, ne, nn, cs, by rw [upd_ne neD]; exact h1, by rw [upd_ne neC]; exact h2, h3⟩
    · have : ((i + 1 : Nat) : Int) * c = i * c + c := by
        rw [Int.natCast_add, Int.add_mul]
        simp
      rw [this]
      omega
    · exact RpA.append (ra3.up x4) (.cons (rd.up x4) .nil)
    · rw [List.length_append, hlen]
      rfl
    · intro m e h
      by_cases z : m < ds.length
      · rw [List.getElem?_append_left z] at h
        exact hΦ m e h
      · rw [List.getElem?_append_right (by omega)] at h
        have e0 : m - ds.length = 0 := by
          cases w : m - ds.length with
          | zero => rfl
          | succ u => rw [w] at h; simp at h
        rw [e0] at h
        simp only [List.getElem?_cons_zero, Option.some.injEq] at h
        subst h
        have : m = i := by omega
        rw [this]
        exact pd
  · rintro H' ⟨t', ds, vs, x', k', l', hL, ra, hlen, hΦ⟩
    have kB := k'.less bp_up k2.bD k2.bC
    exact q (.ref L) (.list ds) H' t' (x2.trans x') kB l' ⟨ds, rfl, hlen, hΦ⟩ (rp_lst.mpr ⟨L, vs, rfl, nLB, hL, RpA.less bp_up ds vs ra⟩)
/-! statements that draw -/
variable {Φ : PyData → Prop} {Dd : Ends} {m : Int} {tt : TT} {ts tu : TS} {Θ : Bool → Prop} {i : Nat}
theorem se_ret (h : Ef K B D C m te σ H Φ) (x : Xt B H H1) (k : Dk B H1 D C t) (hl : t + m ≤ Lim)
    (q : ∀ v d H2 t', Xt (Bk D C) H1 H2 → Dk B H2 D C t' → t' ≤ t + m → Φ d → Rp K B H2 d v → Dd.rt v H2) : tRet te Dd σ H1 := h H1 t x k hl _ q
theorem se_set (h : Ef K B D C m te σ H Φ) (x : Xt B H H1) (k : Dk B H1 D C t) (hl : t + m ≤ Lim)
    (q : ∀ v d H2 t', Xt (Bk D C) H1 H2 → Dk B H2 D C t' → t' ≤ t + m → Φ d → Rp K B H2 d v → Dd.nx (σ.set i (some v)) H2) : tAsg te (gName i) Dd σ H1 := h H1 t x k hl _ q
theorem se_expr (h : Ef K B D C m te σ H Φ) (x : Xt B H H1) (k : Dk B H1 D C t) (hl : t + m ≤ Lim)
    (q : ∀ v d H2 t', Xt (Bk D C) H1 H2 → Dk B H2 D C t' → t' ≤ t + m → Φ d → Rp K B H2 d v → Dd.nx σ H2) : tDrop te Dd σ H1 := h H1 t x k hl _ q
theorem se_if (h : EfT B D C m tt σ H Θ) (x : Xt B H H1) (k : Dk B H1 D C t) (hl : t + m ≤ Lim)
    (q1 : ∀ H2 t', Xt (Bk D C) H1 H2 → Dk B H2 D C t' → t' ≤ t + m → Θ true → ts Dd σ H2)
    (q2 : ∀ H2 t', Xt (Bk D C) H1 H2 → Dk B H2 D C t' → t' ≤ t + m → Θ false → tu Dd σ H2) : tIfS tt ts tu Dd σ H1 :=
  h H1 t x k hl _ fun b H2 t' x2 k2 l2 p => by
    cases b with
    | true => exact (if_pos rfl).mpr (q1 H2 t' x2 k2 l2 p)
    | false => exact (if_neg (by decide)).mpr (q2 H2 t' x2 k2 l2 p)
theorem se_par {i j : Nat} {Φs : List PyData → Prop} (h : EfA K B D C m tx σ H Φs) (hp : ∀ ds, Φs ds → ds.length = 2) (x : Xt B H H1) (k : Dk B H1 D C t) (hl : t + m ≤ Lim)
    (q : ∀ v w a b H2 t', Xt (Bk D C) H1 H2 → Dk B H2 D C t' → t' ≤ t + m → Φs [a, b] → Rp K B H2 a v → Rp K B H2 b w → Dd.nx ((σ.set i (some v)).set j (some w)) H2) :
    tPar i j tx Dd σ H1 := h H1 t x k hl _ fun vs ds H2 t' x2 k2 l2 p r => by
  have e := hp ds p
  match ds, e with
  | [a, b], _ =>
    obtain ⟨v, r1, rfl, h1, h2⟩ := rpa_cons.mp r
    obtain ⟨w, r2, rfl, h3, h4⟩ := rpa_cons.mp h2
    obtain rfl := rpa_nil.mp h4
    exact ⟨v, w, rfl, q v w a b H2 t' x2 k2 l2 p h1 h3⟩
/-- a, b = e, .. : the first one draws -/
theorem se_par1 {i j : Nat} (h : Ef K B D C m te σ H Φ) (x : Xt B H H1) (k : Dk B H1 D C t) (hl : t + m ≤ Lim)
    (q : ∀ v d H2 t', Xt (Bk D C) H1 H2 → Dk B H2 D C t' → t' ≤ t + m → Φ d → Rp K B H2 d v →
      tx σ H2 fun xs H3 => ∃ v' w, v :: xs = [v', w] ∧ Dd.nx ((σ.set i (some v')).set j (some w)) H3) : tPar i j (tCons te tx) Dd σ H1 := h H1 t x k hl _ q
end
end CG

/-! Part 6: counters and boards as data; further built-in calls; a list of one's own that grows. -/
namespace CG
open PySem PySem.Spec PyProof.Rows L2
structure Ctr where
  s : Int
  t : Int
  g : Int
  e : Int
def Ctr.d (c : Ctr) : PyData := .tuple [.int c.s, .int c.t, .int c.g, .int c.e]
structure Ctr.Ok (n : Int) (c : Ctr) : Prop where
  s0 : 0 ≤ c.s
  s1 : c.s < n
  t0 : 0 ≤ c.t
  t1 : c.t < n
  ne : c.s ≠ c.t
  g0 : 1 ≤ c.g
  g1 : c.g ≤ 5
  e0 : 1 ≤ c.e
  e1 : c.e ≤ 5
def rowsD (cs : List Ctr) : PyData := .tuple (cs.map Ctr.d)
def boardD (n : Int) (cs : List Ctr) : PyData := .tuple [.int n, rowsD cs]
/-- a drawn counter -/
def IsCtr (n : Int) (d : PyData) : Prop := ∃ c : Ctr, d = c.d ∧ c.Ok n
def IsBoard (most many : Int) (d : PyData) : Prop := ∃ (n : Int) (cs : List Ctr), d = boardD n cs ∧ 1 ≤ n ∧ n ≤ most ∧ (cs.length : Int) ≤ many ∧ ∀ c ∈ cs, c.Ok n
def PreCtr (ds : List PyData) : Prop := ∃ n : Int, ds = [.int n] ∧ 2 ≤ n ∧ n ≤ 4
def PCtr (ds : List PyData) (d : PyData) : Prop := ∃ n : Int, ds = [.int n] ∧ IsCtr n d
def PreBoard (ds : List PyData) : Prop := ∃ a b : Int, ds = [.int a, .int b] ∧ 1 ≤ a ∧ a ≤ 4 ∧ 0 ≤ b ∧ b ≤ 100
def PBoard (ds : List PyData) (d : PyData) : Prop := ∃ a b : Int, ds = [.int a, .int b] ∧ IsBoard a b d
theorem step_ne {s p n : Int} (h1 : 0 ≤ s) (h2 : s < n) (h3 : 1 ≤ p) (h4 : p < n) (h5 : n ≤ 4) : s ≠ (s + p) % n := by
  have c : n = 2 ∨ n = 3 ∨ n = 4 := by omega
  rcases c with rfl | rfl | rfl <;> omega
theorem sm_ctr {n : Int} {c : Ctr} (h : c.Ok n) (hn : n ≤ 100) : Sm 1 900 c.d := by
  refine (sm_tup (n := 0) (m := 202) (ds := [.int c.s, .int c.t, .int c.g, .int c.e]) fun d hd => ?_).mono (by decide) (by show 4 * 202 + 2 * 4 + 3 ≤ 900; decide)
  obtain ⟨h1, h2, h3, h4, _, h5, h6, h7, h8⟩ := h
  simp only [List.mem_cons, List.not_mem_nil, or_false] at hd
  rcases hd with rfl | rfl | rfl | rfl <;> exact sm_int (by omega)
theorem sm_rows {n : Int} {cs : List Ctr} (h : ∀ c ∈ cs, c.Ok n) (hn : n ≤ 100) (hl : cs.length ≤ 100) : Sm 2 100000 (rowsD cs) := by
  refine (sm_tup (n := 1) (m := 900) (ds := cs.map Ctr.d) fun d hd => ?_).mono (by decide) (by rw [List.length_map]; omega)
  obtain ⟨c, hc, rfl⟩ := List.mem_map.mp hd
  exact sm_ctr (h c hc) hn
theorem sm_board {n : Int} {cs : List Ctr} (h : ∀ c ∈ cs, c.Ok n) (hn0 : 0 ≤ n) (hn : n ≤ 100) (hl : cs.length ≤ 100) : Sm 3 200020 (boardD n cs) := by
  refine (sm_tup (n := 2) (m := 100000) (ds := [.int n, rowsD cs]) fun d hd => ?_).mono (by decide) (by show 2 * 100000 + 2 * 2 + 3 ≤ 200020; decide)
  simp only [List.mem_cons, List.not_mem_nil, or_false] at hd
  rcases hd with rfl | rfl
  · exact (sm_int (by omega)).mono (by decide) (by decide)
  · exact sm_rows h hn hl
/-! built-in types called -/
theorem boot_intU : bootBuiltins "int" = some (.type "int") := by decide +kernel
theorem boot_tupleU : bootBuiltins "tuple" = some (.type "tuple") := by decide +kernel
theorem boot_listU : bootBuiltins "list" = some (.type "list") := by decide +kernel
theorem boot_boolU : bootBuiltins "bool" = some (.type "bool") := by decide +kernel
def rIntU : List V → Hp → VK → Prop := fun xs H Q => (∃ i, xs = [.int i] ∧ Q (.int i) H) ∨ ∃ k, xs = [.bl k] ∧ Q (.int (if k then 1 else 0)) H
theorem call_intU {X : Cx} : CallR X (.type "int") rIntU := call_int1
def rTupU (K : PySem.W.Frag) : List V → Hp → VK → Prop := fun xs H Q => ∃ p ys, xs = [.ref p] ∧ ((SqL K H p ys ∧ ∀ l, H l = none → Q (.ref l) (upd H l (.tup ys))) ∨ (SqT K H p ys ∧ Q (.ref p) H))
theorem call_tupU {X : Cx} : CallR X (.type "tuple") (rTupU X.K) := call_tuple_of
def rLstU (K : PySem.W.Frag) : List V → Hp → VK → Prop := fun xs H Q => ∃ p ys, xs = [.ref p] ∧ (SqL K H p ys ∨ SqT K H p ys) ∧ ∀ l, H l = none → Q (.ref l) (upd H l (.lst ys))
theorem call_lstU {X : Cx} : CallR X (.type "list") (rLstU X.K) := call_list_of
section
variable {K : PySem.W.Frag} {B : Addr → Prop} {D C L : Addr} {H H1 H2 : Hp} {t : Int} {σ : L2.St} {ds : List PyData} {d : PyData}
theorem rpa_one {x : V} {xs : List V} (h : RpA K B H [d] xs) : ∃ x, xs = [x] ∧ Rp K B H d x := by
  obtain ⟨y, r, rfl, h1, h2⟩ := rpa_cons.mp h
  obtain rfl := rpa_nil.mp h2
  exact ⟨y, rfl, h1⟩
theorem rc_intB {b : Bool} : RcD K B rIntU [.bool b] (.int (if b then 1 else 0)) := fun H1 xs al h Q q => by
  obtain ⟨y, r, rfl, h1, h2⟩ := rpa_cons.mp h
  obtain rfl := rpa_nil.mp h2
  rw [rp_bl.mp h1]
  exact .inr ⟨b, rfl, q _ H1 (Same.refl H1) (rp_int.mpr rfl)⟩
theorem rc_tupL : RcD K B (rTupU K) [.list ds] (.tuple ds) := fun H1 xs al h Q q => by
  obtain ⟨y, r, rfl, h1, h2⟩ := rpa_cons.mp h
  obtain rfl := rpa_nil.mp h2
  obtain ⟨a, ys, rfl, na, s, t⟩ := rp_lst.mp h1
  refine ⟨a, ys, rfl, .inl ⟨SqL.of s, fun l nl => ?_⟩⟩
  exact q _ _ (same_new nl) (rp_tup.mpr ⟨l, ys, rfl, .inl (al.new nl), SqT.of upd_same, t.up (Xt.of al (same_new nl))⟩)
theorem rc_tupT : RcD K B (rTupU K) [.tuple ds] (.tuple ds) := fun H1 xs al h Q q => by
  obtain ⟨y, r, rfl, h1, h2⟩ := rpa_cons.mp h
  obtain rfl := rpa_nil.mp h2
  obtain ⟨a, ys, rfl, na, s, t⟩ := rp_tup.mp h1
  exact ⟨a, ys, rfl, .inr ⟨s, q _ H1 (Same.refl H1) h1⟩⟩
theorem rc_lstT : RcD K B (rLstU K) [.tuple ds] (.list ds) := fun H1 xs al h Q q => by
  obtain ⟨y, r, rfl, h1, h2⟩ := rpa_cons.mp h
  obtain rfl := rpa_nil.mp h2
  obtain ⟨a, ys, rfl, na, s, t⟩ := rp_tup.mp h1
  refine ⟨a, ys, rfl, .inr s, fun l nl => ?_⟩
  exact q _ _ (same_new nl) (rp_lst.mpr ⟨l, ys, rfl, al.new nl, upd_same, t.up (Xt.of al (same_new nl))⟩)
theorem rc_lstL : RcD K B (rLstU K) [.list ds] (.list ds) := fun H1 xs al h Q q => by
  obtain ⟨y, r, rfl, h1, h2⟩ := rpa_cons.mp h
  obtain rfl := rpa_nil.mp h2
  obtain ⟨a, ys, rfl, na, s, t⟩ := rp_lst.mp h1
  refine ⟨a, ys, rfl, .inl (SqL.of s), fun l nl => ?_⟩
  exact q _ _ (same_new nl) (rp_lst.mpr ⟨l, ys, rfl, al.new nl, upd_same, t.up (Xt.of al (same_new nl))⟩)
/-! a list of one's own at L is written -/
theorem Al.put {o : HO} (al : Al (Bp B L) H) : Al (Bp B L) (upd H L o) := fun a h => by
  by_cases z : a = L
  · rw [z, upd_same]; simp
  · rw [upd_ne z]
    exact al a h
theorem xt_put {o : HO} (al : Al (Bp B L) H) : Xt (Bp B L) H (upd H L o) := ⟨fun a o nb e => by
  rw [upd_ne (fun z => nb (.inr z))]
  exact e, al.put⟩
theorem Dk.put {o : HO} (k : Dk (Bp B L) H D C t) (nD : D ≠ L) (nC : C ≠ L) : Dk (Bp B L) (upd H L o) D C t := by
  obtain ⟨bD, bC, al, ne, nn, cs, h1, h2, h3⟩ := k
  exact ⟨bD, bC, al.put, ne, nn, cs, by rw [upd_ne nD]; exact h1, by rw [upd_ne nC]; exact h2, h3⟩
theorem xt_keep {o : HO} (x : Xt (Bk D C) H H1) (n : H L = none) (nD : D ≠ L) (nC : C ≠ L) : Xt (Bk D C) H (upd H1 L o) := ⟨fun a u nb e => by
  rw [upd_ne (ne_of_none e n)]
  exact x.kp a u nb e, fun a h => by
  have : a ≠ L := by
    rcases h with rfl | rfl
    · exact nD
    · exact nC
  rw [upd_ne this]
  exact x.al a h⟩
/-! ### loops -/
variable {te : TE} {tx : TA} {m : Int} {g : TG} {tb : TS} {Dd : Ends} {Φs : List PyData → Prop}
/-- for x in range(n), n drawn -/
theorem se_forR (h : EfA K B D C m tx σ H Φs) (hp : ∀ ds, Φs ds → ∃ n : Nat, ds = [.int n] ∧ n ≤ 1000000) (x : Xt B H H1) (k : Dk B H1 D C t) (hl : t + m ≤ Lim)
    (q : ∀ (n : Nat) H2 t', Xt (Bk D C) H1 H2 → Dk B H2 D C t' → t' ≤ t + m → Φs [.int n] → ∃ Pv : Nat → L2.St → Hp → Prop, Pv 0 σ H2 ∧
      (∀ i τ H', i < n → Pv i τ H' → g (.int (0 + i)) τ H' fun σ2 H3 => tb { Dd with nx := Pv (i + 1), ct := Pv (i + 1), bk := Dd.nx } σ2 H3) ∧ ∀ τ H', Pv n τ H' → Dd.nx τ H') :
    tFor (iRng1 tx) g tb Dd σ H1 := h H1 t x k hl _ fun vs ds H2 t2 x2 k2 l2 p r => by
  obtain ⟨n, rfl, hn⟩ := hp ds p
  obtain rfl : vs = [.int n] := RpA.ints_inv (ns := [(n : Int)]) r
  refine ⟨n, rfl, by omega, by omega, ?_⟩
  obtain ⟨Pv, h0, hs, hd⟩ := q n H2 t2 x2 k2 l2 p
  exact for_range (lo := 0) (n := n) Pv h0 hs hd
theorem sd_forR {n : Nat} (h : DnA K B tx σ H [.int n]) (hn : n ≤ 1000000) (x : Xt B H H1)
    (q : ∀ H2, Same H1 H2 → ∃ Pv : Nat → L2.St → Hp → Prop, Pv 0 σ H2 ∧
      (∀ i τ H', i < n → Pv i τ H' → g (.int (0 + i)) τ H' fun σ2 H3 => tb { Dd with nx := Pv (i + 1), ct := Pv (i + 1), bk := Dd.nx } σ2 H3) ∧ ∀ τ H', Pv n τ H' → Dd.nx τ H') :
    tFor (iRng1 tx) g tb Dd σ H1 := h H1 x _ fun vs H2 e2 r => by
  obtain rfl : vs = [.int n] := RpA.ints_inv (ns := [(n : Int)]) r
  refine ⟨n, rfl, by omega, by omega, ?_⟩
  obtain ⟨Pv, h0, hs, hd⟩ := q H2 e2
  exact for_range (lo := 0) (n := n) Pv h0 hs hd
/-- for x in a tuple -/
theorem sd_forT (h : Dn K B te σ H (.tuple ds)) (x : Xt B H H1)
    (q : ∀ H2, Same H1 H2 → ∃ Pv : Nat → L2.St → Hp → Prop, Pv 0 σ H2 ∧ (∀ i τ H', Pv i τ H' → Xt B H2 H') ∧
      (∀ i d v τ H', ds[i]? = some d → Rp K B H' d v → Pv i τ H' → g v τ H' fun σ2 H3 => tb { Dd with nx := Pv (i + 1), ct := Pv (i + 1), bk := Dd.nx } σ2 H3) ∧ ∀ τ H', Pv ds.length τ H' → Dd.nx τ H') :
    tFor (iTup K te) g tb Dd σ H1 := h H1 x _ fun v H2 e2 r => by
  obtain ⟨a, xs, rfl, na, s, t⟩ := rp_tup.mp r
  obtain ⟨Pv, h0, hx, hs, hd⟩ := q H2 e2
  have sq : ∀ i τ H', Pv i τ H' → SqT K H' a xs := fun i τ H' p => na.elim (fun na => (hx i τ H' p).sqT na s) .inr
  refine ⟨a, rfl, ⟨_, s⟩, for_tup (xs := xs) Pv h0 (fun i τ H' _ p => sq i τ H' p) (fun i y τ H' gy p => ?_) fun τ H' p => hd τ H' (by rw [t.length]; exact p)⟩
  obtain ⟨d, gd, rd⟩ := (t.up (hx i τ H' p)).back gy
  exact hs i d y τ H' gd rd p
/-- for x in a list -/
theorem sd_forL (h : Dn K B te σ H (.list ds)) (x : Xt B H H1)
    (q : ∀ H2, Same H1 H2 → ∃ Pv : Nat → L2.St → Hp → Prop, Pv 0 σ H2 ∧ (∀ i τ H', Pv i τ H' → Xt B H2 H') ∧
      (∀ i d v τ H', ds[i]? = some d → Rp K B H' d v → Pv i τ H' → g v τ H' fun σ2 H3 => tb { Dd with nx := Pv (i + 1), ct := Pv (i + 1), bk := Dd.nx } σ2 H3) ∧ ∀ τ H', Pv ds.length τ H' → Dd.nx τ H') :
    tFor (iList K te) g tb Dd σ H1 := h H1 x _ fun v H2 e2 r => by
  obtain ⟨a, xs, rfl, na, s, t⟩ := rp_lst.mp r
  obtain ⟨Pv, h0, hx, hs, hd⟩ := q H2 e2
  have sq : ∀ i τ H', Pv i τ H' → SqL K H' a xs := fun i τ H' p => SqL.of ((hx i τ H' p).kp _ _ na s)
  refine ⟨a, rfl, ⟨_, SqL.of s⟩, for_list (xs := xs) Pv h0 (fun i τ H' _ p => sq i τ H' p) (fun i y τ H' gy p => ?_) fun τ H' p => hd τ H' (by rw [t.length]; exact p)⟩
  obtain ⟨d, gd, rd⟩ := (t.up (hx i τ H' p)).back gy
  exact hs i d y τ H' gd rd p
/-- .. the list made with draws -/
theorem se_forL {Φ : PyData → Prop} (h : Ef K B D C m te σ H Φ) (x : Xt B H H1) (k : Dk B H1 D C t) (hl : t + m ≤ Lim) (hp : ∀ d, Φ d → ∃ ds, d = .list ds)
    (q : ∀ ds H2 t', Φ (.list ds) → Xt (Bk D C) H1 H2 → Dk B H2 D C t' → t' ≤ t + m → ∃ Pv : Nat → L2.St → Hp → Prop, Pv 0 σ H2 ∧ (∀ i τ H', Pv i τ H' → Xt B H2 H') ∧
      (∀ i d v τ H', ds[i]? = some d → Rp K B H' d v → Pv i τ H' → g v τ H' fun σ2 H3 => tb { Dd with nx := Pv (i + 1), ct := Pv (i + 1), bk := Dd.nx } σ2 H3) ∧ ∀ τ H', Pv ds.length τ H' → Dd.nx τ H') :
    tFor (iList K te) g tb Dd σ H1 := h H1 t x k hl _ fun v d H2 t2 x2 k2 l2 p r => by
  obtain ⟨ds, rfl⟩ := hp d p
  obtain ⟨a, xs, rfl, na, s, t⟩ := rp_lst.mp r
  obtain ⟨Pv, h0, hx, hs, hd⟩ := q ds H2 t2 p x2 k2 l2
  have sq : ∀ i τ H', Pv i τ H' → SqL K H' a xs := fun i τ H' p => SqL.of ((hx i τ H' p).kp _ _ na s)
  refine ⟨a, rfl, ⟨_, SqL.of s⟩, for_list (xs := xs) Pv h0 (fun i τ H' _ p => sq i τ H' p) (fun i y τ H' gy p => ?_) fun τ H' p => hd τ H' (by rw [t.length]; exact p)⟩
  obtain ⟨d, gd, rd⟩ := (t.up (hx i τ H' p)).back gy
  exact hs i d y τ H' gd rd p
end
end CG

/-! Part 7: errors of one's own, isinstance of a caught one; products of lists and tuples; comprehensions without draws. -/
namespace CG
open PySem PySem.Spec PyProof.Rows L2
section
variable {X : Cx} {C : Addr} {bmB : List Value} {B newId initId : String}
/-- X() of an own class without own __init__ -/
theorem pmk_own0 {x : Str} {p pos : Pos} (F : ExcBaseFacts B newId initId bmB) (q : PySem.W.excIn X.K C bmB newId = true) (gC : X.mg x = some (.ref C))
    (kC : PySem.W.keepIn X.K (.ref C) = true) (r : Raises X (.ref C)) (hg : Gl X x) (hdb : (x == ("__debug__" : Str)) = false := by decide) :
    PMk X (.Call (.Name x p) [] [] pos) (fun _ H Q => Q (.ref C) none H) := by
  intro pins s σ H Q I h
  refine wpAny_Call_Name_kw (ld_glob I hg gC ?_ hdb)
  refine PySem.W.callWith_K0 I.kIn kC ?_
  obtain ⟨bm, N, nm, qn, bs, hd, sn, sub, ab, col, dd, k0, k1, k2, k3, k5, mN, hC, hN, hni, T⟩ := exc_obj I.kIn q
  refine wpAny_call_exc_subT F T hC hN hni (fun h' e hm => ?_) (by show 0 ≤ sizeLine; omega)
  exact mk_of I hm r h (I.hok.gone hm.new)
end
/-- f(e, ..) where what is raised is wished for at the slots -/
theorem pe_callSG {X : Cx} {cx : CXT} {k : Nat} {f : Addr} {fd : FuncData} {ps : List Str} {sp : Sp} {E : L2.St → XK} {x : Str} {p pos : Pos} {e : Expr} {es : List Expr} {t : TA}
    (G : FnG X.prog X.w X.K X.mg X.base cx k f fd ps sp) (hgd : X.A.guards = some []) (hr : Room k X.A) (hg : Gl X x) (hm : X.mg x = some (.ref f))
    (hk : PySem.W.keepIn X.K (.ref f) = true) (hb : Binds X.K fd ps []) (hx : ∀ σ, PassesAt cx X σ (E σ)) (ha : PA X (e :: es) t)
    (hdb : (x == ("__debug__" : Str)) = false := by decide) (he : starEach (e :: es) X.env = (false, eval e X.env) :: starEach es X.env := by rfl)
    (hpl : (backTo pos (starEach es X.env)).any (·.1) = false := by rfl) : PE X (.Call (.Name x p) (e :: es) [] pos) (tCallS sp E t) := by
  refine ⟨fun pins s σ H Q I h => wpAny_Call_Name_kw (ld_glob I hg hm ?_ hdb)⟩
  refine PySem.W.callWith_K (h₀ := X.base) I.ok.mod.kin hk ?_ he hpl
  refine thn (ha.run pos pins s σ H _ I h) fun us s1 ⟨vs, H1, I1, r, q⟩ => ⟨I1.kIn, ?_⟩
  have hl : us.length = ps.length := by
    rw [← r.length]
    exact G.len _ _ _ _ q
  have b := hb s1 us I1.kIn (by rw [List.append_nil]; exact hl)
  rw [List.append_nil] at b
  refine wpAny_call (codeAny_mono (G.run X.A X.stack s1 H1 ⟨us, []⟩ us vs Q (E σ) hgd hr I1.env0 b r q) fun w s2 hq => ?_)
  cases w with
  | error er => exact hx σ pins H1 s1 er s2 I1 hq
  | ok fl =>
    cases fl with
    | ret u => exact I1.after hq
    | next => exact hq.elim
    | brk => exact hq.elim
    | cont => exact hq.elim
/-- isinstance(e, c), isinstance(e, (c1, ..)) in an except suite, e of the class cls -/
def rIsX (K : PySem.W.Frag) (cls : Value) (d : Option Addr) (a : Addr) : List V → Hp → VK → Prop := fun xs H Q => ∃ D : Addr, cls = .ref D ∧ d = none ∧ ExcC K D ∧
  ((∃ (c : Addr) (b : Bool), xs = [.ref a, .ref c] ∧ PySem.W.kitOne K (.ref D) (.ref c) = some b ∧ Q (.bl b) H) ∨
    ∃ (t : Addr) (cs : List Addr) (b : Bool), xs = [.ref a, .ref t] ∧ H t = some (.tup (cs.map V.ref)) ∧ PySem.W.kitAny K (.ref D) (cs.map Value.ref) = some b ∧ Q (.bl b) H)
theorem vals_refs : ∀ {cs : List Addr} {us : List Value}, Vals (cs.map V.ref) us → us = cs.map Value.ref
  | [], _, .nil => rfl
  | c :: cs, _, .cons r t => by
    rw [vals_refs t]
    obtain rfl := (show _ = Value.ref c from r)
    rfl
theorem call_isX {X : Cx} {a : Addr} {cls : Value} {d : Option Addr} {oe : Obj} {pn : List (Addr × Obj)} (hz : Zc cls d oe) (hf : ∃ vs, oe.data = .fields vs) :
    CallR (X.suite a ((a, oe) :: pn)) (.builtin "isinstance") (rIsX X.K cls d a) := by
  intro pins s σ H xs us Q I r h
  obtain ⟨D, rfl, rfl, C, h⟩ := h
  obtain ⟨hget, _⟩ := I.pin (a, oe) (List.mem_append.mpr (.inl List.mem_cons_self))
  obtain ⟨fs, hv⟩ := hf
  have J : PySem.W.InstAt s.heap a oe D none := by
    obtain ⟨oc, od, oda, osl⟩ := oe
    obtain ⟨h1, h2⟩ := hz
    dsimp only at h1 h2 hv
    subst h1 h2 hv
    exact ⟨hget, rfl, rfl, trivial⟩
  have Z := PySem.W.handS_kitx_exc (x := a) (ox := oe) C.hg C.hk C.hs C.hd C.ha C.hn C.ht C.hm
  rcases h with ⟨c, b, rfl, e, q⟩ | ⟨t, cs, b, rfl, hT, e, q⟩
  · obtain ⟨u1, u2, rfl, r1, r2⟩ := vals2 r
    obtain rfl := (show u1 = Value.ref a from r1)
    obtain rfl := (show u2 = Value.ref c from r2)
    exact PySem.W.kia_one Z I.kIn J e (fun z => nomatch z) fun tk => ⟨.bl b, H, I.kept (t' := tk) fun _ _ z => z, rfl, q⟩
  · obtain ⟨u1, u2, rfl, r1, r2⟩ := vals2 r
    obtain rfl := (show u1 = Value.ref a from r1)
    obtain rfl := (show u2 = Value.ref t from r2)
    obtain ⟨_, its, rv, o, h1, h2, n, h3⟩ := (show ObjOk X.prog X.w H s.heap t (.tup (cs.map V.ref)) from I.hok t _ hT)
    obtain rfl := vals_refs rv
    obtain ⟨oc, od, dt, sl⟩ := o
    simp only at h2 h3
    subst h2 h3
    exact PySem.W.kia_tup Z I.kIn J h1 e (fun z => nomatch z) fun tk => ⟨.bl b, H, I.kept (t' := tk) fun _ _ z => z, rfl, q⟩
theorem pe_ref {X : Cx} {x : Str} {C : Addr} {pos : Pos} (hg : Gl X x) (hm : X.mg x = some (.ref C)) (hdb : (x == ("__debug__" : Str)) = false := by decide) : PE X (.Name x pos) (tC (.ref C)) := pe_glob hg hm rfl hdb
/-- what the top says of an error class without own __init__ -/
structure XC (K : PySem.W.Frag) (mg : Str → Option Value) (x : Str) (C : Addr) : Prop where
  g : mg x = some (.ref C)
  q : PySem.W.excIn K C [.type "ValueError", .type "Exception", .type "BaseException", .type "object"] "ValueError.__new__" = true
  k : PySem.W.keepIn K (.ref C) = true
  s : PySem.W.subIn K (.ref C) (.type "BaseException") = some true
  t : PySem.W.typeIn K (.ref C) = some (.type "type")
  c : ExcC K C
/-- isinstance of one class against another one, by what the top says -/
theorem kit_ref {K : PySem.W.Frag} {C D : Addr} {b : Bool} (ne : C ≠ D) (hd : PySem.W.hasDictIn K D = true) (ht : PySem.W.typeIn K (.ref D) = some (.type "type"))
    (hs : PySem.W.subIn K (.ref C) (.ref D) = some b) : PySem.W.kitOne K (.ref C) (.ref D) = some b := by
  obtain ⟨cd, hc, _⟩ := PySem.W.any_some hd
  have e1 : ¬ ((Value.ref C == Value.ref D) = true) := fun z => ne (Value.ref.inj (beq_iff_eq.mp z))
  have e2 : ((PySem.W.clsIn K D).isSome && PySem.W.typeIn K (.ref D) == some (.type "type")) = true := by rw [hc, ht] <;> rfl
  unfold PySem.W.kitOne PySem.W.kitCls
  rw [if_neg e1]
  dsimp only
  rw [if_pos e2]
  exact hs
theorem kit_self {K : PySem.W.Frag} {C : Addr} : PySem.W.kitOne K (.ref C) (.ref C) = some true := by
  unfold PySem.W.kitOne
  rw [if_pos (beq_iff_eq.mpr rfl)]
theorem kit_nil {K : PySem.W.Frag} {C : Addr} : PySem.W.kitAny K (.ref C) [] = some false := rfl
theorem kit_cons {K : PySem.W.Frag} {C : Addr} {v : Value} {vs : List Value} (h : PySem.W.kitOne K (.ref C) v = some false) (t : PySem.W.kitAny K (.ref C) vs = some false) :
    PySem.W.kitAny K (.ref C) (v :: vs) = some false := by
  unfold PySem.W.kitAny
  rw [h]
  exact t
/-- a promise that may also raise C -/
def spPX (K : PySem.W.Frag) (C : Addr) (P : List PyData → PyData → Prop) (R : List PyData → Prop) : Sp := fun vs H Q E =>
  ∃ B ds, Al B H ∧ RpA K B H ds vs ∧ ((∃ d, P ds d ∧ ∀ v H', Same H H' → Rp K B H' d v → Q v H') ∨ (R ds ∧ ∀ H', Same H H' → E (.ref C) none H'))
/-! ### products -/
def rMulU (K : PySem.W.Frag) : R2 := fun x y H Q => (rI CMul (fun i j => .int (i * j))) x y H Q ∨ (rRepT K x y H Q ∨ rRep x y H Q)
theorem op_mulU {X : Cx} : OpR X (binaryOp .Mult) (rMulU X.K) := op_mul.or (op_repT.or op_rep)
section
variable {K : PySem.W.Frag} {B : Addr → Prop} {D C L : Addr} {H H1 H2 : Hp} {t : Int} {σ : L2.St} {ds : List PyData} {d : PyData} {te : TE} {tx : TA} {j n : Nat}
theorem rpa_flat {xs : List V} (h : RpA K B H ds xs) : ∀ m : Nat, RpA K B H (List.replicate m ds).flatten (List.replicate m xs).flatten
  | 0 => RpA.nil
  | m + 1 => by
    rw [List.replicate_succ, List.replicate_succ, List.flatten_cons, List.flatten_cons]
    exact RpA.append h (rpa_flat h m)
theorem rd_repT {k : Int} (h0 : ds ≠ []) (h1 : 2 ≤ k) (h2 : k ≤ 1000) (hl : ds.length ≤ 1000) : RvD K B (rMulU K) (.tuple ds) (.int k) (.tuple (List.replicate k.toNat ds).flatten) :=
  fun H1 x y al hx hy Q q => by
  obtain ⟨a, xs, rfl, na, s, t⟩ := rp_tup.mp hx
  refine .inr (.inl ⟨a, k, xs, rfl, rp_int.mp hy, s, fun z => ?_, h1, h2, by rw [← t.length]; exact hl, fun p np => ?_⟩)
  · subst z
    exact h0 (List.length_eq_zero_iff.mp t.length)
  · exact q _ _ (same_new np) (rp_tup.mpr ⟨p, _, rfl, .inl (al.new np), SqT.of upd_same, (rpa_flat t _).up (Xt.of al (same_new np))⟩)
theorem rd_repL {k : Int} (h1 : 0 ≤ k) (h2 : k ≤ 1000) (hl : ds.length ≤ 1000) : RvD K B (rMulU K) (.list ds) (.int k) (.list (List.replicate k.toNat ds).flatten) :=
  fun H1 x y al hx hy Q q => by
  obtain ⟨a, xs, rfl, na, s, t⟩ := rp_lst.mp hx
  refine .inr (.inr ⟨a, k, xs, rfl, rp_int.mp hy, s, by omega, by omega, ?_, fun p np => ?_⟩)
  · rw [← t.length]
    refine Nat.le_trans (Nat.mul_le_mul hl (show k.toNat ≤ 1000 by omega)) (by decide)
  · exact q _ _ (same_new np) (rp_lst.mpr ⟨p, _, rfl, al.new np, upd_same, (rpa_flat t _).up (Xt.of al (same_new np))⟩)
theorem rd_mulI {i k : Int} (h : CMul i k) : RvD K B (rMulU K) (.int i) (.int k) (.int (i * k)) := fun H1 x y al hx hy Q q => .inl (rd_I (g := fun i j => i * j) h H1 x y al hx hy Q q)
/-! ### comprehensions without draws: es, item by item -/
/-- what stands while the list at L is made: i items are there -/
def LcI (K : PySem.W.Frag) (B : Addr → Prop) (L : Addr) (H : Hp) (es : List PyData) (i : Nat) (H' : Hp) : Prop :=
  Same H H' ∧ Al (Bp B L) H' ∧ ∃ vs, H' L = some (.lst vs) ∧ RpA K (Bp B L) H' (es.take i) vs
theorem lc_begin {es : List PyData} (al : Al B H) (nL : H L = none) : LcI K B L H es 0 (upd H L (.lst [])) :=
  ⟨same_new nL, fun a h => h.elim (fun b => (al.same (same_new nL)) a b) fun e => by rw [e, upd_same]; simp, [], upd_same, RpA.nil⟩
theorem lc_step {es : List PyData} {e : PyData} {i : Nat} {H' : Hp} (nL : H L = none) (p : LcI K B L H es i H') (hi : i < 100000) (ge : es[i]? = some e) (he : Dn K (Bp B L) te σ H' e) :
    te σ H' fun y H4 => ∃ acc, H4 L = some (.lst acc) ∧ acc.length < sizeLine ∧ LcI K B L H es (i + 1) (upd H4 L (.lst (acc ++ [y]))) := by
  obtain ⟨s1, al, vs, hL, ra⟩ := p
  refine he H' (Xt.refl al) _ fun y H4 s4 r4 => ?_
  have al4 := al.same s4
  have x4 : Xt (Bp B L) H4 (upd H4 L (.lst (vs ++ [y]))) := xt_put al4
  refine ⟨vs, s4 _ _ hL, ?_, fun b o eb => ?_, x4.al, vs ++ [y], upd_same, ?_⟩
  · have e1 := ra.length
    rw [List.length_take] at e1
    exact Nat.lt_of_lt_of_le (show vs.length < 100001 by omega) (by decide)
  · rw [upd_ne (ne_of_none eb nL)]
    exact s4 _ _ (s1 b o eb)
  · rw [List.take_add_one, ge]
    exact RpA.append ((ra.up (Xt.of al s4)).up x4) (.cons (r4.up x4) .nil)
theorem lc_end {es : List PyData} {H' : Hp} (nB : ¬ B L) (hn : es.length ≤ n) (p : LcI K B L H es n H') : Same H H' ∧ Rp K B H' (.list es) (.ref L) := by
  obtain ⟨s1, al, vs, hL, ra⟩ := p
  rw [List.take_of_length_le hn] at ra
  exact ⟨s1, rp_lst.mpr ⟨L, vs, rfl, nB, hL, RpA.less bp_up _ _ ra⟩⟩
/-- [e for x in range(n)] -/
theorem dn_lcR {es : List PyData} (hx : DnA K B tx σ H [.int n]) (hn : n ≤ 1000) (hes : es.length = n)
    (he : ∀ B', Gw B B' H → ∀ (i : Nat) e, es[i]? = some e → Dn K B' te ((σ.set j none).set j (some (.int (0 + i)))) H e) :
    Dn K B (tLc (iRng1 tx) (gName j) tYes te [j]) σ H (.list es) := fun H1 x Q q => hx H1 x _ fun vs H2 e2 r2 => by
  obtain rfl : vs = [.int n] := RpA.ints_inv (ns := [(n : Int)]) r2
  refine ⟨n, rfl, by omega, by omega, fun L nL => ?_⟩
  have x2 := x.same e2
  have nB : ¬ B L := x2.al.new nL
  have nLH : H L = none := by
    cases e : H L with
    | none => rfl
    | some o =>
      have := x2.kp L o nB e
      rw [nL] at this
      cases this
  refine lc_range (lo := 0) (n := n) (LcI K B L H2 es) (lc_begin x2.al nL) (fun i H' hi p => ⟨wipe1, ?_⟩) fun H' p => ?_
  · obtain ⟨e, ge⟩ : ∃ e, es[i]? = some e := ⟨es[i]'(by omega), List.getElem?_eq_getElem (by omega)⟩
    refine lc_step nL p (by omega) ge ((he (Bp B L) (gw_new nLH) i e ge).up ⟨fun a o nb z => p.1 a o (x2.kp a o (fun w => nb (.inl w)) z), p.2.1⟩)
  · obtain ⟨s1, r1⟩ := lc_end nB (by omega) p
    exact q _ H' (e2.trans s1) r1
/-- [e for .. in a tuple], any target -/
theorem dn_lcT {t0 : TE} {g : TG} {es : List PyData} {vs : List Nat} (h : Dn K B t0 σ H (.tuple ds)) (hl : ds.length ≤ 1000) (hes : es.length = ds.length)
    (he : ∀ B', Gw B B' H → ∀ (i : Nat) d e v H1, ds[i]? = some d → es[i]? = some e → Xt B' H H1 → Rp K B' H1 d v → ∀ Q : L2.St → Hp → Prop,
      (∀ σ2, wipe σ2 vs = wipe σ vs → Dn K B' te σ2 H1 e → Q σ2 H1) → g v (wipe σ vs) H1 Q) :
    Dn K B (tLc (iTup K t0) g tYes te vs) σ H (.list es) := fun H1 x Q q => h H1 x _ fun v H2 e2 r2 => by
  obtain ⟨a, xs, rfl, na, s, t⟩ := rp_tup.mp r2
  refine ⟨a, rfl, ⟨_, s⟩, fun L nL => ?_⟩
  have x2 := x.same e2
  have nB : ¬ B L := x2.al.new nL
  have nLH : H L = none := by
    cases e : H L with
    | none => rfl
    | some o =>
      have := x2.kp L o nB e
      rw [nL] at this
      cases this
  have xl := t.length
  have t' := RpA.grow (gw_new nL) _ _ t
  have up : ∀ {i H'}, LcI K B L H2 es i H' → Xt (Bp B L) H2 H' := fun p => ⟨fun a o _ z => p.1 a o z, p.2.1⟩
  have na' : ∀ {H' : Hp}, Xt (Bp B L) H2 H' → SqT K H' a xs := fun y => by
    rcases na with na | na
    · rcases sqT_alive s with z | z
      · exact .inr z
      · refine y.sqT (fun w => w.elim na fun e => z ?_) s
        rw [e]
        exact nL
    · exact .inr na
  refine lc_tup (xs := xs) (LcI K B L H2 es) (lc_begin x2.al nL) (fun i H' _ p => na' (up p)) (fun i y H' gy p => ?_) fun H' p => ?_
  · have hi : i < xs.length := (List.getElem?_eq_some_iff.mp gy).1
    obtain ⟨d, gd, rd⟩ := (t'.up (up p)).back gy
    obtain ⟨e, ge⟩ : ∃ e, es[i]? = some e := ⟨es[i]'(by omega), List.getElem?_eq_getElem (by omega)⟩
    refine he (Bp B L) (gw_new nLH) i d e y H' gd ge ⟨fun a o nb z => p.1 a o (x2.kp a o (fun w => nb (.inl w)) z), p.2.1⟩ rd _ fun σ2 hw hd => ⟨hw, ?_⟩
    exact lc_step nL p (by omega) ge hd
  · obtain ⟨s1, r1⟩ := lc_end nB (by omega) p
    exact q _ H' (e2.trans s1) r1
/-! slices -/
theorem cutD_take (k : Nat) : cutD ds none (some (k : Int)) = ds.take k := by
  unfold cutD
  rw [HT.sIx_none, HT.sIx_nat, List.drop_zero, Nat.sub_zero, List.take_eq_take_iff]
  omega
theorem cutD_drop (k : Nat) : cutD ds (some (k : Int)) none = ds.drop k := by
  unfold cutD
  rw [HT.sIx_none, HT.sIx_nat]
  by_cases h : k ≤ ds.length
  · rw [Nat.min_eq_left h, List.take_of_length_le (by rw [List.length_drop]; omega)]
  · rw [Nat.min_eq_right (by omega), List.drop_length, List.drop_of_length_le (by omega)]
    exact List.take_nil
/-! isinstance of the caught error -/
theorem dn_isC {a c D : Addr} {i : Nat} {b : Bool} (X : ExcC K D) (h : σ[i]? = some (some (.ref a))) (hk : PySem.W.kitOne K (.ref D) (.ref c) = some b) :
    Dn K B (tCB (rIsX K (.ref D) none a) (tCons (tVar i) (tCons (tC (.ref c)) tNil))) σ H (.bool b) := fun H1 x Q q =>
  ⟨.ref a, h, D, rfl, rfl, X, .inl ⟨c, b, rfl, hk, q _ H1 (Same.refl H1) (rp_bl.mpr rfl)⟩⟩
theorem dn_isT {a D : Addr} {cs : List Addr} {i : Nat} {b : Bool} {tc : TA} (X : ExcC K D) (h : σ[i]? = some (some (.ref a))) (hc : ∀ H1 (Q : List V → Hp → Prop), Q (cs.map V.ref) H1 → tc σ H1 Q)
    (hl : cs.length ≤ 1000) (hk : PySem.W.kitAny K (.ref D) (cs.map Value.ref) = some b) :
    Dn K B (tCB (rIsX K (.ref D) none a) (tCons (tVar i) (tCons (tTup tc) tNil))) σ H (.bool b) := fun H1 x Q q =>
  ⟨.ref a, h, hc H1 _ ⟨by rw [List.length_map]; exact Nat.le_trans hl (by decide), fun p np => ⟨D, rfl, rfl, X, .inr ⟨p, cs, b, rfl, upd_same, hk, q _ _ (same_new np) (rp_bl.mpr rfl)⟩⟩⟩⟩
end
/-- a statement, then the rest, with a word between -/
def tMid (t u : TS) : TS := fun Dd σ H => ∃ M : L2.St → Hp → Prop, t { Dd with nx := M } σ H ∧ ∀ σ' H', M σ' H' → u Dd σ' H'
theorem pss_mid {X : Cx} {st : Stmt} {rest : List Stmt} {t u : TS} (h1 : PS X st t) (h2 : PSs X rest u) : PSs X (st :: rest) (tMid t u) := by
  refine ⟨fun pins s σ H Dd I h => ?_⟩
  obtain ⟨M, hm, hu⟩ := h
  refine wpAny_execs_cons (thn (h1.run pins s σ H { Dd with nx := M } I hm) fun f s1 q => ?_)
  cases f with
  | next =>
    obtain ⟨τ, H1, I1, q⟩ := q
    exact h2.run pins s1 τ H1 Dd I1 (hu τ H1 q)
  | ret v => exact q
  | brk => exact q
  | cont => exact q
end CG

namespace CG
open PySem PySem.Spec PyProof.Rows L2
/-! ### the text -/
def topS (i : Nat) : Stmt := PySem.Challenge.pw_coincounters_k02_counters_put_up_and_clo.main.body.getD i (.Pass ⟨0, 0, 0, 0⟩)
abbrev sPWith_counter : Stmt := topS 8
abbrev NscPWith_counter : List Str := ["board", "counter", "kinds", "counters"]
theorem scPWith_counter : FnScope NscPWith_counter ["board", "counter"] (defScope sPWith_counter) := ⟨rfl, rfl, rfl, by decide +kernel, rfl, by decide +kernel, by decide +kernel⟩
abbrev sPWithout_counter : Stmt := topS 9
abbrev NscPWithout_counter : List Str := ["board", "index", "kinds", "counters"]
theorem scPWithout_counter : FnScope NscPWithout_counter ["board", "index"] (defScope sPWithout_counter) := ⟨rfl, rfl, rfl, by decide +kernel, rfl, by decide +kernel, by decide +kernel⟩
abbrev sDeck : Stmt := topS 11
abbrev NscDeck : List Str := ["_law_script", "_law_cell"]
theorem scDeck : FnScope NscDeck ["_law_script"] (defScope sDeck) := ⟨rfl, rfl, rfl, by decide +kernel, rfl, by decide +kernel, by decide +kernel⟩
abbrev sDraw : Stmt := topS 12
abbrev NscDraw : List Str := ["_law_deck_here", "_law_limit", "_law_cell", "_law_index"]
theorem scDraw : FnScope NscDraw ["_law_deck_here", "_law_limit"] (defScope sDraw) := ⟨rfl, rfl, rfl, by decide +kernel, rfl, by decide +kernel, by decide +kernel⟩
abbrev sSame : Stmt := topS 13
abbrev NscSame : List Str := ["_law_value", "_law_due"]
theorem scSame : FnScope NscSame ["_law_value", "_law_due"] (defScope sSame) := ⟨rfl, rfl, rfl, by decide +kernel, rfl, by decide +kernel, by decide +kernel⟩
abbrev sCounter : Stmt := topS 14
abbrev NscCounter : List Str := ["_law_deck_here", "_law_kinds", "_law_source", "_law_step", "_law_give"]
theorem scCounter : FnScope NscCounter ["_law_deck_here", "_law_kinds"] (defScope sCounter) := ⟨rfl, rfl, rfl, by decide +kernel, rfl, by decide +kernel, by decide +kernel⟩
abbrev sBoard : Stmt := topS 15
abbrev NscBoard : List Str := ["_law_deck_here", "_law_most", "_law_many", "_law_kinds", "_law_found", "_law_k"]
theorem scBoard : FnScope NscBoard ["_law_deck_here", "_law_most", "_law_many"] (defScope sBoard) := ⟨rfl, rfl, rfl, by decide +kernel, rfl, by decide +kernel, by decide +kernel⟩
abbrev sTold : Stmt := topS 16
abbrev NscTold : List Str := ["_law_board_here", "_law_counter_here", "e"]
theorem scTold : FnScope NscTold ["_law_board_here", "_law_counter_here"] (defScope sTold) := ⟨rfl, rfl, rfl, by decide +kernel, rfl, by decide +kernel, by decide +kernel⟩
abbrev sLaw : Stmt := topS 17
abbrev NscLaw : List Str := ["_law_script", "_law_deck_here", "_law_turn", "_law_board_here", "_law_before", "_law_counter_here", "_law_rows", "_law_due", "_law_found", "_law_index", "_law_again"]
theorem scLaw : FnScope NscLaw ["_law_script"] (defScope sLaw) := ⟨rfl, rfl, rfl, by decide +kernel, rfl, by decide +kernel, by decide +kernel⟩
section
variable {P : Program} {w : World} {K : PySem.W.Frag} {mg : Str → Option Value} {base : Heap}
theorem ok_deck {f : Addr} {fd : FuncData} (h : Has K mg "_law_deck" sDeck ["_law_script"] f fd) (T : Bz mg) : FnG P w K mg base CX0 1 f fd ["_law_script"] (spDeck K) := by
  refine okG h.F scDeck (fun vs H Q E h => ?_) (fun cd A out s H vs Q E hgd hr h => ?_)
  · obtain ⟨a, ns, rfl, _⟩ := h
    rfl
  · obtain ⟨a, ns, rfl, hS, q⟩ := h
    refine ⟨_, (pss_one (ps_ret (pe_lst (pa_cons (pe_lc (own := [("_law_cell", 1)]) rfl scDeck.nd (pi_list (pe_slice sl_U (pv 0) po_none (po_some pe_int))) (blkOk_by (N := NscDeck) (sc := defScope sDeck) (by decide +kernel)) (fun _ _ _ _ _ => (pg_name (i := 1) scDeck.nd rfl (Or.inl rfl))) (fun _ _ _ _ _ => pts_nil) (fun _ _ _ _ _ => (pe_callB call_abs rfl T.z_abs (by decide +kernel) (pa_cons (pv 1) pa_nil)))) (pa_cons pe_int pa_nil))))), ?_⟩
    refine ⟨.ref a, rfl, 63, rfl, .inl ⟨a, _, rfl, hS, fun c nc => ?_⟩⟩
    have e1 : Same H (upd H c (.lst (cutV (ns.map V.int) none (some 63)))) := same_new nc
    have ec : cutV (ns.map V.int) none (some 63) = (ns.take 63).map V.int := by
      unfold cutV
      rw [HT.sIx_none, show HT.sIx (ns.map V.int).length (ns.map V.int).length (some 63) = min 63 (ns.map V.int).length from HT.sIx_nat _ _ 63, List.drop_zero, Nat.sub_zero, List.map_take]
      rw [List.take_eq_take_iff]
      omega
    rw [ec]
    rw [ec] at e1
    have hml : (ns.take 63).length ≤ 63 := by rw [List.length_take]; omega
    clear ec
    generalize ns.take 63 = ms at e1 hml ⊢
    refine ⟨c, rfl, ⟨_, SqL.of upd_same⟩, fun L nL => ?_⟩
    refine lc_list (xs := ms.map V.int) (fun i H' => Same H H' ∧ H' c = some (.lst (ms.map V.int)) ∧ H' L = some (.lst (((ms.take i).map fun z => if z < 0 then -z else z).map V.int))) ?_ ?_ ?_ ?_
    · refine ⟨e1.trans (same_new nL), ?_, ?_⟩
      · rw [upd_ne (ne_of_none upd_same nL)]
        exact upd_same
      · rw [upd_same]
        rfl
    · rintro i H' _ ⟨_, hc, _⟩
      exact SqL.of hc
    · rintro i x H' gx ⟨e', hc, hL⟩
      rw [List.getElem?_map] at gx
      cases gz : ms[i]? with
      | none => rw [gz] at gx; cases gx
      | some z =>
        rw [gz] at gx
        cases gx
        have hi : i < ms.length := (List.getElem?_eq_some_iff.mp gz).1
        have hLn : H L = none := e1.free nL
        refine ⟨rfl, ?_⟩
        refine ⟨.int z, rfl, z, rfl, _, hL, ?_, ?_, ?_, ?_⟩
        · rw [List.length_map, List.length_map, List.length_take]
          exact Nat.lt_of_le_of_lt (show min i ms.length ≤ 63 by omega) (by decide)
        · intro b o eb
          rw [upd_ne (ne_of_none eb hLn)]
          exact e' b o eb
        · rw [upd_ne (fun z => ?_)]
          · exact hc
          · subst z
            rw [upd_same] at nL
            cases nL
        · rw [upd_same, List.take_add_one, gz]
          simp only [Option.toList_some, List.map_append, List.map_cons, List.map_nil]
    · rintro H' ⟨e', hc, hL⟩
      refine ⟨by show 2 ≤ sizeLine; decide, fun D nD => ?_⟩
      have hLn : H L = none := e1.free nL
      have hDn : H D = none := by
        cases q : H D with
        | none => rfl
        | some o => rw [e' D o q] at nD; cases nD
      refine q D L _ (fun b o eb => ?_) hDn hLn ⟨.inl rfl, .inr rfl, fun a h => ?_, fun z => ?_, by omega, ((ms.take (ms.map V.int).length).map fun z => if z < 0 then -z else z), upd_same, ?_, ?_, ?_⟩
      · rw [upd_ne (ne_of_none eb hDn)]
        exact e' b o eb
      · rcases h with rfl | rfl
        · rw [upd_same]; simp
        · rw [upd_ne (ne_of_none hL nD), hL]; simp
      · subst z
        rw [hL] at nD
        cases nD
      · rw [upd_ne (ne_of_none hL nD)]
        exact hL
      · rw [List.length_map, List.length_take]
        omega
      · intro z hz
        obtain ⟨y, _, rfl⟩ := List.mem_map.mp hz
        split <;> omega
theorem ok_same {f : Addr} {fd : FuncData} (h : Has K mg "_law_same" sSame ["_law_value", "_law_due"] f fd) (T : Bz mg) :
    FnG P w K mg base CX0 1 f fd ["_law_value", "_law_due"] (spP K PSame) := by
  refine okG h.F scSame (fun vs H Q E h => ?_) (fun cd A out s H vs Q E hgd hr h => ?_)
  · obtain ⟨B, ds, d, _, ra, ⟨a, b, rfl, _⟩, _⟩ := h
    exact ra.length.symm
  · obtain ⟨B, ds, d, al, ra, ⟨a, b, rfl, sa, sb, rfl⟩, q⟩ := h
    obtain ⟨x, r, rfl, h1, h2⟩ := rpa_cons.mp ra
    obtain ⟨y, r, rfl, h3, h4⟩ := rpa_cons.mp h2
    obtain rfl := rpa_nil.mp h4
    refine ⟨_, (pss_one (ps_ret (pe_cmpR op_eq (pe_callB (call_reprD hgd hr.units) rfl T.z_repr boot_repr (pa_cons (pv 0) pa_nil)) (pe_callB (call_reprD hgd hr.units) rfl T.z_repr boot_repr (pa_cons (pv 1) pa_nil)) (nomark _)))), ?_⟩
    refine sd_ret (H := H) (K := K) (B := B) ?_ (Xt.refl al) q
    exact dn_op (dn_cb (da_cons (dn_var (i := 0) rfl h1) da_nil) (rc_repr sa)) (dn_cb (da_cons (dn_var (i := 1) rfl h3) da_nil) (rc_repr sb)) rd_eqS
theorem ok_draw {f : Addr} {fd : FuncData} (h : Has K mg "_law_draw" sDraw ["_law_deck_here", "_law_limit"] f fd) (T : Bz mg) :
    FnG P w K mg base CX0 1 f fd ["_law_deck_here", "_law_limit"] (spDraw K) := by
  refine okG h.F scDraw (fun vs H Q E h => ?_) (fun cd A out s H vs Q E hgd hr h => ?_)
  · obtain ⟨B, D, C, t, ds, ws, rfl, _, _, ra, ⟨n, rfl, _⟩, _⟩ := h
    have := ra.length
    simp only [List.length_cons, List.length_nil] at this ⊢
    omega
  · obtain ⟨B, D, C, t, ds, ws, rfl, dk, hl, ra, ⟨n, rfl, n0, n1⟩, q⟩ := h
    obtain rfl : ws = [.int n] := RpA.ints_inv (ns := [n]) ra
    obtain ⟨bD, bC, al, ne, nn, cs, hD, hC, hlen, hcs⟩ := dk
    refine ⟨_, (pss_cons (ps_asg (pe_op op_addU (pe_ix ix_seq (pv 0) pe_int (fun _ _ => rfl)) pe_int) (pg_sub (pv 0) pe_int set_list))
      (pss_cons (ps_asg (pe_tup (pa_cons pe_int (pa_cons (pe_un un_neg pe_int) pa_nil))) (pg_tup rfl (pgs_cons (pg_name (i := 2) scDraw.nd rfl (Or.inl rfl)) (pgs_cons (pg_name (i := 3) scDraw.nd rfl (Or.inl rfl)) pgs_nil))))
      (pss_cons (ps_if (pt_cmpR op_gt (pe_callB call_lenU rfl T.z_len PySem.boot_len (pa_cons (pe_ix ix_seq (pv 0) pe_int (fun _ _ => rfl)) pa_nil)) pe_int (nomark _))
        (pss_cons (ps_set (i := 3) scDraw.nd rfl (Or.inl rfl) (pe_op op_mod (pe_ix ix_seq (pv 0) pe_int (fun _ _ => rfl)) (pe_callB call_lenU rfl T.z_len PySem.boot_len (pa_cons (pe_ix ix_seq (pv 0) pe_int (fun _ _ => rfl)) pa_nil))))
        (pss_one (ps_set (i := 2) scDraw.nd rfl (Or.inl rfl) (pe_ix ix_seq (pe_ix ix_seq (pv 0) pe_int (fun _ _ => rfl)) (pv 3) (fun _ _ => rfl)))))
        pss_nil)
      (pss_cons (ps_if (pt_cmpR op_ge (pv 2) (pe_op op_pow pe_int pe_int) (nomark _))
        (pss_cons (ps_asg (pe_op op_fdiv (pv 2) (pv 1)) (pg_sub (pe_ix ix_seq (pv 0) pe_int (fun _ _ => rfl)) (pv 3) set_list))
        (pss_one (ps_ret (pe_op op_mod (pv 2) (pv 1)))))
        pss_nil)
      (pss_one (ps_ret (pe_op op_mod (pe_op op_fdiv (pe_op op_mod (pe_op op_pow (pe_op op_addU (pe_op op_addU (pe_op op_mod (pv 2) pe_int) (pe_op op_mul pe_int (pe_ix ix_seq (pv 0) pe_int (fun _ _ => rfl)))) pe_int) pe_int) pe_int) pe_int) (pv 1)))))))), ?_⟩
    refine ⟨.ref D, rfl, .inl ⟨D, _, 1, .int t, rfl, rfl, SqL.of hD, rfl, .inl ⟨t, 1, rfl, rfl, .ref D, rfl, D, _, 1, 1, rfl, rfl, hD, rfl, ?_⟩⟩⟩
    have hD1 : (upd H D (.lst [.ref C, .int (t + 1)])) D = some (.lst [.ref C, .int (t + 1)]) := upd_same
    have hC1 : (upd H D (.lst [.ref C, .int (t + 1)])) C = some (.lst (cs.map V.int)) := by
      rw [upd_ne ne.symm]
      exact hC
    have kD : ∀ b o, b ≠ D → H b = some o → (upd H D (.lst [.ref C, .int (t + 1)])) b = some o := fun b o nb e => by rw [upd_ne nb]; exact e
    show tSeq _ _ _ _ (upd H D (.lst [.ref C, .int (t + 1)]))
    generalize upd H D (.lst [.ref C, .int (t + 1)]) = H1 at hD1 hC1 kD
    have fin : ∀ (H2 : Hp) (r : Int) (cs2 : List Int), (∀ b o, b ≠ D → b ≠ C → H b = some o → H2 b = some o) → H2 D = some (.lst [.ref C, .int (t + 1)]) → H2 C = some (.lst (cs2.map V.int)) →
        cs2.length ≤ 63 → (∀ c ∈ cs2, 0 ≤ c) → 0 ≤ r → r < n → Q (.int r) H2 := fun H2 r cs2 k1 k2 k3 k4 k5 r0 r1 => by
      have al2 : Al B H2 := fun a h => by
        by_cases z1 : a = D
        · rw [z1, k2]; simp
        · by_cases z2 : a = C
          · rw [z2, k3]; simp
          · cases e : H a with
            | none => exact absurd e (al a h)
            | some o => rw [k1 a o z1 z2 e]; simp
      have dk2 : Dk B H2 D C (t + 1) := ⟨bD, bC, al2, ne, by omega, cs2, k2, k3, k4, k5⟩
      refine q (.int r) (.int r) H2 (t + 1) ⟨fun a o nb e => ?_, dk2.alk⟩ dk2 (by omega) ⟨n, r, rfl, rfl, r0, r1⟩ (rp_int.mpr rfl)
      exact k1 a o (fun z => nb (.inl z)) (fun z => nb (.inr z)) e
    refine ⟨1, rfl, by show 2 ≤ sizeLine; decide, fun p np => ?_⟩
    refine ⟨p, _, rfl, SqT.of upd_same, rfl, .int 0, _, rfl, .int (-1), _, rfl, rfl, ?_⟩
    have sp : Same H1 (upd H1 p (.tup [.int 0, .int (-1)])) := same_new np
    replace hD1 := sp _ _ hD1
    replace hC1 := sp _ _ hC1
    replace kD := fun b o nb e => sp b o (kD b o nb e)
    show tSeq _ _ _ _ (upd H1 p (.tup [.int 0, .int (-1)]))
    generalize upd H1 p (.tup [.int 0, .int (-1)]) = H1 at hD1 hC1 kD
    refine ⟨.ref D, rfl, .inl ⟨D, _, 0, .ref C, rfl, rfl, SqL.of hD1, rfl, C, _, rfl, .inl (SqL.of hC1), _, _, rfl, rfl, _, rfl, ite2 (fun e => ?_) (fun e => ?_)⟩⟩
    · have e0 : 0 < cs.length := by
        have := of_decide_eq_true e
        rw [List.length_map] at this
        omega
      have hm0 : 0 ≤ (t + 1) % (cs.length : Int) := Int.emod_nonneg _ (by omega)
      have hm1 : (t + 1) % (cs.length : Int) < cs.length := Int.emod_lt_of_pos _ (by omega)
      obtain ⟨j, hj⟩ : ∃ j : Nat, (t + 1) % (cs.length : Int) = (j : Int) := ⟨((t + 1) % (cs.length : Int)).toNat, by omega⟩
      have hjl : j < cs.length := by omega
      have gj : (cs.map V.int)[j]? = some (.int cs[j]) := by
        rw [List.getElem?_map, List.getElem?_eq_getElem hjl]
        rfl
      have cj : 0 ≤ cs[j] := hcs _ (List.getElem_mem hjl)
      refine ⟨.ref D, rfl, .inl ⟨D, _, 1, .int (t + 1), rfl, rfl, SqL.of hD1, rfl, .ref D, rfl, .inl ⟨D, _, 0, .ref C, rfl, rfl, SqL.of hD1, rfl, C, _, rfl, .inl (SqL.of hC1), _, _, rfl, rfl, ?_, ?_⟩⟩⟩
      · rw [List.length_map]
        omega
      show gName 3 (V.int ((t + 1) % (((cs.map V.int).length : Nat) : Int))) _ _ _
      rw [List.length_map, hj]
      refine ⟨.ref D, rfl, .inl ⟨D, _, 0, .ref C, rfl, rfl, SqL.of hD1, rfl, .int j, rfl, .inl ⟨C, _, j, _, rfl, rfl, SqL.of hC1, atI_nat gj, ?_⟩⟩⟩
      refine ⟨.int cs[j], rfl, 10, 18, rfl, rfl, ⟨by decide, by decide, by decide⟩, _, _, rfl, rfl, _, rfl, ite2 (fun e1 => ?_) (fun e1 => ?_)⟩
      · have hix : ixN (cs.map V.int).length (j : Int) = some j := by
          unfold ixN
          rw [List.length_map, if_pos (by omega), if_pos (by omega)]
          simp
        refine ⟨.int cs[j], rfl, .int n, rfl, _, n, rfl, rfl, ⟨n0, n1⟩, .ref D, rfl, .inl ⟨D, _, 0, .ref C, rfl, rfl, SqL.of hD1, rfl, .int j, rfl, C, _, j, j, rfl, rfl, hC1, hix, ?_⟩⟩
        refine ⟨.int cs[j], rfl, .int n, rfl, _, n, rfl, rfl, n0, ?_⟩
        refine fin _ _ (cs.set j (cs[j] / n)) (fun b o b1 b2 e => ?_) ?_ ?_ ?_ ?_ (Int.emod_nonneg _ (by omega)) (Int.emod_lt_of_pos _ n0)
        · rw [upd_ne b2]
          exact kD b o b1 e
        · rw [upd_ne ne]
          exact hD1
        · rw [upd_same, List.map_set]
        · rw [List.length_set]
          exact hlen
        · intro c hc
          rcases List.mem_or_eq_of_mem_set hc with h | rfl
          · exact hcs c h
          · exact Int.ediv_nonneg cj (by omega)
      · refine ⟨.int cs[j], rfl, _, _, rfl, rfl, by show (0 : Int) < 2147483587; decide, .ref D, rfl, .inl ⟨D, _, 1, .int (t + 1), rfl, rfl, SqL.of hD1, rfl, 7919, t + 1, rfl, rfl, .inl ⟨by decide, by decide⟩, .inl ⟨_, _, rfl, rfl, .inl ⟨_, 1, rfl, rfl, _, 5, rfl, rfl, ⟨by decide, by decide, ?_⟩,
          _, _, rfl, rfl, by show (0 : Int) < 2147483647; decide, _, 7, rfl, rfl, ⟨by decide, by decide⟩, .int n, rfl, _, n, rfl, rfl, n0, ?_⟩⟩⟩⟩
        · have a0 : 0 ≤ cs[j] % 2147483587 := Int.emod_nonneg _ (by decide)
          have a1 : cs[j] % 2147483587 < 2147483587 := Int.emod_lt_of_pos _ (by decide)
          unfold Lim at hl
          show (cs[j] % 2147483587 + 7919 * (t + 1) + 1).natAbs < 2 ^ 64
          omega
        · exact fin H1 _ cs (fun b o b1 _ e => kD b o b1 e) hD1 hC1 hlen hcs (Int.emod_nonneg _ (by omega)) (Int.emod_lt_of_pos _ n0)
    · refine ⟨.int 0, rfl, 10, 18, rfl, rfl, ⟨by decide, by decide, by decide⟩, _, _, rfl, rfl, _, rfl, ite2 (fun e1 => ?_) (fun e1 => ?_)⟩
      · exact absurd (of_decide_eq_true e1) (by decide)
      · refine ⟨.int 0, rfl, _, _, rfl, rfl, by show (0 : Int) < 2147483587; decide, .ref D, rfl, .inl ⟨D, _, 1, .int (t + 1), rfl, rfl, SqL.of hD1, rfl, 7919, t + 1, rfl, rfl, .inl ⟨by decide, by decide⟩, .inl ⟨_, _, rfl, rfl, .inl ⟨_, 1, rfl, rfl, _, 5, rfl, rfl, ⟨by decide, by decide, ?_⟩,
          _, _, rfl, rfl, by show (0 : Int) < 2147483647; decide, _, 7, rfl, rfl, ⟨by decide, by decide⟩, .int n, rfl, _, n, rfl, rfl, n0, ?_⟩⟩⟩⟩
        · unfold Lim at hl
          show ((0 : Int) % 2147483587 + 7919 * (t + 1) + 1).natAbs < 2 ^ 64
          omega
        · exact fin H1 _ cs (fun b o b1 _ e => kD b o b1 e) hD1 hC1 hlen hcs (Int.emod_nonneg _ (by omega)) (Int.emod_lt_of_pos _ n0)
theorem ok_counter {f f_draw : Addr} {fd fd_draw : FuncData} (h : Has K mg "_law_counter" sCounter ["_law_deck_here", "_law_kinds"] f fd) (T_draw : Has K mg "_law_draw" sDraw ["_law_deck_here", "_law_limit"] f_draw fd_draw) (T : Bz mg)
    (G_draw : FnG P w K mg base CX0 1 f_draw fd_draw ["_law_deck_here", "_law_limit"] (spDraw K)) : FnG P w K mg base CX0 2 f fd ["_law_deck_here", "_law_kinds"] (spE K 4 PreCtr PCtr) := by
  refine okG h.F scCounter (fun vs H Q E h => ?_) (fun cd A out s H vs Q E hgd hr h => ?_)
  · obtain ⟨B, D, C, t, ds, ws, rfl, _, _, ra, ⟨n, rfl, _⟩, _⟩ := h
    have := ra.length
    simp only [List.length_cons, List.length_nil] at this ⊢
    omega
  · obtain ⟨B, D, C, t, ds, ws, rfl, dk, hl, ra, ⟨n, rfl, n0, n1⟩, q⟩ := h
    obtain rfl : ws = [.int n] := RpA.ints_inv (ns := [n]) ra
    have vi : ∀ {H' : Hp} {z : Int}, Rp K B H' (.int z) (.int z) := rp_int.mpr rfl
    refine ⟨_, (pss_cons (ps_par (i := 2) (j := 3) rfl scCounter.nd rfl rfl (by decide) rfl rfl (pa_cons (pe_callG G_draw hgd (hr.mono (by decide)) rfl T_draw.m T_draw.F.kp T_draw.b .nil pass0 (pa_cons (pv 0) (pa_cons (pv 1) pa_nil))) (pa_cons (pe_op op_addU pe_int (pe_callG G_draw hgd (hr.mono (by decide)) rfl T_draw.m T_draw.F.kp T_draw.b .nil pass0 (pa_cons (pv 0) (pa_cons (pe_op op_sub (pv 1) pe_int) pa_nil)))) pa_nil)) rfl)
      (pss_cons (ps_set (i := 4) scCounter.nd rfl (Or.inl rfl) (pe_op op_addU pe_int (pe_callG G_draw hgd (hr.mono (by decide)) rfl T_draw.m T_draw.F.kp T_draw.b .nil pass0 (pa_cons (pv 0) (pa_cons pe_int pa_nil)))))
      (pss_one (ps_ret (pe_tup (pa_cons (pv 2) (pa_cons (pe_op op_mod (pe_op op_addU (pv 2) (pv 3)) (pv 1)) (pa_cons (pv 4) (pa_cons (pe_op op_addU pe_int (pe_callG G_draw hgd (hr.mono (by decide)) rfl T_draw.m T_draw.F.kp T_draw.b .nil pass0 (pa_cons (pv 0) (pa_cons pe_int pa_nil)))) pa_nil))))))))), ?_⟩
    refine se_par (K := K) (B := B) (D := D) (C := C) (H := H) (t := t) (m := 2) (Φs := fun ds => ∃ a b : Int, ds = [.int a, .int b] ∧ 0 ≤ a ∧ a < n ∧ 1 ≤ b ∧ b < n) ?_ ?_ (Xt.refl dk.al) dk (by omega) (fun v w a b H1 t1 x1 k1 l1 p ra rb => ?_)
    · refine EfA.weak (ea_cons (ef_draw (m := 0) (Φs := fun ds => ds = [.int n]) rfl (DnA.ef (da_cons (dn_var rfl vi) da_nil)) ?_) (ea_cons (ef_op (Θ := fun d => ∃ z : Int, d = .int z ∧ 1 ≤ z ∧ z < n) (Dn.ef dn_int) (ef_draw (m := 0) (Φs := fun ds => ds = [.int (n - 1)]) rfl (DnA.ef (da_cons (dn_op (dn_var rfl vi) dn_int rd_I0) da_nil)) ?_) ?_ (by decide)) ea_nil (by decide)) (by decide)) ?_ (by decide)
      · rintro ds rfl
        exact ⟨n, rfl, by omega, by omega⟩
      · rintro ds rfl
        exact ⟨n - 1, rfl, by omega, by omega⟩
      · rintro a b rfl ⟨ds, m, r, rfl, em, rfl, h0, h1⟩
        simp only [List.cons.injEq, PyData.int.injEq, and_true] at em
        refine ⟨_, ⟨1 + r, rfl, ?_, ?_⟩, rd_add⟩ <;> omega
      · rintro ds ⟨_, _, rfl, ⟨ds, m, r, rfl, em, rfl, h0, h1⟩, _, _, rfl, ⟨z, rfl, z0, z1⟩, rfl⟩
        simp only [List.cons.injEq, PyData.int.injEq, and_true] at em
        exact ⟨r, z, rfl, h0, by omega, z0, z1⟩
    · rintro ds ⟨a, b, rfl, _⟩
      rfl
    obtain ⟨s0, p0, e, s1, s2, p1, p2⟩ := p
    simp only [List.cons.injEq, and_true] at e
    obtain ⟨rfl, rfl⟩ := e
    obtain rfl := rp_int.mp ra
    obtain rfl := rp_int.mp rb
    dsimp only [List.set]
    refine se_set (K := K) (B := B) (D := D) (C := C) (H := H1) (t := t1) (m := 1) (Φ := fun d => ∃ g : Int, d = .int g ∧ 1 ≤ g ∧ g ≤ 5) ?_ (Xt.refl k1.al) k1 (by omega) (fun v d H2 t2 x2 k2 l2 pd r2 => ?_)
    · refine Ef.weak (ef_op (Dn.ef dn_int) (ef_drawN rfl (by decide) (by decide)) ?_ (by decide)) (fun d p => p) (by decide)
      rintro a b rfl ⟨r, rfl, h0, h1⟩
      refine ⟨_, ⟨1 + r, rfl, ?_, ?_⟩, rd_add⟩ <;> omega
    obtain ⟨g, rfl, g0, g1⟩ := pd
    obtain rfl := rp_int.mp r2
    dsimp only [List.set]
    refine se_ret (K := K) (B := B) (D := D) (C := C) (H := H2) (t := t2) (m := 1) (Φ := IsCtr n) ?_ (Xt.refl k2.al) k2 (by omega) ?_
    · refine Ef.weak (ef_tup (ea_cons (Dn.ef (dn_var rfl vi)) (ea_cons (Dn.ef (dn_op (dn_op (dn_var rfl vi) (dn_var rfl vi) rd_add) (dn_var rfl vi) (rd_I (by show (0 : Int) < n; omega)))) (ea_cons (Dn.ef (dn_var rfl vi))
        (ea_cons (ef_op (Θ := fun d => ∃ g : Int, d = .int g ∧ 1 ≤ g ∧ g ≤ 5) (Dn.ef dn_int) (ef_drawN rfl (by decide) (by decide)) ?_ (by decide)) ea_nil (by decide)) (by decide)) (by decide)) (by decide)) ?_) ?_ (by decide)
      · rintro a b rfl ⟨r, rfl, h0, h1⟩
        refine ⟨_, ⟨1 + r, rfl, ?_, ?_⟩, rd_add⟩ <;> omega
      · rintro ds ⟨_, _, rfl, rfl, _, _, rfl, rfl, _, _, rfl, rfl, _, _, rfl, _, rfl⟩
        show (4 : Nat) ≤ 100000
        decide
      · rintro d ⟨ds, rfl, _, _, rfl, rfl, _, _, rfl, rfl, _, _, rfl, rfl, _, _, rfl, ⟨e, rfl, e0, e1⟩, rfl⟩
        refine ⟨⟨s0, (s0 + p0) % n, g, e⟩, rfl, ⟨s1, s2, ?_, ?_, step_ne s1 s2 p1 p2 n1, g0, g1, e0, e1⟩⟩
        · exact Int.emod_nonneg _ (by omega)
        · exact Int.emod_lt_of_pos _ (by omega)
    · intro v d H' t' x' k' l' pd r'
      exact q v d H' t' (x1.trans (x2.trans x')) k' (by omega) ⟨n, rfl, pd⟩ r'
theorem ok_board {f f_draw f_counter : Addr} {fd fd_draw fd_counter : FuncData} (h : Has K mg "_law_board" sBoard ["_law_deck_here", "_law_most", "_law_many"] f fd) (T_draw : Has K mg "_law_draw" sDraw ["_law_deck_here", "_law_limit"] f_draw fd_draw) (T_counter : Has K mg "_law_counter" sCounter ["_law_deck_here", "_law_kinds"] f_counter fd_counter) (T : Bz mg)
    (G_draw : FnG P w K mg base CX0 1 f_draw fd_draw ["_law_deck_here", "_law_limit"] (spDraw K)) (G_counter : FnG P w K mg base CX0 2 f_counter fd_counter ["_law_deck_here", "_law_kinds"] (spE K 4 PreCtr PCtr)) :
    FnG P w K mg base CX0 3 f fd ["_law_deck_here", "_law_most", "_law_many"] (spE K 1000 PreBoard PBoard) := by
  refine okG h.F scBoard (fun vs H Q E h => ?_) (fun cd A out s H vs Q E hgd hr h => ?_)
  · obtain ⟨B, D, C, t, ds, ws, rfl, _, _, ra, ⟨n, m, rfl, _⟩, _⟩ := h
    have := ra.length
    simp only [List.length_cons, List.length_nil] at this ⊢
    omega
  · obtain ⟨B, D, C, t, ds, ws, rfl, dk, hl, ra, ⟨mo, ma, rfl, mo0, mo1, ma0, ma1⟩, q⟩ := h
    obtain rfl : ws = [.int mo, .int ma] := RpA.ints_inv (ns := [mo, ma]) ra
    have vi : ∀ {B' : Addr → Prop} {H' : Hp} {z : Int}, Rp K B' H' (.int z) (.int z) := rp_int.mpr rfl
    refine ⟨_, (pss_cons (ps_par (i := 3) (j := 4) rfl scBoard.nd rfl rfl (by decide) rfl rfl (pa_cons (pe_ix ix_seq (pe_lst (pa_cons (pe_op op_addU pe_int (pe_callG G_draw hgd (hr.mono (by decide)) rfl T_draw.m T_draw.F.kp T_draw.b .nil pass0 (pa_cons (pv 0) (pa_cons (pv 1) pa_nil)))) (pa_cons (pv 1) pa_nil))) (pe_callG G_draw hgd (hr.mono (by decide)) rfl T_draw.m T_draw.F.kp T_draw.b .nil pass0 (pa_cons (pv 0) (pa_cons pe_int pa_nil))) (fun _ _ => rfl)) (pa_cons (pe_lst pa_nil) pa_nil)) rfl)
      (pss_cons (ps_for PassesOwn.never rfl (pi_range1 rfl T.z_range (pa_cons (pe_op op_mul (pe_callG G_draw hgd (hr.mono (by decide)) rfl T_draw.m T_draw.F.kp T_draw.b .nil pass0 (pa_cons (pv 0) (pa_cons (pe_op op_addU (pv 2) pe_int) pa_nil))) (pe_callTy call_intU rfl T.z_int boot_intU (pa_cons (pe_cmpR op_gt (pv 3) pe_int (nomark _)) pa_nil))) pa_nil)) (pg_name (i := 5) scBoard.nd rfl (Or.inl rfl))
        (pss_cons (ps_expr (pe_bm PySem.F.plainAttrs_list PySem.F.slot_list_append PySem.F.type_list_append mt_append (pv 4) (pa_cons (pe_callG G_counter hgd (hr.mono (by decide)) rfl T_counter.m T_counter.F.kp T_counter.b .nil pass0 (pa_cons (pv 0) (pa_cons (pv 3) pa_nil))) pa_nil)))
        (pss_one (ps_if (pt_cmpR op_eq (pe_callG G_draw hgd (hr.mono (by decide)) rfl T_draw.m T_draw.F.kp T_draw.b .nil pass0 (pa_cons (pv 0) (pa_cons pe_int pa_nil))) pe_int (nomark _))
          (pss_one (ps_expr (pe_bm PySem.F.plainAttrs_list PySem.F.slot_list_append PySem.F.type_list_append mt_append (pv 4) (pa_cons (pe_ix ix_seq (pv 4) (pe_callG G_draw hgd (hr.mono (by decide)) rfl T_draw.m T_draw.F.kp T_draw.b .nil pass0 (pa_cons (pv 0) (pa_cons (pe_callB call_lenU rfl T.z_len PySem.boot_len (pa_cons (pv 4) pa_nil)) pa_nil))) (fun _ _ => rfl)) pa_nil))))
          pss_nil))))
      (pss_one (ps_ret (pe_tup (pa_cons (pv 3) (pa_cons (pe_callTy call_tupU rfl T.z_tuple boot_tupleU (pa_cons (pe_slice sl_U (pv 4) po_none (po_some (pv 2))) pa_nil)) pa_nil))))))), ?_⟩
    refine se_par1 (K := K) (B := B) (D := D) (C := C) (H := H) (t := t) (m := 2) (Φ := fun d => ∃ z : Int, d = .int z ∧ 1 ≤ z ∧ z ≤ mo) ?_ (Xt.refl dk.al) dk (by omega) (fun v d H1 t1 x1 k1 l1 p ra => ?_)
    · refine Ef.weak (ef_op (Θ := fun d => ∃ z : Int, d = .int z ∧ 1 ≤ z ∧ z ≤ mo) (ef_lst (ea_cons (ef_op (Θ := fun d => ∃ z : Int, d = .int z ∧ 1 ≤ z ∧ z ≤ mo) (Dn.ef dn_int) (ef_draw (m := 0) (Φs := fun ds => ds = [.int mo]) rfl (DnA.ef (da_cons (dn_var rfl vi) da_nil)) ?_) ?_ (by decide)) (ea_cons (Dn.ef (dn_var rfl vi)) ea_nil (by decide)) (by decide)) ?_) (ef_drawN rfl (by decide) (by decide)) ?_ (by decide)) (fun d p => p) (by decide)
      · rintro ds rfl
        exact ⟨mo, rfl, by omega, by omega⟩
      · rintro a b rfl ⟨ds, m, r, rfl, em, rfl, h0, h1⟩
        simp only [List.cons.injEq, PyData.int.injEq, and_true] at em
        refine ⟨_, ⟨1 + r, rfl, ?_, ?_⟩, rd_add⟩ <;> omega
      · rintro ds ⟨_, _, rfl, _, _, _, rfl, _, rfl⟩
        show (2 : Nat) ≤ 100000
        decide
      · rintro a b ⟨ds, rfl, _, _, rfl, ⟨z, rfl, z0, z1⟩, _, _, rfl, rfl, rfl⟩ ⟨r, rfl, h0, h1⟩
        have c : r = 0 ∨ r = 1 := by omega
        rcases c with rfl | rfl
        · exact ⟨_, ⟨z, rfl, z0, z1⟩, rd_ixL rfl⟩
        · exact ⟨_, ⟨mo, rfl, by omega, by omega⟩, rd_ixL rfl⟩
    obtain ⟨n, rfl, n0, n1⟩ := p
    obtain rfl := rp_int.mp ra
    refine ⟨Nat.zero_le _, fun L nL => ⟨.int n, .ref L, rfl, ?_⟩⟩
    have nLB : ¬ B L := k1.al.new nL
    have nLk : ¬ Bk D C L := fun z => nLB (z.elim (fun w => w ▸ k1.bD) fun w => w ▸ k1.bC)
    have nD : D ≠ L := fun z => nLk (.inl z.symm)
    have nC : C ≠ L := fun z => nLk (.inr z.symm)
    have hLH : H L = none := k1.free (dk.wd x1) nL
    replace x1 := x1.same (same_new (o := .lst []) nL)
    replace k1 := k1.same (same_new (o := .lst []) nL)
    have hL : (upd H1 L (.lst [])) L = some (.lst []) := upd_same
    dsimp only [List.set]
    generalize upd H1 L (.lst []) = H1 at x1 k1 hL
    refine se_forR (K := K) (B := B) (D := D) (C := C) (H := H1) (t := t1) (m := 1) (Φs := fun ds => ∃ j : Nat, ds = [.int j] ∧ (j : Int) ≤ ma ∧ (1 < n ∨ j = 0)) ?_ (fun ds ⟨j, e, h1, _⟩ => ⟨j, e, by omega⟩) (Xt.refl k1.al) k1 (by omega) (fun j H2 t2 x2 k2 l2 pj => ?_)
    · refine EfA.weak (ea_cons (ef_op (Θ := fun d => ∃ j : Nat, d = .int j ∧ (j : Int) ≤ ma ∧ (1 < n ∨ j = 0)) (ef_draw (m := 0) (Φs := fun ds => ds = [.int (ma + 1)]) rfl (DnA.ef (da_cons (dn_op (dn_var rfl vi) dn_int rd_add) da_nil)) ?_) (Dn.ef (dn_cb (da_cons (dn_op (dn_var rfl vi) dn_int rd_B0) da_nil) rc_intB)) ?_ (by decide)) ea_nil (by decide)) ?_ (by decide)
      · rintro ds rfl
        exact ⟨ma + 1, rfl, by omega, by omega⟩
      · rintro a b ⟨ds, m, r, rfl, em, rfl, h0, h1⟩ rfl
        simp only [List.cons.injEq, PyData.int.injEq, and_true] at em
        by_cases hn : 1 < n
        · refine ⟨_, ⟨r.toNat, rfl, by omega, .inl hn⟩, ?_⟩
          have e1 : r * (if decide (1 < n) = true then 1 else 0) = (r.toNat : Int) := by
            rw [decide_eq_true hn, if_pos rfl]
            omega
          rw [← e1]
          exact rd_I (C := CMul) (.inr ⟨by split <;> decide, by split <;> decide⟩)
        · refine ⟨_, ⟨0, rfl, by omega, .inr rfl⟩, ?_⟩
          have e1 : r * (if decide (1 < n) = true then 1 else 0) = ((0 : Nat) : Int) := by
            rw [decide_eq_false hn, if_neg (by decide)]
            omega
          rw [← e1]
          exact rd_I (C := CMul) (.inr ⟨by split <;> decide, by split <;> decide⟩)
      · rintro ds ⟨_, _, rfl, ⟨j, rfl, j0, j1⟩, rfl⟩
        exact ⟨j, rfl, j0, j1⟩
    obtain ⟨j', ej, j0, j1⟩ := pj
    simp only [List.cons.injEq, PyData.int.injEq, and_true] at ej
    obtain rfl : j = j' := by omega
    have hL2 : H2 L = some (.lst []) := x2.kp _ _ nLk hL
    refine ⟨fun i σ H' => ∃ (t' : Int) (y : Option V) (cs : List Ctr) (vs : List V), σ = [some (.ref D), some (.int mo), some (.int ma), some (.int n), some (.ref L), y] ∧ Xt (Bk D C) H H' ∧ Dk (Bp B L) H' D C t' ∧ t' ≤ t2 + 6 * i ∧
      H' L = some (.lst vs) ∧ RpA K (Bp B L) H' (cs.map Ctr.d) vs ∧ cs.length ≤ 2 * i ∧ ∀ c ∈ cs, c.Ok n, ?_, ?_, ?_⟩
    · exact ⟨t2, none, [], [], rfl, x1.trans x2, k2.grow (by rw [hL2]; simp), by omega, hL2, RpA.nil, by simp, fun c h => by simp at h⟩
    · rintro i _ H3 hi ⟨t3, y, cs, vs, rfl, x3, k3, l3, hL3, ra3, hcs, hok⟩
      have n2 : 2 ≤ n := by
        rcases j1 with h | h
        · omega
        · omega
      dsimp only [gName, List.set]
      -- found.append(counter)
      refine ⟨.ref L, rfl, .inl ⟨rfl, _, SqL.of hL3⟩, ?_⟩
      have ec : EfA K (Bp B L) D C 4 (tCons (tCall (spE K 4 PreCtr PCtr) [] E0 (tCons (tVar 0) (tCons (tVar 3) tNil))) tNil) [some (.ref D), some (.int mo), some (.int ma), some (.int n), some (.ref L), some (.int (0 + i))] H3 (fun ds => ∃ c : Ctr, ds = [c.d] ∧ c.Ok n) :=
        EfA.weak (ea_cons (ef_callE (Θ := IsCtr n) rfl (DnA.ef (da_cons (dn_var rfl vi) da_nil)) (by
          rintro ds rfl
          refine ⟨⟨n, rfl, n2, by omega⟩, fun c pc => ?_⟩
          obtain ⟨m, em, pc⟩ := pc
          simp only [List.cons.injEq, PyData.int.injEq, and_true] at em
          subst em
          exact pc) (by decide)) ea_nil (by decide)) (by
          rintro ds ⟨_, _, rfl, ⟨c, rfl, hc⟩, rfl⟩
          exact ⟨c, rfl, hc⟩) (by decide)
      refine ec H3 t3 (Xt.refl k3.al) k3 (by omega) _ fun ws ds H4 t4 x4 k4 l4 pd r4 => ?_
      obtain ⟨c, rfl, hc⟩ := pd
      obtain ⟨v, r, rfl, rv, rn⟩ := rpa_cons.mp r4
      obtain rfl := rpa_nil.mp rn
      have hL4 : H4 L = some (.lst vs) := x4.kp _ _ nLk hL3
      have ra4 := ra3.up (k3.wd x4)
      have len4 : vs.length = cs.length := by rw [← ra3.length, List.length_map]
      refine ⟨L, vs, v, rfl, rfl, hL4, Nat.lt_of_lt_of_le (show vs.length < 100000 by omega) (by decide), ?_⟩
      have k5 := k4.put (o := .lst (vs ++ [v])) nD nC
      have ra5 : RpA K (Bp B L) (upd H4 L (.lst (vs ++ [v]))) ((cs ++ [c]).map Ctr.d) (vs ++ [v]) := by
        rw [List.map_append]
        exact RpA.append (ra4.up (xt_put k4.al)) (.cons (rv.up (xt_put k4.al)) .nil)
      have x5 : Xt (Bk D C) H (upd H4 L (.lst (vs ++ [v]))) := xt_keep (x3.trans x4) hLH nD nC
      have hL5 : (upd H4 L (.lst (vs ++ [v]))) L = some (.lst (vs ++ [v])) := upd_same
      have ok5 : ∀ x ∈ cs ++ [c], x.Ok n := fun x hx => by
        rcases List.mem_append.mp hx with hx | hx
        · exact hok x hx
        · rw [List.mem_singleton.mp hx]
          exact hc
      have l5 : (cs ++ [c]).length ≤ 2 * i + 1 := by
        rw [List.length_append]
        show cs.length + 1 ≤ 2 * i + 1
        omega
      have p5 : 0 < (cs ++ [c]).length := by
        rw [List.length_append]
        show 0 < cs.length + 1
        omega
      generalize upd H4 L (.lst (vs ++ [v])) = H5 at k5 ra5 x5 hL5
      generalize cs ++ [c] = cs5 at ra5 ok5 l5 p5
      generalize vs ++ [v] = vs5 at ra5 hL5
      dsimp only
      -- if draw(deck, 6) == 0
      refine se_if (B := Bp B L) (D := D) (C := C) (H := H5) (t := t4) (m := 1) (Θ := fun _ => True) ?_ (Xt.refl k5.al) k5 (by omega) (fun H6 t6 x6 k6 l6 _ => ?_) (fun H6 t6 x6 k6 l6 _ => ?_)
      · refine et_test (K := K) (Φ := fun d => ∃ b, d = .bool b) (Ef.weak (ef_op (ef_drawN rfl (by decide) (by decide)) (Dn.ef dn_int) ?_ (by decide)) (fun d p => p) (by decide)) fun d ⟨b, e⟩ => ⟨b, e, trivial⟩
        rintro a b ⟨r, rfl, h0, h1⟩ rfl
        exact ⟨_, ⟨_, rfl⟩, rd_eqI⟩
      · have hL6 : H6 L = some (.lst vs5) := x6.kp _ _ nLk hL5
        have ra6 := ra5.up (k5.wd x6)
        have len6 : vs5.length = cs5.length := by rw [← ra6.length, List.length_map]
        refine ⟨.ref L, rfl, .inl ⟨rfl, _, SqL.of hL6⟩, .ref L, rfl, .ref D, rfl, .ref L, rfl, L, vs5, rfl, .inl (SqL.of hL6), Bp B L, D, C, t6, [.int vs5.length], [.int vs5.length], rfl, k6, by omega, RpA.cons vi .nil,
          ⟨_, rfl, by omega, by omega⟩, fun w d H7 t7 x7 k7 l7 pd rw7 => ?_⟩
        obtain ⟨m, r, em, rfl, h0, h1⟩ := pd
        simp only [List.cons.injEq, PyData.int.injEq, and_true] at em
        subst em
        obtain rfl := rp_int.mp rw7
        have hL7 : H7 L = some (.lst vs5) := x7.kp _ _ nLk hL6
        have ra7 := ra6.up (k6.wd x7)
        obtain ⟨u, rfl⟩ : ∃ u : Nat, r = (u : Int) := ⟨r.toNat, by omega⟩
        have hu : u < vs5.length := by omega
        have gu := List.getElem?_eq_getElem hu
        obtain ⟨d, gd, rd⟩ := ra7.back gu
        rw [List.getElem?_map] at gd
        cases gc : cs5[u]? with
        | none => rw [gc] at gd; cases gd
        | some c6 =>
          rw [gc] at gd
          cases gd
          refine .inl ⟨L, vs5, u, vs5[u], rfl, rfl, SqL.of hL7, atI_nat gu, L, vs5, vs5[u], rfl, rfl, hL7, Nat.lt_of_lt_of_le (show vs5.length < 100000 by omega) (by decide), ?_⟩
          refine ⟨t7, _, cs5 ++ [c6], vs5 ++ [vs5[u]], rfl, xt_keep (x5.trans (x6.trans x7)) hLH nD nC, k7.put nD nC, by omega, upd_same, ?_, ?_, fun x hx => ?_⟩
          · rw [List.map_append]
            exact RpA.append (ra7.up (xt_put k7.al)) (.cons (rd.up (xt_put k7.al)) .nil)
          · rw [List.length_append]
            show cs5.length + 1 ≤ 2 * (i + 1)
            omega
          · rcases List.mem_append.mp hx with hx | hx
            · exact ok5 x hx
            · rw [List.mem_singleton.mp hx]
              exact ok5 c6 (List.mem_of_getElem? gc)
      · exact ⟨t6, _, cs5, vs5, rfl, x5.trans x6, k6, by omega, x6.kp _ _ nLk hL5, ra5.up (k5.wd x6), by omega, ok5⟩
    · rintro _ H3 ⟨t3, y, cs, vs, rfl, x3, k3, l3, hL3, ra3, hcs, hok⟩
      have kB := k3.less bp_up k1.bD k1.bC
      have rL : Rp K B H3 (.list (cs.map Ctr.d)) (.ref L) := rp_lst.mpr ⟨L, vs, rfl, nLB, hL3, RpA.less bp_up _ _ ra3⟩
      dsimp only
      refine sd_ret (K := K) (B := B) (H := H3) (d := .tuple [.int n, .tuple (cutD (cs.map Ctr.d) none (some ma))]) ?_ (Xt.refl kB.al) ?_
      · exact dn_tup (da_cons (dn_var rfl vi) (da_cons (dn_cb (da_cons (dn_slL (dn_var rfl rL) do_none (do_some (K := K) (dn_var rfl vi))) da_nil) rc_tupL) da_nil)) (by show (2 : Nat) ≤ 100000; decide)
      · intro v H4 s4 r4
        refine q v _ H4 t3 (x3.same s4) (kB.same s4) (by omega) ⟨mo, ma, rfl, n, cs.take ma.toNat, ?_, n0, n1, ?_, fun c hc => hok c (List.mem_of_mem_take hc)⟩ r4
        · show PyData.tuple [.int n, .tuple (cutD (cs.map Ctr.d) none (some ma))] = .tuple [.int n, .tuple ((cs.take ma.toNat).map Ctr.d)]
          have e : cutD (cs.map Ctr.d) none (some ma) = (cs.map Ctr.d).take ma.toNat := by
            unfold cutD
            obtain ⟨u, rfl⟩ : ∃ u : Nat, ma = (u : Int) := ⟨ma.toNat, by omega⟩
            rw [HT.sIx_none, HT.sIx_nat, List.drop_zero, Nat.sub_zero, List.take_eq_take_iff]
            simp
          rw [e, List.map_take]
        · rw [List.length_take]
          omega
end
end CG

namespace CG
open PySem PySem.Spec PyProof.Rows L2
def PWith (ds : List PyData) (d : PyData) : Prop := ∃ (n : Int) (cs : List Ctr) (c : Ctr), ds = [boardD n cs, c.d] ∧ cs.length < 8 ∧ d = boardD n (cs ++ [c])
def RWith (ds : List PyData) : Prop := ∃ (n : Int) (cs : List Ctr) (c : Ctr), ds = [boardD n cs, c.d] ∧ 8 ≤ cs.length
def PWithout (ds : List PyData) (d : PyData) : Prop := ∃ (n : Int) (cs : List Ctr) (k : Nat), ds = [boardD n cs, .int k] ∧ cs.length ≤ 100 ∧ d = boardD n (cs.take k ++ cs.drop (k + 1))
def told (n : Int) (cs : List Ctr) (c : Ctr) : PyData := if cs.length < 8 then boardD n (cs ++ [c]) else .list [.str "many"]
def PTold (ds : List PyData) (d : PyData) : Prop := ∃ (n : Int) (cs : List Ctr) (c : Ctr), ds = [boardD n cs, c.d] ∧ d = told n cs c
section
variable {P : Program} {w : World} {K : PySem.W.Frag} {mg : Str → Option Value} {base : Heap}
theorem ok_with {f CT : Addr} {fd : FuncData} {u8 : Value} (h : Has K mg "with_counter" sPWith_counter ["board", "counter"] f fd) (T : Bz mg) (X1 : XC K mg "TooManyCounters" CT)
    (C_MAX_COUNTERS : mg "MAX_COUNTERS" = some u8) (h8 : RelV (.int 8) u8) :
    FnG P w K mg base (L2.CX P w) 1 f fd ["board", "counter"] (spPX K CT PWith RWith) := by
  refine okGX h.F scPWith_counter (fun vs H Q E h => ?_) (fun cd A out s H vs Q E hgd hr h => ?_)
  · obtain ⟨B, ds, _, ra, h⟩ := h
    rw [← ra.length]
    rcases h with ⟨d, ⟨n, cs, c, rfl, _⟩, _⟩ | ⟨⟨n, cs, c, rfl, _⟩, _⟩ <;> rfl
  · obtain ⟨B, ds, al, ra, h⟩ := h
    obtain ⟨n, cs, c, rfl, hq⟩ : ∃ (n : Int) (cs : List Ctr) (c : Ctr), ds = [boardD n cs, c.d] ∧ ((cs.length < 8 ∧ ∀ v H', Same H H' → Rp K B H' (boardD n (cs ++ [c])) v → Q v H') ∨ (8 ≤ cs.length ∧ ∀ H', Same H H' → E (.ref CT) none H')) := by
      rcases h with ⟨d, ⟨n, cs, c, rfl, h1, rfl⟩, q⟩ | ⟨⟨n, cs, c, rfl, h1⟩, q⟩
      · exact ⟨n, cs, c, rfl, .inl ⟨h1, q⟩⟩
      · exact ⟨n, cs, c, rfl, .inr ⟨h1, q⟩⟩
    obtain ⟨x1, r, rfl, h1, h2⟩ := rpa_cons.mp ra
    obtain ⟨x2, r, rfl, h3, h4⟩ := rpa_cons.mp h2
    obtain rfl := rpa_nil.mp h4
    refine ⟨_, (pss_cons (ps_asg (pv 0) (pg_tup rfl (pgs_cons (pg_name (i := 2) scPWith_counter.nd rfl (Or.inl rfl)) (pgs_cons (pg_name (i := 3) scPWith_counter.nd rfl (Or.inl rfl)) pgs_nil))))
      (pss_cons (ps_if (pt_cmpR op_ge (pe_callB call_lenU rfl T.z_len PySem.boot_len (pa_cons (pv 3) pa_nil)) (pe_glob rfl C_MAX_COUNTERS h8) (nomark _))
        (pss_one (ps_raise rfl (takes_of rfl rfl rfl rfl) (pmk_own0 PySem.F.excBase_ValueError X1.q X1.g X1.k (raises_own X1.s X1.t) rfl)))
        pss_nil)
      (pss_one (ps_ret (pe_tup (pa_cons (pv 2) (pa_cons (pe_op op_addU (pv 3) (pe_tup (pa_cons (pv 1) pa_nil))) pa_nil))))))), ?_⟩
    refine sd_unp (K := K) (B := B) (H := H) (ds := [.int n, rowsD cs]) (dn_var rfl h1) (Xt.refl al) rfl (fun xs H1 s1 r1 => ?_)
    obtain ⟨y1, r, rfl, g1, g2⟩ := rpa_cons.mp r1
    obtain ⟨y2, r, rfl, g3, g4⟩ := rpa_cons.mp g2
    obtain rfl := rpa_nil.mp g4
    have x01 : Xt B H H1 := Xt.of al s1
    refine ⟨_, _, rfl, _, _, rfl, rfl, ?_⟩
    dsimp only [L2.start, List.set]
    refine sd_if (B := B) (H := H1) (b := decide (8 ≤ (cs.map Ctr.d).length)) ?_ (Xt.refl x01.al) (fun z H2 s2 => ?_) (fun z H2 s2 => ?_)
    · refine DnT.eq (dt_test (K := K) (dn_op (dn_cb (da_cons (dn_var rfl g3) da_nil) rc_lenT) dn_int rd_B0)) ?_
      exact decide_eq_decide.mpr (by omega)
    · have z1 := of_decide_eq_true z
      rw [List.length_map] at z1
      rcases hq with ⟨h5, _⟩ | ⟨_, q⟩
      · omega
      · exact q H2 (s1.trans s2)
    · have z1 := of_decide_eq_false z
      rw [List.length_map] at z1
      rcases hq with ⟨_, q⟩ | ⟨h5, _⟩
      · dsimp only [tNext]
        have x12 : Xt B H1 H2 := Xt.of x01.al s2
        refine sd_ret (K := K) (B := B) (H := H2) (d := boardD n (cs ++ [c])) ?_ (Xt.refl x12.al) fun v H3 s3 r3 => q v H3 (s1.trans (s2.trans s3)) r3
        unfold boardD rowsD
        rw [List.map_append]
        exact dn_tup (da_cons (dn_var rfl (g1.up x12)) (da_cons (dn_op (dn_var rfl (g3.up x12)) (dn_tup (da_cons (dn_var rfl (h3.up (x01.trans x12))) da_nil) (by show (1 : Nat) ≤ 100000; decide)) (rd_catT (by rw [List.length_map]; show cs.length + 1 ≤ 100000; omega))) da_nil)) (by show (2 : Nat) ≤ 100000; decide)
      · omega
theorem ok_without {f : Addr} {fd : FuncData} (h : Has K mg "without_counter" sPWithout_counter ["board", "index"] f fd) :
    FnG P w K mg base CX0 1 f fd ["board", "index"] (spP K PWithout) := by
  refine okG h.F scPWithout_counter (fun vs H Q E h => ?_) (fun cd A out s H vs Q E hgd hr h => ?_)
  · obtain ⟨B, ds, d, _, ra, ⟨n, cs, k, rfl, _⟩, _⟩ := h
    exact ra.length.symm
  · obtain ⟨B, ds, d, al, ra, ⟨n, cs, k, rfl, hl, rfl⟩, q⟩ := h
    obtain ⟨x1, r, rfl, h1, h2⟩ := rpa_cons.mp ra
    obtain ⟨x2, r, rfl, h3, h4⟩ := rpa_cons.mp h2
    obtain rfl := rpa_nil.mp h4
    refine ⟨_, (pss_cons (ps_asg (pv 0) (pg_tup rfl (pgs_cons (pg_name (i := 2) scPWithout_counter.nd rfl (Or.inl rfl)) (pgs_cons (pg_name (i := 3) scPWithout_counter.nd rfl (Or.inl rfl)) pgs_nil))))
      (pss_one (ps_ret (pe_tup (pa_cons (pv 2) (pa_cons (pe_op op_addU (pe_slice sl_U (pv 3) po_none (po_some (pv 1))) (pe_slice sl_U (pv 3) (po_some (pe_op op_addU (pv 1) pe_int)) po_none)) pa_nil)))))), ?_⟩
    refine sd_unp (K := K) (B := B) (H := H) (ds := [.int n, rowsD cs]) (dn_var rfl h1) (Xt.refl al) rfl (fun xs H1 s1 r1 => ?_)
    obtain ⟨y1, r, rfl, g1, g2⟩ := rpa_cons.mp r1
    obtain ⟨y2, r, rfl, g3, g4⟩ := rpa_cons.mp g2
    obtain rfl := rpa_nil.mp g4
    have x01 : Xt B H H1 := Xt.of al s1
    refine ⟨_, _, rfl, _, _, rfl, rfl, ?_⟩
    dsimp only [L2.start, List.set]
    refine sd_ret (K := K) (B := B) (H := H1) (d := boardD n (cs.take k ++ cs.drop (k + 1))) ?_ (Xt.refl x01.al) fun v H3 s3 r3 => q v H3 (s1.trans s3) r3
    have e1 : (.tuple [.int n, .tuple (cutD (cs.map Ctr.d) none (some (k : Int)) ++ cutD (cs.map Ctr.d) (some ((k + 1 : Nat) : Int)) none)] : PyData) = boardD n (cs.take k ++ cs.drop (k + 1)) := by
      unfold boardD rowsD
      rw [cutD_take, cutD_drop, List.map_append, List.map_take, List.map_drop]
    rw [← e1]
    refine dn_tup (da_cons (dn_var rfl g1) (da_cons (dn_op (dn_slT (dn_var rfl g3) do_none (do_some (K := K) (dn_var rfl (h3.up x01)))) (dn_slT (dn_var rfl g3) (do_some (K := K) (dn_op (dn_var rfl (h3.up x01)) dn_int rd_add)) do_none) (rd_catT ?_)) da_nil)) (by show (2 : Nat) ≤ 100000; decide)
    rw [cutD_take, show ((k : Int) + 1) = ((k + 1 : Nat) : Int) from rfl, cutD_drop, List.length_take, List.length_drop, List.length_map]
    omega
theorem ok_told {f fW CT CC C1 C2 C3 : Addr} {fd fdW : FuncData} (h : Has K mg "_law_told" sTold ["_law_board_here", "_law_counter_here"] f fd) (T : Bz mg)
    (T_with : Has K mg "with_counter" sPWith_counter ["board", "counter"] fW fdW) (G_with : FnG P w K mg base (L2.CX P w) 1 fW fdW ["board", "counter"] (spPX K CT PWith RWith))
    (X1 : XC K mg "TooManyCounters" CT) (gC : mg "CoinError" = some (.ref CC)) (g1 : mg "BadBoard" = some (.ref C1)) (g2 : mg "TooLong" = some (.ref C2)) (g3 : mg "TooManyKinds" = some (.ref C3))
    (ex : PySem.W.exmOne K (.ref CT) (.ref CC) = some true) (i0 : PySem.W.kitOne K (.ref CT) (.ref CT) = some true) (i1 : PySem.W.kitAny K (.ref CT) [.ref C1, .ref C2, .ref C3] = some false) :
    FnG P w K mg base CX0 2 f fd ["_law_board_here", "_law_counter_here"] (spP K PTold) := by
  refine okG h.F scTold (fun vs H Q E h => ?_) (fun cd A out s H vs Q E hgd hr h => ?_)
  · obtain ⟨B, ds, d, _, ra, ⟨n, cs, c, rfl, _⟩, _⟩ := h
    exact ra.length.symm
  · obtain ⟨B, ds, d, al, ra, ⟨n, cs, c, rfl, rfl⟩, q⟩ := h
    obtain ⟨x1, r, rfl, h1, h2⟩ := rpa_cons.mp ra
    obtain ⟨x2, r, rfl, h3, h4⟩ := rpa_cons.mp h2
    obtain rfl := rpa_nil.mp h4
    refine ⟨_, (pss_one (ps_try_as (i := 2) rfl rfl scTold.nd rfl rfl ⟨rfl, by decide, .inl gC⟩ takes0
      (fun W pn xe tk _ => pss_one (ps_ret (pe_callSG G_with hgd (hr.mono (by decide)) rfl T_with.m T_with.F.kp T_with.b (fun σ => passAt tk σ) (pa_cons (pv 0) (pa_cons (pv 1) pa_nil)))))
      (fun a oe cls d pn hz hf => pss_one (ps_ret (pe_op (r := rMulU K) op_mulU (pe_lst (pa_cons pe_str pa_nil)) (pe_callTy call_intU rfl T.z_int boot_intU (pa_cons (pe_and (pe_callB (call_isX hz hf) rfl T.z_isinstance boot_isinstance (pa_cons (pv 2) (pa_cons (pe_ref rfl X1.g) pa_nil)))
        (pe_one (pe_not (pe_callB (call_isX hz hf) rfl T.z_isinstance boot_isinstance (pa_cons (pv 2) (pa_cons (pe_tup (pa_cons (pe_ref rfl g1) (pa_cons (pe_ref rfl g2) (pa_cons (pe_ref rfl g3) pa_nil)))) pa_nil)))))) pa_nil))))))), ?_⟩
    refine ⟨x1, rfl, x2, rfl, B, [boardD n cs, c.d], al, ra, ?_⟩
    by_cases hl : cs.length < 8
    · refine .inl ⟨_, ⟨n, cs, c, rfl, hl, rfl⟩, fun v H' s1 r1 => q v H' s1 ?_⟩
      unfold told
      rw [if_pos hl]
      exact r1
    · refine .inr ⟨⟨n, cs, c, rfl, by omega⟩, fun H1 s1 => ⟨true, ex, fun _ a na => ?_, fun z => nomatch z⟩⟩
      have x01 : Xt B H H1 := Xt.of al s1
      refine sd_ret (K := K) (B := B) (H := H1) (d := .list [.str "many"]) ?_ (Xt.refl x01.al) fun v H' s2 r2 => q v H' (s1.trans s2) ?_
      · exact dn_op (dn_lst (da_cons dn_str da_nil) (by decide)) (dn_cb (da_cons (dn_and (dn_isC X1.c rfl i0) fun _ => dn_not (dn_isT (cs := [C1, C2, C3]) X1.c rfl (fun _ _ q => q) (by show (3 : Nat) ≤ 1000; decide) i1)) da_nil) rc_intB) (rd_repL (by decide) (by decide) (by decide))
      · unfold told
        rw [if_neg hl]
        exact r2
end
end CG

namespace CG
open PySem PySem.Spec PyProof.Rows L2
theorem draw3 (i : Nat) : ∃ m : Int, atI [PyData.int 4, .int 2, .int 3] ((0 + (i : Int)) % 3) = some (.int m) ∧ 1 ≤ m ∧ m ≤ 4 := by
  have c : (0 + (i : Int)) % 3 = 0 ∨ (0 + (i : Int)) % 3 = 1 ∨ (0 + (i : Int)) % 3 = 2 := by omega
  rcases c with e | e | e
  · exact ⟨4, by rw [e]; rfl, by decide, by decide⟩
  · exact ⟨2, by rw [e]; rfl, by decide, by decide⟩
  · exact ⟨3, by rw [e]; rfl, by decide, by decide⟩
theorem flat_rep (m : Nat) (x : PyData) : (List.replicate m [x]).flatten = List.replicate m x := by
  induction m with
  | zero => rfl
  | succ m ih => rw [List.replicate_succ, List.flatten_cons, ih, List.replicate_succ]; rfl
theorem rows_more (cs : List Ctr) (c : Ctr) (k : Nat) : cutD (cs.map Ctr.d ++ (List.replicate k [c.d]).flatten) none (some (k : Int)) = ((cs ++ List.replicate k c).take k).map Ctr.d := by
  rw [cutD_take, flat_rep, List.map_take, List.map_append, List.map_replicate]
theorem shw_two {d : PyData} {n m : Nat} (h : Sm n m d) (hn : n ≤ 59) (hm : m ≤ 400000) : Shw (.list [d, d]) :=
  Sm.mono (sm_lst (n := n) (m := m) fun x hx => by
    simp only [List.mem_cons, List.not_mem_nil, or_false, or_self] at hx
    rw [hx]
    exact h) (by omega) (by show 2 * m + 2 * 2 + 3 ≤ 1000000; omega)
theorem sm_many : Sm 3 200020 (.list [.str "many"]) :=
  Sm.mono (sm_lst (n := 0) (m := 100) fun x hx => by
    simp only [List.mem_cons, List.not_mem_nil, or_false] at hx
    rw [hx]
    exact ⟨by decide +kernel, by decide +kernel, by decide +kernel, by decide +kernel⟩) (by decide) (by decide)
theorem sm_told {n : Int} {cs : List Ctr} {c : Ctr} (h : ∀ x ∈ cs, x.Ok n) (hc : c.Ok n) (h0 : 0 ≤ n) (h1 : n ≤ 100) : Sm 3 200020 (told n cs c) := by
  unfold told
  split
  · refine sm_board (fun x hx => ?_) h0 h1 ?_
    · rcases List.mem_append.mp hx with hx | hx
      · exact h x hx
      · rw [List.mem_singleton.mp hx]
        exact hc
    · rw [List.length_append]
      show cs.length + 1 ≤ 100
      omega
  · exact sm_many
section
variable {P : Program} {w : World} {K : PySem.W.Frag} {mg : Str → Option Value} {base : Heap}
def spLaw (K : PySem.W.Frag) : Sp := fun vs H Q _ => ∃ (a : Addr) (ns : List Int), vs = [.ref a] ∧ SqL K H a (ns.map V.int) ∧ ∀ H', Q (.bl true) H'
theorem ok_law {f f1 f3 f4 f5 f6 f7 : Addr} {fd fd1 fd3 fd4 fd5 fd6 fd7 : FuncData} (h : Has K mg "law" sLaw ["_law_script"] f fd) (T : Bz mg)
    (T_deck : Has K mg "_law_deck" sDeck ["_law_script"] f1 fd1) (T_same : Has K mg "_law_same" sSame ["_law_value", "_law_due"] f3 fd3) (T_counter : Has K mg "_law_counter" sCounter ["_law_deck_here", "_law_kinds"] f4 fd4) (T_board : Has K mg "_law_board" sBoard ["_law_deck_here", "_law_most", "_law_many"] f5 fd5) (T_told : Has K mg "_law_told" sTold ["_law_board_here", "_law_counter_here"] f6 fd6) (T_without : Has K mg "without_counter" sPWithout_counter ["board", "index"] f7 fd7)
    (G_deck : FnG P w K mg base CX0 1 f1 fd1 ["_law_script"] (spDeck K)) (G_same : FnG P w K mg base CX0 1 f3 fd3 ["_law_value", "_law_due"] (spP K PSame))
    (G_counter : FnG P w K mg base CX0 2 f4 fd4 ["_law_deck_here", "_law_kinds"] (spE K 4 PreCtr PCtr)) (G_board : FnG P w K mg base CX0 3 f5 fd5 ["_law_deck_here", "_law_most", "_law_many"] (spE K 1000 PreBoard PBoard))
    (G_told : FnG P w K mg base CX0 2 f6 fd6 ["_law_board_here", "_law_counter_here"] (spP K PTold)) (G_without : FnG P w K mg base CX0 1 f7 fd7 ["board", "index"] (spP K PWithout)) :
    FnG P w K mg base CX0 4 f fd ["_law_script"] (spLaw K) := by
  refine okG h.F scLaw (fun vs H Q E h => ?_) (fun cd A out s H vs Q E hgd hr h => ?_)
  · obtain ⟨a, ns, rfl, _⟩ := h
    rfl
  · obtain ⟨a, ns, rfl, hS, q⟩ := h
    refine ⟨_, (pss_cons (ps_set (i := 1) scLaw.nd rfl (Or.inl rfl) (pe_callG G_deck hgd (hr.mono (by decide)) rfl T_deck.m T_deck.F.kp T_deck.b .nil pass0 (pa_cons (pv 0) pa_nil)))
      (pss_cons (ps_for PassesOwn.never rfl (pi_range1 rfl T.z_range (pa_cons pe_int pa_nil)) (pg_name (i := 2) scLaw.nd rfl (Or.inl rfl))
        (pss_cons (ps_set (i := 3) scLaw.nd rfl (Or.inr rfl) (pe_callG G_board hgd (hr.mono (by decide)) rfl T_board.m T_board.F.kp T_board.b .nil pass0 (pa_cons (pv 1) (pa_cons (pe_ix (r := rIx K) ix_seq (pe_lst (pa_cons pe_int (pa_cons pe_int (pa_cons pe_int pa_nil)))) (pe_op op_mod (pv 2) pe_int) (fun _ _ => rfl)) (pa_cons pe_int pa_nil)))))
        (pss_cons (ps_set (i := 4) scLaw.nd rfl (Or.inl rfl) (pe_callB (r := rRepr K) (call_reprD hgd hr.units) rfl T.z_repr boot_repr (pa_cons (pv 3) pa_nil)))
        (pss_mid (ps_if (pt_cmpR op_gt (pe_ix (r := rIx K) ix_seq (pv 3) pe_int (fun _ _ => rfl)) pe_int (nomark _))
          (pss_cons (ps_set (i := 5) scLaw.nd rfl (Or.inr rfl) (pe_callG G_counter hgd (hr.mono (by decide)) rfl T_counter.m T_counter.F.kp T_counter.b .nil pass0 (pa_cons (pv 1) (pa_cons (pe_ix (r := rIx K) ix_seq (pv 3) pe_int (fun _ _ => rfl)) pa_nil))))
          (pss_one (ps_for PassesOwn.never rfl (pi_list (pe_lst (pa_cons (pe_ix (r := rIx K) ix_seq (pv 3) pe_int (fun _ _ => rfl)) (pa_cons (pe_slice (r := rSlU K) sl_U (pe_op (r := rAddU K) op_addU (pe_ix (r := rIx K) ix_seq (pv 3) pe_int (fun _ _ => rfl)) (pe_op (r := rMulU K) op_mulU (pe_tup (pa_cons (pv 5) pa_nil)) pe_int)) po_none (po_some pe_int)) (pa_cons (pe_slice (r := rSlU K) sl_U (pe_op (r := rAddU K) op_addU (pe_ix (r := rIx K) ix_seq (pv 3) pe_int (fun _ _ => rfl)) (pe_op (r := rMulU K) op_mulU (pe_tup (pa_cons (pv 5) pa_nil)) pe_int)) po_none (po_some pe_int)) (pa_cons (pe_tup pa_nil) pa_nil)))))) (pg_name (i := 6) scLaw.nd rfl (Or.inr rfl))
            (pss_cons (ps_set (i := 7) scLaw.nd rfl (Or.inl rfl) (pe_ifExp (pt_cmpR op_lt (pe_callB (r := rLenU K) call_lenU rfl T.z_len PySem.boot_len (pa_cons (pv 6) pa_nil)) pe_int (nomark _)) (pe_tup (pa_cons (pe_ix (r := rIx K) ix_seq (pv 3) pe_int (fun _ _ => rfl)) (pa_cons (pe_op (r := rAddU K) op_addU (pv 6) (pe_tup (pa_cons (pv 5) pa_nil))) pa_nil))) (pe_lst (pa_cons pe_str pa_nil))))
            (pss_cons (ps_setLc (i := 8)  (own := [("_law_again", 10)]) rfl scLaw.nd rfl rfl (sw_true rfl rfl rfl (by decide +kernel)) (pi_range1 rfl T.z_range (pa_cons pe_int pa_nil)) (blkOk_by (N := NscLaw) (sc := defScope sLaw) (by decide +kernel)) (fun _ _ _ _ _ => (pg_name (i := 10) scLaw.nd rfl (Or.inl rfl))) (fun _ _ _ _ _ => pts_nil) (fun _ _ _ _ _ => (pe_callG G_told hgd (hr.mono (by decide)) rfl T_told.m T_told.F.kp T_told.b .nil pass0 (pa_cons (pe_tup (pa_cons (pe_ix (r := rIx K) ix_seq (pv 3) pe_int (fun _ _ => rfl)) (pa_cons (pv 6) pa_nil))) (pa_cons (pv 5) pa_nil)))))
            (pss_one (ps_if (pt_not (pt_val (pe_callG G_same hgd (hr.mono (by decide)) rfl T_same.m T_same.F.kp T_same.b .nil pass0 (pa_cons (pv 8) (pa_cons (pe_lst (pa_cons (pv 7) (pa_cons (pv 7) pa_nil))) pa_nil)))))
              (pss_one (ps_ret pe_bl))
              pss_nil)))))))
          pss_nil)
        (pss_cons (ps_for PassesOwn.never rfl (pi_range1 rfl T.z_range (pa_cons (pe_callB (r := rLenU K) call_lenU rfl T.z_len PySem.boot_len (pa_cons (pe_ix (r := rIx K) ix_seq (pv 3) pe_int (fun _ _ => rfl)) pa_nil)) pa_nil)) (pg_name (i := 9) scLaw.nd rfl (Or.inr rfl))
          (pss_cons (ps_set (i := 7) scLaw.nd rfl (Or.inl rfl) (pe_tup (pa_cons (pe_ix (r := rIx K) ix_seq (pv 3) pe_int (fun _ _ => rfl)) (pa_cons (pe_op (r := rAddU K) op_addU (pe_slice (r := rSlU K) sl_U (pe_ix (r := rIx K) ix_seq (pv 3) pe_int (fun _ _ => rfl)) po_none (po_some (pv 9))) (pe_slice (r := rSlU K) sl_U (pe_ix (r := rIx K) ix_seq (pv 3) pe_int (fun _ _ => rfl)) (po_some (pe_op (r := rAddU K) op_addU (pv 9) pe_int)) po_none)) pa_nil))))
          (pss_one (ps_if (pt_not (pt_val (pe_callG G_same hgd (hr.mono (by decide)) rfl T_same.m T_same.F.kp T_same.b .nil pass0 (pa_cons (pe_lc (own := [("_law_again", 10)]) rfl scLaw.nd (pi_range1 rfl T.z_range (pa_cons pe_int pa_nil)) (blkOk_by (N := NscLaw) (sc := defScope sLaw) (by decide +kernel)) (fun _ _ _ _ _ => (pg_name (i := 10) scLaw.nd rfl (Or.inl rfl))) (fun _ _ _ _ _ => pts_nil) (fun _ _ _ _ _ => (pe_callG G_without hgd (hr.mono (by decide)) rfl T_without.m T_without.F.kp T_without.b .nil pass0 (pa_cons (pv 3) (pa_cons (pv 9) pa_nil))))) (pa_cons (pe_lst (pa_cons (pv 7) (pa_cons (pv 7) pa_nil))) pa_nil)))))
            (pss_one (ps_ret pe_bl))
            pss_nil))))
        (pss_one (ps_if (pt_cmpR op_ne (pe_callB (r := rRepr K) (call_reprD hgd hr.units) rfl T.z_repr boot_repr (pa_cons (pv 3) pa_nil)) (pv 4) (nomark _))
          (pss_one (ps_ret pe_bl))
          pss_nil)))))))
      (pss_one (ps_ret pe_bl)))), ?_⟩
    refine ⟨.ref a, rfl, a, ns, rfl, hS, fun D C H1 s1 nD nC dk => ?_⟩
    dsimp only [L2.start, List.set]
    generalize hB : (fun a => a = D ∨ a = C) = B at dk
    have vi : ∀ {B' : Addr → Prop} {H' : Hp} {z : Int}, Rp K B' H' (.int z) (.int z) := rp_int.mpr rfl
    refine sd_forR (K := K) (B := B) (H := H1) (n := 10) (da_cons dn_int da_nil) (by decide) (Xt.refl dk.al) (fun H2 s2 => ?_)
    have dk2 := dk.same s2
    refine ⟨fun i σ H' => ∃ (t : Int) (y2 y3 y4 y5 y6 y7 y8 y9 y10 : Option V), σ = [some (.ref a), some (.ref D), y2, y3, y4, y5, y6, y7, y8, y9, y10] ∧ Dk B H' D C t ∧ t ≤ 1100 * i, ?_, ?_, ?_⟩
    · exact ⟨0, none, none, none, none, none, none, none, none, none, rfl, dk2, by omega⟩
    · rintro i _ H3 hi ⟨t3, y2, y3, y4, y5, y6, y7, y8, y9, y10, rfl, k3, l3⟩
      dsimp only [gName, List.set]
      obtain ⟨m, hm, m0, m1⟩ := draw3 i
      -- board
      refine se_set (K := K) (B := B) (D := D) (C := C) (H := H3) (t := t3) (m := 1000) (Φ := IsBoard 4 8) ?_ (Xt.refl k3.al) k3 (by unfold Lim; omega) (fun vb d H4 t4 x4 k4 l4 pd rb => ?_)
      · refine Ef.weak (ef_callE rfl (DnA.ef (da_cons (dn_op (dn_lst (da_cons dn_int (da_cons dn_int (da_cons dn_int da_nil))) (by decide)) (dn_op (dn_var rfl vi) dn_int (rd_I (by decide))) (rd_ixL hm)) (da_cons dn_int da_nil))) ?_ (by decide)) (fun d p => p) (by decide)
        rintro ds rfl
        refine ⟨⟨m, 8, rfl, m0, m1, by decide, by decide⟩, fun c pc => ?_⟩
        obtain ⟨a', b', e, n, cs, rfl, p1, p2, p3, p4⟩ := pc
        simp only [List.cons.injEq, PyData.int.injEq, and_true] at e
        obtain ⟨rfl, rfl⟩ := e
        exact ⟨n, cs, rfl, p1, by omega, p3, p4⟩
      obtain ⟨n, cs, rfl, n0, n4, lcs, hcs⟩ := pd
      have lc8 : cs.length ≤ 8 := by omega
      dsimp only [List.set]
      have shB : Shw (boardD n cs) := (sm_board hcs (by omega) (by omega) (by omega)).mono (by decide) (by decide)
      -- before
      refine sd_set (K := K) (B := B) (H := H4) (d := .str (boardD n cs).shown) (dn_cb (da_cons (dn_var rfl rb) da_nil) (rc_repr shB)) (Xt.refl k4.al) (fun ve H5 s5 r5 => ?_)
      obtain rfl := rp_str.mp r5
      have k5 := k4.same s5
      have rb5 := rb.up (Xt.of k4.al s5)
      dsimp only [List.set]
      have ixn : ∀ {σ : L2.St} {H' : Hp}, σ[3]? = some (some vb) → Xt B H5 H' → Dn K B (tOp (rIx K) (tVar 3) (tC (.int 0))) σ H' (.int n) := fun h x => dn_op (dn_var h (rb5.up x)) dn_int (rd_ixT rfl)
      have ixr : ∀ {σ : L2.St} {H' : Hp}, σ[3]? = some (some vb) → Xt B H5 H' → Dn K B (tOp (rIx K) (tVar 3) (tC (.int 1))) σ H' (rowsD cs) := fun h x => dn_op (dn_var h (rb5.up x)) dn_int (rd_ixT rfl)
      -- if board[0] > 1
      refine ⟨fun σ H' => ∃ (t : Int) (y5 y6 y7 y8 y9 y10 : Option V), σ = [some (.ref a), some (.ref D), some (.int (0 + i)), some vb, some (.str (boardD n cs).shown), y5, y6, y7, y8, y9, y10] ∧ Xt B H5 H' ∧ Dk B H' D C t ∧ t ≤ t4 + 4, ?_, ?_⟩
      · refine sd_if (B := B) (H := H5) (b := decide (1 < n)) (dt_test (K := K) (dn_op (ixn rfl (Xt.refl k5.al)) dn_int rd_B0)) (Xt.refl k5.al) (fun z H6 s6 => ?_) (fun z H6 s6 => ?_)
        · have n2 := of_decide_eq_true z
          have k6 := k5.same s6
          have x6 : Xt B H5 H6 := Xt.of k5.al s6
          -- counter
          refine se_set (K := K) (B := B) (D := D) (C := C) (H := H6) (t := t4) (m := 4) (Φ := IsCtr n) ?_ (Xt.refl k6.al) k6 (by unfold Lim; omega) (fun vc d H7 t7 x7 k7 l7 pd rc => ?_)
          · refine Ef.weak (ef_callE rfl (DnA.ef (da_cons (ixn rfl x6) da_nil)) ?_ (by decide)) (fun d p => p) (by decide)
            rintro ds rfl
            refine ⟨⟨n, rfl, by omega, by omega⟩, fun c pc => ?_⟩
            obtain ⟨m', e, pc⟩ := pc
            simp only [List.cons.injEq, PyData.int.injEq, and_true] at e
            subst e
            exact pc
          obtain ⟨c, rfl, hc⟩ := pd
          have x57 : Xt B H5 H7 := x6.trans (k6.wd x7)
          dsimp only [List.set]
          -- for rows
          refine sd_forL (K := K) (B := B) (H := H7) (ds := [cs, (cs ++ List.replicate 8 c).take 8, (cs ++ List.replicate 7 c).take 7, []].map rowsD) ?_ (Xt.refl k7.al) (fun H8 s8 => ?_)
          · have one : ∀ {σ : L2.St}, σ[5]? = some (some vc) → Dn K B (tTup (tCons (tVar 5) tNil)) σ H7 (.tuple [c.d]) := fun h => dn_tup (da_cons (dn_var h rc) da_nil) (by show (1 : Nat) ≤ 100000; decide)
            have e8 := rows_more cs c 8
            have e7 := rows_more cs c 7
            refine dn_lst (da_cons (ixr rfl x57) (da_cons ?_ (da_cons ?_ (da_cons (dn_tup da_nil (by decide)) da_nil)))) (by show (4 : Nat) ≤ 100000; decide)
            · unfold rowsD
              rw [← e8]
              exact dn_slT (dn_op (ixr rfl x57) (dn_op (one rfl) dn_int (rd_repT (by simp) (by decide) (by decide) (by show (1 : Nat) ≤ 1000; decide))) (rd_catT (by rw [List.length_map]; show cs.length + 8 ≤ 100000; omega))) do_none (do_some (K := K) dn_int)
            · unfold rowsD
              rw [← e7]
              exact dn_slT (dn_op (ixr rfl x57) (dn_op (one rfl) dn_int (rd_repT (by simp) (by decide) (by decide) (by show (1 : Nat) ≤ 1000; decide))) (rd_catT (by rw [List.length_map]; show cs.length + 7 ≤ 100000; omega))) do_none (do_some (K := K) dn_int)
          have k8 := k7.same s8
          have allOk : ∀ rs ∈ [cs, (cs ++ List.replicate 8 c).take 8, (cs ++ List.replicate 7 c).take 7, []], rs.length ≤ 8 ∧ ∀ x ∈ rs, x.Ok n := by
            have both : ∀ k : Nat, ∀ x ∈ (cs ++ List.replicate k c).take k, x.Ok n := fun k x hx => by
              rcases List.mem_append.mp (List.mem_of_mem_take hx) with hx | hx
              · exact hcs x hx
              · rw [List.eq_of_mem_replicate hx]
                exact hc
            intro rs hrs
            simp only [List.mem_cons, List.not_mem_nil, or_false] at hrs
            rcases hrs with rfl | rfl | rfl | rfl
            · exact ⟨lc8, hcs⟩
            · exact ⟨by rw [List.length_take]; omega, both 8⟩
            · exact ⟨by rw [List.length_take]; omega, both 7⟩
            · exact ⟨by decide, fun x hx => by simp at hx⟩
          refine ⟨fun _ σ H' => ∃ (y6 y7 y8 y9 y10 : Option V), σ = [some (.ref a), some (.ref D), some (.int (0 + i)), some vb, some (.str (boardD n cs).shown), some vc, y6, y7, y8, y9, y10] ∧ Same H8 H', ?_, ?_, ?_, ?_⟩
          · exact ⟨y6, y7, y8, y9, y10, rfl, Same.refl H8⟩
          · rintro _ _ H' ⟨_, _, _, _, _, rfl, sx⟩
            exact Xt.of k8.al sx
          · rintro j d v _ H9 gd rv ⟨y6, y7, y8, y9, y10, rfl, s9⟩
            rw [List.getElem?_map] at gd
            obtain ⟨rs, hrs, rfl⟩ : ∃ rs, rs ∈ [cs, (cs ++ List.replicate 8 c).take 8, (cs ++ List.replicate 7 c).take 7, []] ∧ d = rowsD rs := by
              cases e : ([cs, (cs ++ List.replicate 8 c).take 8, (cs ++ List.replicate 7 c).take 7, []] : List (List Ctr))[j]? with
              | none => rw [e] at gd; cases gd
              | some rs =>
                rw [e] at gd
                cases gd
                exact ⟨rs, List.mem_of_getElem? e, rfl⟩
            obtain ⟨lrs, okrs⟩ := allOk rs hrs
            have al9 := k8.al.same s9
            have x79 : Xt B H7 H9 := (Xt.of k7.al s8).same s9
            have rc9 := rc.up x79
            have x59 : Xt B H5 H9 := x57.trans x79
            dsimp only [gName, List.set]
            -- due
            refine sd_set (K := K) (B := B) (H := H9) (d := told n rs c) ?_ (Xt.refl al9) (fun vd H10 s10 r10 => ?_)
            · refine dn_ifx (b := decide (rs.length < 8)) (DnT.eq (dt_test (K := K) (dn_op (dn_cb (da_cons (dn_var rfl rv) da_nil) rc_lenT) dn_int rd_B0)) (decide_eq_decide.mpr (by rw [List.length_map]; omega))) (fun z => ?_) (fun z => ?_)
              · have z1 := of_decide_eq_true z
                unfold told
                rw [if_pos z1]
                unfold boardD rowsD
                rw [List.map_append]
                exact dn_tup (da_cons (ixn rfl x59) (da_cons (dn_op (dn_var rfl rv) (dn_tup (da_cons (dn_var rfl rc9) da_nil) (by show (1 : Nat) ≤ 100000; decide)) (rd_catT (by rw [List.length_map]; show rs.length + 1 ≤ 100000; omega))) da_nil)) (by show (2 : Nat) ≤ 100000; decide)
              · have z1 := of_decide_eq_false z
                unfold told
                rw [if_neg z1]
                exact dn_lst (da_cons dn_str da_nil) (by decide)
            dsimp only [List.set]
            have al10 := al9.same s10
            have x910 : Xt B H9 H10 := Xt.of al9 s10
            -- found
            refine sd_set (K := K) (B := B) (H := H10) (d := .list [told n rs c, told n rs c]) ?_ (Xt.refl al10) (fun vf H11 s11 r11 => ?_)
            · refine dn_lcR (n := 2) (da_cons dn_int da_nil) (by decide) rfl fun B' gw k e ge => ?_
              have ee : e = told n rs c := by
                match k, ge with
                | 0, ge => exact (Option.some.inj ge).symm
                | 1, ge => exact (Option.some.inj ge).symm
                | k + 2, ge => simp at ge
              subst ee
              have rb' := Rp.grow gw _ _ (rb5.up (x59.trans x910))
              refine dn_call (ds := [boardD n rs, c.d]) (da_cons (dn_tup (da_cons (dn_op (dn_var rfl rb') dn_int (rd_ixT rfl)) (da_cons (dn_var rfl (Rp.grow gw _ _ (rv.up x910))) da_nil)) (by show (2 : Nat) ≤ 100000; decide)) (da_cons (dn_var rfl (Rp.grow gw _ _ (rc9.up x910))) da_nil)) ⟨n, rs, c, rfl, rfl⟩
            dsimp only [List.set]
            have al11 := al10.same s11
            have sh2 : Shw (.list [told n rs c, told n rs c]) := shw_two (sm_told okrs hc (by omega) (by omega)) (by decide) (by decide)
            refine sd_if (B := B) (H := H11) (b := false) ?_ (Xt.refl al11) (fun z => by cases z) (fun _ H12 s12 => ?_)
            · have r10' := r10.up (Xt.of al10 s11)
              exact dt_not (b := true) (dt_B (K := K) (dn_call (da_cons (dn_var rfl r11) (da_cons (dn_lst (da_cons (dn_var rfl r10') (da_cons (dn_var rfl r10') da_nil)) (by show (2 : Nat) ≤ 100000; decide)) da_nil)) ⟨_, _, rfl, sh2, sh2, by rw [decide_eq_true rfl]⟩))
            · exact ⟨_, _, _, _, _, rfl, s9.trans (s10.trans (s11.trans s12))⟩
          · rintro _ H9 ⟨y6, y7, y8, y9, y10, rfl, s9⟩
            have s79 : Same H7 H9 := fun b o e => s9 b o (s8 b o e)
            exact ⟨t7, _, _, _, _, _, _, rfl, x57.same s79, k7.same s79, by omega⟩
        · exact ⟨t4, _, _, _, _, _, _, rfl, Xt.of k5.al s6, k5.same s6, by omega⟩
      · rintro _ H6 ⟨t6, y5, y6, y7, y8, y9, y10, rfl, x6, k6, l6⟩
        have rb6 := rb5.up x6
        -- for index
        refine sd_forR (K := K) (B := B) (H := H6) (n := cs.length) (da_cons (Dn.eq (dn_cb (da_cons (ixr rfl x6) da_nil) rc_lenT) (by rw [List.length_map])) da_nil) (by omega) (Xt.refl k6.al) (fun H7 s7 => ?_)
        have k7 := k6.same s7
        refine ⟨fun _ σ H' => ∃ (y7 y8 y9 y10 : Option V), σ = [some (.ref a), some (.ref D), some (.int (0 + i)), some vb, some (.str (boardD n cs).shown), y5, y6, y7, y8, y9, y10] ∧ Same H6 H', ?_, ?_, ?_⟩
        · exact ⟨y7, y8, y9, y10, rfl, s7⟩
        · rintro j _ H8 hj ⟨y7, y8, y9, y10, rfl, s8⟩
          have x8 : Xt B H5 H8 := x6.same s8
          have al8 := k6.al.same s8
          dsimp only [gName, List.set]
          have e1 : (.tuple [.int n, .tuple (cutD (cs.map Ctr.d) none (some (0 + (j : Int))) ++ cutD (cs.map Ctr.d) (some (0 + (j : Int) + 1)) none)] : PyData) = boardD n (cs.take j ++ cs.drop (j + 1)) := by
            unfold boardD rowsD
            rw [show (0 + (j : Int)) = ((j : Nat) : Int) by omega, show ((j : Int) + 1) = ((j + 1 : Nat) : Int) from rfl, cutD_take, cutD_drop, List.map_append, List.map_take, List.map_drop]
          -- due
          refine sd_set (K := K) (B := B) (H := H8) (d := boardD n (cs.take j ++ cs.drop (j + 1))) ?_ (Xt.refl al8) (fun vd H9 s9 r9 => ?_)
          · rw [← e1]
            refine dn_tup (da_cons (ixn rfl x8) (da_cons (dn_op (dn_slT (ixr rfl x8) do_none (do_some (K := K) (dn_var rfl vi))) (dn_slT (ixr rfl x8) (do_some (K := K) (dn_op (dn_var rfl vi) dn_int rd_add)) do_none) (rd_catT ?_)) da_nil)) (by show (2 : Nat) ≤ 100000; decide)
            rw [show (0 + (j : Int)) = ((j : Nat) : Int) by omega, show ((j : Int) + 1) = ((j + 1 : Nat) : Int) from rfl, cutD_take, cutD_drop, List.length_take, List.length_drop, List.length_map]
            omega
          dsimp only [List.set]
          have al9 := al8.same s9
          have x9 : Xt B H5 H9 := x8.same s9
          have okj : ∀ x ∈ cs.take j ++ cs.drop (j + 1), x.Ok n := fun x hx => by
            rcases List.mem_append.mp hx with hx | hx
            · exact hcs x (List.mem_of_mem_take hx)
            · exact hcs x (List.mem_of_mem_drop hx)
          have sh2 : Shw (.list [boardD n (cs.take j ++ cs.drop (j + 1)), boardD n (cs.take j ++ cs.drop (j + 1))]) :=
            shw_two (sm_board okj (by omega) (by omega) (by rw [List.length_append, List.length_take, List.length_drop]; omega)) (by decide) (by decide)
          refine sd_if (B := B) (H := H9) (b := false) ?_ (Xt.refl al9) (fun z => by cases z) (fun _ H10 s10 => ?_)
          · refine dt_not (b := true) (dt_B (K := K) (dn_call (da_cons (dn_lcR (n := 2) (es := [boardD n (cs.take j ++ cs.drop (j + 1)), boardD n (cs.take j ++ cs.drop (j + 1))]) (da_cons dn_int da_nil) (by decide) rfl fun B' gw k e ge => ?_) (da_cons (dn_lst (da_cons (dn_var rfl r9) (da_cons (dn_var rfl r9) da_nil)) (by show (2 : Nat) ≤ 100000; decide)) da_nil)) ⟨_, _, rfl, sh2, sh2, by rw [decide_eq_true rfl]⟩))
            have ee : e = boardD n (cs.take j ++ cs.drop (j + 1)) := by
              match k, ge with
              | 0, ge => exact (Option.some.inj ge).symm
              | 1, ge => exact (Option.some.inj ge).symm
              | k + 2, ge => simp at ge
            subst ee
            refine dn_call (ds := [boardD n cs, .int (0 + j)]) (da_cons (dn_var rfl (Rp.grow gw _ _ (rb5.up x9))) (da_cons (dn_var rfl vi) da_nil)) ⟨n, cs, j, ?_, by omega, rfl⟩
            rw [show (0 + (j : Int)) = ((j : Nat) : Int) by omega]
          · exact ⟨_, _, _, _, rfl, s8.trans (s9.trans s10)⟩
        · rintro _ H8 ⟨y7, y8, y9, y10, rfl, s8⟩
          have k8 := k6.same s8
          have x8 : Xt B H5 H8 := x6.same s8
          dsimp only
          refine sd_if (B := B) (H := H8) (b := false) ?_ (Xt.refl k8.al) (fun z => by cases z) (fun _ H9 s9 => ?_)
          · refine DnT.eq (dt_test (K := K) (dn_op (dn_cb (da_cons (dn_var rfl (rb5.up x8)) da_nil) (rc_repr shB)) (dn_var rfl (rp_str.mpr rfl)) rd_neS)) ?_
            rw [decide_eq_true rfl]
            rfl
          · exact ⟨t6, _, _, _, _, _, _, _, _, _, rfl, k8.same s9, by omega⟩
    · rintro _ H3 ⟨t3, y2, y3, y4, y5, y6, y7, y8, y9, y10, rfl, k3, l3⟩
      exact q H3
end
end CG

namespace CG
open PySem PySem.Spec PyProof.Rows L2
section
theorem all_mk {l : PySem.W.OpenLaw} {w : World} {K : PySem.W.Frag} {h : Heap} {mg : Str → Option Value} {fa f1 f2 f3 f4 f5 f6 f7 f8 f9 : Addr} (X : K.In h) (G : h.Ns mainGlobals mg) (hfa : mg "law" = some (.ref fa))
    {od1 an1 od2 an2 od3 an3 od4 an4 od5 an5 od6 an6 od7 an7 od8 an8 od9 an9 : Option Addr} {sl1 sl2 sl3 sl4 sl5 sl6 sl7 sl8 sl9 : Array (Option Value)}
    {oc1 kV1 dc1 pm1 cd1 ct1 oc2 kV2 dc2 pm2 cd2 ct2 oc3 kV3 dc3 pm3 cd3 ct3 oc4 kV4 dc4 pm4 cd4 ct4 oc5 kV5 dc5 pm5 cd5 ct5 oc6 kV6 dc6 pm6 cd6 ct6 oc7 kV7 dc7 pm7 cd7 ct7 oc8 kV8 dc8 pm8 cd8 ct8 oc9 kV9 dc9 pm9 cd9 ct9 : Value}
    {CT CC C1 C2 C3 : Addr} {tk : Tok}
    (a1 : PySem.W.nsIn K mainGlobals "_law_deck" = some (some (.ref f1)))
    (l1 : K.lookup f1 = some ⟨oc1, od1, .func (PySem.W.fnOf "_law_deck" "_law_deck" (defArgs sDeck) (defBody sDeck) (defScope sDeck) .none kV1 dc1 pm1 an1 cd1 ct1), sl1⟩)
    (c1 : PySem.W.codeIn K cd1 "_law_deck" = true) (k1 : PySem.W.keepIn K (.ref f1) = true)
    (a2 : PySem.W.nsIn K mainGlobals "_law_draw" = some (some (.ref f2)))
    (l2 : K.lookup f2 = some ⟨oc2, od2, .func (PySem.W.fnOf "_law_draw" "_law_draw" (defArgs sDraw) (defBody sDraw) (defScope sDraw) .none kV2 dc2 pm2 an2 cd2 ct2), sl2⟩)
    (c2 : PySem.W.codeIn K cd2 "_law_draw" = true) (k2 : PySem.W.keepIn K (.ref f2) = true)
    (a3 : PySem.W.nsIn K mainGlobals "_law_same" = some (some (.ref f3)))
    (l3 : K.lookup f3 = some ⟨oc3, od3, .func (PySem.W.fnOf "_law_same" "_law_same" (defArgs sSame) (defBody sSame) (defScope sSame) .none kV3 dc3 pm3 an3 cd3 ct3), sl3⟩)
    (c3 : PySem.W.codeIn K cd3 "_law_same" = true) (k3 : PySem.W.keepIn K (.ref f3) = true)
    (a4 : PySem.W.nsIn K mainGlobals "_law_counter" = some (some (.ref f4)))
    (l4 : K.lookup f4 = some ⟨oc4, od4, .func (PySem.W.fnOf "_law_counter" "_law_counter" (defArgs sCounter) (defBody sCounter) (defScope sCounter) .none kV4 dc4 pm4 an4 cd4 ct4), sl4⟩)
    (c4 : PySem.W.codeIn K cd4 "_law_counter" = true) (k4 : PySem.W.keepIn K (.ref f4) = true)
    (a5 : PySem.W.nsIn K mainGlobals "_law_board" = some (some (.ref f5)))
    (l5 : K.lookup f5 = some ⟨oc5, od5, .func (PySem.W.fnOf "_law_board" "_law_board" (defArgs sBoard) (defBody sBoard) (defScope sBoard) .none kV5 dc5 pm5 an5 cd5 ct5), sl5⟩)
    (c5 : PySem.W.codeIn K cd5 "_law_board" = true) (k5 : PySem.W.keepIn K (.ref f5) = true)
    (a6 : PySem.W.nsIn K mainGlobals "with_counter" = some (some (.ref f6)))
    (l6 : K.lookup f6 = some ⟨oc6, od6, .func (PySem.W.fnOf "with_counter" "with_counter" (defArgs sPWith_counter) (defBody sPWith_counter) (defScope sPWith_counter) .none kV6 dc6 pm6 an6 cd6 ct6), sl6⟩)
    (c6 : PySem.W.codeIn K cd6 "with_counter" = true) (k6 : PySem.W.keepIn K (.ref f6) = true)
    (a7 : PySem.W.nsIn K mainGlobals "without_counter" = some (some (.ref f7)))
    (l7 : K.lookup f7 = some ⟨oc7, od7, .func (PySem.W.fnOf "without_counter" "without_counter" (defArgs sPWithout_counter) (defBody sPWithout_counter) (defScope sPWithout_counter) .none kV7 dc7 pm7 an7 cd7 ct7), sl7⟩)
    (c7 : PySem.W.codeIn K cd7 "without_counter" = true) (k7 : PySem.W.keepIn K (.ref f7) = true)
    (a8 : PySem.W.nsIn K mainGlobals "_law_told" = some (some (.ref f8)))
    (l8 : K.lookup f8 = some ⟨oc8, od8, .func (PySem.W.fnOf "_law_told" "_law_told" (defArgs sTold) (defBody sTold) (defScope sTold) .none kV8 dc8 pm8 an8 cd8 ct8), sl8⟩)
    (c8 : PySem.W.codeIn K cd8 "_law_told" = true) (k8 : PySem.W.keepIn K (.ref f8) = true)
    (a9 : PySem.W.nsIn K mainGlobals "law" = some (some (.ref f9)))
    (l9 : K.lookup f9 = some ⟨oc9, od9, .func (PySem.W.fnOf "law" "law" (defArgs sLaw) (defBody sLaw) (defScope sLaw) .none kV9 dc9 pm9 an9 cd9 ct9), sl9⟩)
    (c9 : PySem.W.codeIn K cd9 "law" = true) (k9 : PySem.W.keepIn K (.ref f9) = true)
    (z_len : PySem.W.nsIn K mainGlobals "len" = some none)
    (z_abs : PySem.W.nsIn K mainGlobals "abs" = some none)
    (z_range : PySem.W.nsIn K mainGlobals "range" = some none)
    (z_repr : PySem.W.nsIn K mainGlobals "repr" = some none)
    (z_min : PySem.W.nsIn K mainGlobals "min" = some none)
    (z_max : PySem.W.nsIn K mainGlobals "max" = some none)
    (z_int : PySem.W.nsIn K mainGlobals "int" = some none)
    (z_tuple : PySem.W.nsIn K mainGlobals "tuple" = some none)
    (z_list : PySem.W.nsIn K mainGlobals "list" = some none)
    (z_bool : PySem.W.nsIn K mainGlobals "bool" = some none)
    (z_isinstance : PySem.W.nsIn K mainGlobals "isinstance" = some none)
    (z_enumerate : PySem.W.nsIn K mainGlobals "enumerate" = some none)
    (u_MAX_COUNTERS : PySem.W.nsIn K mainGlobals "MAX_COUNTERS" = some (some (.int 8 tk)))
    (xg : PySem.W.nsIn K mainGlobals "TooManyCounters" = some (some (.ref CT)))
    (xq : PySem.W.excIn K CT [.type "ValueError", .type "Exception", .type "BaseException", .type "object"] "ValueError.__new__" = true)
    (xk : PySem.W.keepIn K (.ref CT) = true)
    (xs : PySem.W.subIn K (.ref CT) (.type "BaseException") = some true)
    (xt : PySem.W.typeIn K (.ref CT) = some (.type "type"))
    (xc1 : PySem.W.findIn K (.ref CT) "__getattribute__" = some (some (.builtin "BaseException.__getattribute__")))
    (xc2 : PySem.W.findIn K (.ref CT) "__getattr__" = some none)
    (xc3 : PySem.W.subIn K (.ref CT) (.type "BaseException") = some true)
    (xc4 : PySem.W.hasDictIn K CT = true)
    (xc5 : PySem.W.findIn K (.ref CT) "__class__" = some (some (.builtin "object.__class__")))
    (xc6 : PySem.W.specialIn K (.builtin "object.__class__") "__get__" = some (some (.builtin "getset_descriptor.__get__")))
    (xc7 : PySem.W.takesIn K (.builtin "object.__class__") = some true)
    (xc8 : PySem.W.mroIn K CT (.type "object") = some true)
    (gCC : PySem.W.nsIn K mainGlobals "CoinError" = some (some (.ref CC)))
    (gC1 : PySem.W.nsIn K mainGlobals "BadBoard" = some (some (.ref C1)))
    (gC2 : PySem.W.nsIn K mainGlobals "TooLong" = some (some (.ref C2)))
    (gC3 : PySem.W.nsIn K mainGlobals "TooManyKinds" = some (some (.ref C3)))
    (exs : PySem.W.subIn K (.ref CT) (.ref CC) = some true)
    (exb : PySem.W.subIn K (.ref CC) (.type "BaseException") = some true)
    (exd : PySem.W.hasDictIn K CC = true)
    (ext : PySem.W.typeIn K (.ref CC) = some (.type "type"))
    (n1 : CT ≠ C1)
    (s1 : PySem.W.subIn K (.ref CT) (.ref C1) = some false)
    (d1 : PySem.W.hasDictIn K C1 = true)
    (t1 : PySem.W.typeIn K (.ref C1) = some (.type "type"))
    (n2 : CT ≠ C2)
    (s2 : PySem.W.subIn K (.ref CT) (.ref C2) = some false)
    (d2 : PySem.W.hasDictIn K C2 = true)
    (t2 : PySem.W.typeIn K (.ref C2) = some (.type "type"))
    (n3 : CT ≠ C3)
    (s3 : PySem.W.subIn K (.ref CT) (.ref C3) = some false)
    (d3 : PySem.W.hasDictIn K C3 = true)
    (t3 : PySem.W.typeIn K (.ref C3) = some (.type "type")) :
    ∃ fd : FuncData, (∀ (s : Shared) (v : Value), BindsTo s fd ⟨[v], []⟩ [("_law_script", v)]) ∧ ∀ base : Heap, K.In base → base.Ns mainGlobals mg → FnG l.prog w K mg base CX0 4 fa fd ["_law_script"] (spLaw K) := by
  have e := hfa.symm.trans (PySem.W.mg_of X G a9)
  cases e
  have F1 := fun_mk (st := sDeck) l1 c1 k1
  have T1 : Has K mg "_law_deck" sDeck ["_law_script"] f1 _ := ⟨F1, PySem.W.mg_of X G a1, F1.binds fun _ _ _ _ _ _ us hl => match us, hl with | [_], _ => rfl⟩
  have F2 := fun_mk (st := sDraw) l2 c2 k2
  have T2 : Has K mg "_law_draw" sDraw ["_law_deck_here", "_law_limit"] f2 _ := ⟨F2, PySem.W.mg_of X G a2, F2.binds fun _ _ _ _ _ _ us hl => match us, hl with | [_, _], _ => rfl⟩
  have F3 := fun_mk (st := sSame) l3 c3 k3
  have T3 : Has K mg "_law_same" sSame ["_law_value", "_law_due"] f3 _ := ⟨F3, PySem.W.mg_of X G a3, F3.binds fun _ _ _ _ _ _ us hl => match us, hl with | [_, _], _ => rfl⟩
  have F4 := fun_mk (st := sCounter) l4 c4 k4
  have T4 : Has K mg "_law_counter" sCounter ["_law_deck_here", "_law_kinds"] f4 _ := ⟨F4, PySem.W.mg_of X G a4, F4.binds fun _ _ _ _ _ _ us hl => match us, hl with | [_, _], _ => rfl⟩
  have F5 := fun_mk (st := sBoard) l5 c5 k5
  have T5 : Has K mg "_law_board" sBoard ["_law_deck_here", "_law_most", "_law_many"] f5 _ := ⟨F5, PySem.W.mg_of X G a5, F5.binds fun _ _ _ _ _ _ us hl => match us, hl with | [_, _, _], _ => rfl⟩
  have F6 := fun_mk (st := sPWith_counter) l6 c6 k6
  have T6 : Has K mg "with_counter" sPWith_counter ["board", "counter"] f6 _ := ⟨F6, PySem.W.mg_of X G a6, F6.binds fun _ _ _ _ _ _ us hl => match us, hl with | [_, _], _ => rfl⟩
  have F7 := fun_mk (st := sPWithout_counter) l7 c7 k7
  have T7 : Has K mg "without_counter" sPWithout_counter ["board", "index"] f7 _ := ⟨F7, PySem.W.mg_of X G a7, F7.binds fun _ _ _ _ _ _ us hl => match us, hl with | [_, _], _ => rfl⟩
  have F8 := fun_mk (st := sTold) l8 c8 k8
  have T8 : Has K mg "_law_told" sTold ["_law_board_here", "_law_counter_here"] f8 _ := ⟨F8, PySem.W.mg_of X G a8, F8.binds fun _ _ _ _ _ _ us hl => match us, hl with | [_, _], _ => rfl⟩
  have F9 := fun_mk (st := sLaw) l9 c9 k9
  have T9 : Has K mg "law" sLaw ["_law_script"] _ _ := ⟨F9, PySem.W.mg_of X G a9, F9.binds fun _ _ _ _ _ _ us hl => match us, hl with | [_], _ => rfl⟩
  have T : Bz mg := ⟨PySem.W.mg_none_of X G z_len, PySem.W.mg_none_of X G z_abs, PySem.W.mg_none_of X G z_range, PySem.W.mg_none_of X G z_repr, PySem.W.mg_none_of X G z_min, PySem.W.mg_none_of X G z_max, PySem.W.mg_none_of X G z_int, PySem.W.mg_none_of X G z_tuple, PySem.W.mg_none_of X G z_list, PySem.W.mg_none_of X G z_bool, PySem.W.mg_none_of X G z_isinstance, PySem.W.mg_none_of X G z_enumerate⟩
  have C_MAX_COUNTERS := PySem.W.mg_of X G u_MAX_COUNTERS
  have X1 : XC K mg "TooManyCounters" CT := ⟨PySem.W.mg_of X G xg, xq, xk, xs, xt, ⟨xc1, xc2, xc3, xc4, xc5, xc6, xc7, xc8⟩⟩
  exact ⟨PySem.W.fnOf "law" "law" (defArgs sLaw) (defBody sLaw) (defScope sLaw) .none kV9 dc9 pm9 an9 cd9 ct9, fun s v => .of_eq rfl, fun base _ _ => by
    have G2 := ok_draw (P := l.prog) (w := w) (base := base) T2 T
    have G4 := ok_counter T4 T2 T G2
    have G6 := ok_with (P := l.prog) (w := w) (base := base) T6 T X1 C_MAX_COUNTERS ⟨_, rfl⟩
    exact ok_law T9 T T1 T3 T4 T5 T8 T7 (ok_deck T1 T) (ok_same T3 T) G4 (ok_board T5 T2 T4 T G2 G4) (ok_told T8 T T6 G6 X1 (PySem.W.mg_of X G gCC) (PySem.W.mg_of X G gC1) (PySem.W.mg_of X G gC2) (PySem.W.mg_of X G gC3) (PySem.W.exm_ref exb exd ext exs) kit_self (kit_cons (kit_ref n1 d1 t1 s1) (kit_cons (kit_ref n2 d2 t2 s2) (kit_cons (kit_ref n3 d3 t3 s3) kit_nil)))) (ok_without T7)⟩
end
end CG
open PySem PySem.W PyProof.Rows
set_option maxRecDepth 100000 in
set_option maxHeartbeats 0 in
theorem PySem.Challenge.cw_coincounters_k02_counters_put_up_and_clo_holds : PySem.Challenge.rw_coincounters_k02_counters_put_up_and_clo.Holds := by
  w_on; o_law; k_head; (case hw => w_witness2)
  k_fill
  refine CG.walkG (l := PySem.Challenge.rw_coincounters_k02_counters_put_up_and_clo) (n := 63) (k := 4) (x := "_law_script") (cx := fun _ => L2.CX0) (sp := fun w => CG.spLaw _) rfl (by decide) rfl ⟨rfl, by decide, by decide⟩ (fun w h Y => PySem.W.kIn_of Y) ?F (fun _ _ a ns hl _ hS => ⟨a, ns, rfl, hS, fun _ => rfl⟩) fun _ _ _ _ _ z => z
  case F =>
    intro w mg fa h KX G hmg
    refine' CG.all_mk KX G hmg ?a1 ?l1 ?c1 ?k1 ?a2 ?l2 ?c2 ?k2 ?a3 ?l3 ?c3 ?k3 ?a4 ?l4 ?c4 ?k4 ?a5 ?l5 ?c5 ?k5 ?a6 ?l6 ?c6 ?k6 ?a7 ?l7 ?c7 ?k7 ?a8 ?l8 ?c8 ?k8 ?a9 ?l9 ?c9 ?k9 ?z_len ?z_abs ?z_range ?z_repr ?z_min ?z_max ?z_int ?z_tuple ?z_list ?z_bool ?z_isinstance ?z_enumerate ?u_MAX_COUNTERS ?xg ?xq ?xk ?xs ?xt ?xc1 ?xc2 ?xc3 ?xc4 ?xc5 ?xc6 ?xc7 ?xc8 ?gCC ?gC1 ?gC2 ?gC3 ?exs ?exb ?exd ?ext ?n1 ?s1 ?d1 ?t1 ?n2 ?s2 ?d2 ?t2 ?n3 ?s3 ?d3 ?t3
    (case a1 => k_is); (case l1 => k_is); (case c1 => k_is); (case k1 => k_is)
    (case a2 => k_is); (case l2 => k_is); (case c2 => k_is); (case k2 => k_is)
    (case a3 => k_is); (case l3 => k_is); (case c3 => k_is); (case k3 => k_is)
    (case a4 => k_is); (case l4 => k_is); (case c4 => k_is); (case k4 => k_is)
    (case a5 => k_is); (case l5 => k_is); (case c5 => k_is); (case k5 => k_is)
    (case a6 => k_is); (case l6 => k_is); (case c6 => k_is); (case k6 => k_is)
    (case a7 => k_is); (case l7 => k_is); (case c7 => k_is); (case k7 => k_is)
    (case a8 => k_is); (case l8 => k_is); (case c8 => k_is); (case k8 => k_is)
    (case a9 => k_is); (case l9 => k_is); (case c9 => k_is); (case k9 => k_is)
    (case z_len => k_is); (case z_abs => k_is); (case z_range => k_is); (case z_repr => k_is)
    (case z_min => k_is); (case z_max => k_is); (case z_int => k_is); (case z_tuple => k_is)
    (case z_list => k_is); (case z_bool => k_is); (case z_isinstance => k_is); (case z_enumerate => k_is)
    (case u_MAX_COUNTERS => k_is); (case xg => k_is); (case xq => k_exc); (case xk => k_is)
    (case xs => k_is); (case xt => k_is); (case xc1 => k_is); (case xc2 => k_is)
    (case xc3 => k_is); (case xc4 => k_is); (case xc5 => k_is); (case xc6 => k_is)
    (case xc7 => k_is); (case xc8 => k_is); (case gCC => k_is); (case gC1 => k_is)
    (case gC2 => k_is); (case gC3 => k_is); (case exs => k_is); (case exb => k_is)
    (case exd => k_is); (case ext => k_is); (case n1 => decide); (case s1 => k_is)
    (case d1 => k_is); (case t1 => k_is); (case n2 => decide); (case s2 => k_is)
    (case d2 => k_is); (case t2 => k_is); (case n3 => decide); (case s3 => k_is)
    (case d3 => k_is); (case t3 => k_is)

