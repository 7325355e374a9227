import PyProof.Rows.All
import Wide.All
import OpenK.AllK
import Wide.FinOn
import HandS.ForMost
import HandS.ExcInit
import HandS.Conv
import KE.KExcIs
import PyProof.ReprRoads
import HandS.IsInst
import PySem.Challenge.RW_alldrawn_k00_errors_keep_their_values
set_option Elab.async false
set_option linter.all false
set_option maxRecDepth 100000
set_option maxHeartbeats 8000000
namespace L2
open PySem PySem.Spec PyProof.Rows
/-- as FnOk, but only asked where no repr is under way -/
structure FnOkG (P : Program) (w : World) (K : PySem.W.Frag) (mg : Str → Option Value) (base : Heap)
    (CX : CXT) (k : Nat) (f : Addr) (fd : FuncData) (ps : List Str) (sp : Sp) : Prop where
  len : ∀ vs H Q E, sp vs H Q E → vs.length = ps.length
  run : ∀ (A : Around) (outer : List Env) (s : Shared) (H : Hp) (args : Args) (us : List Value) (vs : List V) (Q : VK) (E : XK),
    A.guards = some [] → Room k A → Env0 P w K mg base A outer s H → BindsTo s fd args (ps.zip us) → Vals vs us → sp vs H Q E →
    codeAny (model P w) A (.call (.ref f) args) (CR CX outer P w H s Q E) s
section
variable {P : Program} {w : World} {K : PySem.W.Frag} {mg : Str → Option Value} {base : Heap}
theorem FnOk.g {CX : CXT} {k : Nat} {f : Addr} {fd : FuncData} {ps : List Str} {sp : Sp}
    (F : FnOk P w K mg base CX k f fd ps sp) : FnOkG P w K mg base CX k f fd ps sp :=
  ⟨F.len, fun A outer s H args us vs Q E _ => F.run A outer s H args us vs Q E⟩
theorem FnOkG.mono {CX : CXT} {j k : Nat} {f : Addr} {fd : FuncData} {ps : List Str} {sp : Sp}
    (F : FnOkG P w K mg base CX j f fd ps sp) (h : j ≤ k) : FnOkG P w K mg base CX k f fd ps sp :=
  ⟨F.len, fun A outer s H args us vs Q E hg hr => F.run A outer s H args us vs Q E hg (hr.mono h)⟩
theorem Fun.okG {x qual : Str} {st : Stmt} {f : Addr} {fd : FuncData} {N ps : List Str} {k : Nat} {sp : Sp}
    (F : Fun K x qual st f fd) (S : FnScope N ps (defScope st)) (len : ∀ vs H Q E, sp vs H Q E → vs.length = ps.length)
    (hbody : ∀ (cdv : Value) (A : Around) (outer : List Env) (s : Shared) (H : Hp) (vs : List V) (Q : VK) (E : XK),
      A.guards = some [] → Room k (A.deeper (envOfC qual (defScope st) s.heap.objs.size f cdv)) → sp vs H Q E →
      ∃ t, PSs (cxOf CX0 P w K mg base N qual (defScope st) f cdv A outer s H E).nox (defBody st) t ∧
        t { nx := fun _ H' => Q .non H', rt := Q } (start N vs) H) : FnOkG P w K mg base CX0 (k + 1) f fd ps sp := by
  obtain ⟨oc, od, kV, doc, pm, an, cdv, ct, osl, rfl, lk, hcd⟩ := F.ex
  refine ⟨len, fun A outer s H args us vs Q E gd hr e0 hb r hsp => ?_⟩
  have hl := len vs H Q E hsp
  have lim : s.heap.NoLimit := e0.mod.nolimit.keeps fun b o q => (e0.bs b o q).1
  have kin : K.In s.heap := e0.mod.kin.keeps fun b o q => (e0.bs b o q).1
  have kinds : ∀ y ∈ ps.zip us, (defScope st).names.lookup y.1 = some .local ∨
      ((defScope st).names.lookup y.1 = some .cell ∧ ((cellsFrom (s.heap.objs.size + 1) (defScope st).names []).lookup y.1).isSome = true) := by
    rintro ⟨n, v⟩ hy
    rcases S.par n (List.of_mem_zip hy).1 with q | q
    · exact Or.inl q
    · exact Or.inr ⟨q, PySem.W.cellsFrom_some _ _ _ (Or.inl q)⟩
  refine codeAny_call_function hr.depth (kin _ _ lk) rfl S.co S.gen rfl
    (PySem.W.codeRec_of kin hcd) (hb _ _ _ _ ?_)
  refine wpAny_newFunctionEnv_cells S.kind kinds
    fun env he s1 x => ?_
  subst he
  refine ⟨lim.keeps x.toInCall.keep, codeAny_func ?_⟩
  obtain ⟨t, ht, hq⟩ := hbody cdv A outer s H vs Q E gd (hr.deeper _) hsp
  have I := inv_start (CX := CX0) (mg := mg) (base := base) (cd := cdv) (f := f) (qual := qual) (E := E) S hr.hd e0 hl r x
  refine wpAny_mono (ht.nox.run [] s1 (start N vs) H _ I hq)
    (fun fl s' hs => ?_) fun e s' hs => hs
  cases fl with
  | ret u =>
    obtain ⟨v, σ', H', J, rv, q⟩ := hs
    exact ⟨v, H', J.os, J.bare, J.base, J.hok, rv, q⟩
  | next =>
    obtain ⟨σ', H', J, q⟩ := hs
    exact ⟨V.non, H', J.os, J.bare, J.base, J.hok, rfl, q⟩
  | brk => exact hs.elim fun _ z => z.elim fun _ z => z.2.elim
  | cont => exact hs.elim fun _ z => z.elim fun _ z => z.2.elim
end
section
variable {X : Cx} {CX : CXT} {k : Nat} {f : Addr} {fd : FuncData} {ps : List Str} {sp : Sp} {dvs : List V} {ds : List Value} {E : XK}
theorem run_fnG {pins : List (Addr × Obj)} {σ : St} {H : Hp} {s : Shared} {Q : VK} {us : List Value} {vs : List V}
    (F : FnOkG X.prog X.w X.K X.mg X.base CX k f fd ps sp) (gd : X.A.guards = some []) (hr : Room k X.A)
    (hb : Binds X.K fd ps ds) (hd : Vals dvs ds) (hx : Passes CX X E)
    (I : Inv X pins σ H s) (r : Vals vs us) (h : sp (vs ++ dvs) H Q E) :
    wpAny (model X.prog X.w) X.A (call (.ref f) us) (EP X pins σ Q) X.xe s := by
  have rr : Vals (vs ++ dvs) (us ++ ds) := r.append hd
  have hl : (us ++ ds).length = ps.length := rr.length.symm.trans (F.len _ _ _ _ h)
  refine wpAny_call (codeAny_mono (F.run X.A X.stack s H ⟨us, []⟩ (us ++ ds) (vs ++ dvs) Q E gd hr I.env0 (hb s us I.kIn hl) rr h) ?_)
  rintro (er | fl) s' hq
  · exact hx pins σ H s er s' I hq
  · cases fl with
    | ret u => exact I.after hq
    | next => exact hq.elim
    | brk => exact hq.elim
    | cont => exact hq.elim
theorem pe_callG {x : Str} {p pos : Pos} {e : Expr} {es : List Expr} {t : TA}
    (F : FnOkG X.prog X.w X.K X.mg X.base CX k f fd ps sp) (gd : X.A.guards = some []) (hr : Room k X.A)
    (hg : Gl X x) (hm : X.mg x = some (.ref f)) (hk : PySem.W.keepIn X.K (.ref f) = true)
    (hb : Binds X.K fd ps ds) (hd : Vals dvs ds) (hx : Passes CX X E) (ha : PA X (e :: es) t)
    (hdb : (x == ("__debug__" : Str)) = false := by decide)
    (he : starEach (e :: es) X.env = (false, eval e X.env) :: starEach es X.env := by rfl)
    (hpl : (backTo pos (starEach es X.env)).any (·.1) = false := by rfl) :
    PE X (.Call (.Name x p) (e :: es) [] pos) (tCall sp dvs E t) :=
  ⟨fun pins s σ H Q I h => wpAny_Call_Name_kw (ld_glob I hg hm
    (PySem.W.callWith_K (h₀ := X.base) I.ok.mod.kin hk
      (thn (ha.run pos pins s σ H _ I h) fun us s1 ⟨vs, H1, I1, r, q⟩ => ⟨I1.kIn, run_fnG F gd hr hb hd hx I1 r q⟩) he hpl) hdb)⟩
end
/-- as law_call, by FnOkG -/
theorem law_runG {P : Program} {w : World} {K : PySem.W.Frag} {mg mb : Str → Option Value} {k : Nat} {fa a : Addr} {fd : FuncData} {x : Str}
    {sp : Sp} {s0 : Shared} {vs : List Value} {ns : List Int}
    (KX : K.In s0.heap) (hns : s0.heap.Ns mainGlobals mg) (hb : s0.heap.Ns builtinsNs mb)
    (hbb : ∀ x : Str, x ≠ "__name__" → mb x = bootBuiltins x) (hlim : s0.heap.NoLimit) (hg : s0.gens = #[])
    (ha : s0.heap.get? a = some { cls := .type "list", data := .seq vs.toArray }) (hi : IntsAre vs ns) (hl : ns.length ≤ sizeLine)
    (hr : Room k callerA)
    (F : ∀ base : Heap, K.In base → base.Ns mainGlobals mg → FnOkG P w K mg base CX0 k fa fd [x] sp)
    (hbind : ∀ (s : Shared) (u : Value), BindsTo s fd ⟨[u], []⟩ [(x, u)])
    (hsp : ∀ H : Hp, Only H → SqL K H a (ns.map V.int) → sp [.ref a] H (fun v _ => v = .bl true) fun _ _ _ => False) :
    codeAny (model P w) callerA (.call (.ref fa) ⟨[.ref a], []⟩)
      (fun r s' => r = .ok (.ret (.bool true)) ∧ OldK s0.heap s'.heap ∧ s'.os = s0.os ∧ AllBare s'.gens) s0 := by
  have rv := vals_ints hi
  have lenV := hi.length
  have main : ∀ H : Hp, Only H → SqL K H a (ns.map V.int) → HOk P w H s0.heap → (∀ b, H b ≠ none → b = a) →
      (H a ≠ none → K.lookup a = none) →
      codeAny (model P w) callerA (.call (.ref fa) ⟨[.ref a], []⟩)
        (fun r s' => r = .ok (.ret (.bool true)) ∧ OldK s0.heap s'.heap ∧ s'.os = s0.os ∧ AllBare s'.gens) s0 := by
    intro H hO hS hok hA hK
    have base_of : ∀ {b : Addr} {o : Obj}, s0.heap.get? b = some o → H b = none → (hidT s0.heap H).get? b = some o :=
      fun e n => hidT_get e n
    have nsK : ∀ {b : Addr} {m : Str → Option Value}, s0.heap.Ns b m → (hidT s0.heap H).Ns b m := by
      rintro b m ⟨o, es, ep, e, d, r⟩
      refine ⟨o, es, ep, base_of e ?_, d, r⟩
      cases q : H b with
      | none => rfl
      | some u =>
        have eb : b = a := hA b (by rw [q]; simp)
        rw [eb, ha] at e
        cases e
        exact nomatch (show Data.seq vs.toArray _ = Data.dict es ep from d)
    have kb : K.In (hidT s0.heap H) := by
      intro b o e
      refine base_of (KX b o e) ?_
      cases q : H b with
      | none => rfl
      | some u =>
        have eb : b = a := hA b (by rw [q]; simp)
        rw [eb] at q e
        rw [hK (by rw [q]; simp)] at e
        cases e
    have M : Mod K mg (hidT s0.heap H) := by
      obtain ⟨mc, h1, h2⟩ := hlim
      exact ⟨kb, nsK hns, ⟨mb, nsK hb, hbb⟩, ⟨mc, nsK h1, h2⟩⟩
    have none_in : ∀ b : Addr, b ∉ frs ([] : List Env) := fun b z => absurd (show b ∈ ([] : List Addr) from z) (by simp)
    have e0 : Env0 P w K mg (hidT s0.heap H) callerA [] s0 H :=
      ⟨rfl, M, fun b o e => of_hidT e, Nat.le_of_eq (hidT_size _ _), trivial, fun b z => absurd z (none_in b), hok, .of_eq hg⟩
    have G := F _ kb (nsK hns)
    refine codeAny_mono (G.run callerA [] s0 H ⟨[.ref a], []⟩ [.ref a] [.ref a] _ _ rfl hr e0
      (hbind s0 (.ref a)) (.cons rfl .nil) (hsp H hO hS)) ?_
    rintro (e | fl) s' h
    · exact False.elim h
    · cases fl with
      | ret u =>
        obtain ⟨v, H', os, bare, un, hok', r', q⟩ := h
        cases (show v = .bl true from q)
        cases (show u = Value.bool true from r')
        refine ⟨rfl, OldK.of_keep fun b o e => ?_, os, bare⟩
        cases q : H b with
        | none => exact un.keep b o e q (none_in b) (by simp)
        | some u =>
          rcases hO b with z | ⟨ob, xs, z⟩
          · rw [q] at z
            cases z
          · have e1 := (hok b _ z).1
            have e2 := (hok' b _ (un.frzs b ob _ z)).1
            rw [e] at e1
            cases e1
            exact e2
      | next => exact False.elim h
      | brk => exact False.elim h
      | cont => exact False.elim h
  cases hk : K.lookup a with
  | some o =>
    have e := KX a o hk
    rw [ha] at e
    cases e
    exact main (fun _ => none) (fun _ => .inl rfl)
      (.inr ⟨_, vs.toArray, _, hk, rfl, rfl, rfl, by rw [List.size_toArray, lenV]; exact hl, by simpa using rv⟩)
      (fun b u z => nomatch (show (none : Option HO) = some u from z)) (fun b z => absurd rfl z) (fun z => absurd rfl z)
  | none =>
    let o1 : Obj := { cls := .type "list", data := .seq vs.toArray }
    refine main (fun b => if b = a then some (.frz o1 (.lst (ns.map V.int))) else none) (fun b => ?_)
      (.inl (.inr ⟨o1, if_pos rfl⟩)) (fun b u z => ?_) (fun b z => ?_) fun _ => hk
    · by_cases hba : b = a
      · exact .inr ⟨o1, _, if_pos hba⟩
      · exact .inl (if_neg hba)
    · by_cases hba : b = a
      · cases (if_pos hba).symm.trans z
        subst hba
        exact ⟨ha, by rw [List.length_map]; exact hl, vs, _, rv, ha⟩
      · cases (if_neg hba).symm.trans z
    · by_cases hba : b = a
      · exact hba
      · exact absurd (if_neg hba) z
/-- the end, by FnOkG -/
theorem walk_ofG {l : PySem.W.OpenLaw} {n k : Nat} {q : Program} {loose : List Str} {XP : (Str → Option Value) → Heap → Prop}
    {YP : World → Heap → Prop} {d : DefRec} {K : Params → PySem.W.Frag} {sp : World → Sp} {x : Str}
    (hn : l.most = some n) (hn2 : n ≤ sizeLine) (hdf : d.params.defaults = []) (hr : Room k callerA)
    (hY : ∀ (w : World) (h : Heap), YP w h → (K w.params).In h)
    (F : ∀ (w : World) (mg : Str → Option Value) (fa : Addr) (h : Heap), (K w.params).In h → h.Ns mainGlobals mg → mg d.name = some (.ref fa) →
      ∃ fd : FuncData, (∀ (s : Shared) (u : Value), BindsTo s fd ⟨[u], []⟩ [(x, u)]) ∧
        ∀ base : Heap, (K w.params).In base → base.Ns mainGlobals mg → FnOkG l.prog w (K w.params) mg base CX0 k fa fd [x] (sp w))
    (hsp : ∀ (w : World) (H : Hp) (a : Addr) (ns : List Int), ns.length ≤ n → Only H → SqL (K w.params) H a (ns.map V.int) →
      sp w [.ref a] H (fun v _ => v = .bl true) fun _ _ _ => False) :
    PySem.W.WalkO q loose XP YP l.row.toRowW d [] (fun f vs => PySem.call f vs) := by
  refine Att.attach_call hn hdf fun w s₀ s₁ mg mb fa o pm cd doc a vs ns G Y ho hd hcd hmg hobj hints hlen hg => ?_
  obtain ⟨fd, hb, hF⟩ := F w mg fa _ (hY w _ Y) G.T.g hmg
  exact law_runG (hY w _ Y) G.T.g G.T.b G.T.builtins G.T.nolimit hg hobj hints (Nat.le_trans hlen hn2) hr hF hb
    fun H hO hS => hsp w H a ns hlen hO hS
end L2
namespace L2
open PySem PySem.Spec PyProof.Rows
/-- what was tracked but the object at a stands as it stood -/
def SameBut (a : Addr) (H H' : Hp) : Prop := ∀ b o, b ≠ a → H b = some o → H' b = some o
theorem SameBut.refl {a : Addr} {H : Hp} : SameBut a H H := fun _ _ _ e => e
theorem Same.but {a : Addr} {H H' : Hp} (s : Same H H') : SameBut a H H' := fun b o _ e => s b o e
theorem SameBut.trans {a : Addr} {H H' H2 : Hp} (s : SameBut a H H') (t : SameBut a H' H2) : SameBut a H H2 := fun b o n e => t b o n (s b o n e)
theorem same_new {H : Hp} {p : Addr} {o : HO} (n : H p = none) : Same H (upd H p o) := fun b u e => by
  rw [upd_ne (ne_of_none e n)]
  exact e
theorem but_upd {H : Hp} {p : Addr} {o : HO} : SameBut p H (upd H p o) := fun b u n e => by
  rw [upd_ne n]
  exact e
/-- at a: an error of the class at C that holds v -/
def ErrAt (H : Hp) (a C : Addr) (v : V) : Prop :=
  ∃ d, d ≠ a ∧ H a = some (exo a C (some d)) ∧ H d = some (exd d [("value", v)])
theorem ErrAt.same {H H' : Hp} {a C : Addr} {v : V} (e : ErrAt H a C v) (s : Same H H') : ErrAt H' a C v :=
  let ⟨d, n, h1, h2⟩ := e
  ⟨d, n, s _ _ h1, s _ _ h2⟩
theorem ErrAt.some {H : Hp} {a C : Addr} {v : V} (e : ErrAt H a C v) : ∃ o, H a = some o := let ⟨_, _, h, _⟩ := e; ⟨_, h⟩
theorem exo_lst {e C : Addr} {d : Option Addr} {xs : List V} : exo e C d ≠ .lst xs := fun z =>
  nomatch (show HO.ext _ = HO.lst xs from z)
theorem exd_lst {e : Addr} {fs : List (Str × V)} {xs : List V} : exd e fs ≠ .lst xs := fun z =>
  nomatch (show HO.ext _ = HO.lst xs from z)
/-- a list that stood is changed: an error stays -/
theorem ErrAt.lst {H : Hp} {a C l : Addr} {v : V} {xs ys : List V} (e : ErrAt H a C v) (h : H l = Option.some (.lst xs)) : ErrAt (upd H l (.lst ys)) a C v := by
  obtain ⟨d, n, h1, h2⟩ := e
  refine ⟨d, n, ?_, ?_⟩
  · rw [upd_ne (ne_of h1 h exo_lst)]
    exact h1
  · rw [upd_ne (ne_of h2 h exd_lst)]
    exact h2
/-- what the written part says of an error's class -/
structure ErrC (K : PySem.W.Frag) (fI C : Addr) : Prop where
  oex : OexC K C
  nv : PySem.W.findIn K (.ref C) "value" = some none
  iC : PySem.W.findIn K (.ref C) "__init__" = some (some (.ref fI))
  ga : PySem.W.findIn K (.ref C) "__getattribute__" = some (some (.builtin "BaseException.__getattribute__"))
  gg : PySem.W.findIn K (.ref C) "__getattr__" = some none
  ca : PySem.W.findIn K (.ref C) "__class__" = some (some (.builtin "object.__class__"))
  hd : PySem.W.hasDictIn K C = true
  mo : PySem.W.mroIn K C (.type "object") = some true
  sg : PySem.W.specialIn K (.builtin "object.__class__") "__get__" = some (some (.builtin "getset_descriptor.__get__"))
  st : PySem.W.takesIn K (.builtin "object.__class__") = some true
/-- the promise of the base's __init__ -/
def spErrInit (K : PySem.W.Frag) : Sp := fun vs H Q _ => ∃ (a C fI : Addr) (v : V), vs = [.ref a, v] ∧ ErrC K fI C ∧
  H a = some (exo a C none) ∧ ∀ H', SameBut a H H' → ErrAt H' a C v → Q .non H'
/-- C(e) as a value: an error at a new place -/
def tErr (C : Addr) (ta : TA) : TE := fun σ H Q => ta σ H fun vs H1 => ∃ v, vs = [v] ∧
  ∀ a H2, H1 a = none → Same H1 H2 → ErrAt H2 a C v → Q (.ref a) H2
/-- e.value -/
def tErrVal (K : PySem.W.Frag) (te : TE) : TE := fun σ H Q => te σ H fun x H1 => ∃ (a C fI : Addr) (v : V), x = .ref a ∧ ErrC K fI C ∧ ErrAt H1 a C v ∧ Q v H1
/-- isinstance(e, c) -/
def rIsErr (K : PySem.W.Frag) : List V → Hp → VK → Prop := fun xs H Q => ∃ (a C fI : Addr) (v c : V) (cv : Value) (b : Bool), xs = [.ref a, c] ∧
  ErrC K fI C ∧ ErrAt H a C v ∧ ClsV c cv ∧ PySem.W.kitOne K (.ref C) cv = some b ∧ Q (.bl b) H
section
variable {X : Cx} {pins : List (Addr × Obj)} {σ : St} {H : Hp} {s : Shared}
/-- the object of an error, for the machine's own rules -/
theorem err_at (I : Inv X pins σ H s) {a C : Addr} {v : V} (e : ErrAt H a C v) :
    ∃ (t : Addr) (d : Addr) (od : Obj) (u : Value), RelV v u ∧ PySem.W.lookIn "value" od = some (some u) ∧
      PySem.W.InstAt s.heap a { cls := .ref C, dict := some d, data := .fields #[.ref t, .none, .none, .none, .bool false, .none] } C (some od) := by
  obtain ⟨d, ne, h1, h2⟩ := e
  obtain ⟨t, ho⟩ := exo_at I.hok h1
  obtain ⟨mA, hns, rel⟩ := exd_at I.hok h2
  obtain ⟨od, hod, hl⟩ := lookIn_ns hns
  have l : List.lookup ("value" : Str) [(("value" : Str), v)] = some v := by simp [List.lookup]
  obtain ⟨u, hu, ru⟩ := RelO.some_of (v := v) (o := mA "value") (by rw [← l]; exact rel "value")
  exact ⟨t, d, od, u, ru, by rw [hl, hu], ⟨ho, rfl, rfl, hod⟩⟩
end
section
variable {X : Cx} {e : Expr} {es : List Expr} {te : TE} {ta : TA} {x : Str} {p pos : Pos}
theorem mkV_run {CX : CXT} {C fI : Addr} {k : Nat} {fd : FuncData} {ps : List Str} {sp : Sp} {ds : List Value} {dvs : List V}
    {pins : List (Addr × Obj)} {σ : St} {H1 : Hp} {s1 : Shared} {Q : VK} {us : List Value} {vs : List V}
    (T : OexC X.K C) (iC : PySem.W.findIn X.K (.ref C) "__init__" = some (some (.ref fI))) (tI : PySem.W.typeIn X.K (.ref fI) = some (.type "function"))
    (F1 : FnOk X.prog X.w X.K X.mg X.base CX k fI fd ps sp) (hr : Room (k + 1) X.A) (hb : Binds X.K fd ps ds) (hd : Vals dvs ds)
    (hx : Passes CX X (fun _ _ _ => False)) (I1 : Inv X pins σ H1 s1) (r1 : Vals vs us) (hz : vs.length ≤ 1000)
    (q1 : ∀ a, H1 a = none → sp (.ref a :: (vs ++ dvs)) (upd H1 a (exo a C none)) (fun v H2 => v = .non ∧ Q (.ref a) H2) (fun _ _ _ => False)) :
    wpAny (model X.prog X.w) X.A (call (.ref C) us) (EP X pins σ Q) X.xe s1 := by
  obtain ⟨nm, q, N, bs, bm, sn, sub, ab, col, dd, k0, k1, k2, k3, k5, hC, hbm⟩ := T.cls
  obtain ⟨hp, g, dr, tk, os⟩ := s1
  let a : Addr := hp.objs.size + 1
  have hle : hp.objs.size ≤ a := Nat.le_succ _
  have hq := q1 a (I1.hok.fresh hle)
  let hp2 : Heap := (hp.push (PySem.W.kdv_tup us)).push (PySem.HandSPX.excO C hp.objs.size)
  have kk : ∀ b o, hp.get? b = some o → hp2.get? b = some o := fun b o q => Heap.get?_push_of_some _ (Heap.get?_push_of_some _ q)
  have hget : hp2.get? a = some (PySem.HandSPX.excO C hp.objs.size) := by
    show ((hp.push (PySem.W.kdv_tup us)).push (PySem.HandSPX.excO C hp.objs.size)).get? (hp.objs.size + 1) = _
    heap_get
  have I2 : Inv X pins σ (upd H1 a (exo a C none)) ⟨hp2, g, dr, tk, os⟩ :=
    I1.laid (t' := tk) (a := a) (o := exo a C none) (h' := hp2) kk hle (exo_ok hget)
  have r2 : Vals (V.ref a :: (vs ++ dvs)) (Value.ref a :: (us ++ ds)) := .cons rfl (r1.append hd)
  have hl : (Value.ref a :: us ++ ds).length = ps.length :=
    (r2.length.symm.trans (F1.len _ _ _ _ hq))
  have hus : us.length ≤ sizeLine := by
    rw [← Paired.length r1, sizeLine_eq]
    omega
  refine wpAny_call (PySem.HandSPX.call_own F.excBase_ValueError (fun Y => PySem.HandSPX.refsVE_contains Y bm hbm) (I1.kIn _ _ hC)
    (PySem.W.looks_findIn I1.kIn iC) (fun self => PySem.W.bind_fn I1.kIn self tI) hus (codeAny_mono
      (F1.run _ X.stack _ _ ⟨Value.ref a :: us, []⟩ (Value.ref a :: (us ++ ds)) _ _ (fun _ _ _ => False)
        (hr.make C us []) (I2.env0.make C us []) (hb _ (Value.ref a :: us) I2.kIn hl) r2 hq) ?_))
  rintro (er | fl) s' hq'
  · exact hx pins σ _ _ er s' I2 hq'
  · cases fl with
    | ret u =>
      obtain ⟨v, H2, os2, bare2, un2, hok2, rv, ev, q2⟩ := hq'
      subst ev
      exact ⟨rv, .ref a, H2, I2.call' (ch := []) os2 un2 hok2 bare2 (fun b z => absurd z (by simp)), rfl, q2⟩
    | next => exact False.elim hq'
    | brk => exact False.elim hq'
    | cont => exact False.elim hq'
/-- C(e), C a class of errors -/
theorem pe_err {C fI : Addr} {k : Nat} {fd : FuncData} {y1 y2 : Str} (T : ErrC X.K fI C) (tI : PySem.W.typeIn X.K (.ref fI) = some (.type "function"))
    (F1 : FnOk X.prog X.w X.K X.mg X.base CX0 k fI fd [y1, y2] (spErrInit X.K)) (hr : Room (k + 1) X.A) (hb : Binds X.K fd [y1, y2] [])
    (hg : Gl X x) (hm : X.mg x = some (.ref C)) (ha : PA X (e :: es) ta)
    (hdb : (x == ("__debug__" : Str)) = false := by decide)
    (he : starEach (e :: es) X.env = (false, eval e X.env) :: starEach es X.env := by rfl)
    (hpl : (backTo pos (starEach es X.env)).any (·.1) = false := by rfl) :
    PE X (.Call (.Name x p) (e :: es) [] pos) (tErr C ta) := by
  refine ⟨fun pins s σ H Q I h => wpAny_Call_Name_kw (ld_glob I hg hm ?_ hdb)⟩
  refine PySem.W.callWith_K (h₀ := X.base) I.ok.mod.kin T.oex.kC
    (thn (ha.run pos pins s σ H _ I h) fun us s1 ⟨vs, H1, I1, r1, v, ev, q⟩ => ⟨I1.kIn, ?_⟩) he hpl
  subst ev
  refine mkV_run (dvs := []) T.oex T.iC tI F1 hr hb .nil pass0 I1 r1 (by show 1 ≤ 1000; decide)
    fun a na => ⟨a, C, fI, v, rfl, T, upd_same, fun H' sb ea => ⟨rfl, q a H' na (fun b o hb => ?_) ea⟩⟩
  have nb : b ≠ a := ne_of_none hb na
  exact sb b o nb (by rw [upd_ne nb]; exact hb)
theorem pe_errVal (he : PE X e te) (hb : attributeBase e "value" X.env (eval e X.env) = eval e X.env := by rfl) :
    PE X (.Attribute e "value" pos) (tErrVal X.K te) := by
  refine ⟨fun pins s σ H Q I h => attr_of hb (thn (he.run pins s σ H _ I h) fun u s1 hh => ?_)⟩
  obtain ⟨x, H1, I1, rx, a, C, fI, v, ex, T, ea, q⟩ := hh
  subst ex
  cases (show u = Value.ref a from rx)
  obtain ⟨t, d, od, w, rw', hl, J⟩ := err_at I1 ea
  exact HandSPX.exc_get I1.kIn J T.ga T.gg T.oex.exC (PySem.W.findObj_own T.hd T.nv rfl hl) (handed_of rw') ⟨v, H1, I1.tok _, rw', q⟩
theorem call_isErr : CallR X (.builtin "isinstance") (rIsErr X.K) := by
  intro pins s σ H xs us Q I r h
  obtain ⟨a, C, fI, v, c, cv, b, rfl, T, ea, k, e, q⟩ := h
  obtain ⟨u1, u2, rfl, r1, r2⟩ := vals2 r
  cases k.eq r2
  cases (show u1 = Value.ref a from r1)
  obtain ⟨t, d, od, w, _, _, J⟩ := err_at I ea
  have cl : (PySem.W.clsIn X.K C).isSome = true := by
    obtain ⟨cd, hc, _⟩ := PySem.W.any_some T.hd
    rw [hc]
    rfl
  exact PySem.W.kia_one (PySem.W.kitx_exc cl T.ga T.gg T.oex.exC T.ca T.sg T.st T.mo) I.kIn J e (fun z => nomatch z)
    fun tk => ⟨.bl b, H, I.tok tk, rfl, q⟩
end
end L2
namespace L2
open PySem PySem.Spec PyProof.Rows
/-- a key as data -/
def kD : Key → PyData
  | .inl i => .int i
  | .inr x => .str x
mutual
/-- x reads as the data d; its lists do not stand at the place of the module table -/
inductive Dq (H : Hp) : V → PyData → Prop
  | non : Dq H .non .none
  | bl (b : Bool) : Dq H (.bl b) (.bool b)
  | int (i : Int) : Dq H (.int i) (.int i)
  | str (x : Str) : Dq H (.str x) (.str x)
  | lst {a : Addr} {xs : List V} {ds : List PyData} : a ≠ sysModules → H a = some (.lst xs) → DqAll H xs ds → Dq H (.ref a) (.list ds)
  | tup {a : Addr} {xs : List V} {ds : List PyData} : H a = some (.tup xs) → DqAll H xs ds → Dq H (.ref a) (.tuple ds)
  | dic {a : Addr} {kvs : List (Key × V)} {ds : List (PyData × PyData)} : H a = some (.dK kvs) → DqKv H kvs ds → Dq H (.ref a) (.dict ds)
inductive DqAll (H : Hp) : List V → List PyData → Prop
  | nil : DqAll H [] []
  | cons {v : V} {vs : List V} {d : PyData} {ds : List PyData} : Dq H v d → DqAll H vs ds → DqAll H (v :: vs) (d :: ds)
inductive DqKv (H : Hp) : List (Key × V) → List (PyData × PyData) → Prop
  | nil : DqKv H [] []
  | cons {k : Key} {v : V} {kvs : List (Key × V)} {d : PyData} {ds : List (PyData × PyData)} : Dq H v d → DqKv H kvs ds → DqKv H ((k, v) :: kvs) ((kD k, d) :: ds)
end
mutual
theorem Dq.same {H H' : Hp} (s : Same H H') : ∀ {v : V} {d : PyData}, Dq H v d → Dq H' v d
  | _, _, .non => .non
  | _, _, .bl b => .bl b
  | _, _, .int i => .int i
  | _, _, .str x => .str x
  | _, _, .lst n h r => .lst n (s _ _ h) (DqAll.same s r)
  | _, _, .tup h r => .tup (s _ _ h) (DqAll.same s r)
  | _, _, .dic h r => .dic (s _ _ h) (DqKv.same s r)
theorem DqAll.same {H H' : Hp} (s : Same H H') : ∀ {v : List V} {d : List PyData}, DqAll H v d → DqAll H' v d
  | _, _, .nil => .nil
  | _, _, .cons h r => .cons (Dq.same s h) (DqAll.same s r)
theorem DqKv.same {H H' : Hp} (s : Same H H') : ∀ {v : List (Key × V)} {d : List (PyData × PyData)}, DqKv H v d → DqKv H' v d
  | _, _, .nil => .nil
  | _, _, .cons h r => .cons (Dq.same s h) (DqKv.same s r)
end
section
variable {X : Cx} {pins : List (Addr × Obj)} {σ : St} {H : Hp} {s : Shared}
theorem keys_read {h : Heap} {P : Program} {w : World} : ∀ {es : List DictEntry} {vs : List (Key × Value)}, Pairs (mixKind P w) es vs →
    ReadsAll h (es.map (·.key)) (vs.map fun p => kD p.1) [] ∧ es.map (·.val) = vs.map (·.2)
  | _, _, .nil => ⟨.nil, rfl⟩
  | _, _, .cons hk hv r => by
    obtain ⟨h1, h2⟩ := keys_read (h := h) r
    refine ⟨?_, by simp only [List.map_cons, h2, hv]⟩
    rcases keyIs_shape hk with ⟨i, t, e1, e2⟩ | ⟨x, t, e1, e2⟩
    · simp only [List.map_cons, e1, e2]
      exact ReadsAll.cons (as := []) (bs := []) (Reads.int i t) h1
    · simp only [List.map_cons, e1, e2]
      exact ReadsAll.cons (as := []) (bs := []) (Reads.str x t) h1
mutual
theorem Dq.reads (I : Inv X pins σ H s) : ∀ {v : V} {d : PyData} {u : Value}, Dq H v d → RelV v u → ∃ as, Reads s.heap u d as ∧ sysModules ∉ as
  | _, _, _, .non, r => by
    cases r
    exact ⟨[], .none, fun z => nomatch z⟩
  | _, _, _, .bl b, r => by
    cases r
    exact ⟨[], .bool b, fun z => nomatch z⟩
  | _, _, _, .int i, r => by
    obtain ⟨t, rfl⟩ := r
    exact ⟨[], .int i t, fun z => nomatch z⟩
  | _, _, _, .str x, r => by
    obtain ⟨t, rfl⟩ := r
    exact ⟨[], .str x t, fun z => nomatch z⟩
  | _, _, _, .lst n h ra, r => by
    cases r
    obtain ⟨_, its, m, rv, e⟩ := I.hok _ _ h
    obtain ⟨as, q, nq⟩ := DqAll.reads I ra rv
    exact ⟨_, .list e rfl rfl q, fun z => (List.mem_cons.mp z).elim (fun z => n z.symm) nq⟩
  | _, _, _, .tup h ra, r => by
    cases r
    obtain ⟨_, its, rv, o, e, hc, m, hd⟩ := I.hok _ _ h
    obtain ⟨as, q, nq⟩ := DqAll.reads I ra rv
    exact ⟨_, .tuple e hc hd q, nq⟩
  | _, _, _, .dic h ra, r => by
    cases r
    obtain ⟨_, n, vs, rel, o, es, ep, e, ex, hd, _, pr, _⟩ := I.hok _ _ h
    obtain ⟨bs, q, nq, ek⟩ := DqKv.reads I ra rel
    obtain ⟨k1, k2⟩ := keys_read (h := s.heap) pr
    rw [ek] at k1
    rw [← k2] at q
    refine ⟨_, .dict e ex.1 hd k1 q, fun z => ?_⟩
    rcases List.mem_cons.mp (show sysModules ∈ _ :: ([] ++ bs) from z) with z | z
    · rw [← z] at n
      exact Bool.noConfusion n
    · exact nq z
theorem DqAll.reads (I : Inv X pins σ H s) : ∀ {v : List V} {d : List PyData} {u : List Value}, DqAll H v d → Vals v u → ∃ as, ReadsAll s.heap u d as ∧ sysModules ∉ as
  | _, _, _, .nil, .nil => ⟨[], .nil, fun z => nomatch z⟩
  | _, _, _, .cons h t, .cons r rs => by
    obtain ⟨as, q1, n1⟩ := Dq.reads I h r
    obtain ⟨bs, q2, n2⟩ := DqAll.reads I t rs
    exact ⟨_, .cons q1 q2, fun z => (List.mem_append.mp z).elim n1 n2⟩
theorem DqKv.reads (I : Inv X pins σ H s) : ∀ {v : List (Key × V)} {d : List (PyData × PyData)} {u : List (Key × Value)}, DqKv H v d → KV v u →
    ∃ as, ReadsAll s.heap (u.map (·.2)) (d.map (·.2)) as ∧ sysModules ∉ as ∧ (u.map fun p => kD p.1) = d.map (·.1)
  | _, _, _, .nil, .nil => ⟨[], .nil, (fun z => nomatch z), rfl⟩
  | _, _, _, .cons h t, .cons r rs => by
    obtain ⟨as, q1, n1⟩ := Dq.reads I h r.2
    obtain ⟨bs, q2, n2, e⟩ := DqKv.reads I t rs
    refine ⟨_, .cons q1 q2, fun z => (List.mem_append.mp z).elim n1 n2, ?_⟩
    rw [List.map_cons, List.map_cons, e, ← r.1]
end
end
/-- data that repr shows -/
def okShow (d : PyData) : Bool := PyData.showable d && decide (d.shown.length ≤ sizeLine) && decide (d.depth ≤ 60)
/-- repr(x) -/
def rRepr : List V → Hp → VK → Prop := fun xs H Q => ∃ (x : V) (d : PyData), xs = [x] ∧ Dq H x d ∧ okShow d = true ∧ Q (.str d.shown) H
theorem call_repr {X : Cx} (gd : X.A.guards = some []) (hu : X.A.units + 64 < cLine) : CallR X (.builtin "repr") rRepr := by
  intro pins s σ H xs us Q I r h
  obtain ⟨x, d, rfl, hd, ok, q⟩ := h
  obtain ⟨u, rfl, ru⟩ := vals1 r
  unfold okShow at ok
  rw [Bool.and_eq_true, Bool.and_eq_true, decide_eq_true_eq, decide_eq_true_eq] at ok
  obtain ⟨⟨sh, len⟩, dep⟩ := ok
  have ref : ∀ {a : Addr} {as : List Addr}, Reads s.heap (.ref a) d as → sysModules ∉ as →
      wpAny (model X.prog X.w) X.A (call (.builtin "repr") [.ref a]) (EP X pins σ Q) X.xe s := fun rd ns =>
    repr_of_reads' rd sh (fun _ => ns) gd (by omega) (fun _ _ e => e) (fun h' u tk k => ⟨.str d.shown, H, I.kept (t' := tk) k, ⟨u, rfl⟩, q⟩) len
  cases hd with
  | non =>
    cases ru
    exact PySem.P.repr_of_none ⟨.str _, H, I.tok _, ⟨_, rfl⟩, q⟩
  | bl b =>
    cases ru
    exact PySem.P.repr_of_bool ⟨.str _, H, I.tok _, ⟨_, rfl⟩, q⟩
  | int i =>
    obtain ⟨t, rfl⟩ := ru
    exact PySem.P.repr_of_int (by simpa [PyData.showable] using sh) ⟨.str _, H, I.tok _, ⟨_, rfl⟩, q⟩
  | str y =>
    obtain ⟨t, rfl⟩ := ru
    exact PySem.P.repr_of_str ⟨.str _, H, I.tok _, ⟨_, rfl⟩, q⟩ len
  | lst n h ra =>
    obtain ⟨as, rd, ns⟩ := Dq.reads I (.lst n h ra) ru
    cases ru
    exact ref rd ns
  | tup h ra =>
    obtain ⟨as, rd, ns⟩ := Dq.reads I (.tup h ra) ru
    cases ru
    exact ref rd ns
  | dic h ra =>
    obtain ⟨as, rd, ns⟩ := Dq.reads I (.dic h ra) ru
    cases ru
    exact ref rd ns
/-- a new list, not at the place of the module table -/
def tLstS (t : TA) : TE := fun σ H Q => t σ H fun xs H1 => xs.length ≤ sizeLine ∧ ∀ p, H1 p = none → p ≠ sysModules → Q (.ref p) (upd H1 p (.lst xs))
theorem pe_lstS {X : Cx} {es : List Expr} {t : TA} {pos : Pos} (h : PA X es t) : PE X (.List es pos) (tLstS t) := by
  refine ⟨fun pins s σ H Q I hq => wpAny_List_spliced (thn (h.run pos pins s σ H _ I hq) ?_)⟩
  rintro us s1 ⟨xs, H1, I1, r, z, q⟩
  have len : us.length ≤ sizeLine := r.length ▸ z
  have lay := I1.laid (t' := s1.toks) (a := s1.heap.objs.size) (o := .lst xs) (fun b u e => Heap.get?_push_of_some _ e) (Nat.le_refl _)
    ⟨z, us, 0, r, Heap.get?_push_size _ rfl⟩
  exact ⟨len, .ref s1.heap.objs.size, _, lay, rfl, q _ (I1.hok.fresh (Nat.le_refl _)) (Nat.ne_of_gt I1.big)⟩
end L2
namespace L2
open PySem PySem.Spec PyProof.Rows
theorem for_enumL {K : PySem.W.Frag} {a : Addr} {xs : List V} {g : TG} {tb : TS} {D : Ends} {σ : St} {H : Hp} (Pv : Nat → St → Hp → Prop)
    (h0 : Pv 0 σ H) (hl : ∀ i σ H, i ≤ xs.length → Pv i σ H → SqL K H a xs)
    (hs : ∀ i x T σ H, xs[i]? = some x → H T = none → Pv i σ H →
      g (.ref T) σ (upd H T (.tup [.int (i : Nat), x])) fun σ2 H2 => tb { D with nx := Pv (i + 1), ct := Pv (i + 1), bk := D.nx } σ2 H2)
    (hd : ∀ σ H, Pv xs.length σ H → D.nx σ H) :
    ∃ W : Nat → Nat → St → Hp → Prop, (∃ m, W 0 m σ H) ∧ ∀ i m σ H, W i m σ H →
      ((Ite K a).stop i H ∧ D.nx σ H) ∨ ((Ite K a).go i H ∧ ∃ N : St → Hp → Prop, (∀ σ' H', N σ' H' → ∃ m', m' < m ∧ W (i + 1) m' σ' H') ∧
        ∀ x H', (Ite K a).yld i H x H' → g x σ H' fun σ2 H2 => tb { D with nx := N, ct := N, bk := D.nx } σ2 H2) := by
  refine ⟨fun i m σ H => m = xs.length - i ∧ i ≤ xs.length ∧ Pv i σ H, ⟨_, rfl, Nat.zero_le _, h0⟩, ?_⟩
  rintro i m σ H ⟨em, hi, p⟩
  subst em
  have q := hl i σ H hi p
  rcases Nat.lt_or_eq_of_le hi with hlt | rfl
  · refine .inr ⟨⟨xs, xs[i], q, List.getElem?_eq_getElem hlt⟩, Pv (i + 1), fun σ' H' p' => ⟨_, ?_, rfl, hlt, p'⟩, ?_⟩
    · show xs.length - (i + 1) < xs.length - i
      omega
    · rintro x H' ⟨T, y, ex, nT, eH, hy⟩
      subst ex eH
      exact hs i y T σ H (hy xs q) nT p
  · exact .inl ⟨⟨xs, q, Nat.le_refl _⟩, hd σ H p⟩
/-- what stands in H' at places that H does not track -/
def fresh (H H' : Hp) : Hp := fun b => match H b with
  | none => H' b
  | some _ => none
theorem fresh_at {H H' : Hp} {b : Addr} (h : H b = none) : fresh H H' b = H' b := by
  unfold fresh
  rw [h]
theorem of_fresh {H H' : Hp} {b : Addr} {o : HO} (e : fresh H H' b = some o) : H b = none ∧ H' b = some o := by
  cases h : H b with
  | none => exact ⟨rfl, by rwa [fresh_at h] at e⟩
  | some u =>
    unfold fresh at e
    rw [h] at e
    cases e
/-- what is fresh stands still where only what was tracked changes -/
theorem fresh_but {H H1 H2 : Hp} {p : Addr} (hp : ∃ o, H p = some o) (s : SameBut p H1 H2) : Same (fresh H H1) H2 := fun b o e => by
  obtain ⟨n, e1⟩ := of_fresh e
  refine s b o (fun z => ?_) e1
  obtain ⟨u, hu⟩ := hp
  rw [z, hu] at n
  cases n
theorem none_of_same {H H' : Hp} {b : Addr} (s : Same H H') (n : H' b = none) : H b = none := by
  cases h : H b with
  | none => rfl
  | some o =>
    rw [s b o h] at n
    cases n
/-- something new was laid at d, then changed: what was tracked ahead of it stands -/
theorem but_new {p d : Addr} {H H2 : Hp} {o o' : HO} (n : H d = none) (s : SameBut p (upd H d o) H2) : SameBut p H (upd H2 d o') := fun b u nb e => by
  have nd := ne_of_none e n
  rw [upd_ne nd]
  exact s b u nb (same_new n b u e)
theorem dp_bools {K : PySem.W.Frag} {H : Hp} : ∀ bs : List Bool, DpAll K H (bs.map V.bl) (bs.map PyData.bool)
  | [] => .nil
  | b :: bs => .cons (.bl b) (dp_bools bs)
end L2
namespace K00
open PySem L2 PySem.Spec PyProof.Rows
def top (i : Nat) : Stmt := PySem.Challenge.pw_alldrawn_k00_errors_keep_their_values.main.body.getD i (.Pass ⟨0, 0, 0, 0⟩)
abbrev sInit : Stmt := inClass (top 1) 0
abbrev s__law_pot : Stmt := top 33
abbrev s__law_take : Stmt := top 34
abbrev s__law_of : Stmt := top 35
abbrev s__law_cells : Stmt := top 36
abbrev s__law_odd : Stmt := top 37
abbrev s__law_made : Stmt := top 38
abbrev s__law_marks : Stmt := top 39
abbrev s__law_right : Stmt := top 40
abbrev s_law : Stmt := top 41
/-- where things stand behind the top -/
structure Adr where
  fI : Addr
  f__law_pot : Addr
  f__law_take : Addr
  f__law_of : Addr
  f__law_cells : Addr
  f__law_odd : Addr
  f__law_made : Addr
  f__law_marks : Addr
  f__law_right : Addr
  a_DrawError : Addr
  a_BadNet : Addr
  a_NotTied : Addr
  a_NoPlace : Addr
  a_BadTie : Addr
  a_Full : Addr
  a_Few : Addr
  a_BadRing : Addr
  a_BadWheels : Addr
  a_Crossed : Addr
  a_BadLook : Addr
  a_NotOff : Addr
  a_NoDrawing : Addr
  a_BadPlaces : Addr
  a_BadTies : Addr
  a_BadNumber : Addr
  a_BadTurning : Addr
  a_OtherNet : Addr
  a_BadLooks : Addr
  a_TooMany : Addr
  a_Against : Addr
  a_BadOffers : Addr
  a_BadWishes : Addr
  a_BadNames : Addr
  a_NotThere : Addr
  a_Tied : Addr
  a_NothingToUndo : Addr
  a_NothingToRedo : Addr
  a_NoTrial : Addr
  a_BadJournal : Addr
  a_BadLine : Addr
/-- the classes below the first one, in their order -/
def Adr.cs (A : Adr) : List Addr := [A.a_BadNet, A.a_NotTied, A.a_NoPlace, A.a_BadTie, A.a_Full, A.a_Few, A.a_BadRing, A.a_BadWheels, A.a_Crossed, A.a_BadLook, A.a_NotOff, A.a_NoDrawing, A.a_BadPlaces, A.a_BadTies, A.a_BadNumber, A.a_BadTurning, A.a_OtherNet, A.a_BadLooks, A.a_TooMany, A.a_Against, A.a_BadOffers, A.a_BadWishes, A.a_BadNames, A.a_NotThere, A.a_Tied, A.a_NothingToUndo, A.a_NothingToRedo, A.a_NoTrial, A.a_BadJournal, A.a_BadLine]
structure Txt (K : PySem.W.Frag) (mg : Str → Option Value) (A : Adr) : Prop where
  n_len : mg "len" = none
  n_int : mg "int" = none
  n_abs : mg "abs" = none
  n_max : mg "max" = none
  n_min : mg "min" = none
  n_range : mg "range" = none
  n_enumerate : mg "enumerate" = none
  n_all : mg "all" = none
  n_any : mg "any" = none
  n_isinstance : mg "isinstance" = none
  n_repr : mg "repr" = none
  n_list : mg "list" = none
  n_ValueError : mg "ValueError" = none
  m__law_pot : mg "_law_pot" = some (.ref A.f__law_pot)
  k__law_pot : PySem.W.keepIn K (.ref A.f__law_pot) = true
  m__law_take : mg "_law_take" = some (.ref A.f__law_take)
  k__law_take : PySem.W.keepIn K (.ref A.f__law_take) = true
  m__law_of : mg "_law_of" = some (.ref A.f__law_of)
  k__law_of : PySem.W.keepIn K (.ref A.f__law_of) = true
  m__law_cells : mg "_law_cells" = some (.ref A.f__law_cells)
  k__law_cells : PySem.W.keepIn K (.ref A.f__law_cells) = true
  m__law_odd : mg "_law_odd" = some (.ref A.f__law_odd)
  k__law_odd : PySem.W.keepIn K (.ref A.f__law_odd) = true
  m__law_made : mg "_law_made" = some (.ref A.f__law_made)
  k__law_made : PySem.W.keepIn K (.ref A.f__law_made) = true
  m__law_marks : mg "_law_marks" = some (.ref A.f__law_marks)
  k__law_marks : PySem.W.keepIn K (.ref A.f__law_marks) = true
  m__law_right : mg "_law_right" = some (.ref A.f__law_right)
  k__law_right : PySem.W.keepIn K (.ref A.f__law_right) = true
  m_DrawError : mg "DrawError" = some (.ref A.a_DrawError)
  c_DrawError : ErrC K A.fI A.a_DrawError
  m_BadNet : mg "BadNet" = some (.ref A.a_BadNet)
  c_BadNet : ErrC K A.fI A.a_BadNet
  m_NotTied : mg "NotTied" = some (.ref A.a_NotTied)
  c_NotTied : ErrC K A.fI A.a_NotTied
  m_NoPlace : mg "NoPlace" = some (.ref A.a_NoPlace)
  c_NoPlace : ErrC K A.fI A.a_NoPlace
  m_BadTie : mg "BadTie" = some (.ref A.a_BadTie)
  c_BadTie : ErrC K A.fI A.a_BadTie
  m_Full : mg "Full" = some (.ref A.a_Full)
  c_Full : ErrC K A.fI A.a_Full
  m_Few : mg "Few" = some (.ref A.a_Few)
  c_Few : ErrC K A.fI A.a_Few
  m_BadRing : mg "BadRing" = some (.ref A.a_BadRing)
  c_BadRing : ErrC K A.fI A.a_BadRing
  m_BadWheels : mg "BadWheels" = some (.ref A.a_BadWheels)
  c_BadWheels : ErrC K A.fI A.a_BadWheels
  m_Crossed : mg "Crossed" = some (.ref A.a_Crossed)
  c_Crossed : ErrC K A.fI A.a_Crossed
  m_BadLook : mg "BadLook" = some (.ref A.a_BadLook)
  c_BadLook : ErrC K A.fI A.a_BadLook
  m_NotOff : mg "NotOff" = some (.ref A.a_NotOff)
  c_NotOff : ErrC K A.fI A.a_NotOff
  m_NoDrawing : mg "NoDrawing" = some (.ref A.a_NoDrawing)
  c_NoDrawing : ErrC K A.fI A.a_NoDrawing
  m_BadPlaces : mg "BadPlaces" = some (.ref A.a_BadPlaces)
  c_BadPlaces : ErrC K A.fI A.a_BadPlaces
  m_BadTies : mg "BadTies" = some (.ref A.a_BadTies)
  c_BadTies : ErrC K A.fI A.a_BadTies
  m_BadNumber : mg "BadNumber" = some (.ref A.a_BadNumber)
  c_BadNumber : ErrC K A.fI A.a_BadNumber
  m_BadTurning : mg "BadTurning" = some (.ref A.a_BadTurning)
  c_BadTurning : ErrC K A.fI A.a_BadTurning
  m_OtherNet : mg "OtherNet" = some (.ref A.a_OtherNet)
  c_OtherNet : ErrC K A.fI A.a_OtherNet
  m_BadLooks : mg "BadLooks" = some (.ref A.a_BadLooks)
  c_BadLooks : ErrC K A.fI A.a_BadLooks
  m_TooMany : mg "TooMany" = some (.ref A.a_TooMany)
  c_TooMany : ErrC K A.fI A.a_TooMany
  m_Against : mg "Against" = some (.ref A.a_Against)
  c_Against : ErrC K A.fI A.a_Against
  m_BadOffers : mg "BadOffers" = some (.ref A.a_BadOffers)
  c_BadOffers : ErrC K A.fI A.a_BadOffers
  m_BadWishes : mg "BadWishes" = some (.ref A.a_BadWishes)
  c_BadWishes : ErrC K A.fI A.a_BadWishes
  m_BadNames : mg "BadNames" = some (.ref A.a_BadNames)
  c_BadNames : ErrC K A.fI A.a_BadNames
  m_NotThere : mg "NotThere" = some (.ref A.a_NotThere)
  c_NotThere : ErrC K A.fI A.a_NotThere
  m_Tied : mg "Tied" = some (.ref A.a_Tied)
  c_Tied : ErrC K A.fI A.a_Tied
  m_NothingToUndo : mg "NothingToUndo" = some (.ref A.a_NothingToUndo)
  c_NothingToUndo : ErrC K A.fI A.a_NothingToUndo
  m_NothingToRedo : mg "NothingToRedo" = some (.ref A.a_NothingToRedo)
  c_NothingToRedo : ErrC K A.fI A.a_NothingToRedo
  m_NoTrial : mg "NoTrial" = some (.ref A.a_NoTrial)
  c_NoTrial : ErrC K A.fI A.a_NoTrial
  m_BadJournal : mg "BadJournal" = some (.ref A.a_BadJournal)
  c_BadJournal : ErrC K A.fI A.a_BadJournal
  m_BadLine : mg "BadLine" = some (.ref A.a_BadLine)
  c_BadLine : ErrC K A.fI A.a_BadLine
  tI : PySem.W.typeIn K (.ref A.fI) = some (.type "function")
  nd : (A.a_DrawError :: A.cs).Nodup
  isB : ∀ C ∈ A.a_DrawError :: A.cs, PySem.W.kitOne K (.ref C) (.ref A.a_DrawError) = some true ∧ PySem.W.kitOne K (.ref C) (.type "ValueError") = some true
  isC : ∀ C ∈ A.a_DrawError :: A.cs, ∀ c ∈ A.cs, PySem.W.kitOne K (.ref C) (.ref c) = some (decide (C = c))
/-- a pot: three ints, the last of which counts -/
def PotAt (H : Hp) (p : Addr) (n : Nat) : Prop := ∃ o a b : Int, H p = some (.lst [.int o, .int a, .int b]) ∧ 0 ≤ a ∧ a < 2305843009213693921 ∧ 0 ≤ b ∧ b ≤ n
theorem PotAt.same {H H' : Hp} {p : Addr} {n : Nat} (h : PotAt H p n) (s : Same H H') : PotAt H' p n :=
  let ⟨o, a, b, e, r⟩ := h
  ⟨o, a, b, s _ _ e, r⟩
theorem potAt_len {H : Hp} {p : Addr} {n : Nat} (h : PotAt H p n) : ∃ o, H p = some o := let ⟨_, _, _, e, _⟩ := h; ⟨_, e⟩
def spPot (K : PySem.W.Frag) : Sp := fun vs H Q _ => ∃ (s : Addr) (i : Int) (ns : List Int), vs = [.ref s, .int i] ∧ SqL K H s (ns.map V.int) ∧ 0 ≤ i ∧ i ≤ 1000 ∧
  ∀ H' p, Same H H' → H p = none → PotAt H' p 0 → Q (.ref p) H'
def spTake : Sp := fun vs H Q _ => ∃ (p : Addr) (k : Nat) (n : Int), vs = [.ref p, .int n] ∧ PotAt H p k ∧ k ≤ 1000 ∧ 1 ≤ n ∧ n ≤ 1000 ∧
  ∀ H' d, SameBut p H H' → PotAt H' p (k + 1) → 0 ≤ d → d < n → Q (.int d) H'
def spOf : Sp := fun vs H Q _ => ∃ (p l : Addr) (k : Nat) (xs : List V), vs = [.ref p, .ref l] ∧ PotAt H p k ∧ k ≤ 1000 ∧ p ≠ l ∧ H l = some (.lst xs) ∧ 1 ≤ xs.length ∧ xs.length ≤ 1000 ∧
  ∀ H' x, SameBut p H H' → PotAt H' p (k + 1) → x ∈ xs → Q x H'
def spCells (K : PySem.W.Frag) : Sp := fun vs H Q _ => ∃ (s : Addr) (m : Int) (ns : List Int), vs = [.ref s, .int m] ∧ SqL K H s (ns.map V.int) ∧ 1 ≤ m ∧ m ≤ 100 ∧
  ∀ H' p (n : Nat), Same H H' → n ≤ 100 → H' p = some (.lst ((List.range n).map fun i : Nat => V.int i)) → Q (.ref p) H'
section
variable {P : Program} {w : World} {K : PySem.W.Frag} {mg : Str → Option Value} {base : Heap} {ad : Adr}
theorem op_powL {X : Cx} : OpR X (binaryOp .Pow) (rI (fun i j => 0 ≤ j ∧ (Builtin.Int.intBits i : Int) * j ≤ 2 ^ 27) fun i j => .int (i ^ j.toNat)) :=
  opI fun _ _ _ _ _ _ _ hc q => pow_int hc.1 hc.2 q
theorem scI : FnScope ["self", "value"] ["self", "value"] (defScope sInit) := ⟨rfl, rfl, rfl, by decide +kernel, rfl, by decide +kernel, by decide +kernel⟩
theorem ok_init {f : Addr} {fd : FuncData} (F : Fun K "__init__" "DrawError.__init__" sInit f fd) : FnOk P w K mg base CX0 1 f fd ["self", "value"] (spErrInit K) := by
  refine F.ok scI (fun vs H Q E h => ?_) (fun cdv A outer s H vs Q E hr h => ?_)
  · obtain ⟨a, C, fI, v, rfl, _⟩ := h
    rfl
  · obtain ⟨a, C, fI, v, rfl, T, ha, k⟩ := h
    refine ⟨_, pss_one (ps_ost (pv 0) (pv 1)), ?_⟩
    refine ⟨v, rfl, .ref a, rfl, a, C, rfl, T.oex, T.nv, .inl ⟨ha, fun d nd ne => k _ (fun b o nb e => ?_) ⟨d, ne, upd_same, ?_⟩⟩⟩
    · rw [upd_ne nb, upd_ne (ne_of_none e nd)]
      exact e
    · rw [upd_ne ne, upd_same]

theorem sc__law_pot : FnScope ["_law_script", "_law_place", "_law_cell", "_law_own", "_law_small"] ["_law_script", "_law_place"] (defScope s__law_pot) := ⟨rfl, rfl, rfl, by decide +kernel, rfl, by decide +kernel, by decide +kernel⟩
theorem ok__law_pot {f : Addr} {fd : FuncData} (F : Fun K "_law_pot" "_law_pot" s__law_pot f fd) (T : Txt K mg ad) : FnOk P w K mg base CX0 1 f fd ["_law_script", "_law_place"] (spPot K) := by
  refine F.ok sc__law_pot (fun vs H Q E h => ?_) (fun cdv A outer s H vs Q E hr h => ?_)
  · obtain ⟨_, _, _, rfl, _⟩ := h
    rfl
  · obtain ⟨a, i, ns, rfl, hS, h0, h1, k⟩ := h
    refine ⟨_, (pss_cons (ps_set (i := 2) sc__law_pot.nd rfl (Or.inl rfl) (pe_ifExp (pt_cmpR op_lt (pv 1) (pe_callB call_len_seq (by rfl) T.n_len (by decide +kernel) (pa_cons (pv 0) pa_nil)) (nomark _)) (pe_ix ix_list (pv 0) (pv 1) (fun _ _ => rfl)) (pe_op op_add (pe_op op_mul pe_int (pv 1)) pe_int)))
      (pss_cons (ps_set (i := 3) sc__law_pot.nd rfl (Or.inl rfl) (pe_op op_mul (pe_op op_mod (pe_callTy call_int1 (by rfl) T.n_int (by decide +kernel) (pa_cons (pe_callB call_abs (by rfl) T.n_abs (by decide +kernel) (pa_cons (pv 2) pa_nil)) pa_nil)) (pe_op op_powL (pe_op op_pow pe_int pe_int) pe_int)) (pe_callTy call_int1 (by rfl) T.n_int (by decide +kernel) (pa_cons (pe_cmpR op_ge (pe_callB call_abs (by rfl) T.n_abs (by decide +kernel) (pa_cons (pv 2) pa_nil)) (pe_op op_pow pe_int pe_int) (nomark _)) pa_nil))))
      (pss_cons (ps_set (i := 4) sc__law_pot.nd rfl (Or.inl rfl) (pe_op op_mod (pe_callTy call_int1 (by rfl) T.n_int (by decide +kernel) (pa_cons (pv 2) pa_nil)) pe_int))
      (pss_one (ps_ret (pe_lst (pa_cons (pv 3) (pa_cons (pe_op op_mod (pe_callTy call_int1 (by rfl) T.n_int (by decide +kernel) (pa_cons (pe_op op_add (pe_op op_add (pe_op op_mul (pv 4) pe_int) (pe_op op_mul (pe_op op_mul pe_int (pv 1)) (pv 1))) pe_int) pa_nil)) pe_int) (pa_cons pe_int pa_nil))))))))), ?_⟩
    refine ⟨_, rfl, _, rfl, a, _, rfl, .inl hS, _, _, rfl, rfl, _, rfl, ?_⟩
    refine ite2 (fun hlt => ?_) (fun _ => ?_)
    · have hlt' : i.toNat < ns.length := by
        have q := of_decide_eq_true hlt
        rw [List.length_map] at q
        omega
      have he : atI (ns.map V.int) i = some (V.int ns[i.toNat]) := by
        have q := atI_nat (xs := ns.map V.int) (j := i.toNat) (v := V.int ns[i.toNat]) (by rw [List.getElem?_map, List.getElem?_eq_getElem hlt']; rfl)
        rwa [Int.toNat_of_nonneg h0] at q
      refine ⟨_, rfl, _, rfl, a, _, i, _, rfl, rfl, hS, he, ?_⟩
      generalize ns[i.toNat] = c

      refine ⟨_, rfl, _, rfl, .inl ⟨_, rfl, ?_⟩⟩
      refine ⟨_, _, rfl, rfl, ⟨by decide, by decide, by decide⟩, _, _, rfl, rfl, ⟨by decide, by decide +kernel⟩, ?_⟩
      refine ⟨_, _, rfl, rfl, (by decide +kernel : (0 : Int) < (10 ^ Int.toNat 60) ^ Int.toNat 5), _, rfl, _, rfl, _, _, rfl, rfl, ⟨by decide, by decide, by decide⟩, ?_⟩
      refine ⟨_, _, rfl, rfl, .inr ⟨_, rfl, _, _, rfl, rfl, .inr ?_, ?_⟩⟩
      · by_cases hc : ((10 : Int) ^ (18 : Int).toNat ≤ if c < 0 then -c else c)
        · rw [decide_eq_true hc]
          decide
        · rw [decide_eq_false hc]
          decide
      refine ⟨_, rfl, .inl ⟨_, rfl, _, _, rfl, rfl, (by decide : (0 : Int) < 2305843009213693951), ?_⟩⟩
      have m0 : 0 ≤ c % 2305843009213693951 := Int.emod_nonneg _ (by decide)
      have m1 : c % 2305843009213693951 < 2305843009213693951 := Int.emod_lt_of_pos _ (by decide)
      generalize c % 2305843009213693951 = m at m0 m1 ⊢
      refine ⟨_, rfl, _, rfl, _, _, rfl, rfl, .inl ⟨by omega, by omega⟩, ?_⟩
      refine ⟨_, rfl, _, _, rfl, rfl, .inl ⟨by decide, by decide⟩, _, rfl, _, _, rfl, rfl, .inl ⟨by omega, by omega⟩, ?_⟩
      refine ⟨_, _, rfl, rfl, ?_⟩
      refine ⟨_, _, rfl, rfl, .inl ⟨_, rfl, _, _, rfl, rfl, (by decide : (0 : Int) < 2305843009213693921), ?_⟩⟩
      refine ⟨by show 3 ≤ sizeLine; decide, fun p np => ?_⟩
      refine k _ p (same_new np) np ⟨_, _, _, upd_same, Int.emod_nonneg _ (by decide), Int.emod_lt_of_pos _ (by decide), by decide, by decide⟩
    · refine ⟨_, rfl, _, _, rfl, rfl, .inl ⟨by decide, by decide⟩, _, _, rfl, rfl, ?_⟩
      dsimp only
      generalize 47 * i + 7 = c

      refine ⟨_, rfl, _, rfl, .inl ⟨_, rfl, ?_⟩⟩
      refine ⟨_, _, rfl, rfl, ⟨by decide, by decide, by decide⟩, _, _, rfl, rfl, ⟨by decide, by decide +kernel⟩, ?_⟩
      refine ⟨_, _, rfl, rfl, (by decide +kernel : (0 : Int) < (10 ^ Int.toNat 60) ^ Int.toNat 5), _, rfl, _, rfl, _, _, rfl, rfl, ⟨by decide, by decide, by decide⟩, ?_⟩
      refine ⟨_, _, rfl, rfl, .inr ⟨_, rfl, _, _, rfl, rfl, .inr ?_, ?_⟩⟩
      · by_cases hc : ((10 : Int) ^ (18 : Int).toNat ≤ if c < 0 then -c else c)
        · rw [decide_eq_true hc]
          decide
        · rw [decide_eq_false hc]
          decide
      refine ⟨_, rfl, .inl ⟨_, rfl, _, _, rfl, rfl, (by decide : (0 : Int) < 2305843009213693951), ?_⟩⟩
      have m0 : 0 ≤ c % 2305843009213693951 := Int.emod_nonneg _ (by decide)
      have m1 : c % 2305843009213693951 < 2305843009213693951 := Int.emod_lt_of_pos _ (by decide)
      generalize c % 2305843009213693951 = m at m0 m1 ⊢
      refine ⟨_, rfl, _, rfl, _, _, rfl, rfl, .inl ⟨by omega, by omega⟩, ?_⟩
      refine ⟨_, rfl, _, _, rfl, rfl, .inl ⟨by decide, by decide⟩, _, rfl, _, _, rfl, rfl, .inl ⟨by omega, by omega⟩, ?_⟩
      refine ⟨_, _, rfl, rfl, ?_⟩
      refine ⟨_, _, rfl, rfl, .inl ⟨_, rfl, _, _, rfl, rfl, (by decide : (0 : Int) < 2305843009213693921), ?_⟩⟩
      refine ⟨by show 3 ≤ sizeLine; decide, fun p np => ?_⟩
      refine k _ p (same_new np) np ⟨_, _, _, upd_same, Int.emod_nonneg _ (by decide), Int.emod_lt_of_pos _ (by decide), by decide, by decide⟩

theorem sc__law_take : FnScope ["_law_pot_here", "_law_upto", "_law_digit", "_law_prime", "_law_mixed"] ["_law_pot_here", "_law_upto"] (defScope s__law_take) := ⟨rfl, rfl, rfl, by decide +kernel, rfl, by decide +kernel, by decide +kernel⟩
def primes : List V := [.int 2147483647, .int 2147483629, .int 2147483587, .int 2147483579, .int 2147483563]
theorem prime_at {i : Int} (h0 : 0 ≤ i) (h1 : i < 5) : ∃ q : Int, atI primes i = some (.int q) ∧ 0 < q ∧ q ≤ 2147483647 := by
  have h : i = 0 ∨ i = 1 ∨ i = 2 ∨ i = 3 ∨ i = 4 := by omega
  rcases h with rfl | rfl | rfl | rfl | rfl
  · exact ⟨2147483647, rfl, by decide, by decide⟩
  · exact ⟨2147483629, rfl, by decide, by decide⟩
  · exact ⟨2147483587, rfl, by decide, by decide⟩
  · exact ⟨2147483579, rfl, by decide, by decide⟩
  · exact ⟨2147483563, rfl, by decide, by decide⟩
theorem ok__law_take {f : Addr} {fd : FuncData} (F : Fun K "_law_take" "_law_take" s__law_take f fd) (T : Txt K mg ad) : FnOk P w K mg base CX0 1 f fd ["_law_pot_here", "_law_upto"] spTake := by
  refine F.ok sc__law_take (fun vs H Q E h => ?_) (fun cdv A outer s H vs Q E hr h => ?_)
  · obtain ⟨_, _, _, rfl, _⟩ := h
    rfl
  · obtain ⟨p, m, n, rfl, ⟨o, a, b, h, a0, a1, b0, b1⟩, hm, n1, n2, k⟩ := h
    refine ⟨_, (pss_cons (ps_if (pt_cmpR op_gt (pe_ix ix_list (pv 0) pe_int (fun _ _ => rfl)) pe_int (nomark _)) (pss_cons (ps_set (i := 2) sc__law_take.nd rfl (Or.inl rfl) (pe_op op_mod (pe_callTy call_int1 (by rfl) T.n_int (by decide +kernel) (pa_cons (pe_ix ix_list (pv 0) pe_int (fun _ _ => rfl)) pa_nil)) (pv 1)))
      (pss_cons (ps_asg (pe_op op_fdiv (pe_ix ix_list (pv 0) pe_int (fun _ _ => rfl)) (pv 1)) (pg_sub (pv 0) pe_int set_list))
      (pss_one (ps_ret (pv 2))))) pss_nil)
      (pss_cons (ps_asg (pe_op op_add (pe_ix ix_list (pv 0) pe_int (fun _ _ => rfl)) pe_int) (pg_sub (pv 0) pe_int set_list))
      (pss_cons (ps_set (i := 3) sc__law_take.nd rfl (Or.inl rfl) (pe_ix ix_list (pe_lst (pa_cons pe_int (pa_cons pe_int (pa_cons pe_int (pa_cons pe_int (pa_cons pe_int pa_nil)))))) (pe_op op_mod (pe_callTy call_int1 (by rfl) T.n_int (by decide +kernel) (pa_cons (pe_ix ix_list (pv 0) pe_int (fun _ _ => rfl)) pa_nil)) pe_int) (fun _ _ => rfl)))
      (pss_cons (ps_set (i := 4) sc__law_take.nd rfl (Or.inl rfl) (pe_op op_mod (pe_callTy call_int1 (by rfl) T.n_int (by decide +kernel) (pa_cons (pe_op op_pow (pe_callTy call_int1 (by rfl) T.n_int (by decide +kernel) (pa_cons (pe_op op_add (pe_op op_add (pe_ix ix_list (pv 0) pe_int (fun _ _ => rfl)) (pe_op op_mul (pe_op op_mul pe_int (pe_ix ix_list (pv 0) pe_int (fun _ _ => rfl))) (pe_ix ix_list (pv 0) pe_int (fun _ _ => rfl)))) pe_int) pa_nil)) pe_int) pa_nil)) (pv 3)))
      (pss_cons (ps_set (i := 4) sc__law_take.nd rfl (Or.inl rfl) (pe_op op_mod (pe_callTy call_int1 (by rfl) T.n_int (by decide +kernel) (pa_cons (pe_op op_mul (pv 4) (pe_op op_add (pe_op op_mod (pe_callTy call_int1 (by rfl) T.n_int (by decide +kernel) (pa_cons (pv 4) pa_nil)) pe_int) (pe_op op_mul pe_int (pe_ix ix_list (pv 0) pe_int (fun _ _ => rfl))))) pa_nil)) pe_int))
      (pss_one (ps_ret (pe_op op_mod (pe_callTy call_int1 (by rfl) T.n_int (by decide +kernel) (pa_cons (pe_op op_fdiv (pv 4) pe_int) pa_nil)) (pv 1))))))))), ?_⟩
    refine ⟨_, rfl, p, _, 0, .int o, rfl, rfl, SqL.of h, rfl, _, _, rfl, rfl, _, rfl, ?_⟩
    refine ite2 (fun ho => ?_) (fun ho => ?_)
    · refine ⟨_, rfl, p, _, 0, .int o, rfl, rfl, SqL.of h, rfl, .inl ⟨_, rfl, _, rfl, _, _, rfl, rfl, (by omega : (0 : Int) < n), ?_⟩⟩
      refine ⟨_, rfl, p, _, 0, .int o, rfl, rfl, SqL.of h, rfl, _, rfl, _, _, rfl, rfl, ⟨(by omega : (0 : Int) < n), by omega⟩, ?_⟩
      refine ⟨_, rfl, p, _, _, 0, rfl, rfl, h, rfl, ?_⟩
      exact ⟨_, rfl, k _ _ but_upd ⟨_, a, b, upd_same, a0, a1, b0, by omega⟩ (Int.emod_nonneg _ (by omega)) (Int.emod_lt_of_pos _ (by omega))⟩
    · refine ⟨_, rfl, p, _, 2, .int b, rfl, rfl, SqL.of h, rfl, _, _, rfl, rfl, _, rfl, p, _, _, 2, rfl, rfl, h, rfl, ?_⟩
      obtain ⟨c, ec⟩ : ∃ c : Int, c = b + 1 := ⟨_, rfl⟩
      have c0 : 0 ≤ c := by omega
      have c1 : c ≤ 1001 := by omega
      have h1 : upd H p (.lst ([V.int o, .int a, .int b].set 2 (.int (b + 1)))) p = some (.lst [.int o, .int a, .int c]) := by
        rw [upd_same, ec]
        rfl
      have bt : SameBut p H (upd H p (.lst ([V.int o, .int a, .int b].set 2 (.int (b + 1))))) := but_upd
      generalize upd H p (.lst ([V.int o, .int a, .int b].set 2 (.int (b + 1)))) = H1 at h1 bt ⊢
      refine ⟨by show 5 ≤ sizeLine; decide, fun l hl => ?_⟩
      have h2 : upd H1 l (.lst [V.int 2147483647, .int 2147483629, .int 2147483587, .int 2147483579, .int 2147483563]) p = some (.lst [.int o, .int a, .int c]) := same_new hl _ _ h1
      have bt2 : SameBut p H (upd H1 l (.lst [V.int 2147483647, .int 2147483629, .int 2147483587, .int 2147483579, .int 2147483563])) := bt.trans (same_new hl).but
      have hl2 : upd H1 l (.lst [V.int 2147483647, .int 2147483629, .int 2147483587, .int 2147483579, .int 2147483563]) l = some (.lst [V.int 2147483647, .int 2147483629, .int 2147483587, .int 2147483579, .int 2147483563]) := upd_same
      generalize upd H1 l (.lst [V.int 2147483647, .int 2147483629, .int 2147483587, .int 2147483579, .int 2147483563]) = H2 at h2 bt2 hl2 ⊢
      obtain ⟨q, eq, q0, q1⟩ := prime_at (i := c % 5) (Int.emod_nonneg _ (by decide)) (Int.emod_lt_of_pos _ (by decide))
      refine ⟨_, rfl, p, _, 2, .int c, rfl, rfl, SqL.of h2, rfl, .inl ⟨_, rfl, _, _, rfl, rfl, (by decide : (0 : Int) < 5), ?_⟩⟩
      refine ⟨l, _, _, .int q, rfl, rfl, SqL.of hl2, eq, ?_⟩
      have z0 : 0 ≤ 98101 * c * c := Int.mul_nonneg (by omega) c0
      have z1 : 98101 * c * c ≤ 98101 * 1001 * 1001 := Int.mul_le_mul (by omega) c1 c0 (by decide)
      refine ⟨_, rfl, p, _, 1, .int a, rfl, rfl, SqL.of h2, rfl, _, rfl, p, _, 2, .int c, rfl, rfl, SqL.of h2, rfl, _, _, rfl, rfl, .inl ⟨by decide, by decide⟩, ?_⟩
      refine ⟨_, rfl, p, _, 2, .int c, rfl, rfl, SqL.of h2, rfl, _, _, rfl, rfl, .inl ⟨by omega, by omega⟩, ?_⟩
      refine ⟨_, _, rfl, rfl, _, _, rfl, rfl, .inl ⟨_, rfl, ?_⟩⟩
      refine ⟨_, _, rfl, rfl, ⟨by decide, by decide, ?_⟩, .inl ⟨_, rfl, _, rfl, _, _, rfl, rfl, q0, ?_⟩⟩
      · show (a + 98101 * c * c + 43).natAbs < 2 ^ 64
        omega
      have x0 := Int.emod_nonneg ((a + 98101 * c * c + 43) ^ (3 : Int).toNat) (Int.ne_of_gt q0)
      have x1 := Int.emod_lt_of_pos ((a + 98101 * c * c + 43) ^ (3 : Int).toNat) q0
      dsimp only
      generalize (a + 98101 * c * c + 43) ^ (3 : Int).toNat % q = x at x0 x1 ⊢
      refine ⟨_, rfl, _, rfl, .inl ⟨_, rfl, _, _, rfl, rfl, (by decide : (0 : Int) < 10111), ?_⟩⟩
      refine ⟨_, rfl, p, _, 2, .int c, rfl, rfl, SqL.of h2, rfl, _, _, rfl, rfl, .inl ⟨by decide, by decide⟩, _, _, rfl, rfl, ?_⟩
      refine ⟨_, _, rfl, rfl, .inl ⟨by omega, by omega⟩, .inl ⟨_, rfl, _, _, rfl, rfl, (by decide : (0 : Int) < 2305843009213693907), ?_⟩⟩
      refine ⟨_, rfl, _, _, rfl, rfl, ⟨by decide, by decide⟩, .inl ⟨_, rfl, _, rfl, _, _, rfl, rfl, (by omega : (0 : Int) < n), ?_⟩⟩
      exact k _ _ bt2 ⟨o, a, c, h2, a0, a1, c0, by omega⟩ (Int.emod_nonneg _ (by omega)) (Int.emod_lt_of_pos _ (by omega))

end
end K00
namespace K00
open PySem L2 PySem.Spec PyProof.Rows
section
variable {P : Program} {w : World} {K : PySem.W.Frag} {mg : Str → Option Value} {base : Heap} {ad : Adr}
theorem sc__law_of : FnScope ["_law_pot_here", "_law_some"] ["_law_pot_here", "_law_some"] (defScope s__law_of) := ⟨rfl, rfl, rfl, by decide +kernel, rfl, by decide +kernel, by decide +kernel⟩
theorem atI_of {xs : List V} {d : Int} (h0 : 0 ≤ d) (h1 : d < xs.length) : ∃ x, atI xs d = some x ∧ x ∈ xs := by
  have hl : d.toNat < xs.length := by omega
  have q := atI_nat (xs := xs) (j := d.toNat) (List.getElem?_eq_getElem hl)
  rw [Int.toNat_of_nonneg h0] at q
  exact ⟨_, q, List.getElem_mem hl⟩
theorem ok__law_of {f : Addr} {fd fd1 : FuncData} (F : Fun K "_law_of" "_law_of" s__law_of f fd) (T : Txt K mg ad)
    (G__law_take : FnOk P w K mg base CX0 1 ad.f__law_take fd1 ["_law_pot_here", "_law_upto"] spTake) (b__law_take : Binds K fd1 ["_law_pot_here", "_law_upto"] []) : FnOk P w K mg base CX0 2 f fd ["_law_pot_here", "_law_some"] spOf := by
  refine F.ok sc__law_of (fun vs H Q E h => ?_) (fun cdv A outer s H vs Q E hr h => ?_)
  · obtain ⟨_, _, _, _, rfl, _⟩ := h
    rfl
  · obtain ⟨p, l, m, xs, rfl, hp, hm, ne, hl, l0, l1, k⟩ := h
    have h__law_take := hr
    refine ⟨_, (pss_one (ps_ret (pe_ix ix_list (pv 1) (pe_call G__law_take h__law_take (by rfl) T.m__law_take T.k__law_take b__law_take .nil pass0 (pa_cons (pv 0) (pa_cons (pe_callB call_len_seq (by rfl) T.n_len (by decide +kernel) (pa_cons (pv 1) pa_nil)) pa_nil))) (fun _ _ => rfl)))), ?_⟩
    refine ⟨_, rfl, _, rfl, _, rfl, l, xs, rfl, .inl (SqL.of hl), p, m, _, rfl, hp, hm, by omega, by omega, fun H' d sb pa d0 d1 => ?_⟩
    obtain ⟨x, ex, hx⟩ := atI_of d0 d1
    exact ⟨l, xs, d, x, rfl, rfl, SqL.of (sb _ _ ne.symm hl), ex, k _ _ sb pa hx⟩
theorem sc__law_cells : FnScope ["_law_script", "_law_most"] ["_law_script", "_law_most"] (defScope s__law_cells) := ⟨rfl, rfl, rfl, by decide +kernel, rfl, by decide +kernel, by decide +kernel⟩
theorem ok__law_cells {f : Addr} {fd : FuncData} (F : Fun K "_law_cells" "_law_cells" s__law_cells f fd) (T : Txt K mg ad) : FnOk P w K mg base CX0 1 f fd ["_law_script", "_law_most"] (spCells K) := by
  refine F.ok sc__law_cells (fun vs H Q E h => ?_) (fun cdv A outer s H vs Q E hr h => ?_)
  · obtain ⟨_, _, _, rfl, _⟩ := h
    rfl
  · obtain ⟨a, m, ns, rfl, hS, m0, m1, k⟩ := h
    refine ⟨_, (pss_one (ps_ret (pe_listRg rfl (by rfl) T.n_list (prg_1 (by rfl) T.n_range (pe_callB (call_max2 rfl) (by rfl) T.n_max (by decide +kernel) (pa_cons pe_int (pa_cons (pe_callB (call_min2 rfl) (by rfl) T.n_min (by decide +kernel) (pa_cons (pv 1) (pa_cons (pe_callB call_len_seq (by rfl) T.n_len (by decide +kernel) (pa_cons (pv 0) pa_nil)) pa_nil))) pa_nil))))))), ?_⟩
    refine ⟨_, rfl, _, rfl, a, _, rfl, .inl hS, _, _, rfl, _, _, rfl, ?_⟩
    generalize hn : (if (if ((ns.map V.int).length : Int) < m then ((ns.map V.int).length : Int) else m) > 1 then (if ((ns.map V.int).length : Int) < m then ((ns.map V.int).length : Int) else m) else 1) = n
    have n0 : 1 ≤ n := by
      rw [← hn]
      split <;> omega
    have n1 : n ≤ 100 := by
      rw [← hn]
      split
      · split <;> omega
      · omega
    refine ⟨n, rfl, RgOk.of_le (by decide) (by omega) (by decide) (by omega), fun q hq => ?_⟩
    refine k _ q n.toNat (same_new hq) (by omega) ?_
    rw [upd_same]
    unfold rgV
    simp
end
end K00
namespace K00
open PySem L2 PySem.Spec PyProof.Rows
theorem SameT {H1 H2 H3 : Hp} (s : Same H1 H2) (t : Same H2 H3) : Same H1 H3 := fun b o e => t b o (s b o e)
section
variable {P : Program} {w : World} {K : PySem.W.Frag} {mg : Str → Option Value} {base : Heap} {ad : Adr}
def oddD : List PyData := [PyData.none, .bool true, .bool false, .int 0, .int 1, .int (-1), .int (10 ^ (8 : Int).toNat), .str "", .str "a", .str "0", .tuple [], .list [], .dict [], .tuple [.int 0], .tuple [.tuple []], .list [.int 0], .tuple [.str "a", .str "b"], .tuple [.str "a"], .str "zz", .tuple [.str "a", .str "b", .str "c"], .list [.tuple [.str "a", .str "b"]], .tuple [.tuple [.str "a", .str "b"]], .dict [(.str "a", .str "b")], .str "A"]
def spOdd : Sp := fun vs H Q _ => ∃ (p : Addr) (k : Nat), vs = [.ref p] ∧ PotAt H p k ∧ k ≤ 1000 ∧
  ∀ H' x d, SameBut p H H' → PotAt H' p (k + 1) → d ∈ oddD → Dq (fresh H H') x d → Q x H'
theorem sc__law_odd : FnScope ["_law_pot_here", "_law_some"] ["_law_pot_here"] (defScope s__law_odd) := ⟨rfl, rfl, rfl, by decide +kernel, rfl, by decide +kernel, by decide +kernel⟩
theorem ok__law_odd {f : Addr} {fd fd1 : FuncData} (F : Fun K "_law_odd" "_law_odd" s__law_odd f fd) (T : Txt K mg ad)
    (G__law_of : FnOk P w K mg base CX0 2 ad.f__law_of fd1 ["_law_pot_here", "_law_some"] spOf) (b__law_of : Binds K fd1 ["_law_pot_here", "_law_some"] []) : FnOk P w K mg base CX0 3 f fd ["_law_pot_here"] spOdd := by
  refine F.ok sc__law_odd (fun vs H Q E h => ?_) (fun cdv A outer s H vs Q E hr h => ?_)
  · obtain ⟨_, _, rfl, _⟩ := h
    rfl
  · obtain ⟨p, m, rfl, hp, hm, k⟩ := h
    have h__law_of := hr
    refine ⟨_, (pss_cons (ps_set (i := 1) sc__law_odd.nd rfl (Or.inl rfl) (pe_lst (pa_cons pe_non (pa_cons pe_bl (pa_cons pe_bl (pa_cons pe_int (pa_cons pe_int (pa_cons (pe_un un_neg pe_int) (pa_cons (pe_op op_pow pe_int pe_int) (pa_cons pe_str (pa_cons pe_str (pa_cons pe_str (pa_cons (pe_tup pa_nil) (pa_cons (pe_lstS pa_nil) (pa_cons pe_dnewK (pa_cons (pe_tup (pa_cons pe_int pa_nil)) (pa_cons (pe_tup (pa_cons (pe_tup pa_nil) pa_nil)) (pa_cons (pe_lstS (pa_cons pe_int pa_nil)) (pa_cons (pe_tup (pa_cons pe_str (pa_cons pe_str pa_nil))) (pa_cons (pe_tup (pa_cons pe_str pa_nil)) (pa_cons pe_str pa_nil)))))))))))))))))))))
      (pss_one (ps_ret (pe_call G__law_of h__law_of (by rfl) T.m__law_of T.k__law_of b__law_of .nil pass0 (pa_cons (pv 0) (pa_cons (pe_op op_cat (pv 1) (pe_lst (pa_cons (pe_tup (pa_cons pe_str (pa_cons pe_str (pa_cons pe_str pa_nil)))) (pa_cons (pe_lstS (pa_cons (pe_tup (pa_cons pe_str (pa_cons pe_str pa_nil))) pa_nil)) (pa_cons (pe_tup (pa_cons (pe_tup (pa_cons pe_str (pa_cons pe_str pa_nil))) pa_nil)) (pa_cons (pe_disp (pps_cons pe_str pe_str pps_nil) (by rfl) (by rfl) (fun z => by cases z) (by decide)) (pa_cons pe_str pa_nil))))))) pa_nil)))))), ?_⟩
    refine ⟨_, rfl, ?_⟩
    refine ⟨_, _, rfl, rfl, ⟨by decide, by decide, by decide⟩, ?_⟩
    refine ⟨by show 0 ≤ sizeLine; decide, fun p0 n0 => ?_⟩
    have s0 : Same H (upd H p0 (.tup ([] : List V))) := same_new n0
    have f0 : upd H p0 (.tup ([] : List V)) p0 = some (.tup ([] : List V)) := upd_same
    generalize upd H p0 (.tup ([] : List V)) = H1 at s0 f0 ⊢
    refine ⟨by show 0 ≤ sizeLine; decide, fun p1 n1 y1 => ?_⟩
    have s1 : Same H1 (upd H1 p1 (.lst ([] : List V))) := same_new n1
    have f1 : upd H1 p1 (.lst ([] : List V)) p1 = some (.lst ([] : List V)) := upd_same
    generalize upd H1 p1 (.lst ([] : List V)) = H2 at s1 f1 ⊢
    intro p2 n2
    have s2 : Same H2 (upd H2 p2 (.dK ([] : List (Key × V)))) := same_new n2
    have f2 : upd H2 p2 (.dK ([] : List (Key × V))) p2 = some (.dK ([] : List (Key × V))) := upd_same
    generalize upd H2 p2 (.dK ([] : List (Key × V))) = H3 at s2 f2 ⊢
    refine ⟨by show 1 ≤ sizeLine; decide, fun p3 n3 => ?_⟩
    have s3 : Same H3 (upd H3 p3 (.tup [V.int 0])) := same_new n3
    have f3 : upd H3 p3 (.tup [V.int 0]) p3 = some (.tup [V.int 0]) := upd_same
    generalize upd H3 p3 (.tup [V.int 0]) = H4 at s3 f3 ⊢
    refine ⟨by show 0 ≤ sizeLine; decide, fun p4 n4 => ?_⟩
    have s4 : Same H4 (upd H4 p4 (.tup ([] : List V))) := same_new n4
    have f4 : upd H4 p4 (.tup ([] : List V)) p4 = some (.tup ([] : List V)) := upd_same
    generalize upd H4 p4 (.tup ([] : List V)) = H5 at s4 f4 ⊢
    refine ⟨by show 1 ≤ sizeLine; decide, fun p5 n5 => ?_⟩
    have s5 : Same H5 (upd H5 p5 (.tup [V.ref p4])) := same_new n5
    have f5 : upd H5 p5 (.tup [V.ref p4]) p5 = some (.tup [V.ref p4]) := upd_same
    generalize upd H5 p5 (.tup [V.ref p4]) = H6 at s5 f5 ⊢
    refine ⟨by show 1 ≤ sizeLine; decide, fun p6 n6 y6 => ?_⟩
    have s6 : Same H6 (upd H6 p6 (.lst [V.int 0])) := same_new n6
    have f6 : upd H6 p6 (.lst [V.int 0]) p6 = some (.lst [V.int 0]) := upd_same
    generalize upd H6 p6 (.lst [V.int 0]) = H7 at s6 f6 ⊢
    refine ⟨by show 2 ≤ sizeLine; decide, fun p7 n7 => ?_⟩
    have s7 : Same H7 (upd H7 p7 (.tup [V.str "a", .str "b"])) := same_new n7
    have f7 : upd H7 p7 (.tup [V.str "a", .str "b"]) p7 = some (.tup [V.str "a", .str "b"]) := upd_same
    generalize upd H7 p7 (.tup [V.str "a", .str "b"]) = H8 at s7 f7 ⊢
    refine ⟨by show 1 ≤ sizeLine; decide, fun p8 n8 => ?_⟩
    have s8 : Same H8 (upd H8 p8 (.tup [V.str "a"])) := same_new n8
    have f8 : upd H8 p8 (.tup [V.str "a"]) p8 = some (.tup [V.str "a"]) := upd_same
    generalize upd H8 p8 (.tup [V.str "a"]) = H9 at s8 f8 ⊢
    refine ⟨by show 19 ≤ sizeLine; decide, fun p9 n9 => ?_⟩
    have s9 : Same H9 (upd H9 p9 (.lst [V.non, .bl true, .bl false, .int 0, .int 1, .int (-1), .int (10 ^ (8 : Int).toNat), .str "", .str "a", .str "0", .ref p0, .ref p1, .ref p2, .ref p3, .ref p5, .ref p6, .ref p7, .ref p8, .str "zz"])) := same_new n9
    have f9 : upd H9 p9 (.lst [V.non, .bl true, .bl false, .int 0, .int 1, .int (-1), .int (10 ^ (8 : Int).toNat), .str "", .str "a", .str "0", .ref p0, .ref p1, .ref p2, .ref p3, .ref p5, .ref p6, .ref p7, .ref p8, .str "zz"]) p9 = some (.lst [V.non, .bl true, .bl false, .int 0, .int 1, .int (-1), .int (10 ^ (8 : Int).toNat), .str "", .str "a", .str "0", .ref p0, .ref p1, .ref p2, .ref p3, .ref p5, .ref p6, .ref p7, .ref p8, .str "zz"]) := upd_same
    generalize upd H9 p9 (.lst [V.non, .bl true, .bl false, .int 0, .int 1, .int (-1), .int (10 ^ (8 : Int).toNat), .str "", .str "a", .str "0", .ref p0, .ref p1, .ref p2, .ref p3, .ref p5, .ref p6, .ref p7, .ref p8, .str "zz"]) = H10 at s9 f9 ⊢
    refine ⟨_, rfl, _, rfl, ?_⟩
    refine ⟨by show 3 ≤ sizeLine; decide, fun p10 n10 => ?_⟩
    have s10 : Same H10 (upd H10 p10 (.tup [V.str "a", .str "b", .str "c"])) := same_new n10
    have f10 : upd H10 p10 (.tup [V.str "a", .str "b", .str "c"]) p10 = some (.tup [V.str "a", .str "b", .str "c"]) := upd_same
    generalize upd H10 p10 (.tup [V.str "a", .str "b", .str "c"]) = H11 at s10 f10 ⊢
    refine ⟨by show 2 ≤ sizeLine; decide, fun p11 n11 => ?_⟩
    have s11 : Same H11 (upd H11 p11 (.tup [V.str "a", .str "b"])) := same_new n11
    have f11 : upd H11 p11 (.tup [V.str "a", .str "b"]) p11 = some (.tup [V.str "a", .str "b"]) := upd_same
    generalize upd H11 p11 (.tup [V.str "a", .str "b"]) = H12 at s11 f11 ⊢
    refine ⟨by show 1 ≤ sizeLine; decide, fun p12 n12 y12 => ?_⟩
    have s12 : Same H12 (upd H12 p12 (.lst [V.ref p11])) := same_new n12
    have f12 : upd H12 p12 (.lst [V.ref p11]) p12 = some (.lst [V.ref p11]) := upd_same
    generalize upd H12 p12 (.lst [V.ref p11]) = H13 at s12 f12 ⊢
    refine ⟨by show 2 ≤ sizeLine; decide, fun p13 n13 => ?_⟩
    have s13 : Same H13 (upd H13 p13 (.tup [V.str "a", .str "b"])) := same_new n13
    have f13 : upd H13 p13 (.tup [V.str "a", .str "b"]) p13 = some (.tup [V.str "a", .str "b"]) := upd_same
    generalize upd H13 p13 (.tup [V.str "a", .str "b"]) = H14 at s13 f13 ⊢
    refine ⟨by show 1 ≤ sizeLine; decide, fun p14 n14 => ?_⟩
    have s14 : Same H14 (upd H14 p14 (.tup [V.ref p13])) := same_new n14
    have f14 : upd H14 p14 (.tup [V.ref p13]) p14 = some (.tup [V.ref p13]) := upd_same
    generalize upd H14 p14 (.tup [V.ref p13]) = H15 at s14 f14 ⊢
    refine fun p15 n15 => ⟨upd_same, [(Sum.inr "a", V.str "b")], rfl, by decide, ?_⟩
    rw [upd_upd, show mergeK [] [((Sum.inr "a" : Key), V.str "b")] = [((Sum.inr "a" : Key), V.str "b")] from rfl]
    have s15 : Same H15 (upd H15 p15 (.dK [((Sum.inr "a" : Key), V.str "b")])) := same_new n15
    have f15 : upd H15 p15 (.dK [((Sum.inr "a" : Key), V.str "b")]) p15 = some (.dK [((Sum.inr "a" : Key), V.str "b")]) := upd_same
    generalize upd H15 p15 (.dK [((Sum.inr "a" : Key), V.str "b")]) = H16 at s15 f15 ⊢
    refine ⟨by show 5 ≤ sizeLine; decide, fun p16 n16 => ?_⟩
    have s16 : Same H16 (upd H16 p16 (.lst [V.ref p10, .ref p12, .ref p14, .ref p15, .str "A"])) := same_new n16
    have f16 : upd H16 p16 (.lst [V.ref p10, .ref p12, .ref p14, .ref p15, .str "A"]) p16 = some (.lst [V.ref p10, .ref p12, .ref p14, .ref p15, .str "A"]) := upd_same
    generalize upd H16 p16 (.lst [V.ref p10, .ref p12, .ref p14, .ref p15, .str "A"]) = H17 at s16 f16 ⊢
    have t17 : Same H17 H17 := fun _ _ e => e
    have t16 : Same H16 H17 := SameT s16 t17
    have t15 : Same H15 H17 := SameT s15 t16
    have t14 : Same H14 H17 := SameT s14 t15
    have t13 : Same H13 H17 := SameT s13 t14
    have t12 : Same H12 H17 := SameT s12 t13
    have t11 : Same H11 H17 := SameT s11 t12
    have t10 : Same H10 H17 := SameT s10 t11
    have t9 : Same H9 H17 := SameT s9 t10
    have t8 : Same H8 H17 := SameT s8 t9
    have t7 : Same H7 H17 := SameT s7 t8
    have t6 : Same H6 H17 := SameT s6 t7
    have t5 : Same H5 H17 := SameT s5 t6
    have t4 : Same H4 H17 := SameT s4 t5
    have t3 : Same H3 H17 := SameT s3 t4
    have t2 : Same H2 H17 := SameT s2 t3
    have t1 : Same H1 H17 := SameT s1 t2
    have t0 : Same H H17 := SameT s0 t1
    obtain ⟨o, a, b, hp0, hpr⟩ := hp
    have z0 : p ≠ p0 := ne_of_none (H := H) (hp0) n0
    have z1 : p ≠ p1 := ne_of_none (H := H1) (s0 _ _ hp0) n1
    have z2 : p ≠ p2 := ne_of_none (H := H2) (s1 _ _ (s0 _ _ hp0)) n2
    have z3 : p ≠ p3 := ne_of_none (H := H3) (s2 _ _ (s1 _ _ (s0 _ _ hp0))) n3
    have z4 : p ≠ p4 := ne_of_none (H := H4) (s3 _ _ (s2 _ _ (s1 _ _ (s0 _ _ hp0)))) n4
    have z5 : p ≠ p5 := ne_of_none (H := H5) (s4 _ _ (s3 _ _ (s2 _ _ (s1 _ _ (s0 _ _ hp0))))) n5
    have z6 : p ≠ p6 := ne_of_none (H := H6) (s5 _ _ (s4 _ _ (s3 _ _ (s2 _ _ (s1 _ _ (s0 _ _ hp0)))))) n6
    have z7 : p ≠ p7 := ne_of_none (H := H7) (s6 _ _ (s5 _ _ (s4 _ _ (s3 _ _ (s2 _ _ (s1 _ _ (s0 _ _ hp0))))))) n7
    have z8 : p ≠ p8 := ne_of_none (H := H8) (s7 _ _ (s6 _ _ (s5 _ _ (s4 _ _ (s3 _ _ (s2 _ _ (s1 _ _ (s0 _ _ hp0)))))))) n8
    have z9 : p ≠ p9 := ne_of_none (H := H9) (s8 _ _ (s7 _ _ (s6 _ _ (s5 _ _ (s4 _ _ (s3 _ _ (s2 _ _ (s1 _ _ (s0 _ _ hp0))))))))) n9
    have z10 : p ≠ p10 := ne_of_none (H := H10) (s9 _ _ (s8 _ _ (s7 _ _ (s6 _ _ (s5 _ _ (s4 _ _ (s3 _ _ (s2 _ _ (s1 _ _ (s0 _ _ hp0)))))))))) n10
    have z11 : p ≠ p11 := ne_of_none (H := H11) (s10 _ _ (s9 _ _ (s8 _ _ (s7 _ _ (s6 _ _ (s5 _ _ (s4 _ _ (s3 _ _ (s2 _ _ (s1 _ _ (s0 _ _ hp0))))))))))) n11
    have z12 : p ≠ p12 := ne_of_none (H := H12) (s11 _ _ (s10 _ _ (s9 _ _ (s8 _ _ (s7 _ _ (s6 _ _ (s5 _ _ (s4 _ _ (s3 _ _ (s2 _ _ (s1 _ _ (s0 _ _ hp0)))))))))))) n12
    have z13 : p ≠ p13 := ne_of_none (H := H13) (s12 _ _ (s11 _ _ (s10 _ _ (s9 _ _ (s8 _ _ (s7 _ _ (s6 _ _ (s5 _ _ (s4 _ _ (s3 _ _ (s2 _ _ (s1 _ _ (s0 _ _ hp0))))))))))))) n13
    have z14 : p ≠ p14 := ne_of_none (H := H14) (s13 _ _ (s12 _ _ (s11 _ _ (s10 _ _ (s9 _ _ (s8 _ _ (s7 _ _ (s6 _ _ (s5 _ _ (s4 _ _ (s3 _ _ (s2 _ _ (s1 _ _ (s0 _ _ hp0)))))))))))))) n14
    have z15 : p ≠ p15 := ne_of_none (H := H15) (s14 _ _ (s13 _ _ (s12 _ _ (s11 _ _ (s10 _ _ (s9 _ _ (s8 _ _ (s7 _ _ (s6 _ _ (s5 _ _ (s4 _ _ (s3 _ _ (s2 _ _ (s1 _ _ (s0 _ _ hp0))))))))))))))) n15
    have z16 : p ≠ p16 := ne_of_none (H := H16) (s15 _ _ (s14 _ _ (s13 _ _ (s12 _ _ (s11 _ _ (s10 _ _ (s9 _ _ (s8 _ _ (s7 _ _ (s6 _ _ (s5 _ _ (s4 _ _ (s3 _ _ (s2 _ _ (s1 _ _ (s0 _ _ hp0)))))))))))))))) n16
    refine ⟨_, _, _, _, rfl, rfl, t10 _ _ f9, f16, by show 24 ≤ sizeLine; decide, fun l nl => ?_⟩
    have sl : Same H17 (upd H17 l (.lst ([V.non, .bl true, .bl false, .int 0, .int 1, .int (-1), .int (10 ^ (8 : Int).toNat), .str "", .str "a", .str "0", .ref p0, .ref p1, .ref p2, .ref p3, .ref p5, .ref p6, .ref p7, .ref p8, .str "zz"] ++ [V.ref p10, .ref p12, .ref p14, .ref p15, .str "A"]))) := same_new nl
    have zl : p ≠ l := ne_of_none (t0 _ _ hp0) nl
    refine ⟨p, l, m, _, rfl, ⟨o, a, b, sl _ _ (t0 _ _ hp0), hpr⟩, hm, zl, upd_same, by show 1 ≤ 24; decide, by show 24 ≤ 1000; decide, fun H' x sb pa hx => ?_⟩
    have all : ∀ b o, b ≠ p → H17 b = some o → H' b = some o := fun b o n e => sb b o n (sl b o e)
    have sb0 : SameBut p H H' := fun b o n e => all b o n (t0 b o e)
    have g0 := (fresh_at (H' := H') (none_of_same (fun _ _ e => e) n0)).trans (all _ _ z0.symm (t1 _ _ f0))
    have g1 := (fresh_at (H' := H') (none_of_same s0 n1)).trans (all _ _ z1.symm (t2 _ _ f1))
    have g2 := (fresh_at (H' := H') (none_of_same (SameT s0 s1) n2)).trans (all _ _ z2.symm (t3 _ _ f2))
    have g3 := (fresh_at (H' := H') (none_of_same (SameT (SameT s0 s1) s2) n3)).trans (all _ _ z3.symm (t4 _ _ f3))
    have g4 := (fresh_at (H' := H') (none_of_same (SameT (SameT (SameT s0 s1) s2) s3) n4)).trans (all _ _ z4.symm (t5 _ _ f4))
    have g5 := (fresh_at (H' := H') (none_of_same (SameT (SameT (SameT (SameT s0 s1) s2) s3) s4) n5)).trans (all _ _ z5.symm (t6 _ _ f5))
    have g6 := (fresh_at (H' := H') (none_of_same (SameT (SameT (SameT (SameT (SameT s0 s1) s2) s3) s4) s5) n6)).trans (all _ _ z6.symm (t7 _ _ f6))
    have g7 := (fresh_at (H' := H') (none_of_same (SameT (SameT (SameT (SameT (SameT (SameT s0 s1) s2) s3) s4) s5) s6) n7)).trans (all _ _ z7.symm (t8 _ _ f7))
    have g8 := (fresh_at (H' := H') (none_of_same (SameT (SameT (SameT (SameT (SameT (SameT (SameT s0 s1) s2) s3) s4) s5) s6) s7) n8)).trans (all _ _ z8.symm (t9 _ _ f8))
    have g10 := (fresh_at (H' := H') (none_of_same (SameT (SameT (SameT (SameT (SameT (SameT (SameT (SameT (SameT s0 s1) s2) s3) s4) s5) s6) s7) s8) s9) n10)).trans (all _ _ z10.symm (t11 _ _ f10))
    have g11 := (fresh_at (H' := H') (none_of_same (SameT (SameT (SameT (SameT (SameT (SameT (SameT (SameT (SameT (SameT s0 s1) s2) s3) s4) s5) s6) s7) s8) s9) s10) n11)).trans (all _ _ z11.symm (t12 _ _ f11))
    have g12 := (fresh_at (H' := H') (none_of_same (SameT (SameT (SameT (SameT (SameT (SameT (SameT (SameT (SameT (SameT (SameT s0 s1) s2) s3) s4) s5) s6) s7) s8) s9) s10) s11) n12)).trans (all _ _ z12.symm (t13 _ _ f12))
    have g13 := (fresh_at (H' := H') (none_of_same (SameT (SameT (SameT (SameT (SameT (SameT (SameT (SameT (SameT (SameT (SameT (SameT s0 s1) s2) s3) s4) s5) s6) s7) s8) s9) s10) s11) s12) n13)).trans (all _ _ z13.symm (t14 _ _ f13))
    have g14 := (fresh_at (H' := H') (none_of_same (SameT (SameT (SameT (SameT (SameT (SameT (SameT (SameT (SameT (SameT (SameT (SameT (SameT s0 s1) s2) s3) s4) s5) s6) s7) s8) s9) s10) s11) s12) s13) n14)).trans (all _ _ z14.symm (t15 _ _ f14))
    have g15 := (fresh_at (H' := H') (none_of_same (SameT (SameT (SameT (SameT (SameT (SameT (SameT (SameT (SameT (SameT (SameT (SameT (SameT (SameT s0 s1) s2) s3) s4) s5) s6) s7) s8) s9) s10) s11) s12) s13) s14) n15)).trans (all _ _ z15.symm (t16 _ _ f15))
    have hx2 : x ∈ [V.non, .bl true, .bl false, .int 0, .int 1, .int (-1), .int (10 ^ (8 : Int).toNat), .str "", .str "a", .str "0", .ref p0, .ref p1, .ref p2, .ref p3, .ref p5, .ref p6, .ref p7, .ref p8, .str "zz", .ref p10, .ref p12, .ref p14, .ref p15, .str "A"] := hx
    simp only [List.mem_cons, List.not_mem_nil, or_false] at hx2
    rcases hx2 with rfl | rfl | rfl | rfl | rfl | rfl | rfl | rfl | rfl | rfl | rfl | rfl | rfl | rfl | rfl | rfl | rfl | rfl | rfl | rfl | rfl | rfl | rfl | rfl
    · exact k _ _ (PyData.none) sb0 pa (by unfold oddD; simp) (.non)
    · exact k _ _ (PyData.bool true) sb0 pa (by unfold oddD; simp) (.bl _)
    · exact k _ _ (PyData.bool false) sb0 pa (by unfold oddD; simp) (.bl _)
    · exact k _ _ (PyData.int 0) sb0 pa (by unfold oddD; simp) (.int _)
    · exact k _ _ (PyData.int 1) sb0 pa (by unfold oddD; simp) (.int _)
    · exact k _ _ (PyData.int (-1)) sb0 pa (by unfold oddD; simp) (.int _)
    · exact k _ _ (PyData.int (10 ^ (8 : Int).toNat)) sb0 pa (by unfold oddD; simp) (.int _)
    · exact k _ _ (PyData.str "") sb0 pa (by unfold oddD; simp) (.str _)
    · exact k _ _ (PyData.str "a") sb0 pa (by unfold oddD; simp) (.str _)
    · exact k _ _ (PyData.str "0") sb0 pa (by unfold oddD; simp) (.str _)
    · exact k _ _ (PyData.tuple []) sb0 pa (by unfold oddD; simp) ((.tup g0 .nil))
    · exact k _ _ (PyData.list []) sb0 pa (by unfold oddD; simp) ((.lst y1 g1 .nil))
    · exact k _ _ (PyData.dict []) sb0 pa (by unfold oddD; simp) ((.dic g2 .nil))
    · exact k _ _ (PyData.tuple [.int 0]) sb0 pa (by unfold oddD; simp) ((.tup g3 (.cons (.int _) .nil)))
    · exact k _ _ (PyData.tuple [.tuple []]) sb0 pa (by unfold oddD; simp) ((.tup g5 (.cons (.tup g4 .nil) .nil)))
    · exact k _ _ (PyData.list [.int 0]) sb0 pa (by unfold oddD; simp) ((.lst y6 g6 (.cons (.int _) .nil)))
    · exact k _ _ (PyData.tuple [.str "a", .str "b"]) sb0 pa (by unfold oddD; simp) ((.tup g7 (.cons (.str _) (.cons (.str _) .nil))))
    · exact k _ _ (PyData.tuple [.str "a"]) sb0 pa (by unfold oddD; simp) ((.tup g8 (.cons (.str _) .nil)))
    · exact k _ _ (PyData.str "zz") sb0 pa (by unfold oddD; simp) (.str _)
    · exact k _ _ (PyData.tuple [.str "a", .str "b", .str "c"]) sb0 pa (by unfold oddD; simp) ((.tup g10 (.cons (.str _) (.cons (.str _) (.cons (.str _) .nil)))))
    · exact k _ _ (PyData.list [.tuple [.str "a", .str "b"]]) sb0 pa (by unfold oddD; simp) ((.lst y12 g12 (.cons (.tup g11 (.cons (.str _) (.cons (.str _) .nil))) .nil)))
    · exact k _ _ (PyData.tuple [.tuple [.str "a", .str "b"]]) sb0 pa (by unfold oddD; simp) ((.tup g14 (.cons (.tup g13 (.cons (.str _) (.cons (.str _) .nil))) .nil)))
    · exact k _ _ (PyData.dict [(.str "a", .str "b")]) sb0 pa (by unfold oddD; simp) ((.dic g15 (.cons (k := Sum.inr "a") (.str _) .nil)))
    · exact k _ _ (PyData.str "A") sb0 pa (by unfold oddD; simp) (.str _)
end
end K00
namespace K00
open PySem L2 PySem.Spec PyProof.Rows
theorem err_but {H H' : Hp} {a C l : Addr} {v : V} {xs : List V} (h : H l = some (.lst xs)) (s : SameBut l H H') (e : ErrAt H a C v) : ErrAt H' a C v := by
  obtain ⟨d, n, h1, h2⟩ := e
  exact ⟨d, n, s _ _ (ne_of h1 h exo_lst) h1, s _ _ (ne_of h2 h exd_lst) h2⟩
def spMade (ad : Adr) : Sp := fun vs H Q _ => ∃ v : V, vs = [v] ∧ ∀ H' l (es : List Addr), Same H H' → H' l = some (.lst (es.map V.ref)) →
  Paired (fun e C => ErrAt H' e C v) es ad.cs → Q (.ref l) H'
def spMarks (ad : Adr) : Sp := fun vs H Q _ => ∃ (a C : Addr) (v : V), vs = [.ref a] ∧ C ∈ ad.a_DrawError :: ad.cs ∧ ErrAt H a C v ∧
  ∀ H' l, Same H H' → H' l = some (.lst ((ad.cs.map fun c => decide (C = c)).map V.bl)) → Q (.ref l) H'
section
variable {P : Program} {w : World} {K : PySem.W.Frag} {mg : Str → Option Value} {base : Heap} {ad : Adr}
theorem errAll (T : Txt K mg ad) : ∀ C ∈ ad.a_DrawError :: ad.cs, ErrC K ad.fI C := by
  intro C h
  simp only [Adr.cs, List.mem_cons, List.not_mem_nil, or_false] at h
  rcases h with rfl | rfl | rfl | rfl | rfl | rfl | rfl | rfl | rfl | rfl | rfl | rfl | rfl | rfl | rfl | rfl | rfl | rfl | rfl | rfl | rfl | rfl | rfl | rfl | rfl | rfl | rfl | rfl | rfl | rfl | rfl
  · exact T.c_DrawError
  · exact T.c_BadNet
  · exact T.c_NotTied
  · exact T.c_NoPlace
  · exact T.c_BadTie
  · exact T.c_Full
  · exact T.c_Few
  · exact T.c_BadRing
  · exact T.c_BadWheels
  · exact T.c_Crossed
  · exact T.c_BadLook
  · exact T.c_NotOff
  · exact T.c_NoDrawing
  · exact T.c_BadPlaces
  · exact T.c_BadTies
  · exact T.c_BadNumber
  · exact T.c_BadTurning
  · exact T.c_OtherNet
  · exact T.c_BadLooks
  · exact T.c_TooMany
  · exact T.c_Against
  · exact T.c_BadOffers
  · exact T.c_BadWishes
  · exact T.c_BadNames
  · exact T.c_NotThere
  · exact T.c_Tied
  · exact T.c_NothingToUndo
  · exact T.c_NothingToRedo
  · exact T.c_NoTrial
  · exact T.c_BadJournal
  · exact T.c_BadLine
theorem sc__law_made : FnScope ["_law_value", "_law_found"] ["_law_value"] (defScope s__law_made) := ⟨rfl, rfl, rfl, by decide +kernel, rfl, by decide +kernel, by decide +kernel⟩
theorem ok__law_made {f : Addr} {fd fdI : FuncData} (F : Fun K "_law_made" "_law_made" s__law_made f fd) (T : Txt K mg ad)
    (GI : FnOk P w K mg base CX0 1 ad.fI fdI ["self", "value"] (spErrInit K)) (bI : Binds K fdI ["self", "value"] []) : FnOk P w K mg base CX0 3 f fd ["_law_value"] (spMade ad) := by
  refine F.ok sc__law_made (fun vs H Q E h => ?_) (fun cdv A outer s H vs Q E hr h => ?_)
  · obtain ⟨_, rfl, _⟩ := h
    rfl
  · obtain ⟨v, rfl, k⟩ := h
    have hr2 := hr
    refine ⟨_, (pss_cons (ps_set (i := 1) sc__law_made.nd rfl (Or.inl rfl) (pe_lst (pa_cons (pe_err T.c_BadNet T.tI GI hr2 bI (by rfl) T.m_BadNet (pa_cons (pv 0) pa_nil)) (pa_cons (pe_err T.c_NotTied T.tI GI hr2 bI (by rfl) T.m_NotTied (pa_cons (pv 0) pa_nil)) (pa_cons (pe_err T.c_NoPlace T.tI GI hr2 bI (by rfl) T.m_NoPlace (pa_cons (pv 0) pa_nil)) (pa_cons (pe_err T.c_BadTie T.tI GI hr2 bI (by rfl) T.m_BadTie (pa_cons (pv 0) pa_nil)) (pa_cons (pe_err T.c_Full T.tI GI hr2 bI (by rfl) T.m_Full (pa_cons (pv 0) pa_nil)) (pa_cons (pe_err T.c_Few T.tI GI hr2 bI (by rfl) T.m_Few (pa_cons (pv 0) pa_nil)) pa_nil))))))))
      (pss_cons (ps_expr (pe_bm PySem.F.plainAttrs_list PySem.F.slot_list_extend PySem.F.type_list_extend mt_extend (pv 1) (pa_cons (pe_lst (pa_cons (pe_err T.c_BadRing T.tI GI hr2 bI (by rfl) T.m_BadRing (pa_cons (pv 0) pa_nil)) (pa_cons (pe_err T.c_BadWheels T.tI GI hr2 bI (by rfl) T.m_BadWheels (pa_cons (pv 0) pa_nil)) (pa_cons (pe_err T.c_Crossed T.tI GI hr2 bI (by rfl) T.m_Crossed (pa_cons (pv 0) pa_nil)) (pa_cons (pe_err T.c_BadLook T.tI GI hr2 bI (by rfl) T.m_BadLook (pa_cons (pv 0) pa_nil)) (pa_cons (pe_err T.c_NotOff T.tI GI hr2 bI (by rfl) T.m_NotOff (pa_cons (pv 0) pa_nil)) pa_nil)))))) pa_nil)))
      (pss_cons (ps_expr (pe_bm PySem.F.plainAttrs_list PySem.F.slot_list_extend PySem.F.type_list_extend mt_extend (pv 1) (pa_cons (pe_lst (pa_cons (pe_err T.c_NoDrawing T.tI GI hr2 bI (by rfl) T.m_NoDrawing (pa_cons (pv 0) pa_nil)) (pa_cons (pe_err T.c_BadPlaces T.tI GI hr2 bI (by rfl) T.m_BadPlaces (pa_cons (pv 0) pa_nil)) (pa_cons (pe_err T.c_BadTies T.tI GI hr2 bI (by rfl) T.m_BadTies (pa_cons (pv 0) pa_nil)) (pa_cons (pe_err T.c_BadNumber T.tI GI hr2 bI (by rfl) T.m_BadNumber (pa_cons (pv 0) pa_nil)) (pa_cons (pe_err T.c_BadTurning T.tI GI hr2 bI (by rfl) T.m_BadTurning (pa_cons (pv 0) pa_nil)) pa_nil)))))) pa_nil)))
      (pss_cons (ps_expr (pe_bm PySem.F.plainAttrs_list PySem.F.slot_list_extend PySem.F.type_list_extend mt_extend (pv 1) (pa_cons (pe_lst (pa_cons (pe_err T.c_OtherNet T.tI GI hr2 bI (by rfl) T.m_OtherNet (pa_cons (pv 0) pa_nil)) (pa_cons (pe_err T.c_BadLooks T.tI GI hr2 bI (by rfl) T.m_BadLooks (pa_cons (pv 0) pa_nil)) (pa_cons (pe_err T.c_TooMany T.tI GI hr2 bI (by rfl) T.m_TooMany (pa_cons (pv 0) pa_nil)) (pa_cons (pe_err T.c_Against T.tI GI hr2 bI (by rfl) T.m_Against (pa_cons (pv 0) pa_nil)) (pa_cons (pe_err T.c_BadOffers T.tI GI hr2 bI (by rfl) T.m_BadOffers (pa_cons (pv 0) pa_nil)) pa_nil)))))) pa_nil)))
      (pss_cons (ps_expr (pe_bm PySem.F.plainAttrs_list PySem.F.slot_list_extend PySem.F.type_list_extend mt_extend (pv 1) (pa_cons (pe_lst (pa_cons (pe_err T.c_BadWishes T.tI GI hr2 bI (by rfl) T.m_BadWishes (pa_cons (pv 0) pa_nil)) (pa_cons (pe_err T.c_BadNames T.tI GI hr2 bI (by rfl) T.m_BadNames (pa_cons (pv 0) pa_nil)) (pa_cons (pe_err T.c_NotThere T.tI GI hr2 bI (by rfl) T.m_NotThere (pa_cons (pv 0) pa_nil)) (pa_cons (pe_err T.c_Tied T.tI GI hr2 bI (by rfl) T.m_Tied (pa_cons (pv 0) pa_nil)) (pa_cons (pe_err T.c_NothingToUndo T.tI GI hr2 bI (by rfl) T.m_NothingToUndo (pa_cons (pv 0) pa_nil)) pa_nil)))))) pa_nil)))
      (pss_cons (ps_expr (pe_bm PySem.F.plainAttrs_list PySem.F.slot_list_extend PySem.F.type_list_extend mt_extend (pv 1) (pa_cons (pe_lst (pa_cons (pe_err T.c_NothingToRedo T.tI GI hr2 bI (by rfl) T.m_NothingToRedo (pa_cons (pv 0) pa_nil)) (pa_cons (pe_err T.c_NoTrial T.tI GI hr2 bI (by rfl) T.m_NoTrial (pa_cons (pv 0) pa_nil)) (pa_cons (pe_err T.c_BadJournal T.tI GI hr2 bI (by rfl) T.m_BadJournal (pa_cons (pv 0) pa_nil)) (pa_cons (pe_err T.c_BadLine T.tI GI hr2 bI (by rfl) T.m_BadLine (pa_cons (pv 0) pa_nil)) pa_nil))))) pa_nil)))
      (pss_one (ps_ret (pv 1))))))))), ?_⟩
    refine ⟨_, rfl, v, rfl, fun a1 H1 n1 s1 e1 => ?_⟩
    refine ⟨_, rfl, v, rfl, fun a2 H2 n2 s2 e2 => ?_⟩
    refine ⟨_, rfl, v, rfl, fun a3 H3 n3 s3 e3 => ?_⟩
    refine ⟨_, rfl, v, rfl, fun a4 H4 n4 s4 e4 => ?_⟩
    refine ⟨_, rfl, v, rfl, fun a5 H5 n5 s5 e5 => ?_⟩
    refine ⟨_, rfl, v, rfl, fun a6 H6 n6 s6 e6 => ?_⟩
    refine ⟨by show 6 ≤ sizeLine; decide, fun l m0 => ?_⟩
    have s7 : Same H6 (upd H6 l (.lst [V.ref a1, .ref a2, .ref a3, .ref a4, .ref a5, .ref a6])) := same_new m0
    have l7 : upd H6 l (.lst [V.ref a1, .ref a2, .ref a3, .ref a4, .ref a5, .ref a6]) l = some (.lst [V.ref a1, .ref a2, .ref a3, .ref a4, .ref a5, .ref a6]) := upd_same
    generalize upd H6 l (.lst [V.ref a1, .ref a2, .ref a3, .ref a4, .ref a5, .ref a6]) = H7 at s7 l7 ⊢
    refine ⟨_, rfl, .inl ⟨rfl, _, SqL.of l7⟩, ?_⟩
    refine ⟨_, rfl, v, rfl, fun a7 H8 n8 s8 e7 => ?_⟩
    have l8 := s8 _ _ l7
    refine ⟨_, rfl, v, rfl, fun a8 H9 n9 s9 e8 => ?_⟩
    have l9 := s9 _ _ l8
    refine ⟨_, rfl, v, rfl, fun a9 H10 n10 s10 e9 => ?_⟩
    have l10 := s10 _ _ l9
    refine ⟨_, rfl, v, rfl, fun a10 H11 n11 s11 e10 => ?_⟩
    have l11 := s11 _ _ l10
    refine ⟨_, rfl, v, rfl, fun a11 H12 n12 s12 e11 => ?_⟩
    have l12 := s12 _ _ l11
    refine ⟨by show 5 ≤ sizeLine; decide, fun q1 m1 => ?_⟩
    have s13 : Same H12 (upd H12 q1 (.lst [V.ref a7, .ref a8, .ref a9, .ref a10, .ref a11])) := same_new m1
    have r13 : upd H12 q1 (.lst [V.ref a7, .ref a8, .ref a9, .ref a10, .ref a11]) q1 = some (.lst [V.ref a7, .ref a8, .ref a9, .ref a10, .ref a11]) := upd_same
    generalize upd H12 q1 (.lst [V.ref a7, .ref a8, .ref a9, .ref a10, .ref a11]) = H13 at s13 r13 ⊢
    have l13 := s13 _ _ l12
    refine ⟨l, q1, _, _, rfl, rfl, l13, r13, by show 11 ≤ sizeLine; decide, ?_⟩
    have s14 : SameBut l H13 (upd H13 l (.lst ([V.ref a1, .ref a2, .ref a3, .ref a4, .ref a5, .ref a6] ++ [V.ref a7, .ref a8, .ref a9, .ref a10, .ref a11]))) := but_upd
    have l14 : upd H13 l (.lst ([V.ref a1, .ref a2, .ref a3, .ref a4, .ref a5, .ref a6] ++ [V.ref a7, .ref a8, .ref a9, .ref a10, .ref a11])) l = some (.lst [V.ref a1, .ref a2, .ref a3, .ref a4, .ref a5, .ref a6, .ref a7, .ref a8, .ref a9, .ref a10, .ref a11]) := upd_same
    generalize upd H13 l (.lst ([V.ref a1, .ref a2, .ref a3, .ref a4, .ref a5, .ref a6] ++ [V.ref a7, .ref a8, .ref a9, .ref a10, .ref a11])) = H14 at s14 l14 ⊢
    refine ⟨_, rfl, .inl ⟨rfl, _, SqL.of l14⟩, ?_⟩
    refine ⟨_, rfl, v, rfl, fun a12 H15 n15 s15 e12 => ?_⟩
    have l15 := s15 _ _ l14
    refine ⟨_, rfl, v, rfl, fun a13 H16 n16 s16 e13 => ?_⟩
    have l16 := s16 _ _ l15
    refine ⟨_, rfl, v, rfl, fun a14 H17 n17 s17 e14 => ?_⟩
    have l17 := s17 _ _ l16
    refine ⟨_, rfl, v, rfl, fun a15 H18 n18 s18 e15 => ?_⟩
    have l18 := s18 _ _ l17
    refine ⟨_, rfl, v, rfl, fun a16 H19 n19 s19 e16 => ?_⟩
    have l19 := s19 _ _ l18
    refine ⟨by show 5 ≤ sizeLine; decide, fun q2 m2 => ?_⟩
    have s20 : Same H19 (upd H19 q2 (.lst [V.ref a12, .ref a13, .ref a14, .ref a15, .ref a16])) := same_new m2
    have r20 : upd H19 q2 (.lst [V.ref a12, .ref a13, .ref a14, .ref a15, .ref a16]) q2 = some (.lst [V.ref a12, .ref a13, .ref a14, .ref a15, .ref a16]) := upd_same
    generalize upd H19 q2 (.lst [V.ref a12, .ref a13, .ref a14, .ref a15, .ref a16]) = H20 at s20 r20 ⊢
    have l20 := s20 _ _ l19
    refine ⟨l, q2, _, _, rfl, rfl, l20, r20, by show 16 ≤ sizeLine; decide, ?_⟩
    have s21 : SameBut l H20 (upd H20 l (.lst ([V.ref a1, .ref a2, .ref a3, .ref a4, .ref a5, .ref a6, .ref a7, .ref a8, .ref a9, .ref a10, .ref a11] ++ [V.ref a12, .ref a13, .ref a14, .ref a15, .ref a16]))) := but_upd
    have l21 : upd H20 l (.lst ([V.ref a1, .ref a2, .ref a3, .ref a4, .ref a5, .ref a6, .ref a7, .ref a8, .ref a9, .ref a10, .ref a11] ++ [V.ref a12, .ref a13, .ref a14, .ref a15, .ref a16])) l = some (.lst [V.ref a1, .ref a2, .ref a3, .ref a4, .ref a5, .ref a6, .ref a7, .ref a8, .ref a9, .ref a10, .ref a11, .ref a12, .ref a13, .ref a14, .ref a15, .ref a16]) := upd_same
    generalize upd H20 l (.lst ([V.ref a1, .ref a2, .ref a3, .ref a4, .ref a5, .ref a6, .ref a7, .ref a8, .ref a9, .ref a10, .ref a11] ++ [V.ref a12, .ref a13, .ref a14, .ref a15, .ref a16])) = H21 at s21 l21 ⊢
    refine ⟨_, rfl, .inl ⟨rfl, _, SqL.of l21⟩, ?_⟩
    refine ⟨_, rfl, v, rfl, fun a17 H22 n22 s22 e17 => ?_⟩
    have l22 := s22 _ _ l21
    refine ⟨_, rfl, v, rfl, fun a18 H23 n23 s23 e18 => ?_⟩
    have l23 := s23 _ _ l22
    refine ⟨_, rfl, v, rfl, fun a19 H24 n24 s24 e19 => ?_⟩
    have l24 := s24 _ _ l23
    refine ⟨_, rfl, v, rfl, fun a20 H25 n25 s25 e20 => ?_⟩
    have l25 := s25 _ _ l24
    refine ⟨_, rfl, v, rfl, fun a21 H26 n26 s26 e21 => ?_⟩
    have l26 := s26 _ _ l25
    refine ⟨by show 5 ≤ sizeLine; decide, fun q3 m3 => ?_⟩
    have s27 : Same H26 (upd H26 q3 (.lst [V.ref a17, .ref a18, .ref a19, .ref a20, .ref a21])) := same_new m3
    have r27 : upd H26 q3 (.lst [V.ref a17, .ref a18, .ref a19, .ref a20, .ref a21]) q3 = some (.lst [V.ref a17, .ref a18, .ref a19, .ref a20, .ref a21]) := upd_same
    generalize upd H26 q3 (.lst [V.ref a17, .ref a18, .ref a19, .ref a20, .ref a21]) = H27 at s27 r27 ⊢
    have l27 := s27 _ _ l26
    refine ⟨l, q3, _, _, rfl, rfl, l27, r27, by show 21 ≤ sizeLine; decide, ?_⟩
    have s28 : SameBut l H27 (upd H27 l (.lst ([V.ref a1, .ref a2, .ref a3, .ref a4, .ref a5, .ref a6, .ref a7, .ref a8, .ref a9, .ref a10, .ref a11, .ref a12, .ref a13, .ref a14, .ref a15, .ref a16] ++ [V.ref a17, .ref a18, .ref a19, .ref a20, .ref a21]))) := but_upd
    have l28 : upd H27 l (.lst ([V.ref a1, .ref a2, .ref a3, .ref a4, .ref a5, .ref a6, .ref a7, .ref a8, .ref a9, .ref a10, .ref a11, .ref a12, .ref a13, .ref a14, .ref a15, .ref a16] ++ [V.ref a17, .ref a18, .ref a19, .ref a20, .ref a21])) l = some (.lst [V.ref a1, .ref a2, .ref a3, .ref a4, .ref a5, .ref a6, .ref a7, .ref a8, .ref a9, .ref a10, .ref a11, .ref a12, .ref a13, .ref a14, .ref a15, .ref a16, .ref a17, .ref a18, .ref a19, .ref a20, .ref a21]) := upd_same
    generalize upd H27 l (.lst ([V.ref a1, .ref a2, .ref a3, .ref a4, .ref a5, .ref a6, .ref a7, .ref a8, .ref a9, .ref a10, .ref a11, .ref a12, .ref a13, .ref a14, .ref a15, .ref a16] ++ [V.ref a17, .ref a18, .ref a19, .ref a20, .ref a21])) = H28 at s28 l28 ⊢
    refine ⟨_, rfl, .inl ⟨rfl, _, SqL.of l28⟩, ?_⟩
    refine ⟨_, rfl, v, rfl, fun a22 H29 n29 s29 e22 => ?_⟩
    have l29 := s29 _ _ l28
    refine ⟨_, rfl, v, rfl, fun a23 H30 n30 s30 e23 => ?_⟩
    have l30 := s30 _ _ l29
    refine ⟨_, rfl, v, rfl, fun a24 H31 n31 s31 e24 => ?_⟩
    have l31 := s31 _ _ l30
    refine ⟨_, rfl, v, rfl, fun a25 H32 n32 s32 e25 => ?_⟩
    have l32 := s32 _ _ l31
    refine ⟨_, rfl, v, rfl, fun a26 H33 n33 s33 e26 => ?_⟩
    have l33 := s33 _ _ l32
    refine ⟨by show 5 ≤ sizeLine; decide, fun q4 m4 => ?_⟩
    have s34 : Same H33 (upd H33 q4 (.lst [V.ref a22, .ref a23, .ref a24, .ref a25, .ref a26])) := same_new m4
    have r34 : upd H33 q4 (.lst [V.ref a22, .ref a23, .ref a24, .ref a25, .ref a26]) q4 = some (.lst [V.ref a22, .ref a23, .ref a24, .ref a25, .ref a26]) := upd_same
    generalize upd H33 q4 (.lst [V.ref a22, .ref a23, .ref a24, .ref a25, .ref a26]) = H34 at s34 r34 ⊢
    have l34 := s34 _ _ l33
    refine ⟨l, q4, _, _, rfl, rfl, l34, r34, by show 26 ≤ sizeLine; decide, ?_⟩
    have s35 : SameBut l H34 (upd H34 l (.lst ([V.ref a1, .ref a2, .ref a3, .ref a4, .ref a5, .ref a6, .ref a7, .ref a8, .ref a9, .ref a10, .ref a11, .ref a12, .ref a13, .ref a14, .ref a15, .ref a16, .ref a17, .ref a18, .ref a19, .ref a20, .ref a21] ++ [V.ref a22, .ref a23, .ref a24, .ref a25, .ref a26]))) := but_upd
    have l35 : upd H34 l (.lst ([V.ref a1, .ref a2, .ref a3, .ref a4, .ref a5, .ref a6, .ref a7, .ref a8, .ref a9, .ref a10, .ref a11, .ref a12, .ref a13, .ref a14, .ref a15, .ref a16, .ref a17, .ref a18, .ref a19, .ref a20, .ref a21] ++ [V.ref a22, .ref a23, .ref a24, .ref a25, .ref a26])) l = some (.lst [V.ref a1, .ref a2, .ref a3, .ref a4, .ref a5, .ref a6, .ref a7, .ref a8, .ref a9, .ref a10, .ref a11, .ref a12, .ref a13, .ref a14, .ref a15, .ref a16, .ref a17, .ref a18, .ref a19, .ref a20, .ref a21, .ref a22, .ref a23, .ref a24, .ref a25, .ref a26]) := upd_same
    generalize upd H34 l (.lst ([V.ref a1, .ref a2, .ref a3, .ref a4, .ref a5, .ref a6, .ref a7, .ref a8, .ref a9, .ref a10, .ref a11, .ref a12, .ref a13, .ref a14, .ref a15, .ref a16, .ref a17, .ref a18, .ref a19, .ref a20, .ref a21] ++ [V.ref a22, .ref a23, .ref a24, .ref a25, .ref a26])) = H35 at s35 l35 ⊢
    refine ⟨_, rfl, .inl ⟨rfl, _, SqL.of l35⟩, ?_⟩
    refine ⟨_, rfl, v, rfl, fun a27 H36 n36 s36 e27 => ?_⟩
    have l36 := s36 _ _ l35
    refine ⟨_, rfl, v, rfl, fun a28 H37 n37 s37 e28 => ?_⟩
    have l37 := s37 _ _ l36
    refine ⟨_, rfl, v, rfl, fun a29 H38 n38 s38 e29 => ?_⟩
    have l38 := s38 _ _ l37
    refine ⟨_, rfl, v, rfl, fun a30 H39 n39 s39 e30 => ?_⟩
    have l39 := s39 _ _ l38
    refine ⟨by show 4 ≤ sizeLine; decide, fun q5 m5 => ?_⟩
    have s40 : Same H39 (upd H39 q5 (.lst [V.ref a27, .ref a28, .ref a29, .ref a30])) := same_new m5
    have r40 : upd H39 q5 (.lst [V.ref a27, .ref a28, .ref a29, .ref a30]) q5 = some (.lst [V.ref a27, .ref a28, .ref a29, .ref a30]) := upd_same
    generalize upd H39 q5 (.lst [V.ref a27, .ref a28, .ref a29, .ref a30]) = H40 at s40 r40 ⊢
    have l40 := s40 _ _ l39
    refine ⟨l, q5, _, _, rfl, rfl, l40, r40, by show 30 ≤ sizeLine; decide, ?_⟩
    have s41 : SameBut l H40 (upd H40 l (.lst ([V.ref a1, .ref a2, .ref a3, .ref a4, .ref a5, .ref a6, .ref a7, .ref a8, .ref a9, .ref a10, .ref a11, .ref a12, .ref a13, .ref a14, .ref a15, .ref a16, .ref a17, .ref a18, .ref a19, .ref a20, .ref a21, .ref a22, .ref a23, .ref a24, .ref a25, .ref a26] ++ [V.ref a27, .ref a28, .ref a29, .ref a30]))) := but_upd
    have l41 : upd H40 l (.lst ([V.ref a1, .ref a2, .ref a3, .ref a4, .ref a5, .ref a6, .ref a7, .ref a8, .ref a9, .ref a10, .ref a11, .ref a12, .ref a13, .ref a14, .ref a15, .ref a16, .ref a17, .ref a18, .ref a19, .ref a20, .ref a21, .ref a22, .ref a23, .ref a24, .ref a25, .ref a26] ++ [V.ref a27, .ref a28, .ref a29, .ref a30])) l = some (.lst [V.ref a1, .ref a2, .ref a3, .ref a4, .ref a5, .ref a6, .ref a7, .ref a8, .ref a9, .ref a10, .ref a11, .ref a12, .ref a13, .ref a14, .ref a15, .ref a16, .ref a17, .ref a18, .ref a19, .ref a20, .ref a21, .ref a22, .ref a23, .ref a24, .ref a25, .ref a26, .ref a27, .ref a28, .ref a29, .ref a30]) := upd_same
    generalize upd H40 l (.lst ([V.ref a1, .ref a2, .ref a3, .ref a4, .ref a5, .ref a6, .ref a7, .ref a8, .ref a9, .ref a10, .ref a11, .ref a12, .ref a13, .ref a14, .ref a15, .ref a16, .ref a17, .ref a18, .ref a19, .ref a20, .ref a21, .ref a22, .ref a23, .ref a24, .ref a25, .ref a26] ++ [V.ref a27, .ref a28, .ref a29, .ref a30])) = H41 at s41 l41 ⊢
    have t41 : SameBut l H41 H41 := fun _ _ _ e => e
    have t40 : SameBut l H40 H41 := s41.trans t41
    have t39 : SameBut l H39 H41 := (Same.but s40).trans t40
    have t38 : SameBut l H38 H41 := (Same.but s39).trans t39
    have t37 : SameBut l H37 H41 := (Same.but s38).trans t38
    have t36 : SameBut l H36 H41 := (Same.but s37).trans t37
    have t35 : SameBut l H35 H41 := (Same.but s36).trans t36
    have t34 : SameBut l H34 H41 := s35.trans t35
    have t33 : SameBut l H33 H41 := (Same.but s34).trans t34
    have t32 : SameBut l H32 H41 := (Same.but s33).trans t33
    have t31 : SameBut l H31 H41 := (Same.but s32).trans t32
    have t30 : SameBut l H30 H41 := (Same.but s31).trans t31
    have t29 : SameBut l H29 H41 := (Same.but s30).trans t30
    have t28 : SameBut l H28 H41 := (Same.but s29).trans t29
    have t27 : SameBut l H27 H41 := s28.trans t28
    have t26 : SameBut l H26 H41 := (Same.but s27).trans t27
    have t25 : SameBut l H25 H41 := (Same.but s26).trans t26
    have t24 : SameBut l H24 H41 := (Same.but s25).trans t25
    have t23 : SameBut l H23 H41 := (Same.but s24).trans t24
    have t22 : SameBut l H22 H41 := (Same.but s23).trans t23
    have t21 : SameBut l H21 H41 := (Same.but s22).trans t22
    have t20 : SameBut l H20 H41 := s21.trans t21
    have t19 : SameBut l H19 H41 := (Same.but s20).trans t20
    have t18 : SameBut l H18 H41 := (Same.but s19).trans t19
    have t17 : SameBut l H17 H41 := (Same.but s18).trans t18
    have t16 : SameBut l H16 H41 := (Same.but s17).trans t17
    have t15 : SameBut l H15 H41 := (Same.but s16).trans t16
    have t14 : SameBut l H14 H41 := (Same.but s15).trans t15
    have t13 : SameBut l H13 H41 := s14.trans t14
    have t12 : SameBut l H12 H41 := (Same.but s13).trans t13
    have t11 : SameBut l H11 H41 := (Same.but s12).trans t12
    have t10 : SameBut l H10 H41 := (Same.but s11).trans t11
    have t9 : SameBut l H9 H41 := (Same.but s10).trans t10
    have t8 : SameBut l H8 H41 := (Same.but s9).trans t9
    have t7 : SameBut l H7 H41 := (Same.but s8).trans t8
    have u0 : Same H H6 := fun b o e => s6 _ _ (s5 _ _ (s4 _ _ (s3 _ _ (s2 _ _ (s1 _ _ (e))))))
    have S : Same H H41 := fun b o e => t7 b o (ne_of_none (u0 b o e) m0) (s7 b o (u0 b o e))
    have f1 := err_but l7 t7 ((((((e1.same s2).same s3).same s4).same s5).same s6).same s7)
    have f2 := err_but l7 t7 (((((e2.same s3).same s4).same s5).same s6).same s7)
    have f3 := err_but l7 t7 ((((e3.same s4).same s5).same s6).same s7)
    have f4 := err_but l7 t7 (((e4.same s5).same s6).same s7)
    have f5 := err_but l7 t7 ((e5.same s6).same s7)
    have f6 := err_but l7 t7 (e6.same s7)
    have f7 := err_but l8 t8 e7
    have f8 := err_but l9 t9 e8
    have f9 := err_but l10 t10 e9
    have f10 := err_but l11 t11 e10
    have f11 := err_but l12 t12 e11
    have f12 := err_but l15 t15 e12
    have f13 := err_but l16 t16 e13
    have f14 := err_but l17 t17 e14
    have f15 := err_but l18 t18 e15
    have f16 := err_but l19 t19 e16
    have f17 := err_but l22 t22 e17
    have f18 := err_but l23 t23 e18
    have f19 := err_but l24 t24 e19
    have f20 := err_but l25 t25 e20
    have f21 := err_but l26 t26 e21
    have f22 := err_but l29 t29 e22
    have f23 := err_but l30 t30 e23
    have f24 := err_but l31 t31 e24
    have f25 := err_but l32 t32 e25
    have f26 := err_but l33 t33 e26
    have f27 := err_but l36 t36 e27
    have f28 := err_but l37 t37 e28
    have f29 := err_but l38 t38 e29
    have f30 := err_but l39 t39 e30
    refine ⟨_, rfl, k H41 l [a1, a2, a3, a4, a5, a6, a7, a8, a9, a10, a11, a12, a13, a14, a15, a16, a17, a18, a19, a20, a21, a22, a23, a24, a25, a26, a27, a28, a29, a30] S l41 ?_⟩
    exact (.cons f1 (.cons f2 (.cons f3 (.cons f4 (.cons f5 (.cons f6 (.cons f7 (.cons f8 (.cons f9 (.cons f10 (.cons f11 (.cons f12 (.cons f13 (.cons f14 (.cons f15 (.cons f16 (.cons f17 (.cons f18 (.cons f19 (.cons f20 (.cons f21 (.cons f22 (.cons f23 (.cons f24 (.cons f25 (.cons f26 (.cons f27 (.cons f28 (.cons f29 (.cons f30 .nil))))))))))))))))))))))))))))))
theorem sc__law_marks : FnScope ["_law_error", "_law_found"] ["_law_error"] (defScope s__law_marks) := ⟨rfl, rfl, rfl, by decide +kernel, rfl, by decide +kernel, by decide +kernel⟩
theorem ok__law_marks {f : Addr} {fd : FuncData} (F : Fun K "_law_marks" "_law_marks" s__law_marks f fd) (T : Txt K mg ad) : FnOk P w K mg base CX0 1 f fd ["_law_error"] (spMarks ad) := by
  refine F.ok sc__law_marks (fun vs H Q E h => ?_) (fun cdv A outer s H vs Q E hr h => ?_)
  · obtain ⟨_, _, _, rfl, _⟩ := h
    rfl
  · obtain ⟨a, C, v, rfl, hC, ea, k⟩ := h
    have TE := errAll T C hC
    have IS := T.isC C hC
    refine ⟨_, (pss_cons (ps_set (i := 1) sc__law_marks.nd rfl (Or.inl rfl) (pe_lst (pa_cons (pe_callB call_isErr (by rfl) T.n_isinstance (by decide +kernel) (pa_cons (pv 0) (pa_cons (pe_glob (v := .ref _) rfl T.m_BadNet rfl) pa_nil))) (pa_cons (pe_callB call_isErr (by rfl) T.n_isinstance (by decide +kernel) (pa_cons (pv 0) (pa_cons (pe_glob (v := .ref _) rfl T.m_NotTied rfl) pa_nil))) (pa_cons (pe_callB call_isErr (by rfl) T.n_isinstance (by decide +kernel) (pa_cons (pv 0) (pa_cons (pe_glob (v := .ref _) rfl T.m_NoPlace rfl) pa_nil))) pa_nil)))))
      (pss_cons (ps_expr (pe_bm PySem.F.plainAttrs_list PySem.F.slot_list_extend PySem.F.type_list_extend mt_extend (pv 1) (pa_cons (pe_lst (pa_cons (pe_callB call_isErr (by rfl) T.n_isinstance (by decide +kernel) (pa_cons (pv 0) (pa_cons (pe_glob (v := .ref _) rfl T.m_BadTie rfl) pa_nil))) (pa_cons (pe_callB call_isErr (by rfl) T.n_isinstance (by decide +kernel) (pa_cons (pv 0) (pa_cons (pe_glob (v := .ref _) rfl T.m_Full rfl) pa_nil))) (pa_cons (pe_callB call_isErr (by rfl) T.n_isinstance (by decide +kernel) (pa_cons (pv 0) (pa_cons (pe_glob (v := .ref _) rfl T.m_Few rfl) pa_nil))) pa_nil)))) pa_nil)))
      (pss_cons (ps_expr (pe_bm PySem.F.plainAttrs_list PySem.F.slot_list_extend PySem.F.type_list_extend mt_extend (pv 1) (pa_cons (pe_lst (pa_cons (pe_callB call_isErr (by rfl) T.n_isinstance (by decide +kernel) (pa_cons (pv 0) (pa_cons (pe_glob (v := .ref _) rfl T.m_BadRing rfl) pa_nil))) (pa_cons (pe_callB call_isErr (by rfl) T.n_isinstance (by decide +kernel) (pa_cons (pv 0) (pa_cons (pe_glob (v := .ref _) rfl T.m_BadWheels rfl) pa_nil))) (pa_cons (pe_callB call_isErr (by rfl) T.n_isinstance (by decide +kernel) (pa_cons (pv 0) (pa_cons (pe_glob (v := .ref _) rfl T.m_Crossed rfl) pa_nil))) pa_nil)))) pa_nil)))
      (pss_cons (ps_expr (pe_bm PySem.F.plainAttrs_list PySem.F.slot_list_extend PySem.F.type_list_extend mt_extend (pv 1) (pa_cons (pe_lst (pa_cons (pe_callB call_isErr (by rfl) T.n_isinstance (by decide +kernel) (pa_cons (pv 0) (pa_cons (pe_glob (v := .ref _) rfl T.m_BadLook rfl) pa_nil))) (pa_cons (pe_callB call_isErr (by rfl) T.n_isinstance (by decide +kernel) (pa_cons (pv 0) (pa_cons (pe_glob (v := .ref _) rfl T.m_NotOff rfl) pa_nil))) (pa_cons (pe_callB call_isErr (by rfl) T.n_isinstance (by decide +kernel) (pa_cons (pv 0) (pa_cons (pe_glob (v := .ref _) rfl T.m_NoDrawing rfl) pa_nil))) pa_nil)))) pa_nil)))
      (pss_cons (ps_expr (pe_bm PySem.F.plainAttrs_list PySem.F.slot_list_extend PySem.F.type_list_extend mt_extend (pv 1) (pa_cons (pe_lst (pa_cons (pe_callB call_isErr (by rfl) T.n_isinstance (by decide +kernel) (pa_cons (pv 0) (pa_cons (pe_glob (v := .ref _) rfl T.m_BadPlaces rfl) pa_nil))) (pa_cons (pe_callB call_isErr (by rfl) T.n_isinstance (by decide +kernel) (pa_cons (pv 0) (pa_cons (pe_glob (v := .ref _) rfl T.m_BadTies rfl) pa_nil))) (pa_cons (pe_callB call_isErr (by rfl) T.n_isinstance (by decide +kernel) (pa_cons (pv 0) (pa_cons (pe_glob (v := .ref _) rfl T.m_BadNumber rfl) pa_nil))) pa_nil)))) pa_nil)))
      (pss_cons (ps_expr (pe_bm PySem.F.plainAttrs_list PySem.F.slot_list_extend PySem.F.type_list_extend mt_extend (pv 1) (pa_cons (pe_lst (pa_cons (pe_callB call_isErr (by rfl) T.n_isinstance (by decide +kernel) (pa_cons (pv 0) (pa_cons (pe_glob (v := .ref _) rfl T.m_BadTurning rfl) pa_nil))) (pa_cons (pe_callB call_isErr (by rfl) T.n_isinstance (by decide +kernel) (pa_cons (pv 0) (pa_cons (pe_glob (v := .ref _) rfl T.m_OtherNet rfl) pa_nil))) (pa_cons (pe_callB call_isErr (by rfl) T.n_isinstance (by decide +kernel) (pa_cons (pv 0) (pa_cons (pe_glob (v := .ref _) rfl T.m_BadLooks rfl) pa_nil))) pa_nil)))) pa_nil)))
      (pss_cons (ps_expr (pe_bm PySem.F.plainAttrs_list PySem.F.slot_list_extend PySem.F.type_list_extend mt_extend (pv 1) (pa_cons (pe_lst (pa_cons (pe_callB call_isErr (by rfl) T.n_isinstance (by decide +kernel) (pa_cons (pv 0) (pa_cons (pe_glob (v := .ref _) rfl T.m_TooMany rfl) pa_nil))) (pa_cons (pe_callB call_isErr (by rfl) T.n_isinstance (by decide +kernel) (pa_cons (pv 0) (pa_cons (pe_glob (v := .ref _) rfl T.m_Against rfl) pa_nil))) (pa_cons (pe_callB call_isErr (by rfl) T.n_isinstance (by decide +kernel) (pa_cons (pv 0) (pa_cons (pe_glob (v := .ref _) rfl T.m_BadOffers rfl) pa_nil))) pa_nil)))) pa_nil)))
      (pss_cons (ps_expr (pe_bm PySem.F.plainAttrs_list PySem.F.slot_list_extend PySem.F.type_list_extend mt_extend (pv 1) (pa_cons (pe_lst (pa_cons (pe_callB call_isErr (by rfl) T.n_isinstance (by decide +kernel) (pa_cons (pv 0) (pa_cons (pe_glob (v := .ref _) rfl T.m_BadWishes rfl) pa_nil))) (pa_cons (pe_callB call_isErr (by rfl) T.n_isinstance (by decide +kernel) (pa_cons (pv 0) (pa_cons (pe_glob (v := .ref _) rfl T.m_BadNames rfl) pa_nil))) (pa_cons (pe_callB call_isErr (by rfl) T.n_isinstance (by decide +kernel) (pa_cons (pv 0) (pa_cons (pe_glob (v := .ref _) rfl T.m_NotThere rfl) pa_nil))) pa_nil)))) pa_nil)))
      (pss_cons (ps_expr (pe_bm PySem.F.plainAttrs_list PySem.F.slot_list_extend PySem.F.type_list_extend mt_extend (pv 1) (pa_cons (pe_lst (pa_cons (pe_callB call_isErr (by rfl) T.n_isinstance (by decide +kernel) (pa_cons (pv 0) (pa_cons (pe_glob (v := .ref _) rfl T.m_Tied rfl) pa_nil))) (pa_cons (pe_callB call_isErr (by rfl) T.n_isinstance (by decide +kernel) (pa_cons (pv 0) (pa_cons (pe_glob (v := .ref _) rfl T.m_NothingToUndo rfl) pa_nil))) pa_nil))) pa_nil)))
      (pss_cons (ps_expr (pe_bm PySem.F.plainAttrs_list PySem.F.slot_list_extend PySem.F.type_list_extend mt_extend (pv 1) (pa_cons (pe_lst (pa_cons (pe_callB call_isErr (by rfl) T.n_isinstance (by decide +kernel) (pa_cons (pv 0) (pa_cons (pe_glob (v := .ref _) rfl T.m_NothingToRedo rfl) pa_nil))) (pa_cons (pe_callB call_isErr (by rfl) T.n_isinstance (by decide +kernel) (pa_cons (pv 0) (pa_cons (pe_glob (v := .ref _) rfl T.m_NoTrial rfl) pa_nil))) pa_nil))) pa_nil)))
      (pss_cons (ps_expr (pe_bm PySem.F.plainAttrs_list PySem.F.slot_list_extend PySem.F.type_list_extend mt_extend (pv 1) (pa_cons (pe_lst (pa_cons (pe_callB call_isErr (by rfl) T.n_isinstance (by decide +kernel) (pa_cons (pv 0) (pa_cons (pe_glob (v := .ref _) rfl T.m_BadJournal rfl) pa_nil))) (pa_cons (pe_callB call_isErr (by rfl) T.n_isinstance (by decide +kernel) (pa_cons (pv 0) (pa_cons (pe_glob (v := .ref _) rfl T.m_BadLine rfl) pa_nil))) pa_nil))) pa_nil)))
      (pss_one (ps_ret (pv 1)))))))))))))), ?_⟩
    refine ⟨_, rfl, a, C, ad.fI, v, _, _, _, rfl, TE, ea, .own _, IS ad.a_BadNet (by simp [Adr.cs]), ?_⟩
    refine ⟨_, rfl, a, C, ad.fI, v, _, _, _, rfl, TE, ea, .own _, IS ad.a_NotTied (by simp [Adr.cs]), ?_⟩
    refine ⟨_, rfl, a, C, ad.fI, v, _, _, _, rfl, TE, ea, .own _, IS ad.a_NoPlace (by simp [Adr.cs]), ?_⟩
    refine ⟨by show 3 ≤ sizeLine; decide, fun l m0 => ?_⟩
    have s1 : Same H (upd H l (.lst [V.bl (decide (C = ad.a_BadNet)), .bl (decide (C = ad.a_NotTied)), .bl (decide (C = ad.a_NoPlace))])) := same_new m0
    have l1 : upd H l (.lst [V.bl (decide (C = ad.a_BadNet)), .bl (decide (C = ad.a_NotTied)), .bl (decide (C = ad.a_NoPlace))]) l = some (.lst [V.bl (decide (C = ad.a_BadNet)), .bl (decide (C = ad.a_NotTied)), .bl (decide (C = ad.a_NoPlace))]) := upd_same
    generalize upd H l (.lst [V.bl (decide (C = ad.a_BadNet)), .bl (decide (C = ad.a_NotTied)), .bl (decide (C = ad.a_NoPlace))]) = H1 at s1 l1 ⊢
    have ea1 := ea.same s1
    refine ⟨_, rfl, .inl ⟨rfl, _, SqL.of l1⟩, ?_⟩
    refine ⟨_, rfl, a, C, ad.fI, v, _, _, _, rfl, TE, ea1, .own _, IS ad.a_BadTie (by simp [Adr.cs]), ?_⟩
    refine ⟨_, rfl, a, C, ad.fI, v, _, _, _, rfl, TE, ea1, .own _, IS ad.a_Full (by simp [Adr.cs]), ?_⟩
    refine ⟨_, rfl, a, C, ad.fI, v, _, _, _, rfl, TE, ea1, .own _, IS ad.a_Few (by simp [Adr.cs]), ?_⟩
    refine ⟨by show 3 ≤ sizeLine; decide, fun q1 m1 => ?_⟩
    have s2 : Same H1 (upd H1 q1 (.lst [V.bl (decide (C = ad.a_BadTie)), .bl (decide (C = ad.a_Full)), .bl (decide (C = ad.a_Few))])) := same_new m1
    have r2 : upd H1 q1 (.lst [V.bl (decide (C = ad.a_BadTie)), .bl (decide (C = ad.a_Full)), .bl (decide (C = ad.a_Few))]) q1 = some (.lst [V.bl (decide (C = ad.a_BadTie)), .bl (decide (C = ad.a_Full)), .bl (decide (C = ad.a_Few))]) := upd_same
    generalize upd H1 q1 (.lst [V.bl (decide (C = ad.a_BadTie)), .bl (decide (C = ad.a_Full)), .bl (decide (C = ad.a_Few))]) = H2 at s2 r2 ⊢
    have ea2 := ea1.same s2
    have l2 := s2 _ _ l1
    refine ⟨l, q1, _, _, rfl, rfl, l2, r2, by show 6 ≤ sizeLine; decide, ?_⟩
    have s3 : SameBut l H2 (upd H2 l (.lst ([V.bl (decide (C = ad.a_BadNet)), .bl (decide (C = ad.a_NotTied)), .bl (decide (C = ad.a_NoPlace))] ++ [V.bl (decide (C = ad.a_BadTie)), .bl (decide (C = ad.a_Full)), .bl (decide (C = ad.a_Few))]))) := but_upd
    have l3 : upd H2 l (.lst ([V.bl (decide (C = ad.a_BadNet)), .bl (decide (C = ad.a_NotTied)), .bl (decide (C = ad.a_NoPlace))] ++ [V.bl (decide (C = ad.a_BadTie)), .bl (decide (C = ad.a_Full)), .bl (decide (C = ad.a_Few))])) l = some (.lst [V.bl (decide (C = ad.a_BadNet)), .bl (decide (C = ad.a_NotTied)), .bl (decide (C = ad.a_NoPlace)), .bl (decide (C = ad.a_BadTie)), .bl (decide (C = ad.a_Full)), .bl (decide (C = ad.a_Few))]) := upd_same
    generalize upd H2 l (.lst ([V.bl (decide (C = ad.a_BadNet)), .bl (decide (C = ad.a_NotTied)), .bl (decide (C = ad.a_NoPlace))] ++ [V.bl (decide (C = ad.a_BadTie)), .bl (decide (C = ad.a_Full)), .bl (decide (C = ad.a_Few))])) = H3 at s3 l3 ⊢
    have ea3 := err_but l2 s3 ea2
    refine ⟨_, rfl, .inl ⟨rfl, _, SqL.of l3⟩, ?_⟩
    refine ⟨_, rfl, a, C, ad.fI, v, _, _, _, rfl, TE, ea3, .own _, IS ad.a_BadRing (by simp [Adr.cs]), ?_⟩
    refine ⟨_, rfl, a, C, ad.fI, v, _, _, _, rfl, TE, ea3, .own _, IS ad.a_BadWheels (by simp [Adr.cs]), ?_⟩
    refine ⟨_, rfl, a, C, ad.fI, v, _, _, _, rfl, TE, ea3, .own _, IS ad.a_Crossed (by simp [Adr.cs]), ?_⟩
    refine ⟨by show 3 ≤ sizeLine; decide, fun q2 m2 => ?_⟩
    have s4 : Same H3 (upd H3 q2 (.lst [V.bl (decide (C = ad.a_BadRing)), .bl (decide (C = ad.a_BadWheels)), .bl (decide (C = ad.a_Crossed))])) := same_new m2
    have r4 : upd H3 q2 (.lst [V.bl (decide (C = ad.a_BadRing)), .bl (decide (C = ad.a_BadWheels)), .bl (decide (C = ad.a_Crossed))]) q2 = some (.lst [V.bl (decide (C = ad.a_BadRing)), .bl (decide (C = ad.a_BadWheels)), .bl (decide (C = ad.a_Crossed))]) := upd_same
    generalize upd H3 q2 (.lst [V.bl (decide (C = ad.a_BadRing)), .bl (decide (C = ad.a_BadWheels)), .bl (decide (C = ad.a_Crossed))]) = H4 at s4 r4 ⊢
    have ea4 := ea3.same s4
    have l4 := s4 _ _ l3
    refine ⟨l, q2, _, _, rfl, rfl, l4, r4, by show 9 ≤ sizeLine; decide, ?_⟩
    have s5 : SameBut l H4 (upd H4 l (.lst ([V.bl (decide (C = ad.a_BadNet)), .bl (decide (C = ad.a_NotTied)), .bl (decide (C = ad.a_NoPlace)), .bl (decide (C = ad.a_BadTie)), .bl (decide (C = ad.a_Full)), .bl (decide (C = ad.a_Few))] ++ [V.bl (decide (C = ad.a_BadRing)), .bl (decide (C = ad.a_BadWheels)), .bl (decide (C = ad.a_Crossed))]))) := but_upd
    have l5 : upd H4 l (.lst ([V.bl (decide (C = ad.a_BadNet)), .bl (decide (C = ad.a_NotTied)), .bl (decide (C = ad.a_NoPlace)), .bl (decide (C = ad.a_BadTie)), .bl (decide (C = ad.a_Full)), .bl (decide (C = ad.a_Few))] ++ [V.bl (decide (C = ad.a_BadRing)), .bl (decide (C = ad.a_BadWheels)), .bl (decide (C = ad.a_Crossed))])) l = some (.lst [V.bl (decide (C = ad.a_BadNet)), .bl (decide (C = ad.a_NotTied)), .bl (decide (C = ad.a_NoPlace)), .bl (decide (C = ad.a_BadTie)), .bl (decide (C = ad.a_Full)), .bl (decide (C = ad.a_Few)), .bl (decide (C = ad.a_BadRing)), .bl (decide (C = ad.a_BadWheels)), .bl (decide (C = ad.a_Crossed))]) := upd_same
    generalize upd H4 l (.lst ([V.bl (decide (C = ad.a_BadNet)), .bl (decide (C = ad.a_NotTied)), .bl (decide (C = ad.a_NoPlace)), .bl (decide (C = ad.a_BadTie)), .bl (decide (C = ad.a_Full)), .bl (decide (C = ad.a_Few))] ++ [V.bl (decide (C = ad.a_BadRing)), .bl (decide (C = ad.a_BadWheels)), .bl (decide (C = ad.a_Crossed))])) = H5 at s5 l5 ⊢
    have ea5 := err_but l4 s5 ea4
    refine ⟨_, rfl, .inl ⟨rfl, _, SqL.of l5⟩, ?_⟩
    refine ⟨_, rfl, a, C, ad.fI, v, _, _, _, rfl, TE, ea5, .own _, IS ad.a_BadLook (by simp [Adr.cs]), ?_⟩
    refine ⟨_, rfl, a, C, ad.fI, v, _, _, _, rfl, TE, ea5, .own _, IS ad.a_NotOff (by simp [Adr.cs]), ?_⟩
    refine ⟨_, rfl, a, C, ad.fI, v, _, _, _, rfl, TE, ea5, .own _, IS ad.a_NoDrawing (by simp [Adr.cs]), ?_⟩
    refine ⟨by show 3 ≤ sizeLine; decide, fun q3 m3 => ?_⟩
    have s6 : Same H5 (upd H5 q3 (.lst [V.bl (decide (C = ad.a_BadLook)), .bl (decide (C = ad.a_NotOff)), .bl (decide (C = ad.a_NoDrawing))])) := same_new m3
    have r6 : upd H5 q3 (.lst [V.bl (decide (C = ad.a_BadLook)), .bl (decide (C = ad.a_NotOff)), .bl (decide (C = ad.a_NoDrawing))]) q3 = some (.lst [V.bl (decide (C = ad.a_BadLook)), .bl (decide (C = ad.a_NotOff)), .bl (decide (C = ad.a_NoDrawing))]) := upd_same
    generalize upd H5 q3 (.lst [V.bl (decide (C = ad.a_BadLook)), .bl (decide (C = ad.a_NotOff)), .bl (decide (C = ad.a_NoDrawing))]) = H6 at s6 r6 ⊢
    have ea6 := ea5.same s6
    have l6 := s6 _ _ l5
    refine ⟨l, q3, _, _, rfl, rfl, l6, r6, by show 12 ≤ sizeLine; decide, ?_⟩
    have s7 : SameBut l H6 (upd H6 l (.lst ([V.bl (decide (C = ad.a_BadNet)), .bl (decide (C = ad.a_NotTied)), .bl (decide (C = ad.a_NoPlace)), .bl (decide (C = ad.a_BadTie)), .bl (decide (C = ad.a_Full)), .bl (decide (C = ad.a_Few)), .bl (decide (C = ad.a_BadRing)), .bl (decide (C = ad.a_BadWheels)), .bl (decide (C = ad.a_Crossed))] ++ [V.bl (decide (C = ad.a_BadLook)), .bl (decide (C = ad.a_NotOff)), .bl (decide (C = ad.a_NoDrawing))]))) := but_upd
    have l7 : upd H6 l (.lst ([V.bl (decide (C = ad.a_BadNet)), .bl (decide (C = ad.a_NotTied)), .bl (decide (C = ad.a_NoPlace)), .bl (decide (C = ad.a_BadTie)), .bl (decide (C = ad.a_Full)), .bl (decide (C = ad.a_Few)), .bl (decide (C = ad.a_BadRing)), .bl (decide (C = ad.a_BadWheels)), .bl (decide (C = ad.a_Crossed))] ++ [V.bl (decide (C = ad.a_BadLook)), .bl (decide (C = ad.a_NotOff)), .bl (decide (C = ad.a_NoDrawing))])) l = some (.lst [V.bl (decide (C = ad.a_BadNet)), .bl (decide (C = ad.a_NotTied)), .bl (decide (C = ad.a_NoPlace)), .bl (decide (C = ad.a_BadTie)), .bl (decide (C = ad.a_Full)), .bl (decide (C = ad.a_Few)), .bl (decide (C = ad.a_BadRing)), .bl (decide (C = ad.a_BadWheels)), .bl (decide (C = ad.a_Crossed)), .bl (decide (C = ad.a_BadLook)), .bl (decide (C = ad.a_NotOff)), .bl (decide (C = ad.a_NoDrawing))]) := upd_same
    generalize upd H6 l (.lst ([V.bl (decide (C = ad.a_BadNet)), .bl (decide (C = ad.a_NotTied)), .bl (decide (C = ad.a_NoPlace)), .bl (decide (C = ad.a_BadTie)), .bl (decide (C = ad.a_Full)), .bl (decide (C = ad.a_Few)), .bl (decide (C = ad.a_BadRing)), .bl (decide (C = ad.a_BadWheels)), .bl (decide (C = ad.a_Crossed))] ++ [V.bl (decide (C = ad.a_BadLook)), .bl (decide (C = ad.a_NotOff)), .bl (decide (C = ad.a_NoDrawing))])) = H7 at s7 l7 ⊢
    have ea7 := err_but l6 s7 ea6
    refine ⟨_, rfl, .inl ⟨rfl, _, SqL.of l7⟩, ?_⟩
    refine ⟨_, rfl, a, C, ad.fI, v, _, _, _, rfl, TE, ea7, .own _, IS ad.a_BadPlaces (by simp [Adr.cs]), ?_⟩
    refine ⟨_, rfl, a, C, ad.fI, v, _, _, _, rfl, TE, ea7, .own _, IS ad.a_BadTies (by simp [Adr.cs]), ?_⟩
    refine ⟨_, rfl, a, C, ad.fI, v, _, _, _, rfl, TE, ea7, .own _, IS ad.a_BadNumber (by simp [Adr.cs]), ?_⟩
    refine ⟨by show 3 ≤ sizeLine; decide, fun q4 m4 => ?_⟩
    have s8 : Same H7 (upd H7 q4 (.lst [V.bl (decide (C = ad.a_BadPlaces)), .bl (decide (C = ad.a_BadTies)), .bl (decide (C = ad.a_BadNumber))])) := same_new m4
    have r8 : upd H7 q4 (.lst [V.bl (decide (C = ad.a_BadPlaces)), .bl (decide (C = ad.a_BadTies)), .bl (decide (C = ad.a_BadNumber))]) q4 = some (.lst [V.bl (decide (C = ad.a_BadPlaces)), .bl (decide (C = ad.a_BadTies)), .bl (decide (C = ad.a_BadNumber))]) := upd_same
    generalize upd H7 q4 (.lst [V.bl (decide (C = ad.a_BadPlaces)), .bl (decide (C = ad.a_BadTies)), .bl (decide (C = ad.a_BadNumber))]) = H8 at s8 r8 ⊢
    have ea8 := ea7.same s8
    have l8 := s8 _ _ l7
    refine ⟨l, q4, _, _, rfl, rfl, l8, r8, by show 15 ≤ sizeLine; decide, ?_⟩
    have s9 : SameBut l H8 (upd H8 l (.lst ([V.bl (decide (C = ad.a_BadNet)), .bl (decide (C = ad.a_NotTied)), .bl (decide (C = ad.a_NoPlace)), .bl (decide (C = ad.a_BadTie)), .bl (decide (C = ad.a_Full)), .bl (decide (C = ad.a_Few)), .bl (decide (C = ad.a_BadRing)), .bl (decide (C = ad.a_BadWheels)), .bl (decide (C = ad.a_Crossed)), .bl (decide (C = ad.a_BadLook)), .bl (decide (C = ad.a_NotOff)), .bl (decide (C = ad.a_NoDrawing))] ++ [V.bl (decide (C = ad.a_BadPlaces)), .bl (decide (C = ad.a_BadTies)), .bl (decide (C = ad.a_BadNumber))]))) := but_upd
    have l9 : upd H8 l (.lst ([V.bl (decide (C = ad.a_BadNet)), .bl (decide (C = ad.a_NotTied)), .bl (decide (C = ad.a_NoPlace)), .bl (decide (C = ad.a_BadTie)), .bl (decide (C = ad.a_Full)), .bl (decide (C = ad.a_Few)), .bl (decide (C = ad.a_BadRing)), .bl (decide (C = ad.a_BadWheels)), .bl (decide (C = ad.a_Crossed)), .bl (decide (C = ad.a_BadLook)), .bl (decide (C = ad.a_NotOff)), .bl (decide (C = ad.a_NoDrawing))] ++ [V.bl (decide (C = ad.a_BadPlaces)), .bl (decide (C = ad.a_BadTies)), .bl (decide (C = ad.a_BadNumber))])) l = some (.lst [V.bl (decide (C = ad.a_BadNet)), .bl (decide (C = ad.a_NotTied)), .bl (decide (C = ad.a_NoPlace)), .bl (decide (C = ad.a_BadTie)), .bl (decide (C = ad.a_Full)), .bl (decide (C = ad.a_Few)), .bl (decide (C = ad.a_BadRing)), .bl (decide (C = ad.a_BadWheels)), .bl (decide (C = ad.a_Crossed)), .bl (decide (C = ad.a_BadLook)), .bl (decide (C = ad.a_NotOff)), .bl (decide (C = ad.a_NoDrawing)), .bl (decide (C = ad.a_BadPlaces)), .bl (decide (C = ad.a_BadTies)), .bl (decide (C = ad.a_BadNumber))]) := upd_same
    generalize upd H8 l (.lst ([V.bl (decide (C = ad.a_BadNet)), .bl (decide (C = ad.a_NotTied)), .bl (decide (C = ad.a_NoPlace)), .bl (decide (C = ad.a_BadTie)), .bl (decide (C = ad.a_Full)), .bl (decide (C = ad.a_Few)), .bl (decide (C = ad.a_BadRing)), .bl (decide (C = ad.a_BadWheels)), .bl (decide (C = ad.a_Crossed)), .bl (decide (C = ad.a_BadLook)), .bl (decide (C = ad.a_NotOff)), .bl (decide (C = ad.a_NoDrawing))] ++ [V.bl (decide (C = ad.a_BadPlaces)), .bl (decide (C = ad.a_BadTies)), .bl (decide (C = ad.a_BadNumber))])) = H9 at s9 l9 ⊢
    have ea9 := err_but l8 s9 ea8
    refine ⟨_, rfl, .inl ⟨rfl, _, SqL.of l9⟩, ?_⟩
    refine ⟨_, rfl, a, C, ad.fI, v, _, _, _, rfl, TE, ea9, .own _, IS ad.a_BadTurning (by simp [Adr.cs]), ?_⟩
    refine ⟨_, rfl, a, C, ad.fI, v, _, _, _, rfl, TE, ea9, .own _, IS ad.a_OtherNet (by simp [Adr.cs]), ?_⟩
    refine ⟨_, rfl, a, C, ad.fI, v, _, _, _, rfl, TE, ea9, .own _, IS ad.a_BadLooks (by simp [Adr.cs]), ?_⟩
    refine ⟨by show 3 ≤ sizeLine; decide, fun q5 m5 => ?_⟩
    have s10 : Same H9 (upd H9 q5 (.lst [V.bl (decide (C = ad.a_BadTurning)), .bl (decide (C = ad.a_OtherNet)), .bl (decide (C = ad.a_BadLooks))])) := same_new m5
    have r10 : upd H9 q5 (.lst [V.bl (decide (C = ad.a_BadTurning)), .bl (decide (C = ad.a_OtherNet)), .bl (decide (C = ad.a_BadLooks))]) q5 = some (.lst [V.bl (decide (C = ad.a_BadTurning)), .bl (decide (C = ad.a_OtherNet)), .bl (decide (C = ad.a_BadLooks))]) := upd_same
    generalize upd H9 q5 (.lst [V.bl (decide (C = ad.a_BadTurning)), .bl (decide (C = ad.a_OtherNet)), .bl (decide (C = ad.a_BadLooks))]) = H10 at s10 r10 ⊢
    have ea10 := ea9.same s10
    have l10 := s10 _ _ l9
    refine ⟨l, q5, _, _, rfl, rfl, l10, r10, by show 18 ≤ sizeLine; decide, ?_⟩
    have s11 : SameBut l H10 (upd H10 l (.lst ([V.bl (decide (C = ad.a_BadNet)), .bl (decide (C = ad.a_NotTied)), .bl (decide (C = ad.a_NoPlace)), .bl (decide (C = ad.a_BadTie)), .bl (decide (C = ad.a_Full)), .bl (decide (C = ad.a_Few)), .bl (decide (C = ad.a_BadRing)), .bl (decide (C = ad.a_BadWheels)), .bl (decide (C = ad.a_Crossed)), .bl (decide (C = ad.a_BadLook)), .bl (decide (C = ad.a_NotOff)), .bl (decide (C = ad.a_NoDrawing)), .bl (decide (C = ad.a_BadPlaces)), .bl (decide (C = ad.a_BadTies)), .bl (decide (C = ad.a_BadNumber))] ++ [V.bl (decide (C = ad.a_BadTurning)), .bl (decide (C = ad.a_OtherNet)), .bl (decide (C = ad.a_BadLooks))]))) := but_upd
    have l11 : upd H10 l (.lst ([V.bl (decide (C = ad.a_BadNet)), .bl (decide (C = ad.a_NotTied)), .bl (decide (C = ad.a_NoPlace)), .bl (decide (C = ad.a_BadTie)), .bl (decide (C = ad.a_Full)), .bl (decide (C = ad.a_Few)), .bl (decide (C = ad.a_BadRing)), .bl (decide (C = ad.a_BadWheels)), .bl (decide (C = ad.a_Crossed)), .bl (decide (C = ad.a_BadLook)), .bl (decide (C = ad.a_NotOff)), .bl (decide (C = ad.a_NoDrawing)), .bl (decide (C = ad.a_BadPlaces)), .bl (decide (C = ad.a_BadTies)), .bl (decide (C = ad.a_BadNumber))] ++ [V.bl (decide (C = ad.a_BadTurning)), .bl (decide (C = ad.a_OtherNet)), .bl (decide (C = ad.a_BadLooks))])) l = some (.lst [V.bl (decide (C = ad.a_BadNet)), .bl (decide (C = ad.a_NotTied)), .bl (decide (C = ad.a_NoPlace)), .bl (decide (C = ad.a_BadTie)), .bl (decide (C = ad.a_Full)), .bl (decide (C = ad.a_Few)), .bl (decide (C = ad.a_BadRing)), .bl (decide (C = ad.a_BadWheels)), .bl (decide (C = ad.a_Crossed)), .bl (decide (C = ad.a_BadLook)), .bl (decide (C = ad.a_NotOff)), .bl (decide (C = ad.a_NoDrawing)), .bl (decide (C = ad.a_BadPlaces)), .bl (decide (C = ad.a_BadTies)), .bl (decide (C = ad.a_BadNumber)), .bl (decide (C = ad.a_BadTurning)), .bl (decide (C = ad.a_OtherNet)), .bl (decide (C = ad.a_BadLooks))]) := upd_same
    generalize upd H10 l (.lst ([V.bl (decide (C = ad.a_BadNet)), .bl (decide (C = ad.a_NotTied)), .bl (decide (C = ad.a_NoPlace)), .bl (decide (C = ad.a_BadTie)), .bl (decide (C = ad.a_Full)), .bl (decide (C = ad.a_Few)), .bl (decide (C = ad.a_BadRing)), .bl (decide (C = ad.a_BadWheels)), .bl (decide (C = ad.a_Crossed)), .bl (decide (C = ad.a_BadLook)), .bl (decide (C = ad.a_NotOff)), .bl (decide (C = ad.a_NoDrawing)), .bl (decide (C = ad.a_BadPlaces)), .bl (decide (C = ad.a_BadTies)), .bl (decide (C = ad.a_BadNumber))] ++ [V.bl (decide (C = ad.a_BadTurning)), .bl (decide (C = ad.a_OtherNet)), .bl (decide (C = ad.a_BadLooks))])) = H11 at s11 l11 ⊢
    have ea11 := err_but l10 s11 ea10
    refine ⟨_, rfl, .inl ⟨rfl, _, SqL.of l11⟩, ?_⟩
    refine ⟨_, rfl, a, C, ad.fI, v, _, _, _, rfl, TE, ea11, .own _, IS ad.a_TooMany (by simp [Adr.cs]), ?_⟩
    refine ⟨_, rfl, a, C, ad.fI, v, _, _, _, rfl, TE, ea11, .own _, IS ad.a_Against (by simp [Adr.cs]), ?_⟩
    refine ⟨_, rfl, a, C, ad.fI, v, _, _, _, rfl, TE, ea11, .own _, IS ad.a_BadOffers (by simp [Adr.cs]), ?_⟩
    refine ⟨by show 3 ≤ sizeLine; decide, fun q6 m6 => ?_⟩
    have s12 : Same H11 (upd H11 q6 (.lst [V.bl (decide (C = ad.a_TooMany)), .bl (decide (C = ad.a_Against)), .bl (decide (C = ad.a_BadOffers))])) := same_new m6
    have r12 : upd H11 q6 (.lst [V.bl (decide (C = ad.a_TooMany)), .bl (decide (C = ad.a_Against)), .bl (decide (C = ad.a_BadOffers))]) q6 = some (.lst [V.bl (decide (C = ad.a_TooMany)), .bl (decide (C = ad.a_Against)), .bl (decide (C = ad.a_BadOffers))]) := upd_same
    generalize upd H11 q6 (.lst [V.bl (decide (C = ad.a_TooMany)), .bl (decide (C = ad.a_Against)), .bl (decide (C = ad.a_BadOffers))]) = H12 at s12 r12 ⊢
    have ea12 := ea11.same s12
    have l12 := s12 _ _ l11
    refine ⟨l, q6, _, _, rfl, rfl, l12, r12, by show 21 ≤ sizeLine; decide, ?_⟩
    have s13 : SameBut l H12 (upd H12 l (.lst ([V.bl (decide (C = ad.a_BadNet)), .bl (decide (C = ad.a_NotTied)), .bl (decide (C = ad.a_NoPlace)), .bl (decide (C = ad.a_BadTie)), .bl (decide (C = ad.a_Full)), .bl (decide (C = ad.a_Few)), .bl (decide (C = ad.a_BadRing)), .bl (decide (C = ad.a_BadWheels)), .bl (decide (C = ad.a_Crossed)), .bl (decide (C = ad.a_BadLook)), .bl (decide (C = ad.a_NotOff)), .bl (decide (C = ad.a_NoDrawing)), .bl (decide (C = ad.a_BadPlaces)), .bl (decide (C = ad.a_BadTies)), .bl (decide (C = ad.a_BadNumber)), .bl (decide (C = ad.a_BadTurning)), .bl (decide (C = ad.a_OtherNet)), .bl (decide (C = ad.a_BadLooks))] ++ [V.bl (decide (C = ad.a_TooMany)), .bl (decide (C = ad.a_Against)), .bl (decide (C = ad.a_BadOffers))]))) := but_upd
    have l13 : upd H12 l (.lst ([V.bl (decide (C = ad.a_BadNet)), .bl (decide (C = ad.a_NotTied)), .bl (decide (C = ad.a_NoPlace)), .bl (decide (C = ad.a_BadTie)), .bl (decide (C = ad.a_Full)), .bl (decide (C = ad.a_Few)), .bl (decide (C = ad.a_BadRing)), .bl (decide (C = ad.a_BadWheels)), .bl (decide (C = ad.a_Crossed)), .bl (decide (C = ad.a_BadLook)), .bl (decide (C = ad.a_NotOff)), .bl (decide (C = ad.a_NoDrawing)), .bl (decide (C = ad.a_BadPlaces)), .bl (decide (C = ad.a_BadTies)), .bl (decide (C = ad.a_BadNumber)), .bl (decide (C = ad.a_BadTurning)), .bl (decide (C = ad.a_OtherNet)), .bl (decide (C = ad.a_BadLooks))] ++ [V.bl (decide (C = ad.a_TooMany)), .bl (decide (C = ad.a_Against)), .bl (decide (C = ad.a_BadOffers))])) l = some (.lst [V.bl (decide (C = ad.a_BadNet)), .bl (decide (C = ad.a_NotTied)), .bl (decide (C = ad.a_NoPlace)), .bl (decide (C = ad.a_BadTie)), .bl (decide (C = ad.a_Full)), .bl (decide (C = ad.a_Few)), .bl (decide (C = ad.a_BadRing)), .bl (decide (C = ad.a_BadWheels)), .bl (decide (C = ad.a_Crossed)), .bl (decide (C = ad.a_BadLook)), .bl (decide (C = ad.a_NotOff)), .bl (decide (C = ad.a_NoDrawing)), .bl (decide (C = ad.a_BadPlaces)), .bl (decide (C = ad.a_BadTies)), .bl (decide (C = ad.a_BadNumber)), .bl (decide (C = ad.a_BadTurning)), .bl (decide (C = ad.a_OtherNet)), .bl (decide (C = ad.a_BadLooks)), .bl (decide (C = ad.a_TooMany)), .bl (decide (C = ad.a_Against)), .bl (decide (C = ad.a_BadOffers))]) := upd_same
    generalize upd H12 l (.lst ([V.bl (decide (C = ad.a_BadNet)), .bl (decide (C = ad.a_NotTied)), .bl (decide (C = ad.a_NoPlace)), .bl (decide (C = ad.a_BadTie)), .bl (decide (C = ad.a_Full)), .bl (decide (C = ad.a_Few)), .bl (decide (C = ad.a_BadRing)), .bl (decide (C = ad.a_BadWheels)), .bl (decide (C = ad.a_Crossed)), .bl (decide (C = ad.a_BadLook)), .bl (decide (C = ad.a_NotOff)), .bl (decide (C = ad.a_NoDrawing)), .bl (decide (C = ad.a_BadPlaces)), .bl (decide (C = ad.a_BadTies)), .bl (decide (C = ad.a_BadNumber)), .bl (decide (C = ad.a_BadTurning)), .bl (decide (C = ad.a_OtherNet)), .bl (decide (C = ad.a_BadLooks))] ++ [V.bl (decide (C = ad.a_TooMany)), .bl (decide (C = ad.a_Against)), .bl (decide (C = ad.a_BadOffers))])) = H13 at s13 l13 ⊢
    have ea13 := err_but l12 s13 ea12
    refine ⟨_, rfl, .inl ⟨rfl, _, SqL.of l13⟩, ?_⟩
    refine ⟨_, rfl, a, C, ad.fI, v, _, _, _, rfl, TE, ea13, .own _, IS ad.a_BadWishes (by simp [Adr.cs]), ?_⟩
    refine ⟨_, rfl, a, C, ad.fI, v, _, _, _, rfl, TE, ea13, .own _, IS ad.a_BadNames (by simp [Adr.cs]), ?_⟩
    refine ⟨_, rfl, a, C, ad.fI, v, _, _, _, rfl, TE, ea13, .own _, IS ad.a_NotThere (by simp [Adr.cs]), ?_⟩
    refine ⟨by show 3 ≤ sizeLine; decide, fun q7 m7 => ?_⟩
    have s14 : Same H13 (upd H13 q7 (.lst [V.bl (decide (C = ad.a_BadWishes)), .bl (decide (C = ad.a_BadNames)), .bl (decide (C = ad.a_NotThere))])) := same_new m7
    have r14 : upd H13 q7 (.lst [V.bl (decide (C = ad.a_BadWishes)), .bl (decide (C = ad.a_BadNames)), .bl (decide (C = ad.a_NotThere))]) q7 = some (.lst [V.bl (decide (C = ad.a_BadWishes)), .bl (decide (C = ad.a_BadNames)), .bl (decide (C = ad.a_NotThere))]) := upd_same
    generalize upd H13 q7 (.lst [V.bl (decide (C = ad.a_BadWishes)), .bl (decide (C = ad.a_BadNames)), .bl (decide (C = ad.a_NotThere))]) = H14 at s14 r14 ⊢
    have ea14 := ea13.same s14
    have l14 := s14 _ _ l13
    refine ⟨l, q7, _, _, rfl, rfl, l14, r14, by show 24 ≤ sizeLine; decide, ?_⟩
    have s15 : SameBut l H14 (upd H14 l (.lst ([V.bl (decide (C = ad.a_BadNet)), .bl (decide (C = ad.a_NotTied)), .bl (decide (C = ad.a_NoPlace)), .bl (decide (C = ad.a_BadTie)), .bl (decide (C = ad.a_Full)), .bl (decide (C = ad.a_Few)), .bl (decide (C = ad.a_BadRing)), .bl (decide (C = ad.a_BadWheels)), .bl (decide (C = ad.a_Crossed)), .bl (decide (C = ad.a_BadLook)), .bl (decide (C = ad.a_NotOff)), .bl (decide (C = ad.a_NoDrawing)), .bl (decide (C = ad.a_BadPlaces)), .bl (decide (C = ad.a_BadTies)), .bl (decide (C = ad.a_BadNumber)), .bl (decide (C = ad.a_BadTurning)), .bl (decide (C = ad.a_OtherNet)), .bl (decide (C = ad.a_BadLooks)), .bl (decide (C = ad.a_TooMany)), .bl (decide (C = ad.a_Against)), .bl (decide (C = ad.a_BadOffers))] ++ [V.bl (decide (C = ad.a_BadWishes)), .bl (decide (C = ad.a_BadNames)), .bl (decide (C = ad.a_NotThere))]))) := but_upd
    have l15 : upd H14 l (.lst ([V.bl (decide (C = ad.a_BadNet)), .bl (decide (C = ad.a_NotTied)), .bl (decide (C = ad.a_NoPlace)), .bl (decide (C = ad.a_BadTie)), .bl (decide (C = ad.a_Full)), .bl (decide (C = ad.a_Few)), .bl (decide (C = ad.a_BadRing)), .bl (decide (C = ad.a_BadWheels)), .bl (decide (C = ad.a_Crossed)), .bl (decide (C = ad.a_BadLook)), .bl (decide (C = ad.a_NotOff)), .bl (decide (C = ad.a_NoDrawing)), .bl (decide (C = ad.a_BadPlaces)), .bl (decide (C = ad.a_BadTies)), .bl (decide (C = ad.a_BadNumber)), .bl (decide (C = ad.a_BadTurning)), .bl (decide (C = ad.a_OtherNet)), .bl (decide (C = ad.a_BadLooks)), .bl (decide (C = ad.a_TooMany)), .bl (decide (C = ad.a_Against)), .bl (decide (C = ad.a_BadOffers))] ++ [V.bl (decide (C = ad.a_BadWishes)), .bl (decide (C = ad.a_BadNames)), .bl (decide (C = ad.a_NotThere))])) l = some (.lst [V.bl (decide (C = ad.a_BadNet)), .bl (decide (C = ad.a_NotTied)), .bl (decide (C = ad.a_NoPlace)), .bl (decide (C = ad.a_BadTie)), .bl (decide (C = ad.a_Full)), .bl (decide (C = ad.a_Few)), .bl (decide (C = ad.a_BadRing)), .bl (decide (C = ad.a_BadWheels)), .bl (decide (C = ad.a_Crossed)), .bl (decide (C = ad.a_BadLook)), .bl (decide (C = ad.a_NotOff)), .bl (decide (C = ad.a_NoDrawing)), .bl (decide (C = ad.a_BadPlaces)), .bl (decide (C = ad.a_BadTies)), .bl (decide (C = ad.a_BadNumber)), .bl (decide (C = ad.a_BadTurning)), .bl (decide (C = ad.a_OtherNet)), .bl (decide (C = ad.a_BadLooks)), .bl (decide (C = ad.a_TooMany)), .bl (decide (C = ad.a_Against)), .bl (decide (C = ad.a_BadOffers)), .bl (decide (C = ad.a_BadWishes)), .bl (decide (C = ad.a_BadNames)), .bl (decide (C = ad.a_NotThere))]) := upd_same
    generalize upd H14 l (.lst ([V.bl (decide (C = ad.a_BadNet)), .bl (decide (C = ad.a_NotTied)), .bl (decide (C = ad.a_NoPlace)), .bl (decide (C = ad.a_BadTie)), .bl (decide (C = ad.a_Full)), .bl (decide (C = ad.a_Few)), .bl (decide (C = ad.a_BadRing)), .bl (decide (C = ad.a_BadWheels)), .bl (decide (C = ad.a_Crossed)), .bl (decide (C = ad.a_BadLook)), .bl (decide (C = ad.a_NotOff)), .bl (decide (C = ad.a_NoDrawing)), .bl (decide (C = ad.a_BadPlaces)), .bl (decide (C = ad.a_BadTies)), .bl (decide (C = ad.a_BadNumber)), .bl (decide (C = ad.a_BadTurning)), .bl (decide (C = ad.a_OtherNet)), .bl (decide (C = ad.a_BadLooks)), .bl (decide (C = ad.a_TooMany)), .bl (decide (C = ad.a_Against)), .bl (decide (C = ad.a_BadOffers))] ++ [V.bl (decide (C = ad.a_BadWishes)), .bl (decide (C = ad.a_BadNames)), .bl (decide (C = ad.a_NotThere))])) = H15 at s15 l15 ⊢
    have ea15 := err_but l14 s15 ea14
    refine ⟨_, rfl, .inl ⟨rfl, _, SqL.of l15⟩, ?_⟩
    refine ⟨_, rfl, a, C, ad.fI, v, _, _, _, rfl, TE, ea15, .own _, IS ad.a_Tied (by simp [Adr.cs]), ?_⟩
    refine ⟨_, rfl, a, C, ad.fI, v, _, _, _, rfl, TE, ea15, .own _, IS ad.a_NothingToUndo (by simp [Adr.cs]), ?_⟩
    refine ⟨by show 2 ≤ sizeLine; decide, fun q8 m8 => ?_⟩
    have s16 : Same H15 (upd H15 q8 (.lst [V.bl (decide (C = ad.a_Tied)), .bl (decide (C = ad.a_NothingToUndo))])) := same_new m8
    have r16 : upd H15 q8 (.lst [V.bl (decide (C = ad.a_Tied)), .bl (decide (C = ad.a_NothingToUndo))]) q8 = some (.lst [V.bl (decide (C = ad.a_Tied)), .bl (decide (C = ad.a_NothingToUndo))]) := upd_same
    generalize upd H15 q8 (.lst [V.bl (decide (C = ad.a_Tied)), .bl (decide (C = ad.a_NothingToUndo))]) = H16 at s16 r16 ⊢
    have ea16 := ea15.same s16
    have l16 := s16 _ _ l15
    refine ⟨l, q8, _, _, rfl, rfl, l16, r16, by show 26 ≤ sizeLine; decide, ?_⟩
    have s17 : SameBut l H16 (upd H16 l (.lst ([V.bl (decide (C = ad.a_BadNet)), .bl (decide (C = ad.a_NotTied)), .bl (decide (C = ad.a_NoPlace)), .bl (decide (C = ad.a_BadTie)), .bl (decide (C = ad.a_Full)), .bl (decide (C = ad.a_Few)), .bl (decide (C = ad.a_BadRing)), .bl (decide (C = ad.a_BadWheels)), .bl (decide (C = ad.a_Crossed)), .bl (decide (C = ad.a_BadLook)), .bl (decide (C = ad.a_NotOff)), .bl (decide (C = ad.a_NoDrawing)), .bl (decide (C = ad.a_BadPlaces)), .bl (decide (C = ad.a_BadTies)), .bl (decide (C = ad.a_BadNumber)), .bl (decide (C = ad.a_BadTurning)), .bl (decide (C = ad.a_OtherNet)), .bl (decide (C = ad.a_BadLooks)), .bl (decide (C = ad.a_TooMany)), .bl (decide (C = ad.a_Against)), .bl (decide (C = ad.a_BadOffers)), .bl (decide (C = ad.a_BadWishes)), .bl (decide (C = ad.a_BadNames)), .bl (decide (C = ad.a_NotThere))] ++ [V.bl (decide (C = ad.a_Tied)), .bl (decide (C = ad.a_NothingToUndo))]))) := but_upd
    have l17 : upd H16 l (.lst ([V.bl (decide (C = ad.a_BadNet)), .bl (decide (C = ad.a_NotTied)), .bl (decide (C = ad.a_NoPlace)), .bl (decide (C = ad.a_BadTie)), .bl (decide (C = ad.a_Full)), .bl (decide (C = ad.a_Few)), .bl (decide (C = ad.a_BadRing)), .bl (decide (C = ad.a_BadWheels)), .bl (decide (C = ad.a_Crossed)), .bl (decide (C = ad.a_BadLook)), .bl (decide (C = ad.a_NotOff)), .bl (decide (C = ad.a_NoDrawing)), .bl (decide (C = ad.a_BadPlaces)), .bl (decide (C = ad.a_BadTies)), .bl (decide (C = ad.a_BadNumber)), .bl (decide (C = ad.a_BadTurning)), .bl (decide (C = ad.a_OtherNet)), .bl (decide (C = ad.a_BadLooks)), .bl (decide (C = ad.a_TooMany)), .bl (decide (C = ad.a_Against)), .bl (decide (C = ad.a_BadOffers)), .bl (decide (C = ad.a_BadWishes)), .bl (decide (C = ad.a_BadNames)), .bl (decide (C = ad.a_NotThere))] ++ [V.bl (decide (C = ad.a_Tied)), .bl (decide (C = ad.a_NothingToUndo))])) l = some (.lst [V.bl (decide (C = ad.a_BadNet)), .bl (decide (C = ad.a_NotTied)), .bl (decide (C = ad.a_NoPlace)), .bl (decide (C = ad.a_BadTie)), .bl (decide (C = ad.a_Full)), .bl (decide (C = ad.a_Few)), .bl (decide (C = ad.a_BadRing)), .bl (decide (C = ad.a_BadWheels)), .bl (decide (C = ad.a_Crossed)), .bl (decide (C = ad.a_BadLook)), .bl (decide (C = ad.a_NotOff)), .bl (decide (C = ad.a_NoDrawing)), .bl (decide (C = ad.a_BadPlaces)), .bl (decide (C = ad.a_BadTies)), .bl (decide (C = ad.a_BadNumber)), .bl (decide (C = ad.a_BadTurning)), .bl (decide (C = ad.a_OtherNet)), .bl (decide (C = ad.a_BadLooks)), .bl (decide (C = ad.a_TooMany)), .bl (decide (C = ad.a_Against)), .bl (decide (C = ad.a_BadOffers)), .bl (decide (C = ad.a_BadWishes)), .bl (decide (C = ad.a_BadNames)), .bl (decide (C = ad.a_NotThere)), .bl (decide (C = ad.a_Tied)), .bl (decide (C = ad.a_NothingToUndo))]) := upd_same
    generalize upd H16 l (.lst ([V.bl (decide (C = ad.a_BadNet)), .bl (decide (C = ad.a_NotTied)), .bl (decide (C = ad.a_NoPlace)), .bl (decide (C = ad.a_BadTie)), .bl (decide (C = ad.a_Full)), .bl (decide (C = ad.a_Few)), .bl (decide (C = ad.a_BadRing)), .bl (decide (C = ad.a_BadWheels)), .bl (decide (C = ad.a_Crossed)), .bl (decide (C = ad.a_BadLook)), .bl (decide (C = ad.a_NotOff)), .bl (decide (C = ad.a_NoDrawing)), .bl (decide (C = ad.a_BadPlaces)), .bl (decide (C = ad.a_BadTies)), .bl (decide (C = ad.a_BadNumber)), .bl (decide (C = ad.a_BadTurning)), .bl (decide (C = ad.a_OtherNet)), .bl (decide (C = ad.a_BadLooks)), .bl (decide (C = ad.a_TooMany)), .bl (decide (C = ad.a_Against)), .bl (decide (C = ad.a_BadOffers)), .bl (decide (C = ad.a_BadWishes)), .bl (decide (C = ad.a_BadNames)), .bl (decide (C = ad.a_NotThere))] ++ [V.bl (decide (C = ad.a_Tied)), .bl (decide (C = ad.a_NothingToUndo))])) = H17 at s17 l17 ⊢
    have ea17 := err_but l16 s17 ea16
    refine ⟨_, rfl, .inl ⟨rfl, _, SqL.of l17⟩, ?_⟩
    refine ⟨_, rfl, a, C, ad.fI, v, _, _, _, rfl, TE, ea17, .own _, IS ad.a_NothingToRedo (by simp [Adr.cs]), ?_⟩
    refine ⟨_, rfl, a, C, ad.fI, v, _, _, _, rfl, TE, ea17, .own _, IS ad.a_NoTrial (by simp [Adr.cs]), ?_⟩
    refine ⟨by show 2 ≤ sizeLine; decide, fun q9 m9 => ?_⟩
    have s18 : Same H17 (upd H17 q9 (.lst [V.bl (decide (C = ad.a_NothingToRedo)), .bl (decide (C = ad.a_NoTrial))])) := same_new m9
    have r18 : upd H17 q9 (.lst [V.bl (decide (C = ad.a_NothingToRedo)), .bl (decide (C = ad.a_NoTrial))]) q9 = some (.lst [V.bl (decide (C = ad.a_NothingToRedo)), .bl (decide (C = ad.a_NoTrial))]) := upd_same
    generalize upd H17 q9 (.lst [V.bl (decide (C = ad.a_NothingToRedo)), .bl (decide (C = ad.a_NoTrial))]) = H18 at s18 r18 ⊢
    have ea18 := ea17.same s18
    have l18 := s18 _ _ l17
    refine ⟨l, q9, _, _, rfl, rfl, l18, r18, by show 28 ≤ sizeLine; decide, ?_⟩
    have s19 : SameBut l H18 (upd H18 l (.lst ([V.bl (decide (C = ad.a_BadNet)), .bl (decide (C = ad.a_NotTied)), .bl (decide (C = ad.a_NoPlace)), .bl (decide (C = ad.a_BadTie)), .bl (decide (C = ad.a_Full)), .bl (decide (C = ad.a_Few)), .bl (decide (C = ad.a_BadRing)), .bl (decide (C = ad.a_BadWheels)), .bl (decide (C = ad.a_Crossed)), .bl (decide (C = ad.a_BadLook)), .bl (decide (C = ad.a_NotOff)), .bl (decide (C = ad.a_NoDrawing)), .bl (decide (C = ad.a_BadPlaces)), .bl (decide (C = ad.a_BadTies)), .bl (decide (C = ad.a_BadNumber)), .bl (decide (C = ad.a_BadTurning)), .bl (decide (C = ad.a_OtherNet)), .bl (decide (C = ad.a_BadLooks)), .bl (decide (C = ad.a_TooMany)), .bl (decide (C = ad.a_Against)), .bl (decide (C = ad.a_BadOffers)), .bl (decide (C = ad.a_BadWishes)), .bl (decide (C = ad.a_BadNames)), .bl (decide (C = ad.a_NotThere)), .bl (decide (C = ad.a_Tied)), .bl (decide (C = ad.a_NothingToUndo))] ++ [V.bl (decide (C = ad.a_NothingToRedo)), .bl (decide (C = ad.a_NoTrial))]))) := but_upd
    have l19 : upd H18 l (.lst ([V.bl (decide (C = ad.a_BadNet)), .bl (decide (C = ad.a_NotTied)), .bl (decide (C = ad.a_NoPlace)), .bl (decide (C = ad.a_BadTie)), .bl (decide (C = ad.a_Full)), .bl (decide (C = ad.a_Few)), .bl (decide (C = ad.a_BadRing)), .bl (decide (C = ad.a_BadWheels)), .bl (decide (C = ad.a_Crossed)), .bl (decide (C = ad.a_BadLook)), .bl (decide (C = ad.a_NotOff)), .bl (decide (C = ad.a_NoDrawing)), .bl (decide (C = ad.a_BadPlaces)), .bl (decide (C = ad.a_BadTies)), .bl (decide (C = ad.a_BadNumber)), .bl (decide (C = ad.a_BadTurning)), .bl (decide (C = ad.a_OtherNet)), .bl (decide (C = ad.a_BadLooks)), .bl (decide (C = ad.a_TooMany)), .bl (decide (C = ad.a_Against)), .bl (decide (C = ad.a_BadOffers)), .bl (decide (C = ad.a_BadWishes)), .bl (decide (C = ad.a_BadNames)), .bl (decide (C = ad.a_NotThere)), .bl (decide (C = ad.a_Tied)), .bl (decide (C = ad.a_NothingToUndo))] ++ [V.bl (decide (C = ad.a_NothingToRedo)), .bl (decide (C = ad.a_NoTrial))])) l = some (.lst [V.bl (decide (C = ad.a_BadNet)), .bl (decide (C = ad.a_NotTied)), .bl (decide (C = ad.a_NoPlace)), .bl (decide (C = ad.a_BadTie)), .bl (decide (C = ad.a_Full)), .bl (decide (C = ad.a_Few)), .bl (decide (C = ad.a_BadRing)), .bl (decide (C = ad.a_BadWheels)), .bl (decide (C = ad.a_Crossed)), .bl (decide (C = ad.a_BadLook)), .bl (decide (C = ad.a_NotOff)), .bl (decide (C = ad.a_NoDrawing)), .bl (decide (C = ad.a_BadPlaces)), .bl (decide (C = ad.a_BadTies)), .bl (decide (C = ad.a_BadNumber)), .bl (decide (C = ad.a_BadTurning)), .bl (decide (C = ad.a_OtherNet)), .bl (decide (C = ad.a_BadLooks)), .bl (decide (C = ad.a_TooMany)), .bl (decide (C = ad.a_Against)), .bl (decide (C = ad.a_BadOffers)), .bl (decide (C = ad.a_BadWishes)), .bl (decide (C = ad.a_BadNames)), .bl (decide (C = ad.a_NotThere)), .bl (decide (C = ad.a_Tied)), .bl (decide (C = ad.a_NothingToUndo)), .bl (decide (C = ad.a_NothingToRedo)), .bl (decide (C = ad.a_NoTrial))]) := upd_same
    generalize upd H18 l (.lst ([V.bl (decide (C = ad.a_BadNet)), .bl (decide (C = ad.a_NotTied)), .bl (decide (C = ad.a_NoPlace)), .bl (decide (C = ad.a_BadTie)), .bl (decide (C = ad.a_Full)), .bl (decide (C = ad.a_Few)), .bl (decide (C = ad.a_BadRing)), .bl (decide (C = ad.a_BadWheels)), .bl (decide (C = ad.a_Crossed)), .bl (decide (C = ad.a_BadLook)), .bl (decide (C = ad.a_NotOff)), .bl (decide (C = ad.a_NoDrawing)), .bl (decide (C = ad.a_BadPlaces)), .bl (decide (C = ad.a_BadTies)), .bl (decide (C = ad.a_BadNumber)), .bl (decide (C = ad.a_BadTurning)), .bl (decide (C = ad.a_OtherNet)), .bl (decide (C = ad.a_BadLooks)), .bl (decide (C = ad.a_TooMany)), .bl (decide (C = ad.a_Against)), .bl (decide (C = ad.a_BadOffers)), .bl (decide (C = ad.a_BadWishes)), .bl (decide (C = ad.a_BadNames)), .bl (decide (C = ad.a_NotThere)), .bl (decide (C = ad.a_Tied)), .bl (decide (C = ad.a_NothingToUndo))] ++ [V.bl (decide (C = ad.a_NothingToRedo)), .bl (decide (C = ad.a_NoTrial))])) = H19 at s19 l19 ⊢
    have ea19 := err_but l18 s19 ea18
    refine ⟨_, rfl, .inl ⟨rfl, _, SqL.of l19⟩, ?_⟩
    refine ⟨_, rfl, a, C, ad.fI, v, _, _, _, rfl, TE, ea19, .own _, IS ad.a_BadJournal (by simp [Adr.cs]), ?_⟩
    refine ⟨_, rfl, a, C, ad.fI, v, _, _, _, rfl, TE, ea19, .own _, IS ad.a_BadLine (by simp [Adr.cs]), ?_⟩
    refine ⟨by show 2 ≤ sizeLine; decide, fun q10 m10 => ?_⟩
    have s20 : Same H19 (upd H19 q10 (.lst [V.bl (decide (C = ad.a_BadJournal)), .bl (decide (C = ad.a_BadLine))])) := same_new m10
    have r20 : upd H19 q10 (.lst [V.bl (decide (C = ad.a_BadJournal)), .bl (decide (C = ad.a_BadLine))]) q10 = some (.lst [V.bl (decide (C = ad.a_BadJournal)), .bl (decide (C = ad.a_BadLine))]) := upd_same
    generalize upd H19 q10 (.lst [V.bl (decide (C = ad.a_BadJournal)), .bl (decide (C = ad.a_BadLine))]) = H20 at s20 r20 ⊢
    have ea20 := ea19.same s20
    have l20 := s20 _ _ l19
    refine ⟨l, q10, _, _, rfl, rfl, l20, r20, by show 30 ≤ sizeLine; decide, ?_⟩
    have s21 : SameBut l H20 (upd H20 l (.lst ([V.bl (decide (C = ad.a_BadNet)), .bl (decide (C = ad.a_NotTied)), .bl (decide (C = ad.a_NoPlace)), .bl (decide (C = ad.a_BadTie)), .bl (decide (C = ad.a_Full)), .bl (decide (C = ad.a_Few)), .bl (decide (C = ad.a_BadRing)), .bl (decide (C = ad.a_BadWheels)), .bl (decide (C = ad.a_Crossed)), .bl (decide (C = ad.a_BadLook)), .bl (decide (C = ad.a_NotOff)), .bl (decide (C = ad.a_NoDrawing)), .bl (decide (C = ad.a_BadPlaces)), .bl (decide (C = ad.a_BadTies)), .bl (decide (C = ad.a_BadNumber)), .bl (decide (C = ad.a_BadTurning)), .bl (decide (C = ad.a_OtherNet)), .bl (decide (C = ad.a_BadLooks)), .bl (decide (C = ad.a_TooMany)), .bl (decide (C = ad.a_Against)), .bl (decide (C = ad.a_BadOffers)), .bl (decide (C = ad.a_BadWishes)), .bl (decide (C = ad.a_BadNames)), .bl (decide (C = ad.a_NotThere)), .bl (decide (C = ad.a_Tied)), .bl (decide (C = ad.a_NothingToUndo)), .bl (decide (C = ad.a_NothingToRedo)), .bl (decide (C = ad.a_NoTrial))] ++ [V.bl (decide (C = ad.a_BadJournal)), .bl (decide (C = ad.a_BadLine))]))) := but_upd
    have l21 : upd H20 l (.lst ([V.bl (decide (C = ad.a_BadNet)), .bl (decide (C = ad.a_NotTied)), .bl (decide (C = ad.a_NoPlace)), .bl (decide (C = ad.a_BadTie)), .bl (decide (C = ad.a_Full)), .bl (decide (C = ad.a_Few)), .bl (decide (C = ad.a_BadRing)), .bl (decide (C = ad.a_BadWheels)), .bl (decide (C = ad.a_Crossed)), .bl (decide (C = ad.a_BadLook)), .bl (decide (C = ad.a_NotOff)), .bl (decide (C = ad.a_NoDrawing)), .bl (decide (C = ad.a_BadPlaces)), .bl (decide (C = ad.a_BadTies)), .bl (decide (C = ad.a_BadNumber)), .bl (decide (C = ad.a_BadTurning)), .bl (decide (C = ad.a_OtherNet)), .bl (decide (C = ad.a_BadLooks)), .bl (decide (C = ad.a_TooMany)), .bl (decide (C = ad.a_Against)), .bl (decide (C = ad.a_BadOffers)), .bl (decide (C = ad.a_BadWishes)), .bl (decide (C = ad.a_BadNames)), .bl (decide (C = ad.a_NotThere)), .bl (decide (C = ad.a_Tied)), .bl (decide (C = ad.a_NothingToUndo)), .bl (decide (C = ad.a_NothingToRedo)), .bl (decide (C = ad.a_NoTrial))] ++ [V.bl (decide (C = ad.a_BadJournal)), .bl (decide (C = ad.a_BadLine))])) l = some (.lst [V.bl (decide (C = ad.a_BadNet)), .bl (decide (C = ad.a_NotTied)), .bl (decide (C = ad.a_NoPlace)), .bl (decide (C = ad.a_BadTie)), .bl (decide (C = ad.a_Full)), .bl (decide (C = ad.a_Few)), .bl (decide (C = ad.a_BadRing)), .bl (decide (C = ad.a_BadWheels)), .bl (decide (C = ad.a_Crossed)), .bl (decide (C = ad.a_BadLook)), .bl (decide (C = ad.a_NotOff)), .bl (decide (C = ad.a_NoDrawing)), .bl (decide (C = ad.a_BadPlaces)), .bl (decide (C = ad.a_BadTies)), .bl (decide (C = ad.a_BadNumber)), .bl (decide (C = ad.a_BadTurning)), .bl (decide (C = ad.a_OtherNet)), .bl (decide (C = ad.a_BadLooks)), .bl (decide (C = ad.a_TooMany)), .bl (decide (C = ad.a_Against)), .bl (decide (C = ad.a_BadOffers)), .bl (decide (C = ad.a_BadWishes)), .bl (decide (C = ad.a_BadNames)), .bl (decide (C = ad.a_NotThere)), .bl (decide (C = ad.a_Tied)), .bl (decide (C = ad.a_NothingToUndo)), .bl (decide (C = ad.a_NothingToRedo)), .bl (decide (C = ad.a_NoTrial)), .bl (decide (C = ad.a_BadJournal)), .bl (decide (C = ad.a_BadLine))]) := upd_same
    generalize upd H20 l (.lst ([V.bl (decide (C = ad.a_BadNet)), .bl (decide (C = ad.a_NotTied)), .bl (decide (C = ad.a_NoPlace)), .bl (decide (C = ad.a_BadTie)), .bl (decide (C = ad.a_Full)), .bl (decide (C = ad.a_Few)), .bl (decide (C = ad.a_BadRing)), .bl (decide (C = ad.a_BadWheels)), .bl (decide (C = ad.a_Crossed)), .bl (decide (C = ad.a_BadLook)), .bl (decide (C = ad.a_NotOff)), .bl (decide (C = ad.a_NoDrawing)), .bl (decide (C = ad.a_BadPlaces)), .bl (decide (C = ad.a_BadTies)), .bl (decide (C = ad.a_BadNumber)), .bl (decide (C = ad.a_BadTurning)), .bl (decide (C = ad.a_OtherNet)), .bl (decide (C = ad.a_BadLooks)), .bl (decide (C = ad.a_TooMany)), .bl (decide (C = ad.a_Against)), .bl (decide (C = ad.a_BadOffers)), .bl (decide (C = ad.a_BadWishes)), .bl (decide (C = ad.a_BadNames)), .bl (decide (C = ad.a_NotThere)), .bl (decide (C = ad.a_Tied)), .bl (decide (C = ad.a_NothingToUndo)), .bl (decide (C = ad.a_NothingToRedo)), .bl (decide (C = ad.a_NoTrial))] ++ [V.bl (decide (C = ad.a_BadJournal)), .bl (decide (C = ad.a_BadLine))])) = H21 at s21 l21 ⊢
    have ea21 := err_but l20 s21 ea20
    have t21 : SameBut l H21 H21 := fun _ _ _ e => e
    have t20 : SameBut l H20 H21 := s21.trans t21
    have t19 : SameBut l H19 H21 := (Same.but s20).trans t20
    have t18 : SameBut l H18 H21 := s19.trans t19
    have t17 : SameBut l H17 H21 := (Same.but s18).trans t18
    have t16 : SameBut l H16 H21 := s17.trans t17
    have t15 : SameBut l H15 H21 := (Same.but s16).trans t16
    have t14 : SameBut l H14 H21 := s15.trans t15
    have t13 : SameBut l H13 H21 := (Same.but s14).trans t14
    have t12 : SameBut l H12 H21 := s13.trans t13
    have t11 : SameBut l H11 H21 := (Same.but s12).trans t12
    have t10 : SameBut l H10 H21 := s11.trans t11
    have t9 : SameBut l H9 H21 := (Same.but s10).trans t10
    have t8 : SameBut l H8 H21 := s9.trans t9
    have t7 : SameBut l H7 H21 := (Same.but s8).trans t8
    have t6 : SameBut l H6 H21 := s7.trans t7
    have t5 : SameBut l H5 H21 := (Same.but s6).trans t6
    have t4 : SameBut l H4 H21 := s5.trans t5
    have t3 : SameBut l H3 H21 := (Same.but s4).trans t4
    have t2 : SameBut l H2 H21 := s3.trans t3
    have t1 : SameBut l H1 H21 := (Same.but s2).trans t2
    have u0 : Same H H := fun b o e => e
    have S : Same H H21 := fun b o e => t1 b o (ne_of_none (u0 b o e) m0) (s1 b o (u0 b o e))
    exact ⟨_, rfl, k H21 l S l21⟩
end
end K00
namespace K00
open PySem L2 PySem.Spec PyProof.Rows
def valD : List PyData := oddD ++ oddD.map (fun d => .tuple [d, .int 3]) ++ oddD.map (fun d => .list [d]) ++ oddD.map fun d => .dict [(.str "a", d)]
theorem valD_ok : valD.all okShow = true := by decide +kernel
theorem val_ok {d : PyData} (h : d ∈ valD) : okShow d = true := List.all_eq_true.mp valD_ok d h
theorem val_in {d : PyData} (h : d ∈ oddD) : d ∈ valD ∧ PyData.tuple [d, .int 3] ∈ valD ∧ PyData.list [d] ∈ valD ∧ PyData.dict [(.str "a", d)] ∈ valD := by
  unfold valD
  simp only [List.mem_append, List.mem_map]
  exact ⟨.inl (.inl (.inl h)), .inl (.inl (.inr ⟨d, h, rfl⟩)), .inl (.inr ⟨d, h, rfl⟩), .inr ⟨d, h, rfl⟩⟩
theorem shaped30 (ad : Adr) (f : Addr → Bool) : SeqAt.shaped (.list ((ad.cs.map f).map PyData.bool)) = true := by rfl
theorem marks_eq {cs : List Addr} {i : Nat} {C : Addr} (nd : cs.Nodup) (h : cs[i]? = some C) :
    cs.map (fun c => decide (C = c)) = (List.range cs.length).map fun j : Nat => decide (V.int (i : Nat) = V.int (0 + (j : Nat))) := by
  obtain ⟨hi, rfl⟩ := List.getElem?_eq_some_iff.mp h
  refine List.ext_getElem (by simp) fun j h1 h2 => ?_
  have hj : j < cs.length := by simpa using h1
  simp only [List.getElem_map, List.getElem_range]
  by_cases e : i = j
  · subst e
    simp
  · have ne : cs[i] ≠ cs[j] := by
      have pw := List.pairwise_iff_getElem.mp nd
      rcases Nat.lt_or_gt_of_ne e with h | h
      · exact pw i j hi hj h
      · exact (pw j i hj hi h).symm
    rw [decide_eq_false ne, decide_eq_false]
    intro z
    have z2 := V.int.inj z
    omega
theorem paired_at {α β : Type} {F : α → β → Prop} : ∀ {l : List α} {m : List β} {i : Nat} {a : α}, Paired F l m → l[i]? = some a → ∃ b, m[i]? = some b ∧ F a b
  | _, _, _, _, .nil, h => by simp at h
  | _, _, 0, _, .cons r _, h => ⟨_, rfl, (Option.some.inj h) ▸ r⟩
  | _, _, i + 1, _, .cons _ t, h => paired_at (i := i) t h
theorem if_eqF {b : Bool} {A B : Prop} (hb : b = false) (h : B) : if b = true then A else B := by
  rw [if_neg (by rw [hb]; exact Bool.false_ne_true)]
  exact h
theorem if_eqT {b : Bool} {A B : Prop} (hb : b = true) (h : A) : if b = true then A else B := by
  rw [if_pos hb]
  exact h
def spRight : Sp := fun vs H Q _ => ∃ p : Addr, vs = [.ref p] ∧ PotAt H p 0 ∧ ∀ H', SameBut p H H' → Q (.bl true) H'
def spLaw (K : PySem.W.Frag) : Sp := fun vs H Q _ => ∃ (a : Addr) (ns : List Int), vs = [.ref a] ∧ SqL K H a (ns.map V.int) ∧ ∀ H', Q (.bl true) H'
section
variable {P : Program} {w : World} {K : PySem.W.Frag} {mg : Str → Option Value} {base : Heap} {ad : Adr}
theorem sc__law_right : FnScope ["_law_pot_here", "_law_value", "_law_made_here", "_law_spot", "_law_error", "_law_base", "_law_place"] ["_law_pot_here"] (defScope s__law_right) := ⟨rfl, rfl, rfl, by decide +kernel, rfl, by decide +kernel, by decide +kernel⟩
theorem ok__law_right {f : Addr} {fd fdI fd1 fd2 fd3 fd4 : FuncData} (F : Fun K "_law_right" "_law_right" s__law_right f fd) (T : Txt K mg ad)
    (GI : FnOk P w K mg base CX0 1 ad.fI fdI ["self", "value"] (spErrInit K)) (bI : Binds K fdI ["self", "value"] [])
    (G__law_of : FnOk P w K mg base CX0 2 ad.f__law_of fd1 ["_law_pot_here", "_law_some"] spOf) (b__law_of : Binds K fd1 ["_law_pot_here", "_law_some"] [])
    (G__law_odd : FnOk P w K mg base CX0 3 ad.f__law_odd fd2 ["_law_pot_here"] spOdd) (b__law_odd : Binds K fd2 ["_law_pot_here"] [])
    (G__law_made : FnOk P w K mg base CX0 3 ad.f__law_made fd3 ["_law_value"] (spMade ad)) (b__law_made : Binds K fd3 ["_law_value"] [])
    (G__law_marks : FnOk P w K mg base CX0 1 ad.f__law_marks fd4 ["_law_error"] (spMarks ad)) (b__law_marks : Binds K fd4 ["_law_error"] []) :
    FnOkG P w K mg base CX0 4 f fd ["_law_pot_here"] spRight := by
  refine F.okG sc__law_right (fun vs H Q E h => ?_) (fun cdv A outer s H vs Q E gd hr h => ?_)
  · obtain ⟨_, rfl, _⟩ := h
    rfl
  · obtain ⟨p, rfl, hp, k⟩ := h
    have h__law_odd := hr
    have h__law_made := hr
    have h__law_of := hr.mono (show 2 ≤ 3 by decide)
    have h__law_marks := hr.mono (show 1 ≤ 3 by decide)
    have hr2 := hr.mono (show 2 ≤ 3 by decide)
    have gd := gd
    refine ⟨_, (pss_cons (ps_set (i := 1) sc__law_right.nd rfl (Or.inl rfl) (pe_call G__law_of h__law_of (by rfl) T.m__law_of T.k__law_of b__law_of .nil pass0 (pa_cons (pv 0) (pa_cons (pe_lst (pa_cons (pe_call G__law_odd h__law_odd (by rfl) T.m__law_odd T.k__law_odd b__law_odd .nil pass0 (pa_cons (pv 0) pa_nil)) (pa_cons (pe_tup (pa_cons (pe_call G__law_odd h__law_odd (by rfl) T.m__law_odd T.k__law_odd b__law_odd .nil pass0 (pa_cons (pv 0) pa_nil)) (pa_cons pe_int pa_nil))) (pa_cons (pe_lstS (pa_cons (pe_call G__law_odd h__law_odd (by rfl) T.m__law_odd T.k__law_odd b__law_odd .nil pass0 (pa_cons (pv 0) pa_nil)) pa_nil)) (pa_cons (pe_disp (pps_cons pe_str (pe_call G__law_odd h__law_odd (by rfl) T.m__law_odd T.k__law_odd b__law_odd .nil pass0 (pa_cons (pv 0) pa_nil)) pps_nil) (by rfl) (by rfl) (fun z => by cases z) (by decide)) pa_nil))))) pa_nil))))
      (pss_cons (ps_set (i := 2) sc__law_right.nd rfl (Or.inl rfl) (pe_call G__law_made h__law_made (by rfl) T.m__law_made T.k__law_made b__law_made .nil pass0 (pa_cons (pv 1) pa_nil)))
      (pss_cons (ps_for PassesOwn.never rfl (pi_enum (by rfl) T.n_enumerate (pa_cons (pv 2) pa_nil)) (pg_tup (by rfl) (pgs_cons (pg_name (i := 3) sc__law_right.nd rfl (Or.inr rfl)) (pgs_cons (pg_name (i := 4) sc__law_right.nd rfl (Or.inl rfl)) pgs_nil))) (pss_cons (ps_if (PW.pt (pw_or (pt_not (pt_val (pe_callB call_isErr (by rfl) T.n_isinstance (by decide +kernel) (pa_cons (pv 4) (pa_cons (pe_glob (v := .ref _) rfl T.m_DrawError rfl) pa_nil))))) (pw_or1 (pt_not (pt_val (pe_callB call_isErr (by rfl) T.n_isinstance (by decide +kernel) (pa_cons (pv 4) (pa_cons (pe_bltn (v := .ty "ValueError") (by rfl) T.n_ValueError (by decide +kernel) rfl) pa_nil)))))))) (pss_one (ps_ret pe_bl)) pss_nil)
      (pss_one (ps_if (PW.pt (pw_or (pt_cmpR op_ne (pe_callB (call_repr gd hr.units) (by rfl) T.n_repr (by decide +kernel) (pa_cons (pe_errVal (pv 4)) pa_nil)) (pe_callB (call_repr gd hr.units) (by rfl) T.n_repr (by decide +kernel) (pa_cons (pv 1) pa_nil)) (nomark _)) (pw_or1 (pt_cmpR (op_neD hr.units) (pe_call G__law_marks h__law_marks (by rfl) T.m__law_marks T.k__law_marks b__law_marks .nil pass0 (pa_cons (pv 4) pa_nil)) (pe_lc (own := [("_law_place", 6)]) (g := gName 6) rfl sc__law_right.nd (pi_range1 (by rfl) T.n_range (pa_cons (pe_callB call_len_seq (by rfl) T.n_len (by decide +kernel) (pa_cons (pv 2) pa_nil)) pa_nil)) (blkOk_by (N := ["_law_pot_here", "_law_value", "_law_made_here", "_law_spot", "_law_error", "_law_base", "_law_place"]) (sc := defScope s__law_right) (by decide +kernel)) (fun _ _ _ _ _ => pg_name (i := 6) sc__law_right.nd rfl (Or.inl rfl)) (fun _ _ _ _ _ => pts_nil) (fun _ _ _ _ _ => (pe_cmpR op_eq (pv 3) (pv 6) (nomark _)))) (nomark _))))) (pss_one (ps_ret pe_bl)) pss_nil))))
      (pss_cons (ps_set (i := 5) sc__law_right.nd rfl (Or.inl rfl) (pe_err T.c_DrawError T.tI GI hr2 bI (by rfl) T.m_DrawError (pa_cons (pv 1) pa_nil)))
      (pss_one (ps_ret (pe_and (pe_cmpR op_eq (pe_callB (call_repr gd hr.units) (by rfl) T.n_repr (by decide +kernel) (pa_cons (pe_errVal (pv 5)) pa_nil)) (pe_callB (call_repr gd hr.units) (by rfl) T.n_repr (by decide +kernel) (pa_cons (pv 1) pa_nil)) (nomark _)) (pe_and (pe_callB call_isErr (by rfl) T.n_isinstance (by decide +kernel) (pa_cons (pv 5) (pa_cons (pe_bltn (v := .ty "ValueError") (by rfl) T.n_ValueError (by decide +kernel) rfl) pa_nil))) (pe_one (pe_not (pe_callB (cr_any rfl) (by rfl) T.n_any (by decide +kernel) (pa_cons (pe_call G__law_marks h__law_marks (by rfl) T.m__law_marks T.k__law_marks b__law_marks .nil pass0 (pa_cons (pv 5) pa_nil)) pa_nil)))))))))))), ?_⟩
    refine ⟨_, rfl, _, rfl, p, 0, rfl, hp, by omega, fun H1 x1 d1 b1 pa1 o1 q1 => ?_⟩
    refine ⟨_, rfl, p, 1, rfl, pa1, by omega, fun H2 x2 d2 b2 pa2 o2 q2 => ⟨by show 2 ≤ sizeLine; decide, fun t nt => ?_⟩⟩
    have s3 := same_new (o := .tup [x2, .int 3]) nt
    have f3 : upd H2 t (.tup [x2, .int 3]) t = some (.tup [x2, .int 3]) := upd_same
    generalize upd H2 t (.tup [x2, .int 3]) = H3 at s3 f3 ⊢
    refine ⟨_, rfl, p, 2, rfl, pa2.same s3, by omega, fun H4 x3 d3 b4 pa4 o3 q3 => ⟨by show 1 ≤ sizeLine; decide, fun l nl yl => ?_⟩⟩
    have s5 := same_new (o := .lst [x3]) nl
    have f5 : upd H4 l (.lst [x3]) l = some (.lst [x3]) := upd_same
    generalize upd H4 l (.lst [x3]) = H5 at s5 f5 ⊢
    intro dd nd
    have s6 := same_new (o := .dK []) nd
    refine ⟨_, rfl, p, 3, rfl, (pa4.same s5).same s6, by omega, fun H7 x4 d4 b7 pa7 o4 q4 => ?_⟩
    obtain ⟨p5, hp5⟩ := potAt_len (pa4.same s5)
    have npd : p ≠ dd := ne_of_none hp5 nd
    have f7 : H7 dd = some (.dK []) := b7 _ _ npd.symm upd_same
    refine ⟨f7, [(Sum.inr "a", x4)], rfl, by show 1 ≤ 15; decide, ?_⟩
    have b58 : SameBut p H5 (upd H7 dd (.dK [((Sum.inr "a" : Key), x4)])) := but_new nd b7
    have f8 : upd H7 dd (.dK [((Sum.inr "a" : Key), x4)]) dd = some (.dK [((Sum.inr "a" : Key), x4)]) := upd_same
    have pa8 : PotAt (upd H7 dd (.dK [((Sum.inr "a" : Key), x4)])) p 4 := by
      obtain ⟨o, a, b, e, r⟩ := pa7
      exact ⟨o, a, b, by rw [upd_ne npd]; exact e, r⟩
    have i4 : Same (fresh (upd H5 dd (.dK [])) H7) (fresh (upd H5 dd (.dK [])) (upd H7 dd (.dK [((Sum.inr "a" : Key), x4)]))) := fun b o e => by
      obtain ⟨n, e1⟩ := of_fresh e
      have nb : b ≠ dd := fun z => by
        rw [z, upd_same] at n
        cases n
      rw [fresh_at n, upd_ne nb]
      exact e1
    rw [show mergeK [] [((Sum.inr "a" : Key), x4)] = [((Sum.inr "a" : Key), x4)] from rfl]
    generalize upd H7 dd (.dK [((Sum.inr "a" : Key), x4)]) = H8 at b58 f8 pa8 i4 ⊢
    refine ⟨by show 4 ≤ sizeLine; decide, fun L nL => ?_⟩
    have s9 := same_new (o := .lst [x1, .ref t, .ref l, .ref dd]) nL
    have f9 : upd H8 L (.lst [x1, .ref t, .ref l, .ref dd]) L = some (.lst [x1, .ref t, .ref l, .ref dd]) := upd_same
    generalize upd H8 L (.lst [x1, .ref t, .ref l, .ref dd]) = H9 at s9 f9 ⊢
    obtain ⟨p8, hp8⟩ := potAt_len pa8
    have npL : p ≠ L := ne_of_none hp8 nL
    refine ⟨p, L, 4, _, rfl, pa8.same s9, by omega, npL, f9, by show 1 ≤ 4; decide, by show 4 ≤ 1000; decide, fun Hv x bv pav hx => ?_⟩
    have B8 : SameBut p H8 Hv := (Same.but s9).trans bv
    have B5 : SameBut p H5 Hv := b58.trans B8
    have B4 : SameBut p H4 Hv := (Same.but s5).trans B5
    have B3 : SameBut p H3 Hv := b4.trans B4
    have B2 : SameBut p H2 Hv := (Same.but s3).trans B3
    have B1 : SameBut p H1 Hv := b2.trans B2
    have B0 : SameBut p H Hv := b1.trans B1
    obtain ⟨p2, hp2⟩ := potAt_len pa2
    obtain ⟨p4, hp4⟩ := potAt_len pa4
    have ht : Hv t = some (.tup [x2, .int 3]) := B3 _ _ (ne_of_none hp2 nt).symm f3
    have hl : Hv l = some (.lst [x3]) := B5 _ _ (ne_of_none hp4 nl).symm f5
    have hd : Hv dd = some (.dK [((Sum.inr "a" : Key), x4)]) := B8 _ _ npd.symm f8
    have E1 : Dq Hv x1 d1 := q1.same (fresh_but (potAt_len hp) B1)
    have E2 : Dq Hv x2 d2 := q2.same (fresh_but (potAt_len pa1) B2)
    have E3 : Dq Hv x3 d3 := q3.same (fresh_but (potAt_len (pa2.same s3)) B4)
    have E4 : Dq Hv x4 d4 := (q4.same i4).same (fresh_but (potAt_len ((pa4.same s5).same s6)) B8)
    have dq : ∃ d, d ∈ valD ∧ Dq Hv x d := by
      simp only [List.mem_cons, List.not_mem_nil, or_false] at hx
      rcases hx with rfl | rfl | rfl | rfl
      · exact ⟨_, (val_in o1).1, E1⟩
      · exact ⟨_, (val_in o2).2.1, .tup ht (.cons E2 (.cons (.int 3) .nil))⟩
      · exact ⟨_, (val_in o3).2.2.1, .lst yl hl (.cons E3 .nil)⟩
      · exact ⟨_, (val_in o4).2.2.2, .dic hd (.cons (k := Sum.inr "a") E4 .nil)⟩
    obtain ⟨d, dv, Ev⟩ := dq
    have ok := val_ok dv
    refine ⟨_, rfl, x, rfl, fun Hm L2 es sm hL hes => ?_⟩
    have len30 : es.length = ad.cs.length := Paired.length hes
    have mem0 : ad.a_DrawError ∈ ad.a_DrawError :: ad.cs := List.mem_cons_self
    refine ⟨_, rfl, L2, es.map V.ref, rfl, SqL.of hL, for_enumL (xs := es.map V.ref) (fun i σ H' => ∃ s3 s4, σ = [some (.ref p), some x, some (.ref L2), s3, s4, none, none] ∧ Same Hm H')
      ⟨none, none, rfl, fun _ _ e => e⟩ (fun i σ H' _ ⟨_, _, _, z⟩ => z.seq (SqL.of hL)) ?_ ?_⟩
    · rintro i y Tt σ H' hi nT ⟨s3', s4', rfl, z⟩
      obtain ⟨e, he, rfl⟩ : ∃ e, es[i]? = some e ∧ y = V.ref e := by
        rw [List.getElem?_map] at hi
        cases q : es[i]? with
        | none =>
          rw [q] at hi
          cases hi
        | some e =>
          rw [q] at hi
          exact ⟨e, rfl, (Option.some.inj hi).symm⟩
      obtain ⟨C, hC, ee⟩ := paired_at hes he
      have mC : C ∈ ad.a_DrawError :: ad.cs := List.mem_cons_of_mem _ (List.mem_of_getElem? hC)
      have sT := same_new (o := .tup [.int (i : Nat), .ref e]) nT
      have fT : upd H' Tt (.tup [.int (i : Nat), .ref e]) Tt = some (.tup [.int (i : Nat), .ref e]) := upd_same
      generalize upd H' Tt (.tup [.int (i : Nat), .ref e]) = H2 at sT fT ⊢
      have z2 : Same Hm H2 := SameT z sT
      have ea : ErrAt H2 e C x := ee.same z2
      have Dx : Dq H2 x d := (Ev.same sm).same z2
      have TE := errAll T C mC
      refine ⟨Tt, _, rfl, SqT.of fT, rfl, _, _, rfl, _, _, rfl, rfl, ?_⟩
      refine ⟨_, rfl, e, C, ad.fI, x, _, _, true, rfl, TE, ea, .own _, (T.isB C mC).1, true, rfl, if_eqF rfl ?_⟩
      refine ⟨_, rfl, e, C, ad.fI, x, _, _, true, rfl, TE, ea, .ty _, (T.isB C mC).2, true, rfl, if_eqF rfl ?_⟩
      refine ⟨_, rfl, e, C, ad.fI, x, rfl, TE, ea, x, d, rfl, Dx, ok, _, rfl, x, d, rfl, Dx, ok, rfl, _, rfl, if_eqF (by simp) ?_⟩
      refine ⟨_, rfl, e, C, x, rfl, mC, ea, fun H3 m sM hm => ?_⟩
      refine ⟨_, rfl, L2, _, rfl, .inl (SqL.of (sM _ _ (z2 _ _ hL))), _, rfl, by omega, ?_, fun Dl nD => ?_⟩
      · rw [List.length_map, len30]
        show ((30 : Nat) : Int) < 2 ^ 62
        decide
      refine lc_range (lo := 0) (fun j Hc => Same H3 Hc ∧ Hc Dl = some (.lst ((List.range j).map fun q : Nat => V.bl (decide (V.int (i : Nat) = V.int (0 + (q : Nat)))))))
        ⟨same_new nD, upd_same⟩ ?_ ?_
      · rintro q Hc hq ⟨sc, hc⟩
        refine ⟨rfl, _, rfl, _, rfl, rfl, _, hc, ?_, fun b o eb => ?_, ?_⟩
        · rw [List.length_map, List.length_range]
          have : q < 30 := by
            rw [List.length_map, len30] at hq
            exact hq
          exact Nat.lt_of_lt_of_le this (by decide)
        · rw [upd_ne (ne_of_none eb nD)]
          exact sc b o eb
        · rw [upd_same, List.range_succ, List.map_append]
          rfl
      · rintro Hc ⟨sc, hc⟩
        have eq : (List.range ((((es.map V.ref).length : Nat) : Int)).toNat).map (fun q : Nat => V.bl (decide (V.int (i : Nat) = V.int (0 + (q : Nat))))) = (ad.cs.map fun c => decide (C = c)).map V.bl := by
          rw [marks_eq (List.nodup_cons.mp T.nd).2 hC, List.map_map, Int.toNat_natCast, List.length_map, len30]
          rfl
        rw [eq] at hc
        refine ⟨_, _, .lst (SqL.of (sc _ _ hm)) (dp_bools _), .lst (SqL.of hc) (dp_bools _), shaped30 ad _, shaped30 ad _, _, rfl, if_eqF ?_ ?_⟩
        · rw [SeqAt.eqv_refl _ (SeqAt.canLay_of_shaped (shaped30 ad _))]
          rfl
        · exact ⟨_, _, rfl, SameT z2 (SameT sM sc)⟩
    · rintro σ H' ⟨s3', s4', rfl, z⟩
      refine ⟨_, rfl, x, rfl, fun b H2 nb s2 eb => ?_⟩
      have z2 : Same Hm H2 := SameT z s2
      have Dx : Dq H2 x d := (Ev.same sm).same z2
      refine ⟨_, rfl, b, ad.a_DrawError, ad.fI, x, rfl, T.c_DrawError, eb, x, d, rfl, Dx, ok, _, rfl, x, d, rfl, Dx, ok, rfl, _, rfl, if_eqT (by simp) ?_⟩
      refine ⟨_, rfl, b, ad.a_DrawError, ad.fI, x, _, _, true, rfl, T.c_DrawError, eb, .ty _, (T.isB _ mem0).2, true, rfl, iteT ?_⟩
      refine ⟨_, rfl, b, ad.a_DrawError, x, rfl, mem0, eb, fun H3 m sM hm => ⟨m, _, rfl, SqL.of hm, _, rfl, ?_⟩⟩
      have an : (ad.cs.map fun c => decide (ad.a_DrawError = c)).any id = false := by
        rw [List.any_map, List.any_eq_false]
        intro c hc
        have ne : ad.a_DrawError ≠ c := fun z => (List.nodup_cons.mp T.nd).1 (z ▸ hc)
        simpa using ne
      rw [an]
      exact k _ (B0.trans (Same.but (SameT sm (SameT z2 sM))))
theorem sc_law : FnScope ["_law_script", "_law_place"] ["_law_script"] (defScope s_law) := ⟨rfl, rfl, rfl, by decide +kernel, rfl, by decide +kernel, by decide +kernel⟩
theorem ok_law {f : Addr} {fd fd1 fd2 fd3 : FuncData} (F : Fun K "law" "law" s_law f fd) (T : Txt K mg ad)
    (G__law_right : FnOkG P w K mg base CX0 4 ad.f__law_right fd1 ["_law_pot_here"] spRight) (b__law_right : Binds K fd1 ["_law_pot_here"] [])
    (G__law_pot : FnOk P w K mg base CX0 1 ad.f__law_pot fd2 ["_law_script", "_law_place"] (spPot K)) (b__law_pot : Binds K fd2 ["_law_script", "_law_place"] [])
    (G__law_cells : FnOk P w K mg base CX0 1 ad.f__law_cells fd3 ["_law_script", "_law_most"] (spCells K)) (b__law_cells : Binds K fd3 ["_law_script", "_law_most"] []) :
    FnOkG P w K mg base CX0 5 f fd ["_law_script"] (spLaw K) := by
  refine F.okG sc_law (fun vs H Q E h => ?_) (fun cdv A outer s H vs Q E gd hr h => ?_)
  · obtain ⟨_, _, rfl, _⟩ := h
    rfl
  · obtain ⟨a, ns, rfl, hS, k⟩ := h
    have h__law_right := hr
    have h__law_pot := hr.mono (show 1 ≤ 4 by decide)
    have h__law_cells := hr.mono (show 1 ≤ 4 by decide)
    refine ⟨_, (pss_one (ps_ret (pe_callB (cr_all rfl) (by rfl) T.n_all (by decide +kernel) (pa_cons (pe_lc (own := [("_law_place", 1)]) (g := gName 1) rfl sc_law.nd (pi_list (pe_call G__law_cells h__law_cells (by rfl) T.m__law_cells T.k__law_cells b__law_cells .nil pass0 (pa_cons (pv 0) (pa_cons pe_int pa_nil)))) (blkOk_by (N := ["_law_script", "_law_place"]) (sc := defScope s_law) (by decide +kernel)) (fun _ _ _ _ _ => pg_name (i := 1) sc_law.nd rfl (Or.inl rfl)) (fun _ _ _ _ _ => pts_nil) (fun _ _ _ _ _ => (pe_callG G__law_right gd h__law_right (by rfl) T.m__law_right T.k__law_right b__law_right .nil pass0 (pa_cons (pe_call G__law_pot h__law_pot (by rfl) T.m__law_pot T.k__law_pot b__law_pot .nil pass0 (pa_cons (pv 0) (pa_cons (pv 1) pa_nil))) pa_nil)))) pa_nil)))), ?_⟩
    refine ⟨_, rfl, a, 4, ns, rfl, hS, by decide, by decide, fun H1 c n s1 hn hc => ?_⟩
    refine ⟨c, rfl, ⟨_, SqL.of hc⟩, fun D nD => ?_⟩
    refine lc_list (K := K) (xs := (List.range n).map fun i : Nat => V.int i) (fun j Hc => Same H1 Hc ∧ Hc D = some (.lst ((List.replicate j true).map V.bl))) ⟨same_new nD, upd_same⟩
      (fun j Hc _ z => z.1.seq (SqL.of hc)) ?_ ?_
    · rintro j y Hc hj ⟨sc, hD⟩
      obtain ⟨rfl, hlt⟩ : y = V.int (j : Nat) ∧ j < n := by
        rw [List.getElem?_map] at hj
        cases q : (List.range n)[j]? with
        | none =>
          rw [q] at hj
          cases hj
        | some i =>
          rw [q] at hj
          obtain ⟨h1, h2⟩ := List.getElem?_eq_some_iff.mp q
          rw [List.getElem_range] at h2
          rw [List.length_range] at h1
          exact ⟨by rw [h2]; exact (Option.some.inj hj).symm, h1⟩
      refine ⟨rfl, _, rfl, _, rfl, a, _, ns, rfl, sc.seq (s1.seq hS), by omega, by omega, fun H2 p s2 np pa => ?_⟩
      refine ⟨p, rfl, pa, fun H3 sb => ?_⟩
      have hp3 : ∀ b o, Hc b = some o → H3 b = some o := fun b o e => sb b o (ne_of_none e np) (s2 b o e)
      refine ⟨_, hp3 _ _ hD, ?_, fun b o eb => ?_, ?_⟩
      · rw [List.length_map, List.length_replicate]
        exact Nat.lt_of_lt_of_le (Nat.lt_of_lt_of_le hlt hn) (by decide)
      · rw [upd_ne (ne_of_none eb nD)]
        exact hp3 b o (sc b o eb)
      · rw [upd_same, List.replicate_succ', List.map_append]
        rfl
    · rintro Hc ⟨sc, hD⟩
      refine ⟨D, _, rfl, SqL.of hD, ?_⟩
      have al : (List.replicate ((List.range n).map fun i : Nat => V.int i).length true).all id = true := by
        rw [List.all_eq_true]
        intro b hb
        exact (List.mem_replicate.mp hb).2
      rw [al]
      exact k _
end
end K00
namespace K00
open PySem L2 PySem.Spec PyProof.Rows
def errOk (K : PySem.W.Frag) (fI C : Addr) : Bool :=
  (PySem.W.findIn K (.ref C) "__setattr__" == some (some (.builtin "object.__setattr__"))) && (PySem.W.subIn K (.ref C) (.type "BaseException") == some true) &&
  (PySem.W.typeIn K (.ref C) == some (.type "type")) && PySem.W.keepIn K (.ref C) && (PySem.W.findIn K (.ref C) "value" == some none) &&
  (PySem.W.findIn K (.ref C) "__init__" == some (some (.ref fI))) &&
  (PySem.W.findIn K (.ref C) "__getattribute__" == some (some (.builtin "BaseException.__getattribute__"))) && (PySem.W.findIn K (.ref C) "__getattr__" == some none) &&
  (PySem.W.findIn K (.ref C) "__class__" == some (some (.builtin "object.__class__"))) && PySem.W.hasDictIn K C && (PySem.W.mroIn K C (.type "object") == some true) &&
  (PySem.W.specialIn K (.builtin "object.__class__") "__get__" == some (some (.builtin "getset_descriptor.__get__"))) && (PySem.W.takesIn K (.builtin "object.__class__") == some true)
def isTab (K : PySem.W.Frag) (D : Addr) (cs : List Addr) : Bool := (D :: cs).all fun C => (PySem.W.kitOne K (.ref C) (.ref D) == some true) &&
  (PySem.W.kitOne K (.ref C) (.type "ValueError") == some true) && cs.all fun c => PySem.W.kitOne K (.ref C) (.ref c) == some (decide (C = c))
theorem err_mk {K : PySem.W.Frag} {fI C N : Addr} {nm q : Str} {bs bm : List Value} {sn : List Str} {sub : List Value} {ab : Bool} {col : Option Bool} {dd : Option Addr} {m0 m1 m2 m3 m5 : Option Value}
    (xL : K.lookup C = some (excClassObj nm q C N bs bm true sn sub ab col dd m0 m1 m2 m3 m5 "ValueError.__new__")) (rb : PySem.HandSPX.refsVE bm = true) (e : errOk K fI C = true) : ErrC K fI C := by
  unfold errOk at e
  simp only [Bool.and_eq_true, beq_iff_eq] at e
  obtain ⟨⟨⟨⟨⟨⟨⟨⟨⟨⟨⟨⟨e1, e2⟩, e3⟩, e4⟩, e5⟩, e6⟩, e7⟩, e8⟩, e9⟩, e10⟩, e11⟩, e12⟩, e13⟩ := e
  exact ⟨⟨⟨nm, q, N, bs, bm, sn, sub, ab, col, dd, m0, m1, m2, m3, m5, xL, rb⟩, e1, e2, e3, e4⟩, e5, e6, e7, e8, e9, e10, e11, e12, e13⟩
theorem tab_mk {K : PySem.W.Frag} {D : Addr} {cs : List Addr} (e : isTab K D cs = true) :
    (∀ C ∈ D :: cs, PySem.W.kitOne K (.ref C) (.ref D) = some true ∧ PySem.W.kitOne K (.ref C) (.type "ValueError") = some true) ∧
    (∀ C ∈ D :: cs, ∀ c ∈ cs, PySem.W.kitOne K (.ref C) (.ref c) = some (decide (C = c))) := by
  unfold isTab at e
  rw [List.all_eq_true] at e
  refine ⟨fun C h => ?_, fun C h c hc => ?_⟩
  · have z := e C h
    simp only [Bool.and_eq_true, beq_iff_eq] at z
    exact z.1
  · have z := e C h
    simp only [Bool.and_eq_true, beq_iff_eq, List.all_eq_true] at z
    exact z.2 c hc

theorem all_mk {P : Program} {w : World} {K : PySem.W.Frag} {h : Heap} {mg : Str → Option Value} {fa : Addr} (X : K.In h) (G : h.Ns mainGlobals mg) (hfa : mg "law" = some (.ref fa))
    {a_DrawError a_BadNet a_NotTied a_NoPlace a_BadTie a_Full a_Few a_BadRing a_BadWheels a_Crossed a_BadLook a_NotOff a_NoDrawing a_BadPlaces a_BadTies a_BadNumber a_BadTurning a_OtherNet a_BadLooks a_TooMany a_Against a_BadOffers a_BadWishes a_BadNames a_NotThere a_Tied a_NothingToUndo a_NothingToRedo a_NoTrial a_BadJournal a_BadLine fI f__law_pot f__law_take f__law_of f__law_cells f__law_odd f__law_made f__law_marks f__law_right f_law : Addr}
    {nm_DrawError q_DrawError : Str} {N_DrawError : Addr} {bs_DrawError : List Value} {sn_DrawError : List Str} {sub_DrawError : List Value} {ab_DrawError : Bool} {col_DrawError : Option Bool} {dd_DrawError : Option Addr} {u0_DrawError u1_DrawError u2_DrawError u3_DrawError u5_DrawError : Option Value}
    {nm_BadNet q_BadNet : Str} {N_BadNet : Addr} {bs_BadNet : List Value} {sn_BadNet : List Str} {sub_BadNet : List Value} {ab_BadNet : Bool} {col_BadNet : Option Bool} {dd_BadNet : Option Addr} {u0_BadNet u1_BadNet u2_BadNet u3_BadNet u5_BadNet : Option Value}
    {nm_NotTied q_NotTied : Str} {N_NotTied : Addr} {bs_NotTied : List Value} {sn_NotTied : List Str} {sub_NotTied : List Value} {ab_NotTied : Bool} {col_NotTied : Option Bool} {dd_NotTied : Option Addr} {u0_NotTied u1_NotTied u2_NotTied u3_NotTied u5_NotTied : Option Value}
    {nm_NoPlace q_NoPlace : Str} {N_NoPlace : Addr} {bs_NoPlace : List Value} {sn_NoPlace : List Str} {sub_NoPlace : List Value} {ab_NoPlace : Bool} {col_NoPlace : Option Bool} {dd_NoPlace : Option Addr} {u0_NoPlace u1_NoPlace u2_NoPlace u3_NoPlace u5_NoPlace : Option Value}
    {nm_BadTie q_BadTie : Str} {N_BadTie : Addr} {bs_BadTie : List Value} {sn_BadTie : List Str} {sub_BadTie : List Value} {ab_BadTie : Bool} {col_BadTie : Option Bool} {dd_BadTie : Option Addr} {u0_BadTie u1_BadTie u2_BadTie u3_BadTie u5_BadTie : Option Value}
    {nm_Full q_Full : Str} {N_Full : Addr} {bs_Full : List Value} {sn_Full : List Str} {sub_Full : List Value} {ab_Full : Bool} {col_Full : Option Bool} {dd_Full : Option Addr} {u0_Full u1_Full u2_Full u3_Full u5_Full : Option Value}
    {nm_Few q_Few : Str} {N_Few : Addr} {bs_Few : List Value} {sn_Few : List Str} {sub_Few : List Value} {ab_Few : Bool} {col_Few : Option Bool} {dd_Few : Option Addr} {u0_Few u1_Few u2_Few u3_Few u5_Few : Option Value}
    {nm_BadRing q_BadRing : Str} {N_BadRing : Addr} {bs_BadRing : List Value} {sn_BadRing : List Str} {sub_BadRing : List Value} {ab_BadRing : Bool} {col_BadRing : Option Bool} {dd_BadRing : Option Addr} {u0_BadRing u1_BadRing u2_BadRing u3_BadRing u5_BadRing : Option Value}
    {nm_BadWheels q_BadWheels : Str} {N_BadWheels : Addr} {bs_BadWheels : List Value} {sn_BadWheels : List Str} {sub_BadWheels : List Value} {ab_BadWheels : Bool} {col_BadWheels : Option Bool} {dd_BadWheels : Option Addr} {u0_BadWheels u1_BadWheels u2_BadWheels u3_BadWheels u5_BadWheels : Option Value}
    {nm_Crossed q_Crossed : Str} {N_Crossed : Addr} {bs_Crossed : List Value} {sn_Crossed : List Str} {sub_Crossed : List Value} {ab_Crossed : Bool} {col_Crossed : Option Bool} {dd_Crossed : Option Addr} {u0_Crossed u1_Crossed u2_Crossed u3_Crossed u5_Crossed : Option Value}
    {nm_BadLook q_BadLook : Str} {N_BadLook : Addr} {bs_BadLook : List Value} {sn_BadLook : List Str} {sub_BadLook : List Value} {ab_BadLook : Bool} {col_BadLook : Option Bool} {dd_BadLook : Option Addr} {u0_BadLook u1_BadLook u2_BadLook u3_BadLook u5_BadLook : Option Value}
    {nm_NotOff q_NotOff : Str} {N_NotOff : Addr} {bs_NotOff : List Value} {sn_NotOff : List Str} {sub_NotOff : List Value} {ab_NotOff : Bool} {col_NotOff : Option Bool} {dd_NotOff : Option Addr} {u0_NotOff u1_NotOff u2_NotOff u3_NotOff u5_NotOff : Option Value}
    {nm_NoDrawing q_NoDrawing : Str} {N_NoDrawing : Addr} {bs_NoDrawing : List Value} {sn_NoDrawing : List Str} {sub_NoDrawing : List Value} {ab_NoDrawing : Bool} {col_NoDrawing : Option Bool} {dd_NoDrawing : Option Addr} {u0_NoDrawing u1_NoDrawing u2_NoDrawing u3_NoDrawing u5_NoDrawing : Option Value}
    {nm_BadPlaces q_BadPlaces : Str} {N_BadPlaces : Addr} {bs_BadPlaces : List Value} {sn_BadPlaces : List Str} {sub_BadPlaces : List Value} {ab_BadPlaces : Bool} {col_BadPlaces : Option Bool} {dd_BadPlaces : Option Addr} {u0_BadPlaces u1_BadPlaces u2_BadPlaces u3_BadPlaces u5_BadPlaces : Option Value}
    {nm_BadTies q_BadTies : Str} {N_BadTies : Addr} {bs_BadTies : List Value} {sn_BadTies : List Str} {sub_BadTies : List Value} {ab_BadTies : Bool} {col_BadTies : Option Bool} {dd_BadTies : Option Addr} {u0_BadTies u1_BadTies u2_BadTies u3_BadTies u5_BadTies : Option Value}
    {nm_BadNumber q_BadNumber : Str} {N_BadNumber : Addr} {bs_BadNumber : List Value} {sn_BadNumber : List Str} {sub_BadNumber : List Value} {ab_BadNumber : Bool} {col_BadNumber : Option Bool} {dd_BadNumber : Option Addr} {u0_BadNumber u1_BadNumber u2_BadNumber u3_BadNumber u5_BadNumber : Option Value}
    {nm_BadTurning q_BadTurning : Str} {N_BadTurning : Addr} {bs_BadTurning : List Value} {sn_BadTurning : List Str} {sub_BadTurning : List Value} {ab_BadTurning : Bool} {col_BadTurning : Option Bool} {dd_BadTurning : Option Addr} {u0_BadTurning u1_BadTurning u2_BadTurning u3_BadTurning u5_BadTurning : Option Value}
    {nm_OtherNet q_OtherNet : Str} {N_OtherNet : Addr} {bs_OtherNet : List Value} {sn_OtherNet : List Str} {sub_OtherNet : List Value} {ab_OtherNet : Bool} {col_OtherNet : Option Bool} {dd_OtherNet : Option Addr} {u0_OtherNet u1_OtherNet u2_OtherNet u3_OtherNet u5_OtherNet : Option Value}
    {nm_BadLooks q_BadLooks : Str} {N_BadLooks : Addr} {bs_BadLooks : List Value} {sn_BadLooks : List Str} {sub_BadLooks : List Value} {ab_BadLooks : Bool} {col_BadLooks : Option Bool} {dd_BadLooks : Option Addr} {u0_BadLooks u1_BadLooks u2_BadLooks u3_BadLooks u5_BadLooks : Option Value}
    {nm_TooMany q_TooMany : Str} {N_TooMany : Addr} {bs_TooMany : List Value} {sn_TooMany : List Str} {sub_TooMany : List Value} {ab_TooMany : Bool} {col_TooMany : Option Bool} {dd_TooMany : Option Addr} {u0_TooMany u1_TooMany u2_TooMany u3_TooMany u5_TooMany : Option Value}
    {nm_Against q_Against : Str} {N_Against : Addr} {bs_Against : List Value} {sn_Against : List Str} {sub_Against : List Value} {ab_Against : Bool} {col_Against : Option Bool} {dd_Against : Option Addr} {u0_Against u1_Against u2_Against u3_Against u5_Against : Option Value}
    {nm_BadOffers q_BadOffers : Str} {N_BadOffers : Addr} {bs_BadOffers : List Value} {sn_BadOffers : List Str} {sub_BadOffers : List Value} {ab_BadOffers : Bool} {col_BadOffers : Option Bool} {dd_BadOffers : Option Addr} {u0_BadOffers u1_BadOffers u2_BadOffers u3_BadOffers u5_BadOffers : Option Value}
    {nm_BadWishes q_BadWishes : Str} {N_BadWishes : Addr} {bs_BadWishes : List Value} {sn_BadWishes : List Str} {sub_BadWishes : List Value} {ab_BadWishes : Bool} {col_BadWishes : Option Bool} {dd_BadWishes : Option Addr} {u0_BadWishes u1_BadWishes u2_BadWishes u3_BadWishes u5_BadWishes : Option Value}
    {nm_BadNames q_BadNames : Str} {N_BadNames : Addr} {bs_BadNames : List Value} {sn_BadNames : List Str} {sub_BadNames : List Value} {ab_BadNames : Bool} {col_BadNames : Option Bool} {dd_BadNames : Option Addr} {u0_BadNames u1_BadNames u2_BadNames u3_BadNames u5_BadNames : Option Value}
    {nm_NotThere q_NotThere : Str} {N_NotThere : Addr} {bs_NotThere : List Value} {sn_NotThere : List Str} {sub_NotThere : List Value} {ab_NotThere : Bool} {col_NotThere : Option Bool} {dd_NotThere : Option Addr} {u0_NotThere u1_NotThere u2_NotThere u3_NotThere u5_NotThere : Option Value}
    {nm_Tied q_Tied : Str} {N_Tied : Addr} {bs_Tied : List Value} {sn_Tied : List Str} {sub_Tied : List Value} {ab_Tied : Bool} {col_Tied : Option Bool} {dd_Tied : Option Addr} {u0_Tied u1_Tied u2_Tied u3_Tied u5_Tied : Option Value}
    {nm_NothingToUndo q_NothingToUndo : Str} {N_NothingToUndo : Addr} {bs_NothingToUndo : List Value} {sn_NothingToUndo : List Str} {sub_NothingToUndo : List Value} {ab_NothingToUndo : Bool} {col_NothingToUndo : Option Bool} {dd_NothingToUndo : Option Addr} {u0_NothingToUndo u1_NothingToUndo u2_NothingToUndo u3_NothingToUndo u5_NothingToUndo : Option Value}
    {nm_NothingToRedo q_NothingToRedo : Str} {N_NothingToRedo : Addr} {bs_NothingToRedo : List Value} {sn_NothingToRedo : List Str} {sub_NothingToRedo : List Value} {ab_NothingToRedo : Bool} {col_NothingToRedo : Option Bool} {dd_NothingToRedo : Option Addr} {u0_NothingToRedo u1_NothingToRedo u2_NothingToRedo u3_NothingToRedo u5_NothingToRedo : Option Value}
    {nm_NoTrial q_NoTrial : Str} {N_NoTrial : Addr} {bs_NoTrial : List Value} {sn_NoTrial : List Str} {sub_NoTrial : List Value} {ab_NoTrial : Bool} {col_NoTrial : Option Bool} {dd_NoTrial : Option Addr} {u0_NoTrial u1_NoTrial u2_NoTrial u3_NoTrial u5_NoTrial : Option Value}
    {nm_BadJournal q_BadJournal : Str} {N_BadJournal : Addr} {bs_BadJournal : List Value} {sn_BadJournal : List Str} {sub_BadJournal : List Value} {ab_BadJournal : Bool} {col_BadJournal : Option Bool} {dd_BadJournal : Option Addr} {u0_BadJournal u1_BadJournal u2_BadJournal u3_BadJournal u5_BadJournal : Option Value}
    {nm_BadLine q_BadLine : Str} {N_BadLine : Addr} {bs_BadLine : List Value} {sn_BadLine : List Str} {sub_BadLine : List Value} {ab_BadLine : Bool} {col_BadLine : Option Bool} {dd_BadLine : Option Addr} {u0_BadLine u1_BadLine u2_BadLine u3_BadLine u5_BadLine : Option Value}
    {od_init an_init : Option Addr} {sl_init : Array (Option Value)} {oc_init kV_init dc_init pm_init cd_init ct_init : Value}
    {od__law_pot an__law_pot : Option Addr} {sl__law_pot : Array (Option Value)} {oc__law_pot kV__law_pot dc__law_pot pm__law_pot cd__law_pot ct__law_pot : Value}
    {od__law_take an__law_take : Option Addr} {sl__law_take : Array (Option Value)} {oc__law_take kV__law_take dc__law_take pm__law_take cd__law_take ct__law_take : Value}
    {od__law_of an__law_of : Option Addr} {sl__law_of : Array (Option Value)} {oc__law_of kV__law_of dc__law_of pm__law_of cd__law_of ct__law_of : Value}
    {od__law_cells an__law_cells : Option Addr} {sl__law_cells : Array (Option Value)} {oc__law_cells kV__law_cells dc__law_cells pm__law_cells cd__law_cells ct__law_cells : Value}
    {od__law_odd an__law_odd : Option Addr} {sl__law_odd : Array (Option Value)} {oc__law_odd kV__law_odd dc__law_odd pm__law_odd cd__law_odd ct__law_odd : Value}
    {od__law_made an__law_made : Option Addr} {sl__law_made : Array (Option Value)} {oc__law_made kV__law_made dc__law_made pm__law_made cd__law_made ct__law_made : Value}
    {od__law_marks an__law_marks : Option Addr} {sl__law_marks : Array (Option Value)} {oc__law_marks kV__law_marks dc__law_marks pm__law_marks cd__law_marks ct__law_marks : Value}
    {od__law_right an__law_right : Option Addr} {sl__law_right : Array (Option Value)} {oc__law_right kV__law_right dc__law_right pm__law_right cd__law_right ct__law_right : Value}
    {od_law an_law : Option Addr} {sl_law : Array (Option Value)} {oc_law kV_law dc_law pm_law cd_law ct_law : Value}
    (g_DrawError : PySem.W.nsIn K mainGlobals "DrawError" = some (some (.ref a_DrawError)))
    (g_BadNet : PySem.W.nsIn K mainGlobals "BadNet" = some (some (.ref a_BadNet)))
    (g_NotTied : PySem.W.nsIn K mainGlobals "NotTied" = some (some (.ref a_NotTied)))
    (g_NoPlace : PySem.W.nsIn K mainGlobals "NoPlace" = some (some (.ref a_NoPlace)))
    (g_BadTie : PySem.W.nsIn K mainGlobals "BadTie" = some (some (.ref a_BadTie)))
    (g_Full : PySem.W.nsIn K mainGlobals "Full" = some (some (.ref a_Full)))
    (g_Few : PySem.W.nsIn K mainGlobals "Few" = some (some (.ref a_Few)))
    (g_BadRing : PySem.W.nsIn K mainGlobals "BadRing" = some (some (.ref a_BadRing)))
    (g_BadWheels : PySem.W.nsIn K mainGlobals "BadWheels" = some (some (.ref a_BadWheels)))
    (g_Crossed : PySem.W.nsIn K mainGlobals "Crossed" = some (some (.ref a_Crossed)))
    (g_BadLook : PySem.W.nsIn K mainGlobals "BadLook" = some (some (.ref a_BadLook)))
    (g_NotOff : PySem.W.nsIn K mainGlobals "NotOff" = some (some (.ref a_NotOff)))
    (g_NoDrawing : PySem.W.nsIn K mainGlobals "NoDrawing" = some (some (.ref a_NoDrawing)))
    (g_BadPlaces : PySem.W.nsIn K mainGlobals "BadPlaces" = some (some (.ref a_BadPlaces)))
    (g_BadTies : PySem.W.nsIn K mainGlobals "BadTies" = some (some (.ref a_BadTies)))
    (g_BadNumber : PySem.W.nsIn K mainGlobals "BadNumber" = some (some (.ref a_BadNumber)))
    (g_BadTurning : PySem.W.nsIn K mainGlobals "BadTurning" = some (some (.ref a_BadTurning)))
    (g_OtherNet : PySem.W.nsIn K mainGlobals "OtherNet" = some (some (.ref a_OtherNet)))
    (g_BadLooks : PySem.W.nsIn K mainGlobals "BadLooks" = some (some (.ref a_BadLooks)))
    (g_TooMany : PySem.W.nsIn K mainGlobals "TooMany" = some (some (.ref a_TooMany)))
    (g_Against : PySem.W.nsIn K mainGlobals "Against" = some (some (.ref a_Against)))
    (g_BadOffers : PySem.W.nsIn K mainGlobals "BadOffers" = some (some (.ref a_BadOffers)))
    (g_BadWishes : PySem.W.nsIn K mainGlobals "BadWishes" = some (some (.ref a_BadWishes)))
    (g_BadNames : PySem.W.nsIn K mainGlobals "BadNames" = some (some (.ref a_BadNames)))
    (g_NotThere : PySem.W.nsIn K mainGlobals "NotThere" = some (some (.ref a_NotThere)))
    (g_Tied : PySem.W.nsIn K mainGlobals "Tied" = some (some (.ref a_Tied)))
    (g_NothingToUndo : PySem.W.nsIn K mainGlobals "NothingToUndo" = some (some (.ref a_NothingToUndo)))
    (g_NothingToRedo : PySem.W.nsIn K mainGlobals "NothingToRedo" = some (some (.ref a_NothingToRedo)))
    (g_NoTrial : PySem.W.nsIn K mainGlobals "NoTrial" = some (some (.ref a_NoTrial)))
    (g_BadJournal : PySem.W.nsIn K mainGlobals "BadJournal" = some (some (.ref a_BadJournal)))
    (g_BadLine : PySem.W.nsIn K mainGlobals "BadLine" = some (some (.ref a_BadLine)))
    (gI : PySem.W.findIn K (.ref a_DrawError) "__init__" = some (some (.ref fI)))
    (x_DrawError : K.lookup a_DrawError = some (excClassObj nm_DrawError q_DrawError a_DrawError N_DrawError bs_DrawError [.type "ValueError", .type "Exception", .type "BaseException", .type "object"] true sn_DrawError sub_DrawError ab_DrawError col_DrawError dd_DrawError u0_DrawError u1_DrawError u2_DrawError u3_DrawError u5_DrawError "ValueError.__new__"))
    (x_BadNet : K.lookup a_BadNet = some (excClassObj nm_BadNet q_BadNet a_BadNet N_BadNet bs_BadNet [.ref a_DrawError, .type "ValueError", .type "Exception", .type "BaseException", .type "object"] true sn_BadNet sub_BadNet ab_BadNet col_BadNet dd_BadNet u0_BadNet u1_BadNet u2_BadNet u3_BadNet u5_BadNet "ValueError.__new__"))
    (x_NotTied : K.lookup a_NotTied = some (excClassObj nm_NotTied q_NotTied a_NotTied N_NotTied bs_NotTied [.ref a_DrawError, .type "ValueError", .type "Exception", .type "BaseException", .type "object"] true sn_NotTied sub_NotTied ab_NotTied col_NotTied dd_NotTied u0_NotTied u1_NotTied u2_NotTied u3_NotTied u5_NotTied "ValueError.__new__"))
    (x_NoPlace : K.lookup a_NoPlace = some (excClassObj nm_NoPlace q_NoPlace a_NoPlace N_NoPlace bs_NoPlace [.ref a_DrawError, .type "ValueError", .type "Exception", .type "BaseException", .type "object"] true sn_NoPlace sub_NoPlace ab_NoPlace col_NoPlace dd_NoPlace u0_NoPlace u1_NoPlace u2_NoPlace u3_NoPlace u5_NoPlace "ValueError.__new__"))
    (x_BadTie : K.lookup a_BadTie = some (excClassObj nm_BadTie q_BadTie a_BadTie N_BadTie bs_BadTie [.ref a_DrawError, .type "ValueError", .type "Exception", .type "BaseException", .type "object"] true sn_BadTie sub_BadTie ab_BadTie col_BadTie dd_BadTie u0_BadTie u1_BadTie u2_BadTie u3_BadTie u5_BadTie "ValueError.__new__"))
    (x_Full : K.lookup a_Full = some (excClassObj nm_Full q_Full a_Full N_Full bs_Full [.ref a_DrawError, .type "ValueError", .type "Exception", .type "BaseException", .type "object"] true sn_Full sub_Full ab_Full col_Full dd_Full u0_Full u1_Full u2_Full u3_Full u5_Full "ValueError.__new__"))
    (x_Few : K.lookup a_Few = some (excClassObj nm_Few q_Few a_Few N_Few bs_Few [.ref a_DrawError, .type "ValueError", .type "Exception", .type "BaseException", .type "object"] true sn_Few sub_Few ab_Few col_Few dd_Few u0_Few u1_Few u2_Few u3_Few u5_Few "ValueError.__new__"))
    (x_BadRing : K.lookup a_BadRing = some (excClassObj nm_BadRing q_BadRing a_BadRing N_BadRing bs_BadRing [.ref a_DrawError, .type "ValueError", .type "Exception", .type "BaseException", .type "object"] true sn_BadRing sub_BadRing ab_BadRing col_BadRing dd_BadRing u0_BadRing u1_BadRing u2_BadRing u3_BadRing u5_BadRing "ValueError.__new__"))
    (x_BadWheels : K.lookup a_BadWheels = some (excClassObj nm_BadWheels q_BadWheels a_BadWheels N_BadWheels bs_BadWheels [.ref a_DrawError, .type "ValueError", .type "Exception", .type "BaseException", .type "object"] true sn_BadWheels sub_BadWheels ab_BadWheels col_BadWheels dd_BadWheels u0_BadWheels u1_BadWheels u2_BadWheels u3_BadWheels u5_BadWheels "ValueError.__new__"))
    (x_Crossed : K.lookup a_Crossed = some (excClassObj nm_Crossed q_Crossed a_Crossed N_Crossed bs_Crossed [.ref a_DrawError, .type "ValueError", .type "Exception", .type "BaseException", .type "object"] true sn_Crossed sub_Crossed ab_Crossed col_Crossed dd_Crossed u0_Crossed u1_Crossed u2_Crossed u3_Crossed u5_Crossed "ValueError.__new__"))
    (x_BadLook : K.lookup a_BadLook = some (excClassObj nm_BadLook q_BadLook a_BadLook N_BadLook bs_BadLook [.ref a_DrawError, .type "ValueError", .type "Exception", .type "BaseException", .type "object"] true sn_BadLook sub_BadLook ab_BadLook col_BadLook dd_BadLook u0_BadLook u1_BadLook u2_BadLook u3_BadLook u5_BadLook "ValueError.__new__"))
    (x_NotOff : K.lookup a_NotOff = some (excClassObj nm_NotOff q_NotOff a_NotOff N_NotOff bs_NotOff [.ref a_DrawError, .type "ValueError", .type "Exception", .type "BaseException", .type "object"] true sn_NotOff sub_NotOff ab_NotOff col_NotOff dd_NotOff u0_NotOff u1_NotOff u2_NotOff u3_NotOff u5_NotOff "ValueError.__new__"))
    (x_NoDrawing : K.lookup a_NoDrawing = some (excClassObj nm_NoDrawing q_NoDrawing a_NoDrawing N_NoDrawing bs_NoDrawing [.ref a_DrawError, .type "ValueError", .type "Exception", .type "BaseException", .type "object"] true sn_NoDrawing sub_NoDrawing ab_NoDrawing col_NoDrawing dd_NoDrawing u0_NoDrawing u1_NoDrawing u2_NoDrawing u3_NoDrawing u5_NoDrawing "ValueError.__new__"))
    (x_BadPlaces : K.lookup a_BadPlaces = some (excClassObj nm_BadPlaces q_BadPlaces a_BadPlaces N_BadPlaces bs_BadPlaces [.ref a_DrawError, .type "ValueError", .type "Exception", .type "BaseException", .type "object"] true sn_BadPlaces sub_BadPlaces ab_BadPlaces col_BadPlaces dd_BadPlaces u0_BadPlaces u1_BadPlaces u2_BadPlaces u3_BadPlaces u5_BadPlaces "ValueError.__new__"))
    (x_BadTies : K.lookup a_BadTies = some (excClassObj nm_BadTies q_BadTies a_BadTies N_BadTies bs_BadTies [.ref a_DrawError, .type "ValueError", .type "Exception", .type "BaseException", .type "object"] true sn_BadTies sub_BadTies ab_BadTies col_BadTies dd_BadTies u0_BadTies u1_BadTies u2_BadTies u3_BadTies u5_BadTies "ValueError.__new__"))
    (x_BadNumber : K.lookup a_BadNumber = some (excClassObj nm_BadNumber q_BadNumber a_BadNumber N_BadNumber bs_BadNumber [.ref a_DrawError, .type "ValueError", .type "Exception", .type "BaseException", .type "object"] true sn_BadNumber sub_BadNumber ab_BadNumber col_BadNumber dd_BadNumber u0_BadNumber u1_BadNumber u2_BadNumber u3_BadNumber u5_BadNumber "ValueError.__new__"))
    (x_BadTurning : K.lookup a_BadTurning = some (excClassObj nm_BadTurning q_BadTurning a_BadTurning N_BadTurning bs_BadTurning [.ref a_DrawError, .type "ValueError", .type "Exception", .type "BaseException", .type "object"] true sn_BadTurning sub_BadTurning ab_BadTurning col_BadTurning dd_BadTurning u0_BadTurning u1_BadTurning u2_BadTurning u3_BadTurning u5_BadTurning "ValueError.__new__"))
    (x_OtherNet : K.lookup a_OtherNet = some (excClassObj nm_OtherNet q_OtherNet a_OtherNet N_OtherNet bs_OtherNet [.ref a_DrawError, .type "ValueError", .type "Exception", .type "BaseException", .type "object"] true sn_OtherNet sub_OtherNet ab_OtherNet col_OtherNet dd_OtherNet u0_OtherNet u1_OtherNet u2_OtherNet u3_OtherNet u5_OtherNet "ValueError.__new__"))
    (x_BadLooks : K.lookup a_BadLooks = some (excClassObj nm_BadLooks q_BadLooks a_BadLooks N_BadLooks bs_BadLooks [.ref a_DrawError, .type "ValueError", .type "Exception", .type "BaseException", .type "object"] true sn_BadLooks sub_BadLooks ab_BadLooks col_BadLooks dd_BadLooks u0_BadLooks u1_BadLooks u2_BadLooks u3_BadLooks u5_BadLooks "ValueError.__new__"))
    (x_TooMany : K.lookup a_TooMany = some (excClassObj nm_TooMany q_TooMany a_TooMany N_TooMany bs_TooMany [.ref a_DrawError, .type "ValueError", .type "Exception", .type "BaseException", .type "object"] true sn_TooMany sub_TooMany ab_TooMany col_TooMany dd_TooMany u0_TooMany u1_TooMany u2_TooMany u3_TooMany u5_TooMany "ValueError.__new__"))
    (x_Against : K.lookup a_Against = some (excClassObj nm_Against q_Against a_Against N_Against bs_Against [.ref a_DrawError, .type "ValueError", .type "Exception", .type "BaseException", .type "object"] true sn_Against sub_Against ab_Against col_Against dd_Against u0_Against u1_Against u2_Against u3_Against u5_Against "ValueError.__new__"))
    (x_BadOffers : K.lookup a_BadOffers = some (excClassObj nm_BadOffers q_BadOffers a_BadOffers N_BadOffers bs_BadOffers [.ref a_DrawError, .type "ValueError", .type "Exception", .type "BaseException", .type "object"] true sn_BadOffers sub_BadOffers ab_BadOffers col_BadOffers dd_BadOffers u0_BadOffers u1_BadOffers u2_BadOffers u3_BadOffers u5_BadOffers "ValueError.__new__"))
    (x_BadWishes : K.lookup a_BadWishes = some (excClassObj nm_BadWishes q_BadWishes a_BadWishes N_BadWishes bs_BadWishes [.ref a_DrawError, .type "ValueError", .type "Exception", .type "BaseException", .type "object"] true sn_BadWishes sub_BadWishes ab_BadWishes col_BadWishes dd_BadWishes u0_BadWishes u1_BadWishes u2_BadWishes u3_BadWishes u5_BadWishes "ValueError.__new__"))
    (x_BadNames : K.lookup a_BadNames = some (excClassObj nm_BadNames q_BadNames a_BadNames N_BadNames bs_BadNames [.ref a_DrawError, .type "ValueError", .type "Exception", .type "BaseException", .type "object"] true sn_BadNames sub_BadNames ab_BadNames col_BadNames dd_BadNames u0_BadNames u1_BadNames u2_BadNames u3_BadNames u5_BadNames "ValueError.__new__"))
    (x_NotThere : K.lookup a_NotThere = some (excClassObj nm_NotThere q_NotThere a_NotThere N_NotThere bs_NotThere [.ref a_DrawError, .type "ValueError", .type "Exception", .type "BaseException", .type "object"] true sn_NotThere sub_NotThere ab_NotThere col_NotThere dd_NotThere u0_NotThere u1_NotThere u2_NotThere u3_NotThere u5_NotThere "ValueError.__new__"))
    (x_Tied : K.lookup a_Tied = some (excClassObj nm_Tied q_Tied a_Tied N_Tied bs_Tied [.ref a_DrawError, .type "ValueError", .type "Exception", .type "BaseException", .type "object"] true sn_Tied sub_Tied ab_Tied col_Tied dd_Tied u0_Tied u1_Tied u2_Tied u3_Tied u5_Tied "ValueError.__new__"))
    (x_NothingToUndo : K.lookup a_NothingToUndo = some (excClassObj nm_NothingToUndo q_NothingToUndo a_NothingToUndo N_NothingToUndo bs_NothingToUndo [.ref a_DrawError, .type "ValueError", .type "Exception", .type "BaseException", .type "object"] true sn_NothingToUndo sub_NothingToUndo ab_NothingToUndo col_NothingToUndo dd_NothingToUndo u0_NothingToUndo u1_NothingToUndo u2_NothingToUndo u3_NothingToUndo u5_NothingToUndo "ValueError.__new__"))
    (x_NothingToRedo : K.lookup a_NothingToRedo = some (excClassObj nm_NothingToRedo q_NothingToRedo a_NothingToRedo N_NothingToRedo bs_NothingToRedo [.ref a_DrawError, .type "ValueError", .type "Exception", .type "BaseException", .type "object"] true sn_NothingToRedo sub_NothingToRedo ab_NothingToRedo col_NothingToRedo dd_NothingToRedo u0_NothingToRedo u1_NothingToRedo u2_NothingToRedo u3_NothingToRedo u5_NothingToRedo "ValueError.__new__"))
    (x_NoTrial : K.lookup a_NoTrial = some (excClassObj nm_NoTrial q_NoTrial a_NoTrial N_NoTrial bs_NoTrial [.ref a_DrawError, .type "ValueError", .type "Exception", .type "BaseException", .type "object"] true sn_NoTrial sub_NoTrial ab_NoTrial col_NoTrial dd_NoTrial u0_NoTrial u1_NoTrial u2_NoTrial u3_NoTrial u5_NoTrial "ValueError.__new__"))
    (x_BadJournal : K.lookup a_BadJournal = some (excClassObj nm_BadJournal q_BadJournal a_BadJournal N_BadJournal bs_BadJournal [.ref a_DrawError, .type "ValueError", .type "Exception", .type "BaseException", .type "object"] true sn_BadJournal sub_BadJournal ab_BadJournal col_BadJournal dd_BadJournal u0_BadJournal u1_BadJournal u2_BadJournal u3_BadJournal u5_BadJournal "ValueError.__new__"))
    (x_BadLine : K.lookup a_BadLine = some (excClassObj nm_BadLine q_BadLine a_BadLine N_BadLine bs_BadLine [.ref a_DrawError, .type "ValueError", .type "Exception", .type "BaseException", .type "object"] true sn_BadLine sub_BadLine ab_BadLine col_BadLine dd_BadLine u0_BadLine u1_BadLine u2_BadLine u3_BadLine u5_BadLine "ValueError.__new__"))
    (e_DrawError : errOk K fI a_DrawError = true)
    (e_BadNet : errOk K fI a_BadNet = true)
    (e_NotTied : errOk K fI a_NotTied = true)
    (e_NoPlace : errOk K fI a_NoPlace = true)
    (e_BadTie : errOk K fI a_BadTie = true)
    (e_Full : errOk K fI a_Full = true)
    (e_Few : errOk K fI a_Few = true)
    (e_BadRing : errOk K fI a_BadRing = true)
    (e_BadWheels : errOk K fI a_BadWheels = true)
    (e_Crossed : errOk K fI a_Crossed = true)
    (e_BadLook : errOk K fI a_BadLook = true)
    (e_NotOff : errOk K fI a_NotOff = true)
    (e_NoDrawing : errOk K fI a_NoDrawing = true)
    (e_BadPlaces : errOk K fI a_BadPlaces = true)
    (e_BadTies : errOk K fI a_BadTies = true)
    (e_BadNumber : errOk K fI a_BadNumber = true)
    (e_BadTurning : errOk K fI a_BadTurning = true)
    (e_OtherNet : errOk K fI a_OtherNet = true)
    (e_BadLooks : errOk K fI a_BadLooks = true)
    (e_TooMany : errOk K fI a_TooMany = true)
    (e_Against : errOk K fI a_Against = true)
    (e_BadOffers : errOk K fI a_BadOffers = true)
    (e_BadWishes : errOk K fI a_BadWishes = true)
    (e_BadNames : errOk K fI a_BadNames = true)
    (e_NotThere : errOk K fI a_NotThere = true)
    (e_Tied : errOk K fI a_Tied = true)
    (e_NothingToUndo : errOk K fI a_NothingToUndo = true)
    (e_NothingToRedo : errOk K fI a_NothingToRedo = true)
    (e_NoTrial : errOk K fI a_NoTrial = true)
    (e_BadJournal : errOk K fI a_BadJournal = true)
    (e_BadLine : errOk K fI a_BadLine = true)
    (tI : PySem.W.typeIn K (.ref fI) = some (.type "function"))
    (l_init : K.lookup fI = some ⟨oc_init, od_init, .func (PySem.W.fnOf "__init__" "DrawError.__init__" (defArgs sInit) (defBody sInit) (defScope sInit) .none kV_init dc_init pm_init an_init cd_init ct_init), sl_init⟩)
    (c_init : PySem.W.codeIn K cd_init "DrawError.__init__" = true)
    (k_init : PySem.W.keepIn K (.ref fI) = true)
    (g__law_pot : PySem.W.nsIn K mainGlobals "_law_pot" = some (some (.ref f__law_pot)))
    (l__law_pot : K.lookup f__law_pot = some ⟨oc__law_pot, od__law_pot, .func (PySem.W.fnOf "_law_pot" "_law_pot" (defArgs s__law_pot) (defBody s__law_pot) (defScope s__law_pot) .none kV__law_pot dc__law_pot pm__law_pot an__law_pot cd__law_pot ct__law_pot), sl__law_pot⟩)
    (c__law_pot : PySem.W.codeIn K cd__law_pot "_law_pot" = true)
    (k__law_pot : PySem.W.keepIn K (.ref f__law_pot) = true)
    (g__law_take : PySem.W.nsIn K mainGlobals "_law_take" = some (some (.ref f__law_take)))
    (l__law_take : K.lookup f__law_take = some ⟨oc__law_take, od__law_take, .func (PySem.W.fnOf "_law_take" "_law_take" (defArgs s__law_take) (defBody s__law_take) (defScope s__law_take) .none kV__law_take dc__law_take pm__law_take an__law_take cd__law_take ct__law_take), sl__law_take⟩)
    (c__law_take : PySem.W.codeIn K cd__law_take "_law_take" = true)
    (k__law_take : PySem.W.keepIn K (.ref f__law_take) = true)
    (g__law_of : PySem.W.nsIn K mainGlobals "_law_of" = some (some (.ref f__law_of)))
    (l__law_of : K.lookup f__law_of = some ⟨oc__law_of, od__law_of, .func (PySem.W.fnOf "_law_of" "_law_of" (defArgs s__law_of) (defBody s__law_of) (defScope s__law_of) .none kV__law_of dc__law_of pm__law_of an__law_of cd__law_of ct__law_of), sl__law_of⟩)
    (c__law_of : PySem.W.codeIn K cd__law_of "_law_of" = true)
    (k__law_of : PySem.W.keepIn K (.ref f__law_of) = true)
    (g__law_cells : PySem.W.nsIn K mainGlobals "_law_cells" = some (some (.ref f__law_cells)))
    (l__law_cells : K.lookup f__law_cells = some ⟨oc__law_cells, od__law_cells, .func (PySem.W.fnOf "_law_cells" "_law_cells" (defArgs s__law_cells) (defBody s__law_cells) (defScope s__law_cells) .none kV__law_cells dc__law_cells pm__law_cells an__law_cells cd__law_cells ct__law_cells), sl__law_cells⟩)
    (c__law_cells : PySem.W.codeIn K cd__law_cells "_law_cells" = true)
    (k__law_cells : PySem.W.keepIn K (.ref f__law_cells) = true)
    (g__law_odd : PySem.W.nsIn K mainGlobals "_law_odd" = some (some (.ref f__law_odd)))
    (l__law_odd : K.lookup f__law_odd = some ⟨oc__law_odd, od__law_odd, .func (PySem.W.fnOf "_law_odd" "_law_odd" (defArgs s__law_odd) (defBody s__law_odd) (defScope s__law_odd) .none kV__law_odd dc__law_odd pm__law_odd an__law_odd cd__law_odd ct__law_odd), sl__law_odd⟩)
    (c__law_odd : PySem.W.codeIn K cd__law_odd "_law_odd" = true)
    (k__law_odd : PySem.W.keepIn K (.ref f__law_odd) = true)
    (g__law_made : PySem.W.nsIn K mainGlobals "_law_made" = some (some (.ref f__law_made)))
    (l__law_made : K.lookup f__law_made = some ⟨oc__law_made, od__law_made, .func (PySem.W.fnOf "_law_made" "_law_made" (defArgs s__law_made) (defBody s__law_made) (defScope s__law_made) .none kV__law_made dc__law_made pm__law_made an__law_made cd__law_made ct__law_made), sl__law_made⟩)
    (c__law_made : PySem.W.codeIn K cd__law_made "_law_made" = true)
    (k__law_made : PySem.W.keepIn K (.ref f__law_made) = true)
    (g__law_marks : PySem.W.nsIn K mainGlobals "_law_marks" = some (some (.ref f__law_marks)))
    (l__law_marks : K.lookup f__law_marks = some ⟨oc__law_marks, od__law_marks, .func (PySem.W.fnOf "_law_marks" "_law_marks" (defArgs s__law_marks) (defBody s__law_marks) (defScope s__law_marks) .none kV__law_marks dc__law_marks pm__law_marks an__law_marks cd__law_marks ct__law_marks), sl__law_marks⟩)
    (c__law_marks : PySem.W.codeIn K cd__law_marks "_law_marks" = true)
    (k__law_marks : PySem.W.keepIn K (.ref f__law_marks) = true)
    (g__law_right : PySem.W.nsIn K mainGlobals "_law_right" = some (some (.ref f__law_right)))
    (l__law_right : K.lookup f__law_right = some ⟨oc__law_right, od__law_right, .func (PySem.W.fnOf "_law_right" "_law_right" (defArgs s__law_right) (defBody s__law_right) (defScope s__law_right) .none kV__law_right dc__law_right pm__law_right an__law_right cd__law_right ct__law_right), sl__law_right⟩)
    (c__law_right : PySem.W.codeIn K cd__law_right "_law_right" = true)
    (k__law_right : PySem.W.keepIn K (.ref f__law_right) = true)
    (g_law : PySem.W.nsIn K mainGlobals "law" = some (some (.ref f_law)))
    (l_law : K.lookup f_law = some ⟨oc_law, od_law, .func (PySem.W.fnOf "law" "law" (defArgs s_law) (defBody s_law) (defScope s_law) .none kV_law dc_law pm_law an_law cd_law ct_law), sl_law⟩)
    (c_law : PySem.W.codeIn K cd_law "law" = true)
    (k_law : PySem.W.keepIn K (.ref f_law) = true)
    (z_len : PySem.W.nsIn K mainGlobals "len" = some none)
    (z_int : PySem.W.nsIn K mainGlobals "int" = some none)
    (z_abs : PySem.W.nsIn K mainGlobals "abs" = some none)
    (z_max : PySem.W.nsIn K mainGlobals "max" = some none)
    (z_min : PySem.W.nsIn K mainGlobals "min" = some none)
    (z_range : PySem.W.nsIn K mainGlobals "range" = some none)
    (z_enumerate : PySem.W.nsIn K mainGlobals "enumerate" = some none)
    (z_all : PySem.W.nsIn K mainGlobals "all" = some none)
    (z_any : PySem.W.nsIn K mainGlobals "any" = some none)
    (z_isinstance : PySem.W.nsIn K mainGlobals "isinstance" = some none)
    (z_repr : PySem.W.nsIn K mainGlobals "repr" = some none)
    (z_list : PySem.W.nsIn K mainGlobals "list" = some none)
    (z_ValueError : PySem.W.nsIn K mainGlobals "ValueError" = some none)
    (nd : (a_DrawError :: [a_BadNet, a_NotTied, a_NoPlace, a_BadTie, a_Full, a_Few, a_BadRing, a_BadWheels, a_Crossed, a_BadLook, a_NotOff, a_NoDrawing, a_BadPlaces, a_BadTies, a_BadNumber, a_BadTurning, a_OtherNet, a_BadLooks, a_TooMany, a_Against, a_BadOffers, a_BadWishes, a_BadNames, a_NotThere, a_Tied, a_NothingToUndo, a_NothingToRedo, a_NoTrial, a_BadJournal, a_BadLine]).Nodup)
    (tab : isTab K a_DrawError [a_BadNet, a_NotTied, a_NoPlace, a_BadTie, a_Full, a_Few, a_BadRing, a_BadWheels, a_Crossed, a_BadLook, a_NotOff, a_NoDrawing, a_BadPlaces, a_BadTies, a_BadNumber, a_BadTurning, a_OtherNet, a_BadLooks, a_TooMany, a_Against, a_BadOffers, a_BadWishes, a_BadNames, a_NotThere, a_Tied, a_NothingToUndo, a_NothingToRedo, a_NoTrial, a_BadJournal, a_BadLine] = true)
    : ∃ fd : FuncData, (∀ (s : Shared) (v : Value), BindsTo s fd ⟨[v], []⟩ [("_law_script", v)]) ∧ ∀ base : Heap, K.In base → base.Ns mainGlobals mg → FnOkG P w K mg base CX0 5 fa fd ["_law_script"] (spLaw K) := by
  cases hfa.symm.trans (PySem.W.mg_of X G g_law)
  obtain ⟨t1, t2⟩ := tab_mk tab
  let ad : Adr := { fI := fI, f__law_pot := f__law_pot, f__law_take := f__law_take, f__law_of := f__law_of, f__law_cells := f__law_cells, f__law_odd := f__law_odd, f__law_made := f__law_made, f__law_marks := f__law_marks, f__law_right := f__law_right, a_DrawError := a_DrawError, a_BadNet := a_BadNet, a_NotTied := a_NotTied, a_NoPlace := a_NoPlace, a_BadTie := a_BadTie, a_Full := a_Full, a_Few := a_Few, a_BadRing := a_BadRing, a_BadWheels := a_BadWheels, a_Crossed := a_Crossed, a_BadLook := a_BadLook, a_NotOff := a_NotOff, a_NoDrawing := a_NoDrawing, a_BadPlaces := a_BadPlaces, a_BadTies := a_BadTies, a_BadNumber := a_BadNumber, a_BadTurning := a_BadTurning, a_OtherNet := a_OtherNet, a_BadLooks := a_BadLooks, a_TooMany := a_TooMany, a_Against := a_Against, a_BadOffers := a_BadOffers, a_BadWishes := a_BadWishes, a_BadNames := a_BadNames, a_NotThere := a_NotThere, a_Tied := a_Tied, a_NothingToUndo := a_NothingToUndo, a_NothingToRedo := a_NothingToRedo, a_NoTrial := a_NoTrial, a_BadJournal := a_BadJournal, a_BadLine := a_BadLine }
  have T : Txt K mg ad := {
    n_len := PySem.W.mg_none_of X G z_len
    n_int := PySem.W.mg_none_of X G z_int
    n_abs := PySem.W.mg_none_of X G z_abs
    n_max := PySem.W.mg_none_of X G z_max
    n_min := PySem.W.mg_none_of X G z_min
    n_range := PySem.W.mg_none_of X G z_range
    n_enumerate := PySem.W.mg_none_of X G z_enumerate
    n_all := PySem.W.mg_none_of X G z_all
    n_any := PySem.W.mg_none_of X G z_any
    n_isinstance := PySem.W.mg_none_of X G z_isinstance
    n_repr := PySem.W.mg_none_of X G z_repr
    n_list := PySem.W.mg_none_of X G z_list
    n_ValueError := PySem.W.mg_none_of X G z_ValueError
    m__law_pot := PySem.W.mg_of X G g__law_pot
    k__law_pot := k__law_pot
    m__law_take := PySem.W.mg_of X G g__law_take
    k__law_take := k__law_take
    m__law_of := PySem.W.mg_of X G g__law_of
    k__law_of := k__law_of
    m__law_cells := PySem.W.mg_of X G g__law_cells
    k__law_cells := k__law_cells
    m__law_odd := PySem.W.mg_of X G g__law_odd
    k__law_odd := k__law_odd
    m__law_made := PySem.W.mg_of X G g__law_made
    k__law_made := k__law_made
    m__law_marks := PySem.W.mg_of X G g__law_marks
    k__law_marks := k__law_marks
    m__law_right := PySem.W.mg_of X G g__law_right
    k__law_right := k__law_right
    m_DrawError := PySem.W.mg_of X G g_DrawError
    c_DrawError := err_mk x_DrawError rfl e_DrawError
    m_BadNet := PySem.W.mg_of X G g_BadNet
    c_BadNet := err_mk x_BadNet rfl e_BadNet
    m_NotTied := PySem.W.mg_of X G g_NotTied
    c_NotTied := err_mk x_NotTied rfl e_NotTied
    m_NoPlace := PySem.W.mg_of X G g_NoPlace
    c_NoPlace := err_mk x_NoPlace rfl e_NoPlace
    m_BadTie := PySem.W.mg_of X G g_BadTie
    c_BadTie := err_mk x_BadTie rfl e_BadTie
    m_Full := PySem.W.mg_of X G g_Full
    c_Full := err_mk x_Full rfl e_Full
    m_Few := PySem.W.mg_of X G g_Few
    c_Few := err_mk x_Few rfl e_Few
    m_BadRing := PySem.W.mg_of X G g_BadRing
    c_BadRing := err_mk x_BadRing rfl e_BadRing
    m_BadWheels := PySem.W.mg_of X G g_BadWheels
    c_BadWheels := err_mk x_BadWheels rfl e_BadWheels
    m_Crossed := PySem.W.mg_of X G g_Crossed
    c_Crossed := err_mk x_Crossed rfl e_Crossed
    m_BadLook := PySem.W.mg_of X G g_BadLook
    c_BadLook := err_mk x_BadLook rfl e_BadLook
    m_NotOff := PySem.W.mg_of X G g_NotOff
    c_NotOff := err_mk x_NotOff rfl e_NotOff
    m_NoDrawing := PySem.W.mg_of X G g_NoDrawing
    c_NoDrawing := err_mk x_NoDrawing rfl e_NoDrawing
    m_BadPlaces := PySem.W.mg_of X G g_BadPlaces
    c_BadPlaces := err_mk x_BadPlaces rfl e_BadPlaces
    m_BadTies := PySem.W.mg_of X G g_BadTies
    c_BadTies := err_mk x_BadTies rfl e_BadTies
    m_BadNumber := PySem.W.mg_of X G g_BadNumber
    c_BadNumber := err_mk x_BadNumber rfl e_BadNumber
    m_BadTurning := PySem.W.mg_of X G g_BadTurning
    c_BadTurning := err_mk x_BadTurning rfl e_BadTurning
    m_OtherNet := PySem.W.mg_of X G g_OtherNet
    c_OtherNet := err_mk x_OtherNet rfl e_OtherNet
    m_BadLooks := PySem.W.mg_of X G g_BadLooks
    c_BadLooks := err_mk x_BadLooks rfl e_BadLooks
    m_TooMany := PySem.W.mg_of X G g_TooMany
    c_TooMany := err_mk x_TooMany rfl e_TooMany
    m_Against := PySem.W.mg_of X G g_Against
    c_Against := err_mk x_Against rfl e_Against
    m_BadOffers := PySem.W.mg_of X G g_BadOffers
    c_BadOffers := err_mk x_BadOffers rfl e_BadOffers
    m_BadWishes := PySem.W.mg_of X G g_BadWishes
    c_BadWishes := err_mk x_BadWishes rfl e_BadWishes
    m_BadNames := PySem.W.mg_of X G g_BadNames
    c_BadNames := err_mk x_BadNames rfl e_BadNames
    m_NotThere := PySem.W.mg_of X G g_NotThere
    c_NotThere := err_mk x_NotThere rfl e_NotThere
    m_Tied := PySem.W.mg_of X G g_Tied
    c_Tied := err_mk x_Tied rfl e_Tied
    m_NothingToUndo := PySem.W.mg_of X G g_NothingToUndo
    c_NothingToUndo := err_mk x_NothingToUndo rfl e_NothingToUndo
    m_NothingToRedo := PySem.W.mg_of X G g_NothingToRedo
    c_NothingToRedo := err_mk x_NothingToRedo rfl e_NothingToRedo
    m_NoTrial := PySem.W.mg_of X G g_NoTrial
    c_NoTrial := err_mk x_NoTrial rfl e_NoTrial
    m_BadJournal := PySem.W.mg_of X G g_BadJournal
    c_BadJournal := err_mk x_BadJournal rfl e_BadJournal
    m_BadLine := PySem.W.mg_of X G g_BadLine
    c_BadLine := err_mk x_BadLine rfl e_BadLine
    tI := tI
    nd := nd
    isB := t1
    isC := t2 }
  have F_init := fun_mk (st := sInit) l_init c_init k_init
  have b_init := F_init.binds (ps := ["self", "value"]) fun _ _ _ _ _ _ us hl => match us, hl with | [_, _], _ => rfl
  have F__law_pot := fun_mk (st := s__law_pot) l__law_pot c__law_pot k__law_pot
  have b__law_pot := F__law_pot.binds (ps := ["_law_script", "_law_place"]) fun _ _ _ _ _ _ us hl => match us, hl with | [_, _], _ => rfl
  have F__law_take := fun_mk (st := s__law_take) l__law_take c__law_take k__law_take
  have b__law_take := F__law_take.binds (ps := ["_law_pot_here", "_law_upto"]) fun _ _ _ _ _ _ us hl => match us, hl with | [_, _], _ => rfl
  have F__law_of := fun_mk (st := s__law_of) l__law_of c__law_of k__law_of
  have b__law_of := F__law_of.binds (ps := ["_law_pot_here", "_law_some"]) fun _ _ _ _ _ _ us hl => match us, hl with | [_, _], _ => rfl
  have F__law_cells := fun_mk (st := s__law_cells) l__law_cells c__law_cells k__law_cells
  have b__law_cells := F__law_cells.binds (ps := ["_law_script", "_law_most"]) fun _ _ _ _ _ _ us hl => match us, hl with | [_, _], _ => rfl
  have F__law_odd := fun_mk (st := s__law_odd) l__law_odd c__law_odd k__law_odd
  have b__law_odd := F__law_odd.binds (ps := ["_law_pot_here"]) fun _ _ _ _ _ _ us hl => match us, hl with | [_], _ => rfl
  have F__law_made := fun_mk (st := s__law_made) l__law_made c__law_made k__law_made
  have b__law_made := F__law_made.binds (ps := ["_law_value"]) fun _ _ _ _ _ _ us hl => match us, hl with | [_], _ => rfl
  have F__law_marks := fun_mk (st := s__law_marks) l__law_marks c__law_marks k__law_marks
  have b__law_marks := F__law_marks.binds (ps := ["_law_error"]) fun _ _ _ _ _ _ us hl => match us, hl with | [_], _ => rfl
  have F__law_right := fun_mk (st := s__law_right) l__law_right c__law_right k__law_right
  have b__law_right := F__law_right.binds (ps := ["_law_pot_here"]) fun _ _ _ _ _ _ us hl => match us, hl with | [_], _ => rfl
  have F_law := fun_mk (st := s_law) l_law c_law k_law
  have b_law := F_law.binds (ps := ["_law_script"]) fun _ _ _ _ _ _ us hl => match us, hl with | [_], _ => rfl
  refine ⟨PySem.W.fnOf "law" "law" (defArgs s_law) (defBody s_law) (defScope s_law) .none kV_law dc_law pm_law an_law cd_law ct_law, fun s v => .of_eq rfl, fun base _ _ => ?_⟩
  have G_init := ok_init (P := P) (w := w) (mg := mg) (base := base) F_init
  have G_take := ok__law_take (P := P) (w := w) (base := base) F__law_take T
  have G_of := ok__law_of F__law_of T G_take b__law_take
  have G_odd := ok__law_odd F__law_odd T G_of b__law_of
  have G_made := ok__law_made F__law_made T G_init b_init
  have G_marks := ok__law_marks (P := P) (w := w) (base := base) F__law_marks T
  have G_right := ok__law_right F__law_right T G_init b_init G_of b__law_of G_odd b__law_odd G_made b__law_made G_marks b__law_marks
  have G_pot := ok__law_pot (P := P) (w := w) (base := base) F__law_pot T
  have G_cells := ok__law_cells (P := P) (w := w) (base := base) F__law_cells T
  exact ok_law F_law T G_right b__law_right G_pot b__law_pot G_cells b__law_cells
end K00
open PySem PySem.W PyProof.Rows in
set_option maxRecDepth 100000 in
set_option maxHeartbeats 0 in
theorem PySem.Challenge.cw_alldrawn_k00_errors_keep_their_values_holds : PySem.Challenge.rw_alldrawn_k00_errors_keep_their_values.Holds := by
  w_on; o_law; k_head; (case hw => w_witness2)
  k_fill
  refine L2.walk_ofG (l := PySem.Challenge.rw_alldrawn_k00_errors_keep_their_values) (n := 63) (k := 5) (x := "_law_script") (sp := fun w => K00.spLaw _) rfl (by decide) rfl ⟨rfl, by decide, by decide⟩ (fun w h Y => PySem.W.kIn_of Y) ?F (fun _ _ a ns hl _ hS => ⟨a, ns, rfl, hS, fun _ => rfl⟩)
  case F =>
    intro w mg fa h KX G hmg
    refine' K00.all_mk KX G hmg ?g_DrawError ?g_BadNet ?g_NotTied ?g_NoPlace ?g_BadTie ?g_Full ?g_Few ?g_BadRing ?g_BadWheels ?g_Crossed ?g_BadLook ?g_NotOff ?g_NoDrawing ?g_BadPlaces ?g_BadTies ?g_BadNumber ?g_BadTurning ?g_OtherNet ?g_BadLooks ?g_TooMany ?g_Against ?g_BadOffers ?g_BadWishes ?g_BadNames ?g_NotThere ?g_Tied ?g_NothingToUndo ?g_NothingToRedo ?g_NoTrial ?g_BadJournal ?g_BadLine ?gI ?x_DrawError ?x_BadNet ?x_NotTied ?x_NoPlace ?x_BadTie ?x_Full ?x_Few ?x_BadRing ?x_BadWheels ?x_Crossed ?x_BadLook ?x_NotOff ?x_NoDrawing ?x_BadPlaces ?x_BadTies ?x_BadNumber ?x_BadTurning ?x_OtherNet ?x_BadLooks ?x_TooMany ?x_Against ?x_BadOffers ?x_BadWishes ?x_BadNames ?x_NotThere ?x_Tied ?x_NothingToUndo ?x_NothingToRedo ?x_NoTrial ?x_BadJournal ?x_BadLine ?e_DrawError ?e_BadNet ?e_NotTied ?e_NoPlace ?e_BadTie ?e_Full ?e_Few ?e_BadRing ?e_BadWheels ?e_Crossed ?e_BadLook ?e_NotOff ?e_NoDrawing ?e_BadPlaces ?e_BadTies ?e_BadNumber ?e_BadTurning ?e_OtherNet ?e_BadLooks ?e_TooMany ?e_Against ?e_BadOffers ?e_BadWishes ?e_BadNames ?e_NotThere ?e_Tied ?e_NothingToUndo ?e_NothingToRedo ?e_NoTrial ?e_BadJournal ?e_BadLine ?tI ?l_init ?c_init ?k_init ?g__law_pot ?l__law_pot ?c__law_pot ?k__law_pot ?g__law_take ?l__law_take ?c__law_take ?k__law_take ?g__law_of ?l__law_of ?c__law_of ?k__law_of ?g__law_cells ?l__law_cells ?c__law_cells ?k__law_cells ?g__law_odd ?l__law_odd ?c__law_odd ?k__law_odd ?g__law_made ?l__law_made ?c__law_made ?k__law_made ?g__law_marks ?l__law_marks ?c__law_marks ?k__law_marks ?g__law_right ?l__law_right ?c__law_right ?k__law_right ?g_law ?l_law ?c_law ?k_law ?z_len ?z_int ?z_abs ?z_max ?z_min ?z_range ?z_enumerate ?z_all ?z_any ?z_isinstance ?z_repr ?z_list ?z_ValueError ?nd ?tab
    (case g_DrawError => k_is)
    (case g_BadNet => k_is)
    (case g_NotTied => k_is)
    (case g_NoPlace => k_is)
    (case g_BadTie => k_is)
    (case g_Full => k_is)
    (case g_Few => k_is)
    (case g_BadRing => k_is)
    (case g_BadWheels => k_is)
    (case g_Crossed => k_is)
    (case g_BadLook => k_is)
    (case g_NotOff => k_is)
    (case g_NoDrawing => k_is)
    (case g_BadPlaces => k_is)
    (case g_BadTies => k_is)
    (case g_BadNumber => k_is)
    (case g_BadTurning => k_is)
    (case g_OtherNet => k_is)
    (case g_BadLooks => k_is)
    (case g_TooMany => k_is)
    (case g_Against => k_is)
    (case g_BadOffers => k_is)
    (case g_BadWishes => k_is)
    (case g_BadNames => k_is)
    (case g_NotThere => k_is)
    (case g_Tied => k_is)
    (case g_NothingToUndo => k_is)
    (case g_NothingToRedo => k_is)
    (case g_NoTrial => k_is)
    (case g_BadJournal => k_is)
    (case g_BadLine => k_is)
    (case gI => k_is)
    (case x_DrawError => k_is)
    (case x_BadNet => k_is)
    (case x_NotTied => k_is)
    (case x_NoPlace => k_is)
    (case x_BadTie => k_is)
    (case x_Full => k_is)
    (case x_Few => k_is)
    (case x_BadRing => k_is)
    (case x_BadWheels => k_is)
    (case x_Crossed => k_is)
    (case x_BadLook => k_is)
    (case x_NotOff => k_is)
    (case x_NoDrawing => k_is)
    (case x_BadPlaces => k_is)
    (case x_BadTies => k_is)
    (case x_BadNumber => k_is)
    (case x_BadTurning => k_is)
    (case x_OtherNet => k_is)
    (case x_BadLooks => k_is)
    (case x_TooMany => k_is)
    (case x_Against => k_is)
    (case x_BadOffers => k_is)
    (case x_BadWishes => k_is)
    (case x_BadNames => k_is)
    (case x_NotThere => k_is)
    (case x_Tied => k_is)
    (case x_NothingToUndo => k_is)
    (case x_NothingToRedo => k_is)
    (case x_NoTrial => k_is)
    (case x_BadJournal => k_is)
    (case x_BadLine => k_is)
    (case e_DrawError => kernel_rfl)
    (case e_BadNet => kernel_rfl)
    (case e_NotTied => kernel_rfl)
    (case e_NoPlace => kernel_rfl)
    (case e_BadTie => kernel_rfl)
    (case e_Full => kernel_rfl)
    (case e_Few => kernel_rfl)
    (case e_BadRing => kernel_rfl)
    (case e_BadWheels => kernel_rfl)
    (case e_Crossed => kernel_rfl)
    (case e_BadLook => kernel_rfl)
    (case e_NotOff => kernel_rfl)
    (case e_NoDrawing => kernel_rfl)
    (case e_BadPlaces => kernel_rfl)
    (case e_BadTies => kernel_rfl)
    (case e_BadNumber => kernel_rfl)
    (case e_BadTurning => kernel_rfl)
    (case e_OtherNet => kernel_rfl)
    (case e_BadLooks => kernel_rfl)
    (case e_TooMany => kernel_rfl)
    (case e_Against => kernel_rfl)
    (case e_BadOffers => kernel_rfl)
    (case e_BadWishes => kernel_rfl)
    (case e_BadNames => kernel_rfl)
    (case e_NotThere => kernel_rfl)
    (case e_Tied => kernel_rfl)
    (case e_NothingToUndo => kernel_rfl)
    (case e_NothingToRedo => kernel_rfl)
    (case e_NoTrial => kernel_rfl)
    (case e_BadJournal => kernel_rfl)
    (case e_BadLine => kernel_rfl)
    (case tI => k_is)
    (case l_init => k_is)
    (case c_init => k_is)
    (case k_init => k_is)
    (case g__law_pot => k_is)
    (case l__law_pot => k_is)
    (case c__law_pot => k_is)
    (case k__law_pot => k_is)
    (case g__law_take => k_is)
    (case l__law_take => k_is)
    (case c__law_take => k_is)
    (case k__law_take => k_is)
    (case g__law_of => k_is)
    (case l__law_of => k_is)
    (case c__law_of => k_is)
    (case k__law_of => k_is)
    (case g__law_cells => k_is)
    (case l__law_cells => k_is)
    (case c__law_cells => k_is)
    (case k__law_cells => k_is)
    (case g__law_odd => k_is)
    (case l__law_odd => k_is)
    (case c__law_odd => k_is)
    (case k__law_odd => k_is)
    (case g__law_made => k_is)
    (case l__law_made => k_is)
    (case c__law_made => k_is)
    (case k__law_made => k_is)
    (case g__law_marks => k_is)
    (case l__law_marks => k_is)
    (case c__law_marks => k_is)
    (case k__law_marks => k_is)
    (case g__law_right => k_is)
    (case l__law_right => k_is)
    (case c__law_right => k_is)
    (case k__law_right => k_is)
    (case g_law => k_is)
    (case l_law => k_is)
    (case c_law => k_is)
    (case k_law => k_is)
    (case z_len => k_is)
    (case z_int => k_is)
    (case z_abs => k_is)
    (case z_max => k_is)
    (case z_min => k_is)
    (case z_range => k_is)
    (case z_enumerate => k_is)
    (case z_all => k_is)
    (case z_any => k_is)
    (case z_isinstance => k_is)
    (case z_repr => k_is)
    (case z_list => k_is)
    (case z_ValueError => k_is)
    (case nd => decide)
    (case tab => kernel_rfl)
