import PyProof.Rows.All
import Wide.All
import OpenK.AllK
import Wide.FinOn
import HandS.ForMost
import HandS.ExcInit
import HandS.Conv
import KE.KExcIs
import PyProof.ReprRoads
import HandS.IsInst
import KE.GoesEnum
import KE.GoesEnumKw
import HandS.Walk
import HandS.Deep
import HandS.DictComp
import HandS.TupAny
import HandS.WordsExc
import HandS.ExcOwn
import HandS.Strs
import KE.KDictZip
import KE.KDictItemsList
import HandS.Iter
import KE.KRevSl
import HandS.JoinGen
import HandS.Codes
import HandS.Keys
import OpenK.KMeth
import OpenK.KOps
import HandS.OwnEq
import PyProof.InstNe
import PyProof.EqAt
import PyProof.EqKinds
import PyProof.ReprLen
import PyProof.StrLawsRepr
import HandS.TupSets
import KE.LtSeq
import HandS.TryOnly
import HandS.SortInts
import HandS.Lambda
import KE.KOpsOwn
import HandS.FStr
import HandS.Star
import KE.LtData
import PyProof.P3Eq
import HandS.EndOwn
import HandS.EndTab
import HandS.HeadHook1
import PySem.Challenge.RW_alldrawn_k05_whole_nets_grown_and_shrunk
set_option Elab.async false
set_option linter.all false
set_option maxRecDepth 100000
set_option maxHeartbeats 8000000
namespace L2
open PySem PySem.Spec PyProof.Rows
/-- as FnOk, but only asked where no repr is under way -/
structure FnOkG (P : Program) (w : World) (K : PySem.W.Frag) (mg : Str → Option Value) (base : Heap)
    (CX : CXT) (k : Nat) (f : Addr) (fd : FuncData) (ps : List Str) (sp : Sp) : Prop where
  len : ∀ vs H Q E, sp vs H Q E → vs.length = ps.length
  run : ∀ (A : Around) (outer : List Env) (s : Shared) (H : Hp) (args : Args) (us : List Value) (vs : List V) (Q : VK) (E : XK),
    A.guards = some [] → Room k A → Env0 P w K mg base A outer s H → BindsTo s fd args (ps.zip us) → Vals vs us → sp vs H Q E →
    codeAny (model P w) A (.call (.ref f) args) (CR CX outer P w H s Q E) s
section
variable {P : Program} {w : World} {K : PySem.W.Frag} {mg : Str → Option Value} {base : Heap}
theorem FnOk.g {CX : CXT} {k : Nat} {f : Addr} {fd : FuncData} {ps : List Str} {sp : Sp}
    (F : FnOk P w K mg base CX k f fd ps sp) : FnOkG P w K mg base CX k f fd ps sp :=
  ⟨F.len, fun A outer s H args us vs Q E _ => F.run A outer s H args us vs Q E⟩
theorem FnOkG.mono {CX : CXT} {j k : Nat} {f : Addr} {fd : FuncData} {ps : List Str} {sp : Sp}
    (F : FnOkG P w K mg base CX j f fd ps sp) (h : j ≤ k) : FnOkG P w K mg base CX k f fd ps sp :=
  ⟨F.len, fun A outer s H args us vs Q E hg hr => F.run A outer s H args us vs Q E hg (hr.mono h)⟩
theorem Fun.okG {x qual : Str} {st : Stmt} {f : Addr} {fd : FuncData} {N ps : List Str} {k : Nat} {sp : Sp}
    (F : Fun K x qual st f fd) (S : FnScope N ps (defScope st)) (len : ∀ vs H Q E, sp vs H Q E → vs.length = ps.length)
    (hbody : ∀ (cdv : Value) (A : Around) (outer : List Env) (s : Shared) (H : Hp) (vs : List V) (Q : VK) (E : XK),
      A.guards = some [] → Room k (A.deeper (envOfC qual (defScope st) s.heap.objs.size f cdv)) → sp vs H Q E →
      ∃ t, PSs (cxOf CX0 P w K mg base N qual (defScope st) f cdv A outer s H E).nox (defBody st) t ∧
        t { nx := fun _ H' => Q .non H', rt := Q } (start N vs) H) : FnOkG P w K mg base CX0 (k + 1) f fd ps sp := by
  obtain ⟨oc, od, kV, doc, pm, an, cdv, ct, osl, rfl, lk, hcd⟩ := F.ex
  refine ⟨len, fun A outer s H args us vs Q E gd hr e0 hb r hsp => ?_⟩
  have hl := len vs H Q E hsp
  have lim : s.heap.NoLimit := e0.mod.nolimit.keeps fun b o q => (e0.bs b o q).1
  have kin : K.In s.heap := e0.mod.kin.keeps fun b o q => (e0.bs b o q).1
  have kinds : ∀ y ∈ ps.zip us, (defScope st).names.lookup y.1 = some .local ∨
      ((defScope st).names.lookup y.1 = some .cell ∧ ((cellsFrom (s.heap.objs.size + 1) (defScope st).names []).lookup y.1).isSome = true) := by
    rintro ⟨n, v⟩ hy
    rcases S.par n (List.of_mem_zip hy).1 with q | q
    · exact Or.inl q
    · exact Or.inr ⟨q, PySem.W.cellsFrom_some _ _ _ (Or.inl q)⟩
  refine codeAny_call_function hr.depth (kin _ _ lk) rfl S.co S.gen rfl
    (PySem.W.codeRec_of kin hcd) (hb _ _ _ _ ?_)
  refine wpAny_newFunctionEnv_cells S.kind kinds
    fun env he s1 x => ?_
  subst he
  refine ⟨lim.keeps x.toInCall.keep, codeAny_func ?_⟩
  obtain ⟨t, ht, hq⟩ := hbody cdv A outer s H vs Q E gd (hr.deeper _) hsp
  have I := inv_start (CX := CX0) (mg := mg) (base := base) (cd := cdv) (f := f) (qual := qual) (E := E) S hr.hd e0 hl r x
  refine wpAny_mono (ht.nox.run [] s1 (start N vs) H _ I hq)
    (fun fl s' hs => ?_) fun e s' hs => hs
  cases fl with
  | ret u =>
    obtain ⟨v, σ', H', J, rv, q⟩ := hs
    exact ⟨v, H', J.os, J.bare, J.base, J.hok, rv, q⟩
  | next =>
    obtain ⟨σ', H', J, q⟩ := hs
    exact ⟨V.non, H', J.os, J.bare, J.base, J.hok, rfl, q⟩
  | brk => exact hs.elim fun _ z => z.elim fun _ z => z.2.elim
  | cont => exact hs.elim fun _ z => z.elim fun _ z => z.2.elim
end
section
variable {X : Cx} {CX : CXT} {k : Nat} {f : Addr} {fd : FuncData} {ps : List Str} {sp : Sp} {dvs : List V} {ds : List Value} {E : XK}
theorem run_fnG {pins : List (Addr × Obj)} {σ : St} {H : Hp} {s : Shared} {Q : VK} {us : List Value} {vs : List V}
    (F : FnOkG X.prog X.w X.K X.mg X.base CX k f fd ps sp) (gd : X.A.guards = some []) (hr : Room k X.A)
    (hb : Binds X.K fd ps ds) (hd : Vals dvs ds) (hx : Passes CX X E)
    (I : Inv X pins σ H s) (r : Vals vs us) (h : sp (vs ++ dvs) H Q E) :
    wpAny (model X.prog X.w) X.A (call (.ref f) us) (EP X pins σ Q) X.xe s := by
  have rr : Vals (vs ++ dvs) (us ++ ds) := r.append hd
  have hl : (us ++ ds).length = ps.length := rr.length.symm.trans (F.len _ _ _ _ h)
  refine wpAny_call (codeAny_mono (F.run X.A X.stack s H ⟨us, []⟩ (us ++ ds) (vs ++ dvs) Q E gd hr I.env0 (hb s us I.kIn hl) rr h) ?_)
  rintro (er | fl) s' hq
  · exact hx pins σ H s er s' I hq
  · cases fl with
    | ret u => exact I.after hq
    | next => exact hq.elim
    | brk => exact hq.elim
    | cont => exact hq.elim
theorem pe_callG {x : Str} {p pos : Pos} {e : Expr} {es : List Expr} {t : TA}
    (F : FnOkG X.prog X.w X.K X.mg X.base CX k f fd ps sp) (gd : X.A.guards = some []) (hr : Room k X.A)
    (hg : Gl X x) (hm : X.mg x = some (.ref f)) (hk : PySem.W.keepIn X.K (.ref f) = true)
    (hb : Binds X.K fd ps ds) (hd : Vals dvs ds) (hx : Passes CX X E) (ha : PA X (e :: es) t)
    (hdb : (x == ("__debug__" : Str)) = false := by decide)
    (he : starEach (e :: es) X.env = (false, eval e X.env) :: starEach es X.env := by rfl)
    (hpl : (backTo pos (starEach es X.env)).any (·.1) = false := by rfl) :
    PE X (.Call (.Name x p) (e :: es) [] pos) (tCall sp dvs E t) :=
  ⟨fun pins s σ H Q I h => wpAny_Call_Name_kw (ld_glob I hg hm
    (PySem.W.callWith_K (h₀ := X.base) I.ok.mod.kin hk
      (thn (ha.run pos pins s σ H _ I h) fun us s1 ⟨vs, H1, I1, r, q⟩ => ⟨I1.kIn, run_fnG F gd hr hb hd hx I1 r q⟩) he hpl) hdb)⟩
end
/-- as law_call, by FnOkG -/
theorem law_runG {P : Program} {w : World} {K : PySem.W.Frag} {mg mb : Str → Option Value} {k : Nat} {fa a : Addr} {fd : FuncData} {x : Str}
    {sp : Sp} {s0 : Shared} {vs : List Value} {ns : List Int}
    (KX : K.In s0.heap) (hns : s0.heap.Ns mainGlobals mg) (hb : s0.heap.Ns builtinsNs mb)
    (hbb : ∀ x : Str, x ≠ "__name__" → mb x = bootBuiltins x) (hlim : s0.heap.NoLimit) (hg : s0.gens = #[])
    (ha : s0.heap.get? a = some { cls := .type "list", data := .seq vs.toArray }) (hi : IntsAre vs ns) (hl : ns.length ≤ sizeLine)
    (hr : Room k callerA)
    (F : ∀ base : Heap, K.In base → base.Ns mainGlobals mg → FnOkG P w K mg base CX0 k fa fd [x] sp)
    (hbind : ∀ (s : Shared) (u : Value), BindsTo s fd ⟨[u], []⟩ [(x, u)])
    (hsp : ∀ H : Hp, Only H → SqL K H a (ns.map V.int) → sp [.ref a] H (fun v _ => v = .bl true) fun _ _ _ => False) :
    codeAny (model P w) callerA (.call (.ref fa) ⟨[.ref a], []⟩)
      (fun r s' => r = .ok (.ret (.bool true)) ∧ OldK s0.heap s'.heap ∧ s'.os = s0.os ∧ AllBare s'.gens) s0 := by
  have rv := vals_ints hi
  have lenV := hi.length
  have main : ∀ H : Hp, Only H → SqL K H a (ns.map V.int) → HOk P w H s0.heap → (∀ b, H b ≠ none → b = a) →
      (H a ≠ none → K.lookup a = none) →
      codeAny (model P w) callerA (.call (.ref fa) ⟨[.ref a], []⟩)
        (fun r s' => r = .ok (.ret (.bool true)) ∧ OldK s0.heap s'.heap ∧ s'.os = s0.os ∧ AllBare s'.gens) s0 := by
    intro H hO hS hok hA hK
    have base_of : ∀ {b : Addr} {o : Obj}, s0.heap.get? b = some o → H b = none → (hidT s0.heap H).get? b = some o :=
      fun e n => hidT_get e n
    have nsK : ∀ {b : Addr} {m : Str → Option Value}, s0.heap.Ns b m → (hidT s0.heap H).Ns b m := by
      rintro b m ⟨o, es, ep, e, d, r⟩
      refine ⟨o, es, ep, base_of e ?_, d, r⟩
      cases q : H b with
      | none => rfl
      | some u =>
        have eb : b = a := hA b (by rw [q]; simp)
        rw [eb, ha] at e
        cases e
        exact nomatch (show Data.seq vs.toArray _ = Data.dict es ep from d)
    have kb : K.In (hidT s0.heap H) := by
      intro b o e
      refine base_of (KX b o e) ?_
      cases q : H b with
      | none => rfl
      | some u =>
        have eb : b = a := hA b (by rw [q]; simp)
        rw [eb] at q e
        rw [hK (by rw [q]; simp)] at e
        cases e
    have M : Mod K mg (hidT s0.heap H) := by
      obtain ⟨mc, h1, h2⟩ := hlim
      exact ⟨kb, nsK hns, ⟨mb, nsK hb, hbb⟩, ⟨mc, nsK h1, h2⟩⟩
    have none_in : ∀ b : Addr, b ∉ frs ([] : List Env) := fun b z => absurd (show b ∈ ([] : List Addr) from z) (by simp)
    have e0 : Env0 P w K mg (hidT s0.heap H) callerA [] s0 H :=
      ⟨rfl, M, fun b o e => of_hidT e, Nat.le_of_eq (hidT_size _ _), trivial, fun b z => absurd z (none_in b), hok, .of_eq hg⟩
    have G := F _ kb (nsK hns)
    refine codeAny_mono (G.run callerA [] s0 H ⟨[.ref a], []⟩ [.ref a] [.ref a] _ _ rfl hr e0
      (hbind s0 (.ref a)) (.cons rfl .nil) (hsp H hO hS)) ?_
    rintro (e | fl) s' h
    · exact False.elim h
    · cases fl with
      | ret u =>
        obtain ⟨v, H', os, bare, un, hok', r', q⟩ := h
        cases (show v = .bl true from q)
        cases (show u = Value.bool true from r')
        refine ⟨rfl, OldK.of_keep fun b o e => ?_, os, bare⟩
        cases q : H b with
        | none => exact un.keep b o e q (none_in b) (by simp)
        | some u =>
          rcases hO b with z | ⟨ob, xs, z⟩
          · rw [q] at z
            cases z
          · have e1 := (hok b _ z).1
            have e2 := (hok' b _ (un.frzs b ob _ z)).1
            rw [e] at e1
            cases e1
            exact e2
      | next => exact False.elim h
      | brk => exact False.elim h
      | cont => exact False.elim h
  cases hk : K.lookup a with
  | some o =>
    have e := KX a o hk
    rw [ha] at e
    cases e
    exact main (fun _ => none) (fun _ => .inl rfl)
      (.inr ⟨_, vs.toArray, _, hk, rfl, rfl, rfl, by rw [List.size_toArray, lenV]; exact hl, by simpa using rv⟩)
      (fun b u z => nomatch (show (none : Option HO) = some u from z)) (fun b z => absurd rfl z) (fun z => absurd rfl z)
  | none =>
    let o1 : Obj := { cls := .type "list", data := .seq vs.toArray }
    refine main (fun b => if b = a then some (.frz o1 (.lst (ns.map V.int))) else none) (fun b => ?_)
      (.inl (.inr ⟨o1, if_pos rfl⟩)) (fun b u z => ?_) (fun b z => ?_) fun _ => hk
    · by_cases hba : b = a
      · exact .inr ⟨o1, _, if_pos hba⟩
      · exact .inl (if_neg hba)
    · by_cases hba : b = a
      · cases (if_pos hba).symm.trans z
        subst hba
        exact ⟨ha, by rw [List.length_map]; exact hl, vs, _, rv, ha⟩
      · cases (if_neg hba).symm.trans z
    · by_cases hba : b = a
      · exact hba
      · exact absurd (if_neg hba) z
/-- the end, by FnOkG -/
theorem walk_ofG {l : PySem.W.OpenLaw} {n k : Nat} {q : Program} {loose : List Str} {XP : (Str → Option Value) → Heap → Prop}
    {YP : World → Heap → Prop} {d : DefRec} {K : Params → PySem.W.Frag} {sp : World → Sp} {x : Str}
    (hn : l.most = some n) (hn2 : n ≤ sizeLine) (hdf : d.params.defaults = []) (hr : Room k callerA)
    (hY : ∀ (w : World) (h : Heap), YP w h → (K w.params).In h)
    (F : ∀ (w : World) (mg : Str → Option Value) (fa : Addr) (h : Heap), (K w.params).In h → h.Ns mainGlobals mg → mg d.name = some (.ref fa) →
      ∃ fd : FuncData, (∀ (s : Shared) (u : Value), BindsTo s fd ⟨[u], []⟩ [(x, u)]) ∧
        ∀ base : Heap, (K w.params).In base → base.Ns mainGlobals mg → FnOkG l.prog w (K w.params) mg base CX0 k fa fd [x] (sp w))
    (hsp : ∀ (w : World) (H : Hp) (a : Addr) (ns : List Int), ns.length ≤ n → Only H → SqL (K w.params) H a (ns.map V.int) →
      sp w [.ref a] H (fun v _ => v = .bl true) fun _ _ _ => False) :
    PySem.W.WalkO q loose XP YP l.row.toRowW d [] (fun f vs => PySem.call f vs) := by
  refine Att.attach_call hn hdf fun w s₀ s₁ mg mb fa o pm cd doc a vs ns G Y ho hd hcd hmg hobj hints hlen hg => ?_
  obtain ⟨fd, hb, hF⟩ := F w mg fa _ (hY w _ Y) G.T.g hmg
  exact law_runG (hY w _ Y) G.T.g G.T.b G.T.builtins G.T.nolimit hg hobj hints (Nat.le_trans hlen hn2) hr hF hb
    fun H hO hS => hsp w H a ns hlen hO hS
end L2
namespace L2
open PySem PySem.Spec PyProof.Rows
/-- what was tracked but the object at a stands as it stood -/
def SameBut (a : Addr) (H H' : Hp) : Prop := ∀ b o, b ≠ a → H b = some o → H' b = some o
theorem SameBut.refl {a : Addr} {H : Hp} : SameBut a H H := fun _ _ _ e => e
theorem Same.but {a : Addr} {H H' : Hp} (s : Same H H') : SameBut a H H' := fun b o _ e => s b o e
theorem SameBut.trans {a : Addr} {H H' H2 : Hp} (s : SameBut a H H') (t : SameBut a H' H2) : SameBut a H H2 := fun b o n e => t b o n (s b o n e)
theorem same_new {H : Hp} {p : Addr} {o : HO} (n : H p = none) : Same H (upd H p o) := fun b u e => by
  rw [upd_ne (ne_of_none e n)]
  exact e
theorem but_upd {H : Hp} {p : Addr} {o : HO} : SameBut p H (upd H p o) := fun b u n e => by
  rw [upd_ne n]
  exact e
/-- at a: an error of the class at C that holds v -/
def ErrAt (H : Hp) (a C : Addr) (v : V) : Prop :=
  ∃ d, d ≠ a ∧ H a = some (exo a C (some d)) ∧ H d = some (exd d [("value", v)])
theorem ErrAt.same {H H' : Hp} {a C : Addr} {v : V} (e : ErrAt H a C v) (s : Same H H') : ErrAt H' a C v :=
  let ⟨d, n, h1, h2⟩ := e
  ⟨d, n, s _ _ h1, s _ _ h2⟩
theorem ErrAt.some {H : Hp} {a C : Addr} {v : V} (e : ErrAt H a C v) : ∃ o, H a = some o := let ⟨_, _, h, _⟩ := e; ⟨_, h⟩
theorem exo_lst {e C : Addr} {d : Option Addr} {xs : List V} : exo e C d ≠ .lst xs := fun z =>
  nomatch (show HO.ext _ = HO.lst xs from z)
theorem exd_lst {e : Addr} {fs : List (Str × V)} {xs : List V} : exd e fs ≠ .lst xs := fun z =>
  nomatch (show HO.ext _ = HO.lst xs from z)
/-- a list that stood is changed: an error stays -/
theorem ErrAt.lst {H : Hp} {a C l : Addr} {v : V} {xs ys : List V} (e : ErrAt H a C v) (h : H l = Option.some (.lst xs)) : ErrAt (upd H l (.lst ys)) a C v := by
  obtain ⟨d, n, h1, h2⟩ := e
  refine ⟨d, n, ?_, ?_⟩
  · rw [upd_ne (ne_of h1 h exo_lst)]
    exact h1
  · rw [upd_ne (ne_of h2 h exd_lst)]
    exact h2
/-- what the written part says of an error's class -/
structure ErrC (K : PySem.W.Frag) (fI C : Addr) : Prop where
  oex : OexC K C
  nv : PySem.W.findIn K (.ref C) "value" = some none
  iC : PySem.W.findIn K (.ref C) "__init__" = some (some (.ref fI))
  ga : PySem.W.findIn K (.ref C) "__getattribute__" = some (some (.builtin "BaseException.__getattribute__"))
  gg : PySem.W.findIn K (.ref C) "__getattr__" = some none
  ca : PySem.W.findIn K (.ref C) "__class__" = some (some (.builtin "object.__class__"))
  hd : PySem.W.hasDictIn K C = true
  mo : PySem.W.mroIn K C (.type "object") = some true
  sg : PySem.W.specialIn K (.builtin "object.__class__") "__get__" = some (some (.builtin "getset_descriptor.__get__"))
  st : PySem.W.takesIn K (.builtin "object.__class__") = some true
/-- the promise of the base's __init__ -/
def spErrInit (K : PySem.W.Frag) : Sp := fun vs H Q _ => ∃ (a C fI : Addr) (v : V), vs = [.ref a, v] ∧ ErrC K fI C ∧
  H a = some (exo a C none) ∧
  ∀ H' d, SameBut a H H' → d ≠ a → H d = none → H' a = some (exo a C (some d)) → H' d = some (exd d [("value", v)]) → Q .non H'
/-- C(e) as a value: an error at a new place -/
def tErr (C : Addr) (ta : TA) : TE := fun σ H Q => ta σ H fun vs H1 => ∃ v, vs = [v] ∧
  ∀ a H2, H1 a = none → Same H1 H2 → ErrAt H2 a C v → Q (.ref a) H2
/-- e.value -/
def tErrVal (K : PySem.W.Frag) (te : TE) : TE := fun σ H Q => te σ H fun x H1 => ∃ (a C fI : Addr) (v : V), x = .ref a ∧ ErrC K fI C ∧ ErrAt H1 a C v ∧ Q v H1
/-- isinstance(e, c) -/
def rIsErr (K : PySem.W.Frag) : List V → Hp → VK → Prop := fun xs H Q => ∃ (a C fI : Addr) (v c : V) (cv : Value) (b : Bool), xs = [.ref a, c] ∧
  ErrC K fI C ∧ ErrAt H a C v ∧ ClsV c cv ∧ PySem.W.kitOne K (.ref C) cv = some b ∧ Q (.bl b) H
section
variable {X : Cx} {pins : List (Addr × Obj)} {σ : St} {H : Hp} {s : Shared}
/-- the object of an error, for the machine's own rules -/
theorem err_at (I : Inv X pins σ H s) {a C : Addr} {v : V} (e : ErrAt H a C v) :
    ∃ (t : Addr) (d : Addr) (od : Obj) (u : Value), RelV v u ∧ PySem.W.lookIn "value" od = some (some u) ∧
      PySem.W.InstAt s.heap a { cls := .ref C, dict := some d, data := .fields #[.ref t, .none, .none, .none, .bool false, .none] } C (some od) := by
  obtain ⟨d, ne, h1, h2⟩ := e
  obtain ⟨t, ho⟩ := exo_at I.hok h1
  obtain ⟨mA, hns, rel⟩ := exd_at I.hok h2
  obtain ⟨od, hod, hl⟩ := lookIn_ns hns
  have l : List.lookup ("value" : Str) [(("value" : Str), v)] = some v := by simp [List.lookup]
  obtain ⟨u, hu, ru⟩ := RelO.some_of (v := v) (o := mA "value") (by rw [← l]; exact rel "value")
  exact ⟨t, d, od, u, ru, by rw [hl, hu], ⟨ho, rfl, rfl, hod⟩⟩
end
section
variable {X : Cx} {e : Expr} {es : List Expr} {te : TE} {ta : TA} {x : Str} {p pos : Pos}
theorem mkV_run {CX : CXT} {C fI : Addr} {k : Nat} {fd : FuncData} {ps : List Str} {sp : Sp} {ds : List Value} {dvs : List V}
    {pins : List (Addr × Obj)} {σ : St} {H1 : Hp} {s1 : Shared} {Q : VK} {us : List Value} {vs : List V}
    (T : OexC X.K C) (iC : PySem.W.findIn X.K (.ref C) "__init__" = some (some (.ref fI))) (tI : PySem.W.typeIn X.K (.ref fI) = some (.type "function"))
    (F1 : FnOk X.prog X.w X.K X.mg X.base CX k fI fd ps sp) (hr : Room (k + 1) X.A) (hb : Binds X.K fd ps ds) (hd : Vals dvs ds)
    (hx : Passes CX X (fun _ _ _ => False)) (I1 : Inv X pins σ H1 s1) (r1 : Vals vs us) (hz : vs.length ≤ 1000)
    (q1 : ∀ a, H1 a = none → sp (.ref a :: (vs ++ dvs)) (upd H1 a (exo a C none)) (fun v H2 => v = .non ∧ Q (.ref a) H2) (fun _ _ _ => False)) :
    wpAny (model X.prog X.w) X.A (call (.ref C) us) (EP X pins σ Q) X.xe s1 := by
  obtain ⟨nm, q, N, bs, bm, sn, sub, ab, col, dd, k0, k1, k2, k3, k5, hC, hbm⟩ := T.cls
  obtain ⟨hp, g, dr, tk, os⟩ := s1
  let a : Addr := hp.objs.size + 1
  have hle : hp.objs.size ≤ a := Nat.le_succ _
  have hq := q1 a (I1.hok.fresh hle)
  let hp2 : Heap := (hp.push (PySem.W.kdv_tup us)).push (PySem.HandSPX.excO C hp.objs.size)
  have kk : ∀ b o, hp.get? b = some o → hp2.get? b = some o := fun b o q => Heap.get?_push_of_some _ (Heap.get?_push_of_some _ q)
  have hget : hp2.get? a = some (PySem.HandSPX.excO C hp.objs.size) := by
    show ((hp.push (PySem.W.kdv_tup us)).push (PySem.HandSPX.excO C hp.objs.size)).get? (hp.objs.size + 1) = _
    heap_get
  have I2 : Inv X pins σ (upd H1 a (exo a C none)) ⟨hp2, g, dr, tk, os⟩ :=
    I1.laid (t' := tk) (a := a) (o := exo a C none) (h' := hp2) kk hle (exo_ok hget)
  have r2 : Vals (V.ref a :: (vs ++ dvs)) (Value.ref a :: (us ++ ds)) := .cons rfl (r1.append hd)
  have hl : (Value.ref a :: us ++ ds).length = ps.length :=
    (r2.length.symm.trans (F1.len _ _ _ _ hq))
  have hus : us.length ≤ sizeLine := by
    rw [← Paired.length r1, sizeLine_eq]
    omega
  refine wpAny_call (PySem.HandSPX.call_own F.excBase_ValueError (fun Y => PySem.HandSPX.refsVE_contains Y bm hbm) (I1.kIn _ _ hC)
    (PySem.W.looks_findIn I1.kIn iC) (fun self => PySem.W.bind_fn I1.kIn self tI) hus (codeAny_mono
      (F1.run _ X.stack _ _ ⟨Value.ref a :: us, []⟩ (Value.ref a :: (us ++ ds)) _ _ (fun _ _ _ => False)
        (hr.make C us []) (I2.env0.make C us []) (hb _ (Value.ref a :: us) I2.kIn hl) r2 hq) ?_))
  rintro (er | fl) s' hq'
  · exact hx pins σ _ _ er s' I2 hq'
  · cases fl with
    | ret u =>
      obtain ⟨v, H2, os2, bare2, un2, hok2, rv, ev, q2⟩ := hq'
      subst ev
      exact ⟨rv, .ref a, H2, I2.call' (ch := []) os2 un2 hok2 bare2 (fun b z => absurd z (by simp)), rfl, q2⟩
    | next => exact False.elim hq'
    | brk => exact False.elim hq'
    | cont => exact False.elim hq'
/-- C(e), C a class of errors -/
theorem pe_err {C fI : Addr} {k : Nat} {fd : FuncData} {y1 y2 : Str} (T : ErrC X.K fI C) (tI : PySem.W.typeIn X.K (.ref fI) = some (.type "function"))
    (F1 : FnOk X.prog X.w X.K X.mg X.base CX0 k fI fd [y1, y2] (spErrInit X.K)) (hr : Room (k + 1) X.A) (hb : Binds X.K fd [y1, y2] [])
    (hg : Gl X x) (hm : X.mg x = some (.ref C)) (ha : PA X (e :: es) ta)
    (hdb : (x == ("__debug__" : Str)) = false := by decide)
    (he : starEach (e :: es) X.env = (false, eval e X.env) :: starEach es X.env := by rfl)
    (hpl : (backTo pos (starEach es X.env)).any (·.1) = false := by rfl) :
    PE X (.Call (.Name x p) (e :: es) [] pos) (tErr C ta) := by
  refine ⟨fun pins s σ H Q I h => wpAny_Call_Name_kw (ld_glob I hg hm ?_ hdb)⟩
  refine PySem.W.callWith_K (h₀ := X.base) I.ok.mod.kin T.oex.kC
    (thn (ha.run pos pins s σ H _ I h) fun us s1 ⟨vs, H1, I1, r1, v, ev, q⟩ => ⟨I1.kIn, ?_⟩) he hpl
  subst ev
  refine mkV_run (dvs := []) T.oex T.iC tI F1 hr hb .nil pass0 I1 r1 (by show 1 ≤ 1000; decide)
    fun a na => ⟨a, C, fI, v, rfl, T, upd_same, fun H' d sb nd _ e1 e2 => ⟨rfl, q a H' na (fun b o hb => ?_) ⟨d, nd, e1, e2⟩⟩⟩
  have nb : b ≠ a := ne_of_none hb na
  exact sb b o nb (by rw [upd_ne nb]; exact hb)
theorem pe_errVal (he : PE X e te) (hb : attributeBase e "value" X.env (eval e X.env) = eval e X.env := by rfl) :
    PE X (.Attribute e "value" pos) (tErrVal X.K te) := by
  refine ⟨fun pins s σ H Q I h => attr_of hb (thn (he.run pins s σ H _ I h) fun u s1 hh => ?_)⟩
  obtain ⟨x, H1, I1, rx, a, C, fI, v, ex, T, ea, q⟩ := hh
  subst ex
  cases (show u = Value.ref a from rx)
  obtain ⟨t, d, od, w, rw', hl, J⟩ := err_at I1 ea
  exact HandSPX.exc_get I1.kIn J T.ga T.gg T.oex.exC (PySem.W.findObj_own T.hd T.nv rfl hl) (handed_of rw') ⟨v, H1, I1.tok _, rw', q⟩
theorem call_isErr : CallR X (.builtin "isinstance") (rIsErr X.K) := by
  intro pins s σ H xs us Q I r h
  obtain ⟨a, C, fI, v, c, cv, b, rfl, T, ea, k, e, q⟩ := h
  obtain ⟨u1, u2, rfl, r1, r2⟩ := vals2 r
  cases k.eq r2
  cases (show u1 = Value.ref a from r1)
  obtain ⟨t, d, od, w, _, _, J⟩ := err_at I ea
  have cl : (PySem.W.clsIn X.K C).isSome = true := by
    obtain ⟨cd, hc, _⟩ := PySem.W.any_some T.hd
    rw [hc]
    rfl
  exact PySem.W.kia_one (PySem.W.kitx_exc cl T.ga T.gg T.oex.exC T.ca T.sg T.st T.mo) I.kIn J e (fun z => nomatch z)
    fun tk => ⟨.bl b, H, I.tok tk, rfl, q⟩
end
end L2
namespace L2
open PySem PySem.Spec PyProof.Rows
/-- a key as data -/
def kD : Key → PyData
  | .inl i => .int i
  | .inr x => .str x
mutual
/-- x reads as the data d; its lists do not stand at the place of the module table -/
inductive Dq (H : Hp) : V → PyData → Prop
  | non : Dq H .non .none
  | bl (b : Bool) : Dq H (.bl b) (.bool b)
  | int (i : Int) : Dq H (.int i) (.int i)
  | str (x : Str) : Dq H (.str x) (.str x)
  | lst {a : Addr} {xs : List V} {ds : List PyData} : a ≠ sysModules → H a = some (.lst xs) → DqAll H xs ds → Dq H (.ref a) (.list ds)
  | tup {a : Addr} {xs : List V} {ds : List PyData} : H a = some (.tup xs) → DqAll H xs ds → Dq H (.ref a) (.tuple ds)
  | dic {a : Addr} {kvs : List (Key × V)} {ds : List (PyData × PyData)} : H a = some (.dK kvs) → DqKv H kvs ds → Dq H (.ref a) (.dict ds)
inductive DqAll (H : Hp) : List V → List PyData → Prop
  | nil : DqAll H [] []
  | cons {v : V} {vs : List V} {d : PyData} {ds : List PyData} : Dq H v d → DqAll H vs ds → DqAll H (v :: vs) (d :: ds)
inductive DqKv (H : Hp) : List (Key × V) → List (PyData × PyData) → Prop
  | nil : DqKv H [] []
  | cons {k : Key} {v : V} {kvs : List (Key × V)} {d : PyData} {ds : List (PyData × PyData)} : Dq H v d → DqKv H kvs ds → DqKv H ((k, v) :: kvs) ((kD k, d) :: ds)
end
mutual
theorem Dq.same {H H' : Hp} (s : Same H H') : ∀ {v : V} {d : PyData}, Dq H v d → Dq H' v d
  | _, _, .non => .non
  | _, _, .bl b => .bl b
  | _, _, .int i => .int i
  | _, _, .str x => .str x
  | _, _, .lst n h r => .lst n (s _ _ h) (DqAll.same s r)
  | _, _, .tup h r => .tup (s _ _ h) (DqAll.same s r)
  | _, _, .dic h r => .dic (s _ _ h) (DqKv.same s r)
theorem DqAll.same {H H' : Hp} (s : Same H H') : ∀ {v : List V} {d : List PyData}, DqAll H v d → DqAll H' v d
  | _, _, .nil => .nil
  | _, _, .cons h r => .cons (Dq.same s h) (DqAll.same s r)
theorem DqKv.same {H H' : Hp} (s : Same H H') : ∀ {v : List (Key × V)} {d : List (PyData × PyData)}, DqKv H v d → DqKv H' v d
  | _, _, .nil => .nil
  | _, _, .cons h r => .cons (Dq.same s h) (DqKv.same s r)
end
section
variable {X : Cx} {pins : List (Addr × Obj)} {σ : St} {H : Hp} {s : Shared}
theorem keys_read {h : Heap} {P : Program} {w : World} : ∀ {es : List DictEntry} {vs : List (Key × Value)}, Pairs (mixKind P w) es vs →
    ReadsAll h (es.map (·.key)) (vs.map fun p => kD p.1) [] ∧ es.map (·.val) = vs.map (·.2)
  | _, _, .nil => ⟨.nil, rfl⟩
  | _, _, .cons hk hv r => by
    obtain ⟨h1, h2⟩ := keys_read (h := h) r
    refine ⟨?_, by simp only [List.map_cons, h2, hv]⟩
    rcases keyIs_shape hk with ⟨i, t, e1, e2⟩ | ⟨x, t, e1, e2⟩
    · simp only [List.map_cons, e1, e2]
      exact ReadsAll.cons (as := []) (bs := []) (Reads.int i t) h1
    · simp only [List.map_cons, e1, e2]
      exact ReadsAll.cons (as := []) (bs := []) (Reads.str x t) h1
mutual
theorem Dq.reads (I : Inv X pins σ H s) : ∀ {v : V} {d : PyData} {u : Value}, Dq H v d → RelV v u → ∃ as, Reads s.heap u d as ∧ sysModules ∉ as
  | _, _, _, .non, r => by
    cases r
    exact ⟨[], .none, fun z => nomatch z⟩
  | _, _, _, .bl b, r => by
    cases r
    exact ⟨[], .bool b, fun z => nomatch z⟩
  | _, _, _, .int i, r => by
    obtain ⟨t, rfl⟩ := r
    exact ⟨[], .int i t, fun z => nomatch z⟩
  | _, _, _, .str x, r => by
    obtain ⟨t, rfl⟩ := r
    exact ⟨[], .str x t, fun z => nomatch z⟩
  | _, _, _, .lst n h ra, r => by
    cases r
    obtain ⟨_, its, m, rv, e⟩ := I.hok _ _ h
    obtain ⟨as, q, nq⟩ := DqAll.reads I ra rv
    exact ⟨_, .list e rfl rfl q, fun z => (List.mem_cons.mp z).elim (fun z => n z.symm) nq⟩
  | _, _, _, .tup h ra, r => by
    cases r
    obtain ⟨_, its, rv, o, e, hc, m, hd⟩ := I.hok _ _ h
    obtain ⟨as, q, nq⟩ := DqAll.reads I ra rv
    exact ⟨_, .tuple e hc hd q, nq⟩
  | _, _, _, .dic h ra, r => by
    cases r
    obtain ⟨_, n, vs, rel, o, es, ep, e, ex, hd, _, pr, _⟩ := I.hok _ _ h
    obtain ⟨bs, q, nq, ek⟩ := DqKv.reads I ra rel
    obtain ⟨k1, k2⟩ := keys_read (h := s.heap) pr
    rw [ek] at k1
    rw [← k2] at q
    refine ⟨_, .dict e ex.1 hd k1 q, fun z => ?_⟩
    rcases List.mem_cons.mp (show sysModules ∈ _ :: ([] ++ bs) from z) with z | z
    · rw [← z] at n
      exact Bool.noConfusion n
    · exact nq z
theorem DqAll.reads (I : Inv X pins σ H s) : ∀ {v : List V} {d : List PyData} {u : List Value}, DqAll H v d → Vals v u → ∃ as, ReadsAll s.heap u d as ∧ sysModules ∉ as
  | _, _, _, .nil, .nil => ⟨[], .nil, fun z => nomatch z⟩
  | _, _, _, .cons h t, .cons r rs => by
    obtain ⟨as, q1, n1⟩ := Dq.reads I h r
    obtain ⟨bs, q2, n2⟩ := DqAll.reads I t rs
    exact ⟨_, .cons q1 q2, fun z => (List.mem_append.mp z).elim n1 n2⟩
theorem DqKv.reads (I : Inv X pins σ H s) : ∀ {v : List (Key × V)} {d : List (PyData × PyData)} {u : List (Key × Value)}, DqKv H v d → KV v u →
    ∃ as, ReadsAll s.heap (u.map (·.2)) (d.map (·.2)) as ∧ sysModules ∉ as ∧ (u.map fun p => kD p.1) = d.map (·.1)
  | _, _, _, .nil, .nil => ⟨[], .nil, (fun z => nomatch z), rfl⟩
  | _, _, _, .cons h t, .cons r rs => by
    obtain ⟨as, q1, n1⟩ := Dq.reads I h r.2
    obtain ⟨bs, q2, n2, e⟩ := DqKv.reads I t rs
    refine ⟨_, .cons q1 q2, fun z => (List.mem_append.mp z).elim n1 n2, ?_⟩
    rw [List.map_cons, List.map_cons, e, ← r.1]
end
end
/-- data that repr shows -/
def okShow (d : PyData) : Bool := PyData.showable d && decide (d.shown.length ≤ sizeLine) && decide (d.depth ≤ 60)
/-- repr(x) -/
def rRepr : List V → Hp → VK → Prop := fun xs H Q => ∃ (x : V) (d : PyData), xs = [x] ∧ Dq H x d ∧ okShow d = true ∧ Q (.str d.shown) H
theorem call_repr {X : Cx} (gd : X.A.guards = some []) (hu : X.A.units + 64 < cLine) : CallR X (.builtin "repr") rRepr := by
  intro pins s σ H xs us Q I r h
  obtain ⟨x, d, rfl, hd, ok, q⟩ := h
  obtain ⟨u, rfl, ru⟩ := vals1 r
  unfold okShow at ok
  rw [Bool.and_eq_true, Bool.and_eq_true, decide_eq_true_eq, decide_eq_true_eq] at ok
  obtain ⟨⟨sh, len⟩, dep⟩ := ok
  have ref : ∀ {a : Addr} {as : List Addr}, Reads s.heap (.ref a) d as → sysModules ∉ as →
      wpAny (model X.prog X.w) X.A (call (.builtin "repr") [.ref a]) (EP X pins σ Q) X.xe s := fun rd ns =>
    repr_of_reads' rd sh (fun _ => ns) gd (by omega) (fun _ _ e => e) (fun h' u tk k => ⟨.str d.shown, H, I.kept (t' := tk) k, ⟨u, rfl⟩, q⟩) len
  cases hd with
  | non =>
    cases ru
    exact PySem.P.repr_of_none ⟨.str _, H, I.tok _, ⟨_, rfl⟩, q⟩
  | bl b =>
    cases ru
    exact PySem.P.repr_of_bool ⟨.str _, H, I.tok _, ⟨_, rfl⟩, q⟩
  | int i =>
    obtain ⟨t, rfl⟩ := ru
    exact PySem.P.repr_of_int (by simpa [PyData.showable] using sh) ⟨.str _, H, I.tok _, ⟨_, rfl⟩, q⟩
  | str y =>
    obtain ⟨t, rfl⟩ := ru
    exact PySem.P.repr_of_str ⟨.str _, H, I.tok _, ⟨_, rfl⟩, q⟩ len
  | lst n h ra =>
    obtain ⟨as, rd, ns⟩ := Dq.reads I (.lst n h ra) ru
    cases ru
    exact ref rd ns
  | tup h ra =>
    obtain ⟨as, rd, ns⟩ := Dq.reads I (.tup h ra) ru
    cases ru
    exact ref rd ns
  | dic h ra =>
    obtain ⟨as, rd, ns⟩ := Dq.reads I (.dic h ra) ru
    cases ru
    exact ref rd ns
/-- a new list, not at the place of the module table -/
def tLstS (t : TA) : TE := fun σ H Q => t σ H fun xs H1 => xs.length ≤ sizeLine ∧ ∀ p, H1 p = none → p ≠ sysModules → Q (.ref p) (upd H1 p (.lst xs))
theorem pe_lstS {X : Cx} {es : List Expr} {t : TA} {pos : Pos} (h : PA X es t) : PE X (.List es pos) (tLstS t) := by
  refine ⟨fun pins s σ H Q I hq => wpAny_List_spliced (thn (h.run pos pins s σ H _ I hq) ?_)⟩
  rintro us s1 ⟨xs, H1, I1, r, z, q⟩
  have len : us.length ≤ sizeLine := r.length ▸ z
  have lay := I1.laid (t' := s1.toks) (a := s1.heap.objs.size) (o := .lst xs) (fun b u e => Heap.get?_push_of_some _ e) (Nat.le_refl _)
    ⟨z, us, 0, r, Heap.get?_push_size _ rfl⟩
  exact ⟨len, .ref s1.heap.objs.size, _, lay, rfl, q _ (I1.hok.fresh (Nat.le_refl _)) (Nat.ne_of_gt I1.big)⟩
end L2
namespace L2
open PySem PySem.Spec PyProof.Rows
theorem for_enumL {K : PySem.W.Frag} {a : Addr} {xs : List V} {g : TG} {tb : TS} {D : Ends} {σ : St} {H : Hp} (Pv : Nat → St → Hp → Prop)
    (h0 : Pv 0 σ H) (hl : ∀ i σ H, i ≤ xs.length → Pv i σ H → SqL K H a xs)
    (hs : ∀ i x T σ H, xs[i]? = some x → H T = none → Pv i σ H →
      g (.ref T) σ (upd H T (.tup [.int (i : Nat), x])) fun σ2 H2 => tb { D with nx := Pv (i + 1), ct := Pv (i + 1), bk := D.nx } σ2 H2)
    (hd : ∀ σ H, Pv xs.length σ H → D.nx σ H) :
    ∃ W : Nat → Nat → St → Hp → Prop, (∃ m, W 0 m σ H) ∧ ∀ i m σ H, W i m σ H →
      ((Ite K a).stop i H ∧ D.nx σ H) ∨ ((Ite K a).go i H ∧ ∃ N : St → Hp → Prop, (∀ σ' H', N σ' H' → ∃ m', m' < m ∧ W (i + 1) m' σ' H') ∧
        ∀ x H', (Ite K a).yld i H x H' → g x σ H' fun σ2 H2 => tb { D with nx := N, ct := N, bk := D.nx } σ2 H2) := by
  refine ⟨fun i m σ H => m = xs.length - i ∧ i ≤ xs.length ∧ Pv i σ H, ⟨_, rfl, Nat.zero_le _, h0⟩, ?_⟩
  rintro i m σ H ⟨em, hi, p⟩
  subst em
  have q := hl i σ H hi p
  rcases Nat.lt_or_eq_of_le hi with hlt | rfl
  · refine .inr ⟨⟨xs, xs[i], q, List.getElem?_eq_getElem hlt⟩, Pv (i + 1), fun σ' H' p' => ⟨_, ?_, rfl, hlt, p'⟩, ?_⟩
    · show xs.length - (i + 1) < xs.length - i
      omega
    · rintro x H' ⟨T, y, ex, nT, eH, hy⟩
      subst ex eH
      exact hs i y T σ H (hy xs q) nT p
  · exact .inl ⟨⟨xs, q, Nat.le_refl _⟩, hd σ H p⟩
/-- what stands in H' at places that H does not track -/
def fresh (H H' : Hp) : Hp := fun b => match H b with
  | none => H' b
  | some _ => none
theorem fresh_at {H H' : Hp} {b : Addr} (h : H b = none) : fresh H H' b = H' b := by
  unfold fresh
  rw [h]
theorem of_fresh {H H' : Hp} {b : Addr} {o : HO} (e : fresh H H' b = some o) : H b = none ∧ H' b = some o := by
  cases h : H b with
  | none => exact ⟨rfl, by rwa [fresh_at h] at e⟩
  | some u =>
    unfold fresh at e
    rw [h] at e
    cases e
/-- what is fresh stands still where only what was tracked changes -/
theorem fresh_but {H H1 H2 : Hp} {p : Addr} (hp : ∃ o, H p = some o) (s : SameBut p H1 H2) : Same (fresh H H1) H2 := fun b o e => by
  obtain ⟨n, e1⟩ := of_fresh e
  refine s b o (fun z => ?_) e1
  obtain ⟨u, hu⟩ := hp
  rw [z, hu] at n
  cases n
theorem none_of_same {H H' : Hp} {b : Addr} (s : Same H H') (n : H' b = none) : H b = none := by
  cases h : H b with
  | none => rfl
  | some o =>
    rw [s b o h] at n
    cases n
/-- something new was laid at d, then changed: what was tracked ahead of it stands -/
theorem but_new {p d : Addr} {H H2 : Hp} {o o' : HO} (n : H d = none) (s : SameBut p (upd H d o) H2) : SameBut p H (upd H2 d o') := fun b u nb e => by
  have nd := ne_of_none e n
  rw [upd_ne nd]
  exact s b u nb (same_new n b u e)
theorem take_more {α : Type} {l : List α} {i : Nat} {x : α} (h : l[i]? = some x) : l.take (i + 1) = l.take i ++ [x] := by
  obtain ⟨hi, e⟩ := List.getElem?_eq_some_iff.mp h
  rw [List.take_succ, h]
  rfl
theorem if_eqF {b : Bool} {A B : Prop} (hb : b = false) (h : B) : if b = true then A else B := by
  rw [if_neg (by rw [hb]; exact Bool.false_ne_true)]
  exact h
theorem if_eqT {b : Bool} {A B : Prop} (hb : b = true) (h : A) : if b = true then A else B := by
  rw [if_pos hb]
  exact h
theorem dp_bools {K : PySem.W.Frag} {H : Hp} : ∀ bs : List Bool, DpAll K H (bs.map V.bl) (bs.map PyData.bool)
  | [] => .nil
  | b :: bs => .cons (.bl b) (dp_bools bs)
end L2
namespace PySem
open Builtin PyProof.Rows
namespace AdE
theorem typeCall1 (a : Value) : checkTypeCall "enumerate" ⟨[a], []⟩ = pure () := by kernel_rfl
theorem newCall1 (a : Value) : checkBuiltinCall "enumerate.__new__" ⟨[.type "enumerate", a], []⟩ = pure () := by kernel_rfl
theorem objInit1 (obj a : Value) : argsOk "object.__init__" ⟨[obj, a], []⟩ := by unfold argsOk; kernel_rfl
theorem sub_enum : isSubtype (.type "enumerate") (.type "enumerate") = pure true := by kernel_rfl
set_option maxHeartbeats 2000000 in
theorem new1 {v : Value} {o : Obj} {H : Heap → Prop} (B : Begins v o H) :
    Meets (Builtin.«enumerate.__new__» ⟨[.type "enumerate", v], []⟩) (fun _ R s => H s.heap ∧
      R (.ok (.ret (.ref (s.heap.push o).objs.size))) { s with heap := (s.heap.push o).push { cls := .type "enumerate", data := .fields #[.none, .bool false, .ref s.heap.objs.size, rawInt 0, .none, .none] } }) := by
  refine .of_wp fun prog w A R s h => ?_
  obtain ⟨hp, g, d, tk, os⟩ := s
  obtain ⟨h1, h⟩ := h
  have hsub := sub_enum
  have q1 : ∀ {A' : Around} {E : Value → Shared → Prop} {Q : Value → Shared → Prop}, Q (.ref hp.objs.size) ⟨hp.push o, g, d, tk, os⟩ →
      wpAny (model prog w) A' (pyIter v) Q E ⟨hp, g, d, tk, os⟩ := fun q => B.iter prog w _ _ ⟨hp, g, d, tk, os⟩ _ h1 q
  wp_walk using q1
  refine wpAny_stack_any fun st => wpAny_pure ?_
  split
  · rename_i c _ _ _ _ _
    cases (c == Value.type "enumerate")
    · wp_walk using q1
      exact ⟨_, rfl, h⟩
    · wp_walk using q1
      exact ⟨_, rfl, h⟩
  · wp_walk using q1
    exact ⟨_, rfl, h⟩
section
variable {prog : Program} {w : World} {A : Around} {E : Value → Shared → Prop} {s : Shared}
/-- enumerate(v): its two new cells -/
theorem begins1 {v : Value} {o : Obj} {H : Heap → Prop} {Q : Value → Shared → Prop} (B : Begins v o H) (h1 : H s.heap)
    (h : ∀ h', IsEnum h' (s.heap.objs.size + 1) s.heap.objs.size 0 .none → h'.get? s.heap.objs.size = some o → h'.objs.size = s.heap.objs.size + 2 →
      (∀ b o, s.heap.get? b = some o → h'.get? b = some o) → Q (.ref (s.heap.objs.size + 1)) { s with heap := h' }) :
    wpAny (model prog w) A (call (.type "enumerate") [v]) Q E s := by
  refine callType_new F.called_enumerate (by decide) (typeCall1 _) (newCall1 _) (fun obj => objInit1 obj _) F.entry_enumerate_new (new1 B) ⟨h1, ?_⟩
  have sz : (s.heap.push o).objs.size = s.heap.objs.size + 1 := Heap.size_push ..
  show _ ∧ _
  rw [sz]
  let e : Obj := { cls := .type "enumerate", data := .fields #[.none, .bool false, .ref s.heap.objs.size, rawInt 0, .none, .none] }
  have he : IsEnum ((s.heap.push o).push e) (s.heap.objs.size + 1) s.heap.objs.size 0 .none := by
    have q := Heap.get?_push_size (s.heap.push o) (o := e) rfl
    rw [sz] at q
    exact q
  exact ⟨⟨_, he, rfl⟩, h _ he (Heap.get?_push_of_some _ (Heap.get?_push_size _ B.free)) (by rw [Heap.size_push, sz])
    fun b o x => Heap.get?_push_of_some _ (Heap.get?_push_of_some _ x)⟩
end
end AdE
end PySem
namespace L2
open PySem PySem.Spec PyProof.Rows
/-- a list or a tuple of these stands at a -/
def SqS (K : PySem.W.Frag) (H : Hp) (a : Addr) (xs : List V) : Prop := SqL K H a xs ∨ SqT K H a xs
theorem Same.trans' {H1 H2 H3 : Hp} (t : Same H2 H3) (s : Same H1 H2) : Same H1 H3 := fun b o e => t b o (s b o e)
theorem Same.tup {K : PySem.W.Frag} {H H' : Hp} {a : Addr} {xs : List V} (e : Same H H') (h : SqT K H a xs) : SqT K H' a xs :=
  h.elim (fun z => .inl (z.elim (fun q => .inl (e _ _ q)) fun ⟨o, q⟩ => .inr ⟨o, e _ _ q⟩)) .inr
theorem seqS {K : PySem.W.Frag} {H H' : Hp} {a : Addr} {xs : List V} (s : Same H H') (h : SqS K H a xs) : SqS K H' a xs := h.elim (fun z => .inl (s.seq z)) fun z => .inr (s.tup z)
section
variable {X : Cx} {tg : Expr}
def iSeq (K : PySem.W.Frag) (te : TE) : TI := fun σ H R => te σ H fun x H1 => ∃ a, x = .ref a ∧
  (((∃ xs, SqL K H1 a xs) ∧ R (Itl K a) H1) ∨ ((∃ xs, SqT K H1 a xs) ∧ R (Itt K a) H1))
theorem pi_seq {l : Expr} {te : TE} (hl : PE X l te) : PI X tg l (iSeq X.K te) := by
  refine ⟨fun pins s σ H R I h => thn (hl.run pins s σ H _ I h) ?_⟩
  rintro v s1 ⟨x, H1, I1, r1, a, rfl, q⟩
  cases r1
  have new : ∀ b ∈ [s1.heap.objs.size], FpOk X pins H1 b := fun b hb => by
    cases List.mem_singleton.mp hb
    exact I1.fpOk (Nat.le_refl _) (I1.hok.fresh (Nat.le_refl _))
  have keep : ∀ o : Obj, Inv X pins σ H1 { s1 with heap := s1.heap.push o } := fun o => I1.kept (t' := s1.toks) fun b u e => Heap.get?_push_of_some _ e
  rcases q with ⟨⟨xs, hq⟩, q⟩ | ⟨⟨xs, hq⟩, q⟩
  · obtain ⟨its, rv, p, hz⟩ := I1.list hq
    exact wpAny_pyIter_list p.isList ⟨_, [s1.heap.objs.size], _, _, H1, rfl, keep _, turn_list a _, ⟨_, Heap.get?_push_size _ rfl, rfl, rfl⟩, new, q⟩
  · obtain ⟨its, rv, p, hz⟩ := I1.tuple hq
    exact wpAny_pyIter_tuple (show s1.heap.IsTuple a its.toArray from p) ⟨_, [s1.heap.objs.size], _, _, H1, rfl, keep _, turn_tuple a _, ⟨_, Heap.get?_push_size _ rfl, rfl, rfl⟩, new, q⟩
/-- pairs of a count from k on and the tuple's items -/
def Itet (K : PySem.W.Frag) (k : Int) (a : Addr) : It :=
  ⟨fun i H => ∃ (xs : List V) (x : V), SqT K H a xs ∧ xs[i]? = some x,
    fun i H v H' => ∃ T x, v = .ref T ∧ H T = none ∧ H' = upd H T (.tup [.int (k + (i : Nat)), x]) ∧ ∀ xs, SqT K H a xs → xs[i]? = some x,
    fun i H => ∃ xs : List V, SqT K H a xs ∧ xs.length = i⟩
/-- the same of a list -/
def Itel (K : PySem.W.Frag) (k : Int) (a : Addr) : It :=
  ⟨fun i H => ∃ (xs : List V) (x : V), SqL K H a xs ∧ xs[i]? = some x,
    fun i H v H' => ∃ T x, v = .ref T ∧ H T = none ∧ H' = upd H T (.tup [.int (k + (i : Nat)), x]) ∧ ∀ xs, SqL K H a xs → xs[i]? = some x,
    fun i H => ∃ xs : List V, SqL K H a xs ∧ xs.length = i⟩
theorem turn_enumT {P : Program} {w : World} {K : PySem.W.Frag} {elts : List Expr} {kk : Nat} {tpos : Pos} (k : Int) (a e it : Addr) :
    Turn P w K (.Tuple elts kk tpos) (Itet K k a) [e, it] e (fun i h => (∃ old, IsEnum h e it (k + ((i : Nat) : Int)) old) ∧ h.IsTupleIter it a i ∧ e ≠ it ∧ a ≠ it ∧ a ≠ e) where
  mem := by simp
  obj := fun i h st b hb => by
    obtain ⟨⟨old, he⟩, ⟨o, ho, hc, hd⟩, _⟩ := st
    rcases (by simpa using hb : b = e ∨ b = it) with z | z
    · rw [z]
      exact ⟨_, he, (fun v q => nomatch q)⟩
    · rw [z]
      exact ⟨o, ho, fun v q => by rw [hd] at q; cases q⟩
  keep := fun i h h' st kp => let ⟨⟨old, he⟩, hi, r⟩ := st; ⟨⟨old, kp e (by simp) _ he⟩, hi.at fun o q => kp it (by simp) o q, r⟩
  item := by
    intro X hP hw hK hc i pins s σ H E I hf st hg
    subst hP hw hK
    obtain ⟨⟨old, he⟩, hit, hne, n1, n2⟩ := st
    obtain ⟨xs, x, hq, hx⟩ := hg
    obtain ⟨its, rv, p, hz⟩ := I.tuple hq
    obtain ⟨u, hu, ru⟩ := rv.get hx
    have hel : e < s.heap.objs.size := Heap.lt_size he
    have hil : it < s.heap.objs.size := by
      obtain ⟨_, q, _⟩ := hit
      exact Heap.lt_size q
    have D := Draws.tuple (prog := X.prog) (w := X.w) (A := X.A.in1) (I.ok.hd hc) it a n1 its.toArray
    have hsz : its.toArray.size = its.length := by simp
    have hlt : i < its.toArray.size := by
      rw [hsz]
      exact (List.getElem?_eq_some_iff.mp hu).1
    refine wpAny_pyNext_enum_itemC D he ⟨hit, show s.heap.IsTuple a its.toArray from p⟩ hlt hne (by simp [hne, n2.symm]) fun u' h' tk hu' ho hst' hT hszz hk => ?_
    obtain rfl : u' = u := by
      have q : its[i]? = some u' := by simpa using hu'
      rw [hu] at q
      exact (Option.some.inj q).symm
    refine ⟨_, rfl, wpAny_letOwnedTupleGo_enum (s := { s with heap := h', toks := tk + 1 }) ho fun h2 he2 sb => ?_⟩
    have hT2 := (sb.2 _ (Nat.ne_of_gt hel)).trans hT
    have new : ObjOk X.prog X.w (upd H s.heap.objs.size (.tup [.int (k + (i : Nat)), x])) h2 s.heap.objs.size (.tup [.int (k + (i : Nat)), x]) :=
      ⟨by show 2 ≤ sizeLine; decide, [.int (k + (i : Nat)) tk, u'], .cons ⟨_, rfl⟩ (.cons ru .nil), ⟨_, hT2, rfl, _, rfl⟩⟩
    have I1 : Inv X pins σ (upd H s.heap.objs.size (.tup [.int (k + (i : Nat)), x])) { s with heap := h2, toks := tk + 1 } :=
      I.turnedNew (ch := [e, it]) (fun b ob hb q => (sb.2 b (fun z => hb (by simp [z]))).trans (hk b ob (fun z => hb (by simp [z])) (fun z => hb (by simp [z])) q)) hf (Nat.le_refl _) new
    refine ⟨.ref s.heap.objs.size, _, I1, rfl, ⟨_, x, rfl, I.hok.fresh (Nat.le_refl _), rfl, fun ys hy => by rw [I.tuple_inj hy hq]; exact hx⟩,
      ⟨⟨u', ?_⟩, hst'.1.at fun o q => (sb.2 it (Ne.symm hne)).trans q, hne, n1, n2⟩, fun b hb => ?_⟩
    · rw [show k + ((i + 1 : Nat) : Int) = k + (i : Nat) + 1 by omega]
      exact he2
    · have hb' : b < s.heap.objs.size := by
        rcases (by simpa using hb : b = e ∨ b = it) with z | z
        · rw [z]; exact hel
        · rw [z]; exact hil
      rw [upd_ne (Nat.ne_of_lt hb')]
      exact (hf b hb).1
  done := by
    intro X hP hw hK hc i pins s σ H E I hf st hg
    subst hP hw hK
    obtain ⟨⟨old, he⟩, hit, hne, n1, n2⟩ := st
    obtain ⟨xs, hq, hx⟩ := hg
    obtain ⟨its, rv, p, hz⟩ := I.tuple hq
    obtain ⟨f0, f1, f2, f3, f4, f5⟩ := hf it (by simp)
    have hl := rv.length
    have D := Draws.tuple (prog := X.prog) (w := X.w) (A := X.A.in1) (I.ok.hd hc) it a n1 its.toArray
    have ei : i = its.toArray.size := by
      rw [← hx, hl]
      simp
    subst ei
    exact wpAny_pyNext_enum_endD D he ⟨hit, show s.heap.IsTuple a its.toArray from p⟩ fun h' hxb => ⟨rfl, I.turned (t' := s.toks) (fun b o hb q => hxb b o hb q) f0 f1 f3 f4 f5⟩
  self := fun A i s Q E st h => let ⟨⟨_, he⟩, _⟩ := st; wpAny_pyIter_enum he h
theorem turn_enumL {P : Program} {w : World} {K : PySem.W.Frag} {elts : List Expr} {kk : Nat} {tpos : Pos} (k : Int) (a e it : Addr) :
    Turn P w K (.Tuple elts kk tpos) (Itel K k a) [e, it] e (fun i h => (∃ old, IsEnum h e it (k + ((i : Nat) : Int)) old) ∧ h.IsListIter it a i ∧ e ≠ it ∧ a ≠ it ∧ a ≠ e) where
  mem := by simp
  obj := fun i h st b hb => by
    obtain ⟨⟨old, he⟩, ⟨o, ho, hc, hd⟩, _⟩ := st
    rcases (by simpa using hb : b = e ∨ b = it) with z | z
    · rw [z]
      exact ⟨_, he, (fun v q => nomatch q)⟩
    · rw [z]
      exact ⟨o, ho, fun v q => by rw [hd] at q; cases q⟩
  keep := fun i h h' st kp => let ⟨⟨old, he⟩, hi, r⟩ := st; ⟨⟨old, kp e (by simp) _ he⟩, hi.at fun o q => kp it (by simp) o q, r⟩
  item := by
    intro X hP hw hK hc i pins s σ H E I hf st hg
    subst hP hw hK
    obtain ⟨⟨old, he⟩, hit, hne, n1, n2⟩ := st
    obtain ⟨xs, x, hq, hx⟩ := hg
    obtain ⟨its, rv, p, hz⟩ := I.list hq
    obtain ⟨u, hu, ru⟩ := rv.get hx
    have hel : e < s.heap.objs.size := Heap.lt_size he
    have hil : it < s.heap.objs.size := by
      obtain ⟨_, q, _⟩ := hit
      exact Heap.lt_size q
    have D := Draws.list (prog := X.prog) (w := X.w) (A := X.A.in1) (I.ok.hd hc) it a n1 its.toArray
    have hsz : its.toArray.size = its.length := by simp
    have hlt : i < its.toArray.size := by
      rw [hsz]
      exact (List.getElem?_eq_some_iff.mp hu).1
    refine wpAny_pyNext_enum_itemC D he ⟨hit, p.isList⟩ hlt hne (by simp [hne, n2.symm]) fun u' h' tk hu' ho hst' hT hszz hk => ?_
    obtain rfl : u' = u := by
      have q : its[i]? = some u' := by simpa using hu'
      rw [hu] at q
      exact (Option.some.inj q).symm
    refine ⟨_, rfl, wpAny_letOwnedTupleGo_enum (s := { s with heap := h', toks := tk + 1 }) ho fun h2 he2 sb => ?_⟩
    have hT2 := (sb.2 _ (Nat.ne_of_gt hel)).trans hT
    have new : ObjOk X.prog X.w (upd H s.heap.objs.size (.tup [.int (k + (i : Nat)), x])) h2 s.heap.objs.size (.tup [.int (k + (i : Nat)), x]) :=
      ⟨by show 2 ≤ sizeLine; decide, [.int (k + (i : Nat)) tk, u'], .cons ⟨_, rfl⟩ (.cons ru .nil), ⟨_, hT2, rfl, _, rfl⟩⟩
    have I1 : Inv X pins σ (upd H s.heap.objs.size (.tup [.int (k + (i : Nat)), x])) { s with heap := h2, toks := tk + 1 } :=
      I.turnedNew (ch := [e, it]) (fun b ob hb q => (sb.2 b (fun z => hb (by simp [z]))).trans (hk b ob (fun z => hb (by simp [z])) (fun z => hb (by simp [z])) q)) hf (Nat.le_refl _) new
    refine ⟨.ref s.heap.objs.size, _, I1, rfl, ⟨_, x, rfl, I.hok.fresh (Nat.le_refl _), rfl, fun ys hy => by rw [I.list_inj hy hq]; exact hx⟩,
      ⟨⟨u', ?_⟩, hst'.1.at fun o q => (sb.2 it (Ne.symm hne)).trans q, hne, n1, n2⟩, fun b hb => ?_⟩
    · rw [show k + ((i + 1 : Nat) : Int) = k + (i : Nat) + 1 by omega]
      exact he2
    · have hb' : b < s.heap.objs.size := by
        rcases (by simpa using hb : b = e ∨ b = it) with z | z
        · rw [z]; exact hel
        · rw [z]; exact hil
      rw [upd_ne (Nat.ne_of_lt hb')]
      exact (hf b hb).1
  done := by
    intro X hP hw hK hc i pins s σ H E I hf st hg
    subst hP hw hK
    obtain ⟨⟨old, he⟩, hit, hne, n1, n2⟩ := st
    obtain ⟨xs, hq, hx⟩ := hg
    obtain ⟨its, rv, p, hz⟩ := I.list hq
    obtain ⟨f0, f1, f2, f3, f4, f5⟩ := hf it (by simp)
    have hl := rv.length
    have D := Draws.list (prog := X.prog) (w := X.w) (A := X.A.in1) (I.ok.hd hc) it a n1 its.toArray
    have ei : i = its.toArray.size := by
      rw [← hx, hl]
      simp
    subst ei
    exact wpAny_pyNext_enum_endD D he ⟨hit, p.isList⟩ fun h' hxb => ⟨rfl, I.turned (t' := s.toks) (fun b o hb q => hxb b o hb q) f0 f1 f3 f4 f5⟩
  self := fun A i s Q E st h => let ⟨⟨_, he⟩, _⟩ := st; wpAny_pyIter_enum he h

def iEnumT (K : PySem.W.Frag) (ta : TA) : TI := fun σ H R => ta σ H fun vs H1 => ∃ a xs, vs = [.ref a] ∧ SqT K H1 a xs ∧ R (Itet K 0 a) H1
theorem pi_enumT {e : Expr} {ta : TA} {p pos tpos : Pos} {elts : List Expr} {kk : Nat} (hg : Gl X "enumerate") (hm : X.mg "enumerate" = none) (ha : PA X [e] ta)
    (hs : starEach [e] X.env = [(false, eval e X.env)] := by rfl) : PI X (.Tuple elts kk tpos) (.Call (.Name "enumerate" p) [e] [] pos) (iEnumT X.K ta) := by
  refine ⟨fun pins s σ H R I h => Call_ (ld_blt I hg hm boot_enumerate (PyProof.Rows.callWith_type1 (thn (ha.run pos pins s σ H _ I h) ?_) hs rfl))⟩
  rintro us s1 ⟨vs, H1, I1, r1, a, xs, rfl, hq, q⟩
  cases r1 with
  | cons r rr =>
    cases rr
    cases r
    obtain ⟨its, rv, p', hz⟩ := I1.tuple hq
    have al : a < s1.heap.objs.size := by
      obtain ⟨o, q, _⟩ := p'
      exact Heap.lt_size q
    refine AdE.begins1 (begins_tuple a its.toArray) (show s1.heap.IsTuple a its.toArray from p') fun h' he hit hsz hk => wpAny_pyIter_enum he ?_
    refine ⟨s1.heap.objs.size + 1, [s1.heap.objs.size + 1, s1.heap.objs.size], _, _, H1, rfl, I1.kept (t' := s1.toks) hk, turn_enumT 0 a (s1.heap.objs.size + 1) s1.heap.objs.size,
      ⟨⟨.none, he⟩, ⟨_, hit, rfl, rfl⟩, Nat.succ_ne_self _, Nat.ne_of_lt al, Nat.ne_of_lt (Nat.lt_succ_of_lt al)⟩, fun b hb => ?_, q⟩
    have hle : s1.heap.objs.size ≤ b := by
      rcases (by simpa using hb : b = s1.heap.objs.size + 1 ∨ b = s1.heap.objs.size) with z | z
      · rw [z]; exact Nat.le_succ _
      · rw [z]; exact Nat.le_refl _
    exact I1.fpOk hle (I1.hok.fresh hle)
theorem callWith_typeK {M : Model} {A : Around} {E : Value → Shared → Prop} {s : Shared} {env : Env} {pos : Pos} {T : String} {e : Expr} {rest : List Expr} {kws : List Keyword} {Q : Value → Shared → Prop}
    (h : wpAny M A (spliced (backTo pos (starEach (e :: rest) env))) (fun vs s₁ => wpAny M A (evalAll ((backToKw pos (keywordEach kws env)).map (·.2)))
      (fun kvs s₂ => wpAny M A (call (.type T) vs (((backToKw pos (keywordEach kws env)).filterMap (·.1)).zip kvs)) Q E s₂) E s₁) E s)
    (he : backTo pos (starEach (e :: rest) env) = (false, eval e env) :: backTo pos (starEach rest env) := by rfl)
    (hplain : (backTo pos (starEach (e :: rest) env)).any (·.1) = false := by rfl)
    (hall : (backToKw pos (keywordEach kws env)).all (·.1.isSome) = true := by rfl)
    (hkw : (backToKw pos (keywordEach kws env)).any (·.1.isNone) = false := by rfl) :
    wpAny M A (callWith pos (.type T) [] (backTo pos (starEach (e :: rest) env)) (backToKw pos (keywordEach kws env))) Q E s := by
  unfold callWith
  rw [he] at h hplain ⊢
  have h2 : wpAny M A (evalArgs (.type T) true ((false, eval e env) :: backTo pos (starEach rest env)) (backToKw pos (keywordEach kws env)))
      (fun a s₁ => wpAny M A (call (.type T) ([] ++ a.pos) a.kw) Q E s₁) E s := evalArgs_kwB hall h
  refine wpAny_bind (wpAny_holding (wpAny_mono h2 (fun a s₁ h₁ => wpAny_bind (wpAny_standAt ?_)) fun _ _ x => x))
  simp only [hplain, hkw, Bool.or_false]
  refine wpAny_bind (wpAny_pure ?_)
  exact wpAny_bind (wpAny_mono h₁ (fun r s₂ hr => wpAny_bind (wpAny_holding (wpAny_point (wpAny_pure hr)))) fun _ _ x => x)
def iEnumK (K : PySem.W.Frag) (ta tk : TA) : TI := fun σ H R => ta σ H fun vs H1 => tk σ H1 fun zs H2 => ∃ (a : Addr) (xs : List V) (k : Int), vs = [.ref a] ∧ zs = [.int k] ∧
  -(2 ^ 63) ≤ k ∧ k < 2 ^ 63 ∧ SqL K H2 a xs ∧ R (Itel K k a) H2
theorem pi_enumK {e : Expr} {kws : List Keyword} {ta tk : TA} {p pos tpos : Pos} {elts : List Expr} {kk : Nat} (hg : Gl X "enumerate") (hm : X.mg "enumerate" = none) (ha : PA X [e] ta) (hk : PK X kws tk)
    (he : backTo pos (starEach (e :: []) X.env) = (false, eval e X.env) :: backTo pos (starEach [] X.env) := by rfl) (hpl : (backTo pos (starEach (e :: []) X.env)).any (·.1) = false := by rfl)
    (hall : (backToKw pos (keywordEach kws X.env)).all (·.1.isSome) = true := by rfl) (hnone : (backToKw pos (keywordEach kws X.env)).any (·.1.isNone) = false := by rfl)
    (hks : (backToKw pos (keywordEach kws X.env)).filterMap (·.1) = [Str.ofString "start"] := by rfl) :
    PI X (.Tuple elts kk tpos) (.Call (.Name "enumerate" p) [e] kws pos) (iEnumK X.K ta tk) := by
  refine ⟨fun pins s σ H R I h => wpAny_Call_Name_kw (ld_blt I hg hm boot_enumerate (callWith_typeK (thn (ha.run pos pins s σ H _ I h) fun us s1 ⟨vs, H1, I1, r1, q1⟩ => thn (hk.run pos pins s1 σ H1 _ I1 q1) ?_) he hpl hall hnone))⟩
  rintro ws s2 ⟨zs, H2, I2, r2, a, xs, k, rfl, rfl, k0, k1, hq, q⟩
  rw [hks]
  cases r1 with
  | cons r rr =>
    cases rr
    cases r
    cases r2 with
    | cons r' rr' =>
      cases rr'
      obtain ⟨t, rfl⟩ := r'
      obtain ⟨its, rv, p', hz⟩ := I2.list hq
      have al : a < s2.heap.objs.size := by
        obtain ⟨o, n, q, _⟩ := p'
        exact Heap.lt_size q
      refine enum_begins_start (begins_list a its.toArray) p'.isList k0 k1 fun h' he hit hsz hk => wpAny_pyIter_enum he ?_
      refine ⟨s2.heap.objs.size + 1, [s2.heap.objs.size + 1, s2.heap.objs.size], _, _, H2, rfl, I2.kept (t' := s2.toks) hk, turn_enumL k a (s2.heap.objs.size + 1) s2.heap.objs.size,
        ⟨⟨.none, by rw [show k + ((0 : Nat) : Int) = k by omega]; exact he⟩, ⟨_, hit, rfl, rfl⟩, Nat.succ_ne_self _, Nat.ne_of_lt al, Nat.ne_of_lt (Nat.lt_succ_of_lt al)⟩, fun b hb => ?_, q⟩
      have hle : s2.heap.objs.size ≤ b := by
        rcases (by simpa using hb : b = s2.heap.objs.size + 1 ∨ b = s2.heap.objs.size) with z | z
        · rw [z]; exact Nat.le_succ _
        · rw [z]; exact Nat.le_refl _
      exact I2.fpOk hle (I2.hok.fresh hle)
end
section
variable {K : PySem.W.Frag} {a : Addr} {xs : List V}
/-- pairs of a count and the items -/
theorem walk_enumT {k : Int} : Walk (Itet K k a) xs.length (fun H => SqT K H a xs) (YPair (fun i => some (.int (k + (i : Nat)))) (fun i => xs[i]?)) := by
  refine ⟨fun i H hi h => ⟨xs, xs[i], h, List.getElem?_eq_getElem hi⟩, fun H h => ⟨xs, h, rfl⟩, fun i H v H' hi h y => ?_⟩
  obtain ⟨T, x, e1, e2, e3, e4⟩ := y
  exact ⟨T, _, x, e1, e2, e3, rfl, e4 xs h⟩
theorem walk_enumK {k : Int} : Walk (Itel K k a) xs.length (fun H => SqL K H a xs) (YPair (fun i => some (.int (k + (i : Nat)))) (fun i => xs[i]?)) := by
  refine ⟨fun i H hi h => ⟨xs, xs[i], h, List.getElem?_eq_getElem hi⟩, fun H h => ⟨xs, h, rfl⟩, fun i H v H' hi h y => ?_⟩
  obtain ⟨T, x, e1, e2, e3, e4⟩ := y
  exact ⟨T, _, x, e1, e2, e3, rfl, e4 xs h⟩
end
end L2
namespace NetM
open PySem L2
/-- the natural number in a slot -/
def slotInt (σ : List (Option V)) (i : Nat) : Nat := match σ[i]? with
  | Option.some (Option.some (V.int k)) => k.toNat
  | _ => 0
def letters : Str := "abcdefghijklmnopqrstuvwxyz"
/-- a name: one to eight letters -/
def isNm (z : Str) : Bool := decide ((1 : Int) ≤ z.length) && decide ((z.length : Int) ≤ 8) && z.cps.toList.all fun c => decide (c ∈ letters.cps.toList)
/-- y can be reached from x by neighbours that lie among some -/
inductive Reach (nb : Str → List Str) (some : List Str) (x : Str) : Str → Prop
  | refl : Reach nb some x x
  | step {y z : Str} : Reach nb some x y → z ∈ nb y → z ∈ some → Reach nb some x z
theorem Reach.mem {nb : Str → List Str} {some : List Str} {x y : Str} (h : Reach nb some x y) (hx : x ∈ some) : y ∈ some := by
  cases h with
  | refl => exact hx
  | step _ _ h => exact h
/-- what the walk keeps: what was found is reached, and the neighbours of the first ones were found -/
structure Walked (nb : Str → List Str) (some : List Str) (x : Str) (found : List Str) (n : Nat) : Prop where
  has : x ∈ found
  nodup : found.Nodup
  sub : ∀ y ∈ found, y ∈ some
  got : ∀ y ∈ found, Reach nb some x y
  done : ∀ i, i < n → ∀ y, found[i]? = Option.some y → ∀ z ∈ nb y, z ∈ some → z ∈ found
theorem Walked.start {nb : Str → List Str} {some : List Str} {x : Str} (hx : x ∈ some) : Walked nb some x [x] 0 :=
  ⟨List.mem_singleton.mpr rfl, by simp, fun y h => by rw [List.mem_singleton.mp h]; exact hx, fun y h => by rw [List.mem_singleton.mp h]; exact .refl,
    fun i h => absurd h (Nat.not_lt_zero i)⟩
/-- the fresh ones of one turn -/
def freshOf (nb : Str → List Str) (some found : List Str) (y : Str) : List Str := (nb y).filter fun z => decide (z ∈ some) && !decide (z ∈ found)
theorem Walked.turn {nb : Str → List Str} {some found : List Str} {x y : Str} {n : Nat} (w : Walked nb some x found n) (hy : found[n]? = Option.some y) (nd : (nb y).Nodup) :
    Walked nb some x (found ++ freshOf nb some found y) (n + 1) := by
  have hn : n < found.length := (List.getElem?_eq_some_iff.mp hy).1
  have my : y ∈ found := List.mem_of_getElem? hy
  have fr : ∀ z, z ∈ freshOf nb some found y ↔ z ∈ nb y ∧ z ∈ some ∧ z ∉ found := fun z => by
    unfold freshOf
    simp [List.mem_filter]
  refine ⟨List.mem_append_left _ w.has, ?_, fun z h => ?_, fun z h => ?_, fun i hi u hu z hz hs => ?_⟩
  · refine List.nodup_append.mpr ⟨w.nodup, nd.filter _, fun a ha b hb e => ?_⟩
    rw [e] at ha
    exact ((fr b).mp hb).2.2 ha
  · rcases List.mem_append.mp h with h | h
    · exact w.sub z h
    · exact ((fr z).mp h).2.1
  · rcases List.mem_append.mp h with h | h
    · exact w.got z h
    · exact .step (w.got y my) ((fr z).mp h).1 ((fr z).mp h).2.1
  · rw [List.getElem?_append_left (by omega)] at hu
    rcases Nat.lt_or_eq_of_le (Nat.lt_succ_iff.mp hi) with h | h
    · exact List.mem_append_left _ (w.done i h u hu z hz hs)
    · rw [h, hy] at hu
      cases hu
      by_cases hf : z ∈ found
      · exact List.mem_append_left _ hf
      · exact List.mem_append_right _ ((fr z).mpr ⟨hz, hs, hf⟩)
theorem nodup_len : ∀ {l m : List Str}, l.Nodup → (∀ y ∈ l, y ∈ m) → l.length ≤ m.length
  | [], _, _, _ => Nat.zero_le _
  | a :: l, m, nd, h => by
    have ha := h a List.mem_cons_self
    have nd' := List.nodup_cons.mp nd
    have q := nodup_len (l := l) (m := m.erase a) nd'.2 fun y hy => (List.mem_erase_of_ne (a := y) (b := a) (fun z => nd'.1 (by rw [← z]; exact hy))).mpr (h y (List.mem_cons_of_mem _ hy))
    rw [List.length_erase_of_mem ha] at q
    have : 0 < m.length := List.length_pos_of_mem ha
    rw [List.length_cons]
    omega
theorem Walked.length_le {nb : Str → List Str} {some found : List Str} {x : Str} {n : Nat} (w : Walked nb some x found n) : found.length ≤ some.length :=
  nodup_len w.nodup w.sub
theorem Walked.end {nb : Str → List Str} {some found : List Str} {x : Str} (w : Walked nb some x found found.length) {y : Str} : y ∈ found ↔ Reach nb some x y := by
  refine ⟨w.got y, fun h => ?_⟩
  induction h with
  | refl => exact w.has
  | step _ hz hs ih =>
    obtain ⟨i, hi, e⟩ := List.getElem_of_mem ih
    exact w.done i hi _ (by rw [List.getElem?_eq_getElem hi, e]) _ hz hs
/-- all of some hang together with x -/
def AllIn (nb : Str → List Str) (some : List Str) (x : Str) : Prop := ∀ y ∈ some, Reach nb some x y
theorem filter_short {some found : List Str} : (some.filter fun y => decide (y ∈ found)).length < some.length ↔ ¬ ∀ y ∈ some, y ∈ found := by
  constructor
  · intro h all
    rw [List.filter_eq_self.mpr (fun y hy => decide_eq_true (all y hy))] at h
    exact Nat.lt_irrefl _ h
  · intro h
    refine Nat.lt_of_le_of_ne (List.length_filter_le _ _) fun e => h fun y hy => ?_
    have q := List.length_filter_eq_length_iff.mp e y hy
    exact of_decide_eq_true q
theorem inV_strs {x : Str} {ys : List Str} : inV (.str x) (ys.map V.str) = decide (x ∈ ys) := by
  unfold inV
  rw [List.any_map]
  induction ys with
  | nil => rfl
  | cons y ys ih =>
    rw [List.any_cons, ih]
    by_cases h : y = x
    · subst h
      simp [eqV]
    · have h' : ¬ x = y := fun e => h e.symm
      simp [eqV, h, h']
theorem flat_strs {ys : List Str} : (ys.map V.str).all flatV = true := by
  rw [List.all_map, List.all_eq_true]
  intro y _
  rfl
theorem str_at {ys : List Str} {i : Nat} {x : V} (h : (ys.map V.str)[i]? = some x) : ∃ z, ys[i]? = some z ∧ x = .str z := by
  rw [List.getElem?_map] at h
  cases q : ys[i]? with
  | none =>
    rw [q] at h
    cases h
  | some z =>
    rw [q] at h
    exact ⟨z, rfl, (Option.some.inj h).symm⟩
theorem filter_more {ys : List Str} {i : Nat} {z : Str} {p : Str → Bool} (h : ys[i]? = some z) :
    (ys.take (i + 1)).filter p = (ys.take i).filter p ++ (if p z = true then [z] else []) := by
  rw [take_more h, List.filter_append]
  congr 1
  cases e : p z with
  | true => simp [List.filter, e]
  | false => simp [List.filter, e]
end NetM
namespace L2
open PySem PySem.Spec PyProof.Rows
/-- any comprehension's or for's turns -/
theorem lcB {J : It} {n : Nat} {G : Hp → Prop} {Y : Nat → Hp → V → Hp → Prop} (w : Walk J n G Y) {B : (Hp → Prop) → V → Hp → Prop} {Qd : Hp → Prop} {Hs : Hp} (Pv : Nat → Hp → Prop)
    (h0 : Pv 0 Hs) (hG : ∀ i H, i ≤ n → Pv i H → G H) (hs : ∀ i x H H', i < n → Pv i H → Y i H x H' → B (Pv (i + 1)) x H') (hd : ∀ H, Pv n H → Qd H) :
    ∃ W : Nat → Nat → Hp → Prop, (∃ m, W 0 m Hs) ∧ ∀ i m H, W i m H →
      (J.stop i H ∧ Qd H) ∨ (J.go i H ∧ ∃ Nx : Hp → Prop, (∀ H', Nx H' → ∃ m', m' < m ∧ W (i + 1) m' H') ∧ ∀ x H', J.yld i H x H' → B Nx x H') := by
  refine ⟨fun i m H => m = n - i ∧ i ≤ n ∧ Pv i H, ⟨n, by simp, Nat.zero_le _, h0⟩, ?_⟩
  rintro i m H ⟨em, hi, p⟩
  have q := hG i H hi p
  rcases Nat.lt_or_eq_of_le hi with hlt | rfl
  · refine .inr ⟨w.goes i H hlt q, Pv (i + 1), fun H' p' => ⟨_, ?_, rfl, hlt, p'⟩, fun x H' y => hs i x H H' hlt p (w.yields i H x H' hlt q y)⟩
    omega
  · exact .inl ⟨w.stops H q, hd H p⟩
section
variable {X : Cx} {K : PySem.W.Frag} {tg l : Expr} {te : TE}
theorem kIxL (h : X.K = K := by rfl) : IxR X (rIxL K) := by subst h; exact ix_list
theorem kIxT (h : X.K = K := by rfl) : IxR X (rIxT K) := by subst h; exact ix_tup
theorem kIn (h : X.K = K := by rfl) : OpR X (compareOp .In) (rIn K false) := by subst h; exact op_in_seq
theorem kNin (h : X.K = K := by rfl) : OpR X (compareOp .NotIn) (rIn K true) := by subst h; exact op_notIn_seq
theorem kInD (hu : X.A.units + 65 < cLine) (h : X.K = K := by rfl) : OpR X (compareOp .In) (rInD K) := by subst h; exact op_inD hu
theorem kNinD (hu : X.A.units + 65 < cLine) (h : X.K = K := by rfl) : OpR X (compareOp .NotIn) (rNotInD K) := by subst h; exact op_notInD hu
theorem kSlL (h : X.K = K := by rfl) : SlR X (rSlL K) := by subst h; exact sl_list
theorem kSlT (h : X.K = K := by rfl) : SlR X (rSlA K) := by subst h; exact sl_tupA
theorem kTupI (hl : PE X l te) (h : X.K = K := by rfl) : PI X tg l (iTup K te) := by subst h; exact pi_tup hl
theorem kLstI (hl : PE X l te) (h : X.K = K := by rfl) : PI X tg l (iList K te) := by subst h; exact pi_list hl
theorem kSeqI (hl : PE X l te) (h : X.K = K := by rfl) : PI X tg l (iSeq K te) := by subst h; exact pi_seq hl
theorem kTgt {es : List Expr} {k n : Nat} {t : TGs} (hc : X.calm = true) (hp : PGs X es t) (h : X.K = K := by rfl)
    (hn : (assignEach es X.env).length = n := by rfl) (hst : (assignEach es X.env).findIdx? (·.1) = none := by rfl) {pos : Pos} : PG X (.Tuple es k pos) (gTup K n t) := by
  subst h
  exact pg_tup hc hp hn hst
theorem kTupOf (h : X.K = K := by rfl) : CallR X (.type "tuple") (fun xs H Q => ∃ p ys, xs = [.ref p] ∧ ((SqL K H p ys ∧ ∀ l, H l = none → Q (.ref l) (upd H l (.tup ys))) ∨ (SqT K H p ys ∧ Q (.ref p) H))) := by subst h; exact call_tuple_of
theorem kLen (h : X.K = K := by rfl) : CallR X (.builtin "len") (fun xs H Q => ∃ p ys, xs = [.ref p] ∧ (SqL K H p ys ∨ SqT K H p ys) ∧ Q (.int ys.length) H) := by subst h; exact call_len_seq
theorem kAll (hc : X.calm = true) (h : X.K = K := by rfl) : CallR X (.builtin "all") (rAll K) := by subst h; exact cr_all hc
theorem kAny (hc : X.calm = true) (h : X.K = K := by rfl) : CallR X (.builtin "any") (rAny K) := by subst h; exact cr_any hc
end
/-- a pair of texts stands at a -/
def PairAt (H : Hp) (a : Addr) (p : Str × Str) : Prop := H a = some (.tup [.str p.1, .str p.2])
/-- a list of pairs of texts -/
def PairsL (H : Hp) (l : Addr) (ps : List (Str × Str)) : Prop := ∃ as : List Addr, H l = some (.lst (as.map V.ref)) ∧ Paired (PairAt H) as ps
/-- a tuple of pairs of texts -/
def PairsT (H : Hp) (l : Addr) (ps : List (Str × Str)) : Prop := ∃ as : List Addr, H l = some (.tup (as.map V.ref)) ∧ Paired (PairAt H) as ps
theorem Paired.weak {α β : Type} {F G : α → β → Prop} (h : ∀ a b, F a b → G a b) : ∀ {l : List α} {m : List β}, Paired F l m → Paired G l m
  | _, _, .nil => .nil
  | _, _, .cons r t => .cons (h _ _ r) (Paired.weak h t)
theorem Paired.app {α β : Type} {F : α → β → Prop} : ∀ {l l' : List α} {m m' : List β}, Paired F l m → Paired F l' m' → Paired F (l ++ l') (m ++ m')
  | _, _, _, _, .nil, s => s
  | _, _, _, _, .cons r t, s => .cons r (Paired.app t s)
theorem PairsL.same {H H' : Hp} {l : Addr} {ps : List (Str × Str)} (h : PairsL H l ps) (s : Same H H') : PairsL H' l ps :=
  let ⟨as, e, r⟩ := h
  ⟨as, s _ _ e, Paired.weak (fun _ _ q => s _ _ q) r⟩
theorem PairsT.same {H H' : Hp} {l : Addr} {ps : List (Str × Str)} (h : PairsT H l ps) (s : Same H H') : PairsT H' l ps :=
  let ⟨as, e, r⟩ := h
  ⟨as, s _ _ e, Paired.weak (fun _ _ q => s _ _ q) r⟩
theorem pairs_push {H : Hp} {D q : Addr} {acc : List V} {ps : List (Str × Str)} {a b : Str} (h : PairsL H D ps) (hq : H q = none) (hD : H D = some (.lst acc)) :
    PairsL (upd (upd H q (.tup [.str a, .str b])) D (.lst (acc ++ [.ref q]))) D (ps ++ [(a, b)]) := by
  obtain ⟨as, e, r⟩ := h
  rw [e] at hD
  obtain rfl : as.map V.ref = acc := by
    have z := Option.some.inj hD
    injection z
  have nq : q ≠ D := (ne_of_none e hq).symm
  refine ⟨as ++ [q], by rw [upd_same, List.map_append]; rfl, Paired.app (Paired.weak (fun x p hx => ?_) r) (.cons ?_ .nil)⟩
  · have h1 : x ≠ D := ne_of hx e (fun z => by cases z)
    show upd (upd H q _) D _ x = _
    rw [upd_ne h1, upd_ne (ne_of_none hx hq)]
    exact hx
  · show upd (upd H q _) D _ q = _
    rw [upd_ne nq, upd_same]
theorem cut_from {xs : List V} {i : Nat} : cutV xs (some ((0 : Int) + (i : Nat) + 1)) none = xs.drop (i + 1) := by
  unfold cutV
  rw [show (0 : Int) + (i : Nat) + 1 = ((i + 1 : Nat) : Int) by omega, HT.sIx_nat, HT.sIx_none]
  by_cases h : i + 1 ≤ xs.length
  · rw [Nat.min_eq_left h, ← List.length_drop, List.take_length]
  · rw [Nat.min_eq_right (by omega), List.drop_eq_nil_of_le (Nat.le_refl _), List.drop_eq_nil_of_le (by omega), List.take_nil]
theorem filterMore {α : Type} {ys : List α} {i : Nat} {z : α} {p : α → Bool} (h : ys[i]? = some z) :
    (ys.take (i + 1)).filter p = (ys.take i).filter p ++ (if p z = true then [z] else []) := by
  rw [take_more h, List.filter_append]
  congr 1
  cases e : p z with
  | true => simp [List.filter, e]
  | false => simp [List.filter, e]
theorem pairs_two {H : Hp} {q : Addr} {o : HO} {D : Addr} {ps : List (Str × Str)} (h : PairsL H D ps) (n : H q = none) : PairsL (upd H q o) D ps := h.same (same_new n)
def pD (p : Str × Str) : PyData := .tuple [.str p.1, .str p.2]
def okP (p : Str × Str) : Bool := PyData.strOk p.1 && PyData.strOk p.2
theorem pD_shaped {p : Str × Str} (h : okP p = true) : SeqAt.shaped (pD p) = true := by
  unfold okP at h
  rw [Bool.and_eq_true] at h
  unfold SeqAt.shaped
  simp [pD, PyData.canLay0, PyData.canLayAll0, PyData.depth, PyData.depthAll, h.1, h.2]
theorem pDs_lay : ∀ ps : List (Str × Str), ps.all okP = true → PyData.canLayAll0 (ps.map pD) = true
  | [], _ => by simp [PyData.canLayAll0]
  | p :: ps, h => by
    rw [List.all_cons, Bool.and_eq_true] at h
    have h1 := h.1
    unfold okP at h1
    rw [Bool.and_eq_true] at h1
    simp [PyData.canLayAll0, pD, PyData.canLay0, pDs_lay ps h.2, h1.1, h1.2]
theorem pDs_depth : ∀ ps : List (Str × Str), PyData.depthAll (ps.map pD) ≤ 2
  | [] => by simp [PyData.depthAll]
  | p :: ps => by
    have := pDs_depth ps
    simp [PyData.depthAll, pD, PyData.depth]
    omega
theorem pDs_shaped {ps : List (Str × Str)} (ok : ps.all okP = true) : SeqAt.shaped (.list (ps.map pD)) = true := by
  have h := pDs_depth ps
  unfold SeqAt.shaped
  rw [Bool.and_eq_true, decide_eq_true_eq]
  refine ⟨by simp [PyData.canLay0, pDs_lay ps ok], ?_⟩
  simp only [PyData.depth]
  omega
theorem pD_eqv (p q : Str × Str) : PyData.eqv (pD p) (pD q) = decide (p = q) := by
  obtain ⟨a, b⟩ := p
  obtain ⟨c, d⟩ := q
  by_cases h1 : a = c
  · by_cases h2 : b = d
    · simp [pD, PyData.eqv, PyData.eqvAll, h1, h2]
    · simp [pD, PyData.eqv, PyData.eqvAll, h1, h2]
  · simp [pD, PyData.eqv, PyData.eqvAll, h1]
theorem any_pD (ps : List (Str × Str)) (p : Str × Str) : ((ps.map pD).any fun z => PyData.eqv z (pD p)) = decide (p ∈ ps) := by
  rw [List.any_map]
  induction ps with
  | nil => rfl
  | cons q ps ih =>
    rw [List.any_cons, ih]
    simp only [Function.comp, pD_eqv]
    by_cases h : q = p
    · subst h
      simp
    · have h' : ¬ p = q := fun e => h e.symm
      simp [h, h']
section
variable {K : PySem.W.Frag} {H : Hp}
theorem dp_pair {a : Addr} {p : Str × Str} (h : PairAt H a p) : Dp K H (.ref a) (pD p) := .tup (SqT.of h) (.cons (.str _) (.cons (.str _) .nil))
theorem dp_pairs : ∀ {as : List Addr} {ps : List (Str × Str)}, Paired (PairAt H) as ps → DpAll K H (as.map V.ref) (ps.map pD)
  | _, _, .nil => .nil
  | _, _, .cons r t => .cons (dp_pair r) (dp_pairs t)
theorem dp_pairsL {l : Addr} {ps : List (Str × Str)} (h : PairsL H l ps) : Dp K H (.ref l) (.list (ps.map pD)) :=
  let ⟨_, e, r⟩ := h
  .lst (SqL.of e) (dp_pairs r)
end
theorem pair_at {H : Hp} {as : List Addr} {ps : List (Str × Str)} {i : Nat} {x : V} (h : Paired (PairAt H) as ps) (hx : (as.map V.ref)[i]? = some x) :
    ∃ a p, x = .ref a ∧ ps[i]? = some p ∧ PairAt H a p := by
  rw [List.getElem?_map] at hx
  cases q : as[i]? with
  | none =>
    rw [q] at hx
    cases hx
  | some a =>
    rw [q] at hx
    have go : ∀ {as : List Addr} {ps : List (Str × Str)} {i : Nat}, Paired (PairAt H) as ps → as[i]? = some a → ∃ p, ps[i]? = some p ∧ PairAt H a p := by
      intro as ps i h
      induction h generalizing i with
      | nil => intro e; simp at e
      | cons r t ih =>
        intro e
        cases i with
        | zero =>
          have e2 := Option.some.inj e
          subst e2
          exact ⟨_, rfl, r⟩
        | succ i => exact ih e
    obtain ⟨p, h1, h2⟩ := go h q
    exact ⟨a, p, (Option.some.inj hx).symm, h1, h2⟩
end L2
namespace NetM
open PySem L2
/-- the pairs that begin with the i-th one -/
def pairsOf (ps : List Str) (i : Nat) : List (Str × Str) := (ps.drop (i + 1)).map fun o => (ps.getD i "", o)
/-- the pairs that begin with one of the first i -/
def pairsTo (ps : List Str) : Nat → List (Str × Str)
  | 0 => []
  | i + 1 => pairsTo ps i ++ pairsOf ps i
/-- all pairs, each once, in sequence -/
def pairsAll (ps : List Str) : List (Str × Str) := pairsTo ps ps.length
theorem lenOf (ps : List Str) (i : Nat) (h : ps.length ≤ 100) : (pairsOf ps i).length ≤ 100 := by
  unfold pairsOf
  rw [List.length_map, List.length_drop]
  omega
theorem lenTo' (ps : List Str) (h : ps.length ≤ 100) : ∀ i, (pairsTo ps i).length ≤ 100 * i
  | 0 => Nat.le_refl _
  | i + 1 => by
    have q := lenTo' ps h i
    have r := lenOf ps i h
    show (pairsTo ps i ++ pairsOf ps i).length ≤ _
    rw [List.length_append]
    omega
theorem lenTo {z : Str} (ps : List Str) (i j : Nat) (h : ps.length ≤ 100) (hi : i ≤ ps.length) : (pairsTo ps i).length + (((ps.drop (i + 1)).take j).map fun o => (z, o)).length ≤ 20000 := by
  have q := lenTo' ps h i
  rw [List.length_map, List.length_take, List.length_drop]
  have : 100 * i ≤ 100 * 100 := Nat.mul_le_mul_left _ (by omega)
  omega
theorem lenAll (ps : List Str) (h : ps.length ≤ 100) : (pairsAll ps).length ≤ 20000 := by
  have q := lenTo' ps h ps.length
  unfold pairsAll
  have : 100 * ps.length ≤ 100 * 100 := Nat.mul_le_mul_left _ h
  omega
theorem okTo (ps : List Str) (h : ps.all PyData.strOk = true) : ∀ i, i ≤ ps.length → (pairsTo ps i).all okP = true
  | 0, _ => rfl
  | i + 1, hi => by
    show (pairsTo ps i ++ pairsOf ps i).all okP = true
    rw [List.all_append, okTo ps h i (by omega), Bool.true_and, List.all_eq_true]
    intro p hp
    obtain ⟨o, ho, rfl⟩ := List.mem_map.mp hp
    have a := List.all_eq_true.mp h
    have e : ps.getD i "" = ps[i] := by rw [List.getD_eq_getElem?_getD, List.getElem?_eq_getElem (by omega)]; rfl
    unfold okP
    rw [e, a _ (List.getElem_mem _), a o (List.mem_of_mem_drop ho)]
    rfl
theorem okAll (ps : List Str) (h : ps.all PyData.strOk = true) : (pairsAll ps).all okP = true := okTo ps h _ (Nat.le_refl _)
def earlOf (ties : List (Str × Str)) (y : Str) : List Str := (ties.filter fun p => decide (V.str p.2 = V.str y)).map (·.1)
def lateOf (ties : List (Str × Str)) (y : Str) : List Str := (ties.filter fun p => decide (V.str p.1 = V.str y)).map (·.2)
/-- the neighbours of y, as they stand in the ties -/
def nbOf (ties : List (Str × Str)) (y : Str) : List Str := earlOf ties y ++ lateOf ties y
def tieIn (ties : List (Str × Str)) (p : Str × Str) : Bool := decide (p ∈ ties) || decide ((p.2, p.1) ∈ ties)
/-- the ties in sequence, each told from its earlier place on -/
def inSeq (ps : List Str) (ties : List (Str × Str)) : List (Str × Str) := (pairsAll ps).filter (tieIn ties)
end NetM
namespace L2
open PySem PySem.Spec PyProof.Rows
theorem mkO_intro {K : PySem.W.Frag} {C fI : Addr} {v : V} {H1 : Hp} {Q : XK} (T : ErrC K fI C)
    (k : ∀ d H2, H1 d = none → Same H1 H2 → H2 d = some (.xd [("value", v)]) → Q (.ref C) (some d) H2) :
    [v].length ≤ 1000 ∧ ∀ a, H1 a = none → spErrInit K (.ref a :: ([v] ++ [])) (upd H1 a (exo a C none))
      (fun u H2 => u = .non ∧ ∃ (d : Addr) (fs : List (Str × V)), H2 a = some (exo a C (some d)) ∧ H2 d = some (exd d fs) ∧ H1 d = none ∧ Q (.ref C) (some d) (upd (del H2 a) d (.xd fs)))
      (fun _ _ _ => False) := by
  refine ⟨by show 1 ≤ 1000; decide, fun a na => ⟨a, C, fI, v, rfl, T, upd_same, fun H2 d sb nd hd e1 e2 => ⟨rfl, d, _, e1, e2, ?_, ?_⟩⟩⟩
  · rw [upd_ne nd] at hd
    exact hd
  · have hd1 : H1 d = none := by
      rw [upd_ne nd] at hd
      exact hd
    refine k d _ hd1 (fun b o e => ?_) upd_same
    have na' := ne_of_none e na
    rw [upd_ne (ne_of_none e hd1), del_ne na']
    exact sb b o na' (by rw [upd_ne na']; exact e)
theorem kIx {X : Cx} {K : PySem.W.Frag} (h : X.K = K := by rfl) : IxR X (rIx K) := by
  subst h
  exact ix_seq
theorem ixS {K : PySem.W.Frag} {H : Hp} {p : Addr} {xs : List V} {i : Int} {v : V} {Q : VK} (h : SqS K H p xs) (e : atI xs i = some v) (q : Q v H) : rIx K (.ref p) (.int i) H Q :=
  h.elim (fun z => .inl ⟨p, xs, i, v, rfl, rfl, z, e, q⟩) fun z => .inr (.inl ⟨p, xs, i, v, rfl, rfl, z, e, q⟩)
end L2
namespace L2
open PySem PySem.Spec PyProof.Rows
/-- a walk over a list or a tuple -/
theorem seqW {K : PySem.W.Frag} {a : Addr} {xs : List V} {H : Hp} (h : SqS K H a xs) :
    (SqL K H a xs ∧ Walk (Itl K a) xs.length (fun H' => Same H H') (YAt xs)) ∨ (SqT K H a xs ∧ Walk (Itt K a) xs.length (fun H' => Same H H') (YAt xs)) :=
  h.elim (fun z => .inl ⟨z, walk_list.mono (fun _ s => s.seq z) fun _ _ _ _ _ _ y => y⟩) fun z => .inr ⟨z, walk_tup.mono (fun _ s => s.tup z) fun _ _ _ _ _ _ y => y⟩
end L2
namespace NetM
open PySem L2
/-- the tie that a line names behind these -/
def readTie (z : Str) (ps : List Str) (ties : List (Str × Str)) : Option (Str × Str) := match Txt.split z " " with
  | [a, b, c] => if a = "tie" ∧ b ∈ ps ∧ c ∈ ps ∧ b ≠ c ∧ tieIn ties (b, c) = false then some (b, c) else none
  | _ => none
theorem readTie_len {z : Str} {ps : List Str} {ties : List (Str × Str)} (h : (Txt.split z " ").length ≠ 3) : readTie z ps ties = none := by
  unfold readTie
  split
  · rename_i a b c e
    rw [e] at h
    exact absurd rfl h
  · rfl
theorem readTie_no {z a b c : Str} {ps : List Str} {ties : List (Str × Str)} (e : Txt.split z " " = [a, b, c]) (h : ¬ (a = "tie" ∧ b ∈ ps ∧ c ∈ ps ∧ b ≠ c ∧ tieIn ties (b, c) = false)) : readTie z ps ties = none := by
  unfold readTie
  rw [e]
  exact if_neg h
theorem readTie_yes {z a b c : Str} {ps : List Str} {ties : List (Str × Str)} (e : Txt.split z " " = [a, b, c]) (h : a = "tie" ∧ b ∈ ps ∧ c ∈ ps ∧ b ≠ c ∧ tieIn ties (b, c) = false) : readTie z ps ties = some (b, c) := by
  unfold readTie
  rw [e]
  exact if_pos h
theorem notIn_strs {x : Str} {ys : List Str} : (if (true : Bool) = true then !inV (.str x) (ys.map V.str) else inV (.str x) (ys.map V.str)) = !decide (x ∈ ys) := by simp [inV_strs]
/-- the places that a line names, none if it cannot stand there -/
def readPlaces (z : Str) : List Str :=
  if (Txt.split z " ").headD "" = "places" ∧ 3 ≤ ((Txt.split z " ").drop 1).length ∧ ((Txt.split z " ").drop 1).length ≤ 16 ∧ ((Txt.split z " ").drop 1).all isNm = true ∧ ((Txt.split z " ").drop 1).Nodup
  then (Txt.split z " ").drop 1 else []
theorem nm_ok {z : Str} (h : isNm z = true) : PyData.strOk z = true := by
  unfold isNm at h
  rw [Bool.and_eq_true, List.all_eq_true] at h
  unfold PyData.strOk
  rw [← Array.all_toList, List.all_eq_true]
  intro c hc
  have q := of_decide_eq_true (h.2 c hc)
  have all : letters.cps.toList.all (fun c => decide (c < 0x110000)) = true := by decide +kernel
  exact List.all_eq_true.mp all c q
theorem places_ok {z : Str} (h : readPlaces z ≠ []) : (readPlaces z).Nodup ∧ 3 ≤ (readPlaces z).length ∧ (readPlaces z).length ≤ 16 ∧ (readPlaces z).all PyData.strOk = true := by
  unfold readPlaces at h ⊢
  split
  · rename_i c
    obtain ⟨_, c1, c2, c3, c4⟩ := c
    refine ⟨c4, c1, c2, ?_⟩
    rw [List.all_eq_true] at c3 ⊢
    exact fun y hy => nm_ok (c3 y hy)
  · rename_i c
    rw [if_neg c] at h
    exact absurd rfl h
theorem places_le {z : Str} : (readPlaces z).length ≤ 16 ∧ (readPlaces z).all PyData.strOk = true := by
  by_cases h : readPlaces z = []
  · rw [h]
    exact ⟨Nat.zero_le _, rfl⟩
  · exact ⟨(places_ok h).2.2.1, (places_ok h).2.2.2⟩
/-- the ties that these lines name, one behind the other -/
inductive Good (ps : List Str) : List Str → List (Str × Str) → Prop
  | nil : Good ps [] []
  | snoc {pre : List Str} {acc : List (Str × Str)} {z : Str} {p : Str × Str} : Good ps pre acc → readTie z ps acc = some p → acc.length ≠ 45 → Good ps (pre ++ [z]) (acc ++ [p])
theorem readTie_in {z : Str} {ps : List Str} {ties : List (Str × Str)} {p : Str × Str} (h : readTie z ps ties = some p) : p.1 ∈ ps ∧ p.2 ∈ ps ∧ p.1 ≠ p.2 ∧ tieIn ties p = false := by
  unfold readTie at h
  split at h
  · split at h
    · rename_i c
      cases h
      exact c.2
    · cases h
  · cases h
theorem Good.le {ps pre : List Str} {acc : List (Str × Str)} (h : Good ps pre acc) : acc.length ≤ 45 := by
  induction h with
  | nil => exact Nat.zero_le _
  | snoc _ _ n ih =>
    rw [List.length_append, List.length_singleton]
    omega
theorem Good.ok {ps pre : List Str} {acc : List (Str × Str)} (o : ps.all PyData.strOk = true) (h : Good ps pre acc) : acc.all okP = true := by
  induction h with
  | nil => rfl
  | snoc _ r _ ih =>
    obtain ⟨a, b, _⟩ := readTie_in r
    rw [List.all_append, ih, List.all_cons, List.all_nil]
    unfold okP
    rw [List.all_eq_true.mp o _ a, List.all_eq_true.mp o _ b]
    rfl
/-- a text's lines behind the first one -/
def tail1 (z : Str) : List Str := (Txt.split z "\n").drop 1
def head1 (z : Str) : Str := (Txt.split z "\n").headD ""
/-- the number of the first line that cannot stand there -/
inductive NetErr (z : Str) : Int → Prop
  | places : readPlaces (head1 z) = [] → NetErr z 1
  | tie {i : Nat} {ln : Str} {acc : List (Str × Str)} : readPlaces (head1 z) ≠ [] → Good (readPlaces (head1 z)) ((tail1 z).take i) acc → (tail1 z)[i]? = some ln →
      (readTie ln (readPlaces (head1 z)) acc = none ∨ acc.length = 45) → NetErr z (2 + (i : Nat))
  | few {acc : List (Str × Str)} : readPlaces (head1 z) ≠ [] → Good (readPlaces (head1 z)) (tail1 z) acc → acc.length < 3 → NetErr z (((Txt.split z "\n").length : Nat) + 1)
structure NetOk (z : Str) (ps : List Str) (ties : List (Str × Str)) : Prop where
  pl : readPlaces (head1 z) = ps
  ne : ps ≠ []
  good : Good ps (tail1 z) ties
  few : 3 ≤ ties.length
/-- all places but p -/
def oth (ps : List Str) (p : Str) : List Str := ps.filter fun o => !decide (V.str o = V.str p)
def Fine (nb : Str → List Str) (ps : List Str) (p : Str) : Prop := AllIn nb (oth ps p) ((oth ps p).headD "")
open Classical in
/-- the first place without which the others do not hang together: None if not all do -/
noncomputable def cutOf (nb : Str → List Str) (ps : List Str) : Option V :=
  if AllIn nb ps (ps.headD "") then (ps.find? fun p => decide (¬ Fine nb ps p)).map V.str else some .non
theorem cut_all {nb : Str → List Str} {ps : List Str} (h : ¬ AllIn nb ps (ps.headD "")) : cutOf nb ps = some .non := by
  unfold cutOf
  rw [if_neg h]
theorem cut_none {nb : Str → List Str} {ps : List Str} (h : AllIn nb ps (ps.headD "")) (a : ∀ p ∈ ps, Fine nb ps p) : cutOf nb ps = none := by
  unfold cutOf
  rw [if_pos h, List.find?_eq_none.mpr (fun p hp => by simpa using a p hp)]
  rfl
open Classical in
theorem cut_at {nb : Str → List Str} {ps : List Str} {i : Nat} {p : Str} (h : AllIn nb ps (ps.headD "")) (hp : ps[i]? = some p) (a : ∀ q ∈ ps.take i, Fine nb ps q)
    (n : ¬ Fine nb ps p) : cutOf nb ps = some (.str p) := by
  unfold cutOf
  rw [if_pos h]
  have hi := (List.getElem?_eq_some_iff.mp hp).1
  have e : ps = ps.take i ++ p :: ps.drop (i + 1) := by
    have q := (List.take_append_drop i ps).symm
    rw [List.drop_eq_getElem_cons hi, (List.getElem?_eq_some_iff.mp hp).2] at q
    exact q
  have f : ∀ pr : Str → Bool, (∀ q ∈ ps.take i, pr q = false) → pr p = true → ps.find? pr = some p := by
    intro pr h1 h2
    rw [e, List.find?_append, List.find?_eq_none.mpr (fun q hq => by rw [h1 q hq]; simp), List.find?_cons, h2]
    rfl
  rw [f (fun p => decide (¬ Fine nb ps p)) (fun q hq => decide_eq_false (fun z => z (a q hq))) (decide_eq_true n)]
  rfl
theorem oth_mem {ps : List Str} {p o : Str} : o ∈ oth ps p ↔ o ∈ ps ∧ o ≠ p := by
  unfold oth
  rw [List.mem_filter]
  simp
theorem oth_ne {ps : List Str} {p : Str} (nd : ps.Nodup) (h : 2 ≤ ps.length) : ∃ y r, oth ps p = y :: r := by
  cases e : oth ps p with
  | cons y r => exact ⟨y, r, rfl⟩
  | nil =>
    exfalso
    have all : ∀ o ∈ ps, o ∈ [p] := fun o ho => by
      by_cases z : o = p
      · rw [z]
        exact List.mem_singleton.mpr rfl
      · have := oth_mem.mpr ⟨ho, z⟩
        rw [e] at this
        exact absurd this (List.not_mem_nil)
    have := nodup_len nd all
    simp at this
    omega
end NetM
namespace K05
open PySem L2 NetM PySem.Spec PyProof.Rows
def top (i : Nat) : Stmt := PySem.Challenge.pw_alldrawn_k05_whole_nets_grown_and_shrunk.main.body.getD i (.Pass ⟨0, 0, 0, 0⟩)
abbrev s_is_name : Stmt := top 3
abbrev s_reached : Stmt := top 4
abbrev s_DrawError___init__ : Stmt := inClass (top 6) 0
abbrev s_read_places : Stmt := top 18
abbrev s_read_tie : Stmt := top 19
abbrev s_read_net : Stmt := top 20
abbrev s_ties_in_sequence : Stmt := top 21
abbrev s_neighbours : Stmt := top 22
abbrev s_check_well_tied : Stmt := top 23
abbrev s_net_of : Stmt := top 24
abbrev s_check_place : Stmt := top 25
abbrev s_is_pair : Stmt := top 26
abbrev s_is_tie : Stmt := top 27
abbrev s_is_free : Stmt := top 28
abbrev s_Net___init__ : Stmt := inClass (top 29) 0
abbrev s_Net___eq__ : Stmt := inClass (top 29) 1
abbrev s_Net___len__ : Stmt := inClass (top 29) 2
abbrev s_Net___contains__ : Stmt := inClass (top 29) 3
abbrev s_Net___getitem__ : Stmt := inClass (top 29) 4
abbrev s_Net___iter__ : Stmt := inClass (top 29) 5
abbrev s_Net_tied : Stmt := inClass (top 29) 6
abbrev s_Net___add__ : Stmt := inClass (top 29) 7
abbrev s_Net___sub__ : Stmt := inClass (top 29) 8
abbrev s_Net_without : Stmt := inClass (top 29) 9
abbrev s__law_pot : Stmt := top 31
abbrev s__law_take : Stmt := top 32
abbrev s__law_of : Stmt := top 33
abbrev s__law_some : Stmt := top 34
abbrev s__law_cells : Stmt := top 35
abbrev s__law_answer : Stmt := top 36
abbrev s__law_names : Stmt := top 37
abbrev s__law_is_there : Stmt := top 38
abbrev s__law_lore : Stmt := top 39
abbrev s__law_text : Stmt := top 40
abbrev s__law_net : Stmt := top 41
abbrev s__law_agrees : Stmt := top 42
abbrev s__law_is_text_right : Stmt := top 43
abbrev s__law_missing : Stmt := top 44
abbrev s__law_right : Stmt := top 45
abbrev s_law : Stmt := top 46
structure Adr where
  fI : Addr
  f_is_name : Addr
  f_reached : Addr
  f_read_places : Addr
  f_read_tie : Addr
  f_read_net : Addr
  f_ties_in_sequence : Addr
  f_neighbours : Addr
  f_check_well_tied : Addr
  f_net_of : Addr
  f_check_place : Addr
  f_is_pair : Addr
  f_is_tie : Addr
  f_is_free : Addr
  f__law_pot : Addr
  f__law_take : Addr
  f__law_of : Addr
  f__law_some : Addr
  f__law_cells : Addr
  f__law_answer : Addr
  f__law_names : Addr
  f__law_is_there : Addr
  f__law_lore : Addr
  f__law_text : Addr
  f__law_net : Addr
  f__law_agrees : Addr
  f__law_is_text_right : Addr
  f__law_missing : Addr
  f__law_right : Addr
  f_Net___eq__ : Addr
  f_Net___len__ : Addr
  f_Net___contains__ : Addr
  f_Net___getitem__ : Addr
  f_Net___iter__ : Addr
  f_Net_tied : Addr
  f_Net___add__ : Addr
  f_Net___sub__ : Addr
  f_Net_without : Addr
  a_DrawError : Addr
  a_BadNet : Addr
  a_NotTied : Addr
  a_NoPlace : Addr
  a_BadTie : Addr
  a_Full : Addr
  a_Few : Addr
  a_Net : Addr
structure Txt (K : PySem.W.Frag) (mg : Str → Option Value) (A : Adr) : Prop where
  n_isinstance : mg "isinstance" = none
  n_len : mg "len" = none
  n_all : mg "all" = none
  n_any : mg "any" = none
  n_set : mg "set" = none
  n_tuple : mg "tuple" = none
  n_enumerate : mg "enumerate" = none
  n_str : mg "str" = none
  n_ValueError : mg "ValueError" = none
  n_list : mg "list" = none
  n_range : mg "range" = none
  n_int : mg "int" = none
  n_abs : mg "abs" = none
  n_max : mg "max" = none
  n_min : mg "min" = none
  n_repr : mg "repr" = none
  n_zip : mg "zip" = none
  n_sorted : mg "sorted" = none
  m_LETTERS : ∃ t, mg "LETTERS" = some (.str "abcdefghijklmnopqrstuvwxyz" t)
  m_LONGEST_NAME : ∃ t, mg "LONGEST_NAME" = some (.int 8 t)
  m_FEWEST_PLACES : ∃ t, mg "FEWEST_PLACES" = some (.int 3 t)
  m_MOST_PLACES : ∃ t, mg "MOST_PLACES" = some (.int 16 t)
  m_FEWEST_TIES : ∃ t, mg "FEWEST_TIES" = some (.int 3 t)
  m_MOST_TIES : ∃ t, mg "MOST_TIES" = some (.int 45 t)
  m_is_name : mg "is_name" = some (.ref A.f_is_name)
  k_is_name : PySem.W.keepIn K (.ref A.f_is_name) = true
  m_reached : mg "reached" = some (.ref A.f_reached)
  k_reached : PySem.W.keepIn K (.ref A.f_reached) = true
  m_read_places : mg "read_places" = some (.ref A.f_read_places)
  k_read_places : PySem.W.keepIn K (.ref A.f_read_places) = true
  m_read_tie : mg "read_tie" = some (.ref A.f_read_tie)
  k_read_tie : PySem.W.keepIn K (.ref A.f_read_tie) = true
  m_read_net : mg "read_net" = some (.ref A.f_read_net)
  k_read_net : PySem.W.keepIn K (.ref A.f_read_net) = true
  m_ties_in_sequence : mg "ties_in_sequence" = some (.ref A.f_ties_in_sequence)
  k_ties_in_sequence : PySem.W.keepIn K (.ref A.f_ties_in_sequence) = true
  m_neighbours : mg "neighbours" = some (.ref A.f_neighbours)
  k_neighbours : PySem.W.keepIn K (.ref A.f_neighbours) = true
  m_check_well_tied : mg "check_well_tied" = some (.ref A.f_check_well_tied)
  k_check_well_tied : PySem.W.keepIn K (.ref A.f_check_well_tied) = true
  m_net_of : mg "net_of" = some (.ref A.f_net_of)
  k_net_of : PySem.W.keepIn K (.ref A.f_net_of) = true
  m_check_place : mg "check_place" = some (.ref A.f_check_place)
  k_check_place : PySem.W.keepIn K (.ref A.f_check_place) = true
  m_is_pair : mg "is_pair" = some (.ref A.f_is_pair)
  k_is_pair : PySem.W.keepIn K (.ref A.f_is_pair) = true
  m_is_tie : mg "is_tie" = some (.ref A.f_is_tie)
  k_is_tie : PySem.W.keepIn K (.ref A.f_is_tie) = true
  m_is_free : mg "is_free" = some (.ref A.f_is_free)
  k_is_free : PySem.W.keepIn K (.ref A.f_is_free) = true
  m__law_pot : mg "_law_pot" = some (.ref A.f__law_pot)
  k__law_pot : PySem.W.keepIn K (.ref A.f__law_pot) = true
  m__law_take : mg "_law_take" = some (.ref A.f__law_take)
  k__law_take : PySem.W.keepIn K (.ref A.f__law_take) = true
  m__law_of : mg "_law_of" = some (.ref A.f__law_of)
  k__law_of : PySem.W.keepIn K (.ref A.f__law_of) = true
  m__law_some : mg "_law_some" = some (.ref A.f__law_some)
  k__law_some : PySem.W.keepIn K (.ref A.f__law_some) = true
  m__law_cells : mg "_law_cells" = some (.ref A.f__law_cells)
  k__law_cells : PySem.W.keepIn K (.ref A.f__law_cells) = true
  m__law_answer : mg "_law_answer" = some (.ref A.f__law_answer)
  k__law_answer : PySem.W.keepIn K (.ref A.f__law_answer) = true
  m__law_names : mg "_law_names" = some (.ref A.f__law_names)
  k__law_names : PySem.W.keepIn K (.ref A.f__law_names) = true
  m__law_is_there : mg "_law_is_there" = some (.ref A.f__law_is_there)
  k__law_is_there : PySem.W.keepIn K (.ref A.f__law_is_there) = true
  m__law_lore : mg "_law_lore" = some (.ref A.f__law_lore)
  k__law_lore : PySem.W.keepIn K (.ref A.f__law_lore) = true
  m__law_text : mg "_law_text" = some (.ref A.f__law_text)
  k__law_text : PySem.W.keepIn K (.ref A.f__law_text) = true
  m__law_net : mg "_law_net" = some (.ref A.f__law_net)
  k__law_net : PySem.W.keepIn K (.ref A.f__law_net) = true
  m__law_agrees : mg "_law_agrees" = some (.ref A.f__law_agrees)
  k__law_agrees : PySem.W.keepIn K (.ref A.f__law_agrees) = true
  m__law_is_text_right : mg "_law_is_text_right" = some (.ref A.f__law_is_text_right)
  k__law_is_text_right : PySem.W.keepIn K (.ref A.f__law_is_text_right) = true
  m__law_missing : mg "_law_missing" = some (.ref A.f__law_missing)
  k__law_missing : PySem.W.keepIn K (.ref A.f__law_missing) = true
  m__law_right : mg "_law_right" = some (.ref A.f__law_right)
  k__law_right : PySem.W.keepIn K (.ref A.f__law_right) = true
  m_DrawError : mg "DrawError" = some (.ref A.a_DrawError)
  c_DrawError : ErrC K A.fI A.a_DrawError
  m_BadNet : mg "BadNet" = some (.ref A.a_BadNet)
  c_BadNet : ErrC K A.fI A.a_BadNet
  m_NotTied : mg "NotTied" = some (.ref A.a_NotTied)
  c_NotTied : ErrC K A.fI A.a_NotTied
  m_NoPlace : mg "NoPlace" = some (.ref A.a_NoPlace)
  c_NoPlace : ErrC K A.fI A.a_NoPlace
  m_BadTie : mg "BadTie" = some (.ref A.a_BadTie)
  c_BadTie : ErrC K A.fI A.a_BadTie
  m_Full : mg "Full" = some (.ref A.a_Full)
  c_Full : ErrC K A.fI A.a_Full
  m_Few : mg "Few" = some (.ref A.a_Few)
  c_Few : ErrC K A.fI A.a_Few
  m_Net : mg "Net" = some (.ref A.a_Net)
  tI : PySem.W.typeIn K (.ref A.fI) = some (.type "function")
def spName : Sp := fun vs H Q _ => ∃ z : Str, vs = [.str z] ∧ z.length ≤ 1000000 ∧ ∀ H', Same H H' → Q (.bl (isNm z)) H'
/-- a dict that gives the neighbours (a new or old tuple) of each of some -/
def NearAt (H : Hp) (d : Addr) (nb : Str → List Str) (some' : List Str) : Prop := ∃ kvs : List (Key × V), H d = some (.dK kvs) ∧
  ∀ y ∈ some', ∃ t, valV kvs (Sum.inr y) = some (.ref t) ∧ H t = some (.tup ((nb y).map V.str)) ∧ (nb y).Nodup
def spReached (K : PySem.W.Frag) : Sp := fun vs H Q _ => ∃ (d l : Addr) (x : Str) (nb : Str → List Str) (some' : List Str), vs = [.ref d, .str x, .ref l] ∧
  NearAt H d nb some' ∧ SqS K H l (some'.map V.str) ∧ x ∈ some' ∧ some'.length ≤ 100 ∧ (∀ y ∈ some', (nb y).length ≤ 100) ∧
  ∀ (H' : Hp) (p : Addr) (found : List Str), Same H H' → H' p = some (.tup ((some'.filter fun y => decide (y ∈ found)).map V.str)) → (∀ y, y ∈ found ↔ Reach nb some' x y) → Q (.ref p) H'
section
variable {P : Program} {w : World} {K : PySem.W.Frag} {mg : Str → Option Value} {base : Heap} {ad : Adr}
theorem sc_is_name : FnScope ["value", "letter"] ["value"] (defScope s_is_name) := ⟨rfl, rfl, rfl, by decide +kernel, rfl, by decide +kernel, by decide +kernel⟩
theorem ok_is_name {f : Addr} {fd : FuncData} (F : Fun K "is_name" "is_name" s_is_name f fd) (T : Txt K mg ad) : FnOk P w K mg base CX0 1 f fd ["value"] spName := by
  refine F.ok sc_is_name (fun vs H Q E h => ?_) (fun cdv A outer s H vs Q E hr h => ?_)
  · obtain ⟨_, rfl, _⟩ := h
    rfl
  · obtain ⟨z, rfl, hz, k⟩ := h
    have hz' : z.length ≤ sizeLine := Nat.le_trans hz (by decide)
    refine ⟨_, (pss_cons (ps_if (PW.pt (pw_or (pt_not (pt_val (pe_callB call_isi (by rfl) T.n_isinstance (by decide +kernel) (pa_cons (pv 0) (pa_cons (pe_bltn (v := .ty "str") (by rfl) T.n_str (by decide +kernel) rfl) pa_nil))))) (pw_or1 (pt_not (pt_chain op_le op_le pe_int (pe_callB call_len_str (by rfl) T.n_len (by decide +kernel) (pa_cons (pv 0) pa_nil)) (pe_glob (v := .int 8) rfl T.m_LONGEST_NAME.choose_spec ⟨_, rfl⟩)))))) (pss_one (ps_ret pe_bl)) pss_nil)
      (pss_one (ps_ret (pe_callB (kAll (K := K) rfl) (by rfl) T.n_all (by decide +kernel) (pa_cons (pe_lc (own := [("letter", 1)]) (g := gName 1) rfl sc_is_name.nd (pi_str (pv 0)) (blkOk_by (N := ["value", "letter"]) (sc := defScope s_is_name) (by decide +kernel)) (fun _ _ _ _ _ => pg_name (i := 1) sc_is_name.nd rfl (Or.inl rfl)) (fun _ _ _ _ _ => pts_nil) (fun _ _ _ _ _ => (pe_cmpR op_in_sign (pv 1) (pe_glob (v := .str "abcdefghijklmnopqrstuvwxyz") rfl T.m_LETTERS.choose_spec ⟨_, rfl⟩) (by rfl)))) pa_nil))))), ?_⟩
    refine ⟨_, rfl, .str z, .ty "str", .type "str", .type "str", true, rfl, .ty _, .base (.str z), kit_ty (by decide +kernel), true, rfl, if_eqF rfl ?_⟩
    refine ⟨_, rfl, z, rfl, hz', _, _, rfl, rfl, _, rfl, ?_⟩
    by_cases h1 : (1 : Int) ≤ z.length
    · refine if_eqT (decide_eq_true h1) ?_
      refine ⟨_, _, rfl, rfl, _, rfl, ?_⟩
      by_cases h8 : (z.length : Int) ≤ 8
      · refine if_eqF (by rw [decide_eq_true h8]; rfl) ?_
        refine ⟨_, rfl, z, rfl, fun D nD => ?_⟩
        refine lc_it walk_str (fun i Hc => Same H Hc ∧ Hc D = some (.lst ((z.cps.toList.take i).map fun c => V.bl (decide (c ∈ letters.cps.toList))))) ⟨same_new nD, upd_same⟩ (fun _ _ _ _ => trivial) ?_ ?_
        · rintro i x Hc H' hi ⟨sc, hd⟩ ⟨rfl, c, hc, rfl⟩
          have hc' : z.cps.toList[i]? = some c := by rw [Array.getElem?_toList]; exact hc
          refine ⟨rfl, _, rfl, c, letters, rfl, rfl, _, hd, ?_, fun b o eb => ?_, ?_⟩
          · rw [List.length_map, List.length_take]
            have : z.cps.toList.length = z.length := by simp [Str.length]
            exact Nat.lt_of_le_of_lt (Nat.le_trans (Nat.min_le_right _ _) (by rw [this]; exact hz)) (by decide)
          · rw [upd_ne (ne_of_none eb nD)]
            exact sc b o eb
          · rw [upd_same, take_more hc', List.map_append]
            rfl
        · rintro Hc ⟨sc, hd⟩
          have e1 : z.cps.size = z.cps.toList.length := by simp
          rw [e1, List.take_length] at hd
          refine ⟨D, z.cps.toList.map fun c => decide (c ∈ letters.cps.toList), rfl, SqL.of (by rw [List.map_map]; exact hd), ?_⟩
          have e : isNm z = (z.cps.toList.map fun c => decide (c ∈ letters.cps.toList)).all id := by
            unfold isNm
            rw [decide_eq_true h1, decide_eq_true h8, List.all_map]
            rfl
          rw [← e]
          exact k _ sc
      · refine if_eqT (by rw [decide_eq_false h8]; rfl) ?_
        have e : isNm z = false := by
          unfold isNm
          rw [decide_eq_false h8]
          simp
        exact e ▸ k H fun _ _ e => e
    · refine if_eqF (decide_eq_false h1) ?_
      refine ⟨_, rfl, if_eqT rfl ?_⟩
      have e : isNm z = false := by
        unfold isNm
        rw [decide_eq_false h1]
        simp
      exact e ▸ k H fun _ _ e => e
theorem sc_reached : FnScope ["near", "start", "some", "found", "at", "fresh", "place"] ["near", "start", "some"] (defScope s_reached) := ⟨rfl, rfl, rfl, by decide +kernel, rfl, by decide +kernel, by decide +kernel⟩
theorem ok_reached {f : Addr} {fd : FuncData} (F : Fun K "reached" "reached" s_reached f fd) (T : Txt K mg ad) : FnOk P w K mg base CX0 1 f fd ["near", "start", "some"] (spReached K) := by
  refine F.ok sc_reached (fun vs H Q E h => ?_) (fun cdv A outer s H vs Q E hr h => ?_)
  · obtain ⟨_, _, _, _, _, rfl, _⟩ := h
    rfl
  · obtain ⟨d, l, x, nb, some', rfl, ⟨kvs, hd0, hnb⟩, hl, hx, h100, hnl, k⟩ := h
    refine ⟨_, (pss_cons (ps_set (i := 3) sc_reached.nd rfl (Or.inr rfl) (pe_lst (pa_cons (pv 1) pa_nil)))
      (pss_cons (ps_set (i := 4) sc_reached.nd rfl (Or.inl rfl) pe_int)
      (pss_cons (ps_while PassesOwn.never (pt_cmpR op_lt (pv 4) (pe_callB (kLen (K := K)) (by rfl) T.n_len (by decide +kernel) (pa_cons (pv 3) pa_nil)) (nomark _)) (pss_cons (ps_setLc (i := 5) (own := [("place", 6)]) (g := gName 6) rfl sc_reached.nd rfl rfl (sw_true rfl rfl rfl (by decide +kernel)) (kTupI (K := K) (pe_dget (hu_of hr) (pv 0) (pe_ix ix_list (pv 3) (pv 4) (fun _ _ => rfl)) (fun _ _ => rfl))) (blkOk_by (N := ["near", "start", "some", "found", "at", "fresh", "place"]) (sc := defScope s_reached) (by decide +kernel)) (fun _ _ _ _ _ => pg_name (i := 6) sc_reached.nd rfl (Or.inl rfl)) (fun _ _ _ _ _ => (pts_one (PW.pt (pw_and (pt_cmpR (kIn (K := K)) (pv 6) (pv 2) (by rfl)) (pw_and1 (pt_cmpR (kNin (K := K)) (pv 6) (pv 3) (by rfl))))))) (fun _ _ _ _ _ => (pv 6)))
      (pss_cons (ps_set (i := 3) sc_reached.nd rfl (Or.inr rfl) (pe_op op_cat (pv 3) (pv 5)))
      (pss_one (ps_set (i := 4) sc_reached.nd rfl (Or.inl rfl) (pe_op op_add (pv 4) pe_int))))))
      (pss_one (ps_ret (pe_callTy (kTupOf (K := K)) (by rfl) T.n_tuple (by decide +kernel) (pa_cons (pe_lc (own := [("place", 6)]) (g := gName 6) rfl sc_reached.nd (kSeqI (K := K) (pv 2)) (blkOk_by (N := ["near", "start", "some", "found", "at", "fresh", "place"]) (sc := defScope s_reached) (by decide +kernel)) (fun _ _ _ _ _ => pg_name (i := 6) sc_reached.nd rfl (Or.inl rfl)) (fun _ _ _ _ _ => (pts_one (pt_cmpR (kIn (K := K)) (pv 6) (pv 3) (by rfl)))) (fun _ _ _ _ _ => (pv 6))) pa_nil))))))), ?_⟩
    refine ⟨_, rfl, by show 1 ≤ sizeLine; decide, fun f0 n0 => ?_⟩
    refine while_by (fun σ H' => ∃ (f : Addr) (found : List Str) (n : Nat) (fr : Option V), σ = [some (.ref d), some (.str x), some (.ref l), some (.ref f), some (.int n), fr, none] ∧
      Same H H' ∧ H' f = some (.lst (found.map V.str)) ∧ Walked nb some' x found n ∧ n ≤ found.length)
      (fun σ _ => some'.length + 1 - slotInt σ 4)
      ⟨f0, [x], 0, none, rfl, same_new n0, upd_same, .start hx, Nat.zero_le _⟩ ?_ ?_
    · rintro σ H' ⟨f, found, n, fr, rfl, sm, hf, wk, hn⟩
      refine ⟨_, rfl, _, rfl, f, _, rfl, .inl (SqL.of hf), _, _, rfl, rfl, _, rfl, ?_⟩
      refine ite2 (fun hlt => ?_) (fun hge => ?_)
      · have hlt' : n < found.length := by
          have q := of_decide_eq_true hlt
          rw [List.length_map] at q
          omega
        have hy : found[n]? = some found[n] := List.getElem?_eq_getElem hlt'
        generalize found[n] = y at hy
        have my : y ∈ some' := wk.sub y (List.mem_of_getElem? hy)
        obtain ⟨t, hv, ht, nd⟩ := hnb y my
        have flen := wk.length_le
        have wk' := wk.turn hy nd
        have flen' := wk'.length_le
        refine ⟨_, rfl, _, rfl, _, rfl, f, _, (n : Int), .str y, rfl, rfl, SqL.of hf, atI_nat (by rw [List.getElem?_map, hy]; rfl), ?_⟩
        refine ⟨d, .ref t, rfl, by have q := DGet.k (k := Sum.inr y) (sm _ _ hd0); rw [hv] at q; exact q, ?_⟩
        refine ⟨t, rfl, ⟨_, SqT.of (sm _ _ ht)⟩, fun D nD => ?_⟩
        refine lc_tup (xs := (nb y).map V.str) (fun i Hc => Same H' Hc ∧ Hc D = some (.lst ((((nb y).take i).filter fun z => decide (z ∈ some') && !decide (z ∈ found)).map V.str))) ⟨same_new nD, upd_same⟩
          (fun i Hc _ z => z.1.tup (SqT.of (sm _ _ ht))) ?_ ?_
        · rintro i v Hc hi ⟨sc, hd⟩
          obtain ⟨z, hz, rfl⟩ := str_at hi
          have e1 : (if (false : Bool) = true then !inV (.str z) (some'.map V.str) else inV (.str z) (some'.map V.str)) = decide (z ∈ some') := by simp [inV_strs]
          have e2 : (if (true : Bool) = true then !inV (.str z) (found.map V.str) else inV (.str z) (found.map V.str)) = !decide (z ∈ found) := by simp [inV_strs]
          refine ⟨rfl, _, rfl, _, rfl, l, _, rfl, seqS (sc.trans' sm) hl, rfl, flat_strs, _, rfl, ?_⟩
          by_cases h1 : z ∈ some'
          · refine if_eqT (e1.trans (decide_eq_true h1)) ⟨_, rfl, _, rfl, f, _, rfl, .inl (SqL.of (sc _ _ hf)), rfl, flat_strs, _, rfl, ?_⟩
            by_cases h2 : z ∈ found
            · refine if_eqF (e2.trans (by rw [decide_eq_true h2]; rfl)) ⟨sc, ?_⟩
              rw [hd, filter_more hz, if_neg (by rw [decide_eq_true h2]; simp), List.append_nil]
            · refine if_eqT (e2.trans (by rw [decide_eq_false h2]; rfl)) ⟨_, rfl, _, hd, ?_, fun b o eb => ?_, ?_⟩
              · exact Nat.lt_of_le_of_lt (by rw [List.length_map]; exact Nat.le_trans (List.length_filter_le _ _) (by rw [List.length_take]; have := hnl y my; omega) : _ ≤ 100) (by decide)
              · rw [upd_ne (ne_of_none eb nD)]
                exact sc b o eb
              · rw [upd_same, filter_more hz, if_pos (by rw [decide_eq_true h1, decide_eq_false h2]; rfl), List.map_append]
                rfl
          · refine if_eqF (e1.trans (decide_eq_false h1)) ?_
            refine if_eqF rfl ⟨sc, ?_⟩
            rw [hd, filter_more hz, if_neg (by rw [decide_eq_false h1]; simp), List.append_nil]
        · rintro Hc ⟨sc, hd⟩
          rw [List.length_map, List.take_length] at hd
          change Hc D = some (.lst ((freshOf nb some' found y).map V.str)) at hd
          refine ⟨_, rfl, _, rfl, f, D, _, _, rfl, rfl, sc _ _ hf, hd, ?_, fun q nq => ?_⟩
          · rw [List.length_map, List.length_map, ← List.length_append]
            exact Nat.le_trans (Nat.le_trans flen' h100) (by decide)
          refine ⟨_, rfl, _, _, rfl, rfl, ⟨q, _, n + 1, _, rfl, fun b o e => same_new nq _ _ (sc _ _ (sm _ _ e)), ?_, wk', ?_⟩, ?_⟩
          · rw [upd_same, List.map_append]
          · rw [List.length_append]
            omega
          · show some'.length + 1 - ((n : Int) + 1).toNat < some'.length + 1 - (n : Int).toNat
            omega
      · have hn' : n = found.length := by
          have q : ¬ ((n : Int) < ((found.map V.str).length : Nat)) := fun z => hge (decide_eq_true z)
          rw [List.length_map] at q
          omega
        refine ⟨_, rfl, ?_⟩
        rcases hl with hl | hl
        · refine ⟨l, rfl, .inl ⟨⟨_, sm.seq hl⟩, fun D nD => ?_⟩⟩
          refine lc_it walk_list (fun i Hc => Same H' Hc ∧ Hc D = some (.lst (((some'.take i).filter fun y => decide (y ∈ found)).map V.str))) ⟨same_new nD, upd_same⟩ (fun i Hc _ z => (z.1.seq (sm.seq hl))) ?_ ?_
          · rintro i y Hc H2 hi ⟨sc, hd⟩ ⟨rfl, hy⟩
            obtain ⟨z, hz, rfl⟩ := str_at hy
            refine ⟨rfl, _, rfl, _, rfl, f, _, rfl, .inl (SqL.of (sc _ _ hf)), rfl, flat_strs, _, rfl, ?_⟩
            have e1 : (if (false : Bool) = true then !inV (.str z) (found.map V.str) else inV (.str z) (found.map V.str)) = decide (z ∈ found) := by simp [inV_strs]
            by_cases hm : z ∈ found
            · refine if_eqT (e1.trans (decide_eq_true hm)) ⟨_, rfl, _, hd, ?_, fun b o eb => ?_, ?_⟩
              · exact Nat.lt_of_le_of_lt (by rw [List.length_map]; exact Nat.le_trans (List.length_filter_le _ _) (by rw [List.length_take]; omega) : _ ≤ 100) (by decide)
              · rw [upd_ne (ne_of_none eb nD)]
                exact sc b o eb
              · rw [upd_same, filter_more hz, if_pos (decide_eq_true hm), List.map_append]
                rfl
            · refine if_eqF (e1.trans (decide_eq_false hm)) ⟨sc, ?_⟩
              rw [hd, filter_more hz, if_neg (by rw [decide_eq_false hm]; exact Bool.false_ne_true), List.append_nil]
          · rintro Hc ⟨sc, hd⟩
            rw [List.length_map, List.take_length] at hd
            refine ⟨D, _, rfl, .inl ⟨SqL.of hd, fun q nq => ?_⟩⟩
            exact k _ q found (fun b o e => same_new nq _ _ (sc _ _ (sm _ _ e))) upd_same fun y => by
              have := wk
              rw [hn'] at this
              exact this.end
        · refine ⟨l, rfl, .inr ⟨⟨_, sm.tup hl⟩, fun D nD => ?_⟩⟩
          refine lc_it walk_tup (fun i Hc => Same H' Hc ∧ Hc D = some (.lst (((some'.take i).filter fun y => decide (y ∈ found)).map V.str))) ⟨same_new nD, upd_same⟩ (fun i Hc _ z => (z.1.tup (sm.tup hl))) ?_ ?_
          · rintro i y Hc H2 hi ⟨sc, hd⟩ ⟨rfl, hy⟩
            obtain ⟨z, hz, rfl⟩ := str_at hy
            refine ⟨rfl, _, rfl, _, rfl, f, _, rfl, .inl (SqL.of (sc _ _ hf)), rfl, flat_strs, _, rfl, ?_⟩
            have e1 : (if (false : Bool) = true then !inV (.str z) (found.map V.str) else inV (.str z) (found.map V.str)) = decide (z ∈ found) := by simp [inV_strs]
            by_cases hm : z ∈ found
            · refine if_eqT (e1.trans (decide_eq_true hm)) ⟨_, rfl, _, hd, ?_, fun b o eb => ?_, ?_⟩
              · exact Nat.lt_of_le_of_lt (by rw [List.length_map]; exact Nat.le_trans (List.length_filter_le _ _) (by rw [List.length_take]; omega) : _ ≤ 100) (by decide)
              · rw [upd_ne (ne_of_none eb nD)]
                exact sc b o eb
              · rw [upd_same, filter_more hz, if_pos (decide_eq_true hm), List.map_append]
                rfl
            · refine if_eqF (e1.trans (decide_eq_false hm)) ⟨sc, ?_⟩
              rw [hd, filter_more hz, if_neg (by rw [decide_eq_false hm]; exact Bool.false_ne_true), List.append_nil]
          · rintro Hc ⟨sc, hd⟩
            rw [List.length_map, List.take_length] at hd
            refine ⟨D, _, rfl, .inl ⟨SqL.of hd, fun q nq => ?_⟩⟩
            exact k _ q found (fun b o e => same_new nq _ _ (sc _ _ (sm _ _ e))) upd_same fun y => by
              have := wk
              rw [hn'] at this
              exact this.end
    · rintro σ H' Q1 Q2 m ⟨v, hv, u, hu, p, ys, e1, hs, i, j, e2, e3, b, e4, q⟩
      exact ⟨v, hv, u, hu, p, ys, e1, hs, i, j, e2, e3, b, e4, m _ _ q⟩
end
end K05
namespace K05
open PySem L2 NetM PySem.Spec PyProof.Rows
def spInSeq (K : PySem.W.Frag) : Sp := fun vs H Q _ => ∃ (a l : Addr) (ps : List Str) (ties : List (Str × Str)), vs = [.ref a, .ref l] ∧ SqT K H a (ps.map V.str) ∧ PairsL H l ties ∧
  ps.length ≤ 100 ∧ ps.all PyData.strOk = true ∧ ties.all okP = true ∧ ∀ H' t, Same H H' → PairsT H' t (inSeq ps ties) → Q (.ref t) H'
section
variable {P : Program} {w : World} {K : PySem.W.Frag} {mg : Str → Option Value} {base : Heap} {ad : Adr}
theorem sc_ties_in_sequence : FnScope ["places", "ties", "pairs", "at", "one", "other"] ["places", "ties"] (defScope s_ties_in_sequence) := ⟨rfl, rfl, rfl, by decide +kernel, rfl, by decide +kernel, by decide +kernel⟩
theorem ok_ties_in_sequence {f : Addr} {fd : FuncData} (F : Fun K "ties_in_sequence" "ties_in_sequence" s_ties_in_sequence f fd) (T : Txt K mg ad) : FnOk P w K mg base CX0 1 f fd ["places", "ties"] (spInSeq K) := by
  refine F.ok sc_ties_in_sequence (fun vs H Q E h => ?_) (fun cdv A outer s H vs Q E hr h => ?_)
  · obtain ⟨_, _, _, _, rfl, _⟩ := h
    rfl
  · obtain ⟨a, l, ps, ties, rfl, ha, hl, h100, okp, okt, k⟩ := h
    have hu65 : (A.deeper (envOfC "ties_in_sequence" (defScope s_ties_in_sequence) s.heap.objs.size f cdv)).units + 65 < cLine := by
      have := hr.un
      omega
    refine ⟨_, (pss_cons (ps_setLc2 (i := 2) (own := [("at", 3), ("one", 4), ("other", 5)]) (vs1 := [5]) rfl sc_ties_in_sequence.nd rfl rfl (sw_true rfl rfl rfl (by decide +kernel)) (pi_enumT (by rfl) T.n_enumerate (pa_cons (pv 0) pa_nil)) (blkOk_by (N := ["places", "ties", "pairs", "at", "one", "other"]) (sc := defScope s_ties_in_sequence) (by decide +kernel)) (by decide) (fun _ _ _ _ _ => kTgt (K := K) (n := 2) (by rfl) (pgs_cons (pg_name (i := 3) sc_ties_in_sequence.nd rfl (Or.inl rfl)) (pgs_cons (pg_name (i := 4) sc_ties_in_sequence.nd rfl (Or.inl rfl)) pgs_nil))) (fun _ _ _ _ _ => pts_nil) (fun _ _ _ _ _ => (kTupI (K := K) (pe_slice (kSlT (K := K)) (pv 0) (po_some (pe_op op_add (pv 3) pe_int)) po_none))) (fun _ _ _ _ _ => pg_name (i := 5) sc_ties_in_sequence.nd rfl (Or.inl rfl)) (fun _ _ _ _ _ => pts_nil) (fun _ _ _ _ _ => (pe_tup (pa_cons (pv 4) (pa_cons (pv 5) pa_nil)))))
      (pss_one (ps_ret (pe_callTy (kTupOf (K := K)) (by rfl) T.n_tuple (by decide +kernel) (pa_cons (pe_lc (own := [("one", 4), ("other", 5)]) rfl sc_ties_in_sequence.nd (kLstI (K := K) (pv 2)) (blkOk_by (N := ["places", "ties", "pairs", "at", "one", "other"]) (sc := defScope s_ties_in_sequence) (by decide +kernel)) (fun _ _ _ _ _ => kTgt (K := K) (n := 2) (by rfl) (pgs_cons (pg_name (i := 4) sc_ties_in_sequence.nd rfl (Or.inl rfl)) (pgs_cons (pg_name (i := 5) sc_ties_in_sequence.nd rfl (Or.inl rfl)) pgs_nil))) (fun _ _ _ _ _ => (pts_one (PW.pt (pw_or (pt_cmpR (kInD (K := K) hu65) (pe_tup (pa_cons (pv 4) (pa_cons (pv 5) pa_nil))) (pv 1) (by rfl)) (pw_or1 (pt_cmpR (kInD (K := K) hu65) (pe_tup (pa_cons (pv 5) (pa_cons (pv 4) pa_nil))) (pv 1) (by rfl))))))) (fun _ _ _ _ _ => (pe_tup (pa_cons (pv 4) (pa_cons (pv 5) pa_nil))))) pa_nil))))), ?_⟩
    refine ⟨_, rfl, a, _, rfl, ha, fun D nD => ?_⟩
    refine lcB walk_enumT (fun i Hc => Same H Hc ∧ PairsL Hc D (pairsTo ps i)) ⟨same_new nD, [], upd_same, .nil⟩ (fun i Hc _ z => z.1.tup ha) ?_ ?_
    · rintro i x Hc H' hi ⟨sc, hp⟩ ⟨Tt, u, y, rfl, nT, rfl, e1, e2⟩
      obtain rfl : V.int ((0 : Int) + (i : Nat)) = u := Option.some.inj e1
      obtain ⟨z, hz, rfl⟩ := str_at e2
      have fT : upd Hc Tt (.tup [.int ((0 : Int) + (i : Nat)), .str z]) Tt = some (.tup [.int ((0 : Int) + (i : Nat)), .str z]) := upd_same
      have s2 : Same H (upd Hc Tt (.tup [.int ((0 : Int) + (i : Nat)), .str z])) := Same.trans sc (same_new nT)
      have hp2 := pairs_two (o := .tup [.int ((0 : Int) + (i : Nat)), .str z]) hp nT
      generalize upd Hc Tt (.tup [.int ((0 : Int) + (i : Nat)), .str z]) = H2 at fT s2 hp2 ⊢
      refine ⟨Tt, _, rfl, SqT.of fT, rfl, _, _, rfl, _, _, rfl, rfl, rfl, ?_⟩
      refine ⟨_, rfl, _, rfl, _, _, rfl, rfl, _, rfl, a, _, rfl, s2.tup ha, fun wh => ?_, fun nw p np => ?_⟩
      · exfalso
        have h1 := wh.1
        rw [show (0 : Int) + (i : Nat) + 1 = ((i + 1 : Nat) : Int) by omega, HT.sIx_nat] at h1
        omega
      rw [cut_from, ← List.map_drop]
      have s3 : Same H (upd H2 p (.tup ((ps.drop (i + 1)).map V.str))) := Same.trans s2 (same_new np)
      have f3 : upd H2 p (.tup ((ps.drop (i + 1)).map V.str)) p = some (.tup ((ps.drop (i + 1)).map V.str)) := upd_same
      have hp3 := pairs_two (o := .tup ((ps.drop (i + 1)).map V.str)) hp2 np
      generalize upd H2 p (.tup ((ps.drop (i + 1)).map V.str)) = H3 at s3 f3 hp3 ⊢
      refine ⟨p, rfl, ⟨_, SqT.of f3⟩, ?_⟩
      refine lcB walk_tup (fun j Hc => Same H Hc ∧ Hc p = some (.tup ((ps.drop (i + 1)).map V.str)) ∧ PairsL Hc D (pairsTo ps i ++ ((ps.drop (i + 1)).take j).map fun o => (z, o)))
        ⟨s3, f3, by simpa using hp3⟩ (fun j Hc _ q => SqT.of q.2.1) ?_ ?_
      · rintro j x Hc H' hj ⟨s4, f4, hp4⟩ ⟨rfl, hy⟩
        obtain ⟨o, ho, rfl⟩ := str_at hy
        refine ⟨rfl, _, rfl, _, rfl, by show 2 ≤ sizeLine; decide, fun q nq => ?_⟩
        obtain ⟨as, e4, r4⟩ := id hp4
        have nqD : D ≠ q := ne_of_none e4 nq
        have eD : upd H' q (.tup [.str z, .str o]) D = some (.lst (as.map V.ref)) := by
          rw [upd_ne nqD]
          exact e4
        refine ⟨_, eD, ?_, fun b u eb => ?_, ?_, ?_⟩
        · rw [List.length_map, Paired.length r4, List.length_append]
          exact Nat.lt_of_le_of_lt (lenTo ps i j h100 (Nat.le_of_lt (by simpa using hi))) (by decide)
        · rw [upd_ne (ne_of_none eb nD), upd_ne (ne_of_none (s4 _ _ eb) nq)]
          exact s4 _ _ eb
        · rw [upd_ne (ne_of f4 e4 (fun z => by cases z)), upd_ne (ne_of_none f4 nq)]
          exact f4
        · have pp := pairs_push (a := z) (b := o) hp4 nq e4
          rw [take_more ho, List.map_append, ← List.append_assoc]
          exact pp
      · rintro Hc ⟨s4, f4, hp4⟩
        refine ⟨s4, ?_⟩
        rw [List.length_map, List.take_length] at hp4
        have eg : ps.getD i "" = z := by rw [List.getD_eq_getElem?_getD, hz]; rfl
        show PairsL Hc D (pairsTo ps i ++ (ps.drop (i + 1)).map fun o => (ps.getD i "", o))
        rw [eg]
        exact hp4
    · rintro H1 ⟨s1, hp1⟩
      rw [List.length_map] at hp1
      change PairsL H1 D (pairsAll ps) at hp1
      obtain ⟨as, e1, r1⟩ := id hp1
      have okA : (pairsAll ps).all okP = true := okAll ps okp
      have hlen : (as.map V.ref).length < sizeLine := by
        rw [List.length_map, Paired.length r1]
        exact Nat.lt_of_le_of_lt (lenAll ps h100) (by decide)
      have inq : inSeq ps ties = (pairsAll ps).filter (tieIn ties) := rfl
      rw [inq] at k
      generalize pairsAll ps = qs at hp1 r1 okA k
      refine ⟨_, rfl, D, rfl, ⟨_, SqL.of e1⟩, fun D2 nD2 => ?_⟩
      have eqs : (as.map V.ref).length = qs.length := by rw [List.length_map, Paired.length r1]
      refine lcB walk_list (fun i Hc => Same H1 Hc ∧ PairsL Hc D2 ((qs.take i).filter (tieIn ties))) ⟨same_new nD2, [], upd_same, .nil⟩ (fun i Hc _ z => SqL.of (z.1 _ _ e1)) ?_ ?_
      · rintro i x Hc H' hi ⟨sc, hp2⟩ ⟨rfl, hx⟩
        obtain ⟨a', pq, rfl, hpq, pa⟩ := pair_at r1 hx
        have okpq : okP pq = true := List.all_eq_true.mp okA _ (List.mem_of_getElem? hpq)
        have okqp : okP (pq.2, pq.1) = true := by
          unfold okP at okpq ⊢
          rw [Bool.and_comm]
          exact okpq
        refine ⟨a', _, rfl, SqT.of (sc _ _ pa), rfl, _, _, rfl, _, _, rfl, rfl, rfl, ?_⟩
        refine ⟨_, rfl, _, rfl, by show 2 ≤ sizeLine; decide, fun q nq => ?_⟩
        have sq : Same H1 (upd H' q (.tup [.str pq.1, .str pq.2])) := Same.trans sc (same_new nq)
        have fq : PairAt (upd H' q (.tup [.str pq.1, .str pq.2])) q pq := upd_same
        have hpq2 := pairs_two (o := .tup [.str pq.1, .str pq.2]) hp2 nq
        generalize upd H' q (.tup [.str pq.1, .str pq.2]) = H3 at sq fq hpq2 ⊢
        have tl : ∀ {Hz : Hp}, Same H1 Hz → Dp K Hz (.ref l) (.list (ties.map pD)) := fun sz => dp_pairsL (hl.same (Same.trans s1 sz))
        have last : ∀ (H4 : Hp), Same H1 H4 → PairsL H4 D2 ((qs.take i).filter (tieIn ties)) → tieIn ties pq = true →
            ∀ q4, H4 q4 = none → ∃ acc, upd H4 q4 (.tup [.str pq.1, .str pq.2]) D2 = some (.lst acc) ∧ acc.length < sizeLine ∧
              Same H1 (upd (upd H4 q4 (.tup [.str pq.1, .str pq.2])) D2 (.lst (acc ++ [.ref q4]))) ∧
              PairsL (upd (upd H4 q4 (.tup [.str pq.1, .str pq.2])) D2 (.lst (acc ++ [.ref q4]))) D2 ((qs.take (i + 1)).filter (tieIn ties)) := by
          intro H4 s4 hp4 ti q4 nq4
          obtain ⟨as4, e4, r4⟩ := id hp4
          refine ⟨_, by rw [upd_ne (ne_of_none e4 nq4)]; exact e4, ?_, fun b u eb => ?_, ?_⟩
          · rw [List.length_map, Paired.length r4]
            refine Nat.lt_of_le_of_lt (Nat.le_trans (List.length_filter_le _ _) (by rw [List.length_take]; exact Nat.min_le_right _ _)) ?_
            rw [← eqs]
            exact hlen
          · rw [upd_ne (ne_of_none eb nD2), upd_ne (ne_of_none (s4 _ _ eb) nq4)]
            exact s4 _ _ eb
          · rw [filterMore hpq, if_pos ti]
            exact pairs_push (a := pq.1) (b := pq.2) hp4 nq4 e4
        refine ⟨_, rfl, pD pq, ties.map pD, dp_pair fq, tl sq, pD_shaped okpq, pDs_shaped okt, _, rfl, ?_⟩
        by_cases h1 : pq ∈ ties
        · refine if_eqT (by rw [any_pD]; exact decide_eq_true h1) ?_
          refine ⟨_, rfl, _, rfl, by show 2 ≤ sizeLine; decide, fun q4 nq4 => ?_⟩
          exact last H3 sq hpq2 (by unfold tieIn; rw [decide_eq_true h1]; rfl) q4 nq4
        · refine if_eqF (by rw [any_pD]; exact decide_eq_false h1) ?_
          refine ⟨_, rfl, _, rfl, by show 2 ≤ sizeLine; decide, fun q5 nq5 => ?_⟩
          have s5 : Same H1 (upd H3 q5 (.tup [.str pq.2, .str pq.1])) := Same.trans sq (same_new nq5)
          have f5 : PairAt (upd H3 q5 (.tup [.str pq.2, .str pq.1])) q5 (pq.2, pq.1) := upd_same
          have hp5 := pairs_two (o := .tup [.str pq.2, .str pq.1]) hpq2 nq5
          generalize upd H3 q5 (.tup [.str pq.2, .str pq.1]) = H5 at s5 f5 hp5 ⊢
          refine ⟨_, rfl, pD (pq.2, pq.1), ties.map pD, dp_pair f5, tl s5, pD_shaped okqp, pDs_shaped okt, _, rfl, ?_⟩
          by_cases h2 : (pq.2, pq.1) ∈ ties
          · refine if_eqT (by rw [any_pD]; exact decide_eq_true h2) ?_
            refine ⟨_, rfl, _, rfl, by show 2 ≤ sizeLine; decide, fun q4 nq4 => ?_⟩
            exact last H5 s5 hp5 (by unfold tieIn; rw [decide_eq_true h2]; simp) q4 nq4
          · refine if_eqF (by rw [any_pD]; exact decide_eq_false h2) ⟨s5, ?_⟩
            rw [filterMore hpq, if_neg (by unfold tieIn; rw [decide_eq_false h1, decide_eq_false h2]; exact Bool.false_ne_true), List.append_nil]
            exact hp5
      · rintro Hc ⟨sc, hp2⟩
        rw [eqs, List.take_length] at hp2
        obtain ⟨as2, e2, r2⟩ := hp2
        refine ⟨D2, _, rfl, .inl ⟨SqL.of e2, fun t nt => ?_⟩⟩
        exact k _ t (Same.trans s1 (Same.trans sc (same_new nt))) ⟨as2, upd_same, Paired.weak (fun _ _ z => same_new nt _ _ z) r2⟩
end
end K05
namespace K05
open PySem L2 NetM PySem.Spec PyProof.Rows
def spNear (K : PySem.W.Frag) : Sp := fun vs H Q _ => ∃ (a t : Addr) (ps : List Str) (ties : List (Str × Str)), vs = [.ref a, .ref t] ∧ SqT K H a (ps.map V.str) ∧ PairsT H t ties ∧
  ps.length ≤ 100 ∧ ties.length ≤ 20000 ∧ ∀ (H' : Hp) (d : Addr) (kvs : List (Key × V)), Same H H' → H' d = some (.dK kvs) →
  (∀ y ∈ ps, ∃ u, valV kvs (Sum.inr y) = some (.ref u) ∧ H' u = some (.tup ((nbOf ties y).map V.str))) → Q (.ref d) H'
section
variable {P : Program} {w : World} {K : PySem.W.Frag} {mg : Str → Option Value} {base : Heap} {ad : Adr}
theorem sc_neighbours : FnScope ["places", "ties", "earlier", "later", "place", "one", "other"] ["places", "ties"] (defScope s_neighbours) := ⟨rfl, rfl, rfl, by decide +kernel, rfl, by decide +kernel, by decide +kernel⟩
theorem ok_neighbours {f : Addr} {fd : FuncData} (F : Fun K "neighbours" "neighbours" s_neighbours f fd) (T : Txt K mg ad) : FnOk P w K mg base CX0 1 f fd ["places", "ties"] (spNear K) := by
  refine F.ok sc_neighbours (fun vs H Q E h => ?_) (fun cdv A outer s H vs Q E hr h => ?_)
  · obtain ⟨_, _, _, _, rfl, _⟩ := h
    rfl
  · obtain ⟨a, l, ps, ties, rfl, ha, hl, h100, ht, k⟩ := h
    obtain ⟨as, e0, r0⟩ := hl
    have eqs : (as.map V.ref).length = ties.length := by rw [List.length_map, Paired.length r0]
    have s0 : Same H H := fun _ _ e => e
    refine ⟨_, (pss_cons (ps_set (i := 2) sc_neighbours.nd rfl (Or.inr rfl) (pe_dc (own := [("place", 4)]) (g := gName 4) rfl sc_neighbours.nd (kTupI (K := K) (pv 0)) (blkOk_by (by rfl)) (fun _ _ _ _ _ => pg_name (i := 4) sc_neighbours.nd rfl (Or.inr rfl)) (fun _ _ _ _ _ => pts_nil) (fun _ _ _ _ _ => (pv 4)) (fun _ _ _ _ _ => (pe_lc (own := [("one", 5), ("other", 6)]) rfl sc_neighbours.nd (kTupI (K := K) (pv 1)) (blkOk_by (by rfl)) (fun _ _ _ _ _ => kTgt (K := K) (n := 2) (by rfl) (pgs_cons (pg_name (i := 5) sc_neighbours.nd rfl (Or.inl rfl)) (pgs_cons (pg_name (i := 6) sc_neighbours.nd rfl (Or.inl rfl)) pgs_nil))) (fun _ _ _ _ _ => (pts_one (pt_cmpR op_eq (pv 6) (pv 4) (nomark _)))) (fun _ _ _ _ _ => (pv 5))))))
      (pss_cons (ps_set (i := 3) sc_neighbours.nd rfl (Or.inr rfl) (pe_dc (own := [("place", 4)]) (g := gName 4) rfl sc_neighbours.nd (kTupI (K := K) (pv 0)) (blkOk_by (by rfl)) (fun _ _ _ _ _ => pg_name (i := 4) sc_neighbours.nd rfl (Or.inr rfl)) (fun _ _ _ _ _ => pts_nil) (fun _ _ _ _ _ => (pv 4)) (fun _ _ _ _ _ => (pe_lc (own := [("one", 5), ("other", 6)]) rfl sc_neighbours.nd (kTupI (K := K) (pv 1)) (blkOk_by (by rfl)) (fun _ _ _ _ _ => kTgt (K := K) (n := 2) (by rfl) (pgs_cons (pg_name (i := 5) sc_neighbours.nd rfl (Or.inl rfl)) (pgs_cons (pg_name (i := 6) sc_neighbours.nd rfl (Or.inl rfl)) pgs_nil))) (fun _ _ _ _ _ => (pts_one (pt_cmpR op_eq (pv 5) (pv 4) (nomark _)))) (fun _ _ _ _ _ => (pv 6))))))
      (pss_one (ps_ret (pe_dc (own := [("place", 4)]) (g := gName 4) rfl sc_neighbours.nd (kTupI (K := K) (pv 0)) (blkOk_by (by rfl)) (fun _ _ _ _ _ => pg_name (i := 4) sc_neighbours.nd rfl (Or.inl rfl)) (fun _ _ _ _ _ => pts_nil) (fun _ _ _ _ _ => (pv 4)) (fun _ _ _ _ _ => (pe_callTy (kTupOf (K := K)) (by rfl) T.n_tuple (by decide +kernel) (pa_cons (pe_op op_cat (pe_dget (hu_of hr) (pv 2) (pv 4) (fun _ _ => rfl)) (pe_dget (hu_of hr) (pv 3) (pv 4) (fun _ _ => rfl))) pa_nil)))))))), ?_⟩
    refine ⟨_, rfl, a, rfl, ⟨_, s0.tup ha⟩, fun D1 nD1 => ?_⟩
    refine lcB walk_tup (fun i Hc => Same H Hc ∧ ∃ kvs, Hc D1 = some (.dK kvs) ∧ kvs.length ≤ i ∧ ∀ y ∈ ps.take i, ∃ u, valV kvs (Sum.inr y) = some (.ref u) ∧ Hc u = some (.lst ((earlOf ties y).map V.str)))
      ⟨same_new nD1, [], upd_same, Nat.le_refl _, fun y hy => by simp at hy⟩ (fun i Hc _ z => (Same.trans s0 z.1).tup ha) ?_ ?_
    · rintro i x Hc H' hi ⟨sc, kvs, hD, hk, hv⟩ ⟨rfl, hx⟩
      obtain ⟨y, hy, rfl⟩ := str_at hx
      have hi' : i < 100 := by
        rw [List.length_map] at hi
        omega
      refine ⟨rfl, _, rfl, _, rfl, l, rfl, ⟨_, SqT.of (sc _ _ (s0 _ _ e0))⟩, fun Di nDi => ?_⟩
      refine lcB walk_tup (fun j Hd => Same H' Hd ∧ Hd Di = some (.lst ((((ties.take j).filter fun p => decide (V.str p.2 = V.str y)).map (·.1)).map V.str)))
        ⟨same_new nDi, upd_same⟩ (fun j Hd _ z => SqT.of (z.1 _ _ (sc _ _ (s0 _ _ e0)))) ?_ ?_
      · rintro j x Hd H2 hj ⟨s2, h2⟩ ⟨rfl, hx2⟩
        obtain ⟨a', pq, rfl, hpq, pa⟩ := pair_at r0 hx2
        refine ⟨a', _, rfl, SqT.of (s2 _ _ (sc _ _ (s0 _ _ pa))), rfl, _, _, rfl, _, _, rfl, rfl, rfl, ?_⟩
        refine ⟨_, rfl, _, rfl, rfl, _, rfl, ?_⟩
        by_cases hm : V.str pq.2 = V.str y
        · refine if_eqT (decide_eq_true hm) ⟨_, rfl, _, h2, ?_, fun b u eb => ?_, ?_⟩
          · rw [List.length_map, List.length_map]
            exact Nat.lt_of_le_of_lt (Nat.le_trans (List.length_filter_le _ _) (by rw [List.length_take]; omega) : _ ≤ 20000) (by decide)
          · rw [upd_ne (ne_of_none eb nDi)]
            exact s2 _ _ eb
          · rw [upd_same, filterMore hpq, if_pos (decide_eq_true hm), List.map_append, List.map_append]
            rfl
        · refine if_eqF (decide_eq_false hm) ⟨s2, ?_⟩
          rw [h2, filterMore hpq, if_neg (by rw [decide_eq_false hm]; exact Bool.false_ne_true), List.append_nil]
      · rintro Hd ⟨s2, h2⟩
        rw [eqs, List.take_length] at h2
        have hD' := s2 _ _ hD
        refine ⟨kvs, Sum.inr y, rfl, hD', Nat.lt_of_le_of_lt (Nat.le_trans hk (Nat.le_of_lt hi')) (by decide), fun b u eb => ?_, _, upd_same, ?_, fun y' hy' => ?_⟩
        · rw [upd_ne (ne_of_none eb nD1)]
          exact s2 _ _ (sc _ _ eb)
        · exact Nat.le_trans (length_putK _ _ _) (Nat.succ_le_succ hk)
        · by_cases e : y' = y
          · subst e
            refine ⟨Di, by rw [valV_put, if_pos rfl], ?_⟩
            rw [upd_ne (ne_of h2 hD' (fun z => by cases z))]
            exact h2
          · rw [take_more hy] at hy'
            have hy2 : y' ∈ ps.take i := by
              rcases List.mem_append.mp hy' with z | z
              · exact z
              · exact absurd (List.mem_singleton.mp z) e
            obtain ⟨u, hu1, hu2⟩ := hv y' hy2
            refine ⟨u, by rw [valV_put, if_neg (fun z => e (Sum.inr.inj z))]; exact hu1, ?_⟩
            have hu3 := s2 _ _ hu2
            rw [upd_ne (ne_of hu3 hD' (fun z => by cases z))]
            exact hu3
    rintro H1 ⟨sn1, kv1, hD1, hk1, hv1⟩
    rw [List.length_map] at hk1 hv1
    rw [List.take_length] at hv1
    have s1 : Same H H1 := Same.trans s0 sn1
    refine ⟨_, rfl, a, rfl, ⟨_, s1.tup ha⟩, fun D2 nD2 => ?_⟩
    refine lcB walk_tup (fun i Hc => Same H1 Hc ∧ ∃ kvs, Hc D2 = some (.dK kvs) ∧ kvs.length ≤ i ∧ ∀ y ∈ ps.take i, ∃ u, valV kvs (Sum.inr y) = some (.ref u) ∧ Hc u = some (.lst ((lateOf ties y).map V.str)))
      ⟨same_new nD2, [], upd_same, Nat.le_refl _, fun y hy => by simp at hy⟩ (fun i Hc _ z => (Same.trans s1 z.1).tup ha) ?_ ?_
    · rintro i x Hc H' hi ⟨sc, kvs, hD, hk, hv⟩ ⟨rfl, hx⟩
      obtain ⟨y, hy, rfl⟩ := str_at hx
      have hi' : i < 100 := by
        rw [List.length_map] at hi
        omega
      refine ⟨rfl, _, rfl, _, rfl, l, rfl, ⟨_, SqT.of (sc _ _ (s1 _ _ e0))⟩, fun Di nDi => ?_⟩
      refine lcB walk_tup (fun j Hd => Same H' Hd ∧ Hd Di = some (.lst ((((ties.take j).filter fun p => decide (V.str p.1 = V.str y)).map (·.2)).map V.str)))
        ⟨same_new nDi, upd_same⟩ (fun j Hd _ z => SqT.of (z.1 _ _ (sc _ _ (s1 _ _ e0)))) ?_ ?_
      · rintro j x Hd H2 hj ⟨s2, h2⟩ ⟨rfl, hx2⟩
        obtain ⟨a', pq, rfl, hpq, pa⟩ := pair_at r0 hx2
        refine ⟨a', _, rfl, SqT.of (s2 _ _ (sc _ _ (s1 _ _ pa))), rfl, _, _, rfl, _, _, rfl, rfl, rfl, ?_⟩
        refine ⟨_, rfl, _, rfl, rfl, _, rfl, ?_⟩
        by_cases hm : V.str pq.1 = V.str y
        · refine if_eqT (decide_eq_true hm) ⟨_, rfl, _, h2, ?_, fun b u eb => ?_, ?_⟩
          · rw [List.length_map, List.length_map]
            exact Nat.lt_of_le_of_lt (Nat.le_trans (List.length_filter_le _ _) (by rw [List.length_take]; omega) : _ ≤ 20000) (by decide)
          · rw [upd_ne (ne_of_none eb nDi)]
            exact s2 _ _ eb
          · rw [upd_same, filterMore hpq, if_pos (decide_eq_true hm), List.map_append, List.map_append]
            rfl
        · refine if_eqF (decide_eq_false hm) ⟨s2, ?_⟩
          rw [h2, filterMore hpq, if_neg (by rw [decide_eq_false hm]; exact Bool.false_ne_true), List.append_nil]
      · rintro Hd ⟨s2, h2⟩
        rw [eqs, List.take_length] at h2
        have hD' := s2 _ _ hD
        refine ⟨kvs, Sum.inr y, rfl, hD', Nat.lt_of_le_of_lt (Nat.le_trans hk (Nat.le_of_lt hi')) (by decide), fun b u eb => ?_, _, upd_same, ?_, fun y' hy' => ?_⟩
        · rw [upd_ne (ne_of_none eb nD2)]
          exact s2 _ _ (sc _ _ eb)
        · exact Nat.le_trans (length_putK _ _ _) (Nat.succ_le_succ hk)
        · by_cases e : y' = y
          · subst e
            refine ⟨Di, by rw [valV_put, if_pos rfl], ?_⟩
            rw [upd_ne (ne_of h2 hD' (fun z => by cases z))]
            exact h2
          · rw [take_more hy] at hy'
            have hy2 : y' ∈ ps.take i := by
              rcases List.mem_append.mp hy' with z | z
              · exact z
              · exact absurd (List.mem_singleton.mp z) e
            obtain ⟨u, hu1, hu2⟩ := hv y' hy2
            refine ⟨u, by rw [valV_put, if_neg (fun z => e (Sum.inr.inj z))]; exact hu1, ?_⟩
            have hu3 := s2 _ _ hu2
            rw [upd_ne (ne_of hu3 hD' (fun z => by cases z))]
            exact hu3
    rintro H2 ⟨sn2, kv2, hD2, hk2, hv2⟩
    rw [List.length_map] at hk2 hv2
    rw [List.take_length] at hv2
    have s2 : Same H H2 := Same.trans s1 sn2
    refine ⟨_, rfl, a, rfl, ⟨_, s2.tup ha⟩, fun D3 nD3 => ?_⟩
    refine lcB walk_tup (fun i Hc => Same H2 Hc ∧ ∃ kvs, Hc D3 = some (.dK kvs) ∧ kvs.length ≤ i ∧ ∀ y ∈ ps.take i, ∃ u, valV kvs (Sum.inr y) = some (.ref u) ∧ Hc u = some (.tup ((nbOf ties y).map V.str)))
      ⟨same_new nD3, [], upd_same, Nat.le_refl _, fun y hy => by simp at hy⟩ (fun i Hc _ z => (Same.trans s2 z.1).tup ha) ?_ ?_
    · rintro i x Hc H' hi ⟨sc, kvs, hD, hk, hv⟩ ⟨rfl, hx⟩
      obtain ⟨y, hy, rfl⟩ := str_at hx
      have hi' : i < 100 := by
        rw [List.length_map] at hi
        omega
      have my : y ∈ ps := List.mem_of_getElem? hy
      obtain ⟨u1, hu1, hl1⟩ := hv1 y my
      obtain ⟨u2, hu2, hl2⟩ := hv2 y my
      have g1 := DGet.k (k := Sum.inr y) (sc _ _ (sn2 _ _ hD1))
      have g2 := DGet.k (k := Sum.inr y) (sc _ _ hD2)
      rw [hu1] at g1
      rw [hu2] at g2
      refine ⟨rfl, _, rfl, _, rfl, _, rfl, D1, .ref u1, rfl, g1, _, rfl, _, rfl, D2, .ref u2, rfl, g2, u1, u2, _, _, rfl, rfl, sc _ _ (sn2 _ _ hl1), sc _ _ hl2, ?_, fun p np => ?_⟩
      · rw [List.length_map, List.length_map]
        unfold earlOf lateOf
        rw [List.length_map, List.length_map]
        have q1 := List.length_filter_le (fun p : Str × Str => decide (V.str p.2 = V.str y)) ties
        have q2 := List.length_filter_le (fun p : Str × Str => decide (V.str p.1 = V.str y)) ties
        exact Nat.le_trans (Nat.add_le_add q1 q2) (Nat.le_trans (Nat.add_le_add ht ht) (by decide))
      have sp := same_new (o := .lst ((earlOf ties y).map V.str ++ (lateOf ties y).map V.str)) np
      have fp : upd H' p (.lst ((earlOf ties y).map V.str ++ (lateOf ties y).map V.str)) p = some (.lst ((earlOf ties y).map V.str ++ (lateOf ties y).map V.str)) := upd_same
      generalize upd H' p (.lst ((earlOf ties y).map V.str ++ (lateOf ties y).map V.str)) = H3 at sp fp ⊢
      refine ⟨p, _, rfl, .inl ⟨SqL.of fp, fun q nq => ?_⟩⟩
      have sq : Same H' (upd H3 q (.tup ((earlOf ties y).map V.str ++ (lateOf ties y).map V.str))) := Same.trans sp (same_new nq)
      have fq : upd H3 q (.tup ((earlOf ties y).map V.str ++ (lateOf ties y).map V.str)) q = some (.tup ((nbOf ties y).map V.str)) := by
        rw [upd_same]
        unfold nbOf
        rw [List.map_append]
      generalize upd H3 q (.tup ((earlOf ties y).map V.str ++ (lateOf ties y).map V.str)) = H4 at sq fq ⊢
      have hD' := sq _ _ hD
      refine ⟨kvs, Sum.inr y, rfl, hD', Nat.lt_of_le_of_lt (Nat.le_trans hk (Nat.le_of_lt hi')) (by decide), fun b u eb => ?_, _, upd_same, ?_, fun y' hy' => ?_⟩
      · rw [upd_ne (ne_of_none eb nD3)]
        exact sq _ _ (sc _ _ eb)
      · exact Nat.le_trans (length_putK _ _ _) (Nat.succ_le_succ hk)
      · by_cases e : y' = y
        · subst e
          refine ⟨q, by rw [valV_put, if_pos rfl], ?_⟩
          rw [upd_ne (ne_of fq hD' (fun z => by cases z))]
          exact fq
        · rw [take_more hy] at hy'
          have hy2 : y' ∈ ps.take i := by
            rcases List.mem_append.mp hy' with z | z
            · exact z
            · exact absurd (List.mem_singleton.mp z) e
          obtain ⟨u, w1, w2⟩ := hv y' hy2
          refine ⟨u, by rw [valV_put, if_neg (fun z => e (Sum.inr.inj z))]; exact w1, ?_⟩
          have w3 := sq _ _ w2
          rw [upd_ne (ne_of w3 hD' (fun z => by cases z))]
          exact w3
    · rintro Hc ⟨sc, kvs, hD, hk, hv⟩
      rw [List.length_map, List.take_length] at hv
      exact k Hc D3 kvs (Same.trans s2 sc) hD hv
end
end K05
namespace K05
open PySem L2 NetM PySem.Spec PyProof.Rows
def spCheck (K : PySem.W.Frag) (ad : Adr) : Sp := fun vs H Q E => ∃ (a d : Addr) (ps : List Str) (nb : Str → List Str), vs = [.ref a, .ref d] ∧ SqS K H a (ps.map V.str) ∧ NearAt H d nb ps ∧
  ps.Nodup ∧ 3 ≤ ps.length ∧ ps.length ≤ 100 ∧ (∀ y ∈ ps, (nb y).length ≤ 100) ∧
  (cutOf nb ps = none → ∀ H', Same H H' → Q .non H') ∧
  (∀ v, cutOf nb ps = some v → ∀ H' d', Same H H' → H d' = none → H' d' = some (.xd [("value", v)]) → E (.ref ad.a_NotTied) (some d') H')
section
variable {P : Program} {w : World} {K : PySem.W.Frag} {mg : Str → Option Value} {base : Heap} {ad : Adr}
theorem sc_check_well_tied : FnScope ["places", "near", "place", "others", "other"] ["places", "near"] (defScope s_check_well_tied) := ⟨rfl, rfl, rfl, by decide +kernel, rfl, by decide +kernel, by decide +kernel⟩
theorem ok_check_well_tied {f : Addr} {fd fd1 fdI : FuncData} (F : Fun K "check_well_tied" "check_well_tied" s_check_well_tied f fd) (T : Txt K mg ad)
    (GI : FnOk P w K mg base CX0 1 ad.fI fdI ["self", "value"] (spErrInit K)) (bI : Binds K fdI ["self", "value"] [])
    (G_reached : FnOk P w K mg base CX0 1 ad.f_reached fd1 ["near", "start", "some"] (spReached K)) (b_reached : Binds K fd1 ["near", "start", "some"] []) :
    FnOk P w K mg base (L2.CX P w) 3 f fd ["places", "near"] (spCheck K ad) := by
  refine F.okX sc_check_well_tied (fun vs H Q E h => ?_) (fun cdv A outer s H vs Q E hr h => ?_)
  · obtain ⟨_, _, _, _, rfl, _⟩ := h
    rfl
  · obtain ⟨a, d, ps, nb, rfl, ha, hn, nd, h3, h100, hnl, kN, kE⟩ := h
    have hr2 := hr
    have h_reached := hr.mono (show 1 ≤ 2 by decide)
    obtain ⟨x0, pr, rfl⟩ : ∃ x0 pr, ps = x0 :: pr := by
      cases ps with
      | nil => simp at h3
      | cons x0 pr => exact ⟨x0, pr, rfl⟩
    generalize hps : x0 :: pr = ps at ha hn nd h3 h100 hnl kN kE
    have hx0 : ps[0]? = some x0 := by rw [← hps]; rfl
    have hd0 : ps.headD "" = x0 := by rw [← hps]; rfl
    refine ⟨_, (pss_cons (ps_if (pt_cmpR op_lt (pe_callB (kLen (K := K)) (by rfl) T.n_len (by decide +kernel) (pa_cons (pe_call G_reached h_reached (by rfl) T.m_reached T.k_reached b_reached .nil pass0 (pa_cons (pv 1) (pa_cons (pe_ix (kIx (K := K)) (pv 0) pe_int (fun _ _ => rfl)) (pa_cons (pv 0) pa_nil)))) pa_nil)) (pe_callB (kLen (K := K)) (by rfl) T.n_len (by decide +kernel) (pa_cons (pv 0) pa_nil)) (nomark _)) (pss_one (ps_raise rfl (takes_of rfl rfl rfl rfl) (pmk_oex (dvs := []) T.c_NotTied.oex T.c_NotTied.iC T.tI GI hr2 bI .nil pass0 (by rfl) T.m_NotTied (pa_cons pe_non pa_nil)))) pss_nil)
      (pss_one (ps_for (passes_of rfl) rfl (kSeqI (K := K) (pv 0)) (pg_name (i := 2) sc_check_well_tied.nd rfl (Or.inr rfl)) (pss_cons (ps_setLc (i := 3) (own := [("other", 4)]) (g := gName 4) rfl sc_check_well_tied.nd rfl rfl (sw_true rfl rfl rfl (by decide +kernel)) (kSeqI (K := K) (pv 0)) (blkOk_by (N := ["places", "near", "place", "others", "other"]) (sc := defScope s_check_well_tied) (by decide +kernel)) (fun _ _ _ _ _ => pg_name (i := 4) sc_check_well_tied.nd rfl (Or.inl rfl)) (fun _ _ _ _ _ => (pts_one (pt_cmpR op_ne (pv 4) (pv 2) (nomark _)))) (fun _ _ _ _ _ => (pv 4)))
      (pss_one (ps_if (pt_cmpR op_lt (pe_callB (kLen (K := K)) (by rfl) T.n_len (by decide +kernel) (pa_cons (pe_call G_reached h_reached (by rfl) T.m_reached T.k_reached b_reached .nil pass0 (pa_cons (pv 1) (pa_cons (pe_ix (kIx (K := K)) (pv 3) pe_int (fun _ _ => rfl)) (pa_cons (pv 3) pa_nil)))) pa_nil)) (pe_callB (kLen (K := K)) (by rfl) T.n_len (by decide +kernel) (pa_cons (pv 3) pa_nil)) (nomark _)) (pss_one (ps_raise rfl (takes_of rfl rfl rfl rfl) (pmk_oex (dvs := []) T.c_NotTied.oex T.c_NotTied.iC T.tI GI hr2 bI .nil pass0 (by rfl) T.m_NotTied (pa_cons (pv 2) pa_nil)))) pss_nil)))))), ?_⟩
    have a0 : atI (ps.map V.str) (0 : Int) = some (V.str x0) := atI_nat (j := 0) (by rw [List.getElem?_map, hx0]; rfl)
    refine ⟨_, rfl, _, rfl, ixS ha a0 ⟨_, rfl, d, a, x0, nb, ps, rfl, hn, ha, List.mem_of_getElem? hx0, h100, hnl, fun H1 q found s1 hq hf => ?_⟩⟩
    refine ⟨q, _, rfl, .inr (SqT.of hq), _, rfl, a, _, rfl, seqS s1 ha, _, _, rfl, rfl, _, rfl, ?_⟩
    rw [List.length_map, List.length_map]
    by_cases hA : AllIn nb ps x0
    · have sh : ¬ (ps.filter fun y => decide (y ∈ found)).length < ps.length := fun z => filter_short.mp z fun y hy => (hf y).mpr (hA y hy)
      refine if_eqF (decide_eq_false (fun z => sh (by omega))) ?_
      have hA' : AllIn nb ps (ps.headD "") := by rw [hd0]; exact hA
      rcases seqW (seqS s1 ha) with ⟨hl, wk⟩ | ⟨hl, wk⟩
      all_goals first | refine ⟨_, rfl, a, rfl, .inl ⟨⟨_, hl⟩, ?_⟩⟩ | refine ⟨_, rfl, a, rfl, .inr ⟨⟨_, hl⟩, ?_⟩⟩
      all_goals
        refine for_it wk (fun i σ H' => ∃ s2 s3, σ = [some (.ref a), some (.ref d), s2, s3, none] ∧ Same H1 H' ∧ ∀ p ∈ ps.take i, Fine nb ps p) ⟨none, none, rfl, fun _ _ e => e, fun p hp => by simp at hp⟩
          (fun i σ H' _ ⟨_, _, _, z, _⟩ => z) ?_ ?_
        · rintro i y σ H2 H' hi ⟨s2', s3', rfl, sm, fine⟩ ⟨rfl, hy⟩
          obtain ⟨p, hp, rfl⟩ := str_at hy
          rcases seqW (seqS sm (seqS s1 ha)) with ⟨hl2, wk2⟩ | ⟨hl2, wk2⟩
          all_goals first | refine ⟨_, rfl, a, rfl, .inl ⟨⟨_, hl2⟩, fun D nD => ?_⟩⟩ | refine ⟨_, rfl, a, rfl, .inr ⟨⟨_, hl2⟩, fun D nD => ?_⟩⟩
          all_goals
            refine lcB wk2 (fun j Hc => Same H' Hc ∧ Hc D = some (.lst (((ps.take j).filter fun o => !decide (V.str o = V.str p)).map V.str))) ⟨same_new nD, upd_same⟩ (fun j Hc _ z => z.1) ?_ ?_
            · rintro j x Hc H3 hj ⟨sc, hD⟩ ⟨rfl, hx⟩
              obtain ⟨o, ho, rfl⟩ := str_at hx
              refine ⟨rfl, _, rfl, _, rfl, rfl, _, rfl, ?_⟩
              by_cases hm : V.str o = V.str p
              · refine if_eqF (by rw [decide_eq_true hm]; rfl) ⟨sc, ?_⟩
                rw [hD, filterMore ho, if_neg (by rw [decide_eq_true hm]; simp), List.append_nil]
              · refine if_eqT (by rw [decide_eq_false hm]; rfl) ⟨_, rfl, _, hD, ?_, fun b u eb => ?_, ?_⟩
                · rw [List.length_map]
                  exact Nat.lt_of_le_of_lt (Nat.le_trans (List.length_filter_le _ _) (by rw [List.length_take]; omega) : _ ≤ 100) (by decide)
                · rw [upd_ne (ne_of_none eb nD)]
                  exact sc _ _ eb
                · rw [upd_same, filterMore ho, if_pos (by rw [decide_eq_false hm]; rfl), List.map_append]
                  rfl
            · rintro Hc ⟨sc, hD⟩
              rw [List.length_map, List.take_length] at hD
              change Hc D = some (.lst ((oth ps p).map V.str)) at hD
              obtain ⟨y0, yr, eo⟩ := oth_ne (p := p) nd (by omega)
              have hy0 : (oth ps p)[0]? = some y0 := by rw [eo]; rfl
              have hdo : (oth ps p).headD "" = y0 := by rw [eo]; rfl
              have sub : ∀ y ∈ oth ps p, y ∈ ps := fun y hy => (oth_mem.mp hy).1
              have lo : (oth ps p).length ≤ ps.length := List.length_filter_le _ _
              have sAll : Same H Hc := Same.trans s1 (Same.trans sm sc)
              obtain ⟨kvs, hd1, hnb⟩ := id hn
              have hn2 : NearAt Hc d nb (oth ps p) := ⟨kvs, sAll _ _ hd1, fun y hy => let ⟨t, z1, z2, z3⟩ := hnb y (sub y hy); ⟨t, z1, sAll _ _ z2, z3⟩⟩
              have b0 : atI ((oth ps p).map V.str) (0 : Int) = some (V.str y0) := atI_nat (j := 0) (by rw [List.getElem?_map, hy0]; rfl)
              refine ⟨_, rfl, _, rfl, ixS (.inl (SqL.of hD)) b0 ⟨_, rfl, d, D, y0, nb, oth ps p, rfl, hn2, .inl (SqL.of hD), List.mem_of_getElem? hy0, by omega, fun y hy => hnl y (sub y hy), fun H4 q2 found2 s4 hq2 hf2 => ?_⟩⟩
              refine ⟨q2, _, rfl, .inr (SqT.of hq2), _, rfl, D, _, rfl, .inl (SqL.of (s4 _ _ hD)), _, _, rfl, rfl, _, rfl, ?_⟩
              rw [List.length_map, List.length_map]
              by_cases hF : Fine nb ps p
              · have hF' : AllIn nb (oth ps p) y0 := by
                  have z := hF
                  unfold Fine at z
                  rw [hdo] at z
                  exact z
                have sh2 : ¬ ((oth ps p).filter fun y => decide (y ∈ found2)).length < (oth ps p).length := fun z => filter_short.mp z fun y hy => (hf2 y).mpr (hF' y hy)
                refine if_eqF (decide_eq_false (fun z => sh2 (by omega))) ⟨_, _, rfl, Same.trans sm (Same.trans sc s4), fun p' hp' => ?_⟩
                rw [take_more hp] at hp'
                rcases List.mem_append.mp hp' with z | z
                · exact fine p' z
                · rw [List.mem_singleton.mp z]
                  exact hF
              · have hF' : ¬ ∀ y ∈ oth ps p, y ∈ found2 := fun z => hF (by
                  unfold Fine
                  rw [hdo]
                  exact fun y hy => (hf2 y).mp (z y hy))
                have sh2 := filter_short.mpr hF'
                refine if_eqT (decide_eq_true (by omega)) ⟨_, rfl, mkO_intro T.c_NotTied fun d' H5 nd' s5 e5 => ?_⟩
                exact kE _ (cut_at hA' hp fine hF) H5 d' (Same.trans sAll (Same.trans s4 s5)) (none_of_same (Same.trans sAll s4) nd') e5
        · rintro σ H' ⟨s2', s3', rfl, sm, fine⟩
          rw [List.length_map, List.take_length] at fine
          exact kN (cut_none hA' fine) H' (Same.trans s1 sm)
    · have hF' : ¬ ∀ y ∈ ps, y ∈ found := fun z => hA fun y hy => (hf y).mp (z y hy)
      have sh := filter_short.mpr hF'
      refine if_eqT (decide_eq_true (by omega)) (mkO_intro T.c_NotTied fun d' H5 nd' s5 e5 => ?_)
      exact kE _ (cut_all (by rw [hd0]; exact hA)) H5 d' (Same.trans s1 s5) (none_of_same s1 nd') e5
end
end K05
namespace K05
open PySem L2 NetM PySem.Spec PyProof.Rows
def spTie (K : PySem.W.Frag) : Sp := fun vs H Q _ => ∃ (z : Str) (a l : Addr) (ps : List Str) (ties : List (Str × Str)), vs = [.str z, .ref a, .ref l] ∧ SqS K H a (ps.map V.str) ∧ PairsL H l ties ∧
  z.length ≤ 1000000 ∧ ps.all PyData.strOk = true ∧ ties.all okP = true ∧
  ∀ H' t, Same H H' → H' t = some (.tup (match readTie z ps ties with | none => [] | some p => [.str p.1, .str p.2])) → Q (.ref t) H'
section
variable {P : Program} {w : World} {K : PySem.W.Frag} {mg : Str → Option Value} {base : Heap} {ad : Adr}
theorem sc_read_tie : FnScope ["line", "places", "ties", "words", "one", "other"] ["line", "places", "ties"] (defScope s_read_tie) := ⟨rfl, rfl, rfl, by decide +kernel, rfl, by decide +kernel, by decide +kernel⟩
theorem ok_read_tie {f : Addr} {fd : FuncData} (F : Fun K "read_tie" "read_tie" s_read_tie f fd) (T : Txt K mg ad) : FnOk P w K mg base CX0 1 f fd ["line", "places", "ties"] (spTie K) := by
  refine F.ok sc_read_tie (fun vs H Q E h => ?_) (fun cdv A outer s H vs Q E hr h => ?_)
  · obtain ⟨_, _, _, _, _, rfl, _⟩ := h
    rfl
  · obtain ⟨z, a, l, ps, ties, rfl, ha, hl, hz, okp, okt, k⟩ := h
    have hu65 : (A.deeper (envOfC "read_tie" (defScope s_read_tie) s.heap.objs.size f cdv)).units + 65 < cLine := by
      have := hr.un
      omega
    refine ⟨_, (pss_cons (ps_set (i := 3) sc_read_tie.nd rfl (Or.inl rfl) (pe_split (pv 0) pe_str))
      (pss_cons (ps_if (PW.pt (pw_or (pt_cmpR op_ne (pe_callB (kLen (K := K)) (by rfl) T.n_len (by decide +kernel) (pa_cons (pv 3) pa_nil)) pe_int (nomark _)) (pw_or1 (pt_cmpR op_ne (pe_ix (kIxL (K := K)) (pv 3) pe_int (fun _ _ => rfl)) pe_str (nomark _))))) (pss_one (ps_ret (pe_tup pa_nil))) pss_nil)
      (pss_cons (ps_par (i := 4) (j := 5) (by rfl) sc_read_tie.nd rfl rfl (by decide) rfl rfl (pa_cons (pe_ix (kIxL (K := K)) (pv 3) pe_int (fun _ _ => rfl)) (pa_cons (pe_ix (kIxL (K := K)) (pv 3) pe_int (fun _ _ => rfl)) pa_nil)) (by rfl))
      (pss_cons (ps_if (PW.pt (pw_or (pt_cmpR (kNin (K := K)) (pv 4) (pv 1) (by rfl)) (pw_or (pt_cmpR (kNin (K := K)) (pv 5) (pv 1) (by rfl)) (pw_or1 (pt_cmpR op_eq (pv 4) (pv 5) (nomark _)))))) (pss_one (ps_ret (pe_tup pa_nil))) pss_nil)
      (pss_cons (ps_if (PW.pt (pw_or (pt_cmpR (kInD (K := K) hu65) (pe_tup (pa_cons (pv 4) (pa_cons (pv 5) pa_nil))) (pv 2) (by rfl)) (pw_or1 (pt_cmpR (kInD (K := K) hu65) (pe_tup (pa_cons (pv 5) (pa_cons (pv 4) pa_nil))) (pv 2) (by rfl))))) (pss_one (ps_ret (pe_tup pa_nil))) pss_nil)
      (pss_one (ps_ret (pe_tup (pa_cons (pv 4) (pa_cons (pv 5) pa_nil)))))))))), ?_⟩
    refine ⟨_, rfl, ⟨_, rfl⟩, z, " ", rfl, rfl, by decide +kernel, Nat.le_trans (Nat.add_le_add_right hz 2) (by decide), fun wl nw => ?_⟩
    have sw := same_new (o := .lst ((Txt.split z " ").map V.str)) nw
    have fw : upd H wl (.lst ((Txt.split z " ").map V.str)) wl = some (.lst ((Txt.split z " ").map V.str)) := upd_same
    generalize upd H wl (.lst ((Txt.split z " ").map V.str)) = H1 at sw fw ⊢
    generalize hws : Txt.split z " " = ws at fw
    have none' : readTie z ps ties = none → ∀ t, H1 t = none → Q (.ref t) (upd H1 t (.tup [])) := fun e t nt => k _ t (Same.trans sw (same_new nt)) (by rw [upd_same, e])
    refine ⟨_, rfl, wl, _, rfl, .inl (SqL.of fw), rfl, _, rfl, ?_⟩
    rw [List.length_map]
    by_cases h3 : ws.length = 3
    · obtain ⟨w0, w1, w2, rfl⟩ : ∃ w0 w1 w2, ws = [w0, w1, w2] := by
        match ws, h3 with
        | [w0, w1, w2], _ => exact ⟨w0, w1, w2, rfl⟩
      refine if_eqF rfl ?_
      refine ⟨_, rfl, wl, _, (0 : Int), .str w0, rfl, rfl, SqL.of fw, rfl, rfl, _, rfl, ?_⟩
      by_cases c0 : w0 = "tie"
      · refine if_eqF (by rw [c0]; simp) ?_
        refine ⟨_, rfl, wl, _, (1 : Int), .str w1, rfl, rfl, SqL.of fw, rfl, _, rfl, wl, _, (2 : Int), .str w2, rfl, rfl, SqL.of fw, rfl, _, _, rfl, ?_⟩
        refine ⟨_, rfl, _, rfl, a, _, rfl, seqS sw ha, rfl, flat_strs, _, rfl, ?_⟩
        by_cases c1 : w1 ∈ ps
        · refine if_eqF (notIn_strs.trans (by rw [decide_eq_true c1]; rfl)) ?_
          refine ⟨_, rfl, _, rfl, a, _, rfl, seqS sw ha, rfl, flat_strs, _, rfl, ?_⟩
          by_cases c2 : w2 ∈ ps
          · refine if_eqF (notIn_strs.trans (by rw [decide_eq_true c2]; rfl)) ?_
            refine ⟨_, rfl, _, rfl, rfl, _, rfl, ?_⟩
            by_cases c3 : w1 = w2
            · refine if_eqT (decide_eq_true (by rw [c3])) ?_
              exact ⟨Nat.zero_le _, fun t nt => none' (readTie_no hws fun q => q.2.2.2.1 c3) t nt⟩
            · refine if_eqF (decide_eq_false fun q => c3 (V.str.inj q)) ?_
              have ok12 : okP (w1, w2) = true := by
                unfold okP
                rw [List.all_eq_true.mp okp _ c1, List.all_eq_true.mp okp _ c2]
                rfl
              have ok21 : okP (w2, w1) = true := by
                unfold okP
                rw [List.all_eq_true.mp okp _ c1, List.all_eq_true.mp okp _ c2]
                rfl
              refine ⟨_, rfl, _, rfl, by show 2 ≤ sizeLine; decide, fun q nq => ?_⟩
              have sq : Same H (upd H1 q (.tup [.str w1, .str w2])) := Same.trans sw (same_new nq)
              have fq : PairAt (upd H1 q (.tup [.str w1, .str w2])) q (w1, w2) := upd_same
              generalize upd H1 q (.tup [.str w1, .str w2]) = H2 at sq fq ⊢
              refine ⟨_, rfl, pD (w1, w2), ties.map pD, dp_pair fq, dp_pairsL (hl.same sq), pD_shaped ok12, pDs_shaped okt, _, rfl, ?_⟩
              by_cases m1 : (w1, w2) ∈ ties
              · refine if_eqT (by rw [any_pD]; exact decide_eq_true m1) ?_
                refine ⟨Nat.zero_le _, fun t nt => k _ t (Same.trans sq (same_new nt)) ?_⟩
                rw [upd_same, readTie_no hws fun q => by have z := q.2.2.2.2; unfold tieIn at z; rw [decide_eq_true m1] at z; simp at z]
              · refine if_eqF (by rw [any_pD]; exact decide_eq_false m1) ?_
                refine ⟨_, rfl, _, rfl, by show 2 ≤ sizeLine; decide, fun q2 nq2 => ?_⟩
                have s2 : Same H (upd H2 q2 (.tup [.str w2, .str w1])) := Same.trans sq (same_new nq2)
                have f2 : PairAt (upd H2 q2 (.tup [.str w2, .str w1])) q2 (w2, w1) := upd_same
                generalize upd H2 q2 (.tup [.str w2, .str w1]) = H3 at s2 f2 ⊢
                refine ⟨_, rfl, pD (w2, w1), ties.map pD, dp_pair f2, dp_pairsL (hl.same s2), pD_shaped ok21, pDs_shaped okt, _, rfl, ?_⟩
                by_cases m2 : (w2, w1) ∈ ties
                · refine if_eqT (by rw [any_pD]; exact decide_eq_true m2) ?_
                  refine ⟨Nat.zero_le _, fun t nt => k _ t (Same.trans s2 (same_new nt)) ?_⟩
                  rw [upd_same, readTie_no hws fun q => by have z := q.2.2.2.2; unfold tieIn at z; rw [decide_eq_true m2] at z; simp at z]
                · refine if_eqF (by rw [any_pD]; exact decide_eq_false m2) ?_
                  refine ⟨_, rfl, _, rfl, by show 2 ≤ sizeLine; decide, fun t nt => k _ t (Same.trans s2 (same_new nt)) ?_⟩
                  rw [upd_same, readTie_yes hws ⟨c0, c1, c2, c3, by unfold tieIn; rw [decide_eq_false m1, decide_eq_false m2]; rfl⟩]
          · refine if_eqT (notIn_strs.trans (by rw [decide_eq_false c2]; rfl)) ?_
            exact ⟨Nat.zero_le _, fun t nt => none' (readTie_no hws fun q => c2 q.2.2.1) t nt⟩
        · refine if_eqT (notIn_strs.trans (by rw [decide_eq_false c1]; rfl)) ?_
          exact ⟨Nat.zero_le _, fun t nt => none' (readTie_no hws fun q => c1 q.2.1) t nt⟩
      · refine if_eqT (by rw [decide_eq_false fun q => c0 (V.str.inj q)]; rfl) ?_
        exact ⟨Nat.zero_le _, fun t nt => none' (readTie_no hws fun q => c0 q.1) t nt⟩
    · refine if_eqT (by rw [decide_eq_false fun q => h3 (by have := V.int.inj q; omega)]; rfl) ?_
      exact ⟨Nat.zero_le _, fun t nt => none' (readTie_len (by rw [hws]; exact h3)) t nt⟩
end
end K05
namespace L2
open PySem PySem.Spec PyProof.Rows
/-- a tuple without a dict stands at a -/
def Ft (H : Hp) (a : Addr) (xs : List V) : Prop := ∃ o : Obj, o.cls = .type "tuple" ∧ o.dict = none ∧ H a = some (.frz o (.tup xs))
theorem SqF.of {K : PySem.W.Frag} {H : Hp} {a : Addr} {o : Obj} {xs : List V} (h : H a = some (.frz o (.tup xs))) : SqT K H a xs := .inl (.inr ⟨o, h⟩)
theorem Ft.sq {K : PySem.W.Frag} {H : Hp} {a : Addr} {xs : List V} (h : Ft H a xs) : SqT K H a xs := let ⟨_, _, _, e⟩ := h; SqF.of e
theorem Ft.same {H H' : Hp} {a : Addr} {xs : List V} (h : Ft H a xs) (s : ∀ b o, H b = some o → H' b = some o) : Ft H' a xs := let ⟨o, c, d, e⟩ := h; ⟨o, c, d, s _ _ e⟩
/-- an empty tuple, or such a one -/
def PlAt (H : Hp) (a : Addr) (xs : List V) : Prop := (xs = [] ∧ H a = some (.tup xs)) ∨ Ft H a xs
theorem PlAt.sq {K : PySem.W.Frag} {H : Hp} {a : Addr} {xs : List V} (h : PlAt H a xs) : SqT K H a xs := h.elim (fun h => SqT.of h.2) Ft.sq
theorem PlAt.same {H H' : Hp} {a : Addr} {xs : List V} (h : PlAt H a xs) (s : ∀ b o, H b = some o → H' b = some o) : PlAt H' a xs := h.imp (fun h => ⟨h.1, s _ _ h.2⟩) fun h => h.same s
theorem PlAt.ft {H : Hp} {a : Addr} {ps : List Str} (h : PlAt H a (ps.map V.str)) (ne : ps ≠ []) : Ft H a (ps.map V.str) := h.elim (fun h => absurd (List.map_eq_nil_iff.mp h.1) ne) id
section
variable {X : Cx} {o e : Expr} {to te : TE}
def tFt (r : V → List V → Hp → VK → Prop) (to te : TE) : TE := fun σ H Q => to σ H fun x H1 => (∃ a xs, x = .ref a ∧ Ft H1 a xs) ∧ te σ H1 fun y H2 => r x [y] H2 Q
theorem pe_ft {id : String} {name : Str} {apos pos : Pos} {r : V → List V → Hp → VK → Prop} (sl : Slot "tuple" name id) (ty : typeOf (.builtin id) = pure (.type "method_descriptor")) (rl : MtR X id r) (ho : PE X o to) (he : PE X e te)
    (one : starEach [e] X.env = [(false, eval e X.env)] := by rfl) (base : attributeBase o name X.env (eval o X.env) = eval o X.env := by rfl) (line : (apos.endLine == pos.line) = true := by rfl) :
    PE X (.Call (.Attribute o name apos) [e] [] pos) (tFt r to te) := by
  refine ⟨fun pins s σ H Q I h => ?_⟩
  refine PySem.Call_method1 base one line (thn (ho.run pins s σ H _ I h) fun v s1 ⟨x, H1, I1, r1, q1⟩ => ?_)
  obtain ⟨⟨a, xs, rfl, ob, c, d, ea⟩, q1⟩ := q1
  cases r1
  obtain ⟨at1, _⟩ := I1.hok a _ ea
  refine ⟨"tuple", _, F.plainAttrs_tuple, sl, ty, ⟨ob, at1, c⟩, fun b eb => ?_, Calls.callWith_builtin rfl (Calls.evalArgs_plain (Calls.spliced_cons ?_))⟩
  · cases eb
    exact ⟨ob, at1, d⟩
  · exact thn (he.run pins s1 σ H1 _ I1 q1) fun u s2 ⟨y, H2, I2, r2, q2⟩ => Calls.spliced_nil (rl pins s2 σ H2 (.ref a) [y] _ [u] Q I2 (show RelV (.ref a) (.ref a) from rfl) (.cons r2 .nil) q2)
def rTupIndex (K : PySem.W.Frag) : V → List V → Hp → VK → Prop := fun x xs H Q => ∃ p, ∃ ys : List Str, ∃ z j, x = .ref p ∧ xs = [.str z] ∧ SqT K H p (ys.map V.str) ∧ ys[j]? = some z ∧ (∀ m, m < j → ys[m]? ≠ some z) ∧ Q (.int (j : Nat)) H
/-- t.index(x), t such a tuple of texts -/
theorem kTupIndexM {K : PySem.W.Frag} {apos pos : Pos} (ho : PE X o to) (he : PE X e te) (hK : X.K = K := by rfl)
    (one : starEach [e] X.env = [(false, eval e X.env)] := by rfl) (base : attributeBase o "index" X.env (eval o X.env) = eval o X.env := by rfl) (line : (apos.endLine == pos.line) = true := by rfl) :
    PE X (.Call (.Attribute o "index" apos) [e] [] pos) (tFt (rTupIndex K) to te) := by
  subst hK
  exact pe_ft F.slot_tuple_index F.type_tuple_index mt_tup_index ho he one base line
/-- tuple(l), l a list -/
def rTupFz (K : PySem.W.Frag) : List V → Hp → VK → Prop := fun xs H Q => ∃ p ys, xs = [.ref p] ∧ SqL K H p ys ∧ ∀ l (o : Obj), o.cls = .type "tuple" → o.dict = none → H l = none → Q (.ref l) (upd H l (.frz o (.tup ys)))
theorem kTupFz {K : PySem.W.Frag} (hK : X.K = K := by rfl) : CallR X (.type "tuple") (rTupFz K) := by
  subst hK
  rintro pins s σ H xs us Q I r ⟨p, ys, rfl, hq, q⟩
  obtain ⟨u, rfl, rx⟩ := vals1 r
  cases rx
  obtain ⟨its, r', pl, hz⟩ := I.list hq
  have len := r'.length
  refine call_tuple_list pl.isList (fun h' kp => ?_) (by simp only [List.size_toArray] <;> omega)
  have J : Inv X pins σ H { s with heap := h' } := I.kept (t' := s.toks) kp
  let ob : Obj := { cls := .type "tuple", data := .seq its.toArray }
  have J2 : Inv X pins σ (upd H h'.objs.size (.frz ob (.tup ys))) { s with heap := h'.push ob } :=
    J.laid (t' := s.toks) (fun b o e => Heap.get?_push_of_some _ e) (Nat.le_refl _) (show ObjOk X.prog X.w _ _ _ (.frz ob (.tup ys)) from ⟨Heap.get?_push_size _ rfl, hz, its, r', IsTup.new _ _⟩)
  exact ⟨.ref h'.objs.size, _, J2, rfl, q _ ob rfl rfl (J.hok.fresh (Nat.le_refl _))⟩
theorem kFld {K : PySem.W.Frag} {ta : TE} {f : Str} {pos : Pos} (he : PE X e ta) (hb : attributeBase e f X.env (eval e X.env) = eval e X.env) (hK : X.K = K := by rfl) : PE X (.Attribute e f pos) (tFld K ta f) := by
  subst hK
  exact pe_fld he hb
end
end L2
namespace K05
open PySem L2 NetM PySem.Spec PyProof.Rows
def spPlaces : Sp := fun vs H Q _ => ∃ z : Str, vs = [.str z] ∧ z.length ≤ 1000000 ∧ ∀ H' t, Same H H' → PlAt H' t ((readPlaces z).map V.str) → Q (.ref t) H'
/-- BadNet with a number -/
def bad (ad : Adr) (H : Hp) (E : XK) (n : Int) : Prop := ∀ H' d, Same H H' → H d = none → H' d = some (.xd [("value", .int n)]) → E (.ref ad.a_BadNet) (some d) H'
def spReadNet (K : PySem.W.Frag) (ad : Adr) : Sp := fun vs H Q E => ∃ v : V, vs = [v] ∧
  ((∃ t, TyX K H v t ∧ PySem.W.kitOne K t (.type "str") = some false ∧ bad ad H E 0) ∨
   (∃ z, v = .str z ∧ z.length ≤ 1000000 ∧ (∀ n, NetErr z n → bad ad H E n) ∧
    ∀ ps ties, NetOk z ps ties → ∀ H' t a b, Same H H' → H' t = some (.tup [.ref a, .ref b]) → Ft H' a (ps.map V.str) → PairsT H' b (inSeq ps ties) → Q (.ref t) H'))
section
variable {P : Program} {w : World} {K : PySem.W.Frag} {mg : Str → Option Value} {base : Heap} {ad : Adr}
theorem sc_read_net : FnScope ["text", "lines", "places", "ties", "number", "line", "tie"] ["text"] (defScope s_read_net) := ⟨rfl, rfl, rfl, by decide +kernel, rfl, by decide +kernel, by decide +kernel⟩
theorem ok_read_net {f : Addr} {fd fd1 fd2 fd3 fdI : FuncData} (F : Fun K "read_net" "read_net" s_read_net f fd) (T : Txt K mg ad)
    (GI : FnOk P w K mg base CX0 1 ad.fI fdI ["self", "value"] (spErrInit K)) (bI : Binds K fdI ["self", "value"] [])
    (G_read_places : FnOk P w K mg base CX0 2 ad.f_read_places fd1 ["line"] spPlaces) (b_read_places : Binds K fd1 ["line"] [])
    (G_read_tie : FnOk P w K mg base CX0 1 ad.f_read_tie fd2 ["line", "places", "ties"] (spTie K)) (b_read_tie : Binds K fd2 ["line", "places", "ties"] [])
    (G_ties_in_sequence : FnOk P w K mg base CX0 1 ad.f_ties_in_sequence fd3 ["places", "ties"] (spInSeq K)) (b_ties_in_sequence : Binds K fd3 ["places", "ties"] []) :
    FnOk P w K mg base (L2.CX P w) 3 f fd ["text"] (spReadNet K ad) := by
  refine F.okX sc_read_net (fun vs H Q E h => ?_) (fun cdv A outer s H vs Q E hr h => ?_)
  · obtain ⟨_, rfl, _⟩ := h
    rfl
  · obtain ⟨v, rfl, h⟩ := h
    have hr2 := hr
    have h_read_places := hr
    have h_read_tie := hr.mono (show 1 ≤ 2 by decide)
    have h_ties_in_sequence := hr.mono (show 1 ≤ 2 by decide)
    refine ⟨_, (pss_cons (ps_if (pt_not (pt_val (pe_callB call_isi (by rfl) T.n_isinstance (by decide +kernel) (pa_cons (pv 0) (pa_cons (pe_bltn (v := .ty "str") (by rfl) T.n_str (by decide +kernel) rfl) pa_nil))))) (pss_one (ps_raise rfl (takes_of rfl rfl rfl rfl) (pmk_oex (dvs := []) T.c_BadNet.oex T.c_BadNet.iC T.tI GI hr2 bI .nil pass0 (by rfl) T.m_BadNet (pa_cons pe_int pa_nil)))) pss_nil)
      (pss_cons (ps_set (i := 1) sc_read_net.nd rfl (Or.inl rfl) (pe_split (pv 0) pe_str))
      (pss_cons (ps_set (i := 2) sc_read_net.nd rfl (Or.inl rfl) (pe_call G_read_places h_read_places (by rfl) T.m_read_places T.k_read_places b_read_places .nil pass0 (pa_cons (pe_ix (kIxL (K := K)) (pv 1) pe_int (fun _ _ => rfl)) pa_nil)))
      (pss_cons (ps_if (pt_not (pt_truth (pv 2) (by intro _; rfl))) (pss_one (ps_raise rfl (takes_of rfl rfl rfl rfl) (pmk_oex (dvs := []) T.c_BadNet.oex T.c_BadNet.iC T.tI GI hr2 bI .nil pass0 (by rfl) T.m_BadNet (pa_cons pe_int pa_nil)))) pss_nil)
      (pss_cons (ps_set (i := 3) sc_read_net.nd rfl (Or.inl rfl) (pe_lst pa_nil))
      (pss_cons (ps_for (passes_of rfl) rfl (pi_enumK (by rfl) T.n_enumerate (pa_cons (pe_slice (kSlL (K := K)) (pv 1) (po_some pe_int) po_none) pa_nil) (pk_cons pe_int pk_nil)) (kTgt (K := K) (n := 2) (by rfl) (pgs_cons (pg_name (i := 4) sc_read_net.nd rfl (Or.inl rfl)) (pgs_cons (pg_name (i := 5) sc_read_net.nd rfl (Or.inl rfl)) pgs_nil))) (pss_cons (ps_set (i := 6) sc_read_net.nd rfl (Or.inl rfl) (pe_call G_read_tie h_read_tie (by rfl) T.m_read_tie T.k_read_tie b_read_tie .nil pass0 (pa_cons (pv 5) (pa_cons (pv 2) (pa_cons (pv 3) pa_nil)))))
      (pss_cons (ps_if (PW.pt (pw_or (pt_not (pt_truth (pv 6) (by intro _; rfl))) (pw_or1 (pt_cmpR op_eq (pe_callB (kLen (K := K)) (by rfl) T.n_len (by decide +kernel) (pa_cons (pv 3) pa_nil)) (pe_glob (v := .int 45) rfl T.m_MOST_TIES.choose_spec ⟨_, rfl⟩) (nomark _))))) (pss_one (ps_raise rfl (takes_of rfl rfl rfl rfl) (pmk_oex (dvs := []) T.c_BadNet.oex T.c_BadNet.iC T.tI GI hr2 bI .nil pass0 (by rfl) T.m_BadNet (pa_cons (pv 4) pa_nil)))) pss_nil)
      (pss_one (ps_expr (pe_bm PySem.F.plainAttrs_list PySem.F.slot_list_append PySem.F.type_list_append mt_append (pv 3) (pa_cons (pv 6) pa_nil)))))))
      (pss_cons (ps_if (pt_cmpR op_lt (pe_callB (kLen (K := K)) (by rfl) T.n_len (by decide +kernel) (pa_cons (pv 3) pa_nil)) (pe_glob (v := .int 3) rfl T.m_FEWEST_TIES.choose_spec ⟨_, rfl⟩) (nomark _)) (pss_one (ps_raise rfl (takes_of rfl rfl rfl rfl) (pmk_oex (dvs := []) T.c_BadNet.oex T.c_BadNet.iC T.tI GI hr2 bI .nil pass0 (by rfl) T.m_BadNet (pa_cons (pe_op op_add (pe_callB (kLen (K := K)) (by rfl) T.n_len (by decide +kernel) (pa_cons (pv 1) pa_nil)) pe_int) pa_nil)))) pss_nil)
      (pss_one (ps_ret (pe_tup (pa_cons (pv 2) (pa_cons (pe_call G_ties_in_sequence h_ties_in_sequence (by rfl) T.m_ties_in_sequence T.k_ties_in_sequence b_ties_in_sequence .nil pass0 (pa_cons (pv 2) (pa_cons (pv 3) pa_nil))) pa_nil)))))))))))), ?_⟩
    rcases h with ⟨t, ty, kt, kE⟩ | ⟨z, rfl, hz, kE, kQ⟩
    · refine ⟨_, rfl, v, .ty "str", t, .type "str", false, rfl, .ty _, ty, kt, false, rfl, if_eqT rfl (mkO_intro T.c_BadNet fun d H2 nd s2 e2 => ?_)⟩
      exact kE H2 d s2 nd e2
    refine ⟨_, rfl, .str z, .ty "str", .type "str", .type "str", true, rfl, .ty _, .base (.str z), kit_ty (by decide +kernel), true, rfl, if_eqF rfl ?_⟩
    obtain ⟨l0, lr, hsp⟩ : ∃ l0 lr, Txt.split z "\n" = l0 :: lr := by
      cases e : Txt.split z "\n" with
      | nil =>
        have := split_pos z "\n"
        rw [e] at this
        exact absurd this (by decide)
      | cons l0 lr => exact ⟨l0, lr, rfl⟩
    have hh1 : head1 z = l0 := by
      unfold head1
      rw [hsp]
      rfl
    have ht1 : tail1 z = lr := by
      unfold tail1
      rw [hsp]
      rfl
    have hlz : ∀ y ∈ Txt.split z "\n", y.length ≤ 1000000 := fun y hy => Nat.le_trans (part_short hy) hz
    have hl0 : l0.length ≤ 1000000 := hlz l0 (by rw [hsp]; exact List.mem_cons_self ..)
    have hlr : ∀ y ∈ lr, y.length ≤ 1000000 := fun y hy => hlz y (by rw [hsp]; exact List.mem_cons_of_mem _ hy)
    refine ⟨_, rfl, ⟨_, rfl⟩, z, "\n", rfl, rfl, by decide +kernel, Nat.le_trans (Nat.add_le_add_right hz 2) (by decide), fun wl nw => ?_⟩
    rw [hsp]
    have sw := same_new (o := .lst ((l0 :: lr).map V.str)) nw
    have fw : upd H wl (.lst ((l0 :: lr).map V.str)) wl = some (.lst ((l0 :: lr).map V.str)) := upd_same
    generalize upd H wl (.lst ((l0 :: lr).map V.str)) = H1 at sw fw ⊢
    refine ⟨_, rfl, wl, _, (0 : Int), .str l0, rfl, rfl, SqL.of fw, atI_nat (j := 0) rfl, l0, rfl, hl0, fun H2 t s2 ft => ?_⟩
    have sH2 : Same H H2 := Same.trans sw s2
    refine ⟨_, rfl, _, .inr (.inl ⟨_, ft.sq, rfl⟩), ?_⟩
    by_cases hp : readPlaces l0 = []
    · refine if_eqT (by rw [hp]; rfl) (mkO_intro T.c_BadNet fun d H3 nd s3 e3 => ?_)
      exact kE _ (.places (by rw [hh1]; exact hp)) H3 d (Same.trans sH2 s3) (none_of_same sH2 nd) e3
    have hp1 : readPlaces (head1 z) ≠ [] := by rw [hh1]; exact hp
    refine if_eqF (by cases e : readPlaces l0 with | nil => exact absurd e hp | cons _ _ => rfl) ?_
    obtain ⟨hnd, h3, h16, hok⟩ := places_ok hp
    refine ⟨Nat.zero_le _, fun L nL => ?_⟩
    have sL : Same H2 (upd H2 L (.lst [])) := same_new nL
    have fL : upd H2 L (.lst []) L = some (.lst []) := upd_same
    generalize hH3 : upd H2 L (.lst []) = H3 at sL fL ⊢
    refine ⟨_, rfl, _, rfl, wl, _, rfl, SqL.of (sL _ _ (s2 _ _ fw)), fun sl nsl => ?_⟩
    have ecut : cutV ((l0 :: lr).map V.str) (some 1) none = lr.map V.str := by
      unfold cutV
      rw [HT.sIx_none, show (1 : Int) = ((1 : Nat) : Int) from rfl, HT.sIx_nat, List.length_map, List.length_cons, Nat.min_eq_left (by omega)]
      rw [List.take_of_length_le (by rw [List.length_drop, List.length_map, List.length_cons]; omega)]
      rfl
    rw [ecut]
    have nLsl : L ≠ sl := ne_of_none fL nsl
    have wlL : wl ≠ L := fun e => by
      have q := s2 _ _ fw
      rw [e, nL] at q
      cases q
    refine ⟨sl, _, (2 : Int), rfl, rfl, by decide, by decide, SqL.of upd_same, ?_⟩
    refine for_it walk_enumK (fun i σ H' => ∃ s4 s5 s6 acc, σ = [some (.str z), some (.ref wl), some (.ref t), some (.ref L), s4, s5, s6] ∧ Same H2 H' ∧ H' sl = some (.lst (lr.map V.str)) ∧ PairsL H' L acc ∧ Good (readPlaces l0) (lr.take i) acc)
      ⟨none, none, none, [], rfl, fun b o e => by rw [upd_ne (fun q => by rw [q] at e; rw [sL _ _ e] at nsl; cases nsl)]; exact sL _ _ e, upd_same, ⟨[], by rw [upd_ne nLsl]; exact fL, .nil⟩, .nil⟩
      (fun i σ H' _ ⟨_, _, _, _, _, _, q, _⟩ => SqL.of q) ?_ ?_
    · rintro i x σ Hc H' hi ⟨s4, s5, s6, acc, rfl, sm, fs, hpl, gd⟩ ⟨Tt, u, y, rfl, nT, rfl, e1, e2⟩
      obtain rfl : V.int ((2 : Int) + (i : Nat)) = u := Option.some.inj e1
      obtain ⟨ln, hln, rfl⟩ := str_at e2
      have fT : upd Hc Tt (.tup [.int ((2 : Int) + (i : Nat)), .str ln]) Tt = some (.tup [.int ((2 : Int) + (i : Nat)), .str ln]) := upd_same
      have sT : Same Hc (upd Hc Tt (.tup [.int ((2 : Int) + (i : Nat)), .str ln])) := same_new nT
      generalize upd Hc Tt (.tup [.int ((2 : Int) + (i : Nat)), .str ln]) = H4 at fT sT ⊢
      refine ⟨Tt, _, rfl, SqT.of fT, rfl, _, _, rfl, _, _, rfl, rfl, ?_⟩
      have okA : acc.all okP = true := Good.ok hok gd
      refine ⟨_, rfl, _, rfl, _, rfl, ln, t, L, _, acc, rfl, .inr (((ft.same sm).same sT).sq), hpl.same sT, hlr ln (List.mem_of_getElem? hln), hok, okA, fun H5 q s5 fq => ?_⟩
      have sAll : Same Hc H5 := Same.trans sT s5
      refine ⟨_, rfl, _, .inr (.inl ⟨_, SqT.of fq, rfl⟩), ?_⟩
      have badHere : (readTie ln (readPlaces l0) acc = none ∨ acc.length = 45) → bad ad H5 E (2 + (i : Nat)) := fun hz H6 d s6 nd e6 => by
        refine kE _ (.tie (i := i) (ln := ln) (acc := acc) hp1 (by rw [hh1, ht1]; exact gd) (by rw [ht1]; exact hln) (by rw [hh1]; exact hz)) H6 d (Same.trans sH2 (Same.trans sm (Same.trans sAll s6))) ?_ e6
        exact none_of_same (Same.trans sH2 (Same.trans sm sAll)) nd
      obtain ⟨as, eL, rL⟩ := (hpl.same sAll : PairsL H5 L acc)
      cases hr : readTie ln (readPlaces l0) acc with
      | none =>
        exact if_eqT rfl ⟨_, rfl, mkO_intro T.c_BadNet fun d H6 nd s6 e6 => badHere (.inl hr) H6 d s6 nd e6⟩
      | some pq =>
        rw [hr] at fq
        refine if_eqF rfl ⟨_, rfl, L, _, rfl, .inl (SqL.of eL), rfl, _, rfl, ?_⟩
        rw [List.length_map, Paired.length rL]
        by_cases h45 : acc.length = 45
        · exact if_eqT (decide_eq_true (by rw [h45]; rfl)) ⟨_, rfl, mkO_intro T.c_BadNet fun d H6 nd s6 e6 => badHere (.inr h45) H6 d s6 nd e6⟩
        · refine if_eqF (decide_eq_false (fun q => h45 (by have := V.int.inj q; omega))) ?_
          refine ⟨_, rfl, .inl ⟨rfl, _, SqL.of eL⟩, _, rfl, L, _, _, rfl, rfl, eL, ?_, ?_⟩
          · rw [List.length_map, Paired.length rL]
            exact Nat.lt_of_le_of_lt (Good.le gd) (by decide)
          · refine ⟨_, _, _, acc ++ [pq], rfl, fun b o e => ?_, ?_, ?_, ?_⟩
            · rw [upd_ne (fun q => by rw [q, nL] at e; cases e)]
              exact sAll _ _ (sm _ _ e)
            · rw [upd_ne (Ne.symm nLsl)]
              exact sAll _ _ fs
            · refine ⟨as ++ [q], by rw [upd_same, List.map_append]; rfl, Paired.app (Paired.weak (fun x p hx => ?_) rL) (.cons ?_ .nil)⟩
              · show upd H5 L _ x = _
                rw [upd_ne (ne_of hx eL (fun z => by cases z))]
                exact hx
              · show upd H5 L _ q = _
                rw [upd_ne (ne_of fq eL (fun z => by cases z))]
                exact fq
            · rw [take_more hln]
              exact .snoc gd hr h45
    · rintro σ H' ⟨s4, s5, s6, acc, rfl, sm, fs, hpl, gd⟩
      rw [List.length_map, List.take_length] at gd
      obtain ⟨as, eL, rL⟩ := id hpl
      refine ⟨_, rfl, L, _, rfl, .inl (SqL.of eL), _, _, rfl, rfl, _, rfl, ?_⟩
      rw [List.length_map, Paired.length rL]
      have sAll : Same H H' := Same.trans sH2 sm
      by_cases hf : acc.length < 3
      · refine if_eqT (decide_eq_true (by omega)) ⟨_, rfl, wl, _, rfl, .inl (SqL.of (sm _ _ (s2 _ _ fw))), _, _, rfl, rfl, mkO_intro T.c_BadNet fun d H6 nd s6 e6 => ?_⟩
        refine kE _ (.few (acc := acc) hp1 (by rw [hh1, ht1]; exact gd) hf) H6 d (Same.trans sAll s6) (none_of_same sAll nd) ?_
        rw [e6, hsp, List.length_map]
      · refine if_eqF (decide_eq_false (by omega)) ?_
        refine ⟨_, rfl, _, rfl, _, rfl, t, L, _, acc, rfl, (ft.same sm).sq, hpl, by omega, hok, Good.ok hok gd, fun H5 b s5 pb => ?_⟩
        refine ⟨by show 2 ≤ sizeLine; decide, fun q nq => ?_⟩
        exact kQ _ acc ⟨by rw [hh1], hp, by rw [ht1]; exact gd, by omega⟩ _ q t b (Same.trans (Same.trans sAll s5) (same_new nq)) upd_same
          ((((ft.same sm).same s5).same (same_new nq)).ft hp) (pb.same (same_new nq))
end
end K05
namespace AdT
open PySem PySem.Spec PyProof.Rows
/-- the first i of these texts stand in the set at S -/
def Told (P : Program) (w : World) (h : Heap) (S : Addr) (xs : List Str) (i : Nat) : Prop :=
  ∃ c, h.SetOf (strKind P w) S (fun k => decide (k ∈ xs.take i)) c ∧ c ≤ i ∧ (c = i ↔ (xs.take i).Nodup)
theorem Told.at {P : Program} {w : World} {h h' : Heap} {S : Addr} {xs : List Str} {i : Nat} (t : Told P w h S xs i) (k : ∀ o, h.get? S = some o → h'.get? S = some o) : Told P w h' S xs i :=
  let ⟨c, ⟨o, es, ep, tb, ho, r⟩, z⟩ := t
  ⟨c, ⟨o, es, ep, tb, k o ho, r⟩, z⟩
theorem Told.more {P : Program} {w : World} {h : Heap} {S : Addr} {xs : List Str} {i c : Nat} {x : Str} (hx : xs[i]? = some x) (hc : c ≤ i) (hn : c = i ↔ (xs.take i).Nodup)
    (t : h.SetOf (strKind P w) S (fun k => decide (k ∈ xs.take i) || decide (k = x)) (if decide (x ∈ xs.take i) = true then c else c + 1)) : Told P w h S xs (i + 1) := by
  have e : xs.take (i + 1) = xs.take i ++ [x] := by
    rw [List.take_succ, hx]
    rfl
  have nd : (xs.take i ++ [x]).Nodup ↔ (xs.take i).Nodup ∧ x ∉ xs.take i := by
    rw [List.nodup_append]
    constructor
    · exact fun z => ⟨z.1, fun m => z.2.2 x m x (List.mem_singleton.mpr rfl) rfl⟩
    · exact fun z => ⟨z.1, by simp, fun a ha b hb q => z.2 (by rw [← List.mem_singleton.mp hb, ← q]; exact ha)⟩
  refine ⟨_, SetOf_congr t (fun k => ?_) rfl, ?_, ?_⟩
  · rw [e]
    simp
  · split <;> omega
  · rw [e, nd]
    by_cases m : x ∈ xs.take i
    · rw [if_pos (decide_eq_true m)]
      exact ⟨fun q => by omega, fun q => absurd m q.2⟩
    · rw [if_neg (by simpa using m)]
      exact ⟨fun q => ⟨hn.mp (by omega), m⟩, fun q => by rw [hn.mpr q.1]⟩
section
variable {P : Program} {w : World} {A : Around} {I S : Addr} {fp wr : List Addr} {G : Array GenState → Array GenState → Prop} {n : Nat} {Pv : Nat → Value → Prop} {St : Nat → Shared → Prop} {R : Result → Shared → Prop}
theorem put_texts (W : WalksS P w A.in1 I fp wr G n Pv St) (out : S ∉ fp) {xs : List Str} (few : n + 1 < scanBound) (val : ∀ i v, Pv i v → ∃ x t, xs[i]? = some x ∧ v = .str x t) (m : Nat) :
    ∀ (i : Nat) (s : Shared), i + m = n → St i s → Told P w s.heap S xs i → (∀ s', Moved (S :: wr) G s s' → Told P w s'.heap S xs n → R (.ok (.ret .none)) s') →
      codeAny (model P w) A (.builtin "set.update.loop" ⟨[.ref S, .ref I], []⟩) R s := by
  have outw : S ∉ wr := fun z => out (W.sub _ z)
  have grow : ∀ {s1 s2 : Shared}, Moved wr G s1 s2 → Moved (S :: wr) G s1 s2 := fun z => z.mono fun b hb => .tail _ hb
  induction m with
  | zero =>
    rintro i s rfl st t fin
    refine codeAny_builtin F.entry_set_update_loop ?_
    rw [Around.under_plainId F.plain_set_update_loop _]
    exact wpAny_bind (W.done s _ _ st fun s' mv => wpAny_pure (fin s' (grow mv) (t.at fun o e => mv.heap S o outw e)))
  | succ m ih =>
    intro i s hn st t fin
    refine codeAny_builtin F.entry_set_update_loop ?_
    rw [Around.under_plainId F.plain_set_update_loop _]
    refine wpAny_bind (W.item i s _ _ (by omega) st fun v s1 hv st1 mv => ?_)
    obtain ⟨x, u, hx, rfl⟩ := val i v hv
    obtain ⟨c, so, hc, nd⟩ := (t.at fun o e => mv.heap S o outw e : Told P w s1.heap S xs i)
    show wpAny _ A.in1 (holding [Value.str x u] (setAdd S (.str x u)) >>= _) _ _ s1
    refine wpAny_bind (wpAny_holding ?_)
    unfold setAdd
    refine wpAny_holding (wpAny_bind ((strKind P w).pyHash (k := x) (strKind_is _ _ _ _) ?_))
    refine wpAny_setAddHashed_of (knd := strKind P w) (s := { s1 with toks := s1.toks + 1 }) (strKind_is _ _ _ _) rfl so (by omega) fun h2 sb so2 => wpAny_pure ⟨plainId_quiet F.plain_set_update_loop _, ?_⟩
    have other : ∀ b, b ≠ S → ∀ o, s1.heap.get? b = some o → h2.get? b = some o := fun b hb o e => (sb.2 b hb).trans e
    refine ih (i + 1) _ (by omega) (W.frame _ s1 _ _ st1 (Nat.le_succ _) fun b hb => other b fun q => out (q ▸ hb)) (Told.more hx hc nd so2) fun s3 mv3 t3 => fin s3 ?_ t3
    exact Moved.trans W.gtrans ((grow mv).then_heap (Nat.le_succ _) fun b o hb e => other b (fun q => hb (q ▸ .head _)) o e) mv3
end
section
variable {P : Program} {w : World} {A : Around} {E : Value → Shared → Prop} {s : Shared}
/-- set.__init__(it, l) of a new set -/
theorem fill_texts {a l : Addr} {led : Bool} {its : Array Value} {xs : List Str} (hh : A.handled = none) (hl : s.heap.IsList l its) (few : its.size + 1 < scanBound) (ne : l ≠ a)
    (new : s.heap.get? a = some { cls := .type "set", dict := none, data := .set #[] 0 (.fresh 0 0 led) })
    (val : ∀ (i : Nat) v, its[i]? = some v → ∃ x t, xs[i]? = some x ∧ v = .str x t) :
    codeAny (model P w) A (.call (.builtin "set.__init__") ⟨[.ref a, .ref l], []⟩)
      (wants (fun r s2 => r = .none ∧ ∃ h' tk, s2 = { s with heap := h', toks := tk } ∧ Told P w h' a xs its.size ∧ ∀ b o, b ≠ a → s.heap.get? b = some o → h'.get? b = some o) E) s := by
  refine codeAny_call_builtin F.called_set.init.plain F.entry_set_init (check_set_init_1 ⟨_, new, rfl⟩ ?_)
  obtain ⟨⟨oc, od, dt, os⟩, ho, cl, cap, dd⟩ := id hl
  obtain rfl : oc = .type "list" := cl
  obtain rfl : dt = .seq its cap := dd
  have q1 := F.sub_list_set
  have q2 := F.sub_list_frozenset
  have q3 : (Value.type "list" == Value.type "dict") = false := by decide
  unfold Builtin.«set.__init__» noKeywords Builtin.Frozenset.updateFrom
  generalize hit : pyIter = IT
  wp_walk
  subst hit
  refine wpAny_pyIter_list hl (wpAny_bind (wpAny_runValue ?_))
  have la : a < s.heap.objs.size := Heap.lt_size new
  have ll : l < s.heap.objs.size := Heap.lt_size ho
  have keep : ∀ b o, s.heap.get? b = some o → (s.heap.push { cls := .type "list_iterator", data := .fields #[.ref l, .int 0 0] }).get? b = some o := fun b o e => Heap.get?_push_of_some _ e
  refine put_texts ((Walks.list (by simp [hh]) s.heap.objs.size l (Nat.ne_of_lt ll) its).toS) (S := a) (by simp [Nat.ne_of_lt la, Ne.symm ne]) few val its.size 0 _ (Nat.zero_add _)
    ⟨⟨_, Heap.get?_push_size _ rfl, rfl, rfl⟩, hl.push _⟩ ⟨0, ?_, Nat.le_refl _, by simp⟩ fun s2 mv t => ?_
  · exact SetOf_congr ((setObjOf_fresh (knd := strKind P w) led).setOf (keep _ _ new) (by decide)) (fun k => by simp) rfl
  · obtain ⟨h2, g2, d2, t2, o2⟩ := s2
    obtain rfl : g2 = s.gens := mv.gens
    obtain rfl : d2 = s.drawn := mv.drawn
    obtain rfl : o2 = s.os := mv.os
    refine wpAny_pure (wpAny_pure ⟨rfl, h2, t2, rfl, t, fun b o nb e => mv.heap b o ?_ (keep b o e)⟩)
    simp [nb, Nat.ne_of_lt (Heap.lt_size e)]
/-- set(l) -/
theorem set_texts {l : Addr} {its : Array Value} {xs : List Str} {Q : Value → Shared → Prop} (hh : A.handled = none) (hl : s.heap.IsList l its) (few : its.size + 1 < scanBound)
    (val : ∀ (i : Nat) v, its[i]? = some v → ∃ x t, xs[i]? = some x ∧ v = .str x t)
    (h : ∀ h' tk, Told P w h' s.heap.objs.size xs its.size → (∀ b o, s.heap.get? b = some o → h'.get? b = some o) → Q (.ref s.heap.objs.size) { s with heap := h', toks := tk }) :
    wpAny (model P w) A (call (.type "set") [.ref l]) Q E s := by
  obtain ⟨c, tl, hmro⟩ := F.called_set.mro
  have hmade := F.called_set.made
  have hsub := F.called_set.sub
  have hty := F.called_set.notType
  have hcan := F.called_set.canCreate
  have hct := F.typeCall_set_1 (.ref l)
  have hli := F.called_set.init.lookup
  refine wpAny_call (codeAny_of_tree (wpAny_pure ⟨Code.quiet_builtin _ (by decide +kernel), codeAny_builtin F.entry_type_call ?_⟩))
  rw [Around.under_plain (weight_type_call_type "set" [.ref l] []) rfl]
  repeat (any_goals (first | assumption | wp_step))
  refine codeAny_mono (code_set_new_1 (E := E) (.ref l) (Q₁ := fun v s1 => ∃ led : Bool, v = .ref s.heap.objs.size ∧ s1 = { s with heap := s.heap.push { cls := .type "set", dict := none, data := .set #[] 0 (.fresh 0 0 led) } }) fun led => ⟨led, rfl, rfl⟩) fun r s1 hr => ?_
  match r, hr with
  | .error e, hr => exact hr
  | .ok (.ret v), hr =>
    obtain ⟨led, rfl, rfl⟩ := hr
    have new : (s.heap.push { cls := .type "set", dict := none, data := .set #[] 0 (.fresh 0 0 led) }).get? s.heap.objs.size = some { cls := .type "set", dict := none, data := .set #[] 0 (.fresh 0 0 led) } := Heap.get?_push_size _ rfl
    have hT : Shared.TypeIs { s with heap := s.heap.push { cls := .type "set", dict := none, data := .set #[] 0 (.fresh 0 0 led) } } (.ref s.heap.objs.size) "set" := ⟨_, new, rfl⟩
    have hbi := F.called_set.init.bind (.ref s.heap.objs.size)
    have ll : l < s.heap.objs.size := by
      obtain ⟨o, ho, _⟩ := hl
      exact Heap.lt_size ho
    repeat (any_goals (first | assumption | wp_step))
    refine codeAny_mono (fill_texts (E := E) (by simp [hh]) (hl.push _) few (Nat.ne_of_lt ll) new val) fun r2 s2 hr2 => ?_
    match r2, hr2 with
    | .error e, hr2 => exact hr2
    | .ok (.ret u), hr2 =>
      obtain ⟨rfl, h2, tk, rfl, t, kp⟩ := hr2
      repeat (any_goals (first | assumption | wp_step))
      exact h _ _ t fun b o e => kp b o (Nat.ne_of_lt (Heap.lt_size e)) (Heap.get?_push_of_some _ e)
end
end AdT
namespace L2
open PySem PySem.Spec PyProof.Rows
/-- the set of these texts stands at a -/
def TextsAt (P : Program) (w : World) (a : Addr) (xs : List Str) : HO := .ext fun h => AdT.Told P w h a xs xs.length
theorem texts_new {P : Program} {w : World} {H : Hp} {h : Heap} {a : Addr} {xs : List Str} (t : AdT.Told P w h a xs xs.length) : ObjOk P w H h a (TextsAt P w a xs) :=
  ⟨t, let ⟨_, ⟨o, _, _, _, ho, _⟩, _⟩ := t; ⟨o, ho⟩, fun _ _ q k => q.at k⟩
def rSetTx (K : PySem.W.Frag) (P : Program) (w : World) : List V → Hp → VK → Prop := fun vs H Q => ∃ (l : Addr) (xs : List Str), vs = [.ref l] ∧ SqL K H l (xs.map V.str) ∧ xs.length < 4000 ∧
  ∀ p, H p = none → Q (.ref p) (upd H p (TextsAt P w p xs))
def rLenTx (P : Program) (w : World) : List V → Hp → VK → Prop := fun vs H Q => ∃ (a : Addr) (xs : List Str), vs = [.ref a] ∧ H a = some (TextsAt P w a xs) ∧ ∀ c : Nat, c ≤ xs.length → (c = xs.length ↔ xs.Nodup) → Q (.int c) H
section
variable {X : Cx} {K : PySem.W.Frag}
theorem text_val : ∀ {xs : List Str} {us : List Value}, Vals (xs.map V.str) us → ∀ (i : Nat) v, us[i]? = some v → ∃ x t, xs[i]? = some x ∧ v = .str x t
  | [], _, .nil, i, v, h => by simp at h
  | x :: xs, _, .cons r t, 0, v, h => by
    obtain ⟨k, rfl⟩ := r
    exact ⟨x, k, rfl, (Option.some.inj h).symm⟩
  | x :: xs, _, .cons r t, i + 1, v, h => text_val t i v h
theorem cr_setTx (hc : X.calm = true) (hk : X.K = K := by rfl) : CallR X (.type "set") (rSetTx K X.prog X.w) := by
  subst hk
  intro pins s σ H vs us Q I r h
  obtain ⟨l, xs, rfl, hs, few, q⟩ := h
  obtain ⟨its, rv, pl, _⟩ := I.list hs
  rw [Vals.ref1 r]
  have e : its.toArray.size = xs.length := by rw [List.size_toArray, ← rv.length, List.length_map]
  refine AdT.set_texts (xs := xs) (I.ok.hd hc) pl.isList (by rw [e]; unfold scanBound; omega) (fun i v hv => text_val rv i v (by simpa using hv)) fun h' tk t kp => ?_
  rw [e] at t
  exact ⟨.ref s.heap.objs.size, _, I.laid (t' := tk) (o := TextsAt X.prog X.w s.heap.objs.size xs) kp (Nat.le_refl _) (texts_new t), rfl, q _ (I.hok.fresh (Nat.le_refl _))⟩
theorem cr_lenTx : CallR X (.builtin "len") (rLenTx X.prog X.w) := by
  intro pins s σ H vs us Q I r h
  obtain ⟨a, xs, rfl, ha, q⟩ := h
  rw [Vals.ref1 r]
  obtain ⟨c, ⟨o, es, ep, t, ho, ex, hd, _, _, hb, hf, hn⟩, hc, nd⟩ := ((I.hok a _ ha).1 : AdT.Told X.prog X.w s.heap a xs xs.length)
  rw [List.take_length] at nd
  refine PySem.call_len_set ho ex hd hf (by unfold scanBound at hb; omega) ⟨.int c, H, I.tok _, ⟨_, by rw [hn]⟩, q c hc nd⟩
end
end L2
namespace AdT
open PySem PySem.Spec PyProof.Rows
/-- is this value the text x? -/
def isTx (x : Str) : Value → Bool
  | .str y _ => y == x
  | _ => false
theorem isTx_count {x : Str} : ∀ {ys : List Str} {us : List Value}, L2.Vals (ys.map L2.V.str) us → us.countP (isTx x) = ys.count x
  | [], _, .nil => rfl
  | y :: ys, _, .cons r t => by
    obtain ⟨k, rfl⟩ := r
    rw [List.countP_cons, List.count_cons, isTx_count t]
    rfl
end AdT
namespace L2
open PySem PySem.Spec PyProof.Rows
def rCntTx (K : PySem.W.Frag) : V → List V → Hp → VK → Prop := fun x xs H Q => ∃ (p : Addr) (ys : List Str) (z : Str), x = .ref p ∧ xs = [.str z] ∧ SqL K H p (ys.map V.str) ∧ Q (.int (ys.count z : Nat)) H
theorem mt_countTx {X : Cx} {K : PySem.W.Frag} (hk : X.K = K := by rfl) : MtR X "list.count" (rCntTx K) := by
  subst hk
  rintro pins s σ H x xs v us Q I rx rxs ⟨p, ys, z, rfl, rfl, hs, q⟩
  cases rx
  obtain ⟨u, rfl, t, rfl⟩ := rxs.one
  obtain ⟨its, rv, ⟨⟨cls, dd, data, sl⟩, n, ho, hc, hdn, hd⟩, _⟩ := I.list hs
  obtain rfl : cls = .type "list" := hc
  obtain rfl : data = .seq its.toArray n := hd
  refine call_meets PySem.F.slot_list_count ⟨_, ho, rfl⟩ PySem.F.entry_list_count (PySem.F.args_list_count_2 _ _) (SeqAt.list_countAt p its.toArray n dd sl (.str z t) (AdT.isTx z)) ⟨ho, fun y hy => ?_, ?_⟩
  · obtain ⟨i, hi, e⟩ := List.getElem_of_mem (show y ∈ its by simpa using hy)
    obtain ⟨a, k, _, rfl⟩ := text_val rv i y (by rw [List.getElem?_eq_getElem hi, e])
    exact SeqAt.EqAt.str_str a k z t
  · have e : its.toArray.toList.countP (AdT.isTx z) = ys.count z := AdT.isTx_count rv
    exact ⟨.int (ys.count z : Nat), H, I.tok _, ⟨s.toks, by show Value.int ((its.toArray.toList.countP (AdT.isTx z) : Nat) : Int) s.toks = _; rw [e]⟩, q⟩
end L2
namespace K05
open PySem L2 NetM PySem.Spec PyProof.Rows
section
variable {P : Program} {w : World} {K : PySem.W.Frag} {mg : Str → Option Value} {base : Heap} {ad : Adr}
theorem sc_read_places : FnScope ["line", "words", "names", "name"] ["line"] (defScope s_read_places) := ⟨rfl, rfl, rfl, by decide +kernel, rfl, by decide +kernel, by decide +kernel⟩
theorem ok_read_places {f : Addr} {fd fd1 : FuncData} (F : Fun K "read_places" "read_places" s_read_places f fd) (T : Txt K mg ad)
    (G_is_name : FnOk P w K mg base CX0 1 ad.f_is_name fd1 ["value"] spName) (b_is_name : Binds K fd1 ["value"] []) :
    FnOk P w K mg base CX0 2 f fd ["line"] spPlaces := by
  refine F.ok sc_read_places (fun vs H Q E h => ?_) (fun cdv A outer s H vs Q E hr h => ?_)
  · obtain ⟨_, rfl, _⟩ := h
    rfl
  · obtain ⟨z, rfl, hz, k⟩ := h
    have h_is_name := hr
    refine ⟨_, (pss_cons (ps_set (i := 1) sc_read_places.nd rfl (Or.inl rfl) (pe_split (pv 0) pe_str))
      (pss_cons (ps_set (i := 2) sc_read_places.nd rfl (Or.inl rfl) (pe_slice (kSlL (K := K)) (pv 1) (po_some pe_int) po_none))
      (pss_cons (ps_if (PW.pt (pw_or (pt_cmpR op_ne (pe_ix (kIxL (K := K)) (pv 1) pe_int (fun _ _ => rfl)) pe_str (nomark _)) (pw_or1 (pt_not (pt_chain op_le op_le (pe_glob (v := .int 3) rfl T.m_FEWEST_PLACES.choose_spec ⟨_, rfl⟩) (pe_callB (kLen (K := K)) (by rfl) T.n_len (by decide +kernel) (pa_cons (pv 2) pa_nil)) (pe_glob (v := .int 16) rfl T.m_MOST_PLACES.choose_spec ⟨_, rfl⟩)))))) (pss_one (ps_ret (pe_tup pa_nil))) pss_nil)
      (pss_cons (ps_if (PW.pt (pw_or (pt_not (pt_val (pe_callB (kAll (K := K) rfl) (by rfl) T.n_all (by decide +kernel) (pa_cons (pe_lc (own := [("name", 3)]) (g := gName 3) rfl sc_read_places.nd (kLstI (pv 2)) (blkOk_by (N := ["line", "words", "names", "name"]) (sc := defScope s_read_places) (by decide +kernel)) (fun _ _ _ _ _ => pg_name (i := 3) sc_read_places.nd rfl (Or.inl rfl)) (fun _ _ _ _ _ => pts_nil) (fun _ _ _ _ _ => (pe_call G_is_name h_is_name (by rfl) T.m_is_name T.k_is_name b_is_name .nil pass0 (pa_cons (pv 3) pa_nil)))) pa_nil)))) (pw_or1 (pt_cmpR op_lt (pe_callB cr_lenTx (by rfl) T.n_len (by decide +kernel) (pa_cons (pe_callTy (cr_setTx (K := K) rfl) (by rfl) T.n_set (by decide +kernel) (pa_cons (pv 2) pa_nil)) pa_nil)) (pe_callB (kLen (K := K)) (by rfl) T.n_len (by decide +kernel) (pa_cons (pv 2) pa_nil)) (nomark _))))) (pss_one (ps_ret (pe_tup pa_nil))) pss_nil)
      (pss_one (ps_ret (pe_callTy (kTupFz (K := K)) (by rfl) T.n_tuple (by decide +kernel) (pa_cons (pv 2) pa_nil)))))))), ?_⟩
    obtain ⟨w0, ns, hws⟩ : ∃ w0 ns, Txt.split z " " = w0 :: ns := by
      cases e : Txt.split z " " with
      | nil =>
        have := split_pos z " "
        rw [e] at this
        exact absurd this (by decide)
      | cons w0 ns => exact ⟨w0, ns, rfl⟩
    have short : ∀ y ∈ ns, y.length ≤ 1000000 := fun y hy => Nat.le_trans (part_short (x := z) (y := " ") (by rw [hws]; exact List.mem_cons_of_mem _ hy)) hz
    have rp : readPlaces z = if w0 = "places" ∧ 3 ≤ ns.length ∧ ns.length ≤ 16 ∧ ns.all isNm = true ∧ ns.Nodup then ns else [] := by
      unfold readPlaces
      rw [hws]
      rfl
    refine ⟨_, rfl, ⟨_, rfl⟩, z, " ", rfl, rfl, by decide +kernel, Nat.le_trans (Nat.add_le_add_right hz 2) (by decide), fun wl nw => ?_⟩
    rw [hws]
    have sw := same_new (o := .lst ((w0 :: ns).map V.str)) nw
    have fw : upd H wl (.lst ((w0 :: ns).map V.str)) wl = some (.lst ((w0 :: ns).map V.str)) := upd_same
    generalize upd H wl (.lst ((w0 :: ns).map V.str)) = H1 at sw fw ⊢
    refine ⟨_, rfl, _, rfl, wl, _, rfl, SqL.of fw, fun nl nn => ?_⟩
    have ecut : cutV ((w0 :: ns).map V.str) (some 1) none = ns.map V.str := by
      unfold cutV
      rw [HT.sIx_none, show (1 : Int) = ((1 : Nat) : Int) from rfl, HT.sIx_nat, List.length_map, List.length_cons, Nat.min_eq_left (by omega)]
      rw [List.take_of_length_le (by rw [List.length_drop, List.length_map, List.length_cons]; omega)]
      rfl
    rw [ecut]
    have sn : Same H (upd H1 nl (.lst (ns.map V.str))) := Same.trans sw (same_new nn)
    have fn : upd H1 nl (.lst (ns.map V.str)) nl = some (.lst (ns.map V.str)) := upd_same
    have fw2 : upd H1 nl (.lst (ns.map V.str)) wl = some (.lst ((w0 :: ns).map V.str)) := same_new nn _ _ fw
    generalize upd H1 nl (.lst (ns.map V.str)) = H2 at sn fn fw2 ⊢
    have no : ∀ H3, Same H H3 → readPlaces z = [] → ([] : List V).length ≤ sizeLine ∧ ∀ t, H3 t = none → Q (.ref t) (upd H3 t (.tup [])) := fun H3 s3 e => ⟨Nat.zero_le _, fun t nt => k _ t (Same.trans s3 (same_new nt)) (.inl ⟨by rw [e]; rfl, by rw [upd_same, e]; rfl⟩)⟩
    refine ⟨_, rfl, wl, _, (0 : Int), .str w0, rfl, rfl, SqL.of fw2, atI_nat (j := 0) rfl, rfl, _, rfl, ?_⟩
    by_cases c0 : w0 = "places"
    · refine if_eqF (by rw [c0]; simp) ?_
      refine ⟨_, rfl, nl, _, rfl, .inl (SqL.of fn), _, _, rfl, rfl, _, rfl, ?_⟩
      rw [List.length_map]
      by_cases h3 : 3 ≤ ns.length
      · refine if_eqT (decide_eq_true (by omega)) ⟨_, _, rfl, rfl, _, rfl, ?_⟩
        by_cases h16 : ns.length ≤ 16
        · refine if_eqF (by rw [decide_eq_true (by omega)]; rfl) ?_
          refine ⟨_, rfl, nl, rfl, ⟨_, SqL.of fn⟩, fun D nD => ?_⟩
          refine lc_it walk_list (fun i Hc => Same H2 Hc ∧ Hc D = some (.lst ((ns.take i).map fun y => V.bl (isNm y)))) ⟨same_new nD, upd_same⟩ (fun i Hc _ q => SqL.of (q.1 _ _ fn)) ?_ ?_
          · rintro i x Hc H' hi ⟨sc, hd⟩ ⟨rfl, hx⟩
            obtain ⟨y, hy, rfl⟩ := str_at hx
            refine ⟨rfl, _, rfl, y, rfl, short y (List.mem_of_getElem? hy), fun H3 s3 => ⟨_, s3 _ _ hd, ?_, fun b o eb => ?_, ?_⟩⟩
            · rw [List.length_map, List.length_take]
              exact Nat.lt_of_le_of_lt (Nat.le_trans (Nat.min_le_right _ _) h16) (by decide)
            · rw [upd_ne (ne_of_none eb nD)]
              exact s3 _ _ (sc _ _ eb)
            · rw [upd_same, take_more hy, List.map_append]
              rfl
          · rintro Hc ⟨sc, hd⟩
            rw [List.length_map, List.take_length] at hd
            refine ⟨D, ns.map isNm, rfl, SqL.of (by rw [List.map_map]; exact hd), ?_⟩
            have ea : (ns.map isNm).all id = ns.all isNm := by rw [List.all_map]; rfl
            rw [ea]
            by_cases ha : ns.all isNm = true
            · refine ⟨_, rfl, if_eqF (by rw [ha]; rfl) ?_⟩
              refine ⟨_, rfl, nl, ns, rfl, SqL.of (sc _ _ fn), by omega, fun S nS => ⟨S, ns, rfl, upd_same, fun c hc nd => ?_⟩⟩
              have sS : Same Hc (upd Hc S (TextsAt P w S ns)) := same_new nS
              have fn3 := sS _ _ (sc _ _ fn)
              refine ⟨_, rfl, nl, _, rfl, .inl (SqL.of fn3), _, _, rfl, rfl, _, rfl, ?_⟩
              rw [List.length_map]
              by_cases hnd : ns.Nodup
              · refine if_eqF (decide_eq_false (by have := nd.mpr hnd; omega)) ⟨_, rfl, nl, _, rfl, SqL.of fn3, fun q o oc od nq => k _ q (Same.trans sn (Same.trans sc (Same.trans sS (same_new nq)))) (.inr ⟨o, oc, od, ?_⟩)⟩
                rw [upd_same, rp, if_pos ⟨c0, h3, h16, ha, hnd⟩]
              · refine if_eqT (decide_eq_true (by have : c ≠ ns.length := fun e => hnd (nd.mp e); omega)) ?_
                exact no _ (Same.trans sn (Same.trans sc sS)) (by rw [rp, if_neg fun q => hnd q.2.2.2.2])
            · refine ⟨_, rfl, if_eqT (by rw [Bool.eq_false_iff.mpr ha]; rfl) ?_⟩
              exact no _ (Same.trans sn sc) (by rw [rp, if_neg fun q => ha q.2.2.2.1])
        · refine if_eqT (by rw [decide_eq_false (by omega)]; rfl) ?_
          exact no _ sn (by rw [rp, if_neg fun q => h16 q.2.2.1])
      · refine if_eqF (decide_eq_false (by omega)) ⟨_, rfl, if_eqT rfl ?_⟩
        exact no _ sn (by rw [rp, if_neg fun q => h3 q.2.1])
    · refine if_eqT (by rw [decide_eq_false fun q => c0 (V.str.inj q)]; rfl) ?_
      exact no _ sn (by rw [rp, if_neg fun q => c0 q.1])
end
end K05
namespace NetM
open PySem L2
theorem pairsTo_cons (x : Str) (r : List Str) : ∀ i, pairsTo (x :: r) (i + 1) = (r.map fun o => (x, o)) ++ pairsTo r i
  | 0 => by
    show [] ++ pairsOf (x :: r) 0 = _ ++ []
    rw [List.nil_append, List.append_nil]
    rfl
  | i + 1 => by
    show pairsTo (x :: r) (i + 1) ++ pairsOf (x :: r) (i + 1) = _ ++ (pairsTo r i ++ pairsOf r i)
    rw [pairsTo_cons x r i, List.append_assoc]
    rfl
theorem pairsAll_cons (x : Str) (r : List Str) : pairsAll (x :: r) = (r.map fun o => (x, o)) ++ pairsAll r := pairsTo_cons x r r.length
theorem pairs_in : ∀ {ps : List Str} {p : Str × Str}, p ∈ pairsAll ps → p.1 ∈ ps ∧ p.2 ∈ ps
  | [], p, h => absurd h (List.not_mem_nil)
  | x :: r, p, h => by
    rw [pairsAll_cons] at h
    rcases List.mem_append.mp h with z | z
    · obtain ⟨o, ho, rfl⟩ := List.mem_map.mp z
      exact ⟨.head _, .tail _ ho⟩
    · exact ⟨.tail _ (pairs_in z).1, .tail _ (pairs_in z).2⟩
theorem pairs_nodup : ∀ {ps : List Str}, ps.Nodup → (pairsAll ps).Nodup
  | [], _ => List.nodup_nil
  | x :: r, h => by
    obtain ⟨h1, h2⟩ := List.nodup_cons.mp h
    rw [pairsAll_cons]
    refine List.nodup_append.mpr ⟨List.pairwise_map.mpr (h2.imp fun ne e => ne (Prod.mk.inj e).2), pairs_nodup h2, fun a ha b hb e => ?_⟩
    obtain ⟨o, ho, rfl⟩ := List.mem_map.mp ha
    rw [← e] at hb
    exact h1 (pairs_in hb).1
theorem pairs_anti : ∀ {ps : List Str}, ps.Nodup → ∀ {a b : Str}, (a, b) ∈ pairsAll ps → (b, a) ∈ pairsAll ps → False
  | [], _, a, b, h, _ => absurd h (List.not_mem_nil)
  | x :: r, h, a, b, ha, hb => by
    obtain ⟨h1, h2⟩ := List.nodup_cons.mp h
    rw [pairsAll_cons] at ha hb
    rcases List.mem_append.mp ha with z | z
    · obtain ⟨o, ho, e⟩ := List.mem_map.mp z
      obtain ⟨rfl, rfl⟩ := Prod.mk.inj e
      rcases List.mem_append.mp hb with y | y
      · obtain ⟨o2, ho2, e2⟩ := List.mem_map.mp y
        obtain ⟨rfl, rfl⟩ := Prod.mk.inj e2
        exact h1 ho
      · exact h1 (pairs_in y).2
    · rcases List.mem_append.mp hb with y | y
      · obtain ⟨o2, ho2, e2⟩ := List.mem_map.mp y
        obtain ⟨rfl, rfl⟩ := Prod.mk.inj e2
        exact h1 (pairs_in z).2
      · exact pairs_anti h2 z y
theorem mem_earl {ties : List (Str × Str)} {x y : Str} : x ∈ earlOf ties y ↔ (x, y) ∈ ties := by
  unfold earlOf
  rw [List.mem_map]
  constructor
  · rintro ⟨p, hp, rfl⟩
    obtain ⟨h1, h2⟩ := List.mem_filter.mp hp
    have : p.2 = y := V.str.inj (of_decide_eq_true h2)
    rw [← this]
    exact h1
  · exact fun h => ⟨(x, y), List.mem_filter.mpr ⟨h, decide_eq_true rfl⟩, rfl⟩
theorem mem_late {ties : List (Str × Str)} {x y : Str} : x ∈ lateOf ties y ↔ (y, x) ∈ ties := by
  unfold lateOf
  rw [List.mem_map]
  constructor
  · rintro ⟨p, hp, rfl⟩
    obtain ⟨h1, h2⟩ := List.mem_filter.mp hp
    have : p.1 = y := V.str.inj (of_decide_eq_true h2)
    rw [← this]
    exact h1
  · exact fun h => ⟨(y, x), List.mem_filter.mpr ⟨h, decide_eq_true rfl⟩, rfl⟩
theorem earl_nodup {ties : List (Str × Str)} {y : Str} (h : ties.Nodup) : (earlOf ties y).Nodup := by
  unfold earlOf
  refine List.pairwise_map.mpr (List.Pairwise.imp_of_mem (fun {a b} ha hb ne e => ne ?_) (h.filter _))
  have q1 := V.str.inj (of_decide_eq_true (List.mem_filter.mp ha).2)
  have q2 := V.str.inj (of_decide_eq_true (List.mem_filter.mp hb).2)
  exact Prod.ext e (q1.trans q2.symm)
theorem late_nodup {ties : List (Str × Str)} {y : Str} (h : ties.Nodup) : (lateOf ties y).Nodup := by
  unfold lateOf
  refine List.pairwise_map.mpr (List.Pairwise.imp_of_mem (fun {a b} ha hb ne e => ne ?_) (h.filter _))
  have q1 := V.str.inj (of_decide_eq_true (List.mem_filter.mp ha).2)
  have q2 := V.str.inj (of_decide_eq_true (List.mem_filter.mp hb).2)
  exact Prod.ext (q1.trans q2.symm) e
theorem nb_nodup {ps : List Str} {ties : List (Str × Str)} (h : ps.Nodup) (y : Str) : (nbOf (inSeq ps ties) y).Nodup := by
  have nd : (inSeq ps ties).Nodup := (pairs_nodup h).filter _
  have sub : ∀ {p}, p ∈ inSeq ps ties → p ∈ pairsAll ps := fun z => (List.mem_filter.mp z).1
  exact List.nodup_append.mpr ⟨earl_nodup nd, late_nodup nd, fun a ha b hb e => by
    subst e
    exact pairs_anti h (sub (mem_earl.mp ha)) (sub (mem_late.mp hb))⟩
theorem nb_in {ps : List Str} {ties : List (Str × Str)} {x y : Str} (h : x ∈ nbOf (inSeq ps ties) y) : x ∈ ps := by
  have sub : ∀ {p}, p ∈ inSeq ps ties → p ∈ pairsAll ps := fun z => (List.mem_filter.mp z).1
  rcases List.mem_append.mp h with z | z
  · exact (pairs_in (sub (mem_earl.mp z))).1
  · exact (pairs_in (sub (mem_late.mp z))).2
theorem nb_len {ps : List Str} {ties : List (Str × Str)} (h : ps.Nodup) (y : Str) : (nbOf (inSeq ps ties) y).length ≤ ps.length := nodup_len (nb_nodup h y) fun x hx => nb_in hx
end NetM
namespace K05
open PySem L2 NetM PySem.Spec PyProof.Rows
/-- what is known of the class Net -/
structure NetC (K : PySem.W.Frag) (fN C : Addr) : Prop where
  cls : Cls K C
  mkN : Mk K C fN
  n_text : NoAttr K C "text"
  n_places : NoAttr K C "places"
  n_ties : NoAttr K C "ties"
  n_near : NoAttr K C "_near"
/-- a net stands at x -/
def NetAt (H : Hp) (C x : Addr) (z : Str) (ps : List Str) (qs : List (Str × Str)) : Prop := ∃ (dx a b d : Addr), H x = some (.ins C dx [("text", .str z), ("places", .ref a), ("ties", .ref b), ("_near", .ref d)]) ∧
  Ft H a (ps.map V.str) ∧ PairsT H b qs ∧ NearAt H d (nbOf qs) ps
/-- a net of this text is well tied, or where not -/
def spNetInit (K : PySem.W.Frag) (ad : Adr) : Sp := fun vs H Q E => ∃ (x dx : Addr) (v : V), vs = [.ref x, v] ∧ H x = some (.ins ad.a_Net dx []) ∧
  ((∃ t, TyX K H v t ∧ PySem.W.kitOne K t (.type "str") = some false ∧ bad ad H E 0) ∨
   (∃ z, v = .str z ∧ z.length ≤ 1000000 ∧ (∀ n, NetErr z n → bad ad H E n) ∧
    ∀ ps ties, NetOk z ps ties →
      (∀ u, cutOf (nbOf (inSeq ps ties)) ps = some u → ∀ H' d, Same H H' → H d = none → H' d = some (.xd [("value", u)]) → E (.ref ad.a_NotTied) (some d) H') ∧
      (cutOf (nbOf (inSeq ps ties)) ps = none → ∀ H', SameBut x H H' → NetAt H' ad.a_Net x z ps (inSeq ps ties) → Q .non H')))
section
variable {P : Program} {w : World} {K : PySem.W.Frag} {mg : Str → Option Value} {base : Heap} {ad : Adr}
theorem sc_Net___init__ : FnScope ["self", "text", "places", "ties", "near"] ["self", "text"] (defScope s_Net___init__) := ⟨rfl, rfl, rfl, by decide +kernel, rfl, by decide +kernel, by decide +kernel⟩
theorem ok_Net___init__ {f : Addr} {fd fd1 fd2 fd3 : FuncData} (F : Fun K "__init__" "Net.__init__" s_Net___init__ f fd) (T : Txt K mg ad) (N : NetC K f ad.a_Net)
    (G_read_net : FnOk P w K mg base (L2.CX P w) 3 ad.f_read_net fd1 ["text"] (spReadNet K ad)) (b_read_net : Binds K fd1 ["text"] [])
    (G_neighbours : FnOk P w K mg base CX0 1 ad.f_neighbours fd2 ["places", "ties"] (spNear K)) (b_neighbours : Binds K fd2 ["places", "ties"] [])
    (G_check_well_tied : FnOk P w K mg base (L2.CX P w) 3 ad.f_check_well_tied fd3 ["places", "near"] (spCheck K ad)) (b_check_well_tied : Binds K fd3 ["places", "near"] []) :
    FnOk P w K mg base (L2.CX P w) 4 f fd ["self", "text"] (spNetInit K ad) := by
  refine F.okX sc_Net___init__ (fun vs H Q E h => ?_) (fun cdv A outer s H vs Q E hr h => ?_)
  · obtain ⟨_, _, _, rfl, _⟩ := h
    rfl
  · obtain ⟨x, dx, v, rfl, hx, h⟩ := h
    have h_neighbours := hr.mono (show 1 ≤ 3 by decide)
    refine ⟨_, (pss_cons (ps_asg (pe_call G_read_net hr (by rfl) T.m_read_net T.k_read_net b_read_net .nil (passes_call (takes_of rfl rfl rfl rfl) fun _ _ _ _ h => h) (pa_cons (pv 1) pa_nil)) (kTgt (K := K) (n := 2) (by rfl) (pgs_cons (pg_name (i := 2) sc_Net___init__.nd rfl (Or.inl rfl)) (pgs_cons (pg_name (i := 3) sc_Net___init__.nd rfl (Or.inl rfl)) pgs_nil))))
      (pss_cons (ps_set (i := 4) sc_Net___init__.nd rfl (Or.inl rfl) (pe_call G_neighbours h_neighbours (by rfl) T.m_neighbours T.k_neighbours b_neighbours .nil pass0 (pa_cons (pv 2) (pa_cons (pv 3) pa_nil))))
      (pss_cons (ps_expr (pe_call G_check_well_tied hr (by rfl) T.m_check_well_tied T.k_check_well_tied b_check_well_tied .nil (passes_call (takes_of rfl rfl rfl rfl) fun _ _ _ _ h => h) (pa_cons (pv 2) (pa_cons (pv 4) pa_nil))))
      (pss_cons (ps_fld (pv 0) (pv 1) rfl)
      (pss_cons (ps_fld (pv 0) (pv 2) rfl)
      (pss_cons (ps_fld (pv 0) (pv 3) rfl)
      (pss_one (ps_fld (pv 0) (pv 4) rfl)))))))), ?_⟩
    rcases h with ⟨t, ty, kt, kE⟩ | ⟨z, rfl, hz, kE, kQ⟩
    · exact ⟨_, rfl, v, rfl, .inl ⟨t, ty, kt, kE⟩⟩
    refine ⟨_, rfl, .str z, rfl, .inr ⟨z, rfl, hz, kE, fun ps ties ok H1 t a b s1 ft fa pb => ?_⟩⟩
    obtain ⟨hnd, h3, h16, hok⟩ : ps.Nodup ∧ 3 ≤ ps.length ∧ ps.length ≤ 16 ∧ ps.all PyData.strOk = true := by
      have q := places_ok (z := head1 z) (by rw [ok.pl]; exact ok.ne)
      rw [ok.pl] at q
      exact q
    have kQ := kQ ps ties ok
    have hq2 : (inSeq ps ties).length ≤ 20000 := Nat.le_trans (List.length_filter_le _ _) (lenAll ps (by omega))
    have nnd := nb_nodup (ties := ties) hnd
    have nln := nb_len (ties := ties) hnd
    generalize inSeq ps ties = qs at pb kQ hq2 nnd nln
    refine ⟨t, _, rfl, SqT.of ft, rfl, _, _, rfl, _, _, rfl, rfl, ?_⟩
    refine ⟨_, rfl, _, rfl, a, b, ps, qs, rfl, fa.sq, pb, by omega, hq2, fun H2 d kvs s2 fd hn => ?_⟩
    have near : NearAt H2 d (nbOf qs) ps := ⟨kvs, fd, fun y hy => let ⟨u, h1, h2⟩ := hn y hy; ⟨u, h1, h2, nnd y⟩⟩
    refine ⟨_, rfl, _, rfl, a, d, ps, nbOf qs, rfl, .inr (fa.same s2).sq, near, hnd, h3, by omega, fun y _ => Nat.le_trans (nln y) (by omega), fun cn H3 s3 => ?_,
      fun u cu H3 d' s3 nd e3 => kQ.1 u cu H3 d' (Same.trans s1 (Same.trans s2 s3)) (none_of_same (Same.trans s1 s2) nd) e3⟩
    have sA : Same H H3 := Same.trans s1 (Same.trans s2 s3)
    refine ⟨_, rfl, _, rfl, x, ad.a_Net, dx, [], rfl, sA _ _ hx, N.cls, N.n_text, by decide, ?_⟩
    refine ⟨_, rfl, _, rfl, x, ad.a_Net, dx, [("text", .str z)], rfl, upd_same, N.cls, N.n_places, (by show 1 < 1000; decide), ?_⟩
    refine ⟨_, rfl, _, rfl, x, ad.a_Net, dx, [("text", .str z), ("places", .ref a)], rfl, upd_same, N.cls, N.n_ties, (by show 2 < 1000; decide), ?_⟩
    refine ⟨_, rfl, _, rfl, x, ad.a_Net, dx, [("text", .str z), ("places", .ref a), ("ties", .ref b)], rfl, upd_same, N.cls, N.n_near, (by show 3 < 1000; decide), ?_⟩
    have other : ∀ c o, c ≠ x → H3 c = some o → ∀ o1 o2 o3 o4, upd (upd (upd (upd H3 x o1) x o2) x o3) x o4 c = some o := fun c o nc e o1 o2 o3 o4 => by
      rw [upd_ne nc, upd_ne nc, upd_ne nc, upd_ne nc]
      exact e
    have nx : ∀ c xs, H3 c = some (.tup xs) → c ≠ x := fun c xs e q => by
      rw [q, sA _ _ hx] at e
      cases e
    obtain ⟨oa, oac, oad, fa3⟩ := (fa.same s2).same s3
    have nxf : ∀ c o xs, H3 c = some (.frz o (.tup xs)) → c ≠ x := fun c o xs e q => by
      rw [q, sA _ _ hx] at e
      cases e
    obtain ⟨as, eb, rb⟩ : PairsT H3 b qs := (pb.same s2).same s3
    refine kQ.2 cn _ (fun c o nc e => other c o nc (sA _ _ e) _ _ _ _) ⟨dx, a, b, d, upd_same, ⟨oa, oac, oad, other _ _ (nxf _ _ _ fa3) fa3 _ _ _ _⟩, ⟨as, other _ _ (nx _ _ eb) eb _ _ _ _, ?_⟩, kvs, ?_, fun y hy => ?_⟩
    · exact Paired.weak (fun c p hp => other c _ (nx _ _ hp) hp _ _ _ _) rb
    · refine other _ _ (fun q => ?_) (s3 _ _ fd) _ _ _ _
      have e := s3 _ _ fd
      rw [q, sA _ _ hx] at e
      cases e
    · obtain ⟨u, h1, h2⟩ := hn y hy
      exact ⟨u, h1, other _ _ (nx _ _ (s3 _ _ h2)) (s3 _ _ h2) _ _ _ _, nnd y⟩
end
end K05
namespace K05
open PySem L2 NetM PySem.Spec PyProof.Rows
/-- a pot: three ints, the last of which counts -/
def PotAt (H : Hp) (p : Addr) (n : Nat) : Prop := ∃ o a b : Int, H p = some (.lst [.int o, .int a, .int b]) ∧ 0 ≤ a ∧ a < 2305843009213693921 ∧ 0 ≤ b ∧ b ≤ n
theorem PotAt.same {H H' : Hp} {p : Addr} {n : Nat} (h : PotAt H p n) (s : Same H H') : PotAt H' p n :=
  let ⟨o, a, b, e, r⟩ := h
  ⟨o, a, b, s _ _ e, r⟩
theorem potAt_len {H : Hp} {p : Addr} {n : Nat} (h : PotAt H p n) : ∃ o, H p = some o := let ⟨_, _, _, e, _⟩ := h; ⟨_, e⟩
def spPot (K : PySem.W.Frag) : Sp := fun vs H Q _ => ∃ (s : Addr) (i : Int) (ns : List Int), vs = [.ref s, .int i] ∧ SqL K H s (ns.map V.int) ∧ 0 ≤ i ∧ i ≤ 1000 ∧
  ∀ H' p, Same H H' → H p = none → PotAt H' p 0 → Q (.ref p) H'
def spTake : Sp := fun vs H Q _ => ∃ (p : Addr) (k : Nat) (n : Int), vs = [.ref p, .int n] ∧ PotAt H p k ∧ k ≤ 5000 ∧ 1 ≤ n ∧ n ≤ 1000000 ∧
  ∀ H' d, SameBut p H H' → PotAt H' p (k + 1) → 0 ≤ d → d < n → Q (.int d) H'
def spOf : Sp := fun vs H Q _ => ∃ (p l : Addr) (k : Nat) (xs : List V), vs = [.ref p, .ref l] ∧ PotAt H p k ∧ k ≤ 5000 ∧ p ≠ l ∧ H l = some (.lst xs) ∧ 1 ≤ xs.length ∧ xs.length ≤ 1000000 ∧
  ∀ H' x, SameBut p H H' → PotAt H' p (k + 1) → x ∈ xs → Q x H'
def spCells (K : PySem.W.Frag) : Sp := fun vs H Q _ => ∃ (s : Addr) (m : Int) (ns : List Int), vs = [.ref s, .int m] ∧ SqL K H s (ns.map V.int) ∧ 1 ≤ m ∧ m ≤ 100 ∧
  ∀ H' p (n : Nat), Same H H' → n ≤ 100 → H' p = some (.lst ((List.range n).map fun i : Nat => V.int i)) → Q (.ref p) H'
section
variable {P : Program} {w : World} {K : PySem.W.Frag} {mg : Str → Option Value} {base : Heap} {ad : Adr}
theorem op_powL {X : Cx} : OpR X (binaryOp .Pow) (rI (fun i j => 0 ≤ j ∧ (Builtin.Int.intBits i : Int) * j ≤ 2 ^ 27) fun i j => .int (i ^ j.toNat)) :=
  opI fun _ _ _ _ _ _ _ hc q => pow_int hc.1 hc.2 q
theorem sc__law_pot : FnScope ["_law_script", "_law_place", "_law_cell", "_law_own", "_law_small"] ["_law_script", "_law_place"] (defScope s__law_pot) := ⟨rfl, rfl, rfl, by decide +kernel, rfl, by decide +kernel, by decide +kernel⟩
theorem ok__law_pot {f : Addr} {fd : FuncData} (F : Fun K "_law_pot" "_law_pot" s__law_pot f fd) (T : Txt K mg ad) : FnOk P w K mg base CX0 1 f fd ["_law_script", "_law_place"] (spPot K) := by
  refine F.ok sc__law_pot (fun vs H Q E h => ?_) (fun cdv A outer s H vs Q E hr h => ?_)
  · obtain ⟨_, _, _, rfl, _⟩ := h
    rfl
  · obtain ⟨a, i, ns, rfl, hS, h0, h1, k⟩ := h
    refine ⟨_, (pss_cons (ps_set (i := 2) sc__law_pot.nd rfl (Or.inl rfl) (pe_ifExp (pt_cmpR op_lt (pv 1) (pe_callB call_len_seq (by rfl) T.n_len (by decide +kernel) (pa_cons (pv 0) pa_nil)) (nomark _)) (pe_ix ix_list (pv 0) (pv 1) (fun _ _ => rfl)) (pe_op op_add (pe_op op_mul pe_int (pv 1)) pe_int)))
      (pss_cons (ps_set (i := 3) sc__law_pot.nd rfl (Or.inl rfl) (pe_op op_mul (pe_op op_mod (pe_callTy call_int1 (by rfl) T.n_int (by decide +kernel) (pa_cons (pe_callB call_abs (by rfl) T.n_abs (by decide +kernel) (pa_cons (pv 2) pa_nil)) pa_nil)) (pe_op op_powL (pe_op op_pow pe_int pe_int) pe_int)) (pe_callTy call_int1 (by rfl) T.n_int (by decide +kernel) (pa_cons (pe_cmpR op_ge (pe_callB call_abs (by rfl) T.n_abs (by decide +kernel) (pa_cons (pv 2) pa_nil)) (pe_op op_pow pe_int pe_int) (nomark _)) pa_nil))))
      (pss_cons (ps_set (i := 4) sc__law_pot.nd rfl (Or.inl rfl) (pe_op op_mod (pe_callTy call_int1 (by rfl) T.n_int (by decide +kernel) (pa_cons (pv 2) pa_nil)) pe_int))
      (pss_one (ps_ret (pe_lst (pa_cons (pv 3) (pa_cons (pe_op op_mod (pe_callTy call_int1 (by rfl) T.n_int (by decide +kernel) (pa_cons (pe_op op_add (pe_op op_add (pe_op op_mul (pv 4) pe_int) (pe_op op_mul (pe_op op_mul pe_int (pv 1)) (pv 1))) pe_int) pa_nil)) pe_int) (pa_cons pe_int pa_nil))))))))), ?_⟩
    refine ⟨_, rfl, _, rfl, a, _, rfl, .inl hS, _, _, rfl, rfl, _, rfl, ?_⟩
    refine ite2 (fun hlt => ?_) (fun _ => ?_)
    · have hlt' : i.toNat < ns.length := by
        have q := of_decide_eq_true hlt
        rw [List.length_map] at q
        omega
      have he : atI (ns.map V.int) i = some (V.int ns[i.toNat]) := by
        have q := atI_nat (xs := ns.map V.int) (j := i.toNat) (v := V.int ns[i.toNat]) (by rw [List.getElem?_map, List.getElem?_eq_getElem hlt']; rfl)
        rwa [Int.toNat_of_nonneg h0] at q
      refine ⟨_, rfl, _, rfl, a, _, i, _, rfl, rfl, hS, he, ?_⟩
      generalize ns[i.toNat] = c

      refine ⟨_, rfl, _, rfl, .inl ⟨_, rfl, ?_⟩⟩
      refine ⟨_, _, rfl, rfl, ⟨by decide, by decide, by decide⟩, _, _, rfl, rfl, ⟨by decide, by decide +kernel⟩, ?_⟩
      refine ⟨_, _, rfl, rfl, (by decide +kernel : (0 : Int) < (10 ^ Int.toNat 60) ^ Int.toNat 5), _, rfl, _, rfl, _, _, rfl, rfl, ⟨by decide, by decide, by decide⟩, ?_⟩
      refine ⟨_, _, rfl, rfl, .inr ⟨_, rfl, _, _, rfl, rfl, .inr ?_, ?_⟩⟩
      · by_cases hc : ((10 : Int) ^ (18 : Int).toNat ≤ if c < 0 then -c else c)
        · rw [decide_eq_true hc]
          decide
        · rw [decide_eq_false hc]
          decide
      refine ⟨_, rfl, .inl ⟨_, rfl, _, _, rfl, rfl, (by decide : (0 : Int) < 2305843009213693951), ?_⟩⟩
      have m0 : 0 ≤ c % 2305843009213693951 := Int.emod_nonneg _ (by decide)
      have m1 : c % 2305843009213693951 < 2305843009213693951 := Int.emod_lt_of_pos _ (by decide)
      generalize c % 2305843009213693951 = m at m0 m1 ⊢
      refine ⟨_, rfl, _, rfl, _, _, rfl, rfl, .inl ⟨by omega, by omega⟩, ?_⟩
      refine ⟨_, rfl, _, _, rfl, rfl, .inl ⟨by decide, by decide⟩, _, rfl, _, _, rfl, rfl, .inl ⟨by omega, by omega⟩, ?_⟩
      refine ⟨_, _, rfl, rfl, ?_⟩
      refine ⟨_, _, rfl, rfl, .inl ⟨_, rfl, _, _, rfl, rfl, (by decide : (0 : Int) < 2305843009213693921), ?_⟩⟩
      refine ⟨by show 3 ≤ sizeLine; decide, fun p np => ?_⟩
      refine k _ p (same_new np) np ⟨_, _, _, upd_same, Int.emod_nonneg _ (by decide), Int.emod_lt_of_pos _ (by decide), by decide, by decide⟩
    · refine ⟨_, rfl, _, _, rfl, rfl, .inl ⟨by decide, by decide⟩, _, _, rfl, rfl, ?_⟩
      dsimp only
      generalize 57 * i + 12 = c

      refine ⟨_, rfl, _, rfl, .inl ⟨_, rfl, ?_⟩⟩
      refine ⟨_, _, rfl, rfl, ⟨by decide, by decide, by decide⟩, _, _, rfl, rfl, ⟨by decide, by decide +kernel⟩, ?_⟩
      refine ⟨_, _, rfl, rfl, (by decide +kernel : (0 : Int) < (10 ^ Int.toNat 60) ^ Int.toNat 5), _, rfl, _, rfl, _, _, rfl, rfl, ⟨by decide, by decide, by decide⟩, ?_⟩
      refine ⟨_, _, rfl, rfl, .inr ⟨_, rfl, _, _, rfl, rfl, .inr ?_, ?_⟩⟩
      · by_cases hc : ((10 : Int) ^ (18 : Int).toNat ≤ if c < 0 then -c else c)
        · rw [decide_eq_true hc]
          decide
        · rw [decide_eq_false hc]
          decide
      refine ⟨_, rfl, .inl ⟨_, rfl, _, _, rfl, rfl, (by decide : (0 : Int) < 2305843009213693951), ?_⟩⟩
      have m0 : 0 ≤ c % 2305843009213693951 := Int.emod_nonneg _ (by decide)
      have m1 : c % 2305843009213693951 < 2305843009213693951 := Int.emod_lt_of_pos _ (by decide)
      generalize c % 2305843009213693951 = m at m0 m1 ⊢
      refine ⟨_, rfl, _, rfl, _, _, rfl, rfl, .inl ⟨by omega, by omega⟩, ?_⟩
      refine ⟨_, rfl, _, _, rfl, rfl, .inl ⟨by decide, by decide⟩, _, rfl, _, _, rfl, rfl, .inl ⟨by omega, by omega⟩, ?_⟩
      refine ⟨_, _, rfl, rfl, ?_⟩
      refine ⟨_, _, rfl, rfl, .inl ⟨_, rfl, _, _, rfl, rfl, (by decide : (0 : Int) < 2305843009213693921), ?_⟩⟩
      refine ⟨by show 3 ≤ sizeLine; decide, fun p np => ?_⟩
      refine k _ p (same_new np) np ⟨_, _, _, upd_same, Int.emod_nonneg _ (by decide), Int.emod_lt_of_pos _ (by decide), by decide, by decide⟩

theorem sc__law_take : FnScope ["_law_pot_here", "_law_upto", "_law_digit", "_law_prime", "_law_mixed"] ["_law_pot_here", "_law_upto"] (defScope s__law_take) := ⟨rfl, rfl, rfl, by decide +kernel, rfl, by decide +kernel, by decide +kernel⟩
def primes : List V := [.int 2147483647, .int 2147483629, .int 2147483587, .int 2147483579, .int 2147483563]
theorem prime_at {i : Int} (h0 : 0 ≤ i) (h1 : i < 5) : ∃ q : Int, atI primes i = some (.int q) ∧ 0 < q ∧ q ≤ 2147483647 := by
  have h : i = 0 ∨ i = 1 ∨ i = 2 ∨ i = 3 ∨ i = 4 := by omega
  rcases h with rfl | rfl | rfl | rfl | rfl
  · exact ⟨2147483647, rfl, by decide, by decide⟩
  · exact ⟨2147483629, rfl, by decide, by decide⟩
  · exact ⟨2147483587, rfl, by decide, by decide⟩
  · exact ⟨2147483579, rfl, by decide, by decide⟩
  · exact ⟨2147483563, rfl, by decide, by decide⟩
theorem ok__law_take {f : Addr} {fd : FuncData} (F : Fun K "_law_take" "_law_take" s__law_take f fd) (T : Txt K mg ad) : FnOk P w K mg base CX0 1 f fd ["_law_pot_here", "_law_upto"] spTake := by
  refine F.ok sc__law_take (fun vs H Q E h => ?_) (fun cdv A outer s H vs Q E hr h => ?_)
  · obtain ⟨_, _, _, rfl, _⟩ := h
    rfl
  · obtain ⟨p, m, n, rfl, ⟨o, a, b, h, a0, a1, b0, b1⟩, hm, n1, n2, k⟩ := h
    refine ⟨_, (pss_cons (ps_if (pt_cmpR op_gt (pe_ix ix_list (pv 0) pe_int (fun _ _ => rfl)) pe_int (nomark _)) (pss_cons (ps_set (i := 2) sc__law_take.nd rfl (Or.inl rfl) (pe_op op_mod (pe_callTy call_int1 (by rfl) T.n_int (by decide +kernel) (pa_cons (pe_ix ix_list (pv 0) pe_int (fun _ _ => rfl)) pa_nil)) (pv 1)))
      (pss_cons (ps_asg (pe_op op_fdiv (pe_ix ix_list (pv 0) pe_int (fun _ _ => rfl)) (pv 1)) (pg_sub (pv 0) pe_int set_list))
      (pss_one (ps_ret (pv 2))))) pss_nil)
      (pss_cons (ps_asg (pe_op op_add (pe_ix ix_list (pv 0) pe_int (fun _ _ => rfl)) pe_int) (pg_sub (pv 0) pe_int set_list))
      (pss_cons (ps_set (i := 3) sc__law_take.nd rfl (Or.inl rfl) (pe_ix ix_list (pe_lst (pa_cons pe_int (pa_cons pe_int (pa_cons pe_int (pa_cons pe_int (pa_cons pe_int pa_nil)))))) (pe_op op_mod (pe_callTy call_int1 (by rfl) T.n_int (by decide +kernel) (pa_cons (pe_ix ix_list (pv 0) pe_int (fun _ _ => rfl)) pa_nil)) pe_int) (fun _ _ => rfl)))
      (pss_cons (ps_set (i := 4) sc__law_take.nd rfl (Or.inl rfl) (pe_op op_mod (pe_callTy call_int1 (by rfl) T.n_int (by decide +kernel) (pa_cons (pe_op op_pow (pe_callTy call_int1 (by rfl) T.n_int (by decide +kernel) (pa_cons (pe_op op_add (pe_op op_add (pe_ix ix_list (pv 0) pe_int (fun _ _ => rfl)) (pe_op op_mul (pe_op op_mul pe_int (pe_ix ix_list (pv 0) pe_int (fun _ _ => rfl))) (pe_ix ix_list (pv 0) pe_int (fun _ _ => rfl)))) pe_int) pa_nil)) pe_int) pa_nil)) (pv 3)))
      (pss_cons (ps_set (i := 4) sc__law_take.nd rfl (Or.inl rfl) (pe_op op_mod (pe_callTy call_int1 (by rfl) T.n_int (by decide +kernel) (pa_cons (pe_op op_mul (pv 4) (pe_op op_add (pe_op op_mod (pe_callTy call_int1 (by rfl) T.n_int (by decide +kernel) (pa_cons (pv 4) pa_nil)) pe_int) (pe_op op_mul pe_int (pe_ix ix_list (pv 0) pe_int (fun _ _ => rfl))))) pa_nil)) pe_int))
      (pss_one (ps_ret (pe_op op_mod (pe_callTy call_int1 (by rfl) T.n_int (by decide +kernel) (pa_cons (pe_op op_fdiv (pv 4) pe_int) pa_nil)) (pv 1))))))))), ?_⟩
    refine ⟨_, rfl, p, _, 0, .int o, rfl, rfl, SqL.of h, rfl, _, _, rfl, rfl, _, rfl, ?_⟩
    refine ite2 (fun ho => ?_) (fun ho => ?_)
    · refine ⟨_, rfl, p, _, 0, .int o, rfl, rfl, SqL.of h, rfl, .inl ⟨_, rfl, _, rfl, _, _, rfl, rfl, (by omega : (0 : Int) < n), ?_⟩⟩
      refine ⟨_, rfl, p, _, 0, .int o, rfl, rfl, SqL.of h, rfl, _, rfl, _, _, rfl, rfl, ⟨(by omega : (0 : Int) < n), by omega⟩, ?_⟩
      refine ⟨_, rfl, p, _, _, 0, rfl, rfl, h, rfl, ?_⟩
      exact ⟨_, rfl, k _ _ but_upd ⟨_, a, b, upd_same, a0, a1, b0, by omega⟩ (Int.emod_nonneg _ (by omega)) (Int.emod_lt_of_pos _ (by omega))⟩
    · refine ⟨_, rfl, p, _, 2, .int b, rfl, rfl, SqL.of h, rfl, _, _, rfl, rfl, _, rfl, p, _, _, 2, rfl, rfl, h, rfl, ?_⟩
      obtain ⟨c, ec⟩ : ∃ c : Int, c = b + 1 := ⟨_, rfl⟩
      have c0 : 0 ≤ c := by omega
      have c1 : c ≤ 5001 := by omega
      have h1 : upd H p (.lst ([V.int o, .int a, .int b].set 2 (.int (b + 1)))) p = some (.lst [.int o, .int a, .int c]) := by
        rw [upd_same, ec]
        rfl
      have bt : SameBut p H (upd H p (.lst ([V.int o, .int a, .int b].set 2 (.int (b + 1))))) := but_upd
      generalize upd H p (.lst ([V.int o, .int a, .int b].set 2 (.int (b + 1)))) = H1 at h1 bt ⊢
      refine ⟨by show 5 ≤ sizeLine; decide, fun l hl => ?_⟩
      have h2 : upd H1 l (.lst [V.int 2147483647, .int 2147483629, .int 2147483587, .int 2147483579, .int 2147483563]) p = some (.lst [.int o, .int a, .int c]) := same_new hl _ _ h1
      have bt2 : SameBut p H (upd H1 l (.lst [V.int 2147483647, .int 2147483629, .int 2147483587, .int 2147483579, .int 2147483563])) := bt.trans (same_new hl).but
      have hl2 : upd H1 l (.lst [V.int 2147483647, .int 2147483629, .int 2147483587, .int 2147483579, .int 2147483563]) l = some (.lst [V.int 2147483647, .int 2147483629, .int 2147483587, .int 2147483579, .int 2147483563]) := upd_same
      generalize upd H1 l (.lst [V.int 2147483647, .int 2147483629, .int 2147483587, .int 2147483579, .int 2147483563]) = H2 at h2 bt2 hl2 ⊢
      obtain ⟨q, eq, q0, q1⟩ := prime_at (i := c % 5) (Int.emod_nonneg _ (by decide)) (Int.emod_lt_of_pos _ (by decide))
      refine ⟨_, rfl, p, _, 2, .int c, rfl, rfl, SqL.of h2, rfl, .inl ⟨_, rfl, _, _, rfl, rfl, (by decide : (0 : Int) < 5), ?_⟩⟩
      refine ⟨l, _, _, .int q, rfl, rfl, SqL.of hl2, eq, ?_⟩
      have z0 : 0 ≤ 98141 * c * c := Int.mul_nonneg (by omega) c0
      have z1 : 98141 * c * c ≤ 98141 * 5001 * 5001 := Int.mul_le_mul (by omega) c1 c0 (by decide)
      refine ⟨_, rfl, p, _, 1, .int a, rfl, rfl, SqL.of h2, rfl, _, rfl, p, _, 2, .int c, rfl, rfl, SqL.of h2, rfl, _, _, rfl, rfl, .inl ⟨by decide, by decide⟩, ?_⟩
      refine ⟨_, rfl, p, _, 2, .int c, rfl, rfl, SqL.of h2, rfl, _, _, rfl, rfl, .inl ⟨by omega, by omega⟩, ?_⟩
      refine ⟨_, _, rfl, rfl, _, _, rfl, rfl, .inl ⟨_, rfl, ?_⟩⟩
      refine ⟨_, _, rfl, rfl, ⟨by decide, by decide, ?_⟩, .inl ⟨_, rfl, _, rfl, _, _, rfl, rfl, q0, ?_⟩⟩
      · show (a + 98141 * c * c + 48).natAbs < 2 ^ 64
        omega
      have x0 := Int.emod_nonneg ((a + 98141 * c * c + 48) ^ (3 : Int).toNat) (Int.ne_of_gt q0)
      have x1 := Int.emod_lt_of_pos ((a + 98141 * c * c + 48) ^ (3 : Int).toNat) q0
      dsimp only
      generalize (a + 98141 * c * c + 48) ^ (3 : Int).toNat % q = x at x0 x1 ⊢
      refine ⟨_, rfl, _, rfl, .inl ⟨_, rfl, _, _, rfl, rfl, (by decide : (0 : Int) < 10141), ?_⟩⟩
      refine ⟨_, rfl, p, _, 2, .int c, rfl, rfl, SqL.of h2, rfl, _, _, rfl, rfl, .inl ⟨by decide, by decide⟩, _, _, rfl, rfl, ?_⟩
      refine ⟨_, _, rfl, rfl, .inl ⟨by omega, by omega⟩, .inl ⟨_, rfl, _, _, rfl, rfl, (by decide : (0 : Int) < 2305843009213693907), ?_⟩⟩
      refine ⟨_, rfl, _, _, rfl, rfl, ⟨by decide, by decide⟩, .inl ⟨_, rfl, _, rfl, _, _, rfl, rfl, (by omega : (0 : Int) < n), ?_⟩⟩
      exact k _ _ bt2 ⟨o, a, c, h2, a0, a1, c0, by omega⟩ (Int.emod_nonneg _ (by omega)) (Int.emod_lt_of_pos _ (by omega))

theorem sc__law_of : FnScope ["_law_pot_here", "_law_some_here"] ["_law_pot_here", "_law_some_here"] (defScope s__law_of) := ⟨rfl, rfl, rfl, by decide +kernel, rfl, by decide +kernel, by decide +kernel⟩
theorem atI_of {xs : List V} {d : Int} (h0 : 0 ≤ d) (h1 : d < xs.length) : ∃ x, atI xs d = some x ∧ x ∈ xs := by
  have hl : d.toNat < xs.length := by omega
  have q := atI_nat (xs := xs) (j := d.toNat) (List.getElem?_eq_getElem hl)
  rw [Int.toNat_of_nonneg h0] at q
  exact ⟨_, q, List.getElem_mem hl⟩
theorem ok__law_of {f : Addr} {fd fd1 : FuncData} (F : Fun K "_law_of" "_law_of" s__law_of f fd) (T : Txt K mg ad)
    (G__law_take : FnOk P w K mg base CX0 1 ad.f__law_take fd1 ["_law_pot_here", "_law_upto"] spTake) (b__law_take : Binds K fd1 ["_law_pot_here", "_law_upto"] []) : FnOk P w K mg base CX0 2 f fd ["_law_pot_here", "_law_some_here"] spOf := by
  refine F.ok sc__law_of (fun vs H Q E h => ?_) (fun cdv A outer s H vs Q E hr h => ?_)
  · obtain ⟨_, _, _, _, rfl, _⟩ := h
    rfl
  · obtain ⟨p, l, m, xs, rfl, hp, hm, ne, hl, l0, l1, k⟩ := h
    have h__law_take := hr
    refine ⟨_, (pss_one (ps_ret (pe_ix ix_list (pv 1) (pe_call G__law_take h__law_take (by rfl) T.m__law_take T.k__law_take b__law_take .nil pass0 (pa_cons (pv 0) (pa_cons (pe_callB call_len_seq (by rfl) T.n_len (by decide +kernel) (pa_cons (pv 1) pa_nil)) pa_nil))) (fun _ _ => rfl)))), ?_⟩
    refine ⟨_, rfl, _, rfl, _, rfl, l, xs, rfl, .inl (SqL.of hl), p, m, _, rfl, hp, hm, by omega, by omega, fun H' d sb pa d0 d1 => ?_⟩
    obtain ⟨x, ex, hx⟩ := atI_of d0 d1
    exact ⟨l, xs, d, x, rfl, rfl, SqL.of (sb _ _ ne.symm hl), ex, k _ _ sb pa hx⟩
theorem sc__law_cells : FnScope ["_law_script", "_law_most"] ["_law_script", "_law_most"] (defScope s__law_cells) := ⟨rfl, rfl, rfl, by decide +kernel, rfl, by decide +kernel, by decide +kernel⟩
theorem ok__law_cells {f : Addr} {fd : FuncData} (F : Fun K "_law_cells" "_law_cells" s__law_cells f fd) (T : Txt K mg ad) : FnOk P w K mg base CX0 1 f fd ["_law_script", "_law_most"] (spCells K) := by
  refine F.ok sc__law_cells (fun vs H Q E h => ?_) (fun cdv A outer s H vs Q E hr h => ?_)
  · obtain ⟨_, _, _, rfl, _⟩ := h
    rfl
  · obtain ⟨a, m, ns, rfl, hS, m0, m1, k⟩ := h
    refine ⟨_, (pss_one (ps_ret (pe_listRg rfl (by rfl) T.n_list (prg_1 (by rfl) T.n_range (pe_callB (call_max2 rfl) (by rfl) T.n_max (by decide +kernel) (pa_cons pe_int (pa_cons (pe_callB (call_min2 rfl) (by rfl) T.n_min (by decide +kernel) (pa_cons (pv 1) (pa_cons (pe_callB call_len_seq (by rfl) T.n_len (by decide +kernel) (pa_cons (pv 0) pa_nil)) pa_nil))) pa_nil))))))), ?_⟩
    refine ⟨_, rfl, _, rfl, a, _, rfl, .inl hS, _, _, rfl, _, _, rfl, ?_⟩
    generalize hn : (if (if ((ns.map V.int).length : Int) < m then ((ns.map V.int).length : Int) else m) > 1 then (if ((ns.map V.int).length : Int) < m then ((ns.map V.int).length : Int) else m) else 1) = n
    have n0 : 1 ≤ n := by
      rw [← hn]
      split <;> omega
    have n1 : n ≤ 100 := by
      rw [← hn]
      split
      · split <;> omega
      · omega
    refine ⟨n, rfl, RgOk.of_le (by decide) (by omega) (by decide) (by omega), fun q hq => ?_⟩
    refine k _ q n.toNat (same_new hq) (by omega) ?_
    rw [upd_same]
    unfold rgV
    simp
end
end K05
namespace K05
open PySem L2 NetM PySem.Spec PyProof.Rows
def spIsThere : Sp := fun vs H Q _ => ∃ (l : Addr) (a b : Str) (ties : List (Str × Str)), vs = [.ref l, .str a, .str b] ∧ PairsL H l ties ∧ ties.all okP = true ∧ okP (a, b) = true ∧
  ∀ H', Same H H' → Q (.bl (tieIn ties (a, b))) H'
/-- places and ties, told in a tuple of two lists -/
def LoreAt (H : Hp) (t : Addr) (ps : List Str) (ties : List (Str × Str)) : Prop := ∃ a l : Addr, H t = some (.tup [.ref a, .ref l]) ∧ H a = some (.lst (ps.map V.str)) ∧ PairsL H l ties
theorem LoreAt.same {H H' : Hp} {t : Addr} {ps : List Str} {ties : List (Str × Str)} (h : LoreAt H t ps ties) (s : Same H H') : LoreAt H' t ps ties :=
  let ⟨a, l, e, ea, el⟩ := h
  ⟨a, l, s _ _ e, s _ _ ea, el.same s⟩
/-- the places tied with p -/
def nearOf (ps : List Str) (ties : List (Str × Str)) (p : Str) : List Str := ps.filter fun o => !decide (V.str o = V.str p) && tieIn ties (p, o)
def spNearL : Sp := fun vs H Q _ => ∃ (t : Addr) (p : Str) (ps : List Str) (ties : List (Str × Str)), vs = [.ref t, .str p] ∧ LoreAt H t ps ties ∧ ps.length ≤ 100 ∧ PyData.strOk p = true ∧ ps.all PyData.strOk = true ∧ ties.all okP = true ∧
  ∀ H' q, Same H H' → H q = none → H' q = some (.lst ((nearOf ps ties p).map V.str)) → Q (.ref q) H'
section
variable {P : Program} {w : World} {K : PySem.W.Frag} {mg : Str → Option Value} {base : Heap} {ad : Adr}
theorem sc__law_is_there : FnScope ["_law_ties", "_law_one", "_law_other"] ["_law_ties", "_law_one", "_law_other"] (defScope s__law_is_there) := ⟨rfl, rfl, rfl, by decide +kernel, rfl, by decide +kernel, by decide +kernel⟩
theorem ok__law_is_there {f : Addr} {fd : FuncData} (F : Fun K "_law_is_there" "_law_is_there" s__law_is_there f fd) (T : Txt K mg ad) : FnOk P w K mg base CX0 1 f fd ["_law_ties", "_law_one", "_law_other"] spIsThere := by
  refine F.ok sc__law_is_there (fun vs H Q E h => ?_) (fun cdv A outer s H vs Q E hr h => ?_)
  · obtain ⟨_, _, _, _, rfl, _⟩ := h
    rfl
  · obtain ⟨l, a, b, ties, rfl, hl, okt, ok12, k⟩ := h
    have hu65 : (A.deeper (envOfC "_law_is_there" (defScope s__law_is_there) s.heap.objs.size f cdv)).units + 65 < cLine := by
      have := hr.un
      omega
    have ok21 : okP (b, a) = true := by
      unfold okP at ok12 ⊢
      rw [Bool.and_comm]
      exact ok12
    refine ⟨_, (pss_one (ps_ret (pe_or (pe_cmpR (kInD (K := K) hu65) (pe_tup (pa_cons (pv 1) (pa_cons (pv 2) pa_nil))) (pv 0) (by rfl)) (pe_one (pe_cmpR (kInD (K := K) hu65) (pe_tup (pa_cons (pv 2) (pa_cons (pv 1) pa_nil))) (pv 0) (by rfl)))))), ?_⟩
    refine ⟨_, rfl, _, rfl, by show 2 ≤ sizeLine; decide, fun q nq => ?_⟩
    have sq : Same H (upd H q (.tup [.str a, .str b])) := same_new nq
    have fq : PairAt (upd H q (.tup [.str a, .str b])) q (a, b) := upd_same
    generalize upd H q (.tup [.str a, .str b]) = H2 at sq fq ⊢
    refine ⟨_, rfl, pD (a, b), ties.map pD, dp_pair fq, dp_pairsL (hl.same sq), pD_shaped ok12, pDs_shaped okt, _, rfl, ?_⟩
    by_cases m1 : (a, b) ∈ ties
    · refine if_eqT (by rw [any_pD]; exact decide_eq_true m1) ?_
      have e : tieIn ties (a, b) = true := by
        unfold tieIn
        rw [decide_eq_true m1]
        rfl
      exact e ▸ k H2 sq
    · refine if_eqF (by rw [any_pD]; exact decide_eq_false m1) ?_
      refine ⟨_, rfl, _, rfl, by show 2 ≤ sizeLine; decide, fun q2 nq2 => ?_⟩
      have s2 : Same H (upd H2 q2 (.tup [.str b, .str a])) := Same.trans sq (same_new nq2)
      have f2 : PairAt (upd H2 q2 (.tup [.str b, .str a])) q2 (b, a) := upd_same
      generalize upd H2 q2 (.tup [.str b, .str a]) = H3 at s2 f2 ⊢
      refine ⟨_, rfl, pD (b, a), ties.map pD, dp_pair f2, dp_pairsL (hl.same s2), pD_shaped ok21, pDs_shaped okt, ?_⟩
      have e : (ties.map pD).any (fun z => z.eqv (pD (b, a))) = tieIn ties (a, b) := by
        rw [any_pD]
        unfold tieIn
        rw [decide_eq_false m1]
        rfl
      rw [e]
      exact k H3 s2
end
end K05
namespace NetM
open PySem L2
theorem tie_sym {ties : List (Str × Str)} {a b : Str} : tieIn ties (a, b) = tieIn ties (b, a) := by
  unfold tieIn
  rw [Bool.or_comm]
theorem pairs_total : ∀ {ps : List Str} {a b : Str}, a ∈ ps → b ∈ ps → a ≠ b → (a, b) ∈ pairsAll ps ∨ (b, a) ∈ pairsAll ps
  | [], a, b, h, _, _ => absurd h (List.not_mem_nil)
  | x :: r, a, b, ha, hb, ne => by
    rw [pairsAll_cons]
    rcases List.mem_cons.mp ha with rfl | ha'
    · rcases List.mem_cons.mp hb with rfl | hb'
      · exact absurd rfl ne
      · exact .inl (List.mem_append_left _ (List.mem_map.mpr ⟨b, hb', rfl⟩))
    · rcases List.mem_cons.mp hb with rfl | hb'
      · exact .inr (List.mem_append_left _ (List.mem_map.mpr ⟨a, ha', rfl⟩))
      · exact (pairs_total ha' hb' ne).imp (List.mem_append_right _) (List.mem_append_right _)
theorem mem_nb {ps : List Str} {ties : List (Str × Str)} {y z : Str} (nd : ps.Nodup) : z ∈ nbOf (inSeq ps ties) y ↔ z ∈ ps ∧ y ∈ ps ∧ z ≠ y ∧ tieIn ties (y, z) = true := by
  have irr : ∀ {a b : Str}, (a, b) ∈ pairsAll ps → a ≠ b := fun h e => by
    subst e
    exact pairs_anti nd h h
  constructor
  · intro h
    rcases List.mem_append.mp h with q | q
    · obtain ⟨h1, h2⟩ := List.mem_filter.mp (mem_earl.mp q)
      exact ⟨(pairs_in h1).1, (pairs_in h1).2, irr h1, tie_sym.trans h2⟩
    · obtain ⟨h1, h2⟩ := List.mem_filter.mp (mem_late.mp q)
      exact ⟨(pairs_in h1).2, (pairs_in h1).1, (irr h1).symm, h2⟩
  · rintro ⟨h1, h2, h3, h4⟩
    rcases pairs_total h1 h2 h3 with q | q
    · exact List.mem_append_left _ (mem_earl.mpr (List.mem_filter.mpr ⟨q, tie_sym.trans h4⟩))
    · exact List.mem_append_right _ (mem_late.mpr (List.mem_filter.mpr ⟨q, h4⟩))
theorem Reach.imp {nb nb' : Str → List Str} {some : List Str} {x y : Str} (h : ∀ y ∈ some, ∀ z ∈ some, z ∈ nb y → z ∈ nb' y) (hx : x ∈ some) (r : Reach nb some x y) : Reach nb' some x y := by
  induction r with
  | refl => exact .refl
  | step r hz hs ih => exact .step ih (h _ (r.mem hx) _ hs hz) hs
theorem allIn_congr {nb nb' : Str → List Str} {some : List Str} {x : Str} (h : ∀ y ∈ some, ∀ z ∈ some, z ∈ nb y ↔ z ∈ nb' y) (hx : x ∈ some) : AllIn nb some x ↔ AllIn nb' some x :=
  ⟨fun a y hy => (a y hy).imp (fun y hy z hz q => (h y hy z hz).mp q) hx, fun a y hy => (a y hy).imp (fun y hy z hz q => (h y hy z hz).mpr q) hx⟩
theorem headIn {ps : List Str} (h : ps ≠ []) : ps.headD "" ∈ ps := by
  cases ps with
  | nil => exact absurd rfl h
  | cons x r => exact .head _
theorem cut_congr {nb nb' : Str → List Str} {ps : List Str} (nd : ps.Nodup) (h2 : 2 ≤ ps.length) (h : ∀ y ∈ ps, ∀ z ∈ ps, z ∈ nb y ↔ z ∈ nb' y) : cutOf nb ps = cutOf nb' ps := by
  have ne : ps ≠ [] := fun e => by rw [e] at h2; simp at h2
  have e1 := allIn_congr h (headIn ne)
  have e2 : ∀ p, Fine nb ps p ↔ Fine nb' ps p := fun p => by
    obtain ⟨y, r, eo⟩ := oth_ne (p := p) nd h2
    exact allIn_congr (fun y hy z hz => h y (oth_mem.mp hy).1 z (oth_mem.mp hz).1) (headIn (by rw [eo]; simp))
  have e3 : Fine nb ps = Fine nb' ps := funext fun p => propext (e2 p)
  unfold cutOf
  rw [propext e1, e3]
end NetM
namespace NetM
open PySem L2
theorem Good.inv {ps pre : List Str} {acc : List (Str × Str)} (h : Good ps pre acc) : (pre = [] ∧ acc = []) ∨ ∃ pre0 z acc0 p, pre = pre0 ++ [z] ∧ acc = acc0 ++ [p] ∧ Good ps pre0 acc0 ∧ readTie z ps acc0 = some p ∧ acc0.length ≠ 45 := by
  cases h with
  | nil => exact .inl ⟨rfl, rfl⟩
  | snoc g r n => exact .inr ⟨_, _, _, _, rfl, rfl, g, r, n⟩
theorem Good.only {ps pre : List Str} {a : List (Str × Str)} (h : Good ps pre a) : ∀ {b}, Good ps pre b → a = b := by
  induction h with
  | nil =>
    intro b hb
    rcases hb.inv with ⟨_, e⟩ | ⟨pre0, z, _, _, e, _⟩
    · exact e.symm
    · exact absurd (congrArg List.length e) (by simp)
  | snoc g r n ih =>
    intro b hb
    rcases hb.inv with ⟨e, _⟩ | ⟨pre0, z, acc0, p, e, e2, g2, r2, _⟩
    · exact absurd (congrArg List.length e) (by simp)
    · obtain ⟨e3, e4⟩ := List.append_inj' e rfl
      obtain rfl := List.singleton_inj.mp e4
      subst e3
      have q := ih g2
      subst q
      rw [r] at r2
      rw [e2, Option.some.inj r2]
theorem Good.back {ps l : List Str} {i : Nat} {z : Str} (hz : l[i]? = some z) : ∀ (j : Nat) {acc : List (Str × Str)}, i < j → j ≤ l.length → Good ps (l.take j) acc → ∃ acc0, Good ps (l.take i) acc0 ∧ readTie z ps acc0 ≠ none ∧ acc0.length ≠ 45
  | 0, _, h, _, _ => absurd h (Nat.not_lt_zero i)
  | j + 1, acc, h, hj, g => by
    have hx : l[j]? = some l[j] := List.getElem?_eq_getElem (by omega)
    rw [take_more hx] at g
    rcases g.inv with ⟨e, _⟩ | ⟨pre0, y, acc0, p, e, _, g2, r2, n2⟩
    · exact absurd (List.append_eq_nil_iff.mp e).2 (List.cons_ne_nil _ _)
    obtain ⟨e3, e4⟩ := List.append_inj' e rfl
    have e5 := List.singleton_inj.mp e4
    rw [← e3] at g2
    rcases Nat.lt_or_eq_of_le (Nat.lt_succ_iff.mp h) with q | q
    · exact Good.back hz j q (by omega) g2
    · subst q
      rw [hz] at hx
      have : z = y := (Option.some.inj hx).trans e5
      subst this
      exact ⟨acc0, g2, by rw [r2]; simp, n2⟩
theorem stop_once {ps l : List Str} {i j : Nat} {zi : Str} {a : List (Str × Str)} {b : List (Str × Str)} (hi : l[i]? = some zi) (gi : Good ps (l.take i) a) (bad : readTie zi ps a = none ∨ a.length = 45) (hj : i < j) (hl : j ≤ l.length) (gj : Good ps (l.take j) b) : False := by
  obtain ⟨acc0, g0, r0, n0⟩ := Good.back hi j hj hl gj
  have e := gi.only g0
  subst e
  rcases bad with q | q
  · exact r0 q
  · exact n0 q
theorem err_only {z : Str} {n m : Int} (h : NetErr z n) (k : NetErr z m) : n = m := by
  cases h with
  | places e =>
    cases k with
    | places => rfl
    | tie ne => exact absurd e ne
    | few ne => exact absurd e ne
  | @tie i zi a ne gi hi bi =>
    have li := (List.getElem?_eq_some_iff.mp hi).1
    cases k with
    | places e => exact absurd e ne
    | @tie j zj b ne2 gj hj bj =>
      have lj := (List.getElem?_eq_some_iff.mp hj).1
      rcases Nat.lt_trichotomy i j with q | q | q
      · exact (stop_once hi gi bi q (by omega) gj).elim
      · rw [q]
      · exact (stop_once hj gj bj q (by omega) gi).elim
    | few ne2 g f => exact (stop_once hi gi bi li (Nat.le_refl _) (by rw [List.take_length]; exact g)).elim
  | few ne g f =>
    cases k with
    | places e => exact absurd e ne
    | @tie j zj b ne2 gj hj bj => exact (stop_once hj gj bj (List.getElem?_eq_some_iff.mp hj).1 (Nat.le_refl _) (by rw [List.take_length]; exact g)).elim
    | few => rfl
theorem ok_noErr {z : Str} {n : Int} {ps : List Str} {ties : List (Str × Str)} (h : NetErr z n) (k : NetOk z ps ties) : False := by
  have e := k.pl
  have g := k.good
  have ne : readPlaces (head1 z) ≠ [] := by
    rw [e]
    exact k.ne
  cases h with
  | places q => exact ne q
  | @tie i zi a ne gi hi bi =>
    rw [e] at gi bi
    exact stop_once hi gi bi (List.getElem?_eq_some_iff.mp hi).1 (Nat.le_refl _) (by rw [List.take_length]; exact g)
  | few ne2 g2 f =>
    rw [e] at g2
    rw [g2.only g] at f
    have := k.few
    omega
theorem ok_only {z : Str} {ps ps' : List Str} {ties ties' : List (Str × Str)} (h : NetOk z ps ties) (k : NetOk z ps' ties') : ps = ps' ∧ ties = ties' := by
  have e : ps = ps' := h.pl.symm.trans k.pl
  subst e
  exact ⟨rfl, h.good.only k.good⟩
end NetM
namespace NetM
open PySem L2
/-- the tie that a line of three words names -/
def tieOf (ln : Str) : Str × Str := ((Txt.split ln " ").getD 1 "", (Txt.split ln " ").getD 2 "")
theorem readTie_of {z : Str} {ps : List Str} {acc : List (Str × Str)} {p : Str × Str} (h : readTie z ps acc = some p) : (∃ a, Txt.split z " " = [a, p.1, p.2]) ∧ p = tieOf z := by
  unfold readTie at h
  split at h
  · rename_i a b c e
    split at h
    · cases h
      refine ⟨⟨a, e⟩, ?_⟩
      unfold tieOf
      rw [e]
      rfl
    · cases h
  · cases h
theorem Good.ties {ps pre : List Str} {acc : List (Str × Str)} (h : Good ps pre acc) : acc = pre.map tieOf ∧ ∀ ln ∈ pre, ∃ a, Txt.split ln " " = [a, (tieOf ln).1, (tieOf ln).2] := by
  induction h with
  | nil => exact ⟨rfl, fun _ h => absurd h (List.not_mem_nil)⟩
  | snoc g r n ih =>
    obtain ⟨h1, h2⟩ := readTie_of r
    refine ⟨by rw [List.map_append, ← ih.1, h2]; rfl, fun ln hl => ?_⟩
    rcases List.mem_append.mp hl with q | q
    · exact ih.2 ln q
    · rw [List.mem_singleton.mp q, ← h2]
      exact h1
end NetM
namespace NetM
open PySem L2
/-- the pairs of neighbours in a walk -/
def legs (w : List Str) : List (Str × Str) := w.zip (w.drop 1)
theorem legs_cons2 (a b : Str) (w : List Str) : legs (a :: b :: w) = (a, b) :: legs (b :: w) := rfl
theorem legs_left (u v : List Str) : ∀ t ∈ legs u, t ∈ legs (u ++ v) := by
  induction u with
  | nil => intro t h; exact absurd h (List.not_mem_nil)
  | cons a u ih =>
    cases u with
    | nil => intro t h; exact absurd h (List.not_mem_nil)
    | cons b u =>
      intro t h
      rw [legs_cons2] at h
      show t ∈ legs (a :: b :: (u ++ v))
      rw [legs_cons2]
      rcases List.mem_cons.mp h with e | e
      · exact e ▸ .head _
      · exact .tail _ (ih t e)
theorem legs_right (u v : List Str) : ∀ t ∈ legs v, t ∈ legs (u ++ v) := by
  induction u with
  | nil => intro t h; exact h
  | cons a u ih =>
    intro t h
    have q := ih t h
    cases e : u ++ v with
    | nil =>
      rw [e] at q
      exact absurd q (List.not_mem_nil)
    | cons b w =>
      rw [e] at q
      show t ∈ legs (a :: (u ++ v))
      rw [e, legs_cons2]
      exact .tail _ q
theorem legs_mem : ∀ {w : List Str} {t : Str × Str}, t ∈ legs w → t.1 ∈ w ∧ t.2 ∈ w
  | [], _, h => absurd h (List.not_mem_nil)
  | [a], _, h => absurd h (List.not_mem_nil)
  | a :: b :: w, t, h => by
    rw [legs_cons2] at h
    rcases List.mem_cons.mp h with rfl | h
    · exact ⟨.head _, .tail _ (.head _)⟩
    · exact ⟨.tail _ (legs_mem h).1, .tail _ (legs_mem h).2⟩
theorem legs_len : ∀ (w : List Str), (legs w).length = w.length - 1
  | [] => rfl
  | a :: w => by
    unfold legs
    rw [List.length_zip, List.drop_succ_cons, List.drop_zero, List.length_cons]
    omega
/-- what hangs together -/
inductive Path (ts : List (Str × Str)) (S : Str → Prop) : Str → Str → Prop
  | refl {x : Str} : S x → Path ts S x x
  | step {x y z : Str} : Path ts S x y → tieIn ts (y, z) = true → S z → Path ts S x z
theorem tieIn_iff {ts : List (Str × Str)} {p : Str × Str} : tieIn ts p = true ↔ p ∈ ts ∨ (p.2, p.1) ∈ ts := by
  unfold tieIn
  simp
variable {ts ts' : List (Str × Str)} {S S' : Str → Prop} {x y z : Str}
theorem Path.fst (h : Path ts S x y) : S x := by
  induction h with
  | refl h => exact h
  | step _ _ _ ih => exact ih
theorem Path.snd (h : Path ts S x y) : S y := by
  cases h with
  | refl h => exact h
  | step _ _ h => exact h
theorem Path.trans (h : Path ts S x y) (k : Path ts S y z) : Path ts S x z := by
  induction k with
  | refl _ => exact h
  | step _ t s ih => exact .step ih t s
theorem Path.symm (h : Path ts S x y) : Path ts S y x := by
  induction h with
  | refl h => exact .refl h
  | step h t s ih => exact (Path.step (.refl s) (tie_sym.trans t) h.snd).trans ih
theorem Path.mono (h : Path ts S x y) (a : ∀ p, tieIn ts p = true → tieIn ts' p = true) (b : ∀ z, S z → S' z) : Path ts' S' x y := by
  induction h with
  | refl h => exact .refl (b _ h)
  | step _ t s ih => exact .step ih (a _ t) (b _ s)
theorem tieIn_sub (h : ∀ t ∈ ts, t ∈ ts') (p : Str × Str) (k : tieIn ts p = true) : tieIn ts' p = true := tieIn_iff.mpr ((tieIn_iff.mp k).imp (h _) (h _))
/-- along a walk -/
theorem walk_path : ∀ (w : List Str) (x : Str), (∀ y ∈ x :: w, S y) → ∀ y ∈ x :: w, Path (legs (x :: w)) S x y
  | [], x, h, y, hy => by
    rw [List.mem_singleton.mp hy]
    exact .refl (h x (.head _))
  | b :: w, x, h, y, hy => by
    rcases List.mem_cons.mp hy with e | e
    · rw [e]
      exact .refl (h x (.head _))
    · have ih := walk_path w b (fun y m => h y (.tail _ m)) y e
      have one : Path (legs (x :: b :: w)) S x b := .step (.refl (h x (.head _))) (tieIn_iff.mpr (.inl (.head _))) (h b (.tail _ (.head _)))
      exact one.trans (ih.mono (fun p => tieIn_sub (fun t m => .tail _ m) p) fun _ z => z)
/-- two places and a tie; an ear between two unlike places -/
inductive Ears : List Str → List (Str × Str) → Prop
  | base {a b : Str} : a ≠ b → Ears [a, b] [(a, b)]
  | ear {us : List Str} {ts : List (Str × Str)} {a b : Str} {inner : List Str} : Ears us ts → a ∈ us → b ∈ us → a ≠ b → inner.Nodup → (∀ x ∈ inner, x ∉ us) → (inner = [] → tieIn ts (a, b) = false) →
      Ears (us ++ inner) (ts ++ legs (a :: (inner ++ [b])))
theorem Ears.nodup {us : List Str} (h : Ears us ts) : us.Nodup := by
  induction h with
  | base ne => simp [ne]
  | ear _ _ _ _ nd fr _ ih => exact List.nodup_append.mpr ⟨ih, nd, fun a ha b hb e => fr b hb (e ▸ ha)⟩
theorem Ears.joined {us : List Str} (h : Ears us ts) : ∀ (p : Option Str) (x y : Str), x ∈ us → y ∈ us → some x ≠ p → some y ≠ p → Path ts (fun z => z ∈ us ∧ some z ≠ p) x y := by
  induction h with
  | @base a b ne =>
    intro p x y hx hy px py
    have q : ∀ {z}, z ∈ [a, b] → z = a ∨ z = b := fun h => by simpa using h
    rcases q hx with rfl | rfl
    · rcases q hy with rfl | rfl
      · exact .refl ⟨hx, px⟩
      · exact .step (.refl ⟨hx, px⟩) (tieIn_iff.mpr (.inl (.head _))) ⟨hy, py⟩
    · rcases q hy with rfl | rfl
      · exact .step (.refl ⟨hx, px⟩) (tieIn_iff.mpr (.inr (.head _))) ⟨hy, py⟩
      · exact .refl ⟨hx, px⟩
  | @ear us ts a b inner E ha hb ne nd fr nt ih =>
    intro p
    have to : ∀ x, x ∈ us ++ inner → some x ≠ p → ∃ c ∈ us, some c ≠ p ∧ Path (ts ++ legs (a :: (inner ++ [b]))) (fun z => z ∈ us ++ inner ∧ some z ≠ p) x c := by
      intro x hx px
      rcases List.mem_append.mp hx with hu | hi
      · exact ⟨x, hu, px, .refl ⟨hx, px⟩⟩
      · obtain ⟨u, v, e⟩ := List.append_of_mem hi
        have inU : ∀ z ∈ u, z ∈ inner := fun z hz => by rw [e]; exact List.mem_append_left _ hz
        have inV : ∀ z ∈ v, z ∈ inner := fun z hz => by rw [e]; exact List.mem_append_right _ (.tail _ hz)
        have apart : ∀ z ∈ u, z ∉ v := fun z hz hv => by
          rw [e] at nd
          exact (List.nodup_append.mp nd).2.2 z hz z (.tail _ hv) rfl
        by_cases hp : ∃ q ∈ a :: u, p = some q
        · obtain ⟨q, hq, rfl⟩ := hp
          have off : ∀ y ∈ x :: (v ++ [b]), (y ∈ us ++ inner ∧ some y ≠ some q) := by
            intro y hy
            rcases List.mem_cons.mp hy with rfl | hy
            · exact ⟨hx, px⟩
            rcases List.mem_append.mp hy with hv | hy
            · refine ⟨List.mem_append_right _ (inV y hv), fun z => ?_⟩
              obtain rfl := Option.some.inj z
              rcases List.mem_cons.mp hq with rfl | hq
              · exact fr y (inV y hv) ha
              · exact apart y hq hv
            · obtain rfl := List.mem_singleton.mp hy
              refine ⟨List.mem_append_left _ hb, fun z => ?_⟩
              obtain rfl := Option.some.inj z
              rcases List.mem_cons.mp hq with rfl | hq
              · exact ne rfl
              · exact fr y (inU y hq) hb
          have hbm : b ∈ x :: (v ++ [b]) := .tail _ (List.mem_append_right _ (.head _))
          refine ⟨b, hb, (off b hbm).2, (walk_path (v ++ [b]) x off b hbm).mono (fun r => tieIn_sub (fun t m => List.mem_append_right _ ?_) r) fun _ z => z⟩
          have e2 : a :: (inner ++ [b]) = (a :: u) ++ (x :: (v ++ [b])) := by rw [e]; simp
          rw [e2]
          exact legs_right _ _ t m
        · have off : ∀ y ∈ a :: (u ++ [x]), (y ∈ us ++ inner ∧ some y ≠ p) := by
            intro y hy
            rcases List.mem_cons.mp hy with rfl | hy
            · exact ⟨List.mem_append_left _ ha, fun z => hp ⟨y, .head _, z.symm⟩⟩
            rcases List.mem_append.mp hy with hu | hy
            · exact ⟨List.mem_append_right _ (inU y hu), fun z => hp ⟨y, .tail _ hu, z.symm⟩⟩
            · obtain rfl := List.mem_singleton.mp hy
              exact ⟨hx, px⟩
          have hxm : x ∈ a :: (u ++ [x]) := .tail _ (List.mem_append_right _ (.head _))
          refine ⟨a, ha, (off a (.head _)).2, ((walk_path (u ++ [x]) a off x hxm).mono (fun r => tieIn_sub (fun t m => List.mem_append_right _ ?_) r) fun _ z => z).symm⟩
          have e2 : a :: (inner ++ [b]) = (a :: (u ++ [x])) ++ (v ++ [b]) := by rw [e]; simp
          rw [e2]
          exact legs_left _ _ t m
    intro x y hx hy px py
    obtain ⟨c, hc, pc, p1⟩ := to x hx px
    obtain ⟨d, hd, pd, p2⟩ := to y hy py
    exact p1.trans (((ih p c d hc hd pc pd).mono (fun r => tieIn_sub (fun t m => List.mem_append_left _ m) r) fun z q => ⟨List.mem_append_left _ q.1, q.2⟩).trans p2.symm)
theorem Ears.ends {us : List Str} (h : Ears us ts) : ∀ t ∈ ts, t.1 ∈ us ∧ t.2 ∈ us := by
  induction h with
  | base ne =>
    intro t ht
    obtain rfl := List.mem_singleton.mp ht
    exact ⟨.head _, .tail _ (.head _)⟩
  | @ear us ts a b inner E ha hb ne nd fr nt ih =>
    intro t ht
    rcases List.mem_append.mp ht with h | h
    · exact ⟨List.mem_append_left _ (ih t h).1, List.mem_append_left _ (ih t h).2⟩
    · have m := legs_mem h
      have f : ∀ {z}, z ∈ a :: (inner ++ [b]) → z ∈ us ++ inner := fun {z} hz => by
        rcases List.mem_cons.mp hz with rfl | hz
        · exact List.mem_append_left _ ha
        rcases List.mem_append.mp hz with hz | hz
        · exact List.mem_append_right _ hz
        · rw [List.mem_singleton.mp hz]
          exact List.mem_append_left _ hb
      exact ⟨f m.1, f m.2⟩
/-- two ties between the same two -/
def Twin (s t : Str × Str) : Prop := s = t ∨ s = (t.2, t.1)
theorem Twin.symm {s t : Str × Str} (h : Twin s t) : Twin t s := by
  rcases h with rfl | rfl
  · exact .inl rfl
  · exact .inr rfl
/-- no two ties between the same two, none from a place to itself -/
def Once (ts : List (Str × Str)) : Prop := (∀ t ∈ ts, t.1 ≠ t.2) ∧ ts.Pairwise fun s t => ¬ Twin s t
theorem walk_once : ∀ (w : List Str), w.Nodup → Once (legs w)
  | [], _ => ⟨fun _ h => absurd h (List.not_mem_nil), .nil⟩
  | [a], _ => ⟨fun _ h => absurd h (List.not_mem_nil), .nil⟩
  | a :: b :: w, h => by
    obtain ⟨h1, h2⟩ := List.nodup_cons.mp h
    obtain ⟨o1, o2⟩ := walk_once (b :: w) h2
    rw [legs_cons2]
    refine ⟨fun t ht => ?_, List.pairwise_cons.mpr ⟨fun t ht tw => ?_, o2⟩⟩
    · rcases List.mem_cons.mp ht with rfl | ht
      · exact fun e => h1 (by rw [show a = b from e]; exact .head _)
      · exact o1 t ht
    · have m := legs_mem ht
      rcases tw with e | e
      · exact h1 (by rw [(Prod.mk.inj e).1]; exact m.1)
      · exact h1 (by rw [(Prod.mk.inj e).1]; exact m.2)
theorem Ears.once {us : List Str} (h : Ears us ts) : Once ts := by
  induction h with
  | base ne => exact ⟨fun t ht => by rw [List.mem_singleton.mp ht]; exact ne, List.pairwise_singleton _ _⟩
  | @ear us ts a b inner E ha hb ne nd fr nt ih =>
    have nw : (a :: (inner ++ [b])).Nodup := by
      refine List.nodup_cons.mpr ⟨fun h => ?_, List.nodup_append.mpr ⟨nd, (by simp), fun x hx y hy e => ?_⟩⟩
      · rcases List.mem_append.mp h with h | h
        · exact fr a h ha
        · exact ne (List.mem_singleton.mp h)
      · rw [List.mem_singleton.mp hy] at e
        exact fr x hx (e ▸ hb)
    obtain ⟨o1, o2⟩ := walk_once _ nw
    refine ⟨fun t ht => ?_, List.pairwise_append.mpr ⟨ih.2, o2, fun s hs t ht tw => ?_⟩⟩
    · rcases List.mem_append.mp ht with h | h
      · exact ih.1 t h
      · exact o1 t h
    · have es := E.ends s hs
      have et : t.1 ∈ us ∧ t.2 ∈ us := by
        rcases tw with rfl | rfl
        · exact es
        · exact ⟨es.2, es.1⟩
      have mt := legs_mem ht
      cases inner with
      | nil =>
        have e : t = (a, b) := List.mem_singleton.mp ht
        have := nt rfl
        rw [← Bool.not_eq_true] at this
        refine this (tieIn_iff.mpr ?_)
        rw [e] at tw
        rcases tw with q | q
        · exact .inl (q ▸ hs)
        · exact .inr (q ▸ hs)
      | cons i inner =>
        -- each leg has an inner place
        have key : ∀ (l : List Str) (c : Str), (∀ x ∈ l, x ∉ us) → l ≠ [] → ∀ t ∈ legs (c :: (l ++ [b])), t.1 ∉ us ∨ t.2 ∉ us := by
          intro l
          induction l with
          | nil => intro c _ h; exact absurd rfl h
          | cons i l ihl =>
            intro c hf _ t ht
            rw [List.cons_append, legs_cons2] at ht
            rcases List.mem_cons.mp ht with rfl | ht
            · exact .inr (hf i (.head _))
            · cases l with
              | nil =>
                have e : t = (i, b) := List.mem_singleton.mp ht
                rw [e]
                exact .inl (hf i (.head _))
              | cons j l => exact ihl i (fun x hx => hf x (.tail _ hx)) (by simp) t ht
        rcases key (i :: inner) a fr (by simp) t ht with q | q
        · exact q et.1
        · exact q et.2
theorem Ears.count {us : List Str} (h : Ears us ts) : us.length ≤ ts.length + 1 := by
  induction h with
  | base ne => exact Nat.le_refl _
  | ear _ _ _ _ _ _ _ ih =>
    rw [List.length_append, List.length_append, legs_len, List.length_cons, List.length_append, List.length_singleton]
    omega
end NetM
namespace L2
open PySem PySem.Spec PyProof.Rows
/-- at a: an exception of the class cls, with its own dict -/
def exq (a : Addr) (cls : Value) (d : Option Addr) : HO := .ext fun h => ∃ oe vs, h.get? a = some oe ∧ Zc cls d oe ∧ oe.data = .fields vs
theorem exq_ok {P : Program} {w : World} {H : Hp} {h : Heap} {a : Addr} {cls : Value} {d : Option Addr} {oe : Obj} {vs : Array Value}
    (e : h.get? a = some oe) (z : Zc cls d oe) (f : oe.data = .fields vs) : ObjOk P w H h a (exq a cls d) :=
  ⟨⟨oe, vs, e, z, f⟩, ⟨oe, e⟩, fun _ _ ⟨o, v, q, r⟩ k => ⟨o, v, k o q, r⟩⟩
section
variable {X : Cx} {pins : List (Addr × Obj)} {σ : St} {H : Hp} {s : Shared}
/-- what stands untracked, and was not there at the entry, may be tracked from now on -/
theorem Inv.track {a : Addr} {o : HO} (I : Inv X pins σ H s) (na : H a = none) (nL : a ≠ X.env.locals) (nC : ∀ x c, X.env.cells.lookup x = some c → c ≠ a)
    (n0 : ∀ ob, X.s_0.heap.get? a = some ob → X.H_0 a = none → False) (np : ∀ p ∈ X.pn ++ pins, p.1 ≠ a) (ok : ObjOk X.prog X.w (upd H a o) s.heap a o) :
    Inv X pins σ (upd H a o) s := by
  have ne : ∀ {b : Addr} {u : HO}, H b = some u → b ≠ a := fun {b u} e => ne_of_none e na
  obtain ⟨m, hm⟩ := I.loc
  refine { ok := I.ok, os := I.os, bare := I.bare, base := ?base, loc := ⟨m, hm⟩, cell := I.cell, free := ?free, freeC := ?freeC, pin := ?pin, hok := ?hok, len := I.len }
  case base =>
    refine { keep := I.base.keep, slot := I.base.slot, free := ?_, there := I.base.there, tups := ?_, frzs := ?_, tbls := ?_ }
    · intro b ob e n x
      have hb : b ≠ a := fun z => by
        subst z
        exact n0 ob e n
      rw [upd_ne hb]
      exact I.base.free b ob e n x
    · intro b xs e
      have q := I.base.tups b xs e
      rw [upd_ne (ne q)]
      exact q
    · intro b ob u e
      have q := I.base.frzs b ob u e
      rw [upd_ne (ne q)]
      exact q
    · intro b ps e
      obtain ⟨more, q⟩ := I.base.tbls b ps e
      exact ⟨more, by rw [upd_ne (ne q)]; exact q⟩
  case free =>
    rw [upd_ne (Ne.symm nL)]
    exact I.free
  case freeC =>
    intro x c e
    rw [upd_ne (nC x c e)]
    exact I.freeC x c e
  case pin =>
    intro p hp
    obtain ⟨p1, p2, p3⟩ := I.pin p hp
    exact ⟨p1, by rw [upd_ne (np p hp)]; exact p2, p3⟩
  case hok =>
    intro b u e
    by_cases hb : b = a
    · subst hb
      rw [upd_same] at e
      cases e
      exact ok
    · rw [upd_ne hb] at e
      exact (I.hok b u e).stay (fun _ _ _ q => q) (fun c q => by rw [upd_ne (ne q)]; exact q) fun c xs q => by rw [upd_ne (ne q)]; exact q
end
/-- what is wanted of an exception that the clause keeps: it is of the clause's class; behind the suite it stands tracked -/
def wVal (K : PySem.W.Frag) (c : Value) (i : Nat) (ts : Addr → Value → Option Addr → TS) (D : Ends) : WX := fun cls d σ H =>
  PySem.W.exmOne K cls c = some true ∧ ∀ a, H a = none →
    ts a cls d { nx := fun σ' H' => D.nx (σ'.set i none) (upd H' a (exq a cls d)), rt := fun _ _ => False } (σ.set i (some (.ref a))) H
section
variable {X : Cx} {x n : Str} {c : Value} {i : Nat} {body suite : List Stmt} {b₀ : Stmt} {np pos pos' : Pos} {tb : WX → TS} {ts : Addr → Value → Option Addr → TS}
theorem ps_try_val (hs : X.stack = X.env :: X.outer) (hf : X.env.frame = some X.env.locals) (hN : X.N.Nodup) (hi : X.N[i]? = some n)
    (hln : X.env.kindOf n = some .local) (hc : Names X x c) (hex : X.ex = [])
    (hb : ∀ (W : WX) (pn : List (Addr × Obj)) (xe : Value → Shared → Prop), Takes (X.tr pn xe) W → PassesOwn (model X.prog X.w) X.A X.env xe → PSs (X.tr pn xe) body (tb W))
    (hsu : ∀ (a : Addr) (oe : Obj) (cls : Value) (d : Option Addr) (pn : List (Addr × Obj)), Zc cls d oe → (∃ vs, oe.data = .fields vs) →
      PSs (X.suite a ((a, oe) :: pn)) (b₀ :: suite) (ts a cls d)) :
    PS X (.Try body [.ExceptHandler (some (.Name x np)) (some n) (b₀ :: suite) pos'] [] [] pos) (fun D σ H => tb (wVal X.K c i ts D) D σ H) := by
  refine ⟨fun pins s σ H D I h => wpAny_Try_except ?_⟩
  have ok := I.ok
  have fr : X.A.frames = some (X.env :: X.outer) := hs ▸ ok.frames
  -- the body, with the clause as what takes its exceptions
  have run := hb (wVal X.K c i ts D) (X.pn ++ pins) (fun e s₁ => wpAny (model X.prog X.w) X.A (noteFrame e X.env)
    (fun _ s₂ => wpAny (model X.prog X.w) X.A (setFlight e none)
      (fun _ s₃ => wpAny (model X.prog X.w) X.A (handleBy e X.env [.ExceptHandler (some (.Name x np)) (some n) (b₀ :: suite) pos']) (SP X pins D) X.xe s₃) X.xe s₂) X.xe s₁)
    ?takes PassesOwn.looking
  case takes =>
    rintro u s' ⟨a, B, sI, pins', σ', H', cls, d, rfl, J', nb, up, sky, na, os, ag, hb1, hyes⟩
    have J : Inv X pins σ' H' sI := J'.ofTry ok
    have sky' : Sky B (X.env :: X.outer) a (Zc cls d) X.env.locals s'.heap := hs ▸ sky
    refine Sky.land Zc.steady fr hf sky' ?_
    intro h3 fl3 up3
    have J3 : Inv X pins σ' H' { s' with heap := h3 } := J.landed nb fl3.1 (up.trans up3) os ag
    have bn : B.get? a = none := fl3.2.1
    obtain ⟨oe3, vs3, he3, hz3, hd3⟩ := fl3.there
    -- a is no frame
    have out : a ∉ frs (X.env :: X.outer) := by
      intro hm
      obtain ⟨_, o', e', hnf⟩ := fl3.2.2.1.mem hm
      rw [he3] at e'
      cases e'
      exact hnf _ hd3
    have nL : a ≠ X.env.locals := by
      rintro rfl
      exact out (List.mem_filterMap.mpr ⟨X.env, List.mem_cons_self, hf⟩)
    have nF : a ∉ X.fs := by
      intro hm
      obtain ⟨e, he, q⟩ := List.mem_filterMap.mp hm
      exact out (List.mem_filterMap.mpr ⟨e, List.mem_cons_of_mem _ he, q⟩)
    -- what stood when the exception flew is not the exception
    have old : ∀ {b : Addr} {ob : Obj}, sI.heap.get? b = some ob → b ∉ frs X.stack → b ≠ a := by
      rintro b ob e nf rfl
      rw [nb _ ob e nf] at bn
      cases bn
    have inStack : ∀ {b : Addr}, b ∈ frs X.stack → b ≠ a := fun {b} hm z => out (by rw [← z, ← hs]; exact hm)
    have ne : ∀ {b : Addr} {ob : Obj}, sI.heap.get? b = some ob → b ≠ a := fun {b ob} e z => by
      by_cases hm : b ∈ frs X.stack
      · exact inStack hm z
      · exact old e hm z
    have n0 : ∀ ob, X.s_0.heap.get? a = some ob → X.H_0 a = none → False := by
      intro ob e n
      obtain ⟨sl, q⟩ := J.base.any e n (by rw [hex]; simp)
      exact ne q rfl
    have nC : ∀ y c', X.env.cells.lookup y = some c' → c' ≠ a := by
      intro y c' e
      obtain ⟨_, o', q, _⟩ := J.cell y c' e
      exact ne q
    have nP : ∀ p ∈ X.pn ++ pins, p.1 ≠ a := fun p hp => ne (J.pin p hp).1
    have S3 := J3.suite he3 hd3 na nL nF
    refine wpAny_handleBy_cons (codeAny_handlers_test ?_) (by intro q; cases q)
    have LT : PySem.W.Looks (model X.prog X.w) h3 (typeOf (.ref a)) cls := fun A Q E s k q =>
      wpAny_typeOf_ref (k _ _ he3) (by rw [hz3.1]; exact q)
    have LM := PySem.W.exm_one (M := model X.prog X.w) J3.kIn LT hb1
    have name : ∀ {Q : Value → Shared → Prop} {E : Value → Shared → Prop}, Q c { s' with heap := h3 } →
        wpAny (model X.prog X.w) (X.A.mark (some (.ref a))) (eval (.Name x np) X.env) Q E { s' with heap := h3 } := by
      intro Q E q
      rcases hc with ⟨hg, dbg, hm | ⟨hm, hv, nn⟩⟩
      · exact ld_glob (X := X.suite a ((a, oe3) :: (X.pn ++ pins))) S3 hg hm q dbg
      · exact ld_blt (X := X.suite a ((a, oe3) :: (X.pn ++ pins))) S3 hg hm hv q nn dbg
    refine name (LM.here (codeAny_handlers_suite_as ?_))
    refine HandSPX.lands_againZ fl3 ?_
    intro h4 fl4 up4
    have J4 : Inv X pins σ' H' { s' with heap := h4 } := J.landed nb fl4.1 ((up.trans up3).trans up4) os ag
    obtain ⟨oe4, vs4, he4, hz4, hd4⟩ := fl4.there
    refine store_ok (X := X.suite a ((a, oe4) :: (X.pn ++ pins))) (v := .ref a) (J4.suite he4 hd4 na nL nF) hN hi (.inl hln) rfl (fun s5 S5 => ?_) (.inr hln)
    refine wpAny_mono ((hsu a oe4 cls d (X.pn ++ pins) hz4 ⟨_, hd4⟩).run [] s5 _ H' _ S5 (hyes a na)) (fun f s6 hsp => ?_) (fun _ _ z => z.elim)
    cases f with
    | next =>
      obtain ⟨σ6, H6, S6, q6⟩ := hsp
      obtain ⟨e6, na6, _⟩ := S6.pin (a, oe4) (List.mem_append_left _ List.mem_cons_self)
      have J6 : Inv X pins σ6 (upd H6 a (exq a cls d)) s6 := (S6.unsuite ok).track na6 nL nC n0 nP (exq_ok e6 hz4 hd4)
      exact gone_ok J6 hN hi hln fun s7 J7 => ⟨_, _, J7, q6⟩
    | ret u =>
      obtain ⟨_, _, _, _, _, q6⟩ := hsp
      exact q6.elim
    | brk => exact hsp.elim fun _ z => z.elim fun _ z => z.2.elim
    | cont => exact hsp.elim fun _ z => z.elim fun _ z => z.2.elim
  -- the body's own ends
  refine wpAny_mono (run.run [] s σ H D (I.toTry _) h) (fun f s1 hsp => ?_) (fun e s1 he => he)
  cases f with
  | next => exact hsp.elim fun σ' z => z.elim fun H' z => wpAny_execs_nil ⟨σ', H', z.1.ofTry ok, z.2⟩
  | brk => exact hsp.elim fun σ' z => z.elim fun H' z => ⟨σ', H', z.1.ofTry ok, z.2⟩
  | cont => exact hsp.elim fun σ' z => z.elim fun H' z => ⟨σ', H', z.1.ofTry ok, z.2⟩
  | ret u =>
    obtain ⟨v, σ', H', J', r, q⟩ := hsp
    exact ⟨v, σ', H', J'.ofTry ok, r, q⟩
end
end L2
namespace AdZ
open PySem PySem.Calls PyProof.Rows PyProof.V PySem.Spec
open PySem.W (kdx_alive)
/-- the zip z over the lists at l1 and l2, i items drawn, while at S a list is filled -/
structure ZS (z TI TO i1 i2 l1 l2 S : Addr) (xs ys : Array Value) (i : Nat) (h : Heap) : Prop where
  ti : IsPair h TI (.ref i1) (.ref i2)
  a1 : h.IsListIter i1 l1 i
  a2 : h.IsListIter i2 l2 i
  x1 : h.IsList l1 xs
  x2 : h.IsList l2 ys
  out : (IsZip h z TI TO .none ∧ ∃ a b, IsPair h TO a b) ∨ ∃ T f oT, IsZipHeld h z TI TO T f ∧ h.get? T = some oT ∧ T ≠ z ∧ T ≠ i1 ∧ T ≠ i2 ∧ T ≠ S
theorem ZS.frame {z TI TO i1 i2 l1 l2 S : Addr} {xs ys : Array Value} {i : Nat} {h h' : Heap} (st : ZS z TI TO i1 i2 l1 l2 S xs ys i h) (dS : S ∉ [z, TI, TO, i1, i2, l1, l2])
    (k : ∀ b o, b ≠ S → h.get? b = some o → h'.get? b = some o) : ZS z TI TO i1 i2 l1 l2 S xs ys i h' := by
  simp only [List.mem_cons, List.not_mem_nil, or_false, not_or] at dS
  obtain ⟨d1, d2, d3, d4, d5, d6, d7⟩ := dS
  obtain ⟨ti, a1, a2, x1, x2, out⟩ := st
  refine ⟨k _ _ (Ne.symm d2) ti, a1.at fun o e => k _ o (Ne.symm d4) e, a2.at fun o e => k _ o (Ne.symm d5) e, x1.at fun o e => k _ o (Ne.symm d6) e, x2.at fun o e => k _ o (Ne.symm d7) e, ?_⟩
  rcases out with ⟨hz, a, b, ht⟩ | ⟨T, f, oT, hz, hT, r⟩
  · exact .inl ⟨k _ _ (Ne.symm d1) hz, a, b, k _ _ (Ne.symm d3) ht⟩
  · exact .inr ⟨T, f, oT, k _ _ (Ne.symm d1) hz, k _ _ r.2.2.2 hT, r⟩
section
variable {prog : Program} {w : World} {A : Around} {E : Value → Shared → Prop} {s : Shared} {z TI TO i1 i2 l1 l2 S : Addr} {xs ys : Array Value}
theorem zs_item {i : Nat} {x y : Value} {Q : Option Value → Shared → Prop} (D : ZipApart z TI TO i1 i2 l1 l2) (st : ZS z TI TO i1 i2 l1 l2 S xs ys i s.heap) (hS : S < s.heap.objs.size)
    (ex : xs[i]? = some x) (ey : ys[i]? = some y)
    (hQ : ∀ h', ZS z TI TO i1 i2 l1 l2 S xs ys (i + 1) h' → IsPair h' s.heap.objs.size x y → h'.objs.size = s.heap.objs.size + 1 →
      (∀ b o, b ∉ [z, TO, i1, i2] → s.heap.get? b = some o → h'.get? b = some o) → Q (some (.ref s.heap.objs.size)) { s with heap := h' }) : wpAny (model prog w) A (pyNext (.ref z)) Q E s := by
  obtain ⟨ti, a1, a2, x1, x2, out⟩ := st
  have lt : ∀ {c : Addr} {o : Obj}, s.heap.get? c = some o → s.heap.objs.size ≠ c := fun e => Nat.ne_of_gt (Heap.lt_size e)
  have n1 : s.heap.objs.size ≠ i1 := by
    obtain ⟨_, e, _⟩ := a1
    exact lt e
  have n2 : s.heap.objs.size ≠ i2 := by
    obtain ⟨_, e, _⟩ := a2
    exact lt e
  rcases out with ⟨hz, a, b, ht⟩ | ⟨T, f, oT, hz, hT, r1, r2, r3, r4⟩
  · refine wpAny_pyNext_zip_item D hz ti ht a1 a2 x1 x2 ex ey fun h' b1 b2 b3 b4 b5 b6 hk => hQ h' ⟨?_, b3, b4, ?_, ?_, .inr ⟨_, false, _, b1, b5, lt hz, n1, n2, Nat.ne_of_gt hS⟩⟩ b5 b6 fun c o hc e => ?_
    · exact hk _ _ D.TIz D.TITO D.TIi1 D.TIi2 ti
    · exact x1.at fun o e => hk _ o D.l1z D.l1TO D.l1i1 D.l1i2 e
    · exact x2.at fun o e => hk _ o D.l2z D.l2TO D.l2i1 D.l2i2 e
    · simp only [List.mem_cons, List.not_mem_nil, or_false, not_or] at hc
      exact hk c o hc.1 hc.2.1 hc.2.2.1 hc.2.2.2 e
  · refine wpAny_pyNext_zip_item_held D hz hT ti a1 a2 x1 x2 ex ey fun h' b1 b3 b4 b5 b6 hk => hQ h' ⟨?_, b3, b4, ?_, ?_, .inr ⟨T, true, oT, b1, hk _ _ r1 r2 r3 hT, r1, r2, r3, r4⟩⟩ b5 b6 fun c o hc e => ?_
    · exact hk _ _ D.TIz D.TIi1 D.TIi2 ti
    · exact x1.at fun o e => hk _ o D.l1z D.l1i1 D.l1i2 e
    · exact x2.at fun o e => hk _ o D.l2z D.l2i1 D.l2i2 e
    · simp only [List.mem_cons, List.not_mem_nil, or_false, not_or] at hc
      exact hk c o hc.1 hc.2.2.1 hc.2.2.2 e
theorem zs_done {i : Nat} {Q : Option Value → Shared → Prop} (hh : A.handled = none) (D : ZipApart z TI TO i1 i2 l1 l2) (st : ZS z TI TO i1 i2 l1 l2 S xs ys i s.heap) (hend : xs[i]? = none ∨ ys[i]? = none)
    (hQ : ∀ h', (∀ b o, b ∉ [z, TO, i1, i2] → s.heap.get? b = some o → h'.get? b = some o) → Q none { s with heap := h' }) : wpAny (model prog w) A (pyNext (.ref z)) Q E s := by
  obtain ⟨ti, a1, a2, x1, x2, out⟩ := st
  rcases out with ⟨hz, a, b, ht⟩ | ⟨T, f, oT, hz, hT, r1, r2, r3, r4⟩
  · refine wpAny_pyNext_zip_end hh D hz ti ht a1 a2 x1 x2 hend fun h' hk => hQ h' fun c o hc e => ?_
    simp only [List.mem_cons, List.not_mem_nil, or_false, not_or] at hc
    exact hk c o hc.1 hc.2.1 hc.2.2.1 hc.2.2.2 e
  · refine wpAny_pyNext_zip_end_held hh D hz hT ti a1 a2 x1 x2 hend fun h' hk => hQ h' fun c o hc e => ?_
    simp only [List.mem_cons, List.not_mem_nil, or_false, not_or] at hc
    exact hk c o hc.1 hc.2.2.1 hc.2.2.2 e
end
/-- the addresses as hold the pairs, in order, at lo and above, ascending -/
structure PG (xs ys : Array Value) (lo : Addr) (h : Heap) (as : List Addr) : Prop where
  rise : as.Pairwise (· < ·)
  above : ∀ a ∈ as, lo ≤ a
  pairs : ∀ (j : Nat) (a : Addr), as[j]? = some a → ∃ x y, xs[j]? = some x ∧ ys[j]? = some y ∧ IsPair h a x y
section
variable {prog : Program} {w : World} {A : Around} {s : Shared} {R : Result → Shared → Prop} {z TI TO i1 i2 l1 l2 S : Addr} {xs ys : Array Value}
theorem zl_loop (hh : A.handled = none) (D : ZipApart z TI TO i1 i2 l1 l2) (dS : S ∉ [z, TI, TO, i1, i2, l1, l2]) {lo : Addr} (hlo : ∀ b ∈ [z, TO, i1, i2, S], b < lo) (hn : xs.size ≤ sizeLine) (res : Value) {h₁ : Heap}
    (hR : ∀ h' tk acc c as, (∀ b o, b ∉ [z, TO, i1, i2, S] → h₁.get? b = some o → h'.get? b = some o) → h'.get? S = some { cls := .type "list", dict := none, data := .seq acc c, slots := #[] } → as.length = min xs.size ys.size → PG xs ys lo h' as →
      acc.toList = as.map Value.ref → R (.ok (.ret res)) { s with heap := h', toks := tk }) :
    ∀ (k i : Nat) (h : Heap) (tk c : Nat) (acc : Array Value) (as : List Addr), min xs.size ys.size - i = k → i ≤ min xs.size ys.size → ZS z TI TO i1 i2 l1 l2 S xs ys i h → (∀ b o, b ∉ [z, TO, i1, i2, S] → h₁.get? b = some o → h.get? b = some o) →
      h.get? S = some { cls := .type "list", dict := none, data := .seq acc c, slots := #[] } → acc.toList = as.map Value.ref → as.length = i → PG xs ys lo h as → lo ≤ h.objs.size →
      codeAny (model prog w) A (.builtin "list.extend.loop" ⟨[.ref S, .ref z, res], []⟩) R { s with heap := h, toks := tk } := by
  have in5 : ∀ {b : Addr}, b ∈ [z, TO, i1, i2] → b ∈ [z, TO, i1, i2, S] := fun m => List.mem_append_left [S] m
  have dS4 : S ∉ [z, TO, i1, i2] := fun m => by
    simp only [List.mem_cons, List.not_mem_nil, or_false, not_or] at m dS
    rcases m with e | e | e | e
    · exact dS.1 e
    · exact dS.2.2.1 e
    · exact dS.2.2.2.1 e
    · exact dS.2.2.2.2.1 e
  intro k
  induction k with
  | zero =>
    intro i h tk c acc as hk hi st hkeep hS hacc hal hG hz
    refine codeAny_builtin PySem.F.entry_extend_loop ?_
    rw [Around.under_plainId PySem.F.plain_extend_loop _]
    show wpAny _ A.in1 (pyNext (.ref z) >>= _) _ _ _
    have hend : xs[i]? = none ∨ ys[i]? = none := by
      by_cases q : xs.size ≤ i
      · exact .inl (Array.getElem?_eq_none q)
      · exact .inr (Array.getElem?_eq_none (by omega))
    refine wpAny_bind (zs_done (s := { s with heap := h, toks := tk }) (A := A.in1) hh D st hend fun h' he => ?_)
    refine wpAny_pure (hR h' tk acc c as (fun b o hb e => he b o (fun m => hb (in5 m)) (hkeep b o hb e)) (he S _ dS4 hS) (by omega) ⟨hG.rise, hG.above, fun j a hj => ?_⟩ hacc)
    obtain ⟨x, y, e1, e2, e3⟩ := hG.pairs j a hj
    exact ⟨x, y, e1, e2, he a _ (fun m => Nat.not_lt.mpr (hG.above a (List.mem_of_getElem? hj)) (hlo a (in5 m))) e3⟩
  | succ k ih =>
    intro i h tk c acc as hk hi st hkeep hS hacc hal hG hz
    have hsz : acc.size = i := by rw [← Array.length_toList, hacc, List.length_map, hal]
    have hSl : S < h.objs.size := Heap.lt_size hS
    refine codeAny_builtin PySem.F.entry_extend_loop ?_
    rw [Around.under_plainId PySem.F.plain_extend_loop _]
    show wpAny _ A.in1 (pyNext (.ref z) >>= _) _ _ _
    have ex : xs[i]? = some xs[i] := Array.getElem?_eq_getElem (by omega)
    have ey : ys[i]? = some ys[i] := Array.getElem?_eq_getElem (by omega)
    refine wpAny_bind (zs_item (s := { s with heap := h, toks := tk }) (A := A.in1) D st hSl ex ey fun h' st' hp hz' hkp => ?_)
    dsimp only at hp hz' hkp ⊢
    have hS' := hkp S _ dS4 hS
    have up : ∀ b o, b ≠ S → h'.get? b = some o → (h'.update S (Obj.mapSeq (·.push (Value.ref h.objs.size)))).get? b = some o := fun b o hb e => (Heap.get?_update_other _ _ (Ne.symm hb)).trans e
    have upsz : (h'.update S (Obj.mapSeq (·.push (Value.ref h.objs.size)))).objs.size = h'.objs.size := Heap.size_update _ _ _
    have old : ∀ a ∈ as, a < h.objs.size := fun a ha => by
      obtain ⟨j, hj⟩ := List.mem_iff_getElem?.mp ha
      obtain ⟨_, _, _, _, e⟩ := hG.pairs j a hj
      exact Heap.lt_size e
    show wpAny _ A.in1 (updateSeq S (·.push (Value.ref h.objs.size)) >>= _) _ _ _
    refine wpAny_bind (wpAny_updateSeq hS' rfl (wpAny_pure ⟨plainId_quiet PySem.F.plain_extend_loop _, ?_⟩) (by rw [hsz]; omega) (by show (acc.push (Value.ref h.objs.size)).size ≤ sizeLine + 1; rw [Array.size_push, hsz]; omega))
    refine ih (i + 1) _ tk _ (acc.push (Value.ref h.objs.size)) (as ++ [h.objs.size]) (by omega) (by omega) (st'.frame dS up) (fun b o hb e => ?_) (Heap.get?_update_self _ hS' rfl) (by rw [Array.toList_push, hacc, List.map_append]; rfl) (by rw [List.length_append, hal]; rfl) ⟨?_, ?_, ?_⟩ ?_
    · exact up b o (fun m => hb (by simp [m])) (hkp b o (fun m => hb (in5 m)) (hkeep b o hb e))
    · refine List.pairwise_append.mpr ⟨hG.rise, List.pairwise_singleton _ _, fun a ha b hb => ?_⟩
      rw [List.mem_singleton.mp hb]
      exact old a ha
    · intro a ha
      rcases List.mem_append.mp ha with ha | ha
      · exact hG.above a ha
      · rw [List.mem_singleton.mp ha]
        exact hz
    · intro j b hj
      by_cases hj1 : j < as.length
      · rw [List.getElem?_append_left hj1] at hj
        obtain ⟨x, y, e1, e2, e3⟩ := hG.pairs j b hj
        have hb := hG.above b (List.mem_of_getElem? hj)
        exact ⟨x, y, e1, e2, up b _ (fun m => Nat.not_lt.mpr hb (hlo b (by simp [m]))) (hkp b _ (fun m => Nat.not_lt.mpr hb (hlo b (in5 m))) e3)⟩
      · have hl := (List.getElem?_eq_some_iff.mp hj).1
        rw [List.length_append, List.length_singleton] at hl
        have ej : j = as.length := by omega
        subst ej
        have hb : h.objs.size = b := by simpa using hj
        subst hb
        rw [hal]
        exact ⟨_, _, ex, ey, up _ _ (Nat.ne_of_gt hSl) hp⟩
    · rw [upsz, hz']
      exact Nat.le_succ_of_le hz
end
theorem zip_no_len : typeLookup (.type "zip") "__len__" = pure none := am_miss_of_fast (by decide +kernel)
theorem zip_no_hint : typeLookup (.type "zip") "__length_hint__" = pure none := am_miss_of_fast (by decide +kernel)
section
variable {prog : Program} {w : World} {A : Around} {E : Value → Shared → Prop} {s : Shared} {z TI TO i1 i2 l1 l2 S : Addr} {xs ys : Array Value}
theorem zip_hint {Q : Bool → Shared → Prop} (hT : s.TypeIs (.ref z) "zip") (h : Q true s) : wpAny (model prog w) A (Builtin.List.listLengthHint (.ref z)) Q E s := by
  unfold Builtin.List.listLengthHint
  refine wpAny_bind (wpAny_specialOf hT zip_no_len ?_)
  simp only [Option.isSome_none, Bool.false_eq_true, if_false]
  refine wpAny_bind (wpAny_specialOf hT zip_no_hint ?_)
  exact wpAny_pure h
/-- list.__init__ of an empty list at S, by the zip at z -/
theorem zl_init {R : Result → Shared → Prop} (hh : A.handled = none) (D : ZipApart z TI TO i1 i2 l1 l2) (dS : S ∉ [z, TI, TO, i1, i2, l1, l2]) {lo : Addr} (hlo : ∀ b ∈ [z, TO, i1, i2, S], b < lo) (hn : xs.size ≤ sizeLine)
    (st : ZS z TI TO i1 i2 l1 l2 S xs ys 0 s.heap) (hz : IsZip s.heap z TI TO .none) (hS : s.heap.get? S = some { cls := .type "list", data := .seq #[] }) (hsz : lo ≤ s.heap.objs.size)
    (hR : ∀ h' tk acc c as, (∀ b o, b ∉ [z, TO, i1, i2, S] → s.heap.get? b = some o → h'.get? b = some o) → h'.get? S = some { cls := .type "list", dict := none, data := .seq acc c, slots := #[] } → as.length = min xs.size ys.size → PG xs ys lo h' as →
      acc.toList = as.map Value.ref → R (.ok (.ret .none)) { s with heap := h', toks := tk }) :
    wpAny (model prog w) A.in1 (Builtin.«list.__init__» ⟨[.ref S, .ref z], []⟩)
      (fun fin s' => match fin with | .done f => R (.ok f) s' | .again c' => c'.quiet = true ∧ codeAny (model prog w) A c' R s') (fun e s' => R (.error e) s') s := by
  have zS : z ≠ S := fun e => dS (by rw [e]; exact .head _)
  have nS : S ∈ [z, TO, i1, i2, S] := by simp
  have hzt : ∀ {h : Heap}, (∀ o, s.heap.get? z = some o → h.get? z = some o) → IsZip h z TI TO .none := fun k => k _ hz
  show wpAny _ _ (do let old ← Builtin.List.listItems (.ref S); Builtin.List.listUpdate (.ref S) (fun _ => #[]); letGo old.toList.reverse; Builtin.List.listExtendWith (.ref S) (.ref z) .none) _ _ s
  refine wpAny_bind ?_
  unfold Builtin.List.listItems
  refine wpAny_bind (wpAny_seqItems hS rfl (wpAny_pure ?_))
  show wpAny _ _ (updateSeq S (fun _ => #[]) >>= fun _ => letGo (#[] : Array Value).toList.reverse >>= fun _ => Builtin.List.listExtendWith (.ref S) (.ref z) .none) _ _ s
  refine wpAny_bind (wpAny_updateSeq hS rfl ?_)
  have hS2 := Heap.get?_update_self (Obj.mapSeq (fun _ => (#[] : Array Value))) hS rfl
  have u2 : ∀ b o, b ≠ S → s.heap.get? b = some o → (s.heap.update S (Obj.mapSeq (fun _ => (#[] : Array Value)))).get? b = some o :=
    fun b o hb e => (Heap.get?_update_other _ _ (Ne.symm hb)).trans e
  have st2 := st.frame dS u2
  have z2 := Heap.size_update s.heap S (Obj.mapSeq (fun _ => (#[] : Array Value)))
  have hz2 := hzt fun o e => u2 z o zS e
  generalize s.heap.update S (Obj.mapSeq (fun _ => (#[] : Array Value))) = h2 at hS2 u2 st2 z2 hz2 ⊢
  refine wpAny_bind (wpAny_letGo ?_)
  unfold Builtin.List.listExtendWith
  have hT : ({ s with heap := h2 } : Shared).TypeIs (.ref z) "zip" := ⟨_, hz2, rfl⟩
  refine wpAny_bind (wpAny_typeOf (T := "zip") hT ?_)
  have q1 : Builtin.List.listSameRef (.ref S) (.ref z) = false := by simp [Builtin.List.listSameRef, Ne.symm zS]
  have q2 : (Value.type "zip" == Value.type "list") = false := by decide
  have q3 : (Value.type "zip" == Value.type "tuple") = false := by decide
  simp only [q1, q2, q3, Bool.or_false, Bool.false_eq_true, if_false]
  refine wpAny_bind (wpAny_pyIter_zip hz2 ?_)
  refine wpAny_bind (wpAny_holding (zip_hint hT ?_))
  refine wpAny_ite_split (fun _ => ?_) (fun hab => absurd rfl hab)
  refine wpAny_bind (wpAny_rule ?_)
  refine wpAny_bind ?_
  show wpAny _ _ (updateSeq S (·.push .none) >>= fun _ => updateSeq S (·.pop)) _ _ _
  refine wpAny_bind (wpAny_updateSeq hS2 rfl ?_)
  have hS3 := Heap.get?_update_self (Obj.mapSeq (·.push Value.none)) hS2 rfl
  refine wpAny_updateSeq (hz := by seq_fits) hS3 rfl ?_
  have hS4 := Heap.get?_update_self (Obj.mapSeq (·.pop)) hS3 rfl
  have u4 : ∀ b o, b ≠ S → h2.get? b = some o → ((h2.update S (Obj.mapSeq (·.push Value.none))).update S (Obj.mapSeq (·.pop))).get? b = some o :=
    fun b o hb e => (Heap.get?_update_other _ _ (Ne.symm hb)).trans ((Heap.get?_update_other _ _ (Ne.symm hb)).trans e)
  refine wpAny_pure ⟨plainId_quiet PySem.F.plain_extend_loop _, ?_⟩
  refine zl_loop hh D dS hlo hn .none (h₁ := s.heap) hR _ 0 _ _ _ #[] [] rfl (Nat.zero_le _) (st2.frame dS u4) (fun b o hb e => ?_) hS4 rfl rfl ⟨.nil, (fun _ m => nomatch m), fun j a e => by simp at e⟩ ?_
  · have nb : b ≠ S := fun e => hb (by rw [e]; exact nS)
    exact u4 b o nb (u2 b o nb e)
  · show lo ≤ ((h2.update S (Obj.mapSeq (·.push Value.none))).update S (Obj.mapSeq (·.pop))).objs.size
    rw [Heap.size_update, Heap.size_update, z2]
    exact hsz
theorem zl_call {Q : Value → Shared → Prop} (hh : A.handled = none) (D : ZipApart z TI TO i1 i2 l1 l2) (hn : xs.size ≤ sizeLine) (hz : IsZip s.heap z TI TO .none) (hTI : IsPair s.heap TI (.ref i1) (.ref i2)) (hTO : ∃ a b, IsPair s.heap TO a b)
    (h1 : s.heap.IsListIter i1 l1 0) (h2 : s.heap.IsListIter i2 l2 0) (hl1 : s.heap.IsList l1 xs) (hl2 : s.heap.IsList l2 ys)
    (hQ : ∀ h' tk acc c as, (∀ b o, b ∉ [z, TO, i1, i2] → s.heap.get? b = some o → h'.get? b = some o) → h'.get? s.heap.objs.size = some { cls := .type "list", dict := none, data := .seq acc c, slots := #[] } → as.length = min xs.size ys.size →
      PG xs ys (s.heap.objs.size + 1) h' as → acc.toList = as.map Value.ref → Q (.ref s.heap.objs.size) { s with heap := h', toks := tk }) :
    wpAny (model prog w) A (call (.type "list") [.ref z]) Q E s := by
  refine callType_codes (Q₁ := fun obj s₁ => obj = .ref s.heap.objs.size ∧ s₁ = { s with heap := s.heap.push { cls := .type "list", data := .seq #[] } }) PySem.F.called_list (PySem.F.typeCall_list_1 _) PySem.F.entry_list_init
    (code_list_new _ ⟨rfl, rfl⟩) fun obj s₁ h₁ => ?_
  obtain ⟨rfl, rfl⟩ := h₁
  have hS : (s.heap.push { cls := .type "list", data := .seq #[] }).get? s.heap.objs.size = some { cls := .type "list", data := .seq #[] } := Heap.get?_push_size _ rfl
  have up : ∀ b o, s.heap.get? b = some o → (s.heap.push { cls := .type "list", data := .seq #[] }).get? b = some o := fun b o e => Heap.get?_push_of_some _ e
  have lt : ∀ {c : Addr} {o : Obj}, s.heap.get? c = some o → c < s.heap.objs.size := fun e => Heap.lt_size e
  have lz := lt hz
  have lTI := lt hTI
  have lTO : TO < s.heap.objs.size := let ⟨_, _, e⟩ := hTO; lt e
  have li1 : i1 < s.heap.objs.size := let ⟨_, e, _⟩ := h1; lt e
  have li2 : i2 < s.heap.objs.size := let ⟨_, e, _⟩ := h2; lt e
  have ll1 : l1 < s.heap.objs.size := let ⟨_, e, _⟩ := hl1; lt e
  have ll2 : l2 < s.heap.objs.size := let ⟨_, e, _⟩ := hl2; lt e
  have dS : s.heap.objs.size ∉ [z, TI, TO, i1, i2, l1, l2] := fun m => by
    simp only [List.mem_cons, List.not_mem_nil, or_false] at m
    rcases m with e | e | e | e | e | e | e
    all_goals exact absurd e (Nat.ne_of_gt (by assumption))
  refine ⟨⟨_, hS, rfl⟩, PySem.F.args_list_init_2 _ _, zl_init (A := A.in1) (lo := s.heap.objs.size + 1) hh D dS (fun b m => ?_) hn ⟨up _ _ hTI, h1.at fun o e => up _ o e, h2.at fun o e => up _ o e, hl1.at fun o e => up _ o e, hl2.at fun o e => up _ o e,
    .inl ⟨up _ _ hz, let ⟨a, b, e⟩ := hTO; ⟨a, b, up _ _ e⟩⟩⟩ (up _ _ hz) hS (by show _ ≤ (s.heap.push _).objs.size; rw [Heap.size_push]; exact Nat.le_refl _) fun h' tk acc c as hk hS' hl hG hacc => ?_⟩
  · simp only [List.mem_cons, List.not_mem_nil, or_false] at m
    rcases m with e | e | e | e | e
    all_goals rw [e]
    all_goals first | exact Nat.lt_succ_self _ | exact Nat.lt_succ_of_lt (by assumption)
  · refine ⟨rfl, hQ h' tk acc c as (fun b o hb e => hk b o (fun m => ?_) (up b o e)) hS' hl hG hacc⟩
    rcases List.mem_append.mp (show b ∈ [z, TO, i1, i2] ++ [s.heap.objs.size] from m) with m | m
    · exact hb m
    · exact absurd (List.mem_singleton.mp m) (Nat.ne_of_lt (lt e))
end
end AdZ
namespace L2
open PySem PySem.Spec PyProof.Rows
/-- new pairs laid one by one -/
def layPairs : Hp → List Addr → List (V × V) → Hp
  | H, a :: as, p :: ps => layPairs (upd H a (.tup [p.1, p.2])) as ps
  | H, _, _ => H
theorem lay_same : ∀ {as : List Addr} {ps : List (V × V)} {H : Hp}, (∀ a ∈ as, H a = none) → as.Nodup → Same H (layPairs H as ps)
  | [], _, H, _, _ => fun b o e => by
    unfold layPairs
    exact e
  | a :: as, [], H, _, _ => fun b o e => by
    unfold layPairs
    exact e
  | a :: as, p :: ps, H, h, nd => by
    have nd' := List.nodup_cons.mp nd
    unfold layPairs
    refine Same.trans (same_new (h a (.head _))) (lay_same (fun b hb => ?_) nd'.2)
    rw [upd_ne (fun e => nd'.1 (by rw [← e]; exact hb))]
    exact h b (.tail _ hb)
theorem lay_at : ∀ {as : List Addr} {ps : List (V × V)} {H : Hp} {j : Nat} {c : Addr} {p : V × V}, (∀ a ∈ as, H a = none) → as.Nodup → as[j]? = some c → ps[j]? = some p → layPairs H as ps c = some (.tup [p.1, p.2])
  | [], _, H, j, c, p, _, _, hj, _ => by simp at hj
  | a :: as, [], H, j, c, p, _, _, _, hp => by simp at hp
  | a :: as, q :: ps, H, j, c, p, h, nd, hj, hp => by
    have nd' := List.nodup_cons.mp nd
    have h' : ∀ b ∈ as, upd H a (.tup [q.1, q.2]) b = none := fun b hb => by
      rw [upd_ne (fun e => nd'.1 (by rw [← e]; exact hb))]
      exact h b (.tail _ hb)
    unfold layPairs
    cases j with
    | zero =>
      cases hj
      cases hp
      exact lay_same h' nd'.2 _ _ upd_same
    | succ j => exact lay_at h' nd'.2 (by simpa using hj) (by simpa using hp)
section
variable {X : Cx} {pins : List (Addr × Obj)} {σ : St} {H : Hp} {s : Shared}
/-- what was not there at s is tracked, at a state behind it -/
theorem Inv.trackNew {H' : Hp} {s' : Shared} {a : Addr} {o : HO} (I : Inv X pins σ H s) (J : Inv X pins σ H' s') (ha : s.heap.objs.size ≤ a) (na : H' a = none)
    (ok : ObjOk X.prog X.w (upd H' a o) s'.heap a o) : Inv X pins σ (upd H' a o) s' := by
  have lt : ∀ {c : Addr} {u : Obj}, s.heap.get? c = some u → c ≠ a := fun e => Nat.ne_of_lt (Nat.lt_of_lt_of_le (Heap.lt_size e) ha)
  refine J.track na (Ne.symm (Nat.ne_of_lt (Nat.lt_of_lt_of_le I.lt ha))) (fun x c e => ?_) (fun ob e _ => ?_) (fun p hp => lt (I.pin p hp).1) ok
  · obtain ⟨v, u, hu, _⟩ := I.cell x c e
    exact lt hu
  · exact absurd (Nat.lt_of_lt_of_le (Heap.lt_size e) I.sz) (Nat.not_lt.mpr ha)
theorem Inv.trackPairs (I : Inv X pins σ H s) : ∀ {as : List Addr} {ps : List (V × V)} {H' : Hp} {s' : Shared}, Inv X pins σ H' s' → (∀ a ∈ as, s.heap.objs.size ≤ a ∧ H' a = none) → as.Nodup →
    (∀ (j : Nat) (c : Addr) (p : V × V), as[j]? = some c → ps[j]? = some p → ∃ x y, RelV p.1 x ∧ RelV p.2 y ∧ s'.heap.get? c = some { cls := .type "tuple", data := .seq #[x, y] }) → Inv X pins σ (layPairs H' as ps) s'
  | [], _, H', s', J, _, _, _ => by
    unfold layPairs
    exact J
  | a :: as, [], H', s', J, _, _, _ => by
    unfold layPairs
    exact J
  | a :: as, p :: ps, H', s', J, h, nd, hp => by
    have nd' := List.nodup_cons.mp nd
    obtain ⟨x, y, rx, ry, e⟩ := hp 0 a p rfl rfl
    unfold layPairs
    refine I.trackPairs (I.trackNew J (h a (.head _)).1 (h a (.head _)).2 ⟨by show 2 ≤ sizeLine; decide, [x, y], .cons rx (.cons ry .nil), ⟨_, e, rfl, _, rfl⟩⟩) (fun b hb => ⟨(h b (.tail _ hb)).1, ?_⟩) nd'.2 fun j c q h1 h2 => hp (j + 1) c q (by simpa using h1) (by simpa using h2)
    rw [upd_ne (fun e => nd'.1 (by rw [← e]; exact hb))]
    exact (h b (.tail _ hb)).2
end
/-- list(zip(a, b)) of two lists: a new list of new pairs -/
def tLstZip (K : PySem.W.Frag) (ta : TA) : TE := fun σ H Q => ta σ H fun vs H1 => ∃ a b xs ys, vs = [.ref a, .ref b] ∧ SqL K H1 a xs ∧ SqL K H1 b ys ∧
  ∀ (as : List Addr) (p : Addr) (H2 : Hp), Same H1 H2 → H1 p = none → (∀ c ∈ as, H1 c = none) → (p :: as).Nodup → H2 p = some (.lst (as.map V.ref)) → as.length = min xs.length ys.length →
    (∀ (j : Nat) (c : Addr), as[j]? = some c → ∃ x y, xs[j]? = some x ∧ ys[j]? = some y ∧ H2 c = some (.tup [x, y])) → Q (.ref p) H2
theorem pe_lstZip {X : Cx} {e e2 : Expr} {ta : TA} {p1 p2 pos pos2 : Pos} (hc : X.calm = true) (hgl : Gl X "list") (hml : X.mg "list" = none) (hg : Gl X "zip") (hm : X.mg "zip" = none) (ha : PA X [e, e2] ta)
    (na : starEach [.Call (.Name "zip" p2) [e, e2] [] pos2] X.env = (false, eval (.Call (.Name "zip" p2) [e, e2] [] pos2) X.env) :: starEach [] X.env := by rfl)
    (hs : starEach [e, e2] X.env = (false, eval e X.env) :: starEach [e2] X.env := by rfl) (hpl : (backTo pos2 (starEach [e2] X.env)).any (·.1) = false := by rfl) :
    PE X (.Call (.Name "list" p1) [.Call (.Name "zip" p2) [e, e2] [] pos2] [] pos) (tLstZip X.K ta) := by
  refine ⟨fun pins s σ H Q I h => ?_⟩
  refine Call_ (ld_blt I hgl hml boot_list (PyProof.Rows.callWith_type1 (args_cons ?_ na) na))
  refine Call_ (ld_blt I hg hm PyProof.Rows.boot_zip (PyProof.Rows.callWith_type1 (thn (ha.run pos2 pins s σ H _ I h) fun us s1 ⟨vs, H1, I1, r1, q1⟩ => ?_) hs hpl))
  obtain ⟨a, b, xs, ys, ex, hqx, hqy, q⟩ := q1
  subst ex
  cases r1 with
  | cons r rr =>
    cases rr with
    | cons r' rr =>
      cases rr
      cases r
      cases r'
      obtain ⟨its, rv, pl1, hx⟩ := I1.list hqx
      obtain ⟨its2, rv2, pl2, hy⟩ := I1.list hqy
      have n1 := rv.length
      have n2 := rv2.length
      have la : a < s1.heap.objs.size := pl1.lt
      have lb : b < s1.heap.objs.size := pl2.lt
      refine call_zip_2 pl1.isList pl2.isList fun h' hz hTI hTO h1 h2 hsz hk => args_nil ?_
      have D := PySem.W.ktu_apart s1.heap.objs.size a b la lb
      refine AdZ.zl_call (s := { s1 with heap := h' }) (I1.ok.hd hc) D (by rw [List.size_toArray]; omega) hz hTI ⟨_, _, hTO⟩ h1 h2 (pl1.isList.at fun o e => hk _ o e) (pl2.isList.at fun o e => hk _ o e) ?_
      intro h2' tk acc c as hk2 hl hlen hG hacc
      have hk3 : ∀ c o, s1.heap.get? c = some o → h2'.get? c = some o := fun c o e => hk2 c o (fun m => by
        have lc := Heap.lt_size e
        simp only [List.mem_cons, List.not_mem_nil, or_false] at m
        rcases m with q | q | q | q
        all_goals rw [q] at lc
        all_goals exact absurd lc (Nat.not_lt.mpr (by first | exact Nat.le_refl _ | exact Nat.le_add_right _ _))) (hk c o e)
      have hp0 : s1.heap.objs.size ≤ h'.objs.size := by rw [hsz]; exact Nat.le_add_right _ _
      have ab : ∀ c ∈ as, s1.heap.objs.size ≤ c ∧ h'.objs.size < c := fun c m => ⟨Nat.le_trans hp0 (Nat.le_of_succ_le (hG.above c m)), hG.above c m⟩
      have nd : as.Nodup := hG.rise.imp fun z => Nat.ne_of_lt z
      have pas : h'.objs.size ∉ as := fun m => Nat.lt_irrefl _ (ab _ m).2
      have na1 : H1 h'.objs.size = none := I1.hok.fresh hp0
      have fr : ∀ c ∈ as, H1 c = none := fun c m => I1.hok.fresh (ab c m).1
      have fr2 : ∀ c ∈ as, upd H1 h'.objs.size (.lst (as.map V.ref)) c = none := fun c m => by
        rw [upd_ne (Nat.ne_of_gt (ab c m).2)]
        exact fr c m
      have eacc : acc = (as.map Value.ref).toArray := by rw [← hacc, Array.toArray_toList]
      rw [eacc] at hl
      simp only [List.size_toArray] at hlen
      have I3 : Inv X pins σ (upd H1 h'.objs.size (.lst (as.map V.ref))) { s1 with heap := h2', toks := tk } :=
        I1.laid hk3 hp0 ⟨by rw [List.length_map, hlen]; omega, as.map Value.ref, c, vals_refs as, hl⟩
      have I4 := I1.trackPairs (ps := xs.zip ys) I3 (fun c m => ⟨(ab c m).1, fr2 c m⟩) nd fun j c p e1 e2 => by
        obtain ⟨x, y, ex, ey, ep⟩ := hG.pairs j c e1
        obtain ⟨z1, z2⟩ := List.getElem?_zip_eq_some.mp e2
        obtain ⟨u1, hu1, ru1⟩ := rv.get z1
        obtain ⟨u2, hu2, ru2⟩ := rv2.get z2
        rw [List.getElem?_toArray, hu1] at ex
        rw [List.getElem?_toArray, hu2] at ey
        cases ex
        cases ey
        exact ⟨_, _, ru1, ru2, ep⟩
      refine ⟨.ref h'.objs.size, _, I4, rfl, q as h'.objs.size _ (Same.trans (same_new na1) (lay_same fr2 nd)) na1 fr (List.nodup_cons.mpr ⟨pas, nd⟩) (lay_same fr2 nd _ _ upd_same) (by rw [hlen, ← n1, ← n2]) fun j c hj => ?_⟩
      have lj : j < as.length := (List.getElem?_eq_some_iff.mp hj).1
      have e1 : xs[j]? = some xs[j] := List.getElem?_eq_getElem (by omega)
      have e2 : ys[j]? = some ys[j] := List.getElem?_eq_getElem (by omega)
      exact ⟨_, _, e1, e2, lay_at (p := (xs[j], ys[j])) fr2 nd hj (List.getElem?_zip_eq_some.mpr ⟨e1, e2⟩)⟩
end L2
namespace AdB
open PySem PySem.Calls PyProof.Rows PySem.Spec HT
theorem back_adjust (n : Nat) : Builtin.Slice.sliceAdjust none none (-1) (n : Int) = ((n : Int) - 1, -1) := by
  unfold Builtin.Slice.sliceAdjust
  simp
theorem back_places (n : Nat) : Builtin.Slice.slicePlaces ((n : Int) - 1) (-1) (-1) = n := by
  unfold Builtin.Slice.slicePlaces
  have h1 : ¬ ((-1 : Int) > 0) := by decide
  simp only [h1, if_false]
  split
  · rw [show (-(-1 : Int)) = 1 by decide, Int.ediv_one]
    omega
  · omega
theorem back_pick (xs : Array Value) : ((List.range xs.size).filterMap fun (k : Nat) => xs[(((xs.size : Nat) : Int) - 1 + (k : Int) * (-1)).toNat]?).toArray = xs.toList.reverse.toArray := by
  have e : (List.range xs.size).filterMap (fun (k : Nat) => xs[(((xs.size : Nat) : Int) - 1 + (k : Int) * (-1)).toNat]?) = ((List.range xs.size).map fun k => xs.size - 1 - k).filterMap (xs[·]?) := by
    rw [List.filterMap_map]
    congr 1
    funext k
    show xs[(((xs.size : Nat) : Int) - 1 + (k : Int) * (-1)).toNat]? = xs[xs.size - 1 - k]?
    congr 1
    omega
  rw [e, PySem.W.krv_range, List.filterMap_reverse, PySem.W.krv_all]
section
variable {prog : Program} {w : World} {A : Around} {E : Value → Shared → Prop} {s : Shared}
theorem sliceApplied_back {sl : Addr} {vk : Value} {n : Nat} {Q : Int × Int × Nat → Shared → Prop} (hs : s.heap.IsSliceOf sl .none .none vk) (pk : IsPart vk (some (-1)))
    (h : Q ((n : Int) - 1, -1, n) s) : wpAny (model prog w) A (Builtin.Slice.sliceApplied (.ref sl) (pure (n : Int))) Q E s := by
  obtain ⟨os, hos, hcs, hds⟩ := id hs
  unfold Builtin.Slice.sliceApplied Builtin.Slice.sliceFields
  refine wpAny_bind (wpAny_bind (wpAny_field hos hds (x := .none) rfl (wpAny_bind (wpAny_field hos hds (x := .none) rfl (wpAny_bind (wpAny_field hos hds (x := vk) rfl (wpAny_pure ?_)))))))
  refine wpAny_bind (slicePart_ pk ?_)
  show wpAny _ _ (if ((-1 : Int) == 0) = true then _ else _) _ _ s
  rw [if_neg (by decide)]
  refine wpAny_bind (slicePart_ .none (wpAny_bind (slicePart_ .none (wpAny_bind (wpAny_pure ?_)))))
  show wpAny _ _ (match Builtin.Slice.sliceAdjust none none (-1) (n : Int) with | (lo, hi) => pure (lo, (-1 : Int), Builtin.Slice.slicePlaces lo hi (-1))) _ _ s
  rw [back_adjust]
  show wpAny _ _ (pure ((n : Int) - 1, (-1 : Int), Builtin.Slice.slicePlaces ((n : Int) - 1) (-1) (-1))) _ _ s
  rw [back_places]
  exact wpAny_pure h
theorem getItem_tuple_back {t sl : Addr} {items : Array Value} {vk : Value} {Q : Value → Shared → Prop} (ht : IsTup s.heap t items) (hs : s.heap.IsSliceOf sl .none .none vk) (pk : IsPart vk (some (-1)))
    (h : Q (.ref s.heap.objs.size) { s with heap := s.heap.push { cls := .type "tuple", data := .seq items.toList.reverse.toArray } }) (hsz : items.size ≤ sizeLine) :
    wpAny (model prog w) A (getItem (.ref t) (.ref sl)) Q E s := by
  have hok : sizeOk (.seq items.toList.reverse.toArray) := by
    show items.toList.reverse.toArray.size ≤ sizeLine
    rw [List.size_toArray, List.length_reverse, Array.length_toList]
    exact hsz
  obtain ⟨os, hos, hcs, hds⟩ := id hs
  have hTs : s.TypeIs (.ref sl) "slice" := ⟨os, hos, hcs⟩
  unfold getItem
  try with_reducible refine wpAny_holding ?_
  first | refine wpAny_bind (wpAny_pure ?_) | skip
  refine wpAny_bind (wpAny_sequenceKey ht.typeIs (by decide) ?_)
  refine wpAny_bind (wpAny_callSpecial?_slot (name := Str.ofString "__getitem__") ht.typeIs PyProof.Rows.slot_tuple_getitem
    (wpAny_call_entry PyProof.Rows.slot_tuple_getitem ht.typeIs entry_tuple_getitem ?_ (args_tuple_getitem _ _)))
  show wpAny _ _ (Builtin.Tuple.tupleItemsOf (.ref t) >>= _) _ _ s
  refine wpAny_bind (tupleItemsOf_ ht ?_)
  refine wpAny_bind (wpAny_typeOf hTs ?_)
  rw [if_pos (by decide)]
  refine wpAny_bind (sliceApplied_back hs pk ?_)
  have hno : ¬ ((((items.size : Nat) : Int) - 1 == 0 && (-1 : Int) == 1 && items.size == items.size) = true) := by
    rw [show ((-1 : Int) == 1) = false by decide, Bool.and_false, Bool.false_and]
    exact Bool.false_ne_true
  show wpAny _ _ (if (((items.size : Nat) : Int) - 1 == 0 && (-1 : Int) == 1 && items.size == items.size) = true then _ else _) _ _ s
  rw [if_neg hno, back_pick]
  first
    | exact wpAny_bind (m := Builtin.Tuple.tupleExact _) (wpAny_newObj_type (wpAny_pure ⟨_, rfl, wpAny_pure h⟩) hok)
    | exact wpAny_bind (m := Builtin.Tuple.tupleExact _) (wpAny_newObj_type (wpAny_bind (wpAny_pure (wpAny_pure ⟨_, rfl, wpAny_pure h⟩))) hok)
    | exact wpAny_bind (wpAny_bind (m := Builtin.Tuple.tupleExact _) (wpAny_newObj_type (wpAny_pure (wpAny_pure ⟨_, rfl, wpAny_pure h⟩)) hok))
    | exact wpAny_bind (wpAny_bind (m := Builtin.Tuple.tupleExact _) (wpAny_newObj_type (wpAny_pure ⟨_, rfl, wpAny_pure h⟩) hok))
end
end AdB
namespace L2
open PySem PySem.Spec PyProof.Rows
/-- xs[::-1] -/
def rBack (K : PySem.W.Frag) : V → Hp → VK → Prop := fun x H Q => ∃ a xs, x = .ref a ∧ ((SqL K H a xs ∧ ∀ p, H p = none → Q (.ref p) (upd H p (.lst xs.reverse))) ∨ (SqT K H a xs ∧ ∀ p, H p = none → Q (.ref p) (upd H p (.tup xs.reverse))))
def tBack (K : PySem.W.Frag) (te : TE) (tk : TO) : TE := fun σ H Q => te σ H fun x H1 => tk σ H1 fun o H2 => o = some (-1) ∧ rBack K x H2 Q
theorem pe_back {X : Cx} {K : PySem.W.Frag} {e : Expr} {st : Expr} {te : TE} {tk : TO} {p2 pos : Pos} (he : PE X e te) (hk : PO X (some st) tk) (hK : X.K = K := by rfl) : PE X (.Subscript e (.Slice none none (some st) p2) pos) (tBack K te tk) := by
  subst hK
  refine ⟨fun pins s σ H Q I h => ?_⟩
  refine Subscript_ (thn (he.run pins s σ H _ I h) fun v s1 ⟨x, H1, I1, r1, q1⟩ => ?_)
  refine wpAny_Slice ?_
  rw [evalPart_none]
  refine wpAny_pure (wpAny_pure (thn (hk.run pins s1 σ H1 _ I1 q1) ?_))
  rintro vk s3 ⟨o, H3, I3, pk, rfl, a, xs, rfl, q⟩
  cases r1
  have I4 : Inv X pins σ H3 { s3 with heap := s3.heap.push { cls := .type "slice", data := .fields #[.none, .none, vk] } } := I3.kept (t' := s3.toks) fun b ob q => Heap.get?_push_of_some _ q
  have sl4 : ({ s3 with heap := s3.heap.push { cls := .type "slice", data := .fields #[.none, .none, vk] } } : Shared).heap.IsSliceOf s3.heap.objs.size .none .none vk := Heap.IsSliceOf.new ..
  rcases q with ⟨hx, q⟩ | ⟨hx, q⟩
  · obtain ⟨its, r, ht, hz⟩ := I4.list hx
    have hlen := r.length
    refine tail_any (ops := [.ref a, .ref s3.heap.objs.size]) ht.isList.typeIs slot_list_getitem.lookup ?_ (by with_unfolding_all rfl)
    refine wpAny_getItem_list_slice ht.isList sl4 .none .none pk (by decide) ?_ (by rw [List.size_toArray] <;> omega)
    rw [PySem.W.krv_pick]
    refine ⟨.ref (s3.heap.push { cls := .type "slice", data := .fields #[.none, .none, vk] }).objs.size, _, I4.laid (t' := s3.toks) (o := .lst xs.reverse) (fun b ob q => Heap.get?_push_of_some _ q) (Nat.le_refl _) ?_, rfl, q _ (I4.hok.fresh (Nat.le_refl _))⟩
    exact ⟨by rw [List.length_reverse]; exact hz, _, 0, r.reverse, Heap.get?_push_size _ rfl⟩
  · obtain ⟨its, r, ht, hz⟩ := I4.tuple hx
    have hlen := r.length
    refine tail_any (ops := [.ref a, .ref s3.heap.objs.size]) ht.typeIs PyProof.Rows.slot_tuple_getitem.lookup ?_ (by with_unfolding_all rfl)
    refine AdB.getItem_tuple_back ht sl4 pk ?_ (by rw [List.size_toArray] <;> omega)
    refine ⟨.ref (s3.heap.push { cls := .type "slice", data := .fields #[.none, .none, vk] }).objs.size, _, I4.laid (t' := s3.toks) (o := .tup xs.reverse) (fun b ob q => Heap.get?_push_of_some _ q) (Nat.le_refl _) ?_, rfl, q _ (I4.hok.fresh (Nat.le_refl _))⟩
    exact ⟨by rw [List.length_reverse]; exact hz, _, r.reverse, IsTup.new _ _⟩
end L2
namespace L2
open PySem PySem.Spec PyProof.Rows TL
def cost (ys : List Str) : Nat := (ys.map (·.length)).sum + ys.length
theorem cost_nil : cost [] = 0 := rfl
theorem cost_cons (y : Str) (ys : List Str) : cost (y :: ys) = y.length + 1 + cost ys := by
  unfold cost
  rw [List.map_cons, List.sum_cons, List.length_cons]
  omega
theorem cost_append (xs ys : List Str) : cost (xs ++ ys) = cost xs + cost ys := by
  induction xs with
  | nil => rw [List.nil_append, cost_nil, Nat.zero_add]
  | cons x xs ih =>
    rw [List.cons_append, cost_cons, cost_cons, ih]
    omega
theorem cost_take (xs : List Str) (n : Nat) : cost (xs.take n) ≤ cost xs := by
  have h := cost_append (xs.take n) (xs.drop n)
  rw [List.take_append_drop] at h
  omega
theorem cost_drop (xs : List Str) (n : Nat) : cost (xs.drop n) ≤ cost xs := by
  have h := cost_append (xs.take n) (xs.drop n)
  rw [List.take_append_drop] at h
  omega
theorem cost_rev (xs : List Str) : cost xs.reverse = cost xs := by
  induction xs with
  | nil => rfl
  | cons x xs ih =>
    rw [List.reverse_cons, cost_append, ih, cost_cons, cost_cons, cost_nil]
    omega
theorem cost_mem {xs : List Str} {x : Str} (h : x ∈ xs) : x.length + 1 ≤ cost xs := by
  induction xs with
  | nil => exact absurd h (List.not_mem_nil)
  | cons y ys ih =>
    rw [cost_cons]
    rcases List.mem_cons.mp h with e | e
    · rw [e]
      omega
    · have := ih e
      omega
theorem cost_len (xs : List Str) : xs.length ≤ cost xs := Nat.le_add_left _ _
/-- the parts of a text -/
theorem spl_sum (s : Nat) : ∀ (l acc : List Nat), ((spl [s] 0 acc l).map List.length).sum + (spl [s] 0 acc l).length = acc.length + l.length + 1
  | [], acc => by
    rw [spl_nil]
    simp
  | c :: r, acc => by
    cases h : pre [s] (c :: r) with
    | true =>
      rw [spl_hit h]
      have ih := spl_sum s r []
      simp only [List.length_singleton, Nat.sub_self, List.map_cons, List.sum_cons, List.length_cons, List.length_nil] at ih ⊢
      omega
    | false =>
      rw [spl_miss h]
      have ih := spl_sum s r (acc ++ [c])
      rw [List.length_append, List.length_singleton] at ih
      rw [List.length_cons]
      omega
theorem split_cost {z y : Str} {s : Nat} (ey : tl y = [s]) (hk : y.cps.all (· < 256) = true) : cost (Txt.split z y) = z.length + 1 := by
  have h := split_spl z y (by rw [ey]; simp) (kind_ok hk)
  have q := spl_sum s (tl z) []
  rw [ey] at h
  rw [← h] at q
  unfold cost
  rw [List.map_map, List.length_map, show (List.length ∘ tl) = fun y : Str => y.length from funext fun y => (len_tl y).symm] at q
  rw [q, ← len_tl]
  simp
theorem joinL_len (s : Nat) : ∀ ps : List (List Nat), (joinL [s] ps).length ≤ (ps.map List.length).sum + ps.length
  | [] => Nat.le_refl _
  | [p] => by
    show p.length ≤ _
    simp
  | p :: q :: r => by
    have ih := joinL_len s (q :: r)
    show (p ++ ([s] ++ joinL [s] (q :: r))).length ≤ _
    rw [List.length_append, List.length_append, List.length_singleton, List.map_cons, List.sum_cons, List.length_cons]
    omega
theorem join_cost {y : Str} {s : Nat} (ey : tl y = [s]) (ys : List Str) : (Txt.join y ys).length ≤ cost ys := by
  rw [join_eq, len_tl, tl_join, ey]
  have h := joinL_len s (ys.map tl)
  rw [List.map_map, List.length_map, show (List.length ∘ tl) = fun y : Str => y.length from funext fun y => (len_tl y).symm] at h
  exact h
/-- a list of texts stands at q, at most so dear -/
def TxL (H : Hp) (q : Addr) (c : Nat) : Prop := ∃ zs : List Str, H q = some (.lst (zs.map V.str)) ∧ cost zs ≤ c
theorem TxL.same {H H' : Hp} {q : Addr} {c : Nat} (h : TxL H q c) (s : Same H H') : TxL H' q c := let ⟨zs, e, l⟩ := h; ⟨zs, s _ _ e, l⟩
theorem TxL.mono {H : Hp} {q : Addr} {c c' : Nat} (h : TxL H q c) (l : c ≤ c') : TxL H q c' := let ⟨zs, e, x⟩ := h; ⟨zs, e, Nat.le_trans x l⟩
theorem cut_cost (xs : List Str) (lo hi : Option Int) : ∃ zs : List Str, cutV (xs.map V.str) lo hi = zs.map V.str ∧ cost zs ≤ cost xs ∧ ∀ z ∈ zs, z ∈ xs := by
  refine ⟨(xs.drop (HT.sIx xs.length 0 lo)).take (HT.sIx xs.length xs.length hi - HT.sIx xs.length 0 lo), ?_, Nat.le_trans (cost_take _ _) (cost_drop _ _), fun z hz => List.mem_of_mem_drop (List.mem_of_mem_take hz)⟩
  unfold cutV
  rw [List.length_map, ← List.map_drop, ← List.map_take]
section
variable {X : Cx} {K : PySem.W.Frag} {o e : Expr} {to te : TE}
def rJoin (K : PySem.W.Frag) : V → List V → Hp → VK → Prop := fun x xs H Q => ∃ a p, ∃ ys : List Str, x = .str a ∧ xs = [.ref p] ∧ (SqL K H p (ys.map V.str) ∨ SqT K H p (ys.map V.str)) ∧
  (ys.map (·.length)).sum + ys.length * a.length ≤ 16777216 ∧ Q (.str (Txt.join a ys)) H
theorem kJoin {apos pos : Pos} (ho : PE X o to) (he : PE X e te) (hK : X.K = K := by rfl) (hs : starEach [e] X.env = [(false, eval e X.env)] := by rfl) (hbase : attributeBase o "join" X.env (eval o X.env) = eval o X.env := by rfl)
    (hline : (apos.endLine == pos.line) = true := by rfl) : PE X (.Call (.Attribute o "join" apos) [e] [] pos) (tM1 (rJoin K) to te) := by
  subst hK
  exact pe_join ho he hs hbase hline
def rListOf (K : PySem.W.Frag) : List V → Hp → VK → Prop := fun xs H Q => ∃ p ys, xs = [.ref p] ∧ (SqL K H p ys ∨ SqT K H p ys) ∧ ∀ l, H l = none → Q (.ref l) (upd H l (.lst ys))
theorem kListOf (hK : X.K = K := by rfl) : CallR X (.type "list") (rListOf K) := by
  subst hK
  exact call_list_of
end
/-- t gives a new list of texts, at most so dear -/
def GivesTx (t : TE) (σ : St) (H : Hp) (c : Nat) : Prop := ∀ R : VK, (∀ H' q, Same H H' → H q = none → TxL H' q c → R (.ref q) H') → t σ H R
/-- a slice's end that is some number or left out -/
def IsPartAt (t : TO) (σ : St) (H : Hp) : Prop := ∀ R : Option Int → Hp → Prop, (∀ o, R o H) → t σ H R
theorem part_none {σ : St} {H : Hp} : IsPartAt tNoPart σ H := fun R h => h _
theorem part_var {σ : St} {H : Hp} {i : Nat} {n : Int} (h : σ[i]? = some (some (.int n))) : IsPartAt (tPart (tVar i)) σ H := fun R k => ⟨_, h, n, rfl, k _⟩
theorem part_int {σ : St} {H : Hp} {n : Int} : IsPartAt (tPart (tC (.int n))) σ H := fun R k => ⟨n, rfl, k _⟩
theorem part_plus {σ : St} {H : Hp} {i : Nat} {n m : Int} (h : σ[i]? = some (some (.int n))) : IsPartAt (tPart (tOp (rI0 fun i j => .int (i + j)) (tVar i) (tC (.int m)))) σ H :=
  fun R k => ⟨_, h, _, _, rfl, rfl, _, rfl, k _⟩
theorem part_plusMinus {σ : St} {H : Hp} {i j : Nat} {n m d : Int} (h : σ[i]? = some (some (.int n))) (h' : σ[j]? = some (some (.int m))) :
    IsPartAt (tPart (tOp (rI0 fun i j => .int (i - j)) (tOp (rI0 fun i j => .int (i + j)) (tVar i) (tVar j)) (tC (.int d)))) σ H :=
  fun R k => ⟨_, h, _, h', _, _, rfl, rfl, _, _, rfl, rfl, _, rfl, k _⟩
theorem gives_sl {K : PySem.W.Frag} {σ : St} {H : Hp} {i : Nat} {w : Addr} {ws : List Str} {tl th : TO} (h : σ[i]? = some (some (.ref w))) (hw : H w = some (.lst (ws.map V.str))) (hl : IsPartAt tl σ H) (hh : IsPartAt th σ H) :
    GivesTx (tSl (rSlL K) (tVar i) tl th) σ H (cost ws) := fun R k => ⟨_, h, hl _ fun lo => hh _ fun hi => ⟨w, _, rfl, SqL.of hw, fun p np => by
      obtain ⟨zs, e, c, _⟩ := cut_cost ws lo hi
      rw [e]
      exact k _ p (same_new np) np ⟨zs, upd_same, c⟩⟩⟩
theorem gives_cat {σ : St} {H : Hp} {ta tb : TE} {a b : Nat} (ha : GivesTx ta σ H a) (hb : ∀ H1, Same H H1 → GivesTx tb σ H1 b) (f : a + b ≤ 10000000) : GivesTx (tOp rCat ta tb) σ H (a + b) := fun R k =>
  ha _ fun H1 q1 s1 n1 ⟨xs, e1, c1⟩ => hb H1 s1 _ fun H2 q2 s2 n2 ⟨ys, e2, c2⟩ => by
    refine ⟨q1, q2, _, _, rfl, rfl, s2 _ _ e1, e2, ?_, fun p np => ?_⟩
    · rw [List.length_map, List.length_map]
      have h1 := cost_len xs
      have h2 := cost_len ys
      exact Nat.le_trans (by omega : _ ≤ 10000000) (by decide)
    · have s3 := Same.trans s1 (Same.trans s2 (same_new (o := .lst (xs.map V.str ++ ys.map V.str)) np))
      refine k _ p s3 (none_of_same (Same.trans s1 s2) np) ⟨xs ++ ys, by rw [upd_same, List.map_append], ?_⟩
      rw [cost_append]
      omega
theorem gives_one {σ : St} {H : Hp} {i : Nat} {z : Str} (h : σ[i]? = some (some (.str z))) : GivesTx (tLst (tCons (tVar i) tNil)) σ H (z.length + 1) := fun R k =>
  ⟨_, h, by show 1 ≤ sizeLine; decide, fun p np => k _ p (same_new np) np ⟨[z], upd_same, by rw [cost_cons, cost_nil]; exact Nat.le_refl _⟩⟩
theorem gives_back {K : PySem.W.Frag} {σ : St} {H : Hp} {i : Nat} {w : Addr} {ws : List Str} (h : σ[i]? = some (some (.ref w))) (hw : H w = some (.lst (ws.map V.str))) :
    GivesTx (tBack K (tVar i) (tPart (tUn (rU fun i => .int (-i)) (tC (.int 1))))) σ H (cost ws) := fun R k =>
  ⟨_, h, _, rfl, _, rfl, rfl, w, _, rfl, .inl ⟨SqL.of hw, fun p np => k _ p (same_new np) np ⟨ws.reverse, by rw [upd_same, List.map_reverse], by rw [cost_rev]; exact Nat.le_refl _⟩⟩⟩
theorem gives_join {K : PySem.W.Frag} {σ : St} {H : Hp} {y : Str} {s : Nat} {t : TE} {c : Nat} {R : VK} (ey : tl y = [s]) (ht : GivesTx t σ H c) (hc : c ≤ 10000000)
    (k : ∀ H' x, Same H H' → x.length ≤ c → R (.str x) H') : tM1 (rJoin K) (tC (.str y)) t σ H R :=
  ⟨⟨_, rfl⟩, ht _ fun H1 q s1 n1 ⟨xs, e, cx⟩ => ⟨y, q, xs, rfl, rfl, .inl (SqL.of e), by
    rw [show y.length = 1 by rw [len_tl, ey]; rfl, Nat.mul_one]
    exact Nat.le_trans cx (Nat.le_trans hc (by decide)), k _ _ s1 (Nat.le_trans (join_cost ey xs) cx)⟩⟩
end L2
namespace NetM
open PySem L2 TL
theorem once_perm {ts us : List (Str × Str)} (p : ts.Perm us) (h : Once ts) : Once us :=
  ⟨fun t ht => h.1 t (p.mem_iff.mpr ht), (p.pairwise_iff fun h k => h k.symm).mp h.2⟩
/-- a tie or the same turned about -/
def Turned (s t : Str × Str) : Prop := s = t ∨ s = (t.2, t.1)
theorem turned_tie {ts us : List (Str × Str)} (h : Paired Turned ts us) : ∀ p, tieIn ts p = tieIn us p := by
  have one : ∀ {ts us : List (Str × Str)}, Paired Turned ts us → ∀ t ∈ ts, t ∈ us ∨ (t.2, t.1) ∈ us := fun h => by
    induction h with
    | nil => exact fun _ h => absurd h (List.not_mem_nil)
    | @cons s t l m r _ ih =>
      intro u hu
      rcases List.mem_cons.mp hu with rfl | hu
      · rcases r with rfl | rfl
        · exact .inl (.head _)
        · exact .inr (.head _)
      · exact (ih u hu).imp (.tail _) (.tail _)
  have rev : ∀ {ts us : List (Str × Str)}, Paired Turned ts us → Paired Turned us ts := fun h => by
    induction h with
    | nil => exact .nil
    | @cons s t l m r _ ih =>
      refine .cons ?_ ih
      rcases r with rfl | rfl
      · exact .inl rfl
      · exact .inr rfl
  intro p
  have go : ∀ {ts us : List (Str × Str)}, Paired Turned ts us → tieIn ts p = true → tieIn us p = true := fun h k => by
    rcases tieIn_iff.mp k with q | q
    · exact tieIn_iff.mpr (one h p q)
    · exact tieIn_iff.mpr ((one h _ q).symm)
  cases e : tieIn us p with
  | true => exact go (rev h) e
  | false =>
    cases e2 : tieIn ts p with
    | false => rfl
    | true =>
      rw [go h e2] at e
      cases e
theorem turned_once {ts us : List (Str × Str)} (h : Paired Turned ts us) (o : Once ts) : Once us := by
  have mem : ∀ {ts us : List (Str × Str)}, Paired Turned ts us → ∀ u ∈ us, ∃ t ∈ ts, Turned t u := fun h => by
    induction h with
    | nil => exact fun _ h => absurd h (List.not_mem_nil)
    | @cons s t l m r _ ih =>
      intro u hu
      rcases List.mem_cons.mp hu with rfl | hu
      · exact ⟨s, .head _, r⟩
      · obtain ⟨t, ht, q⟩ := ih u hu
        exact ⟨t, .tail _ ht, q⟩
  have tw : ∀ {s s' t t' : Str × Str}, Turned s s' → Turned t t' → Twin s' t' → Twin s t := by
    rintro s s' t t' (rfl | rfl) (rfl | rfl) (rfl | rfl)
    all_goals first | exact .inl rfl | exact .inr rfl
  obtain ⟨o1, o2⟩ := o
  induction h with
  | nil => exact ⟨fun _ h => absurd h (List.not_mem_nil), .nil⟩
  | @cons s t l m r rs ih =>
    obtain ⟨p1, p2⟩ := List.pairwise_cons.mp o2
    obtain ⟨q1, q2⟩ := ih (fun t ht => o1 t (.tail _ ht)) p2
    refine ⟨fun u hu => ?_, List.pairwise_cons.mpr ⟨fun u hu k => ?_, q2⟩⟩
    · rcases List.mem_cons.mp hu with rfl | hu
      · have := o1 s (.head _)
        rcases r with rfl | rfl
        · exact this
        · exact fun e => this e.symm
      · exact q1 u hu
    · obtain ⟨v, hv, q⟩ := mem rs u hu
      exact p1 v hv (tw r q k)
/-- places and ties of a well tied net -/
structure LoreOk (ps : List Str) (ts : List (Str × Str)) : Prop where
  nd : ps.Nodup
  h3 : 3 ≤ ps.length
  h16 : ps.length ≤ 16
  nm : ∀ z ∈ ps, isNm z = true
  inn : ∀ t ∈ ts, t.1 ∈ ps ∧ t.2 ∈ ps
  once : Once ts
  few : 3 ≤ ts.length
  most : ts.length ≤ 45
  tied : cutOf (nbOf (inSeq ps ts)) ps = none
theorem oth_sub {ps : List Str} {p : Str} : ∀ z ∈ oth ps p, z ∈ ps ∧ z ≠ p := fun z h => oth_mem.mp h
/-- a net that grew by ears, told in any sequence, is well tied -/
theorem ears_cut {us ps : List Str} {ts ts' : List (Str × Str)} (E : Ears us ts) (hp : ps.Perm us) (h2 : 3 ≤ ps.length) (ht : ∀ p, tieIn ts' p = tieIn ts p) : cutOf (nbOf (inSeq ps ts')) ps = none := by
  have nd : ps.Nodup := hp.nodup_iff.mpr E.nodup
  have go : ∀ (q : Option Str) (some' : List Str), (∀ z, z ∈ some' ↔ z ∈ ps ∧ some z ≠ q) → ∀ x ∈ some', AllIn (nbOf (inSeq ps ts')) some' x := by
    intro q some' hs x hx y hy
    have hx' := (hs x).mp hx
    have hy' := (hs y).mp hy
    have P := E.joined q x y (hp.mem_iff.mp hx'.1) (hp.mem_iff.mp hy'.1) hx'.2 hy'.2
    clear hy hy'
    induction P with
    | refl _ => exact .refl
    | @step b c P t s ih =>
      have hb := P.snd
      refine .step ih ((mem_nb nd).mpr ⟨hp.mem_iff.mpr s.1, hp.mem_iff.mpr hb.1, fun e => ?_, (ht _).trans t⟩) ((hs c).mpr ⟨hp.mem_iff.mpr s.1, s.2⟩)
      rcases tieIn_iff.mp t with m | m
      · exact E.once.1 _ m e.symm
      · exact E.once.1 _ m e
  refine cut_none (go none ps (fun z => by simp) _ (headIn fun e => by rw [e] at h2; simp at h2)) fun p hpm => ?_
  obtain ⟨y, r, eo⟩ := oth_ne (p := p) nd (by omega)
  refine go (some p) (oth ps p) (fun z => ?_) _ (headIn (by rw [eo]; simp))
  rw [oth_mem]
  simp
theorem ears_lore {us ps : List Str} {ts t1 t2 : List (Str × Str)} (E : Ears us ts) (hp : ps.Perm us) (h3 : 3 ≤ us.length) (h16 : us.length ≤ 16) (nm : ∀ z ∈ us, isNm z = true) (tn : Paired Turned ts t1) (tp : t2.Perm t1) (few : 3 ≤ ts.length) (most : ts.length ≤ 45) : LoreOk ps t2 := by
  have e1 : ∀ p, tieIn t2 p = tieIn ts p := fun p => by
    rw [turned_tie tn p]
    cases e : tieIn t1 p with
    | true => exact tieIn_sub (fun t => tp.mem_iff.mpr) p e
    | false =>
      cases e2 : tieIn t2 p with
      | false => rfl
      | true =>
        rw [tieIn_sub (fun t => tp.mem_iff.mp) p e2] at e
        cases e
  have l1 : t2.length = ts.length := tp.length_eq.trans tn.length.symm
  refine ⟨hp.nodup_iff.mpr E.nodup, by rw [hp.length_eq]; exact h3, by rw [hp.length_eq]; exact h16, fun z hz => nm z (hp.mem_iff.mp hz), fun t ht => ?_, once_perm tp.symm (turned_once tn E.once), by omega, by omega, ears_cut E hp (by rw [hp.length_eq]; exact h3) e1⟩
  have q : tieIn ts t = true := (e1 t).symm.trans (tieIn_iff.mpr (.inl ht))
  rcases tieIn_iff.mp q with m | m
  · have := E.ends _ m
    exact ⟨hp.mem_iff.mpr this.1, hp.mem_iff.mpr this.2⟩
  · have := E.ends _ m
    exact ⟨hp.mem_iff.mpr this.2, hp.mem_iff.mpr this.1⟩
theorem turned_same : ∀ ts : List (Str × Str), Paired Turned ts ts
  | [] => .nil
  | t :: ts => .cons (.inl rfl) (turned_same ts)
theorem turned_back : ∀ ts : List (Str × Str), Paired Turned ts (ts.map fun t => (t.2, t.1))
  | [] => .nil
  | t :: ts => .cons (.inr rfl) (turned_back ts)
theorem seq_congr {ps : List Str} {ts ts' : List (Str × Str)} (h : ∀ p, tieIn ts p = tieIn ts' p) : inSeq ps ts = inSeq ps ts' := by
  unfold inSeq
  rw [show tieIn ts = tieIn ts' from funext h]
/-- the line of a tie -/
def lineOf (t : Str × Str) : Str := Txt.join " " ["tie", t.1, t.2]
/-- the text of places and ties -/
def textOf (ps : List Str) (ts : List (Str × Str)) : Str := Txt.join "\n" (Txt.join " " ("places" :: ps) :: ts.map lineOf)
theorem nm_letters {z : Str} (h : isNm z = true) : ∀ c ∈ tl z, 97 ≤ c ∧ c ≤ 122 := by
  intro c hc
  unfold isNm at h
  rw [Bool.and_eq_true, List.all_eq_true] at h
  have q := of_decide_eq_true (h.2 c hc)
  have all : letters.cps.toList.all (fun c => decide (97 ≤ c ∧ c ≤ 122)) = true := by decide +kernel
  exact of_decide_eq_true (List.all_eq_true.mp all c q)
theorem word_signs {w : Str} (h : isNm w = true ∨ w = "places" ∨ w = "tie") : ∀ c ∈ tl w, 97 ≤ c ∧ c ≤ 122 := by
  rcases h with h | rfl | rfl
  · exact nm_letters h
  · have all : (tl "places").all (fun c => decide (97 ≤ c ∧ c ≤ 122)) = true := by decide +kernel
    exact fun c hc => of_decide_eq_true (List.all_eq_true.mp all c hc)
  · have all : (tl "tie").all (fun c => decide (97 ≤ c ∧ c ≤ 122)) = true := by decide +kernel
    exact fun c hc => of_decide_eq_true (List.all_eq_true.mp all c hc)
theorem split_line {ws : List Str} (hne : ws ≠ []) (h : ∀ w ∈ ws, isNm w = true ∨ w = "places" ∨ w = "tie") : Txt.split (Txt.join " " ws) " " = ws :=
  split_join (y := " ") (s := 32) (S := []) (by decide +kernel) (by decide +kernel) hne fun p hp m => by
    have := (word_signs (h p hp) 32 m).1
    omega
theorem joinL_signs (s : Nat) : ∀ (ws : List (List Nat)) (c : Nat), c ∈ joinL [s] ws → c = s ∨ ∃ w ∈ ws, c ∈ w
  | [], c, h => absurd h (List.not_mem_nil)
  | [p], c, h => .inr ⟨p, .head _, h⟩
  | p :: q :: r, c, h => by
    have h' : c ∈ p ++ ([s] ++ joinL [s] (q :: r)) := h
    rcases List.mem_append.mp h' with m | m
    · exact .inr ⟨p, .head _, m⟩
    rcases List.mem_append.mp m with m | m
    · exact .inl (List.mem_singleton.mp m)
    · rcases joinL_signs s (q :: r) c m with e | ⟨w, hw, hc⟩
      · exact .inl e
      · exact .inr ⟨w, .tail _ hw, hc⟩
theorem line_signs {ws : List Str} (h : ∀ w ∈ ws, isNm w = true ∨ w = "places" ∨ w = "tie") : 10 ∉ tl (Txt.join " " ws) := by
  rw [join_eq, tl_join, show tl (" " : Str) = [32] by decide +kernel]
  intro m
  rcases joinL_signs 32 _ _ m with e | ⟨w, hw, hc⟩
  · exact absurd e (by decide)
  · obtain ⟨z, hz, rfl⟩ := List.mem_map.mp hw
    have := (word_signs (h z hz) 10 hc).1
    omega
theorem once_tie {ts : List (Str × Str)} (h : Once ts) {i : Nat} {t : Str × Str} (ht : ts[i]? = some t) : tieIn (ts.take i) t = false := by
  rw [← Bool.not_eq_true]
  intro k
  have key : ∀ s ∈ ts.take i, ¬ Twin s t := fun s hs tw => by
    obtain ⟨j, hj⟩ := List.mem_iff_getElem?.mp hs
    rw [List.getElem?_take] at hj
    split at hj
    · rename_i lt
      obtain ⟨l1, e1⟩ := List.getElem?_eq_some_iff.mp hj
      obtain ⟨l2, e2⟩ := List.getElem?_eq_some_iff.mp ht
      have := List.pairwise_iff_getElem.mp h.2 j i l1 l2 lt
      rw [e1, e2] at this
      exact this tw
    · cases hj
  rcases tieIn_iff.mp k with m | m
  · exact key _ m (.inl rfl)
  · exact key _ m (.inr rfl)
theorem good_lines {ps : List Str} {ts : List (Str × Str)} (nm : ∀ z ∈ ps, isNm z = true) (inn : ∀ t ∈ ts, t.1 ∈ ps ∧ t.2 ∈ ps) (o : Once ts) (most : ts.length ≤ 45) : ∀ i, i ≤ ts.length → Good ps ((ts.take i).map lineOf) (ts.take i)
  | 0, _ => .nil
  | i + 1, hi => by
    have ht : ts[i]? = some ts[i] := List.getElem?_eq_getElem (by omega)
    have hm : ts[i] ∈ ts := List.getElem_mem _
    rw [take_more ht, List.map_append]
    obtain ⟨m1, m2⟩ := inn _ hm
    refine .snoc (good_lines nm inn o most i (by omega)) (readTie_yes (a := "tie") (b := ts[i].1) (c := ts[i].2) ?_ ⟨rfl, m1, m2, o.1 _ hm, once_tie o ht⟩) ?_
    · refine split_line (by simp) fun w hw => ?_
      simp only [List.mem_cons, List.not_mem_nil, or_false] at hw
      rcases hw with rfl | rfl | rfl
      · exact .inr (.inr rfl)
      · exact .inl (nm _ m1)
      · exact .inl (nm _ m2)
    · rw [List.length_take]
      omega
theorem lore_net {ps : List Str} {ts : List (Str × Str)} (L : LoreOk ps ts) : NetOk (textOf ps ts) ps ts := by
  have wp : ∀ w ∈ ("places" : Str) :: ps, isNm w = true ∨ w = "places" ∨ w = "tie" := fun w hw => by
    rcases List.mem_cons.mp hw with rfl | hw
    · exact .inr (.inl rfl)
    · exact .inl (L.nm w hw)
  have wt : ∀ t ∈ ts, ∀ w ∈ [("tie" : Str), t.1, t.2], isNm w = true ∨ w = "places" ∨ w = "tie" := fun t ht w hw => by
    simp only [List.mem_cons, List.not_mem_nil, or_false] at hw
    rcases hw with rfl | rfl | rfl
    · exact .inr (.inr rfl)
    · exact .inl (L.nm _ (L.inn t ht).1)
    · exact .inl (L.nm _ (L.inn t ht).2)
  have e : Txt.split (textOf ps ts) "\n" = Txt.join " " ("places" :: ps) :: ts.map lineOf := by
    refine split_join (y := "\n") (s := 10) (S := []) (by decide +kernel) (by decide +kernel) (by simp) fun p hp => ?_
    rcases List.mem_cons.mp hp with rfl | hp
    · exact line_signs wp
    · obtain ⟨t, ht, rfl⟩ := List.mem_map.mp hp
      exact line_signs (wt t ht)
  have ne : ps ≠ [] := fun z => by have := L.h3; rw [z] at this; simp at this
  have e1 : head1 (textOf ps ts) = Txt.join " " ("places" :: ps) := by
    unfold head1
    rw [e]
    rfl
  have e2 : tail1 (textOf ps ts) = ts.map lineOf := by
    unfold tail1
    rw [e]
    rfl
  refine ⟨?_, ne, ?_, L.few⟩
  · rw [e1]
    unfold readPlaces
    rw [split_line (by simp) wp]
    exact if_pos ⟨rfl, L.h3, L.h16, List.all_eq_true.mpr L.nm, L.nd⟩
  · rw [e2]
    have := good_lines L.nm L.inn L.once L.most ts.length (Nat.le_refl _)
    rw [List.take_length] at this
    exact this
end NetM
namespace K05
open PySem L2 NetM PySem.Spec PyProof.Rows
/-- some of these, as many as wanted -/
def spSome (K : PySem.W.Frag) : Sp := fun vs H Q _ => ∃ (p l : Addr) (k n : Nat) (xs : List V), vs = [.ref p, .ref l, .int n] ∧ PotAt H p k ∧ k + n ≤ 5000 ∧ p ≠ l ∧ H l = some (.lst xs) ∧ n ≤ xs.length ∧ xs.length ≤ 1000 ∧
  ∀ H' q ys, SameBut p H H' → PotAt H' p (k + n) → H q = none → H' q = some (.lst ys) → ys.length = n → (∃ zs, (ys ++ zs).Perm xs) → Q (.ref q) H'
theorem erase_perm {α : Type} : ∀ {l : List α} {j : Nat} {y : α}, l[j]? = some y → l.Perm ([y] ++ l.eraseIdx j)
  | [], j, y, h => by simp at h
  | a :: l, 0, y, h => by
    have e : a = y := by simpa using h
    rw [e]
    exact List.Perm.refl _
  | a :: l, j + 1, y, h => by
    have ih := erase_perm (l := l) (j := j) (y := y) (by simpa using h)
    exact (ih.cons a).trans (List.Perm.swap y a _)
section
variable {P : Program} {w : World} {K : PySem.W.Frag} {mg : Str → Option Value} {base : Heap} {ad : Adr}
theorem sc__law_some : FnScope ["_law_pot_here", "_law_pool", "_law_wanted", "_law_pool_left", "_law_found", "_law_turn"] ["_law_pot_here", "_law_pool", "_law_wanted"] (defScope s__law_some) := ⟨rfl, rfl, rfl, by decide +kernel, rfl, by decide +kernel, by decide +kernel⟩
theorem ok__law_some {f : Addr} {fd fd1 : FuncData} (F : Fun K "_law_some" "_law_some" s__law_some f fd) (T : Txt K mg ad)
    (G__law_take : FnOk P w K mg base CX0 1 ad.f__law_take fd1 ["_law_pot_here", "_law_upto"] spTake) (b__law_take : Binds K fd1 ["_law_pot_here", "_law_upto"] []) : FnOk P w K mg base CX0 2 f fd ["_law_pot_here", "_law_pool", "_law_wanted"] (spSome K) := by
  refine F.ok sc__law_some (fun vs H Q E h => ?_) (fun cdv A outer s H vs Q E hr h => ?_)
  · obtain ⟨_, _, _, _, _, rfl, _⟩ := h
    rfl
  · obtain ⟨p, l, m, n, xs, rfl, hp, hm, pl, hl, hn, hx, k⟩ := h
    have h__law_take := hr
    refine ⟨_, (pss_cons (ps_par (i := 3) (j := 4) (by rfl) sc__law_some.nd rfl rfl (by decide) rfl rfl (pa_cons (pe_callTy call_list_of (by rfl) T.n_list (by decide +kernel) (pa_cons (pv 1) pa_nil)) (pa_cons (pe_lst pa_nil) pa_nil)) (by rfl))
      (pss_cons (ps_for PassesOwn.never rfl (pi_range1 (by rfl) T.n_range (pa_cons (pv 2) pa_nil)) (pg_name (i := 5) sc__law_some.nd rfl (Or.inl rfl)) (pss_one (ps_expr (pe_bm PySem.F.plainAttrs_list PySem.F.slot_list_append PySem.F.type_list_append mt_append (pv 4) (pa_cons (pe_bm PySem.F.plainAttrs_list PySem.F.slot_list_pop PySem.F.type_list_pop mt_popAt (pv 3) (pa_cons (pe_call G__law_take h__law_take (by rfl) T.m__law_take T.k__law_take b__law_take .nil pass0 (pa_cons (pv 0) (pa_cons (pe_callB (kLen (K := K)) (by rfl) T.n_len (by decide +kernel) (pa_cons (pv 3) pa_nil)) pa_nil))) pa_nil)) pa_nil)))))
      (pss_one (ps_ret (pv 4))))), ?_⟩
    refine ⟨_, rfl, l, xs, rfl, .inl (SqL.of hl), fun c nc => ?_⟩
    have sc : Same H (upd H c (.lst xs)) := same_new nc
    have fc : upd H c (.lst xs) c = some (.lst xs) := upd_same
    obtain ⟨op, hop⟩ := potAt_len hp
    have pc : p ≠ c := ne_of_none hop nc
    have hp1 := hp.same sc
    have ncH := nc
    generalize upd H c (.lst xs) = H1 at sc fc hp1 ⊢
    refine ⟨Nat.zero_le _, fun q nq => ⟨_, _, rfl, ?_⟩⟩
    have sq : Same H1 (upd H1 q (.lst ([] : List V))) := same_new nq
    have fq : upd H1 q (.lst ([] : List V)) q = some (.lst ([] : List V)) := upd_same
    have cq : c ≠ q := ne_of_none fc nq
    obtain ⟨op1, hop1⟩ := potAt_len hp1
    have pq : p ≠ q := ne_of_none hop1 nq
    have nqH : H q = none := none_of_same sc nq
    have hp2 := hp1.same sq
    have fc2 := sq _ _ fc
    have sA := Same.trans sc sq
    generalize upd H1 q (.lst ([] : List V)) = H2 at sq fq hp2 fc2 sA ⊢
    refine ⟨_, rfl, (n : Int), rfl, by omega, by omega, ?_⟩
    refine for_it (walk_range (lo := 0) (n := (n : Int).toNat)) (fun i σ Hc => ∃ s5 ys zs, σ = [some (.ref p), some (.ref l), some (.int n), some (.ref c), some (.ref q), s5] ∧ SameBut p H Hc ∧ PotAt Hc p (m + i) ∧ Hc c = some (.lst zs) ∧ Hc q = some (.lst ys) ∧
      ys.length = i ∧ zs.length + i = xs.length ∧ (ys ++ zs).Perm xs)
      ⟨none, [], xs, rfl, sA.but, hp2, fc2, fq, rfl, rfl, List.Perm.refl _⟩ (fun _ _ _ _ _ => trivial) ?_ ?_
    · rintro i x σ Hc H' hi ⟨s5, ys, zs, rfl, sb, hpc, hc, hq, ly, lz, pz⟩ ⟨rfl, rfl⟩
      rw [Int.toNat_natCast] at hi
      refine ⟨_, rfl, .inl ⟨rfl, _, SqL.of hq⟩, _, rfl, .inl ⟨rfl, _, SqL.of hc⟩, _, rfl, _, rfl, c, zs, rfl, .inl (SqL.of hc), p, m + i, _, rfl, hpc, by omega, by omega, by omega, fun H3 d sb3 hp3 d0 d1 => ?_⟩
      have hc3 := sb3 _ _ pc.symm hc
      have hq3 := sb3 _ _ pq.symm hq
      obtain ⟨y, ey, hy⟩ := atI_of d0 d1
      obtain ⟨j, hj, hyj, lj, _, _⟩ := atI_get ey
      refine ⟨c, zs, d, j, y, rfl, rfl, hc3, by omega, by omega, hj, hyj, ?_⟩
      have cp : p ≠ c := pc
      have hq4 : upd H3 c (.lst (zs.eraseIdx j)) q = some (.lst ys) := by
        rw [upd_ne cq.symm]
        exact hq3
      refine ⟨q, ys, y, rfl, rfl, hq4, by rw [ly]; exact Nat.lt_of_le_of_lt (by omega : i ≤ 1000) (by decide), ?_⟩
      refine ⟨_, ys ++ [y], zs.eraseIdx j, rfl, fun b u nb eb => ?_, ?_, ?_, upd_same, ?_, ?_, ?_⟩
      · rw [upd_ne (ne_of_none eb nqH), upd_ne (ne_of_none eb ncH)]
        exact sb3 _ _ nb (sb _ _ nb eb)
      · obtain ⟨o, a, b, e, r⟩ := hp3
        exact ⟨o, a, b, by rw [upd_ne pq, upd_ne pc]; exact e, by omega⟩
      · rw [upd_ne cq]
        exact upd_same
      · rw [List.length_append, ly]
        rfl
      · rw [List.length_eraseIdx_of_lt lj]
        omega
      · rw [List.append_assoc]
        exact ((erase_perm hyj).symm.append_left ys).trans pz
    · rintro σ Hc ⟨s5, ys, zs, rfl, sb, hpc, hc, hq, ly, lz, pz⟩
      rw [Int.toNat_natCast] at hpc ly
      exact ⟨_, rfl, k Hc q ys sb hpc nqH hq ly ⟨zs, pz⟩⟩
end
end K05
namespace K05
open PySem L2 NetM PySem.Spec PyProof.Rows
def pool : List Str := ["a", "b", "c", "d", "e", "f", "g", "h", "tie", "places", "zzzzzzzz", "xy", "x", "yx", "m", "n", "o", "ring"]
/-- as many names as wanted -/
def spNames : Sp := fun vs H Q _ => ∃ (p : Addr) (k n : Nat), vs = [.ref p, .int n] ∧ PotAt H p k ∧ k + n ≤ 5000 ∧ n ≤ 18 ∧
  ∀ H' q (ys : List Str), SameBut p H H' → PotAt H' p (k + n) → H q = none → H' q = some (.lst (ys.map V.str)) → ys.length = n → ys.Nodup → (∀ y ∈ ys, y ∈ pool) → Q (.ref q) H'
theorem strs_of : ∀ {ys : List V}, (∀ y ∈ ys, y ∈ pool.map V.str) → ∃ zs : List Str, ys = zs.map V.str ∧ ∀ z ∈ zs, z ∈ pool
  | [], _ => ⟨[], rfl, fun _ h => absurd h (List.not_mem_nil)⟩
  | y :: ys, h => by
    obtain ⟨zs, e, m⟩ := strs_of fun v hv => h v (.tail _ hv)
    obtain ⟨z, hz, rfl⟩ := List.mem_map.mp (h y (.head _))
    exact ⟨z :: zs, by rw [e]; rfl, fun v hv => (List.mem_cons.mp hv).elim (fun q => q ▸ hz) (m v)⟩
section
variable {P : Program} {w : World} {K : PySem.W.Frag} {mg : Str → Option Value} {base : Heap} {ad : Adr}
theorem sc__law_names : FnScope ["_law_pot_here", "_law_amount", "_law_pool"] ["_law_pot_here", "_law_amount"] (defScope s__law_names) := ⟨rfl, rfl, rfl, by decide +kernel, rfl, by decide +kernel, by decide +kernel⟩
theorem ok__law_names {f : Addr} {fd fd1 : FuncData} (F : Fun K "_law_names" "_law_names" s__law_names f fd) (T : Txt K mg ad)
    (G__law_some : FnOk P w K mg base CX0 2 ad.f__law_some fd1 ["_law_pot_here", "_law_pool", "_law_wanted"] (spSome K)) (b__law_some : Binds K fd1 ["_law_pot_here", "_law_pool", "_law_wanted"] []) : FnOk P w K mg base CX0 3 f fd ["_law_pot_here", "_law_amount"] spNames := by
  refine F.ok sc__law_names (fun vs H Q E h => ?_) (fun cdv A outer s H vs Q E hr h => ?_)
  · obtain ⟨_, _, _, rfl, _⟩ := h
    rfl
  · obtain ⟨p, m, n, rfl, hp, hm, hn, k⟩ := h
    have h__law_some := hr
    refine ⟨_, (pss_cons (ps_set (i := 2) sc__law_names.nd rfl (Or.inl rfl) (pe_lst (pa_cons pe_str (pa_cons pe_str (pa_cons pe_str (pa_cons pe_str (pa_cons pe_str (pa_cons pe_str (pa_cons pe_str (pa_cons pe_str (pa_cons pe_str (pa_cons pe_str (pa_cons pe_str (pa_cons pe_str (pa_cons pe_str (pa_cons pe_str (pa_cons pe_str (pa_cons pe_str (pa_cons pe_str (pa_cons pe_str pa_nil))))))))))))))))))))
      (pss_one (ps_ret (pe_call G__law_some h__law_some (by rfl) T.m__law_some T.k__law_some b__law_some .nil pass0 (pa_cons (pv 0) (pa_cons (pv 2) (pa_cons (pv 1) pa_nil))))))), ?_⟩
    refine ⟨by show 18 ≤ sizeLine; decide, fun l nl => ?_⟩
    obtain ⟨op, hop⟩ := potAt_len hp
    have pl : p ≠ l := ne_of_none hop nl
    refine ⟨_, rfl, _, rfl, _, rfl, p, l, m, n, pool.map V.str, rfl, hp.same (same_new nl), hm, pl, upd_same, hn, by decide, fun H2 q ys sb hp2 nq hq ly my => ?_⟩
    obtain ⟨rest, pm⟩ := my
    obtain ⟨zs, rfl, mz⟩ := strs_of fun y hy => pm.mem_iff.mp (List.mem_append_left _ hy)
    have nd : (pool.map V.str).Nodup := by
      have np : pool.Nodup := by decide +kernel
      exact List.pairwise_map.mpr (np.imp fun ne e => ne (V.str.inj e))
    have nz : zs.Nodup := ((List.pairwise_map.mp (List.nodup_append.mp (pm.nodup_iff.mpr nd)).1).imp fun {a b} (h : V.str a ≠ V.str b) (e : a = b) => h (congrArg V.str e))
    have nqH : H q = none := none_of_same (same_new nl) nq
    exact k H2 q zs (fun b o nb e => sb b o nb (same_new nl _ _ e)) hp2 nqH hq (by rw [← ly, List.length_map]) nz mz
end
end K05
namespace K05
open PySem L2 NetM PySem.Spec PyProof.Rows
theorem cost_names {n : Nat} : ∀ {ps : List Str}, (∀ z ∈ ps, z.length ≤ n) → cost ps ≤ (n + 1) * ps.length
  | [], _ => Nat.zero_le _
  | p :: ps, h => by
    have ih := cost_names fun z hz => h z (.tail _ hz)
    have hp := h p (.head _)
    have e : (n + 1) * (ps.length + 1) = (n + 1) * ps.length + (n + 1) := Nat.mul_succ _ _
    rw [cost_cons, List.length_cons]
    omega
theorem join_ok {a : Str} {ys : List Str} (h : a.length = 1) (c : cost ys ≤ 16777216) : (ys.map (·.length)).sum + ys.length * a.length ≤ 16777216 := by
  rw [h, Nat.mul_one]
  exact c
theorem line_len {t : Str × Str} (h : t.1.length ≤ 8 ∧ t.2.length ≤ 8) : (lineOf t).length ≤ 22 := by
  have cc : cost [("tie" : Str), t.1, t.2] ≤ 22 := by
    rw [cost_cons, cost_cons, cost_cons, cost_nil, show ("tie" : Str).length = 3 by decide +kernel]
    omega
  exact Nat.le_trans (join_cost (y := " ") (s := 32) (by decide +kernel) _) cc
/-- the text of places and ties -/
def spText : Sp := fun vs H Q _ => ∃ t ps ties, vs = [.ref t] ∧ LoreAt H t ps ties ∧ ps.length ≤ 16 ∧ (∀ z ∈ ps, z.length ≤ 8) ∧ ties.length ≤ 45 ∧ (∀ t ∈ ties, t.1.length ≤ 8 ∧ t.2.length ≤ 8) ∧ ∀ H', Same H H' → Q (.str (textOf ps ties)) H'
section
variable {P : Program} {w : World} {K : PySem.W.Frag} {mg : Str → Option Value} {base : Heap} {ad : Adr}
theorem sc__law_text : FnScope ["_law_lore_here", "_law_tie"] ["_law_lore_here"] (defScope s__law_text) := ⟨rfl, rfl, rfl, by decide +kernel, rfl, by decide +kernel, by decide +kernel⟩
theorem ok__law_text {f : Addr} {fd : FuncData} (F : Fun K "_law_text" "_law_text" s__law_text f fd) (T : Txt K mg ad) : FnOk P w K mg base CX0 1 f fd ["_law_lore_here"] spText := by
  refine F.ok sc__law_text (fun vs H Q E h => ?_) (fun cdv A outer s H vs Q E hr h => ?_)
  · obtain ⟨_, _, _, rfl, _⟩ := h
    rfl
  · obtain ⟨t, ps, ties, rfl, hL, l8, mp, l40, ip, k⟩ := h
    refine ⟨_, (pss_one (ps_ret (kJoin (K := K) pe_str (pe_op op_cat (pe_lst (pa_cons (kJoin (K := K) pe_str (pe_op op_cat (pe_lst (pa_cons pe_str pa_nil)) (pe_ix (kIxT (K := K)) (pv 0) pe_int (fun _ _ => rfl)))) pa_nil)) (pe_lc (own := [("_law_tie", 1)]) (g := gName 1) rfl sc__law_text.nd (kLstI (K := K) (pe_ix (kIxT (K := K)) (pv 0) pe_int (fun _ _ => rfl))) (blkOk_by (N := ["_law_lore_here", "_law_tie"]) (sc := defScope s__law_text) (by decide +kernel)) (fun _ _ _ _ _ => pg_name (i := 1) sc__law_text.nd rfl (Or.inl rfl)) (fun _ _ _ _ _ => pts_nil) (fun _ _ _ _ _ => (kJoin (K := K) pe_str (pe_op op_cat (pe_lst (pa_cons pe_str pa_nil)) (pe_callTy (kListOf (K := K)) (by rfl) T.n_list (by decide +kernel) (pa_cons (pv 1) pa_nil)))))))))), ?_⟩
    obtain ⟨a, l, ft, fa, asl, fl, prl⟩ := id hL
    refine ⟨⟨_, rfl⟩, ⟨_, rfl⟩, by show 1 ≤ sizeLine; decide, fun c1 n1 => ?_⟩
    have s1 : Same H (upd H c1 (.lst [.str "places"])) := same_new n1
    refine ⟨_, rfl, t, _, (0 : Int), .ref a, rfl, rfl, SqT.of (s1 _ _ ft), rfl, c1, a, _, _, rfl, rfl, upd_same, s1 _ _ fa, by rw [List.length_map]; exact Nat.le_trans (by show 1 + ps.length ≤ 100; omega) (by decide), fun c2 n2 => ?_⟩
    have s2 : Same H (upd (upd H c1 (.lst [.str "places"])) c2 (.lst ([.str "places"] ++ ps.map V.str))) := Same.trans s1 (same_new n2)
    have h2 : upd (upd H c1 (.lst [.str "places"])) c2 (.lst ([.str "places"] ++ ps.map V.str)) c2 = some (.lst ((("places" : Str) :: ps).map V.str)) := upd_same
    generalize upd (upd H c1 (.lst [.str "places"])) c2 (.lst ([.str "places"] ++ ps.map V.str)) = H2 at s2 h2 ⊢
    have cp := cost_names mp
    have cpl : cost (("places" : Str) :: ps) ≤ 151 := by
      rw [cost_cons, show ("places" : Str).length = 6 by decide +kernel]
      omega
    refine ⟨" ", c2, ("places" : Str) :: ps, rfl, rfl, .inl (SqL.of h2), join_ok (by decide +kernel) (Nat.le_trans cpl (by decide)), ?_⟩
    have lj := Nat.le_trans (join_cost (y := " ") (s := 32) (by decide +kernel) (("places" : Str) :: ps)) cpl
    refine ⟨by show 1 ≤ sizeLine; decide, fun c3 n3 => ?_⟩
    have s3 : Same H2 (upd H2 c3 (.lst [.str (Txt.join " " ("places" :: ps))])) := same_new n3
    have h3 : upd H2 c3 (.lst [.str (Txt.join " " ("places" :: ps))]) c3 = some (.lst [.str (Txt.join " " ("places" :: ps))]) := upd_same
    generalize upd H2 c3 (.lst [.str (Txt.join " " ("places" :: ps))]) = H3 at s3 h3 ⊢
    have s13 := Same.trans s2 s3
    have fl3 := s13 _ _ fl
    refine ⟨_, rfl, t, _, (1 : Int), .ref l, rfl, rfl, SqT.of (s13 _ _ ft), rfl, l, rfl, ⟨_, SqL.of fl3⟩, fun D nD => ?_⟩
    refine lcB walk_list (fun j Hc => Same H3 Hc ∧ Hc D = some (.lst (((ties.take j).map lineOf).map V.str))) ⟨same_new nD, upd_same⟩ (fun j Hc _ z => SqL.of (z.1 _ _ fl3)) ?_ ?_
    · rintro j x Hc H' hj ⟨sc, hD⟩ ⟨rfl, hx⟩
      obtain ⟨a, p, rfl, hp, fp⟩ := pair_at prl hx
      rw [List.length_map, Paired.length prl] at hj
      have pl := ip p (List.mem_of_getElem? hp)
      have fp' : PairAt H' a p := sc _ _ (s13 _ _ fp)
      refine ⟨rfl, ⟨_, rfl⟩, by show 1 ≤ sizeLine; decide, fun e1 ne1 => ?_⟩
      have t1 : Same H' (upd H' e1 (.lst [.str "tie"])) := same_new ne1
      refine ⟨_, rfl, a, _, rfl, .inr (SqT.of (t1 _ _ fp')), fun e2 ne2 => ?_⟩
      have t2 := Same.trans t1 (same_new (o := .lst [V.str p.1, .str p.2]) ne2)
      refine ⟨e1, e2, _, _, rfl, rfl, same_new ne2 _ _ upd_same, upd_same, by show 3 ≤ sizeLine; decide, fun e3 ne3 => ?_⟩
      have t3 := Same.trans t2 (same_new (o := .lst ([V.str "tie"] ++ [V.str p.1, .str p.2])) ne3)
      have cc : cost [("tie" : Str), p.1, p.2] ≤ 22 := by
        rw [cost_cons, cost_cons, cost_cons, cost_nil, show ("tie" : Str).length = 3 by decide +kernel]
        omega
      refine ⟨" ", e3, [("tie" : Str), p.1, p.2], rfl, rfl, .inl (SqL.of upd_same), join_ok (by decide +kernel) (Nat.le_trans cc (by decide)), ?_⟩
      refine ⟨_, t3 _ _ hD, ?_, fun b o eb => ?_, by rw [upd_same, take_more hp, List.map_append, List.map_append]; rfl⟩
      · rw [List.length_map, List.length_map, List.length_take]
        exact Nat.lt_of_le_of_lt (by omega : _ ≤ 100) (by decide)
      · rw [upd_ne (ne_of_none eb nD)]
        exact t3 _ _ (sc _ _ eb)
    rintro H4 ⟨s4, hD⟩
    rw [List.length_map, Paired.length prl, List.take_length] at hD
    refine ⟨c3, D, _, _, rfl, rfl, s4 _ _ h3, hD, by rw [List.length_map, List.length_map]; exact Nat.le_trans (by show 1 + ties.length ≤ 100; omega) (by decide), fun c5 n5 => ?_⟩
    have cl : cost (ties.map lineOf) ≤ (22 + 1) * (ties.map lineOf).length := cost_names fun z hz => by
      obtain ⟨t, ht, rfl⟩ := List.mem_map.mp hz
      exact line_len (ip t ht)
    rw [List.length_map] at cl
    have cw : cost (Txt.join " " ("places" :: ps) :: ties.map lineOf) ≤ 2000 := by
      rw [cost_cons]
      omega
    refine ⟨"\n", c5, Txt.join " " ("places" :: ps) :: ties.map lineOf, rfl, rfl, .inl (SqL.of upd_same), join_ok (by decide +kernel) (Nat.le_trans cw (by decide)), ?_⟩
    exact k _ (Same.trans s13 (Same.trans s4 (same_new n5)))
end
end K05
namespace NetM
open PySem L2
theorem legs_get {w : List Str} {i : Nat} (h : i + 1 < w.length) : (legs w)[i]? = some (w.getD i "", w.getD (i + 1) "") := by
  unfold legs
  rw [List.getElem?_zip_eq_some]
  constructor
  · show w[i]? = some (w.getD i "")
    rw [List.getD_eq_getElem?_getD, List.getElem?_eq_getElem (by omega)]
    rfl
  · show (w.drop 1)[i]? = some (w.getD (i + 1) "")
    rw [List.getElem?_drop, Nat.add_comm 1 i, List.getD_eq_getElem?_getD, List.getElem?_eq_getElem h]
    rfl
/-- the ties of the ring through the first u names -/
def ringOf (nm : List Str) (u : Nat) : List (Str × Str) := (List.range u).map fun i => (nm.getD i "", nm.getD ((i + 1) % u) "")
theorem ring_len (nm : List Str) (u : Nat) : (ringOf nm u).length = u := by
  unfold ringOf
  rw [List.length_map, List.length_range]
theorem ring_ears {nm : List Str} {u : Nat} (nd : nm.Nodup) (h3 : 3 ≤ u) (hu : u ≤ nm.length) : Ears (nm.take u) (ringOf nm u) := by
  obtain ⟨a, b, r, e⟩ : ∃ a b r, nm.take u = a :: b :: r := by
    have l : (nm.take u).length = u := by rw [List.length_take]; omega
    match h : nm.take u with
    | [] => rw [h] at l; simp at l; omega
    | [a] => rw [h] at l; simp at l; omega
    | a :: b :: r => exact ⟨a, b, r, rfl⟩
  have lr : r.length + 2 = u := by
    have l : (nm.take u).length = u := by rw [List.length_take]; omega
    rw [e] at l
    simpa using l
  have nt : (a :: b :: r).Nodup := e ▸ (List.take_sublist u nm).nodup nd
  obtain ⟨n1, n2⟩ := List.nodup_cons.mp nt
  obtain ⟨n3, n4⟩ := List.nodup_cons.mp n2
  have ab : a ≠ b := fun z => n1 (z ▸ .head _)
  have g : ∀ j, j < u → nm.getD j "" = (a :: b :: r).getD j "" := fun j hj => by
    rw [List.getD_eq_getElem?_getD, List.getD_eq_getElem?_getD, ← e, List.getElem?_take, if_pos hj]
  have E := Ears.ear (.base ab) (a := b) (b := a) (inner := r) (.tail _ (.head _)) (.head _) (fun z => ab z.symm) n4 (fun x hx hm => by
    simp only [List.mem_cons, List.not_mem_nil, or_false] at hm
    rcases hm with z | z
    · exact n1 (z ▸ .tail _ hx)
    · exact n3 (z ▸ hx)) (fun z => by rw [z] at lr; simp at lr; omega)
  have el : ringOf nm u = [(a, b)] ++ legs (b :: (r ++ [a])) := by
    refine List.ext_getElem? fun i => ?_
    by_cases hi : i < u
    · have e1 : (ringOf nm u)[i]? = some (nm.getD i "", nm.getD ((i + 1) % u) "") := by
        unfold ringOf
        rw [List.getElem?_map, List.getElem?_range hi]
        rfl
      rw [e1, g i hi, g _ (Nat.mod_lt _ (by omega))]
      cases i with
      | zero =>
        rw [Nat.mod_eq_of_lt (by omega)]
        rfl
      | succ i =>
        have lw : (b :: (r ++ [a])).length = r.length + 2 := by simp
        rw [List.getElem?_append_right (by simp), List.length_singleton, Nat.add_sub_cancel, legs_get (by rw [lw]; omega)]
        congr 1
        have q1 : (a :: b :: r).getD (i + 1) "" = (b :: (r ++ [a])).getD i "" := by
          rw [List.getD_cons_succ, List.getD_eq_getElem?_getD, List.getD_eq_getElem?_getD, show b :: (r ++ [a]) = (b :: r) ++ [a] from rfl, List.getElem?_append_left (by rw [List.length_cons]; omega)]
        refine Prod.ext q1 ?_
        show (a :: b :: r).getD ((i + 1 + 1) % u) "" = (b :: (r ++ [a])).getD (i + 1) ""
        by_cases h : i + 1 + 1 < u
        · rw [Nat.mod_eq_of_lt h, List.getD_cons_succ, List.getD_eq_getElem?_getD, List.getD_eq_getElem?_getD, show b :: (r ++ [a]) = (b :: r) ++ [a] from rfl, List.getElem?_append_left (by rw [List.length_cons]; omega)]
        · have hh : i + 1 + 1 = u := by omega
          rw [hh, Nat.mod_self, List.getD_eq_getElem?_getD, List.getD_eq_getElem?_getD, show b :: (r ++ [a]) = (b :: r) ++ [a] from rfl, List.getElem?_append_right (by rw [List.length_cons]; omega), List.length_cons, show i + 1 - (r.length + 1) = 0 by omega]
          rfl
    · rw [List.getElem?_eq_none (by rw [ring_len]; omega), List.getElem?_eq_none (by rw [List.length_append, legs_len]; simp; omega)]
  rw [e, el]
  exact E
/-- the ring and its ties, one more -/
theorem ring_more (nm : List Str) (u i : Nat) : (List.range (i + 1)).map (fun i => (nm.getD i "", nm.getD ((i + 1) % u) "")) = (List.range i).map (fun i => (nm.getD i "", nm.getD ((i + 1) % u) "")) ++ [(nm.getD i "", nm.getD ((i + 1) % u) "")] := by
  rw [List.range_succ, List.map_append]
  rfl
/-- an ear over the next names -/
theorem ears_next {nm : List Str} {u w : Nat} {ts : List (Str × Str)} {a b : Str} (nd : nm.Nodup) (E : Ears (nm.take u) ts) (hu : u + w ≤ nm.length) (ha : a ∈ nm.take u) (hb : b ∈ nm.take u) (ne : a ≠ b) (h : w = 0 → tieIn ts (a, b) = false) :
    Ears (nm.take (u + w)) (ts ++ legs (a :: ((nm.drop u).take w ++ [b]))) := by
  rw [List.take_add]
  have nd2 : (nm.take u ++ nm.drop u).Nodup := by rw [List.take_append_drop]; exact nd
  obtain ⟨n1, n2, n3⟩ := List.nodup_append.mp nd2
  refine .ear E ha hb ne ((List.take_sublist w _).nodup n2) (fun x hx hm => n3 x hm x (List.mem_of_mem_take hx) rfl) fun z => h ?_
  have l := congrArg List.length z
  rw [List.length_take, List.length_drop] at l
  simp at l
  omega
theorem paired_zip {α β : Type} {F : α → β → Prop} : ∀ {l : List α} {m : List β}, Paired F l m → ∀ p ∈ l.zip m, F p.1 p.2
  | _, _, .nil, p, h => absurd h (List.not_mem_nil)
  | _, _, .cons f r, p, h => by
    rcases List.mem_cons.mp (show p ∈ (_, _) :: _ from h) with rfl | h
    · exact f
    · exact paired_zip r p h
theorem paired_unzip {α β : Type} {F : α → β → Prop} : ∀ {z : List (α × β)}, (∀ p ∈ z, F p.1 p.2) → Paired F (z.map Prod.fst) (z.map Prod.snd)
  | [], _ => .nil
  | p :: z, h => .cons (h p (.head _)) (paired_unzip fun q hq => h q (.tail _ hq))
/-- an arrangement of some pairs of a list -/
theorem pairs_perm {H : Hp} {as : List Addr} {ts : List (Str × Str)} (r : Paired (PairAt H) as ts) {ys : List V} (p : ys.Perm (as.map V.ref)) : ∃ (bs : List Addr) (us : List (Str × Str)), ys = bs.map V.ref ∧ Paired (PairAt H) bs us ∧ us.Perm ts := by
  obtain ⟨bs, pb, rfl⟩ := L2.perm_lift V.ref p as rfl
  have l1 : as.length = ts.length := r.length
  obtain ⟨z, pz, ez⟩ := L2.perm_lift Prod.fst pb (as.zip ts) (List.map_fst_zip (by omega))
  refine ⟨bs, z.map Prod.snd, rfl, ?_, ?_⟩
  · rw [← ez]
    exact paired_unzip fun q hq => paired_zip r q (pz.mem_iff.mp hq)
  · have q := pz.map Prod.snd
    rw [List.map_snd_zip (by omega)] at q
    exact q
theorem strs_perm {xs : List Str} {ys : List V} (p : ys.Perm (xs.map V.str)) : ∃ zs : List Str, ys = zs.map V.str ∧ zs.Perm xs := by
  obtain ⟨zs, pz, e⟩ := L2.perm_lift V.str p xs rfl
  exact ⟨zs, e.symm, pz⟩
/-- nothing is left of what was drawn whole -/
theorem perm_whole {α : Type} {ys zs xs : List α} (p : (ys ++ zs).Perm xs) (l : ys.length = xs.length) : ys.Perm xs := by
  have e := p.length_eq
  rw [List.length_append] at e
  have z : zs = [] := List.eq_nil_of_length_eq_zero (by omega)
  rw [z, List.append_nil] at p
  exact p
end NetM
namespace K05
open PySem L2 NetM PySem.Spec PyProof.Rows
theorem pairs_but {H H' : Hp} {p l : Addr} {k : Nat} {ts : List (Str × Str)} (h : PairsL H l ts) (hp : PotAt H p k) (ne : l ≠ p) (s : SameBut p H H') : PairsL H' l ts := by
  obtain ⟨as, e, r⟩ := h
  obtain ⟨o, a, b, ep, _⟩ := hp
  exact ⟨as, s _ _ ne e, Paired.weak (fun x y q => s x _ (ne_of q ep (fun z => by cases z)) q) r⟩
theorem pot_mono {H : Hp} {p : Addr} {m n : Nat} (h : PotAt H p m) (l : m ≤ n) : PotAt H p n := by
  obtain ⟨o, a, b, e, h1, h2, h3, h4⟩ := h
  exact ⟨o, a, b, e, h1, h2, h3, by omega⟩
theorem paired_ext {α β : Type} {F : α → β → Prop} : ∀ {l : List α} {m : List β}, l.length = m.length → (∀ (j : Nat) a b, l[j]? = some a → m[j]? = some b → F a b) → Paired F l m
  | [], [], _, _ => .nil
  | [], b :: m, h, _ => by simp at h
  | a :: l, [], h, _ => by simp at h
  | a :: l, b :: m, h, f => .cons (f 0 a b rfl rfl) (paired_ext (by simpa using h) fun j x y h1 h2 => f (j + 1) x y (by simpa using h1) (by simpa using h2))
/-- list(zip(..)) of two lists of texts: pairs of texts -/
theorem zip_pairs {H : Hp} {p : Addr} {as : List Addr} {rs qs : List Str} (hp : H p = some (.lst (as.map V.ref))) (hl : as.length = min (rs.map V.str).length (qs.map V.str).length)
    (h : ∀ (j : Nat) (c : Addr), as[j]? = some c → ∃ x y, (rs.map V.str)[j]? = some x ∧ (qs.map V.str)[j]? = some y ∧ H c = some (.tup [x, y])) : PairsL H p (rs.zip qs) := by
  refine ⟨as, hp, paired_ext (by rw [hl, List.length_zip, List.length_map, List.length_map]) fun j a b h1 h2 => ?_⟩
  obtain ⟨x, y, e1, e2, e3⟩ := h j a h1
  obtain ⟨z1, z2⟩ := List.getElem?_zip_eq_some.mp h2
  rw [List.getElem?_map, z1] at e1
  rw [List.getElem?_map, z2] at e2
  cases e1
  cases e2
  exact e3
theorem name_get {nm : List Str} {j : Nat} {i : Int} (e : i = (j : Int)) (h : j < nm.length) : atI (nm.map V.str) i = some (.str (nm.getD j "")) := by
  rw [e]
  refine atI_nat ?_
  rw [List.getElem?_map, List.getD_eq_getElem?_getD, List.getElem?_eq_getElem h]
  rfl
theorem cut_to {nm : List Str} {u : Nat} (h : u ≤ nm.length) : cutV (nm.map V.str) none (some (u : Int)) = (nm.take u).map V.str := by
  unfold cutV
  rw [HT.sIx_none, HT.sIx_nat, List.length_map, Nat.min_eq_left h, Nat.sub_zero, List.drop_zero, List.map_take]
theorem cut_fromTo {nm : List Str} {u w : Nat} (h : u + w ≤ nm.length) : cutV (nm.map V.str) (some (u : Int)) (some (((u + w : Nat)) : Int)) = ((nm.drop u).take w).map V.str := by
  unfold cutV
  rw [HT.sIx_nat, HT.sIx_nat, List.length_map, Nat.min_eq_left h, Nat.min_eq_left (by omega), Nat.add_sub_cancel_left, List.map_take, List.map_drop]
theorem cut_from {nm : List Str} {u : Nat} (h : u ≤ nm.length) : cutV (nm.map V.str) (some (u : Int)) none = (nm.drop u).map V.str := by
  unfold cutV
  rw [HT.sIx_nat, HT.sIx_none, List.length_map, Nat.min_eq_left h, List.take_of_length_le (by rw [List.length_drop, List.length_map]; omega), List.map_drop]
theorem small3 {x : V} (h : x ∈ [V.int 0, .int 0, .int 1, .int 1, .int 2]) : ∃ v : Int, x = .int v ∧ 0 ≤ v ∧ v ≤ 2 := by
  simp only [List.mem_cons, List.not_mem_nil, or_false] at h
  rcases h with e | e | e | e | e
  all_goals exact ⟨_, e, by decide, by decide⟩
/-- a pair that stood is put behind a list of pairs -/
theorem pairs_old {H : Hp} {D a : Addr} {acc : List V} {ps : List (Str × Str)} {t : Str × Str} (h : PairsL H D ps) (ha : PairAt H a t) (hD : H D = some (.lst acc)) :
    PairsL (upd H D (.lst (acc ++ [.ref a]))) D (ps ++ [t]) := by
  obtain ⟨as, e, r⟩ := h
  rw [e] at hD
  obtain rfl : as.map V.ref = acc := by
    have z := Option.some.inj hD
    injection z
  have keep : ∀ x q, PairAt H x q → PairAt (upd H D (.lst (as.map V.ref ++ [.ref a]))) x q := fun x q hx => by
    have h1 : x ≠ D := ne_of hx e (fun z => by cases z)
    show upd H D _ x = _
    rw [upd_ne h1]
    exact hx
  exact ⟨as ++ [a], by rw [upd_same, List.map_append]; rfl, Paired.app (Paired.weak keep r) (.cons (keep _ _ ha) .nil)⟩
/-- an if, with what is known on either way -/
theorem if_kn {T : TT} {A B : TS} {D : Ends} {σ : L2.St} {H : Hp} (PA PB : Prop) (hT : ∀ R : Bool → Hp → Prop, (∀ H', Same H H' → PA → R true H') → (∀ H', Same H H' → PB → R false H') → T σ H R)
    (hA : ∀ H', Same H H' → PA → A D σ H') (hB : ∀ H', Same H H' → PB → B D σ H') : tIfS T A B D σ H :=
  hT _ (fun H' s h => hA H' s h) (fun H' s h => hB H' s h)
theorem pool_ok {z : Str} (h : z ∈ pool) : PyData.strOk z = true := List.all_eq_true.mp (by decide +kernel : pool.all PyData.strOk = true) z h
theorem pool_nm {z : Str} (h : z ∈ pool) : isNm z = true := List.all_eq_true.mp (by decide +kernel : pool.all isNm = true) z h
theorem nm_okP {t : Str × Str} (h : isNm t.1 = true ∧ isNm t.2 = true) : okP t = true := by
  unfold okP
  rw [nm_ok h.1, nm_ok h.2]
  rfl
/-- places and ties drawn: a well tied net of names of the pool -/
def spLore : Sp := fun vs H Q _ => ∃ (p : Addr) (k : Nat) (M L : Int), vs = [.ref p, .int M, .int L] ∧ PotAt H p k ∧ k ≤ 4000 ∧ 3 ≤ M ∧ M ≤ 16 ∧ 0 ≤ L ∧ L ≤ 28 ∧
  ∀ H' t ps ties, SameBut p H H' → PotAt H' p (k + 300) → LoreAt H' t ps ties → LoreOk ps ties → (ps.length : Int) ≤ M → (ties.length : Int) ≤ ps.length + L → (∀ z ∈ ps, z ∈ pool) → Q (.ref t) H'
section
variable {P : Program} {w : World} {K : PySem.W.Frag} {mg : Str → Option Value} {base : Heap} {ad : Adr}
theorem sc__law_lore : FnScope ["_law_pot_here", "_law_most", "_law_laps", "_law_names_here", "_law_used", "_law_ties", "_law_lap", "_law_inner", "_law_ends", "_law_road", "_law_turned_ties", "_law_spot", "_law_tie"] ["_law_pot_here", "_law_most", "_law_laps"] (defScope s__law_lore) := ⟨rfl, rfl, rfl, by decide +kernel, rfl, by decide +kernel, by decide +kernel⟩
theorem ok__law_lore {f : Addr} {fd fd1 fd2 fd3 fd4 fd5 : FuncData} (F : Fun K "_law_lore" "_law_lore" s__law_lore f fd) (T : Txt K mg ad)
    (G__law_take : FnOk P w K mg base CX0 1 ad.f__law_take fd1 ["_law_pot_here", "_law_upto"] spTake) (b__law_take : Binds K fd1 ["_law_pot_here", "_law_upto"] [])
    (G__law_of : FnOk P w K mg base CX0 2 ad.f__law_of fd2 ["_law_pot_here", "_law_some_here"] spOf) (b__law_of : Binds K fd2 ["_law_pot_here", "_law_some_here"] [])
    (G__law_some : FnOk P w K mg base CX0 2 ad.f__law_some fd3 ["_law_pot_here", "_law_pool", "_law_wanted"] (spSome K)) (b__law_some : Binds K fd3 ["_law_pot_here", "_law_pool", "_law_wanted"] [])
    (G__law_names : FnOk P w K mg base CX0 3 ad.f__law_names fd4 ["_law_pot_here", "_law_amount"] spNames) (b__law_names : Binds K fd4 ["_law_pot_here", "_law_amount"] [])
    (G__law_is_there : FnOk P w K mg base CX0 1 ad.f__law_is_there fd5 ["_law_ties", "_law_one", "_law_other"] spIsThere) (b__law_is_there : Binds K fd5 ["_law_ties", "_law_one", "_law_other"] []) : FnOk P w K mg base CX0 4 f fd ["_law_pot_here", "_law_most", "_law_laps"] spLore := by
  refine F.ok sc__law_lore (fun vs H Q E h => ?_) (fun cdv A outer s H vs Q E hr h => ?_)
  · obtain ⟨_, _, _, _, rfl, _⟩ := h
    rfl
  · obtain ⟨p, k, M, L, rfl, hp, hk, M3, M16, L0, L28, kQ⟩ := h
    have h__law_take := hr.mono (show 1 ≤ 3 by decide)
    have h__law_of := hr.mono (show 2 ≤ 3 by decide)
    have h__law_some := hr.mono (show 2 ≤ 3 by decide)
    have h__law_is_there := hr.mono (show 1 ≤ 3 by decide)
    have h__law_names := hr
    refine ⟨_, (pss_cons (ps_asg (pe_tup (pa_cons (pe_call G__law_names h__law_names (by rfl) T.m__law_names T.k__law_names b__law_names .nil pass0 (pa_cons (pv 0) (pa_cons pe_int pa_nil))) (pa_cons (pe_op op_add pe_int (pe_call G__law_take h__law_take (by rfl) T.m__law_take T.k__law_take b__law_take .nil pass0 (pa_cons (pv 0) (pa_cons (pe_callB (call_min2 rfl) (by rfl) T.n_min (by decide +kernel) (pa_cons pe_int (pa_cons (pe_op op_sub (pv 1) pe_int) pa_nil))) pa_nil)))) pa_nil))) (kTgt (K := K) (n := 2) (by rfl) (pgs_cons (pg_name (i := 3) sc__law_lore.nd rfl (Or.inr rfl)) (pgs_cons (pg_name (i := 4) sc__law_lore.nd rfl (Or.inr rfl)) pgs_nil))))
      (pss_cons (ps_setLc (i := 5) (own := [("_law_spot", 11)]) (g := gName 11) rfl sc__law_lore.nd rfl rfl (sw_true rfl rfl rfl (by decide +kernel)) (pi_range1 (by rfl) T.n_range (pa_cons (pv 4) pa_nil)) (blkOk_by (N := ["_law_pot_here", "_law_most", "_law_laps", "_law_names_here", "_law_used", "_law_ties", "_law_lap", "_law_inner", "_law_ends", "_law_road", "_law_turned_ties", "_law_spot", "_law_tie"]) (sc := defScope s__law_lore) (by decide +kernel)) (fun _ _ _ _ _ => pg_name (i := 11) sc__law_lore.nd rfl (Or.inl rfl)) (fun _ _ _ _ _ => pts_nil) (fun _ _ _ _ _ => (pe_tup (pa_cons (pe_ix (kIxL (K := K)) (pv 3) (pv 11) (fun _ _ => rfl)) (pa_cons (pe_ix (kIxL (K := K)) (pv 3) (pe_op op_mod (pe_op op_add (pv 11) pe_int) (pv 4)) (fun _ _ => rfl)) pa_nil)))))
      (pss_cons (ps_for PassesOwn.never rfl (pi_range1 (by rfl) T.n_range (pa_cons (pe_call G__law_take h__law_take (by rfl) T.m__law_take T.k__law_take b__law_take .nil pass0 (pa_cons (pv 0) (pa_cons (pe_op op_add (pv 2) pe_int) pa_nil))) pa_nil)) (pg_name (i := 6) sc__law_lore.nd rfl (Or.inl rfl)) (pss_cons (ps_par (i := 7) (j := 8) (by rfl) sc__law_lore.nd rfl rfl (by decide) rfl rfl (pa_cons (pe_callB (call_min2 rfl) (by rfl) T.n_min (by decide +kernel) (pa_cons (pe_op op_sub (pv 1) (pv 4)) (pa_cons (pe_call G__law_of h__law_of (by rfl) T.m__law_of T.k__law_of b__law_of .nil pass0 (pa_cons (pv 0) (pa_cons (pe_lst (pa_cons pe_int (pa_cons pe_int (pa_cons pe_int (pa_cons pe_int (pa_cons pe_int pa_nil)))))) pa_nil))) pa_nil))) (pa_cons (pe_call G__law_some h__law_some (by rfl) T.m__law_some T.k__law_some b__law_some .nil pass0 (pa_cons (pv 0) (pa_cons (pe_slice (kSlL (K := K)) (pv 3) po_none (po_some (pv 4))) (pa_cons pe_int pa_nil)))) pa_nil)) (by rfl))
      (pss_cons (ps_set (i := 9) sc__law_lore.nd rfl (Or.inl rfl) (pe_op op_cat (pe_op op_cat (pe_slice (kSlL (K := K)) (pv 8) po_none (po_some pe_int)) (pe_slice (kSlL (K := K)) (pv 3) (po_some (pv 4)) (po_some (pe_op op_add (pv 4) (pv 7))))) (pe_slice (kSlL (K := K)) (pv 8) (po_some pe_int) po_none)))
      (pss_cons (ps_set (i := 4) sc__law_lore.nd rfl (Or.inr rfl) (pe_op op_add (pv 4) (pv 7)))
      (pss_one (ps_if (PW.pt (pw_or (pt_cmpR op_gt (pv 7) pe_int (nomark _)) (pw_or1 (pt_not (pt_val (pe_call G__law_is_there h__law_is_there (by rfl) T.m__law_is_there T.k__law_is_there b__law_is_there .nil pass0 (pa_cons (pv 5) (pa_cons (pe_ix (kIxL (K := K)) (pv 8) pe_int (fun _ _ => rfl)) (pa_cons (pe_ix (kIxL (K := K)) (pv 8) pe_int (fun _ _ => rfl)) pa_nil))))))))) (pss_one (ps_set (i := 5) sc__law_lore.nd rfl (Or.inl rfl) (pe_op op_cat (pv 5) (pe_lstZip (by rfl) (by rfl) T.n_list (by rfl) T.n_zip (pa_cons (pv 9) (pa_cons (pe_slice (kSlL (K := K)) (pv 9) (po_some pe_int) po_none) pa_nil)))))) pss_nil))))))
      (pss_cons (ps_setLc (i := 10) (own := [("_law_tie", 12)]) (g := gName 12) rfl sc__law_lore.nd rfl rfl (sw_true rfl rfl rfl (by decide +kernel)) (kLstI (K := K) (pv 5)) (blkOk_by (N := ["_law_pot_here", "_law_most", "_law_laps", "_law_names_here", "_law_used", "_law_ties", "_law_lap", "_law_inner", "_law_ends", "_law_road", "_law_turned_ties", "_law_spot", "_law_tie"]) (sc := defScope s__law_lore) (by decide +kernel)) (fun _ _ _ _ _ => pg_name (i := 12) sc__law_lore.nd rfl (Or.inl rfl)) (fun _ _ _ _ _ => pts_nil) (fun _ _ _ _ _ => (pe_ifExp (pt_cmpR op_eq (pe_call G__law_take h__law_take (by rfl) T.m__law_take T.k__law_take b__law_take .nil pass0 (pa_cons (pv 0) (pa_cons pe_int pa_nil))) pe_int (nomark _)) (pv 12) (pe_back (K := K) (pv 12) (po_some (pe_un un_neg pe_int))))))
      (pss_one (ps_ret (pe_tup (pa_cons (pe_call G__law_some h__law_some (by rfl) T.m__law_some T.k__law_some b__law_some .nil pass0 (pa_cons (pv 0) (pa_cons (pe_slice (kSlL (K := K)) (pv 3) po_none (po_some (pv 4))) (pa_cons (pv 4) pa_nil)))) (pa_cons (pe_call G__law_some h__law_some (by rfl) T.m__law_some T.k__law_some b__law_some .nil pass0 (pa_cons (pv 0) (pa_cons (pv 10) (pa_cons (pe_callB (kLen (K := K)) (by rfl) T.n_len (by decide +kernel) (pa_cons (pv 5) pa_nil)) pa_nil)))) pa_nil))))))))), ?_⟩
    refine ⟨_, rfl, p, k, 16, rfl, hp, by omega, by decide, fun H1 n nm sb1 hp1 nn hn ln nd mn => ?_⟩
    refine ⟨_, rfl, _, rfl, _, _, rfl, rfl, _, _, rfl, p, k + 16, _, rfl, hp1, by omega, by split <;> omega, by split <;> omega, fun H2 d sb2 hp2 d0 d1 => ?_⟩
    have d1 : d < 4 ∧ d + 3 ≤ M := by split at d1 <;> omega
    obtain ⟨op, hop⟩ := potAt_len hp
    have np : n ≠ p := (ne_of_none hop nn).symm
    have hn2 := sb2 _ _ np hn
    refine ⟨_, _, rfl, rfl, ?_⟩
    refine ⟨by show 2 ≤ sizeLine; decide, fun T0 nT0 => ⟨T0, _, rfl, SqT.of upd_same, rfl, _, _, rfl, _, _, rfl, rfl, ?_⟩⟩
    have sT : Same H2 (upd H2 T0 (.tup [.ref n, .int (3 + d)])) := same_new nT0
    have sb3 : SameBut p H (upd H2 T0 (.tup [.ref n, .int (3 + d)])) := fun b o nb e => sT _ _ (sb2 b o nb (sb1 b o nb e))
    have hp3 : PotAt (upd H2 T0 (.tup [.ref n, .int (3 + d)])) p (k + 17) := hp2.same sT
    have hn3 := sT _ _ hn2
    generalize upd H2 T0 (.tup [.ref n, .int (3 + d)]) = H3 at sb3 hp3 hn3 ⊢
    clear sT hn2 hp2 sb2 hp1 hn sb1
    obtain ⟨un, eu, u3, u6⟩ : ∃ un : Nat, 3 + d = (un : Int) ∧ 3 ≤ un ∧ un ≤ 6 := ⟨(3 + d).toNat, by omega, by omega, by omega⟩
    refine ⟨_, rfl, 3 + d, rfl, by omega, by omega, fun D nD => ?_⟩
    have nDp : D ≠ p := (ne_of_none (potAt_len hp3).choose_spec nD).symm
    refine lcB walk_range (fun i Hc => Same H3 Hc ∧ PairsL Hc D ((List.range i).map fun i => (nm.getD i "", nm.getD ((i + 1) % un) ""))) ⟨same_new nD, [], upd_same, .nil⟩ (fun _ _ _ _ => trivial) ?_ ?_
    · rintro i x Hc H' hi ⟨sc, hD⟩ ⟨rfl, rfl⟩
      have hi2 : i < un := by omega
      have a1 : atI (nm.map V.str) (0 + (i : Int)) = some (.str (nm.getD i "")) := name_get (by omega) (by omega)
      have a2 : atI (nm.map V.str) ((0 + (i : Int) + 1) % (3 + d)) = some (.str (nm.getD ((i + 1) % un) "")) := name_get (by rw [eu, Int.zero_add]; rfl) (by have := Nat.mod_lt (i + 1) (show 0 < un by omega); omega)
      have hnc := sc _ _ hn3
      refine ⟨rfl, _, rfl, _, rfl, n, _, _, _, rfl, rfl, SqL.of hnc, a1, ?_⟩
      refine ⟨_, rfl, _, rfl, _, _, rfl, rfl, _, rfl, _, _, rfl, rfl, (by omega), n, _, _, _, rfl, rfl, SqL.of hnc, a2, ?_⟩
      refine ⟨by show 2 ≤ sizeLine; decide, fun q nq => ?_⟩
      obtain ⟨as, hd2, pr2⟩ := id hD
      refine ⟨_, same_new nq _ _ hd2, ?_, fun b o eb => ?_, ?_⟩
      · have lt := Paired.length pr2
        rw [List.length_map, List.length_range] at lt
        rw [List.length_map, lt]
        exact Nat.lt_of_le_of_lt (by omega : i ≤ 6) (by decide)
      · rw [upd_ne (ne_of_none eb nD)]
        exact same_new nq _ _ (sc _ _ eb)
      · rw [ring_more]
        exact pairs_push hD nq hd2
    rintro H4 ⟨s4, hD4⟩
    rw [show (3 + d).toNat = un by omega] at hD4
    have hD4 : PairsL H4 D (ringOf nm un) := hD4
    have sb4 : SameBut p H H4 := fun b o nb e => s4 _ _ (sb3 b o nb e)
    have hp4 := hp3.same s4
    have hn4 := s4 _ _ hn3
    refine ⟨_, rfl, _, rfl, _, _, rfl, rfl, p, k + 17, _, rfl, hp4, by omega, by omega, by omega, fun H5 m sb5 hp5 m0 m1 => ?_⟩
    have m1 : m < L + 1 := m1
    refine ⟨m, rfl, by omega, by omega, ?_⟩
    refine for_it (walk_range (lo := 0) (n := m.toNat)) (fun i σ Hc => ∃ (u : Nat) (l : Addr) (ts : List (Str × Str)) (s6 s7 s8 s9 : Option V), σ = [some (.ref p), some (.int M), some (.int L), some (.ref n), some (.int (u : Int)), some (.ref l), s6, s7, s8, s9, none, none, none] ∧
        SameBut p H Hc ∧ PotAt Hc p (k + 18 + 3 * i) ∧ Hc n = some (.lst (nm.map V.str)) ∧ PairsL Hc l ts ∧ l ≠ p ∧ 3 ≤ u ∧ (u : Int) ≤ M ∧ 3 ≤ ts.length ∧ ts.length ≤ u + i ∧ Ears (nm.take u) ts)
      ⟨un, D, ringOf nm un, none, none, none, none, by rw [← eu]; rfl, fun b o nb e => sb5 _ _ nb (sb4 b o nb e), hp5, sb5 _ _ np hn4, pairs_but hD4 hp4 nDp sb5, nDp, u3, by omega, by rw [ring_len]; exact u3, by rw [ring_len]; omega, ring_ears nd u3 (by omega)⟩ (fun _ _ _ _ _ => trivial) ?_ ?_
    · rintro i x σ Hc H' hi ⟨u, l, ts, s6, s7, s8, s9, rfl, sbc, hpc, hnc, hl, lp, u3, u8, t3', lts, E⟩ ⟨rfl, rfl⟩
      have hi7 : i < 29 := by omega
      have okt : ts.all okP = true := List.all_eq_true.mpr fun t ht => by
        have q := E.ends t ht
        exact nm_okP ⟨pool_nm (mn _ (List.mem_of_mem_take q.1)), pool_nm (mn _ (List.mem_of_mem_take q.2))⟩
      refine ⟨_, rfl, _, rfl, _, _, rfl, rfl, ?_⟩
      refine ⟨_, rfl, by show 5 ≤ sizeLine; decide, fun L nL => ?_⟩
      obtain ⟨oc, hoc⟩ := potAt_len hpc
      have pL : p ≠ L := ne_of_none hoc nL
      have sL : Same H' (upd H' L (.lst [.int 0, .int 0, .int 1, .int 1, .int 2])) := same_new nL
      have hpL := hpc.same sL
      have k5 : k + 18 + 3 * i ≤ 5000 := by omega
      refine ⟨p, L, k + 18 + 3 * i, [.int 0, .int 0, .int 1, .int 1, .int 2], rfl, hpL, k5, pL, upd_same, (by decide : 1 ≤ 5), (by decide : 5 ≤ 1000000), fun H6 x sb6 hp6 mx => ?_⟩
      obtain ⟨v, rfl, v0, v2⟩ := small3 mx
      have sbx : SameBut p H' H6 := fun b o nb e => sb6 _ _ nb (sL _ _ e)
      have hn6 := sbx _ _ np hnc
      have hl6 := pairs_but hl hpc lp sbx
      refine ⟨_, _, rfl, ?_⟩
      refine ⟨_, rfl, _, rfl, _, rfl, (u : Int), rfl, n, _, rfl, SqL.of hn6, fun c nc => ?_⟩
      rw [cut_to (nm := nm) (u := u) (by omega)]
      have sc7 : Same H6 (upd H6 c (.lst ((nm.take u).map V.str))) := same_new nc
      obtain ⟨o6, ho6⟩ := potAt_len hp6
      have pc : p ≠ c := ne_of_none ho6 nc
      have ltu : (nm.take u).length = u := by rw [List.length_take]; omega
      refine ⟨p, c, _, 2, (nm.take u).map V.str, rfl, hp6.same sc7, by omega, pc, upd_same, by rw [List.length_map, ltu]; omega, by rw [List.length_map, ltu]; omega, fun H7 e ys sb7 hp7 ne he ly my => ?_⟩
      obtain ⟨zs, pz⟩ := my
      obtain ⟨al, pal, eal⟩ := L2.perm_lift V.str pz (nm.take u) rfl
      obtain ⟨es, rs, rfl, rfl, _⟩ := List.map_eq_append_iff.mp eal
      rw [List.length_map] at ly
      obtain ⟨e1, e2, rfl⟩ : ∃ e1 e2, es = [e1, e2] := by
        match es, ly with
        | [a, b], _ => exact ⟨a, b, rfl⟩
      have ndt : (nm.take u).Nodup := (List.take_sublist u nm).nodup nd
      have e12 : e1 ≠ e2 := by
        have q := (List.nodup_append.mp (pal.nodup_iff.mpr ndt)).1
        simp at q
        exact q
      have i1 : e1 ∈ nm.take u := pal.mem_iff.mp (.head _)
      have i2 : e2 ∈ nm.take u := pal.mem_iff.mp (.tail _ (.head _))
      have me1 : e1 ∈ pool := mn _ (List.mem_of_mem_take i1)
      have me2 : e2 ∈ pool := mn _ (List.mem_of_mem_take i2)
      have sby : SameBut p H' H7 := fun b o nb q => sb7 _ _ nb (sc7 _ _ (sbx _ _ nb q))
      have hn7 := sby _ _ np hnc
      have hl7 := pairs_but hl hpc lp sby
      have sbH7 : SameBut p H H7 := fun b o nb q => sby _ _ nb (sbc _ _ nb q)
      refine ⟨_, _, rfl, ?_⟩
      obtain ⟨wi, ew, w2, w8⟩ : ∃ wi : Nat, (if v < M - u then v else M - u) = (wi : Int) ∧ wi ≤ 2 ∧ ((u + wi : Nat) : Int) ≤ M := by
        refine ⟨(if v < M - u then v else M - u).toNat, ?_⟩
        split <;> omega
      rw [ew]
      refine ⟨_, rfl, 1, rfl, e, _, rfl, SqL.of he, fun c1 nc1 => ?_⟩
      rw [show cutV ([e1, e2].map V.str) none (some 1) = [e1].map V.str from cut_to (nm := [e1, e2]) (u := 1) (by show 1 ≤ 2; decide)]
      have t1 : Same H7 (upd H7 c1 (.lst ([e1].map V.str))) := same_new nc1
      refine ⟨_, rfl, _, rfl, (u : Int), rfl, _, rfl, _, rfl, _, _, rfl, rfl, _, rfl, n, _, rfl, SqL.of (t1 _ _ hn7), fun c2 nc2 => ?_⟩
      rw [show cutV (nm.map V.str) (some (u : Int)) (some ((u : Int) + (wi : Int))) = ((nm.drop u).take wi).map V.str from cut_fromTo (nm := nm) (u := u) (w := wi) (by omega)]
      have lr2 : ((nm.drop u).take wi).length = wi := by rw [List.length_take, List.length_drop]; omega
      have sub2 : ∀ z ∈ (nm.drop u).take wi, z ∈ nm := fun z hz => List.mem_of_mem_drop (List.mem_of_mem_take hz)
      have EN := fun h => ears_next (w := wi) nd E (by omega) i1 i2 e12 h
      generalize (nm.drop u).take wi = r2 at lr2 sub2 EN ⊢
      have t2 : Same (upd H7 c1 (.lst ([e1].map V.str))) (upd (upd H7 c1 (.lst ([e1].map V.str))) c2 (.lst (r2.map V.str))) := same_new nc2
      refine ⟨c1, c2, _, _, rfl, rfl, t2 _ _ upd_same, upd_same, by rw [List.length_map, List.length_map, lr2]; exact Nat.le_trans (by show 1 + wi ≤ 100; omega) (by decide), fun c3 nc3 => ?_⟩
      have t3 := Same.trans t1 (Same.trans t2 (same_new (o := .lst ([e1].map V.str ++ r2.map V.str)) nc3))
      have hc3 : upd (upd (upd H7 c1 (.lst ([e1].map V.str))) c2 (.lst (r2.map V.str))) c3 (.lst ([e1].map V.str ++ r2.map V.str)) c3 = some (.lst ([e1].map V.str ++ r2.map V.str)) := upd_same
      generalize upd (upd (upd H7 c1 (.lst ([e1].map V.str))) c2 (.lst (r2.map V.str))) c3 (.lst ([e1].map V.str ++ r2.map V.str)) = H8 at t3 hc3 ⊢
      refine ⟨_, rfl, 1, rfl, e, _, rfl, SqL.of (t3 _ _ he), fun c4 nc4 => ?_⟩
      rw [show cutV ([e1, e2].map V.str) (some 1) none = [e2].map V.str from cut_from (nm := [e1, e2]) (u := 1) (by show 1 ≤ 2; decide)]
      refine ⟨c3, c4, _, _, rfl, rfl, same_new nc4 _ _ hc3, upd_same, by rw [List.length_append, List.length_map, List.length_map, List.length_map, lr2]; exact Nat.le_trans (by show 1 + wi + 1 ≤ 100; omega) (by decide), fun r nr => ?_⟩
      have t4 := Same.trans t3 (Same.trans (same_new nc4) (same_new (o := .lst ([e1].map V.str ++ r2.map V.str ++ [e2].map V.str)) nr))
      have hr : upd (upd H8 c4 (.lst ([e2].map V.str))) r (.lst ([e1].map V.str ++ r2.map V.str ++ [e2].map V.str)) r = some (.lst ([e1].map V.str ++ r2.map V.str ++ [e2].map V.str)) := upd_same
      generalize upd (upd H8 c4 (.lst ([e2].map V.str))) r (.lst ([e1].map V.str ++ r2.map V.str ++ [e2].map V.str)) = H9 at t4 hr ⊢
      rw [← List.map_append, ← List.map_append] at hr
      have lro : ([e1] ++ r2 ++ [e2]).length = wi + 2 := by
        rw [List.length_append, List.length_append, lr2]
        show 1 + wi + 1 = wi + 2
        omega
      have ero : legs (e1 :: (r2 ++ [e2])) = ([e1] ++ r2 ++ [e2]).zip (([e1] ++ r2 ++ [e2]).drop 1) := rfl
      rw [ero] at EN
      generalize [e1] ++ r2 ++ [e2] = ro at hr lro EN
      have hp9 := hp7.same t4
      have hl9 := hl7.same t4
      have hn9 := t4 _ _ hn7
      have he9 := t4 _ _ he
      have sb9 : SameBut p H H9 := fun b o nb q => t4 _ _ (sbH7 _ _ nb q)
      refine ⟨_, rfl, _, rfl, _, _, rfl, rfl, ?_⟩
      dsimp only [gName]
      refine if_kn (wi = 0 → tieIn ts (e1, e2) = false) (wi = 0) (fun R hA hB => ?_) (fun Ha sa kn => ?_) (fun Ha sa kn => ?_)
      · refine ⟨_, rfl, _, _, rfl, rfl, _, rfl, ?_⟩
        by_cases hw : (0 : Int) < (wi : Int)
        · exact if_eqT (decide_eq_true hw) (hA _ (fun _ _ q => q) fun z => by omega)
        · refine if_eqF (decide_eq_false hw) ?_
          refine ⟨_, rfl, _, rfl, e, _, (0 : Int), .str e1, rfl, rfl, SqL.of he9, rfl, _, rfl, e, _, (1 : Int), .str e2, rfl, rfl, SqL.of he9, rfl, l, e1, e2, ts, rfl, hl9, okt, nm_okP ⟨pool_nm me1, pool_nm me2⟩, fun H' s' => ⟨_, rfl, ?_⟩⟩
          cases q : tieIn ts (e1, e2) with
          | true => exact hB _ s' (by omega)
          | false => exact hA _ s' fun _ => q
      · refine ⟨_, rfl, _, rfl, _, rfl, 1, rfl, r, _, rfl, SqL.of (sa _ _ hr), fun c5 nc5 => ?_⟩
        rw [show cutV (ro.map V.str) (some 1) none = (ro.drop 1).map V.str from cut_from (nm := ro) (u := 1) (by omega)]
        have s5 : Same Ha (upd Ha c5 (.lst ((ro.drop 1).map V.str))) := same_new nc5
        refine ⟨r, c5, _, _, rfl, SqL.of (s5 _ _ (sa _ _ hr)), SqL.of upd_same, fun as p2 H2 s2 np2 fas nd2 hp2 la hprs => ?_⟩
        have zp := zip_pairs hp2 la hprs
        have sA := Same.trans sa (Same.trans s5 s2)
        obtain ⟨asl, hla, prl⟩ := hl9.same sA
        obtain ⟨asz, hza, prz⟩ := zp
        have lz : (ro.zip (ro.drop 1)).length = wi + 1 := by
          rw [List.length_zip, List.length_drop]
          omega
        refine ⟨l, p2, _, _, rfl, rfl, hla, hza, ?_, fun q nq => ?_⟩
        · rw [List.length_map, List.length_map, Paired.length prl, Paired.length prz]
          exact Nat.le_trans (by omega : _ ≤ 100) (by decide)
        have s6 : Same H2 (upd H2 q (.lst (asl.map V.ref ++ asz.map V.ref))) := same_new nq
        have sB := Same.trans sA s6
        refine ⟨u + wi, q, ts ++ ro.zip (ro.drop 1), _, _, _, _, rfl, fun b o nb z => sB _ _ (sb9 _ _ nb z), pot_mono (hp9.same sB) (by omega), sB _ _ hn9, ?_, ?_, by omega, w8, ?_, ?_, EN kn⟩
        · exact ⟨asl ++ asz, by rw [upd_same, List.map_append], Paired.app (Paired.weak (fun a b z => s6 _ _ z) prl) (Paired.weak (fun a b z => s6 _ _ z) prz)⟩
        · exact (ne_of_none (potAt_len (hp9.same sA)).choose_spec nq).symm
        · rw [List.length_append]
          omega
        · rw [List.length_append]
          omega
      · refine ⟨u + wi, l, ts, _, _, _, _, rfl, fun b o nb q => sa _ _ (sb9 _ _ nb q), pot_mono (hp9.same sa) (by omega), sa _ _ hn9, hl9.same sa, lp, by omega, w8, t3', by omega, ?_⟩
        rw [kn, Nat.add_zero]
        exact E
    rintro σ Hc ⟨u, l, ts, s6, s7, s8, s9, rfl, sbc, hpc, hnc, hl, lp, u3, u8, t3', lts, E⟩
    have lts0 := lts
    have lts : ts.length ≤ 44 := by omega
    have hpc := pot_mono hpc (show k + 18 + 3 * m.toNat ≤ k + 110 by omega)
    have ltu : (nm.take u).length = u := by rw [List.length_take]; omega
    obtain ⟨asl, hla, prl⟩ := id hl
    refine ⟨_, rfl, l, rfl, ⟨_, SqL.of hla⟩, fun D2 nD2 => ?_⟩
    have D2p : D2 ≠ p := (ne_of_none (potAt_len hpc).choose_spec nD2).symm
    have lal := Paired.length prl
    refine lcB walk_list (fun j Hd => SameBut p Hc Hd ∧ PotAt Hd p (k + 110 + j) ∧ ∃ us, PairsL Hd D2 us ∧ Paired Turned (ts.take j) us) ⟨(same_new nD2).but, hpc.same (same_new nD2), [], ⟨[], upd_same, .nil⟩, .nil⟩
      (fun j Hd _ z => SqL.of (z.1 _ _ lp hla)) ?_ ?_
    · rintro j x Hd H' hj ⟨sbd, hpd, us, hD, tu⟩ ⟨rfl, hx⟩
      rw [List.length_map, lal] at hj
      have lu : us.length = j := by
        have q := tu.length
        rw [List.length_take] at q
        omega
      obtain ⟨a, t, rfl, ht, fa⟩ := pair_at prl hx
      have ap : a ≠ p := ne_of fa hpc.choose_spec.choose_spec.choose_spec.1 (fun z => by cases z)
      refine ⟨rfl, _, rfl, p, _, 2, rfl, hpd, by omega, by decide, by decide, fun H2 d sb2 hp2 d0 d1 => ?_⟩
      have sbe : SameBut p Hc H2 := fun b o nb e => sb2 _ _ nb (sbd _ _ nb e)
      have fa2 : PairAt H2 a t := sbe _ _ ap fa
      have hD2 := pairs_but hD hpd D2p sb2
      obtain ⟨as2, hd2, pr2⟩ := id hD2
      have lacc : (as2.map V.ref).length < sizeLine := by
        rw [List.length_map, Paired.length pr2, lu]
        exact Nat.lt_of_le_of_lt (by omega : j ≤ 100) (by decide)
      have nxt : ∀ (H3 : Hp) (us' : List (Str × Str)), PairsL H3 D2 us' → (∀ b o, b ≠ D2 → H2 b = some o → H3 b = some o) → Paired Turned (ts.take (j + 1)) us' →
          SameBut p Hc H3 ∧ PotAt H3 p (k + 110 + (j + 1)) ∧ ∃ us, PairsL H3 D2 us ∧ Paired Turned (ts.take (j + 1)) us := fun H3 us' h1 h2 h3 => by
        obtain ⟨o, x1, x2, e, r⟩ := hp2
        exact ⟨fun b o nb e => h2 _ _ (ne_of_none e nD2) (sbe _ _ nb e), ⟨o, x1, x2, h2 _ _ D2p.symm e, r⟩, us', h1, h3⟩
      refine ⟨rfl, _, rfl, ?_⟩
      by_cases hd : d = 0
      · refine if_eqT (decide_eq_true (by rw [hd])) ?_
        refine ⟨_, rfl, _, hd2, lacc, nxt _ (us ++ [t]) (pairs_old hD2 fa2 hd2) (fun b o nb e => ?_) ?_⟩
        · rw [upd_ne nb]
          exact e
        · rw [take_more ht]
          exact Paired.app tu (.cons (.inl rfl) .nil)
      · refine if_eqF (decide_eq_false (fun e => hd (V.int.inj e))) ?_
        refine ⟨_, rfl, _, rfl, _, rfl, rfl, a, _, rfl, .inr ⟨SqT.of fa2, fun q nq => ?_⟩⟩
        refine ⟨_, same_new nq _ _ hd2, lacc, nxt _ (us ++ [(t.2, t.1)]) (pairs_push hD2 nq hd2) (fun b o nb e => ?_) ?_⟩
        · rw [upd_ne nb]
          exact same_new nq _ _ e
        · rw [take_more ht]
          exact Paired.app tu (.cons (.inr rfl) .nil)
    rintro He ⟨sbe, hpe, us, hDe, tu⟩
    rw [List.length_map, lal] at hpe tu
    rw [List.take_length] at tu
    have lu : us.length = ts.length := tu.length.symm
    have sb0 : SameBut p H He := fun b o nb e => sbe _ _ nb (sbc _ _ nb e)
    have hne := sbe _ _ np hnc
    have hle := pairs_but hl hpc lp sbe
    refine ⟨_, rfl, _, rfl, _, rfl, (u : Int), rfl, n, _, rfl, SqL.of hne, fun c nc => ?_⟩
    rw [cut_to (nm := nm) (u := u) (by omega)]
    have pc : p ≠ c := ne_of_none (potAt_len hpe).choose_spec nc
    have s1 : Same He (upd He c (.lst ((nm.take u).map V.str))) := same_new nc
    refine ⟨_, rfl, p, c, _, u, (nm.take u).map V.str, rfl, hpe.same s1, by omega, pc, upd_same, by rw [List.length_map, ltu]; exact Nat.le_refl _, by rw [List.length_map, ltu]; omega, fun H6 q1 ys1 sb6 hp6 nq1 hq1 ly1 my1 => ?_⟩
    obtain ⟨zs1, pz1⟩ := my1
    obtain ⟨ps, rfl, pps⟩ := strs_perm (perm_whole pz1 (by rw [ly1, List.length_map, ltu]))
    have sb6' : SameBut p He H6 := fun b o nb e => sb6 _ _ nb (s1 _ _ e)
    have hD6 := pairs_but hDe hpe D2p sb6'
    have hl6 := pairs_but hle hpe lp sb6'
    obtain ⟨asD, hdD, prD⟩ := id hD6
    obtain ⟨asL, hdL, prL⟩ := id hl6
    have q1p : q1 ≠ p := (ne_of_none (potAt_len (hpe.same s1)).choose_spec nq1).symm
    refine ⟨_, rfl, _, rfl, _, rfl, l, _, rfl, .inl (SqL.of hdL), p, D2, _, _, asD.map V.ref, rfl, hp6, ?_, D2p.symm, hdD, ?_, ?_, fun H7 q2 ys2 sb7 hp7 nq2 hq2 ly2 my2 => ?_⟩
    · rw [List.length_map, Paired.length prL]
      omega
    · rw [List.length_map, List.length_map, Paired.length prL, Paired.length prD, lu]
      exact Nat.le_refl _
    · rw [List.length_map, Paired.length prD, lu]
      omega
    rw [List.length_map, Paired.length prL] at ly2 hp7
    obtain ⟨zs2, pz2⟩ := my2
    obtain ⟨o6, x6, y6, ho6, _⟩ := id hp6
    have pr7 : Paired (PairAt H7) asD us := Paired.weak (fun a b z => sb7 _ _ (ne_of z ho6 (fun e => by cases e)) z) prD
    obtain ⟨bs, vs, rfl, pv, pvs⟩ := pairs_perm pr7 (perm_whole pz2 (by rw [ly2, List.length_map, Paired.length prD, lu]))
    refine ⟨by show 2 ≤ sizeLine; decide, fun t0 nt => ?_⟩
    have s8 : Same H7 (upd H7 t0 (.tup [.ref q1, .ref q2])) := same_new nt
    refine kQ _ t0 ps vs (fun b o nb e => s8 _ _ (sb7 _ _ nb (sb6' _ _ nb (sb0 _ _ nb e)))) (pot_mono (hp7.same s8) (by omega)) ⟨q1, q2, upd_same, s8 _ _ (sb7 _ _ q1p hq1), bs, s8 _ _ hq2, Paired.weak (fun a b z => s8 _ _ z) pv⟩
      (ears_lore E pps (by omega) (by omega) (fun z hz => pool_nm (mn _ (List.mem_of_mem_take hz))) tu pvs t3' (by omega)) ?_ ?_ (fun z hz => mn _ (List.mem_of_mem_take (pps.mem_iff.mp hz)))
    · rw [pps.length_eq, ltu]
      exact u8
    · rw [pps.length_eq, ltu, pvs.length_eq, ← tu.length]
      omega
end
end K05
namespace L2
open PySem PySem.Spec PyProof.Rows
/-- at a: a caught error of the class at C that holds v -/
def ErrQ (H : Hp) (a C : Addr) (v : V) : Prop := ∃ d, H a = some (exq a (.ref C) (some d)) ∧ H d = some (.xd [("value", v)])
theorem ErrQ.same {H H' : Hp} {a C : Addr} {v : V} (e : ErrQ H a C v) (s : Same H H') : ErrQ H' a C v := let ⟨d, h1, h2⟩ := e; ⟨d, s _ _ h1, s _ _ h2⟩
section
variable {X : Cx} {pins : List (Addr × Obj)} {σ : St} {H : Hp} {s : Shared}
theorem errQ_at (I : Inv X pins σ H s) {a C : Addr} {v : V} (e : ErrQ H a C v) : ∃ (oe od : Obj) (u : Value), RelV v u ∧
    PySem.W.lookIn "value" od = some (some u) ∧ PySem.W.InstAt s.heap a oe C (some od) := by
  obtain ⟨d, h1, h2⟩ := e
  obtain ⟨⟨oe, vs, ho, hz, hf⟩, _⟩ := I.hok a _ h1
  obtain ⟨mA, hns, rel⟩ := I.hok d _ h2
  obtain ⟨od, hod, hl⟩ := lookIn_ns hns
  have l : List.lookup ("value" : Str) [(("value" : Str), v)] = some v := by simp [List.lookup]
  obtain ⟨u, hu, ru⟩ := RelO.some_of (v := v) (o := mA "value") (l ▸ rel "value")
  refine ⟨oe, od, u, ru, by rw [hl, hu], ⟨ho, hz.1, ?_, ?_⟩⟩
  · unfold PySem.W.notCls
    rw [hf]
  · rw [hz.2]
    exact hod
end
/-- e.value -/
def tErrValQ (K : PySem.W.Frag) (te : TE) : TE := fun σ H Q => te σ H fun x H1 => ∃ (a C fI : Addr) (v : V), x = .ref a ∧ ErrC K fI C ∧ ErrQ H1 a C v ∧ Q v H1
/-- isinstance(e, c) -/
def rIsErrQ (K : PySem.W.Frag) : List V → Hp → VK → Prop := fun xs H Q => ∃ (a C fI : Addr) (v c : V) (cv : Value) (b : Bool), xs = [.ref a, c] ∧
  ErrC K fI C ∧ ErrQ H a C v ∧ ClsV c cv ∧ PySem.W.kitOne K (.ref C) cv = some b ∧ Q (.bl b) H
section
variable {X : Cx} {K : PySem.W.Frag} {e : Expr} {te : TE} {pos : Pos}
theorem pe_errValQ (he : PE X e te) (hK : X.K = K := by rfl) (hb : attributeBase e "value" X.env (eval e X.env) = eval e X.env := by rfl) :
    PE X (.Attribute e "value" pos) (tErrValQ K te) := by
  subst hK
  refine ⟨fun pins s σ H Q I h => attr_of hb (thn (he.run pins s σ H _ I h) ?_)⟩
  rintro u s1 ⟨x, H1, I1, rx, a, C, fI, v, rfl, T, ea, q⟩
  cases rx
  obtain ⟨oe, od, w, rw', hl, J⟩ := errQ_at I1 ea
  exact HandSPX.exc_get I1.kIn J T.ga T.gg T.oex.exC (PySem.W.findObj_own T.hd T.nv rfl hl) (handed_of rw') ⟨v, H1, I1.tok _, rw', q⟩
theorem call_isErrQ (hK : X.K = K := by rfl) : CallR X (.builtin "isinstance") (rIsErrQ K) := by
  subst hK
  rintro pins s σ H xs us Q I r ⟨a, C, fI, v, c, cv, b, rfl, T, ea, k, e, q⟩
  obtain ⟨u1, u2, rfl, r1, r2⟩ := vals2 r
  cases k.eq r2
  cases r1
  obtain ⟨oe, od, w, _, _, J⟩ := errQ_at I ea
  have cl : (PySem.W.clsIn X.K C).isSome = true := by
    obtain ⟨cd, hc, _⟩ := PySem.W.any_some T.hd
    rw [hc]
    rfl
  exact PySem.W.kia_one (PySem.W.kitx_exc cl T.ga T.gg T.oex.exC T.ca T.sg T.st T.mo) I.kIn J e (fun z => nomatch z) fun tk => ⟨.bl b, H, I.tok tk, rfl, q⟩
end
end L2
namespace PySem.W
open PySem PySem.Spec PySem.Calls PyProof.Rows
section
variable {prog : Program} {w : World} {A : Around} {E : Value → Shared → Prop} {s : Shared} {K : Frag} {x C L f : Addr} {h₀ : Heap} {m : Str → Option Value} {ox : Obj} {od : Option Obj} {name : Str} {b tb : Value}
theorem ifBound_B {M : Model} {id : String} {args : List Value} {Q : Option Value → Shared → Prop} (X : K.In s.heap) (I : InstAt s.heap x ox C od) (hs : findIn K (.ref C) name = some (some (.builtin id)))
    (hb : ∀ self, bindSpecial (.builtin id) self = pure (.builtin id, [self])) (h : wpAny M A (call (.builtin id) (.ref x :: args)) (fun v => Q (some v)) E s) : wpAny M A (callSpecialIfBound? (.ref x) name args) Q E s := by
  simp only [callSpecialIfBound?, bindSpecialIfBound?]
  refine wpAny_holding (wpAny_bind (wpAny_bind (wpAny_bind (I.type.here ((looks_findIn X hs).here ?_)))))
  refine wpAny_bind (wpAny_askSetting (wpAny_ite ?_))
  have fin : wpAny M A (call (.builtin id) ([.ref x] ++ args) >>= fun v => pure (some v)) Q E s := wpAny_bind (wpAny_mono h (fun v s' h' => wpAny_pure h') fun _ _ h' => h')
  split
  · exact wpAny_bind ((Looks.of_pure (hb _)).here (wpAny_pure (by exact fin)))
  · exact wpAny_tryCatch (wpAny_bind ((Looks.of_pure (hb _)).here (wpAny_pure (by exact fin))))
open Builtin in
theorem one_ne {Q : Value → Shared → Prop} (hu : A.in1.units < cLine) (X : K.In s.heap) (I : InstAt s.heap x ox C od) (hm : mroIn K C (.type "object") = some true) (hs : findIn K (.ref C) "__eq__" = some (some (.ref f))) (hf : isFn K (.ref f) = true)
    (h : wpAny (model prog w) A.in1 (call (.ref f) [.ref x, b]) (fun v s' => ∃ r, v = .bool r ∧ Q (.bool (!r)) s') E s) : wpAny (model prog w) A (call (.builtin "object.__ne__") [.ref x, b]) Q E s := by
  refine wpAny_call (codeAny_call_builtin PySem.F.slot_object_ne.plain PySem.F.cmpEntry_ne (check_slot (i := "object.__ne__") (owner := "object") (n := "__ne__") (by decide +kernel) (by decide +kernel) (I.type.andThen (looks_mroIn X hm)) (PySem.F.cmpArgs_ne _ _) ?_))
  unfold Builtin.«object.__ne__»
  refine wpAny_bind (m := slotArgs "__ne__" 1 _) (wpAny_pure ?_)
  refine wpAny_bind (m := cRoomFor _ _) (wpAny_cRoomFor hu ?_)
  refine wpAny_bind (m := callSpecialIfBound? (.ref x) (Str.ofString "__eq__") _) (ifBound_K X I hs hf (wpAny_mono h (fun r s' hq => ?_) fun _ _ y => y))
  obtain ⟨v, rfl, q⟩ := hq
  exact wpAny_bind (m := truthy _) (wpAny_truthy_bool (wpAny_pure q))
theorem ne_K {Q : Value → Shared → Prop} (hu : A.units < cLine) (hu1 : A.in1.units < cLine) (F : Fr h₀ L s.heap m) (X₀ : K.In h₀) (I : InstAt s.heap x ox C od) (hb : Looks (model prog w) s.heap (typeOf b) tb) (hn : notFirst K C tb = true)
    (hne : findIn K (.ref C) "__ne__" = some (some (.builtin "object.__ne__"))) (hm : mroIn K C (.type "object") = some true) (hs : findIn K (.ref C) "__eq__" = some (some (.ref f))) (hf : isFn K (.ref f) = true)
    (h : wpAny (model prog w) A.in1 (call (.ref f) [.ref x, b]) (fun v s' => ∃ r, v = .bool r ∧ Q (.bool (!r)) s') E s) : wpAny (model prog w) A (richCompare .NotEq (.ref x) b) Q E s := by
  have X := X₀.keeps F.keep
  have one : wpAny (model prog w) A (tryCompare (.ref x) (cmpInfo .NotEq).2.1 b) (fun r s' => ∃ v, r = some v ∧ Q v s') E s := by
    unfold tryCompare
    refine wpAny_bind (ifBound_B X I hne PySem.F.slot_object_ne.bind (one_ne hu1 X I hm hs hf (wpAny_mono h (fun v s' hv => ?_) fun _ _ e => e)))
    obtain ⟨r, rfl, q⟩ := hv
    exact ⟨r, rfl, wpAny_pure ⟨_, rfl, q⟩⟩
  unfold richCompare
  simp only [oneThing_ref]
  refine wpAny_holding (wpAny_bind (wpAny_cRoomFor hu ?_))
  refine wpAny_bind (I.type.here (wpAny_bind (hb.here ?_)))
  split
  · rename_i q
    have e : subIn K tb (.ref C) = some false := by
      rcases Bool.or_eq_true_iff.mp hn with e | e
      · rw [beq_iff_eq.mp e] at q; simp at q
      · exact beq_iff_eq.mp e
    refine wpAny_bind ((looks_subIn X e).here ?_)
    simp only [Bool.false_eq_true, if_false]
    refine wpAny_bind (wpAny_mono one (fun r s' z => ?_) fun _ _ e => e)
    obtain ⟨v, rfl, hq⟩ := z
    exact wpAny_pure hq
  · refine wpAny_bind (wpAny_pure ?_)
    simp only [Bool.false_eq_true, if_false]
    refine wpAny_bind (wpAny_mono one (fun r s' z => ?_) fun _ _ e => e)
    obtain ⟨v, rfl, hq⟩ := z
    exact wpAny_pure hq
end
end PySem.W
namespace L2
open PySem PySem.Spec PyProof.Rows
section
variable {X : Cx} {CX : CXT} {C f : Addr} {fd : FuncData} {ps : List Str} {sp : Sp} {E : XK} {k : Nat} {Z : Hp → (V → Hp → Prop)}
/-- a def run somewhere below the running body -/
theorem run_sub {A : Around} {pins : List (Addr × Obj)} {σ : St} {H : Hp} {s : Shared} {Q : VK} {us : List Value} {vs : List V} (sb : Sub X k A) (F : FnOk X.prog X.w X.K X.mg X.base CX k f fd ps sp) (hb : Binds X.K fd ps [])
    (hx : Passes CX X E) (I : Inv X pins σ H s) (r : Vals vs us) (h : sp vs H Q E) : wpAny (model X.prog X.w) A (call (.ref f) us) (EP X pins σ Q) X.xe s := by
  have e0 : Env0 X.prog X.w X.K X.mg X.base A X.stack s H := by
    have e := I.env0
    exact ⟨by rw [sb.fr]; exact e.frames, e.mod, e.bs, e.bsz, e.funs, e.frf, e.hok, e.bare⟩
  have hl : us.length = ps.length := by rw [← r.length]; exact F.len _ _ _ _ h
  refine wpAny_call (codeAny_mono (F.run A X.stack s H ⟨us, []⟩ us vs Q E sb.room e0 (by
    have := hb s us I.kIn (by simpa using hl)
    simpa using this) r h) fun r s' hq => ?_)
  cases r with
  | error e => exact hx pins σ H s e s' I hq
  | ok fl =>
    cases fl with
    | ret u => exact I.after hq
    | next => exact False.elim hq
    | brk => exact False.elim hq
    | cont => exact False.elim hq
theorem sub_here (hr : Room k X.A) : Sub X k X.A := ⟨hr, rfl⟩
theorem sub_in1 (hr : Room (k + 1) X.A) : Sub X k X.A.in1 := ⟨hr.in1, rfl⟩
/-- x in o -/
def rInOwn (C : Addr) (sp : Sp) (E : XK) : R2 := fun x y H Q => ∃ a dx fs, y = .ref a ∧ H a = some (.ins C dx fs) ∧ sp [y, x] H (fun v H' => ∃ b, v = .bl b ∧ Q (.bl b) H') E
def rNinOwn (C : Addr) (sp : Sp) (E : XK) : R2 := fun x y H Q => ∃ a dx fs, y = .ref a ∧ H a = some (.ins C dx fs) ∧ sp [y, x] H (fun v H' => ∃ b, v = .bl b ∧ Q (.bl (!b)) H') E
theorem op_inOwn (F : FnOk X.prog X.w X.K X.mg X.base CX k f fd ps sp) (hr : Room k X.A) (hb : Binds X.K fd ps []) (hx : Passes CX X E)
    (hs : PySem.W.findIn X.K (.ref C) "__contains__" = some (some (.ref f))) (hf : PySem.W.isFn X.K (.ref f) = true) : OpR X (compareOp .In) (rInOwn C sp E) := by
  rintro pins s σ H x y v u Q I rx ry ⟨a, dx, fs, rfl, ha, h⟩
  cases ry
  obtain ⟨mA, J, _⟩ := ins_get I.hok ha
  obtain ⟨od, J, _⟩ := J.look
  obtain ⟨m, hF⟩ := I.fr
  refine PySem.W.in_K hF I.ok.mod.kin J hs hf ?_
  refine wpAny_mono (run_sub (vs := [.ref a, x]) (sub_here hr) F hb hx I (.cons rfl (.cons rx .nil)) h) (fun r s' q => ?_) fun _ _ z => z
  obtain ⟨v', H', I', rv, b, rfl, q⟩ := q
  cases rv
  exact wpAny_truthy_bool ⟨.bl b, H', I', rfl, q⟩
theorem op_ninOwn (F : FnOk X.prog X.w X.K X.mg X.base CX k f fd ps sp) (hr : Room k X.A) (hb : Binds X.K fd ps []) (hx : Passes CX X E)
    (hs : PySem.W.findIn X.K (.ref C) "__contains__" = some (some (.ref f))) (hf : PySem.W.isFn X.K (.ref f) = true) : OpR X (compareOp .NotIn) (rNinOwn C sp E) := by
  rintro pins s σ H x y v u Q I rx ry ⟨a, dx, fs, rfl, ha, h⟩
  cases ry
  obtain ⟨mA, J, _⟩ := ins_get I.hok ha
  obtain ⟨od, J, _⟩ := J.look
  obtain ⟨m, hF⟩ := I.fr
  refine PySem.W.notIn_K hF I.ok.mod.kin J hs hf ?_
  refine wpAny_mono (run_sub (vs := [.ref a, x]) (sub_here hr) F hb hx I (.cons rfl (.cons rx .nil)) h) (fun r s' q => ?_) fun _ _ z => z
  obtain ⟨v', H', I', rv, b, rfl, q⟩ := q
  cases rv
  exact wpAny_truthy_bool ⟨.bl (!b), H', I', rfl, q⟩
/-- len(o) -/
def rLenOwn (C : Addr) (sp : Sp) (E : XK) : List V → Hp → VK → Prop := fun xs H Q => ∃ a dx fs, xs = [.ref a] ∧ H a = some (.ins C dx fs) ∧ sp [.ref a] H (fun v H' => ∃ n : Nat, v = .int n ∧ n ≤ sizeLine ∧ Q (.int n) H') E
theorem call_lenOwn (F : FnOk X.prog X.w X.K X.mg X.base CX k f fd ps sp) (hr : Room (k + 1) X.A) (hb : Binds X.K fd ps []) (hx : Passes CX X E)
    (hs : PySem.W.findIn X.K (.ref C) "__len__" = some (some (.ref f))) (hf : PySem.W.isFn X.K (.ref f) = true) : CallR X (.builtin "len") (rLenOwn C sp E) := by
  rintro pins s σ H xs us Q I r ⟨a, dx, fs, rfl, ha, h⟩
  obtain ⟨u, rfl, ru⟩ := vals1 r
  cases ru
  obtain ⟨mA, J, _⟩ := ins_get I.hok ha
  obtain ⟨od, J, _⟩ := J.look
  obtain ⟨m, hF⟩ := I.fr
  refine PySem.W.len_K hF I.ok.mod.kin J hs hf ?_
  refine wpAny_mono (run_sub (vs := [.ref a]) (sub_in1 hr) F hb hx I (.cons rfl .nil) h) (fun r s' q => ?_) fun _ _ z => z
  obtain ⟨v', H', I', rv, n, rfl, hn, q⟩ := q
  obtain ⟨t, rfl⟩ := rv
  have l63 := line63
  exact ⟨⟨by omega, by omega⟩, .int n, H', I'.tok _, ⟨_, rfl⟩, q⟩
/-- o[x] -/
def rIxOwn (C : Addr) (sp : Sp) (E : XK) : R2 := fun x y H Q => ∃ a dx fs, x = .ref a ∧ H a = some (.ins C dx fs) ∧ sp [x, y] H Q E
theorem pe_ixOwn {a b : Expr} {ta tb : TE} {pos : Pos} (F : FnOk X.prog X.w X.K X.mg X.base CX k f fd ps sp) (hr : Room (k + 1) X.A) (hb : Binds X.K fd ps []) (hx : Passes CX X E)
    (hs : PySem.W.findIn X.K (.ref C) "__getitem__" = some (some (.ref f))) (hf : PySem.W.fnIn X.K f = true) (hfn : PySem.W.isFn X.K (.ref f) = true)
    (ha : PE X a ta) (hi : PE X b tb) (hsl : ∀ v u, subscripted b true v u = runValue (.builtin "lifetime.subscript" ⟨[v, u], []⟩)) : PE X (.Subscript a b pos) (tOp (rIxOwn C sp E) ta tb) := by
  refine ⟨fun pins s σ H Q I h => ?_⟩
  refine Subscript_ (binT ha hi I h fun v u s2 x y H2 I2 rx ry q => ?_)
  obtain ⟨p, dx, fs, rfl, hp, h⟩ := q
  cases rx
  obtain ⟨mA, J, _⟩ := ins_get I2.hok hp
  obtain ⟨od, J, _⟩ := J.look
  obtain ⟨m, hF⟩ := I2.fr
  exact PySem.W.sub_K hF I2.ok.mod.kin J hs hf hfn (run_sub (vs := [.ref p, y]) (sub_in1 hr) F hb hx I2 (.cons rfl (.cons ry .nil)) h) (hsl _ _)
/-- what the other side of == must be: not of a class below -/
def NotSub (K : PySem.W.Frag) (C : Addr) (x : V) (H : Hp) : Prop := ∃ t, TyX K H x t ∧ PySem.W.notFirst K C t = true
/-- o == x -/
def rEqOwn (K : PySem.W.Frag) (C : Addr) (sp : Sp) (E : XK) : R2 := fun x y H Q => ∃ a dx fs, x = .ref a ∧ H a = some (.ins C dx fs) ∧ NotSub K C y H ∧ sp [x, y] H (fun v H' => ∃ b, v = .bl b ∧ Q (.bl b) H') E
def rNeOwn (K : PySem.W.Frag) (C : Addr) (sp : Sp) (E : XK) : R2 := fun x y H Q => ∃ a dx fs, x = .ref a ∧ H a = some (.ins C dx fs) ∧ NotSub K C y H ∧ sp [x, y] H (fun v H' => ∃ b, v = .bl b ∧ Q (.bl (!b)) H') E
theorem op_eqOwn (F : FnOk X.prog X.w X.K X.mg X.base CX k f fd ps sp) (hr : Room k X.A) (hb : Binds X.K fd ps []) (hx : Passes CX X E)
    (hs : PySem.W.findIn X.K (.ref C) "__eq__" = some (some (.ref f))) (hf : PySem.W.isFn X.K (.ref f) = true) : OpR X (compareOp .Eq) (rEqOwn X.K C sp E) := by
  rintro pins s σ H x y v u Q I rx ry ⟨a, dx, fs, rfl, ha, ⟨t, ty, nf⟩, h⟩
  cases rx
  obtain ⟨mA, J, _⟩ := ins_get I.hok ha
  obtain ⟨od, J, _⟩ := J.look
  obtain ⟨m, hF⟩ := I.fr
  obtain ⟨P, Z, hP, _⟩ := kit_of I ry ty
  refine PySem.W.cmp_K (op := .Eq) hr.units0 hF I.ok.mod.kin J (Z.ty _ _ I.kIn hP) nf hs hf ?_
  refine wpAny_mono (run_sub (vs := [.ref a, y]) (sub_here hr) F hb hx I (.cons rfl (.cons ry .nil)) h) (fun r s' q => ?_) fun _ _ z => z
  obtain ⟨v', H', I', rv, b, rfl, q⟩ := q
  cases rv
  exact ⟨.bl b, H', I', rfl, q⟩
theorem op_neOwn (F : FnOk X.prog X.w X.K X.mg X.base CX k f fd ps sp) (hr : Room (k + 1) X.A) (hb : Binds X.K fd ps []) (hx : Passes CX X E)
    (hne : PySem.W.findIn X.K (.ref C) "__ne__" = some (some (.builtin "object.__ne__"))) (hm : PySem.W.mroIn X.K C (.type "object") = some true)
    (hs : PySem.W.findIn X.K (.ref C) "__eq__" = some (some (.ref f))) (hf : PySem.W.isFn X.K (.ref f) = true) : OpR X (compareOp .NotEq) (rNeOwn X.K C sp E) := by
  rintro pins s σ H x y v u Q I rx ry ⟨a, dx, fs, rfl, ha, ⟨t, ty, nf⟩, h⟩
  cases rx
  obtain ⟨mA, J, _⟩ := ins_get I.hok ha
  obtain ⟨od, J, _⟩ := J.look
  obtain ⟨m, hF⟩ := I.fr
  obtain ⟨P, Z, hP, _⟩ := kit_of I ry ty
  refine PySem.W.ne_K hr.units0 (sub_in1 hr).room.units0 hF I.ok.mod.kin J (Z.ty _ _ I.kIn hP) nf hne hm hs hf ?_
  refine wpAny_mono (run_sub (vs := [.ref a, y]) (sub_in1 hr) F hb hx I (.cons rfl (.cons ry .nil)) h) (fun r s' q => ?_) fun _ _ z => z
  obtain ⟨v', H', I', rv, b, rfl, q⟩ := q
  cases rv
  exact ⟨b, rfl, .bl (!b), H', I', rfl, q⟩
end
end L2
namespace PySem.SeqAt
open AutoSeq1 (wpAny_loadPart')
open MeetsSeq
theorem dict_eq_declines_str (l : Addr) (es : Array DictEntry) (ep : Nat) (dd : Option Addr) (sl : Array (Option Value)) (b : Str) (u : Tok) :
    Meets (Builtin.«dict.__eq__» ⟨[.ref l, .str b u], []⟩) (fun _ R s => s.heap.get? l = some { cls := .type "dict", dict := dd, data := .dict es ep, slots := sl } ∧ R (.ok (.ret .notImplemented)) s) :=
  .of_wp fun prog w A R s h => by obtain ⟨hp, g, d, tk, os⟩ := s; obtain ⟨hl, h⟩ := h; have f1 := F.sub_str_dict; wp_walk using wpAny_loadPart' hl; exact ⟨_, rfl, h⟩
theorem str_eq_declines_dict (b : Str) (u : Tok) (l : Addr) (es : Array DictEntry) (ep : Nat) (dd : Option Addr) (sl : Array (Option Value)) :
    Meets (Builtin.«str.__eq__» ⟨[.str b u, .ref l], []⟩) (fun _ R s => s.heap.get? l = some { cls := .type "dict", dict := dd, data := .dict es ep, slots := sl } ∧ R (.ok (.ret .notImplemented)) s) :=
  .of_wp fun prog w A R s h => by obtain ⟨hp, g, d, tk, os⟩ := s; obtain ⟨hl, h⟩ := h; wp_walk using wpAny_loadPart' hl, wpAny_load hl; exact ⟨_, rfl, h⟩
section
variable {A : Around} {s : Shared}
theorem RcAt.str_dict {l : Addr} {es : Array DictEntry} {ep : Nat} {dd : Option Addr} {sl : Array (Option Value)} (b : Str) (u : Tok) (ho : s.heap.get? l = some { cls := .type "dict", dict := dd, data := .dict es ep, slots := sl }) (hu : A.units < cLine) : RcAt A s (.str b u) (.ref l) false := fun prog w E Q h =>
  rc_eq_decline_or (k := false) (typeIs_str s b u) ⟨_, ho, rfl⟩ (by decide) F.sub_dict_str F.slot_str_eq F.slot_dict_eq_refl
    (fun _ hq => call_meets F.slot_str_eq (typeIs_str s b u) F.entry_str_eq (F.args_str_eq_2 _ _) (str_eq_declines_dict b u l es ep dd sl) ⟨ho, hq⟩)
    (fun _ hq => call_meets F.slot_dict_eq_refl ⟨_, ho, rfl⟩ F.entry_dict_eq (F.args_dict_eq_2 _ _) (dict_eq_declines_str l es ep dd sl b u) ⟨ho, hq⟩)
    (fun _ hq => wpAny_of_eq (rfl : isSame (.str b u) (.ref l) = pure false) hq) (.inr hu) h
theorem EqAt.str_dict {l : Addr} {es : Array DictEntry} {ep : Nat} {dd : Option Addr} {sl : Array (Option Value)} (b : Str) (u : Tok) (ho : s.heap.get? l = some { cls := .type "dict", dict := dd, data := .dict es ep, slots := sl }) (hu : A.units < cLine) : EqAt A s (.str b u) (.ref l) false := fun prog w E Q h => by
  unfold eqBool
  refine wpAny_holding ?_
  refine wpAny_ite_split (fun hab => absurd (eq_of_beq hab) nofun) (fun _ => ?_)
  exact wpAny_bind (RcAt.str_dict b u ho hu prog w E _ (wpAny_truthy_bool h))
end
end PySem.SeqAt
namespace L2
open PySem PySem.Spec PyProof.Rows
/-- a value that can be looked for among texts -/
inductive AnyV (K : PySem.W.Frag) (H : Hp) : V → Prop
  | non : AnyV K H .non
  | bl (b : Bool) : AnyV K H (.bl b)
  | int (i : Int) : AnyV K H (.int i)
  | str (z : Str) : AnyV K H (.str z)
  | lst {a : Addr} {xs : List V} (h : SqL K H a xs) : AnyV K H (.ref a)
  | tup {a : Addr} {xs : List V} (h : SqT K H a xs) : AnyV K H (.ref a)
  | dic {a : Addr} {kvs : List (Key × V)} (h : H a = some (.dK kvs)) : AnyV K H (.ref a)
theorem AnyV.same {K : PySem.W.Frag} {H H' : Hp} {x : V} (h : AnyV K H x) (s : Same H H') : AnyV K H' x := by
  cases h with
  | non => exact .non
  | bl b => exact .bl b
  | int i => exact .int i
  | str z => exact .str z
  | lst h => exact .lst (s.seq h)
  | tup h => exact .tup (h.elim (fun h => .inl (h.elim (fun h => .inl (s _ _ h)) fun ⟨o, h⟩ => .inr ⟨o, s _ _ h⟩)) fun h => .inr h)
  | dic h => exact .dic (s _ _ h)
theorem AnyV.of_dq {K : PySem.W.Frag} {H : Hp} {x : V} {d : PyData} (h : Dq H x d) : AnyV K H x := by
  cases h with
  | non => exact .non
  | bl b => exact .bl b
  | int i => exact .int i
  | str z => exact .str z
  | lst _ h _ => exact .lst (SqL.of h)
  | tup h _ => exact .tup (SqT.of h)
  | dic h _ => exact .dic h
/-- whether a value is one of some texts -/
def isIn (x : V) (ys : List Str) : Bool := match x with
  | .str z => decide (z ∈ ys)
  | _ => false
theorem any_eq {X : Cx} {pins : List (Addr × Obj)} {σ : St} {H : Hp} {s : Shared} {A : Around} (I : Inv X pins σ H s) {x : V} {u : Value} (rx : RelV x u) (ax : AnyV X.K H x) (hu : A.units < cLine) (y : Str) (t : Tok) :
    SeqAt.EqAt A s (.str y t) u (isIn x [y]) := by
  cases ax with
  | non => cases rx; exact SeqAt.EqAt.str_none y t
  | bl b => cases rx; exact SeqAt.EqAt.str_bool y t b
  | int i => obtain ⟨t2, rfl⟩ := rx; exact SeqAt.EqAt.str_int y t i t2
  | str z =>
    obtain ⟨t2, rfl⟩ := rx
    have e : isIn (.str z) [y] = (y == z) := by
      unfold isIn
      by_cases h : y = z
      · subst h; simp
      · have h' : ¬ z = y := fun q => h q.symm
        simp [h, h']
    rw [e]
    exact SeqAt.EqAt.str_str y t z t2
  | lst h =>
    cases rx
    obtain ⟨its, r, e, z⟩ := I.list h
    exact SeqAt.EqAt.str_list y t e.isList hu
  | tup h =>
    cases rx
    obtain ⟨its, r, e, z⟩ := I.tuple h
    exact SeqAt.EqAt.str_tuple y t e hu
  | dic h =>
    cases rx
    obtain ⟨_, _, vs, _, o, es, ep, h1, h2, h3, _⟩ := I.hok _ _ h
    obtain ⟨cls, dd, data, sl⟩ := o
    obtain ⟨h2, _⟩ := h2
    simp only at h2 h3
    subst h2 h3
    exact SeqAt.EqAt.str_dict y t h1 hu
def rInT (K : PySem.W.Frag) (neg : Bool) : R2 := fun x y H Q => ∃ p ys, y = .ref p ∧ (SqL K H p (ys.map V.str) ∨ SqT K H p (ys.map V.str)) ∧ AnyV K H x ∧ Q (.bl (if neg then !isIn x ys else isIn x ys)) H
theorem any_cons {x : V} {y : Str} {ys : List Str} : isIn x (y :: ys) = (isIn x [y] || isIn x ys) := by
  unfold isIn
  cases x with
  | str z =>
    by_cases h : z = y
    · simp [h]
    · simp [h]
  | _ => rfl
/-- what is at the place of a text -/
def eqOf (x : V) (u : Value) : Bool := match u with
  | .str y _ => isIn x [y]
  | _ => false
theorem any_items {x : V} : ∀ {ys : List Str} {its : List Value}, Vals (ys.map V.str) its → its.any (eqOf x) = isIn x ys
  | [], _, .nil => by
    unfold isIn
    cases x <;> first | rfl | simp
  | y :: ys, _, .cons r rs => by
    obtain ⟨t, rfl⟩ := r
    rw [List.any_cons, any_items rs, any_cons]
    rfl
theorem items_str {ys : List Str} {its : List Value} (r : Vals (ys.map V.str) its) : ∀ u ∈ its, ∃ y t, u = Value.str y t := by
  intro u hu
  obtain ⟨i, hi, e⟩ := List.getElem_of_mem hu
  have hl := r.length
  obtain ⟨w, ew, rw'⟩ := r.get (i := i) (List.getElem?_eq_getElem (by omega))
  rw [List.getElem?_eq_getElem hi, e] at ew
  cases ew
  rw [List.getElem_map] at rw'
  obtain ⟨t, q⟩ := rw'
  exact ⟨_, t, q⟩
section
variable {X : Cx} {K : PySem.W.Frag}
theorem op_inT {k : Nat} (hr : Room (k + 1) X.A) (hK : X.K = K := by rfl) : OpR X (compareOp .In) (rInT K false) := by
  subst hK
  rintro pins s σ H x y v u Q I rx ry ⟨p, ys, rfl, hq, ax, q⟩
  cases ry
  have hu : X.A.in1.units < cLine := (sub_in1 (X := X) hr).room.units0
  have at_ : ∀ {its : List Value}, Vals (ys.map V.str) its → ∀ z, z ∈ its.toArray → SeqAt.EqAt X.A.in1 s z v (eqOf x z) := fun r z hz => by
    obtain ⟨w, t, rfl⟩ := items_str r z (by simpa using hz)
    exact any_eq I rx ax hu w t
  have fin : ∀ {its : List Value}, Vals (ys.map V.str) its → EP X pins σ Q (.bool (its.toArray.any (eqOf x))) s := fun {its} r => by
    have e : its.toArray.any (eqOf x) = isIn x ys := by rw [List.any_toArray]; exact any_items r
    rw [e]
    exact ⟨.bl _, H, I, rfl, q⟩
  rcases hq with hq | hq
  · obtain ⟨its, r, pl, hz⟩ := I.list hq
    exact SeqAt.in_listAt (eqOf x) pl.isList (at_ r) (fin r)
  · obtain ⟨its, r, pl, hz⟩ := I.tuple hq
    exact SeqAt.in_tupleAt (eqOf x) pl (at_ r) (fin r)
theorem op_ninT {k : Nat} (hr : Room (k + 1) X.A) (hK : X.K = K := by rfl) : OpR X (compareOp .NotIn) (rInT K true) := by
  subst hK
  rintro pins s σ H x y v u Q I rx ry ⟨p, ys, rfl, hq, ax, q⟩
  cases ry
  have hu : X.A.in1.units < cLine := (sub_in1 (X := X) hr).room.units0
  have at_ : ∀ {its : List Value}, Vals (ys.map V.str) its → ∀ z, z ∈ its.toArray → SeqAt.EqAt X.A.in1 s z v (eqOf x z) := fun r z hz => by
    obtain ⟨w, t, rfl⟩ := items_str r z (by simpa using hz)
    exact any_eq I rx ax hu w t
  have fin : ∀ {its : List Value}, Vals (ys.map V.str) its → EP X pins σ Q (.bool (!its.toArray.any (eqOf x))) s := fun {its} r => by
    have e : its.toArray.any (eqOf x) = isIn x ys := by rw [List.any_toArray]; exact any_items r
    rw [e]
    exact ⟨.bl _, H, I, rfl, q⟩
  rcases hq with hq | hq
  · obtain ⟨its, r, pl, hz⟩ := I.list hq
    exact SeqAt.notIn_listAt (eqOf x) pl.isList (at_ r) (fin r)
  · obtain ⟨its, r, pl, hz⟩ := I.tuple hq
    exact SeqAt.notIn_tupleAt (eqOf x) pl (at_ r) (fin r)
end
end L2
namespace L2
open PySem PySem.Spec PyProof.Rows
mutual
/-- no more signs than this -/
def bulk : PyData → Nat
  | .list xs => bulkAll xs + 2 * xs.length + 3
  | .tuple xs => bulkAll xs + 2 * xs.length + 3
  | .str x => 10 * x.length + 2
  | .none => (PyData.shown .none).length
  | .bool b => (PyData.shown (.bool b)).length
  | .int i => (PyData.shown (.int i)).length
  | .dict k => (PyData.shown (.dict k)).length
def bulkAll : List PyData → Nat
  | [] => 0
  | x :: xs => bulk x + bulkAll xs
end
theorem shownAll_len : ∀ ds : List PyData, (PyData.shownAll ds).length = ds.length
  | [] => rfl
  | d :: ds => by
    show (PyData.shown d :: PyData.shownAll ds).length = _
    rw [List.length_cons, List.length_cons, shownAll_len ds]
theorem text_len {x : Str} (h : PyData.strOk x = true) : (reprText x).length ≤ 10 * x.length + 2 := by
  unfold PyData.strOk at h
  rw [← Array.all_toList, List.all_eq_true] at h
  exact PySem.StrLaws.reprText_len x fun c hc => Nat.lt_of_lt_of_le (of_decide_eq_true (h c hc)) (by decide)
mutual
theorem bulk_le : ∀ d : PyData, d.canLay0 = true → d.shown.length ≤ bulk d
  | .none, _ => Nat.le_refl _
  | .bool _, _ => Nat.le_refl _
  | .int _, _ => Nat.le_refl _
  | .dict _, _ => Nat.le_refl _
  | .str x, h => text_len h
  | .list xs, h => by
    have q := bulkAll_le xs h
    have r := listText_len_le (PyData.shownAll xs)
    rw [shownAll_len] at r
    show (listText (PyData.shownAll xs)).length ≤ bulkAll xs + 2 * xs.length + 3
    omega
  | .tuple xs, h => by
    have q := bulkAll_le xs h
    have r := tupleText_len_le (PyData.shownAll xs)
    rw [shownAll_len] at r
    show (tupleText (PyData.shownAll xs)).length ≤ bulkAll xs + 2 * xs.length + 3
    omega
theorem bulkAll_le : ∀ ds : List PyData, PyData.canLayAll0 ds = true → ((PyData.shownAll ds).map (·.length)).sum ≤ bulkAll ds
  | [], _ => Nat.le_refl _
  | d :: ds, h => by
    obtain ⟨h1, h2⟩ := Bool.and_eq_true_iff.mp (show (d.canLay0 && PyData.canLayAll0 ds) = true from h)
    have q := bulk_le d h1
    have r := bulkAll_le ds h2
    show (d.shown.length :: (PyData.shownAll ds).map (·.length)).sum ≤ bulk d + bulkAll ds
    rw [List.sum_cons]
    omega
end
theorem okShow_of {d : PyData} (h1 : d.canLay0 = true) (h2 : d.showable = true) (h3 : bulk d ≤ 1000000) (h4 : d.depth ≤ 60) : okShow d = true := by
  unfold okShow
  rw [h2, decide_eq_true (Nat.le_trans (Nat.le_trans (bulk_le d h1) h3) (by decide)), decide_eq_true h4]
  rfl
theorem shaped_of {d : PyData} (h1 : d.canLay0 = true) (h4 : d.depth ≤ 60) : SeqAt.shaped d = true := by
  unfold SeqAt.shaped
  rw [h1, decide_eq_true (by omega)]
  rfl
/-- repr of data without dicts -/
def rReprP (K : PySem.W.Frag) : List V → Hp → VK → Prop := fun xs H Q => ∃ (x : V) (d : PyData), xs = [x] ∧ Dp K H x d ∧ d.canLay0 = true ∧ okShow d = true ∧ Q (.str d.shown) H
theorem call_reprP {X : Cx} {K : PySem.W.Frag} (gd : X.A.guards = some []) (hu : X.A.units + 64 < cLine) (hK : X.K = K := by rfl) : CallR X (.builtin "repr") (rReprP K) := by
  subst hK
  intro pins s σ H xs us Q I r h
  obtain ⟨x, d, rfl, hd, lay, ok, q⟩ := h
  obtain ⟨u, rfl, ru⟩ := vals1 r
  unfold okShow at ok
  rw [Bool.and_eq_true, Bool.and_eq_true, decide_eq_true_eq, decide_eq_true_eq] at ok
  obtain ⟨⟨sh, len⟩, dep⟩ := ok
  obtain ⟨as, rd⟩ := Dp.reads I d x u hd ru
  have ref : ∀ {a : Addr}, u = .ref a → wpAny (model X.prog X.w) X.A (call (.builtin "repr") [u]) (EP X pins σ Q) X.xe s := fun {a} e => by
    subst e
    exact repr_of_reads' rd sh (PyData.noDict_hsm (PyData.hasDict_of_canLay d lay)) gd (by omega) (fun _ _ e => e) (fun h' u tk k => ⟨.str d.shown, H, I.kept (t' := tk) k, ⟨u, rfl⟩, q⟩) len
  cases hd with
  | non =>
    cases ru
    exact PySem.P.repr_of_none ⟨.str _, H, I.tok _, ⟨_, rfl⟩, q⟩
  | bl b =>
    cases ru
    exact PySem.P.repr_of_bool ⟨.str _, H, I.tok _, ⟨_, rfl⟩, q⟩
  | int i =>
    obtain ⟨t, rfl⟩ := ru
    exact PySem.P.repr_of_int (by simpa [PyData.showable] using sh) ⟨.str _, H, I.tok _, ⟨_, rfl⟩, q⟩
  | str y =>
    obtain ⟨t, rfl⟩ := ru
    exact PySem.P.repr_of_str ⟨.str _, H, I.tok _, ⟨_, rfl⟩, q⟩ len
  | lst h ra =>
    cases ru
    exact ref rfl
  | tup h ra =>
    cases ru
    exact ref rfl
def txD (ps : List Str) : List PyData := ps.map .str
theorem tx_lay {ps : List Str} : PyData.canLayAll0 (txD ps) = ps.all PyData.strOk := by
  induction ps with
  | nil => rfl
  | cons p ps ih =>
    show (PyData.strOk p && PyData.canLayAll0 (txD ps)) = _
    rw [ih]
    rfl
theorem tx_show : ∀ ps : List Str, PyData.showableAll (txD ps) = true
  | [] => rfl
  | p :: ps => tx_show ps
theorem tx_depth : ∀ ps : List Str, PyData.depthAll (txD ps) = 0
  | [] => rfl
  | p :: ps => by
    show max 0 (PyData.depthAll (txD ps)) = 0
    rw [tx_depth ps]
    rfl
theorem tx_bulk {n : Nat} : ∀ {ps : List Str}, (∀ z ∈ ps, z.length ≤ n) → bulkAll (txD ps) ≤ (10 * n + 2) * ps.length
  | [], _ => Nat.zero_le _
  | p :: ps, h => by
    have ih := tx_bulk fun z hz => h z (.tail _ hz)
    have hp := h p (.head _)
    show 10 * p.length + 2 + bulkAll (txD ps) ≤ _
    rw [List.length_cons, Nat.mul_succ]
    omega
theorem tx_all {K : PySem.W.Frag} {H : Hp} : ∀ ps : List Str, DpAll K H (ps.map V.str) (txD ps)
  | [] => .nil
  | p :: ps => .cons (.str p) (tx_all ps)
def tieD (qs : List (Str × Str)) : List PyData := qs.map pD
theorem pr_lay {qs : List (Str × Str)} : PyData.canLayAll0 (tieD qs) = qs.all okP := by
  induction qs with
  | nil => rfl
  | cons p qs ih =>
    show ((PyData.strOk p.1 && (PyData.strOk p.2 && true)) && PyData.canLayAll0 (tieD qs)) = _
    rw [ih, Bool.and_true]
    rfl
theorem pr_show : ∀ qs : List (Str × Str), PyData.showableAll (tieD qs) = true
  | [] => rfl
  | p :: qs => pr_show qs
theorem pr_depth : ∀ qs : List (Str × Str), PyData.depthAll (tieD qs) ≤ 1
  | [] => Nat.zero_le _
  | p :: qs => by
    show max 1 (PyData.depthAll (tieD qs)) ≤ 1
    have := pr_depth qs
    omega
theorem pr_bulk {n : Nat} : ∀ {qs : List (Str × Str)}, (∀ t ∈ qs, t.1.length ≤ n ∧ t.2.length ≤ n) → bulkAll (tieD qs) ≤ (20 * n + 11) * qs.length
  | [], _ => Nat.zero_le _
  | p :: qs, h => by
    have ih := pr_bulk fun z hz => h z (.tail _ hz)
    have hp := h p (.head _)
    show (10 * p.1.length + 2 + (10 * p.2.length + 2 + 0)) + 2 * 2 + 3 + bulkAll (tieD qs) ≤ (20 * n + 11) * (qs.length + 1)
    have e : (20 * n + 11) * (qs.length + 1) = (20 * n + 11) * qs.length + (20 * n + 11) := Nat.mul_succ _ _
    omega
theorem pr_all {K : PySem.W.Frag} {H : Hp} {as : List Addr} {qs : List (Str × Str)} (r : Paired (PairAt H) as qs) : DpAll K H (as.map V.ref) (tieD qs) := by
  induction r with
  | nil => exact .nil
  | cons h _ ih => exact .cons (.tup (SqT.of h) (.cons (.str _) (.cons (.str _) .nil))) ih
def blD (bs : List Bool) : List PyData := bs.map .bool
theorem bl_lay : ∀ bs : List Bool, PyData.canLayAll0 (blD bs) = true
  | [] => rfl
  | b :: bs => bl_lay bs
theorem bl_show : ∀ bs : List Bool, PyData.showableAll (blD bs) = true
  | [] => rfl
  | b :: bs => bl_show bs
theorem bl_depth : ∀ bs : List Bool, PyData.depthAll (blD bs) = 0
  | [] => rfl
  | b :: bs => by
    show max 0 (PyData.depthAll (blD bs)) = 0
    rw [bl_depth bs]
    rfl
theorem bl_bulk : ∀ bs : List Bool, bulkAll (blD bs) ≤ 5 * bs.length
  | [] => Nat.zero_le _
  | b :: bs => by
    have ih := bl_bulk bs
    have hb : (PyData.shown (.bool b)).length ≤ 5 := by
      cases b with
      | true => decide +kernel
      | false => decide +kernel
    show (PyData.shown (.bool b)).length + bulkAll (blD bs) ≤ _
    rw [List.length_cons]
    omega
theorem bl_all {K : PySem.W.Frag} {H : Hp} : ∀ bs : List Bool, DpAll K H (bs.map V.bl) (blD bs)
  | [] => .nil
  | b :: bs => .cons (.bl b) (bl_all bs)
theorem eqv_tx : ∀ ps qs : List Str, PyData.eqvAll (txD ps) (txD qs) = decide (ps = qs)
  | [], [] => rfl
  | [], q :: qs => rfl
  | p :: ps, [] => rfl
  | p :: ps, q :: qs => by
    show ((p == q) && PyData.eqvAll (txD ps) (txD qs)) = _
    rw [eqv_tx ps qs]
    by_cases h : p = q
    · subst h
      simp
    · simp [h]
theorem eqv_pr : ∀ ps qs : List (Str × Str), PyData.eqvAll (tieD ps) (tieD qs) = decide (ps = qs)
  | [], [] => rfl
  | [], q :: qs => rfl
  | p :: ps, [] => rfl
  | p :: ps, q :: qs => by
    show (((p.1 == q.1) && ((p.2 == q.2) && true)) && PyData.eqvAll (tieD ps) (tieD qs)) = _
    rw [eqv_pr ps qs, Bool.and_true]
    by_cases h : p = q
    · subst h
      simp
    · have : ¬ (p.1 = q.1 ∧ p.2 = q.2) := fun e => h (Prod.ext e.1 e.2)
      by_cases h1 : p.1 = q.1
      · have h2 : ¬ p.2 = q.2 := fun e => this ⟨h1, e⟩
        simp [h1, h2, h]
      · simp [h1, h]
theorem eqv_bl : ∀ ps qs : List Bool, PyData.eqvAll (blD ps) (blD qs) = decide (ps = qs)
  | [], [] => rfl
  | [], q :: qs => rfl
  | p :: ps, [] => rfl
  | p :: ps, q :: qs => by
    show ((p == q) && PyData.eqvAll (blD ps) (blD qs)) = _
    rw [eqv_bl ps qs]
    cases p <;> cases q <;> simp
end L2
namespace K05
open PySem L2 NetM PySem.Spec PyProof.Rows
/-- what the methods of Net are -/
structure NetP (K : PySem.W.Frag) (A : Adr) : Prop where
  e_eq : PySem.W.findIn K (.ref A.a_Net) "__eq__" = some (some (.ref A.f_Net___eq__))
  e_ne : PySem.W.findIn K (.ref A.a_Net) "__ne__" = some (some (.builtin "object.__ne__"))
  e_len : PySem.W.findIn K (.ref A.a_Net) "__len__" = some (some (.ref A.f_Net___len__))
  e_con : PySem.W.findIn K (.ref A.a_Net) "__contains__" = some (some (.ref A.f_Net___contains__))
  e_get : PySem.W.findIn K (.ref A.a_Net) "__getitem__" = some (some (.ref A.f_Net___getitem__))
  b_eq : PySem.W.isFn K (.ref A.f_Net___eq__) = true
  b_len : PySem.W.isFn K (.ref A.f_Net___len__) = true
  b_con : PySem.W.isFn K (.ref A.f_Net___contains__) = true
  b_get : PySem.W.isFn K (.ref A.f_Net___getitem__) = true
  g_get : PySem.W.fnIn K A.f_Net___getitem__ = true
  tied : Meth K A.a_Net "tied" A.f_Net_tied
  ha : PySem.W.findIn K (.ref A.a_Net) "__class__" = some (some (.builtin "object.__class__"))
  hn : PySem.W.specialIn K (.builtin "object.__class__") "__get__" = some (some (.builtin "getset_descriptor.__get__"))
  hk : PySem.W.takesIn K (.builtin "object.__class__") = some true
  hm : PySem.W.mroIn K A.a_Net (.type "object") = some true
  kN : PySem.W.kitOne K (.ref A.a_Net) (.ref A.a_Net) = some true
  kS : PySem.W.kitOne K (.type "str") (.ref A.a_Net) = some false
  kT : PySem.W.kitOne K (.type "tuple") (.ref A.a_Net) = some false
  kI : PySem.W.kitOne K (.type "int") (.ref A.a_Net) = some false
  nS : PySem.W.notFirst K A.a_Net (.type "str") = true
  nT : PySem.W.notFirst K A.a_Net (.type "tuple") = true
  nI : PySem.W.notFirst K A.a_Net (.type "int") = true
/-- NoPlace with a value -/
def noPl (ad : Adr) (H : Hp) (E : XK) (v : V) : Prop := ∀ H' d, Same H H' → H d = none → H' d = some (.xd [("value", v)]) → E (.ref ad.a_NoPlace) (some d) H'
theorem noPl.same {ad : Adr} {H H1 : Hp} {E : XK} {v : V} (h : noPl ad H E v) (s : Same H H1) : noPl ad H1 E v := fun H' d s' nd hd => h H' d (Same.trans s s') (none_of_same s nd) hd
theorem NetAt.same {H H' : Hp} {C x : Addr} {z : Str} {ps : List Str} {qs : List (Str × Str)} (h : NetAt H C x z ps qs) (s : Same H H') : NetAt H' C x z ps qs := by
  obtain ⟨dx, a, b, d, h1, h2, h3, kvs, h4, h5⟩ := h
  refine ⟨dx, a, b, d, s _ _ h1, h2.same s, h3.same s, kvs, s _ _ h4, fun y hy => ?_⟩
  obtain ⟨t, e1, e2, e3⟩ := h5 y hy
  exact ⟨t, e1, s _ _ e2, e3⟩
def spCon (K : PySem.W.Frag) (ad : Adr) : Sp := fun vs H Q _ => ∃ (x : Addr) (v : V) (z : Str) (ps : List Str) (qs : List (Str × Str)), vs = [.ref x, v] ∧ NetAt H ad.a_Net x z ps qs ∧ AnyV K H v ∧ Q (.bl (isIn v ps)) H
def spLenN (ad : Adr) : Sp := fun vs H Q _ => ∃ (x : Addr) (z : Str) (ps : List Str) (qs : List (Str × Str)), vs = [.ref x] ∧ NetAt H ad.a_Net x z ps qs ∧ Q (.int ps.length) H
def spGet (K : PySem.W.Frag) (ad : Adr) : Sp := fun vs H Q E => ∃ (x : Addr) (v : V) (z : Str) (ps : List Str) (qs : List (Str × Str)), vs = [.ref x, v] ∧ NetAt H ad.a_Net x z ps qs ∧ AnyV K H v ∧ (isIn v ps = false → noPl ad H E v) ∧
  ∀ y, v = .str y → y ∈ ps → ∀ t, H t = some (.tup ((nbOf qs y).map V.str)) → Q (.ref t) H
def spPlace (K : PySem.W.Frag) (ad : Adr) : Sp := fun vs H Q E => ∃ (x : Addr) (v : V) (z : Str) (ps : List Str) (qs : List (Str × Str)), vs = [.ref x, v] ∧ NetAt H ad.a_Net x z ps qs ∧ AnyV K H v ∧ (isIn v ps = false → noPl ad H E v) ∧ (isIn v ps = true → Q .non H)
def spTied (K : PySem.W.Frag) (ad : Adr) : Sp := fun vs H Q E => ∃ (x : Addr) (v u : V) (z : Str) (ps : List Str) (qs : List (Str × Str)), vs = [.ref x, v, u] ∧ NetAt H ad.a_Net x z ps qs ∧ AnyV K H v ∧ AnyV K H u ∧ (isIn v ps = false → noPl ad H E v) ∧
  (isIn v ps = true → isIn u ps = false → noPl ad H E u) ∧ ∀ a b, v = .str a → u = .str b → a ∈ ps → b ∈ ps → Q (.bl (decide (b ∈ nbOf qs a))) H
/-- net == x: another net, or a text, a tuple, a number -/
def spEqN (K : PySem.W.Frag) (ad : Adr) : Sp := fun vs H Q _ => ∃ (x : Addr) (v : V) (z : Str) (ps : List Str) (qs : List (Str × Str)), vs = [.ref x, v] ∧ NetAt H ad.a_Net x z ps qs ∧
  ((∃ t, TyX K H v t ∧ PySem.W.kitOne K t (.ref ad.a_Net) = some false ∧ Q (.bl false) H) ∨
   (∃ y z' ps' qs', v = .ref y ∧ NetAt H ad.a_Net y z' ps' qs' ∧ ps.all PyData.strOk = true ∧ ps'.all PyData.strOk = true ∧ qs.all okP = true ∧ qs'.all okP = true ∧ Q (.bl (decide (ps = ps') && decide (qs = qs'))) H))
theorem isIn_str {v : V} {ps : List Str} (h : isIn v ps = true) : ∃ y, v = .str y ∧ y ∈ ps := by
  unfold isIn at h
  cases v with
  | str y => exact ⟨y, rfl, of_decide_eq_true h⟩
  | _ => cases h
section
variable {P : Program} {w : World} {K : PySem.W.Frag} {mg : Str → Option Value} {base : Heap} {ad : Adr}
theorem netTy {H : Hp} {x : Addr} {z : Str} {ps : List Str} {qs : List (Str × Str)} {fN : Addr} (N : NetC K fN ad.a_Net) (M : NetP K ad) (h : NetAt H ad.a_Net x z ps qs) : TyX K H (.ref x) (.ref ad.a_Net) := by
  obtain ⟨dx, a, b, d, h1, _⟩ := h
  exact .base (.ins h1 N.cls M.ha M.hn M.hk M.hm)
theorem netSub {H : Hp} {x : Addr} {z : Str} {ps : List Str} {qs : List (Str × Str)} {fN : Addr} (N : NetC K fN ad.a_Net) (M : NetP K ad) (h : NetAt H ad.a_Net x z ps qs) : NotSub K ad.a_Net (.ref x) H :=
  ⟨_, netTy N M h, by unfold PySem.W.notFirst; simp⟩
theorem sc_Net___contains__ : FnScope ["self", "x"] ["self", "x"] (defScope s_Net___contains__) := ⟨rfl, rfl, rfl, by decide +kernel, rfl, by decide +kernel, by decide +kernel⟩
theorem ok_Net___contains__ {f fN : Addr} {fd : FuncData} (F : Fun K "__contains__" "Net.__contains__" s_Net___contains__ f fd) (N : NetC K fN ad.a_Net) : FnOk P w K mg base CX0 2 f fd ["self", "x"] (spCon K ad) := by
  refine F.ok sc_Net___contains__ (fun vs H Q E h => ?_) (fun cdv A outer s H vs Q E hr h => ?_)
  · obtain ⟨_, _, _, _, _, rfl, _⟩ := h
    rfl
  · obtain ⟨x, v, z, ps, qs, rfl, ⟨dx, a, b, d, h1, h2, h3⟩, av, q⟩ := h
    refine ⟨_, (pss_one (ps_ret (pe_cmpR (op_inT (K := K) hr) (pv 1) (pe_fld (pv 0) (by rfl)) (by rfl)))), ?_⟩
    exact ⟨_, rfl, _, rfl, x, ad.a_Net, dx, _, .ref a, rfl, h1, N.cls, N.n_places, rfl, a, ps, rfl, .inr h2.sq, av, q⟩
theorem sc_Net___len__ : FnScope ["self"] ["self"] (defScope s_Net___len__) := ⟨rfl, rfl, rfl, by decide +kernel, rfl, by decide +kernel, by decide +kernel⟩
theorem ok_Net___len__ {f fN : Addr} {fd : FuncData} (F : Fun K "__len__" "Net.__len__" s_Net___len__ f fd) (T : Txt K mg ad) (N : NetC K fN ad.a_Net) : FnOk P w K mg base CX0 1 f fd ["self"] (spLenN ad) := by
  refine F.ok sc_Net___len__ (fun vs H Q E h => ?_) (fun cdv A outer s H vs Q E hr h => ?_)
  · obtain ⟨_, _, _, _, rfl, _⟩ := h
    rfl
  · obtain ⟨x, z, ps, qs, rfl, ⟨dx, a, b, d, h1, h2, h3⟩, q⟩ := h
    refine ⟨_, (pss_one (ps_ret (pe_callB (kLen (K := K)) (by rfl) T.n_len (by decide +kernel) (pa_cons (pe_fld (pv 0) (by rfl)) pa_nil)))), ?_⟩
    refine ⟨_, rfl, x, ad.a_Net, dx, _, .ref a, rfl, h1, N.cls, N.n_places, rfl, a, _, rfl, .inr h2.sq, ?_⟩
    rw [List.length_map]
    exact q
theorem sc_Net___getitem__ : FnScope ["self", "at"] ["self", "at"] (defScope s_Net___getitem__) := ⟨rfl, rfl, rfl, by decide +kernel, rfl, by decide +kernel, by decide +kernel⟩
theorem ok_Net___getitem__ {f fN : Addr} {fd fdI : FuncData} (F : Fun K "__getitem__" "Net.__getitem__" s_Net___getitem__ f fd) (T : Txt K mg ad) (N : NetC K fN ad.a_Net)
    (GI : FnOk P w K mg base CX0 1 ad.fI fdI ["self", "value"] (spErrInit K)) (bI : Binds K fdI ["self", "value"] []) : FnOk P w K mg base (L2.CX P w) 3 f fd ["self", "at"] (spGet K ad) := by
  refine F.okX sc_Net___getitem__ (fun vs H Q E h => ?_) (fun cdv A outer s H vs Q E hr h => ?_)
  · obtain ⟨_, _, _, _, _, rfl, _⟩ := h
    rfl
  · obtain ⟨x, v, z, ps, qs, rfl, ⟨dx, a, b, d, h1, h2, h3, kvs, h4, h5⟩, av, kE, kQ⟩ := h
    have hr2 := hr
    have hu : (A.deeper (envOfC "Net.__getitem__" (defScope s_Net___getitem__) s.heap.objs.size f cdv)).units + 1 < cLine := by
      have := hr.un
      omega
    refine ⟨_, (pss_cons (ps_if (pt_cmpR (op_ninT (K := K) hr) (pv 1) (pe_fld (pv 0) (by rfl)) (by rfl)) (pss_one (ps_raise rfl (takes_of rfl rfl rfl rfl) (pmk_oex (dvs := []) T.c_NoPlace.oex T.c_NoPlace.iC T.tI GI hr2 bI .nil pass0 (by rfl) T.m_NoPlace (pa_cons (pv 1) pa_nil)))) pss_nil)
      (pss_one (ps_ret (pe_dget hu (pe_fld (pv 0) (by rfl)) (pv 1) (fun _ _ => rfl))))), ?_⟩
    refine ⟨_, rfl, _, rfl, x, ad.a_Net, dx, _, .ref a, rfl, h1, N.cls, N.n_places, rfl, a, ps, rfl, .inr h2.sq, av, _, rfl, ?_⟩
    cases e : isIn v ps with
    | false => exact if_eqT rfl ⟨_, rfl, mkO_intro T.c_NoPlace fun d H2 nd s2 e2 => kE e H2 d s2 nd e2⟩
    | true =>
      obtain ⟨y, rfl, hy⟩ := isIn_str e
      obtain ⟨t, e1, e2, _⟩ := h5 y hy
      exact if_eqF rfl ⟨_, rfl, x, ad.a_Net, dx, _, .ref d, rfl, h1, N.cls, N.n_near, rfl, _, rfl, d, .ref t, rfl, by have q := DGet.k (k := Sum.inr y) h4; rw [e1] at q; exact q, kQ y rfl hy t e2⟩
theorem sc_check_place : FnScope ["net", "value"] ["net", "value"] (defScope s_check_place) := ⟨rfl, rfl, rfl, by decide +kernel, rfl, by decide +kernel, by decide +kernel⟩
theorem ok_check_place {f fN : Addr} {fd fd1 fdI : FuncData} (F : Fun K "check_place" "check_place" s_check_place f fd) (T : Txt K mg ad) (M : NetP K ad)
    (GI : FnOk P w K mg base CX0 1 ad.fI fdI ["self", "value"] (spErrInit K)) (bI : Binds K fdI ["self", "value"] [])
    (G_con : FnOk P w K mg base CX0 2 ad.f_Net___contains__ fd1 ["self", "x"] (spCon K ad)) (b_con : Binds K fd1 ["self", "x"] []) : FnOk P w K mg base (L2.CX P w) 3 f fd ["net", "value"] (spPlace K ad) := by
  refine F.okX sc_check_place (fun vs H Q E h => ?_) (fun cdv A outer s H vs Q E hr h => ?_)
  · obtain ⟨_, _, _, _, _, rfl, _⟩ := h
    rfl
  · obtain ⟨x, v, z, ps, qs, rfl, net, av, kE, kQ⟩ := h
    have hr2 := hr
    refine ⟨_, (pss_one (ps_if (pt_cmpR (op_ninOwn G_con hr b_con pass0 M.e_con M.b_con) (pv 1) (pv 0) (by rfl)) (pss_one (ps_raise rfl (takes_of rfl rfl rfl rfl) (pmk_oex (dvs := []) T.c_NoPlace.oex T.c_NoPlace.iC T.tI GI hr2 bI .nil pass0 (by rfl) T.m_NoPlace (pa_cons (pv 1) pa_nil)))) pss_nil)), ?_⟩
    obtain ⟨dx, a, b, d, h1, _⟩ := id net
    refine ⟨_, rfl, _, rfl, x, dx, _, rfl, h1, x, v, z, ps, qs, rfl, net, av, _, rfl, _, rfl, ?_⟩
    cases e : isIn v ps with
    | false => exact if_eqT rfl ⟨_, rfl, mkO_intro T.c_NoPlace fun d H2 nd s2 e2 => kE e H2 d s2 nd e2⟩
    | true => exact if_eqF rfl (kQ e)
theorem sc_Net_tied : FnScope ["self", "one", "other"] ["self", "one", "other"] (defScope s_Net_tied) := ⟨rfl, rfl, rfl, by decide +kernel, rfl, by decide +kernel, by decide +kernel⟩
theorem ok_Net_tied {f fN : Addr} {fd fd1 : FuncData} (F : Fun K "tied" "Net.tied" s_Net_tied f fd) (T : Txt K mg ad) (N : NetC K fN ad.a_Net)
    (G_pl : FnOk P w K mg base (L2.CX P w) 3 ad.f_check_place fd1 ["net", "value"] (spPlace K ad)) (b_pl : Binds K fd1 ["net", "value"] []) : FnOk P w K mg base (L2.CX P w) 4 f fd ["self", "one", "other"] (spTied K ad) := by
  refine F.okX sc_Net_tied (fun vs H Q E h => ?_) (fun cdv A outer s H vs Q E hr h => ?_)
  · obtain ⟨_, _, _, _, _, _, rfl, _⟩ := h
    rfl
  · obtain ⟨x, v, u, z, ps, qs, rfl, net, av, au, kE, kE2, kQ⟩ := h
    have hu : (A.deeper (envOfC "Net.tied" (defScope s_Net_tied) s.heap.objs.size f cdv)).units + 1 < cLine := by
      have := hr.un
      omega
    refine ⟨_, (pss_cons (ps_expr (pe_call G_pl hr (by rfl) T.m_check_place T.k_check_place b_pl .nil (passes_call (takes_of rfl rfl rfl rfl) fun _ _ _ _ h => h) (pa_cons (pv 0) (pa_cons (pv 1) pa_nil))))
      (pss_cons (ps_expr (pe_call G_pl hr (by rfl) T.m_check_place T.k_check_place b_pl .nil (passes_call (takes_of rfl rfl rfl rfl) fun _ _ _ _ h => h) (pa_cons (pv 0) (pa_cons (pv 2) pa_nil))))
      (pss_one (ps_ret (pe_cmpR (kIn (K := K)) (pv 2) (pe_dget hu (pe_fld (pv 0) (by rfl)) (pv 1) (fun _ _ => rfl)) (by rfl)))))), ?_⟩
    refine ⟨_, rfl, _, rfl, x, v, z, ps, qs, rfl, net, av, kE, fun i1 => ?_⟩
    refine ⟨_, rfl, _, rfl, x, u, z, ps, qs, rfl, net, au, kE2 i1, fun i2 => ?_⟩
    obtain ⟨dx, a, b, d, h1, h2, h3, kvs, h4, h5⟩ := net
    obtain ⟨y, rfl, hy⟩ := isIn_str i1
    obtain ⟨o, rfl, ho⟩ := isIn_str i2
    obtain ⟨t, e1, e2, _⟩ := h5 y hy
    refine ⟨_, rfl, _, rfl, x, ad.a_Net, dx, _, .ref d, rfl, h1, N.cls, N.n_near, rfl, _, rfl, d, .ref t, rfl, by have q := DGet.k (k := Sum.inr y) h4; rw [e1] at q; exact q, t, _, rfl, .inr (SqT.of e2), rfl, flat_strs, ?_⟩
    show Q (.bl (inV (.str o) ((nbOf qs y).map V.str))) H
    rw [inV_strs]
    exact kQ y o rfl rfl hy ho
theorem sc_Net___eq__ : FnScope ["self", "other"] ["self", "other"] (defScope s_Net___eq__) := ⟨rfl, rfl, rfl, by decide +kernel, rfl, by decide +kernel, by decide +kernel⟩
theorem ok_Net___eq__ {f fN : Addr} {fd : FuncData} (F : Fun K "__eq__" "Net.__eq__" s_Net___eq__ f fd) (T : Txt K mg ad) (N : NetC K fN ad.a_Net) (M : NetP K ad) : FnOk P w K mg base CX0 1 f fd ["self", "other"] (spEqN K ad) := by
  refine F.ok sc_Net___eq__ (fun vs H Q E h => ?_) (fun cdv A outer s H vs Q E hr h => ?_)
  · obtain ⟨_, _, _, _, _, rfl, _⟩ := h
    rfl
  · obtain ⟨x, v, z, ps, qs, rfl, net, h⟩ := h
    have hu64 := hr.units
    refine ⟨_, (pss_one (ps_ret (pe_and (pe_callB call_isi (by rfl) T.n_isinstance (by decide +kernel) (pa_cons (pv 1) (pa_cons (pe_glob (v := .ref _) rfl T.m_Net rfl) pa_nil))) (pe_and (pe_cmpR (op_eqD hu64) (pe_fld (pv 0) (by rfl)) (pe_fld (pv 1) (by rfl)) (nomark _)) (pe_one (pe_cmpR (op_eqD hu64) (pe_fld (pv 0) (by rfl)) (pe_fld (pv 1) (by rfl)) (nomark _))))))), ?_⟩
    rcases h with ⟨t, ty, kt, q⟩ | ⟨y, z', ps', qs', rfl, net', o1, o2, o3, o4, q⟩
    · exact ⟨_, rfl, v, .ref ad.a_Net, t, .ref ad.a_Net, false, rfl, .own _, ty, kt, _, rfl, if_eqF rfl q⟩
    · refine ⟨_, rfl, .ref y, .ref ad.a_Net, _, .ref ad.a_Net, true, rfl, .own _, netTy N M net', M.kN, _, rfl, if_eqT rfl ?_⟩
      obtain ⟨dx, a, b, d, h1, h2, ⟨as, hb, pr⟩, h3⟩ := net
      obtain ⟨dx', a', b', d', h1', h2', ⟨as', hb', pr'⟩, h3'⟩ := net'
      refine ⟨_, rfl, x, ad.a_Net, dx, _, .ref a, rfl, h1, N.cls, N.n_places, rfl, _, rfl, y, ad.a_Net, dx', _, .ref a', rfl, h1', N.cls, N.n_places, rfl, .tuple (txD ps), .tuple (txD ps'), .tup h2.sq (tx_all ps), .tup h2'.sq (tx_all ps'), shaped_of ?_ ?_, shaped_of ?_ ?_, _, rfl, ?_⟩
      · exact tx_lay.trans o1
      · show PyData.depthAll (txD ps) + 1 ≤ 60
        rw [tx_depth]
        decide
      · exact tx_lay.trans o2
      · show PyData.depthAll (txD ps') + 1 ≤ 60
        rw [tx_depth]
        decide
      show (if PyData.eqvAll (txD ps) (txD ps') = true then _ else _)
      rw [eqv_tx]
      by_cases e : ps = ps'
      · refine if_eqT (decide_eq_true e) ?_
        refine ⟨_, rfl, x, ad.a_Net, dx, _, .ref b, rfl, h1, N.cls, N.n_ties, rfl, _, rfl, y, ad.a_Net, dx', _, .ref b', rfl, h1', N.cls, N.n_ties, rfl, .tuple (tieD qs), .tuple (tieD qs'), .tup (SqT.of hb) (pr_all pr), .tup (SqT.of hb') (pr_all pr'), shaped_of ?_ ?_, shaped_of ?_ ?_, ?_⟩
        · exact pr_lay.trans o3
        · show PyData.depthAll (tieD qs) + 1 ≤ 60
          have := pr_depth qs
          omega
        · exact pr_lay.trans o4
        · show PyData.depthAll (tieD qs') + 1 ≤ 60
          have := pr_depth qs'
          omega
        show Q (.bl (PyData.eqvAll (tieD qs) (tieD qs'))) H
        rw [eqv_pr]
        rw [decide_eq_true e, Bool.true_and] at q
        exact q
      · refine if_eqF (decide_eq_false e) ?_
        rw [decide_eq_false e, Bool.false_and] at q
        exact q
end
end K05
namespace NetM
open PySem L2
/-- the number of a place -/
def place : List Str → Str → Nat
  | [], _ => 0
  | a :: l, p => if a = p then 0 else place l p + 1
theorem place_at : ∀ {l : List Str} {p : Str}, p ∈ l → l[place l p]? = some p
  | [], p, h => absurd h (List.not_mem_nil)
  | a :: l, p, h => by
    unfold place
    by_cases e : a = p
    · rw [if_pos e, e]
      rfl
    · rw [if_neg e, List.getElem?_cons_succ]
      exact place_at ((List.mem_cons.mp h).resolve_left fun z => e z.symm)
theorem place_lt {l : List Str} {p : Str} (h : p ∈ l) : place l p < l.length := (List.getElem?_eq_some_iff.mp (place_at h)).1
theorem place_get : ∀ {l : List Str} {i : Nat} {p : Str}, l.Nodup → l[i]? = some p → place l p = i
  | [], i, p, _, h => by simp at h
  | a :: l, 0, p, nd, h => by
    have e : a = p := by simpa using h
    unfold place
    exact if_pos e
  | a :: l, i + 1, p, nd, h => by
    obtain ⟨n1, n2⟩ := List.nodup_cons.mp nd
    rw [List.getElem?_cons_succ] at h
    have ne : a ≠ p := fun e => n1 (e ▸ List.mem_of_getElem? h)
    unfold place
    rw [if_neg ne, place_get n2 h]
theorem place_inj {l : List Str} {p q : Str} (hp : p ∈ l) (hq : q ∈ l) (e : place l p = place l q) : p = q := by
  have a := place_at hp
  rw [e, place_at hq] at a
  exact (Option.some.inj a).symm
theorem place_mid {pre r : List Str} {x : Str} (nd : (pre ++ x :: r).Nodup) : place (pre ++ x :: r) x = pre.length := by
  refine place_get nd ?_
  rw [List.getElem?_append_right (Nat.le_refl _), Nat.sub_self]
  rfl
theorem place_behind {pre r : List Str} {x y : Str} (nd : (pre ++ x :: r).Nodup) (hy : y ∈ r) : pre.length < place (pre ++ x :: r) y := by
  obtain ⟨j, hj⟩ := List.mem_iff_getElem?.mp hy
  have e : (pre ++ x :: r)[pre.length + (j + 1)]? = some y := by
    rw [List.getElem?_append_right (by omega), Nat.add_sub_cancel_left, List.getElem?_cons_succ]
    exact hj
  rw [place_get nd e]
  omega
theorem places_up {ps : List Str} (nd : ps.Nodup) : ps.Pairwise fun a b => place ps a < place ps b := by
  rw [List.pairwise_iff_getElem]
  intro i j hi hj h
  rw [place_get nd (List.getElem?_eq_getElem hi), place_get nd (List.getElem?_eq_getElem hj)]
  exact h
/-- what ties are sorted by -/
def code (ps : List Str) (t : Str × Str) : Int := (place ps t.1 : Int) * 100 + (place ps t.2 : Int)
theorem pairs_order : ∀ (r pre : List Str), (pre ++ r).Nodup → ∀ t ∈ pairsAll r, place (pre ++ r) t.1 < place (pre ++ r) t.2
  | [], _, _, t, h => absurd h (List.not_mem_nil)
  | x :: r, pre, nd, t, h => by
    rw [pairsAll_cons] at h
    rcases List.mem_append.mp h with h | h
    · obtain ⟨o, ho, rfl⟩ := List.mem_map.mp h
      show place _ x < place _ o
      rw [place_mid nd]
      exact place_behind nd ho
    · have e : pre ++ x :: r = (pre ++ [x]) ++ r := by simp
      rw [e] at nd ⊢
      exact pairs_order r (pre ++ [x]) nd t h
theorem pairs_up : ∀ (r pre : List Str), (pre ++ r).Nodup → (pre ++ r).length ≤ 100 → (pairsAll r).Pairwise fun s t => code (pre ++ r) s < code (pre ++ r) t
  | [], _, _, _ => .nil
  | x :: r, pre, nd, hl => by
    rw [pairsAll_cons]
    have up := places_up nd
    have upr : r.Pairwise fun a b => place (pre ++ x :: r) a < place (pre ++ x :: r) b := (List.pairwise_cons.mp (List.pairwise_append.mp up).2.1).2
    refine List.pairwise_append.mpr ⟨List.pairwise_map.mpr (upr.imp fun {a b} h => ?_), ?_, fun s hs t ht => ?_⟩
    · show (place _ x : Int) * 100 + (place _ a : Int) < (place _ x : Int) * 100 + (place _ b : Int)
      omega
    · have e : pre ++ x :: r = (pre ++ [x]) ++ r := by simp
      rw [e] at nd hl ⊢
      exact pairs_up r (pre ++ [x]) nd hl
    · obtain ⟨o, ho, rfl⟩ := List.mem_map.mp hs
      have h1 := place_mid nd
      have h2 := place_behind nd (pairs_in ht).1
      have h3 := place_lt (l := pre ++ x :: r) (List.mem_append_right pre (List.mem_cons_of_mem x ho))
      show (place _ x : Int) * 100 + (place _ o : Int) < (place _ t.1 : Int) * 100 + (place _ t.2 : Int)
      omega
theorem seq_up {ps : List Str} {ts : List (Str × Str)} (nd : ps.Nodup) (hl : ps.length ≤ 100) : (inSeq ps ts).Pairwise fun s t => code ps s < code ps t := (pairs_up ps [] nd hl).filter _
theorem mem_pairs {ps : List Str} {a b : Str} (nd : ps.Nodup) : (a, b) ∈ pairsAll ps ↔ a ∈ ps ∧ b ∈ ps ∧ place ps a < place ps b := by
  constructor
  · intro h
    exact ⟨(pairs_in h).1, (pairs_in h).2, pairs_order ps [] nd _ h⟩
  · rintro ⟨h1, h2, h3⟩
    rcases pairs_total h1 h2 (fun e => by rw [e] at h3; omega) with h | h
    · exact h
    · have := pairs_order ps [] nd _ h
      have : place ps b < place ps a := this
      omega
/-- two lists of the same, in one order -/
theorem sorted_uniq {α : Type} {f : α → Int} : ∀ {m l : List α}, l.Perm m → (l.Pairwise fun x y => f x ≤ f y) → (m.Pairwise fun x y => f x < f y) → l = m
  | [], l, p, _, _ => List.perm_nil.mp p
  | b :: m, [], p, _, _ => absurd p.length_eq (by simp)
  | b :: m, a :: l, p, h, k => by
    obtain ⟨h1, h2⟩ := List.pairwise_cons.mp h
    obtain ⟨k1, k2⟩ := List.pairwise_cons.mp k
    have e : a = b := by
      rcases List.mem_cons.mp (p.mem_iff.mp (.head _)) with q | q
      · exact q
      rcases List.mem_cons.mp (p.mem_iff.mpr (.head _)) with r | r
      · exact r.symm
      have := h1 b r
      have := k1 a q
      omega
    rw [e] at p ⊢
    rw [sorted_uniq ((List.perm_cons b).mp p) h2 k2]
theorem perm_of_mem {α : Type} : ∀ {l m : List α}, l.Nodup → m.Nodup → (∀ x, x ∈ l ↔ x ∈ m) → l.Perm m
  | [], m, _, _, h => by
    have e : m = [] := List.eq_nil_iff_forall_not_mem.mpr fun x hx => absurd ((h x).mpr hx) (List.not_mem_nil)
    rw [e]
  | a :: l, m, nl, nm, h => by
    obtain ⟨n1, n2⟩ := List.nodup_cons.mp nl
    obtain ⟨u, v, e⟩ := List.append_of_mem ((h a).mp (.head _))
    have pm : m.Perm (a :: (u ++ v)) := by rw [e]; exact List.perm_middle
    have nm' := List.nodup_cons.mp (pm.nodup_iff.mp nm)
    refine ((perm_of_mem n2 nm'.2 fun x => ?_).cons a).trans pm.symm
    constructor
    · intro hx
      have := pm.mem_iff.mp ((h x).mp (.tail _ hx))
      exact (List.mem_cons.mp this).resolve_left fun z => n1 (z ▸ hx)
    · intro hx
      have := (h x).mpr (pm.mem_iff.mpr (.tail _ hx))
      exact (List.mem_cons.mp this).resolve_left fun z => nm'.1 (z ▸ hx)
/-- a tie told from its earlier place on -/
def orient (ps : List Str) (t : Str × Str) : Str × Str := if place ps t.1 ≤ place ps t.2 then t else (t.2, t.1)
theorem orient_seq {ps : List Str} {ts us : List (Str × Str)} (nd : ps.Nodup) (hl : ps.length ≤ 100) (inn : ∀ t ∈ ts, t.1 ∈ ps ∧ t.2 ∈ ps) (o : Once ts) (p : us.Perm ts) (up : us.Pairwise fun s t => code ps (orient ps s) ≤ code ps (orient ps t)) :
    us.map (orient ps) = inSeq ps ts := by
  refine sorted_uniq (f := code ps) (perm_of_mem ?_ ?_ fun q => ?_) (List.pairwise_map.mpr up) (seq_up nd hl)
  · refine List.pairwise_map.mpr (((once_perm p.symm o).2).imp fun {s t} h e => h ?_)
    unfold orient at e
    split at e
    · split at e
      · exact .inl e
      · exact .inr e
    · split at e
      · exact Twin.symm (.inr e.symm)
      · refine .inl (Prod.ext ?_ ?_)
        · exact (Prod.mk.inj e).2
        · exact (Prod.mk.inj e).1
  · exact (pairs_nodup nd).filter _
  · obtain ⟨a, b⟩ := q
    unfold inSeq
    rw [List.mem_filter, mem_pairs nd, List.mem_map]
    constructor
    · rintro ⟨t, ht, e⟩
      have ht := p.mem_iff.mp ht
      obtain ⟨i1, i2⟩ := inn t ht
      have ne := o.1 t ht
      unfold orient at e
      split at e
      · rename_i le
        subst e
        refine ⟨⟨i1, i2, ?_⟩, tieIn_iff.mpr (.inl ht)⟩
        rcases Nat.lt_or_eq_of_le le with q | q
        · exact q
        · exact absurd (place_inj i1 i2 q) ne
      · rename_i le
        obtain ⟨rfl, rfl⟩ := Prod.mk.inj e
        exact ⟨⟨i2, i1, by omega⟩, tieIn_iff.mpr (.inr ht)⟩
    · rintro ⟨⟨i1, i2, lt⟩, t⟩
      rcases tieIn_iff.mp t with m | m
      · exact ⟨(a, b), p.mem_iff.mpr m, by unfold orient; exact if_pos (Nat.le_of_lt lt)⟩
      · exact ⟨(b, a), p.mem_iff.mpr m, by unfold orient; exact if_neg (by show ¬ place ps b ≤ place ps a; omega)⟩
/-- the neighbours as they stand among the places -/
def nearS (ps : List Str) (ts : List (Str × Str)) (p : Str) : List Str := ps.filter fun o => !decide (V.str o = V.str p) && tieIn ts (p, o)
theorem dec_str {a b : Str} : decide (V.str a = V.str b) = decide (a = b) := decide_eq_decide.mpr ⟨V.str.inj, fun e => e ▸ rfl⟩
theorem earl_append (l m : List (Str × Str)) (y : Str) : earlOf (l ++ m) y = earlOf l y ++ earlOf m y := by
  unfold earlOf
  rw [List.filter_append, List.map_append]
theorem late_append (l m : List (Str × Str)) (y : Str) : lateOf (l ++ m) y = lateOf l y ++ lateOf m y := by
  unfold lateOf
  rw [List.filter_append, List.map_append]
theorem seq_cons (x : Str) (r : List Str) (ts : List (Str × Str)) : inSeq (x :: r) ts = ((r.filter fun o => tieIn ts (x, o)).map fun o => (x, o)) ++ inSeq r ts := by
  unfold inSeq
  rw [pairsAll_cons, List.filter_append, List.filter_map]
  rfl
theorem near_nb {ts : List (Str × Str)} : ∀ {ps : List Str} {y : Str}, ps.Nodup → y ∈ ps → nbOf (inSeq ps ts) y = nearS ps ts y
  | [], y, _, h => absurd h (List.not_mem_nil)
  | x :: r, y, nd, h => by
    obtain ⟨n1, n2⟩ := List.nodup_cons.mp nd
    have ear0 : ∀ z, z ∉ r → earlOf (inSeq r ts) z = [] := fun z hz => List.eq_nil_iff_forall_not_mem.mpr fun a ha => by
      have := (List.mem_filter.mp (mem_earl.mp ha)).1
      exact hz (pairs_in this).2
    have lat0 : ∀ z, z ∉ r → lateOf (inSeq r ts) z = [] := fun z hz => List.eq_nil_iff_forall_not_mem.mpr fun a ha => by
      have := (List.mem_filter.mp (mem_late.mp ha)).1
      exact hz (pairs_in this).1
    unfold nbOf
    rw [seq_cons, earl_append, late_append]
    by_cases e : x = y
    · subst e
      rw [ear0 x n1, lat0 x n1, List.append_nil, List.append_nil]
      have e1 : earlOf ((r.filter fun o => tieIn ts (x, o)).map fun o => (x, o)) x = [] := List.eq_nil_iff_forall_not_mem.mpr fun a ha => by
        obtain ⟨o, ho, eo⟩ := List.mem_map.mp (mem_earl.mp ha)
        have : o = x := (Prod.mk.inj eo).2
        exact n1 (this ▸ (List.mem_filter.mp ho).1)
      have e2 : lateOf ((r.filter fun o => tieIn ts (x, o)).map fun o => (x, o)) x = r.filter fun o => tieIn ts (x, o) := by
        unfold lateOf
        rw [List.filter_eq_self.mpr, List.map_map]
        · exact List.map_id' _
        · intro t ht
          obtain ⟨o, _, rfl⟩ := List.mem_map.mp ht
          exact decide_eq_true rfl
      rw [e1, e2, List.nil_append]
      unfold nearS
      rw [List.filter_cons, if_neg (by rw [decide_eq_true rfl]; simp)]
      refine List.filter_congr fun o ho => ?_
      have : o ≠ x := fun z => n1 (z ▸ ho)
      rw [dec_str, decide_eq_false this]
      rfl
    · have hy : y ∈ r := (List.mem_cons.mp h).resolve_left fun z => e z.symm
      have ih := near_nb (ts := ts) n2 hy
      unfold nbOf at ih
      have l0 : lateOf ((r.filter fun o => tieIn ts (x, o)).map fun o => (x, o)) y = [] := List.eq_nil_iff_forall_not_mem.mpr fun a ha => by
        obtain ⟨o, ho, eo⟩ := List.mem_map.mp (mem_late.mp ha)
        exact e (Prod.mk.inj eo).1
      have e1 : earlOf ((r.filter fun o => tieIn ts (x, o)).map fun o => (x, o)) y = if tieIn ts (y, x) = true then [x] else [] := by
        unfold earlOf
        rw [List.filter_map, List.map_map]
        have one : ∀ (l : List Str), l.Nodup → y ∈ l → l.filter ((fun p : Str × Str => decide (V.str p.2 = V.str y)) ∘ fun o => (x, o)) = [y] := by
          intro l
          induction l with
          | nil => intro _ h; exact absurd h (List.not_mem_nil)
          | cons a l ihl =>
            intro nd hy
            obtain ⟨m1, m2⟩ := List.nodup_cons.mp nd
            rw [List.filter_cons]
            by_cases ea : a = y
            · subst ea
              rw [if_pos (show ((fun p : Str × Str => decide (V.str p.2 = V.str a)) ∘ fun o => (x, o)) a = true from decide_eq_true rfl), List.filter_eq_nil_iff.mpr]
              intro b hb
              have : b ≠ a := fun z => m1 (z ▸ hb)
              show ¬ decide (V.str b = V.str a) = true
              rw [dec_str, decide_eq_false this]
              simp
            · rw [if_neg (show ¬ ((fun p : Str × Str => decide (V.str p.2 = V.str y)) ∘ fun o => (x, o)) a = true by show ¬ decide (V.str a = V.str y) = true; rw [dec_str, decide_eq_false ea]; simp)]
              exact ihl m2 ((List.mem_cons.mp hy).resolve_left fun z => ea z.symm)
        rw [List.filter_filter]
        have sw : (r.filter fun a => ((fun p : Str × Str => decide (V.str p.2 = V.str y)) ∘ fun o => (x, o)) a && tieIn ts (x, a)) = (r.filter ((fun p : Str × Str => decide (V.str p.2 = V.str y)) ∘ fun o => (x, o))).filter fun a => tieIn ts (x, a) := by
          rw [List.filter_filter]
          refine List.filter_congr fun a _ => Bool.and_comm _ _
        rw [sw, one r n2 hy, List.filter_cons, tie_sym]
        split
        · rfl
        · rfl
      rw [l0, e1, List.nil_append, List.append_assoc, ih]
      unfold nearS
      rw [List.filter_cons]
      have : (!decide (V.str x = V.str y) && tieIn ts (y, x)) = tieIn ts (y, x) := by
        rw [dec_str, decide_eq_false e]
        rfl
      rw [this]
      split
      · rfl
      · rfl
end NetM
namespace TS
open PySem PySem.Calls PyProof.Rows
/-- a list of two ints in [0, 100) -/
def PairL (h : Heap) (v : Value) (i j : Int) : Prop := ∃ a t u n, v = .ref a ∧ h.get? a = some (seqObj "list" #[.int i t, .int j u] n)
theorem PairL.ints {h : Heap} {v : Value} {i j : Int} (x : PairL h v i j) : intsOf h v = [i, j] := by
  obtain ⟨a, t, u, n, rfl, ho⟩ := x
  simp only [intsOf, ho]
  rfl
/-- the rank of a pair -/
def rkP (h : Heap) (v : Value) : Int := (intsOf h v).getD 0 0 * 100 + (intsOf h v).getD 1 0
theorem PairL.rk {h : Heap} {v : Value} {i j : Int} (x : PairL h v i j) : rkP h v = i * 100 + j := by
  unfold rkP
  rw [x.ints]
  rfl
def PairsL (h : Heap) (vs : List Value) : Prop := ∀ v, v ∈ vs → ∃ i j, PairL h v i j ∧ (0 ≤ i ∧ i < 100) ∧ 0 ≤ j ∧ j < 100
section
variable {prog : Program} {w : World} {A : Around} {E : Value → Shared → Prop} {s : Shared}
theorem ll_lt {x y : Value} {i j i' j' : Int} {Q : Bool → Shared → Prop} (hu : A.units < cLine) (hx : PairL s.heap x i j) (hy : PairL s.heap y i' j') (b1 : 0 ≤ j ∧ j < 100) (b2 : 0 ≤ j' ∧ j' < 100)
    (h : Q (decide (i * 100 + j < i' * 100 + j')) s) : wpAny (model prog w) A (keyLt' oneType' x y) Q E s := by
  obtain ⟨a, t, u, n, rfl, ho⟩ := hx
  obtain ⟨b, t', u', n', rfl, hb⟩ := hy
  rw [keyLt'_oneType, oneLt'_eq]
  simp only [if_true]
  refine wpAny_bind (wpAny_cRoomFor hu ?_)
  let e : Nat → Bool := fun k => match k with
    | 0 => i == i'
    | _ => j == j'
  let r : Nat → Bool := fun k => match k with
    | 0 => decide (i < i')
    | _ => decide (j < j')
  refine wpAny_bind (wpAny_callSpecialIfBound?_slot ⟨_, ho, rfl⟩ F.slot_list_lt (SeqAt.call_list_lt (e := e) (r := r) ⟨_, ho, rfl, _, rfl⟩ ⟨_, hb, rfl, _, rfl⟩ (fun k h1 h2 => ?_) (fun k h1 h2 _ => ?_) ?_))
  · match k, h1, h2 with
    | 0, _, _ => exact SeqAt.EqAt.int_int i t i' t'
    | 1, _, _ => exact SeqAt.EqAt.int_int j u j' u'
  · match k, h1, h2 with
    | 0, _, _ => exact fun prog w E Q q => lt_int q
    | 1, _, _ => exact fun prog w E Q q => lt_int q
  · refine wpAny_truthy_bool ?_
    have z : SeqAt.firstLt e r (decide ((#[Value.int i t, Value.int j u] : Array Value).size < (#[Value.int i' t', Value.int j' u'] : Array Value).size)) (List.range (min (#[Value.int i t, Value.int j u] : Array Value).size (#[Value.int i' t', Value.int j' u'] : Array Value).size)) = decide (i * 100 + j < i' * 100 + j') := by
      show SeqAt.firstLt e r (decide (2 < 2)) [0, 1] = _
      by_cases h0 : i = i'
      · rw [SeqAt.firstLt_yes (show e 0 = true from by show (i == i') = true; rw [h0]; exact beq_self_eq_true _)]
        by_cases h1 : j = j'
        · rw [SeqAt.firstLt_yes (show e 1 = true from by show (j == j') = true; rw [h1]; exact beq_self_eq_true _)]
          show decide (2 < 2) = _
          rw [h0, h1]
          simp
        · rw [SeqAt.firstLt_no (show e 1 = false from beq_eq_false_iff_ne.mpr h1)]
          show decide (j < j') = _
          refine decide_eq_decide.mpr ?_
          omega
      · rw [SeqAt.firstLt_no (show e 0 = false from beq_eq_false_iff_ne.mpr h0)]
        show decide (i < i') = _
        refine decide_eq_decide.mpr ?_
        omega
    rw [z]
    exact h
theorem PairL.mid {h h' : Heap} {v : Value} {i j : Int} (x : PairL h v i j) (k : ∀ b o, (∃ a, v = .ref a ∧ b = a) → h.get? b = some o → h'.get? b = some o) : PairL h' v i j := by
  obtain ⟨a, t, u, n, rfl, ho⟩ := x
  exact ⟨a, t, u, n, rfl, k _ _ ⟨a, rfl, rfl⟩ ho⟩
theorem sort_ll {a : Addr} {vs : List Value} {n : Nat} {P : PySem.Fin → Shared → Prop} (hu : A.units < cLine) (ho : s.heap.get? a = some (seqObj "list" vs.toArray n)) (h64 : vs.length < 64) (x : PairsL s.heap vs) (hno : Value.ref a ∉ vs)
    (r : Value → Int) (hr : ∀ v, v ∈ vs → r v = rkP s.heap v)
    (h : ∀ out : Array Value, out.toList.Perm vs → out.toList.Pairwise (fun u v => r u ≤ r v) → P (.done (.ret .none)) { s with heap := sortedHeap s.heap a vs out }) :
    wpAny (model prog w) A (Builtin.«list.sort» ⟨[.ref a], []⟩) P E s := by
  have keep : ∀ v ∈ vs, ∀ i j, PairL s.heap v i j → PairL (midHeap s.heap a vs) v i j := fun v hv i j q => q.mid fun b o ⟨c, e1, e2⟩ e => by
    refine midHeap_old (fun z => hno ?_) e
    rw [← z, e2, ← e1]
    exact hv
  refine SK.plain_sort (r := r) ho h64 (fun h2 Q hQ => ?_) fun ps out h1 h2 h3 => ?_
  · refine PySem.W.kas_kind (T := .type "list") h2 (fun v hv => ?_) (by decide) (by decide) (hQ _ ?_)
    · obtain ⟨i, j, q, _⟩ := x v hv
      obtain ⟨c, t, u, m, rfl, hc⟩ := keep v hv i j q
      exact (PySem.W.Looks.ld hc).andThen .now
    · intro p q hp hq Q' E' hQ'
      rw [pairsOf_toList] at hp hq
      obtain ⟨i, j, xp, bp, bp2⟩ := x _ (mem_zip_self hp).2
      obtain ⟨i', j', xq, bq, bq2⟩ := x _ (mem_zip_self hq).2
      rw [hr _ (mem_zip_self hp).2, hr _ (mem_zip_self hq).2, xp.rk, xq.rk] at hQ'
      exact ll_lt (s := { s with heap := midHeap s.heap a vs }) hu (keep _ (mem_zip_self hp).2 _ _ xp) (keep _ (mem_zip_self hq).2 _ _ xq) bp2 bq2 hQ'
  · obtain ⟨p, o⟩ := out_rank h1 h2 h3
    exact h out p o
theorem sorted_ll {l : Addr} {vs : List Value} {Q : Value → Shared → Prop} (hu : A.in1.in1.units < cLine) (hl : s.heap.IsList l vs.toArray) (h64 : vs.length < 64) (x : PairsL s.heap vs)
    (h : ∀ out : Array Value, out.toList.Perm vs → out.toList.Pairwise (fun u v => rkP s.heap u ≤ rkP s.heap v) → Q (.ref (s.heap.objs.size + 1)) { s with heap := sortedAll s.heap vs out }) :
    wpAny (model prog w) A (call (.builtin "sorted") [.ref l]) Q E s := by
  refine Calls.call_function_entry kind_sorted plain_sorted entry_sorted (args_sorted1 _) ?_
  unfold Builtin.«sorted»
  refine wpAny_bind (m := checkCount "sorted" 1 1 _) (wpAny_pure ?_)
  refine wpAny_bind (collect_list hl ?_ (by rw [sizeLine_eq]; omega))
  refine wpAny_bind (wpAny_newList ?_ (by rw [sizeLine_eq]; omega))
  have hsz : ((s.heap.push (seqObj "list" #[] 0)).update s.heap.objs.size (Obj.mapSeq (· ++ vs.toArray))).objs.size = s.heap.objs.size + 1 := by
    rw [Heap.size_update, size_push']
  have hoL : (((s.heap.push (seqObj "list" #[] 0)).update s.heap.objs.size (Obj.mapSeq (· ++ vs.toArray))).push (seqObj "list" vs.toArray 0)).get? (s.heap.objs.size + 1) = some (seqObj "list" vs.toArray 0) := by
    rw [← hsz]; exact Heap.get?_push_size _ rfl
  have keep : ∀ b o, s.heap.get? b = some o → (((s.heap.push (seqObj "list" #[] 0)).update s.heap.objs.size (Obj.mapSeq (· ++ vs.toArray))).push (seqObj "list" vs.toArray 0)).get? b = some o := fun b o q => by
    have hlt : b < s.heap.objs.size := Heap.lt_size q
    rw [Heap.get?_push_ne _ _ _ (by rw [hsz]; exact Nat.ne_of_lt (Nat.lt_succ_of_lt hlt)), Heap.get?_update_ne _ _ _ _ (Nat.ne_of_lt hlt), Heap.get?_push_ne _ _ _ (Nat.ne_of_lt hlt)]
    exact q
  show wpAny _ _ _ _ _ { s with heap := ((s.heap.push (seqObj "list" #[] 0)).update s.heap.objs.size (Obj.mapSeq (· ++ vs.toArray))).push (seqObj "list" vs.toArray 0) }
  rw [hsz]
  refine wpAny_bind (wpAny_holding (wpAny_call_entry slot_list_sort ⟨_, hoL, rfl⟩ entry_list_sort (sort_ll hu hoL h64 (fun v hv => ?_) (fun m => ?_) (fun v => rkP s.heap v) (fun v hv => ?_) fun out a1 a2 => ⟨_, rfl, ?_⟩) (args_list_sort _)))
  · obtain ⟨i, j, q, r⟩ := x v hv
    exact ⟨i, j, q.mid fun b o _ e => keep b o e, r⟩
  · obtain ⟨i, j, ⟨c, t, u, n, e, hc⟩, _⟩ := x _ m
    have := Heap.lt_size hc
    injection e with e
    rw [← e] at this
    exact absurd this (Nat.not_lt.mpr (Nat.le_succ _))
  · obtain ⟨i, j, q, r⟩ := x v hv
    show rkP s.heap v = rkP _ v
    rw [q.rk, (q.mid fun b o _ e => keep b o e).rk]
  · exact wpAny_pure ⟨_, rfl, h out a1 a2⟩
end
end TS
namespace L2
open PySem PySem.Spec PyProof.Rows
/-- x is a list of these two ints -/
def TwoL (H : Hp) (x : V) (i j : Int) : Prop := ∃ a, x = .ref a ∧ H a = some (.lst [.int i, .int j])
theorem two_raw {X : Cx} {pins : List (Addr × Obj)} {σ : St} {H : Hp} {s : Shared} (I : Inv X pins σ H s) {a : Addr} {i j : Int} (h : H a = some (.lst [.int i, .int j])) : TS.PairL s.heap (.ref a) i j := by
  obtain ⟨_, its, n, r, e⟩ := I.hok a _ h
  cases r with
  | cons r1 r2 =>
    cases r2 with
    | cons r2 r3 =>
      cases r3
      obtain ⟨t, rfl⟩ := r1
      obtain ⟨u, rfl⟩ := r2
      exact ⟨a, t, u, n, rfl, e⟩
/-- sorted(xs), xs a list of fewer than 64 lists of two ints in [0, 100): a new list of the same, ascending -/
def rSortLL (K : PySem.W.Frag) : List V → Hp → VK → Prop := fun vs H Q => ∃ (a : Addr) (xs : List V), vs = [V.ref a] ∧ SqL K H a xs ∧ xs.length < 64 ∧ (∀ x ∈ xs, ∃ i j, TwoL H x i j ∧ (0 ≤ i ∧ i < 100) ∧ 0 ≤ j ∧ j < 100) ∧
  ∀ (ys : List V) (p : Addr), ys.Perm xs → ys.Pairwise (fun x y => ∀ i j i' j', TwoL H x i j → TwoL H y i' j' → i * 100 + j ≤ i' * 100 + j') → H p = none → Q (.ref p) (upd H p (.lst ys))
theorem cr_sortLL {X : Cx} {K : PySem.W.Frag} {k : Nat} (hr : Room (k + 2) X.A) (hK : X.K = K := by rfl) : CallR X (.builtin "sorted") (rSortLL K) := by
  subst hK
  intro pins s σ H vs us Q I r h
  obtain ⟨a, xs, rfl, hs, h64, hx, q⟩ := h
  obtain ⟨its, rv, hl, hz⟩ := I.list hs
  rw [Vals.ref1 r]
  obtain ⟨e1, e2⟩ := bkV_refs rv fun x m => by
    obtain ⟨i, j, ⟨t, e, _⟩, _⟩ := hx x m
    exact ⟨t, e⟩
  refine TS.sorted_ll (hr.in1.in1.units0) hl.isList (by rw [← rv.length]; exact h64) (fun v hv => ?_) fun out h1 h2 => ?_
  · obtain ⟨t, rfl⟩ := e2 v hv
    have hm : V.ref t ∈ xs := by
      rw [e1]
      exact List.mem_map.mpr ⟨_, hv, rfl⟩
    obtain ⟨i, j, ⟨t', e, ht⟩, hb⟩ := hx _ hm
    cases e
    exact ⟨i, j, two_raw I ht, hb⟩
  · obtain ⟨ep, he'⟩ := PyProof.Rows.sortedAll_at s.heap its out
    have h3 : ∀ u ∈ out.toList, ∃ a, u = Value.ref a := fun u hu => e2 u (h1.mem_iff.mp hu)
    have hp : (out.toList.map bkV).Perm xs := by
      rw [e1]
      exact h1.map bkV
    have hlen : (out.toList.map bkV).length ≤ sizeLine := by
      rw [hp.length_eq]
      exact hz
    refine ⟨.ref _, upd H (s.heap.objs.size + 1) (.lst (out.toList.map bkV)), I.laid (t' := s.toks) (fun _ _ => PyProof.Rows.sortedAll_old) (Nat.le_succ _) ⟨hlen, out.toList, ep, bkV_vals h3, he'⟩, rfl, q _ _ hp ?_ (I.hok.fresh (Nat.le_succ _))⟩
    rw [List.pairwise_map]
    refine List.Pairwise.imp (fun {u v} huv i j i' j' hn hm => ?_) h2
    obtain ⟨t, et, ht⟩ := hn
    obtain ⟨t', et', ht'⟩ := hm
    have eu := bkV_ref et
    have ev := bkV_ref et'
    rw [eu, ev, (two_raw I ht).rk, (two_raw I ht').rk] at huv
    exact huv
end L2
namespace L2
open PySem PySem.Spec PyProof.Rows
theorem passN {X : Cx} : Passes (CX X.prog X.w) X (fun _ _ _ => False) := fun _ _ _ _ _ _ _ c => by
  obtain ⟨_, _, _, _, _, _, _, _, _, _, _, _, h⟩ := c
  exact h.elim
section
variable {X : Cx} {K : PySem.W.Frag}
theorem kIndex (h : X.K = K := by rfl) : MtR X "list.index" (rIndex K) := by subst h; exact mt_index
theorem kIndexM {o e : Expr} {to : TE} {t : TA} {apos cpos : Pos} (ho : PE X o to) (ha : PA X [e] t) (hK : X.K = K := by rfl)
    (h1 : attributeBase o "index" X.env (eval o X.env) = eval o X.env := by rfl) (h3 : starEach [e] X.env = (false, eval e X.env) :: starEach ([] : List Expr) X.env := by rfl) (h4 : (apos.endLine == cpos.line) = true := by rfl) : PE X (.Call (.Attribute o "index" apos) [e] [] cpos) (tBM K "list" (rIndex K) to t) := by
  subst hK
  refine pe_bm PySem.F.plainAttrs_list PySem.F.slot_list_index PySem.F.type_list_index mt_index ho ha h1 ?_ h4 h3 ?_
  · rw [h3]
    rfl
  · rfl
theorem kSortedI (h : X.K = K := by rfl) : CallR X (.builtin "sorted") (rSortedI K) := by subst h; exact cr_sortedI
theorem kTgtL {es : List Expr} {k n : Nat} {t : TGs} (hc : X.calm = true) (hp : PGs X es t) (h : X.K = K := by rfl)
    (hn : (assignEach es X.env).length = n := by rfl) (hst : (assignEach es X.env).findIdx? (·.1) = none := by rfl) {pos : Pos} : PG X (.Tuple es k pos) (gLst K n t) := by
  subst h
  exact pg_lst hc hp hn hst
end
end L2
namespace NetM
open PySem L2
/-- the place of a text in a list of texts, as list.index finds it -/
theorem index_of {ps : List Str} {p : Str} (h : p ∈ ps) : (ps.map V.str)[place ps p]? = some (.str p) ∧ ∀ (m : Nat) (z' : V), m < place ps p → (ps.map V.str)[m]? = some z' → eqV z' (.str p) = false := by
  have h1 : ∀ (l : List Str) (m : Nat) (q : Str), m < place l p → l[m]? = some q → q ≠ p := by
    intro l
    induction l with
    | nil => intro m q _ h; simp at h
    | cons a l ih =>
      intro m q lt hq
      unfold place at lt
      by_cases e : a = p
      · rw [if_pos e] at lt
        omega
      · rw [if_neg e] at lt
        cases m with
        | zero =>
          have : a = q := by simpa using hq
          exact this ▸ e
        | succ m => exact ih m q (by omega) (by simpa using hq)
  refine ⟨by rw [List.getElem?_map, place_at h]; rfl, fun m z' lt hz => ?_⟩
  obtain ⟨q, hq, rfl⟩ := str_at hz
  have ne := h1 ps m q lt hq
  simp [eqV, ne]
theorem sorted_two {a b : Nat} {ns : List Int} (p : ns.Perm [(a : Int), (b : Int)]) (h : ns.Pairwise (· ≤ ·)) : ns = [((min a b : Nat) : Int), ((max a b : Nat) : Int)] := by
  obtain ⟨x, y, rfl⟩ : ∃ x y, ns = [x, y] := by
    have l := p.length_eq
    match ns, l with
    | [x, y], _ => exact ⟨x, y, rfl⟩
  have le : x ≤ y := (List.pairwise_cons.mp h).1 y (.head _)
  have mx : x = a ∨ x = b := by simpa using p.mem_iff.mp (.head _ : x ∈ [x, y])
  have my : y = a ∨ y = b := by simpa using p.mem_iff.mp (.tail _ (.head _) : y ∈ [x, y])
  have ma : (a : Int) = x ∨ (a : Int) = y := by simpa using p.mem_iff.mpr (.head _ : (a : Int) ∈ [(a : Int), (b : Int)])
  have mb : (b : Int) = x ∨ (b : Int) = y := by simpa using p.mem_iff.mpr (.tail _ (.head _) : (b : Int) ∈ [(a : Int), (b : Int)])
  have e1 : x = ((min a b : Nat) : Int) := by omega
  have e2 : y = ((max a b : Nat) : Int) := by omega
  rw [e1, e2]
theorem text_short {ps : List Str} {ts : List (Str × Str)} (L : LoreOk ps ts) (h8 : ∀ z ∈ ps, z.length ≤ 8) : (textOf ps ts).length ≤ 2000 := by
  have c1 : ∀ (n : Nat) (l : List Str), (∀ z ∈ l, z.length ≤ n) → cost l ≤ (n + 1) * l.length := by
    intro n l
    induction l with
    | nil => intro _; exact Nat.zero_le _
    | cons p l ih =>
      intro h
      have i := ih fun z hz => h z (.tail _ hz)
      have hp := h p (.head _)
      have e : (n + 1) * (l.length + 1) = (n + 1) * l.length + (n + 1) := Nat.mul_succ _ _
      rw [cost_cons, List.length_cons]
      omega
  have cp := c1 8 ps h8
  have h16 := L.h16
  have most := L.most
  have j1 : (Txt.join " " ("places" :: ps)).length ≤ 151 := by
    refine Nat.le_trans (join_cost (y := " ") (s := 32) (by decide +kernel) _) ?_
    rw [cost_cons, show ("places" : Str).length = 6 by decide +kernel]
    omega
  have cl : cost (ts.map lineOf) ≤ (22 + 1) * (ts.map lineOf).length := c1 22 _ fun z hz => by
    obtain ⟨t, ht, rfl⟩ := List.mem_map.mp hz
    refine Nat.le_trans (join_cost (y := " ") (s := 32) (by decide +kernel) _) ?_
    have := h8 _ (L.inn t ht).1
    have := h8 _ (L.inn t ht).2
    rw [cost_cons, cost_cons, cost_cons, cost_nil, show ("tie" : Str).length = 3 by decide +kernel]
    omega
  rw [List.length_map] at cl
  refine Nat.le_trans (join_cost (y := "\n") (s := 10) (by decide +kernel) _) ?_
  rw [cost_cons]
  omega
theorem nm_len {z : Str} (h : isNm z = true) : z.length ≤ 8 := by
  unfold isNm at h
  simp only [Bool.and_eq_true, decide_eq_true_eq] at h
  have := h.1.2
  omega
theorem LoreOk.okps {ps : List Str} {ts : List (Str × Str)} (L : LoreOk ps ts) : ps.all PyData.strOk = true := List.all_eq_true.mpr fun z hz => nm_ok (L.nm z hz)
theorem LoreOk.okts {ps : List Str} {ts : List (Str × Str)} (L : LoreOk ps ts) : ts.all okP = true := List.all_eq_true.mpr fun t ht => by
  unfold okP
  rw [nm_ok (L.nm _ (L.inn t ht).1), nm_ok (L.nm _ (L.inn t ht).2)]
  rfl
theorem LoreOk.l8 {ps : List Str} {ts : List (Str × Str)} (L : LoreOk ps ts) : ∀ z ∈ ps, z.length ≤ 8 := fun z hz => nm_len (L.nm z hz)
theorem LoreOk.t8 {ps : List Str} {ts : List (Str × Str)} (L : LoreOk ps ts) : ∀ t ∈ ts, t.1.length ≤ 8 ∧ t.2.length ≤ 8 := fun t ht => ⟨L.l8 _ (L.inn t ht).1, L.l8 _ (L.inn t ht).2⟩
end NetM
namespace NetM
open PySem L2
/-- a list of the two numbers of a tie's ends, not at D -/
def Spot (H : Hp) (D : Addr) (ps : List Str) (v : V) (t : Str × Str) : Prop := ∃ c, v = .ref c ∧ c ≠ D ∧ H c = some (.lst [.int ((min (place ps t.1) (place ps t.2) : Nat) : Int), .int ((max (place ps t.1) (place ps t.2) : Nat) : Int)])
theorem paired_left {α β : Type} {F : α → β → Prop} : ∀ {l : List α} {m : List β}, Paired F l m → ∀ x ∈ l, ∃ y ∈ m, F x y
  | _, _, .nil, x, h => absurd h (List.not_mem_nil)
  | _, _, .cons f r, x, h => by
    rcases List.mem_cons.mp h with rfl | h
    · exact ⟨_, .head _, f⟩
    · obtain ⟨y, hy, q⟩ := paired_left r x h
      exact ⟨y, .tail _ hy, q⟩
theorem paired_right {α β : Type} {F : α → β → Prop} : ∀ {l : List α} {m : List β}, Paired F l m → ∀ y ∈ m, ∃ x ∈ l, F x y
  | _, _, .nil, y, h => absurd h (List.not_mem_nil)
  | _, _, .cons f r, y, h => by
    rcases List.mem_cons.mp h with rfl | h
    · exact ⟨_, .head _, f⟩
    · obtain ⟨x, hx, q⟩ := paired_right r y h
      exact ⟨x, .tail _ hx, q⟩
theorem paired_nth {α β : Type} {F : α → β → Prop} {l : List α} {m : List β} (r : Paired F l m) : ∀ {i : Nat} {x : α}, l[i]? = some x → ∃ y, m[i]? = some y ∧ F x y := by
  induction r with
  | nil => intro i x h; simp at h
  | @cons a b l m f r ih =>
    intro i x h
    cases i with
    | zero =>
      have e : a = x := by simpa using h
      exact ⟨b, rfl, e ▸ f⟩
    | succ i =>
      obtain ⟨y, hy, q⟩ := ih (i := i) (x := x) (by simpa using h)
      exact ⟨y, by simpa using hy, q⟩
theorem paired_perm {α β : Type} {F : α → β → Prop} {l l' : List α} {m : List β} (r : Paired F l m) (p : l'.Perm l) : ∃ m', Paired F l' m' ∧ m'.Perm m := by
  have l1 : l.length = m.length := r.length
  obtain ⟨z, pz, ez⟩ := L2.perm_lift Prod.fst p (l.zip m) (List.map_fst_zip (by omega))
  refine ⟨z.map Prod.snd, ?_, ?_⟩
  · rw [← ez]
    exact paired_unzip fun q hq => paired_zip r q (pz.mem_iff.mp hq)
  · have q := pz.map Prod.snd
    rw [List.map_snd_zip (by omega)] at q
    exact q
theorem paired_pairwise {α β : Type} {F : α → β → Prop} {R : α → α → Prop} {S : β → β → Prop} {l : List α} {m : List β} (r : Paired F l m) (h : l.Pairwise R) (k : ∀ x y s t, F x s → F y t → R x y → S s t) : m.Pairwise S := by
  induction r with
  | nil => exact .nil
  | @cons x s l m f r ih =>
    obtain ⟨h1, h2⟩ := List.pairwise_cons.mp h
    refine List.pairwise_cons.mpr ⟨fun t ht => ?_, ih h2⟩
    obtain ⟨y, hy, q⟩ := paired_right r t ht
    exact k x y s t f q (h1 y hy)
theorem code_orient {ps : List Str} {t : Str × Str} : NetM.code ps (orient ps t) = ((min (place ps t.1) (place ps t.2) : Nat) : Int) * 100 + ((max (place ps t.1) (place ps t.2) : Nat) : Int) := by
  unfold orient
  split
  · unfold NetM.code
    omega
  · unfold NetM.code
    show (place ps t.2 : Int) * 100 + (place ps t.1 : Int) = _
    omega
theorem getD_place {ps : List Str} {p : Str} (h : p ∈ ps) : ps.getD (place ps p) "" = p := by
  rw [List.getD_eq_getElem?_getD, place_at h]
  rfl
theorem orient_get {ps : List Str} {t : Str × Str} (h1 : t.1 ∈ ps) (h2 : t.2 ∈ ps) : (orient ps t).1 = ps.getD (min (place ps t.1) (place ps t.2)) "" ∧ (orient ps t).2 = ps.getD (max (place ps t.1) (place ps t.2)) "" := by
  unfold orient
  split
  · rename_i le
    rw [Nat.min_eq_left le, Nat.max_eq_right le, getD_place h1, getD_place h2]
    exact ⟨rfl, rfl⟩
  · rename_i le
    rw [Nat.min_eq_right (by omega), Nat.max_eq_left (by omega), getD_place h1, getD_place h2]
    exact ⟨rfl, rfl⟩
end NetM
namespace K05
open PySem L2 NetM PySem.Spec PyProof.Rows
/-- the net of a lore -/
def spNet (ad : Adr) : Sp := fun vs H Q _ => ∃ t ps ties, vs = [.ref t] ∧ LoreAt H t ps ties ∧ LoreOk ps ties ∧ ∀ H' x, Same H H' → NetAt H' ad.a_Net x (textOf ps ties) ps (inSeq ps ties) → Q (.ref x) H'
section
variable {P : Program} {w : World} {K : PySem.W.Frag} {mg : Str → Option Value} {base : Heap} {ad : Adr}
theorem sc__law_net : FnScope ["_law_lore_here"] ["_law_lore_here"] (defScope s__law_net) := ⟨rfl, rfl, rfl, by decide +kernel, rfl, by decide +kernel, by decide +kernel⟩
theorem ok__law_net {f fN : Addr} {fd fd1 fd2 : FuncData} (F : Fun K "_law_net" "_law_net" s__law_net f fd) (T : Txt K mg ad) (N : NetC K fN ad.a_Net)
    (G_Net : FnOk P w K mg base (L2.CX P w) 4 fN fd1 ["self", "text"] (spNetInit K ad)) (b_Net : Binds K fd1 ["self", "text"] [])
    (G__law_text : FnOk P w K mg base CX0 1 ad.f__law_text fd2 ["_law_lore_here"] spText) (b__law_text : Binds K fd2 ["_law_lore_here"] []) : FnOk P w K mg base CX0 6 f fd ["_law_lore_here"] (spNet ad) := by
  refine F.ok sc__law_net (fun vs H Q E h => ?_) (fun cdv A outer s H vs Q E hr h => ?_)
  · obtain ⟨_, _, _, rfl, _⟩ := h
    rfl
  · obtain ⟨t, ps, ties, rfl, hL, L, kQ⟩ := h
    have h__law_text := hr.mono (show 1 ≤ 5 by decide)
    refine ⟨_, (pss_one (ps_ret (pe_make N.mkN G_Net hr (by rfl) T.m_Net b_Net .nil passN (pa_cons (pe_call G__law_text h__law_text (by rfl) T.m__law_text T.k__law_text b__law_text .nil pass0 (pa_cons (pv 0) pa_nil)) pa_nil)))), ?_⟩
    refine ⟨_, rfl, t, ps, ties, rfl, hL, L.h16, L.l8, L.most, L.t8, fun H1 s1 x dx nx ndx ne => ⟨x, dx, _, rfl, upd_same, .inr ⟨_, rfl, Nat.le_trans (text_short L L.l8) (by decide), fun n hn => (ok_noErr hn (lore_net L)).elim, fun ps' ties' ok' => ?_⟩⟩⟩
    obtain ⟨rfl, rfl⟩ := ok_only (lore_net L) ok'
    refine ⟨fun u cu => ?_, fun cn H' sb net => ⟨rfl, kQ H' x (fun b o e => ?_) net⟩⟩
    · rw [L.tied] at cu
      cases cu
    · have nxH : H x = none := none_of_same s1 nx
      refine sb b o (ne_of_none e nxH) ?_
      have ndH : H dx = none := none_of_same s1 ndx
      rw [upd_ne (ne_of_none e nxH), upd_ne (ne_of_none e ndH)]
      exact s1 _ _ e
end
end K05
namespace LamX
open PySem PySem.Spec PyProof.Rows L2
/-- the cells that a lambda captures are the maker's -/
theorem lam_cells {X : Cx} {scope : Scope} (L : LamS X.env.scope scope) (ok : X.Ok) : ∀ y ∈ scope.names, y.2 = .free → ∃ c, X.env.cells.lookup y.1 = some c := L.has ok
section
variable {X : Cx} {pins : List (Addr × Obj)} {σ : L2.St} {H : Hp} {s : Shared}
theorem pe_actS {CXg : CXT} {Eg : XK} {Ng : List Str} {qg : Str} {sg : Scope} {g f c' : Addr} {cdg pm ctv : Value} {params : Arguments} {body : Expr} {scope : Scope}
    {k i : Nat} {a : Str} {pn : List (Addr × Obj)} {xe : Value → Shared → Prop} {W : WX} {E : XK} {tb : TE} {p1 p2 : Pos}
    (I : Inv X pins σ H s) (L : LamS X.env.scope scope)
    (hf : s.heap.get? f = some (PySem.W.kla_obj "<lambda>" (X.env.qual ++ "<lambda>") params body scope (cloFrom X.env.cells scope.names []) pm c' ctv))
    (hfn : H f = none) (hfr : f ∉ frs X.stack)
    (hbind : bindArgs (PySem.W.kla_fn "<lambda>" (X.env.qual ++ "<lambda>") params body scope (cloFrom X.env.cells scope.names []) pm (.ref c') ctv) ⟨[], []⟩ = pure [])
    (tk : Takes ((cxOf CXg X.prog X.w X.K X.mg X.base Ng qg sg g cdg X.A X.stack s H Eg).tr pn xe) W)
    (hr : Room (k + 1) (X.A.deeper (envOfC qg sg s.heap.objs.size g cdg)))
    (hbody : ∀ (A : Around) (outer : List Env) (s : Shared) (H : Hp), Room k (A.deeper (lamEnv X scope s.heap.objs.size f c')) → PE (lamCx X A outer s H E scope f c') body tb)
    (hN : Ng[i]? = some a) (hv : Vis sg a) (hd : (a == ("__debug__" : Str)) = false := by decide)
    (hcd : (a == ("__classdict__" : Str)) = false := by decide) :
    PE ((cxOf CXg X.prog X.w X.K X.mg X.base Ng qg sg g cdg X.A X.stack s H Eg).tr pn xe) (.Call (.Name a p1) [] [] p2)
      (fun σ1 H1 Q => σ1[i]? = some (some (.ref f)) ∧ H1 c' = some (CodeO c' (X.env.qual ++ "<lambda>")) ∧ (∀ cls d H', E cls d H' → W cls d σ1 H') ∧ tb σ H1 Q) := by
  refine ⟨?_⟩
  rintro pins1 s0 σ1 H1 Q I0 ⟨hs, hc, hW, ht⟩
  refine wpAny_Call_Name_kw (thn ((pe_var (pos := p1) (i := i) hN hv hd hcd).run pins1 s0 σ1 H1 (fun v H2 => v = .ref f ∧ H2 = H1) I0 ⟨.ref f, hs, rfl, rfl⟩) ?_)
  rintro u s1 ⟨v, H2, I1, r1, rfl, rfl⟩
  cases r1
  have at1 := I1.base.keep f _ hf hfn hfr (by intro z; cases z)
  refine PySem.W.callWith_F0 ⟨_, _, _, _, at1⟩ ?_
  have hb1 : Un (frs X.stack) [] H H2 s.heap s1.heap := I1.base
  obtain ⟨⟨oc, vs, t, ho, hdt, hvs⟩, _⟩ := I1.hok c' _ hc
  have inner : codeAny (model X.prog X.w) (X.A.deeper (envOfC qg sg s.heap.objs.size g cdg)) (.call (.ref f) ⟨[], []⟩)
      (CR (L2.CX X.prog X.w) (envOfC qg sg s.heap.objs.size g cdg :: X.stack) X.prog X.w H2 s1 Q E) s1 := by
    refine PySem.W.kla_callFunE hr.depth at1 rfl L.co L.gen rfl ⟨c', oc, vs, t, rfl, ho, hdt, hvs⟩ ?_
    rw [hbind]
    refine wpAny_pure (wpAny_newFunctionEnv (fun y m => (L.own y m).2) (by intro y m; cases m) ?_ L.kind)
    intro h1 ns1 ext1
    refine ⟨I1.nolimit.fresh _ ext1, ?_⟩
    have kp : ∀ b o, s1.heap.get? b = some o → h1.get? b = some o :=
      fun b o e => ext1.extBut b o (Nat.ne_of_lt (Heap.lt_size e)) (Heap.get?_push_of_some _ e)
    have J : Inv (lamCx X (X.A.deeper (envOfC qg sg s.heap.objs.size g cdg)) (envOfC qg sg s.heap.objs.size g cdg :: X.stack) s1 H2 E scope f c') [] σ H2
        { s1 with heap := h1, toks := s1.toks + ([] : List (Str × Value)).length } := lam_start2 I L I1.env0 hr.hd hb1 ns1 kp
    have run := (hbody _ _ s1 H2 (hr.deeper _)).run [] _ _ H2 Q J ht
    refine PySem.W.kla_codeExpr (wpAny_mono run ?_ fun _ _ q => q)
    rintro v s' ⟨w', H', J', rv, q⟩
    exact ⟨w', H', J'.os, J'.bare, J'.base, J'.hok, rv, q⟩
  refine wpAny_call (codeAny_mono inner ?_)
  rintro (er | fl) s' hq
  · exact tk er s' (XE.of_call I1 (fun cls d H' z => hW cls d H' z) hq)
  · cases fl with
    | ret u => exact I1.after hq
    | next => exact False.elim hq
    | brk => exact False.elim hq
    | cont => exact False.elim hq
end
/-- the def that calls what it got, in a try that keeps the exception -/
def GivesS (X : Cx) (Ng : List Str) (x : Str) (sg : Scope) (g : Addr) (cdg : Value) (bg : List Stmt) (a : Str) (q : Str) (TT : (XK → Hp → VK → Prop) → Hp → VK → Prop) : Prop :=
  ∀ (f c' : Addr) (s : Shared) (H : Hp) (Q : VK) (tl : XK → Hp → VK → Prop),
    (∀ (W : WX) (pn : List (Addr × Obj)) (xe : Value → Shared → Prop) (E : XK) (p1 p2 : Pos), Takes ((cxOf C8.CX0 X.prog X.w X.K X.mg X.base Ng x sg g cdg X.A X.stack s H C8.E0).tr pn xe) W →
      PE ((cxOf C8.CX0 X.prog X.w X.K X.mg X.base Ng x sg g cdg X.A X.stack s H C8.E0).tr pn xe) (.Call (.Name a p1) [] [] p2)
        (fun σ1 H1 Q => σ1[0]? = some (some (.ref f)) ∧ H1 c' = some (CodeO c' q) ∧ (∀ cls d H', E cls d H' → W cls d σ1 H') ∧ tl E H1 Q)) →
    H c' = some (CodeO c' q) → TT tl H Q →
    ∃ t, PSs (cxOf C8.CX0 X.prog X.w X.K X.mg X.base Ng x sg g cdg X.A X.stack s H C8.E0).nox bg t ∧ t { nx := fun _ H' => Q .non H', rt := Q } (L2.start Ng [.ref f]) H
section
variable {X : Cx}
/-- x(lambda: body), x such a def -/
theorem pe_lamcallS {T : List (Addr × Str)} {TT : (XK → Hp → VK → Prop) → Hp → VK → Prop} {x a : Str} {g c P : Addr} {k : Nat} {pg : Arguments} {bg : List Stmt} {sg : Scope}
    {dV kV doc pm cdv ct oc : Value} {an od : Option Addr} {osl : Array (Option Value)} {Ng : List Str} {params : Arguments} {body : Expr} {scope : Scope} {t : XK → TE} {p lpos pos : Pos}
    (hg : Gl X x) (hm : X.mg x = some (.ref g)) (hk : PySem.W.keepIn X.K (.ref g) = true)
    (lk : X.K.lookup g = some ⟨oc, od, .func (PySem.W.fnOf x x pg bg sg dV kV doc pm an cdv ct), osl⟩) (hcg : PySem.W.codeIn X.K cdv x = true)
    (hb : L2.Binds X.K (PySem.W.fnOf x x pg bg sg dV kV doc pm an cdv ct) [a] []) (Sg : FnScope Ng [a] sg) (hNg : Ng[0]? = some a) (hva : Vis sg a)
    (hG : GivesS X Ng x sg g cdv bg a (X.env.qual ++ "<lambda>") TT)
    (TB : TabB X.base X.mg c P) (hcode : X.env.code = .ref c) (hmT : (P, X.env.qual ++ "<lambda>") ∈ T) (hu : ∀ p ∈ T, p.1 = P → p.2 = X.env.qual ++ "<lambda>")
    (hr : Room (k + 2) X.A) (L : LamS X.env.scope scope) (hdef : defaultsOf params X.env = ([], []))
    (hbind : ∀ (q : Str) (cl : List (Str × Addr)) (pm cv ctv : Value), bindArgs (PySem.W.kla_fn "<lambda>" q params body scope cl pm cv ctv) ⟨[], []⟩ = pure [])
    (hbody : ∀ (A : Around) (outer : List Env) (s : Shared) (H : Hp) (E : XK) (f c' : Addr), Room k (A.deeper (lamEnv X scope s.heap.objs.size f c')) →
      PE (lamCx X A outer s H E scope f c') body (t E))
    (hdb : (x == ("__debug__" : Str)) = false := by decide) (hd : (a == ("__debug__" : Str)) = false := by decide) (hcd : (a == ("__classdict__" : Str)) = false := by decide) :
    PE X (.Call (.Name x p) [.Lambda params body scope lpos] [] pos) (tLam T TT t) := by
  refine ⟨?_⟩
  rintro pins s σ H Q I ⟨hT, h⟩
  refine wpAny_Call_Name_kw (ld_glob I hg hm (PySem.W.callWith_K (h₀ := X.base) I.ok.mod.kin hk ?_ (by rfl) (by rfl)) hdb)
  show wpAny _ _ (spliced ((false, eval (.Lambda params body scope lpos) X.env) :: backTo pos (starEach [] X.env))) _ _ s
  refine Calls.spliced_cons (lam_make2 I TB hcode hmT hu hT hdef (L.has I.ok) ?_)
  intro f c' pm' ctv H1 s' I1 eN T1 hf hfn hfr hco
  refine Calls.spliced_nil ⟨I1.kIn, ?_⟩
  have rc : codeAny (model X.prog X.w) X.A (.call (.ref g) ⟨[.ref f], []⟩) (CR C8.CX0 X.stack X.prog X.w H1 s' Q C8.E0) s' := by
    refine run_ofS (N := Ng) (ps := [a]) (us := [.ref f]) (vs := [.ref f]) lk hcg Sg hr I1.env0 (hb s' [.ref f] I1.kIn rfl) (.cons rfl .nil) rfl ?_
    intro hr1
    obtain ⟨t', ht', hq'⟩ := hG f c' s' H1 Q (fun E H' Q' => t E σ H' Q')
      (fun W pn xe E p1 p2 tk => pe_actS (i := 0) I1 L hf hfn hfr (hbind _ _ _ _ _) tk hr1 (fun A outer s H hr2 => hbody A outer s H E f c' hr2) hNg hva hd hcd) hco (h H1 eN T1)
    exact ⟨t', ht'.nox, hq'⟩
  refine wpAny_call (codeAny_mono rc ?_)
  rintro (er | fl) s2 hq
  · exact (show False from hq).elim
  · cases fl with
    | ret u => exact I1.after hq
    | next => exact False.elim hq
    | brk => exact False.elim hq
    | cont => exact False.elim hq
end
end LamX
namespace PySem.W
open PySem PySem.Spec PySem.Calls PyProof.Rows
section
variable {prog : Program} {w : World} {A : Around} {E : Value → Shared → Prop} {s : Shared} {K : Frag} {x C L f : Addr} {h₀ : Heap} {m : Str → Option Value} {ox : Obj} {od : Option Obj}
/-- a builtin type that fills no slot for this operator -/
def idleIn (K : Frag) (T nm : String) : Bool := match findIn K (.type T) (PySem.dunder nm), findIn K (.type T) (dunderR nm) with
  | some fo, some ro => !((fo.isSome && !isSeqSlot fo) || (ro.isSome && !isSeqSlot ro))
  | _, _ => false
theorem idle_fills {M : Model} {h : Heap} {T nm : String} (X : K.In h) (e : idleIn K T nm = true) : Looks M h (fillsNumberSlot (.type T) nm) false := by
  unfold idleIn at e
  split at e
  · rename_i fo ro h1 h2
    have q := ksp_fillsT (M := M) X h1 h2
    rw [Bool.not_eq_true'] at e
    rwa [e] at q
  · cases e
theorem arith_own {T nm sym : String} {op : Operator} {b : Value} {Q : Value → Shared → Prop} (F : Fr h₀ L s.heap m) (X₀ : K.In h₀) (I : InstAt s.heap x ox C od) (hb : Looks (model prog w) s.heap (typeOf b) (.type T)) (hc : selfFirst K C = true)
    (hi : op.info = (sym, nm)) (hs : findIn K (.ref C) (PySem.dunder nm) = some (some (.ref f))) (hf : isFn K (.ref f) = true) (hn : idleIn K T nm = true)
    (h : wpAny (model prog w) A (call (.ref f) [.ref x, b]) (CmpBack Q) E s) : wpAny (model prog w) A (binaryOp op (.ref x) b) Q E s := by
  have X := X₀.keeps F.keep
  obtain ⟨cd, rest, hcd, hm⟩ := ksp_first hc
  have one := ksp_try X I hs hf h
  unfold binaryOp
  refine wpAny_holding ?_
  rw [hi]
  refine wpAny_bind ?_
  unfold binaryOp1
  refine wpAny_bind (I.type.here (wpAny_bind (hb.here (wpAny_bind ((fills_K X hcd hm hs).here ?_)))))
  have ne : (Value.ref C == Value.type T) = false := Bool.eq_false_iff.mpr fun q => by cases beq_iff_eq.mp q
  rw [ne, if_neg Bool.false_ne_true]
  refine wpAny_bind ((idle_fills X hn).here ?_)
  simp only [Bool.and_false, Bool.false_eq_true, if_false, Bool.false_and, if_true]
  refine wpAny_bind (wpAny_pure ?_)
  rw [if_neg Bool.false_ne_true]
  refine wpAny_bind (wpAny_mono one (fun r s' z => ?_) fun _ _ e => e)
  obtain ⟨v, rfl, q⟩ := z
  exact wpAny_pure (wpAny_pure q)
end
end PySem.W
namespace L2
open PySem PySem.Spec PyProof.Rows
section
variable {X : Cx} {CX : CXT} {C f : Addr} {fd : FuncData} {ps : List Str} {sp : Sp} {E : XK} {k : Nat}
/-- o + t, o - t: a new object -/
def rArOwn (K : PySem.W.Frag) (C : Addr) (sp : Sp) (E : XK) : R2 := fun x y H Q => ∃ a dx fs t xs, x = .ref a ∧ H a = some (.ins C dx fs) ∧ y = .ref t ∧ H t = some (.tup xs) ∧ sp [x, y] H (fun v H' => ∃ r, v = .ref r ∧ Q (.ref r) H') E
theorem op_arOwn {op : Operator} {sym nm : String} (F : FnOk X.prog X.w X.K X.mg X.base CX k f fd ps sp) (hr : Room k X.A) (hb : Binds X.K fd ps []) (hx : Passes CX X E)
    (hi : op.info = (sym, nm)) (hc : PySem.W.selfFirst X.K C = true) (hs : PySem.W.findIn X.K (.ref C) (PySem.dunder nm) = some (some (.ref f))) (hf : PySem.W.isFn X.K (.ref f) = true) (hn : PySem.W.idleIn X.K "tuple" nm = true) :
    OpR X (binaryOp op) (rArOwn X.K C sp E) := by
  rintro pins s σ H x y v u Q I rx ry ⟨a, dx, fs, t, xs, rfl, ha, rfl, ht, h⟩
  cases rx
  obtain ⟨mA, J, _⟩ := ins_get I.hok ha
  obtain ⟨od, J, _⟩ := J.look
  obtain ⟨m, hF⟩ := I.fr
  obtain ⟨P, Z, hP, _⟩ := kit_of I ry (.base (.tup ht))
  refine PySem.W.arith_own hF I.ok.mod.kin J (Z.ty _ _ I.kIn hP) hc hi hs hf hn ?_
  refine wpAny_mono (run_sub (vs := [.ref a, .ref t]) (sub_here hr) F hb hx I (.cons rfl (.cons ry .nil)) h) (fun r s' q => ?_) fun _ _ z => z
  obtain ⟨v', H', I', rv, b, rfl, q⟩ := q
  cases rv
  exact ⟨.ref b, H', I', rfl, q⟩
end
end L2
namespace L2
open PySem PySem.Spec PyProof.Rows LamX
/-- all but the pot and the tables stay -/
def ExtP (p : Addr) (H H' : Hp) : Prop := ∀ b o, b ≠ p → H b = some o → (∀ ps, o ≠ .tbl ps) → H' b = some o
theorem ExtP.of_but {p : Addr} {H H' : Hp} (s : SameBut p H H') : ExtP p H H' := fun b o n e _ => s b o n e
theorem ExtP.of_ext {p : Addr} {H H' : Hp} (s : ExtN H H') : ExtP p H H' := fun b o _ e t => s b o e t
theorem ExtP.trans {p : Addr} {H H1 H2 : Hp} (a : ExtP p H H1) (b : ExtP p H1 H2) : ExtP p H H2 := fun c o n h t => b c o n (a c o n h t) t
theorem sExt {H H' : Hp} (s : Same H H') : ExtN H H' := fun b o e _ => s b o e
theorem tabS_but {H H' : Hp} {p Pt : Addr} {q : Str} {xs : List V} (t : TabS H Pt q) (hp : H p = some (.lst xs)) (s : SameBut p H H') : TabS H' Pt q := by
  obtain ⟨ps, h1, h2, h3⟩ := t
  refine ⟨ps, s _ _ (fun z => ?_) h1, h2, fun pos cv hc => ?_⟩
  · rw [z, hp] at h1
    cases h1
  · obtain ⟨c, e1, e2⟩ := h3 pos cv hc
    refine ⟨c, e1, s _ _ (fun z => ?_) e2⟩
    rw [z, hp] at e2
    unfold CodeO at e2
    cases e2
theorem tabs_but {T : List (Addr × Str)} {H H' : Hp} {p : Addr} {xs : List V} (t : Tabs T H) (hp : H p = some (.lst xs)) (s : SameBut p H H') : Tabs T H' := fun q hq => tabS_but (t q hq) hp s
/-- what is tracked and no table, at a place -/
theorem ext_at {H H' : Hp} (e : ExtN H H') {b : Addr} {o : HO} (h : H b = some o) (n : ∀ ps, o ≠ .tbl ps) : H' b = some o := e b o h n
mutual
theorem Dq.ext {H H' : Hp} (s : ExtN H H') : ∀ {v : V} {d : PyData}, Dq H v d → Dq H' v d
  | _, _, .non => .non
  | _, _, .bl b => .bl b
  | _, _, .int i => .int i
  | _, _, .str x => .str x
  | _, _, .lst n h r => .lst n (s _ _ h fun _ z => by cases z) (DqAll.ext s r)
  | _, _, .tup h r => .tup (s _ _ h fun _ z => by cases z) (DqAll.ext s r)
  | _, _, .dic h r => .dic (s _ _ h fun _ z => by cases z) (DqKv.ext s r)
theorem DqAll.ext {H H' : Hp} (s : ExtN H H') : ∀ {v : List V} {d : List PyData}, DqAll H v d → DqAll H' v d
  | _, _, .nil => .nil
  | _, _, .cons h r => .cons (Dq.ext s h) (DqAll.ext s r)
theorem DqKv.ext {H H' : Hp} (s : ExtN H H') : ∀ {v : List (Key × V)} {d : List (PyData × PyData)}, DqKv H v d → DqKv H' v d
  | _, _, .nil => .nil
  | _, _, .cons h r => .cons (Dq.ext s h) (DqKv.ext s r)
end
theorem ErrQ.ext {H H' : Hp} {a C : Addr} {v : V} (e : ErrQ H a C v) (s : ExtN H H') : ErrQ H' a C v := by
  obtain ⟨d, h1, h2⟩ := e
  refine ⟨d, s _ _ h1 fun _ z => ?_, s _ _ h2 fun _ z => by cases z⟩
  unfold exq at z
  cases z
/-- isinstance(e, c), e an error that is held, or another value -/
def rIsE (K : PySem.W.Frag) : List V → Hp → VK → Prop := fun xs H Q => rIsErrQ K xs H Q ∨ rIsi K xs H Q
theorem kIsE {X : Cx} {K : PySem.W.Frag} (hK : X.K = K := by rfl) : CallR X (.builtin "isinstance") (rIsE K) := by
  subst hK
  intro pins s σ H xs us Q I r h
  rcases h with h | h
  · exact (call_isErrQ (K := X.K)) pins s σ H xs us Q I r h
  · exact call_isi pins s σ H xs us Q I r h
theorem dq_ty {K : PySem.W.Frag} {H : Hp} {x : V} {d : PyData} (h : Dq H x d) : ∃ t, TyX K H x t ∧ (PySem.W.kitOne K t (.type "str") = some true ∧ (∃ z, x = .str z) ∨ PySem.W.kitOne K t (.type "str") = some false ∧ ∀ z, x ≠ .str z) := by
  cases h with
  | non => exact ⟨_, .base .non, .inr ⟨kit_ty (by decide +kernel), fun z e => by cases e⟩⟩
  | bl b => exact ⟨_, .base (.bl b), .inr ⟨kit_ty (by decide +kernel), fun z e => by cases e⟩⟩
  | int i => exact ⟨_, .base (.int i), .inr ⟨kit_ty (by decide +kernel), fun z e => by cases e⟩⟩
  | str z => exact ⟨_, .base (.str z), .inl ⟨kit_ty (by decide +kernel), z, rfl⟩⟩
  | lst n h _ => exact ⟨_, .base (.lst h), .inr ⟨kit_ty (by decide +kernel), fun z e => by cases e⟩⟩
  | tup h _ => exact ⟨_, .base (.tup h), .inr ⟨kit_ty (by decide +kernel), fun z e => by cases e⟩⟩
  | dic h _ => exact ⟨_, .base (.dK h), .inr ⟨kit_ty (by decide +kernel), fun z e => by cases e⟩⟩
end L2
namespace K05
open PySem L2 LamX NetM PySem.Spec PyProof.Rows
theorem NetAt.ext {H H' : Hp} {C x : Addr} {z : Str} {ps : List Str} {qs : List (Str × Str)} (h : NetAt H C x z ps qs) (s : ExtN H H') : NetAt H' C x z ps qs := by
  obtain ⟨dx, a, b, d, h1, ⟨ob, obc, obd, h2⟩, ⟨as, h3, pr⟩, kvs, h4, h5⟩ := h
  refine ⟨dx, a, b, d, s _ _ h1 (fun _ z => by cases z), ⟨ob, obc, obd, s _ _ h2 (fun _ z => by cases z)⟩, ⟨as, s _ _ h3 (fun _ z => by cases z), Paired.weak (fun u v e => s _ _ e (fun _ z => by cases z)) pr⟩, kvs, s _ _ h4 (fun _ z => by cases z), fun y hy => ?_⟩
  obtain ⟨t, e1, e2, e3⟩ := h5 y hy
  exact ⟨t, e1, s _ _ e2 (fun _ z => by cases z), e3⟩
theorem LoreAt.ext {H H' : Hp} {t : Addr} {ps : List Str} {ties : List (Str × Str)} (h : LoreAt H t ps ties) (s : ExtN H H') : LoreAt H' t ps ties := by
  obtain ⟨a, l, e, ea, as, el, pr⟩ := h
  exact ⟨a, l, s _ _ e (fun _ z => by cases z), s _ _ ea (fun _ z => by cases z), as, s _ _ el (fun _ z => by cases z), Paired.weak (fun u v e => s _ _ e (fun _ z => by cases z)) pr⟩
theorem PotAt.ext {H H' : Hp} {p : Addr} {k : Nat} (h : PotAt H p k) (e : ExtN H H') : PotAt H' p k := by
  obtain ⟨o, a, b, q, r⟩ := h
  exact ⟨o, a, b, e _ _ q (fun ps z => by cases z), r⟩
theorem net_but {H H' : Hp} {C x p : Addr} {k : Nat} {z : Str} {ps : List Str} {qs : List (Str × Str)} (h : NetAt H C x z ps qs) (hp : PotAt H p k) (s : SameBut p H H') : NetAt H' C x z ps qs := by
  obtain ⟨o, i, j, ep, _⟩ := hp
  obtain ⟨dx, a, b, d, h1, ⟨ob, obc, obd, h2⟩, ⟨as, h3, pr⟩, kvs, h4, h5⟩ := h
  refine ⟨dx, a, b, d, s _ _ (ne_of h1 ep (fun z => by cases z)) h1, ⟨ob, obc, obd, s _ _ (ne_of h2 ep (fun z => by cases z)) h2⟩, ⟨as, s _ _ (ne_of h3 ep (fun z => by cases z)) h3, Paired.weak (fun u v e => s _ _ (ne_of e ep (fun z => by cases z)) e) pr⟩, kvs, s _ _ (ne_of h4 ep (fun z => by cases z)) h4, fun y hy => ?_⟩
  obtain ⟨t, e1, e2, e3⟩ := h5 y hy
  exact ⟨t, e1, s _ _ (ne_of e2 ep (fun z => by cases z)) e2, e3⟩
/-- what is wanted of an error that _law_answer catches -/
def EAns (K : PySem.W.Frag) (DE : Addr) (Q : VK) : XK := fun cls d H' => PySem.W.exmOne K cls (.ref DE) = some true ∧
  ∀ a, H' a = none → ∀ t, upd H' a (exq a cls d) t = none → Q (.ref t) (upd (upd H' a (exq a cls d)) t (.tup [.ref a, .non]))
/-- what _law_answer makes of what it calls: the error and None, or None and what came -/
def TTans (K : PySem.W.Frag) (DE : Addr) : (XK → Hp → VK → Prop) → Hp → VK → Prop := fun tl H0 Q => ∀ H Q1, Same H0 H →
  (∀ v H', (∀ t, H' t = none → Q (.ref t) (upd H' t (.tup [.non, v]))) → Q1 v H') → tl (EAns K DE Q) H Q1
theorem sc__law_answer : FnScope ["_law_look", "_law_caught", "_law_reply", "error"] ["_law_look"] (defScope s__law_answer) := ⟨rfl, rfl, rfl, by decide +kernel, rfl, by decide +kernel, by decide +kernel⟩
theorem answer_gives {X : Cx} {ad : Adr} {g : Addr} {cdg : Value} {q : Str} (T : Txt X.K X.mg ad) :
    GivesS X ["_law_look", "_law_caught", "_law_reply", "error"] "_law_answer" (defScope s__law_answer) g cdg (defBody s__law_answer) "_law_look" q (TTans X.K ad.a_DrawError) := by
  intro f c' s H Q tl act hc h
  refine ⟨_, pss_cons (ps_asg (pe_tup (pa_cons pe_non (pa_cons pe_non pa_nil))) (pg_tup (by rfl) (pgs_cons (pg_name (i := 1) sc__law_answer.nd rfl (Or.inl rfl)) (pgs_cons (pg_name (i := 2) sc__law_answer.nd rfl (Or.inl rfl)) pgs_nil))))
    (pss_cons (ps_try_val (X := (cxOf C8.CX0 X.prog X.w X.K X.mg X.base ["_law_look", "_law_caught", "_law_reply", "error"] "_law_answer" (defScope s__law_answer) g cdg X.A X.stack s H C8.E0).nox) (c := .ref ad.a_DrawError) (i := 3)
        (tb := fun W D σ H => ∃ E : XK, σ[0]? = some (some (.ref f)) ∧ H c' = some (CodeO c' q) ∧ (∀ cls d H', E cls d H' → W cls d σ H') ∧ tl E H fun v H' => D.nx (σ.set 2 (some v)) H')
        rfl rfl sc__law_answer.nd rfl rfl ⟨rfl, rfl, .inl T.m_DrawError⟩ rfl (fun W pn xe tk _ => ?_)
        (fun a oe cls d pn _ _ => pss_one (ps_set (i := 1) sc__law_answer.nd rfl (Or.inl rfl) (pv 3))))
      (pss_one (ps_ret (pe_tup (pa_cons (pv 1) (pa_cons (pv 2) pa_nil)))))), ?_⟩
  · refine ⟨fun pins s' σ H' D I h' => ?_⟩
    obtain ⟨E, h1, h2, h3, h4⟩ := h'
    exact (pss_one (ps_set (i := 2) sc__law_answer.nd rfl (Or.inl rfl) (act W pn xe E _ _ tk))).run pins s' σ H' D I ⟨h1, h2, h3, h4⟩
  · refine ⟨by show 2 ≤ sizeLine; decide, fun T1 nT => ⟨T1, _, rfl, SqT.of upd_same, rfl, _, _, rfl, _, _, rfl, rfl, ?_⟩⟩
    have sT : Same H (upd H T1 (.tup [.non, .non])) := same_new nT
    refine ⟨EAns X.K ad.a_DrawError Q, rfl, sT _ _ hc, ?_, h _ _ sT fun v H' hv => ⟨_, rfl, _, rfl, by show 2 ≤ sizeLine; decide, fun t nt => hv t nt⟩⟩
    rintro cls d H' ⟨e1, e2⟩
    exact ⟨e1, fun a na => ⟨_, rfl, _, rfl, _, rfl, by show 2 ≤ sizeLine; decide, fun t nt => e2 a na t nt⟩⟩
theorem seq_len {ps : List Str} {ts : List (Str × Str)} (L : LoreOk ps ts) : (inSeq ps ts).length ≤ 1600 := by
  have h16 := L.h16
  refine Nat.le_trans (List.length_filter_le _ _) (Nat.le_trans (lenTo' ps (by omega) ps.length) (by omega))
theorem seq_ok {ps : List Str} {ts : List (Str × Str)} (L : LoreOk ps ts) : (inSeq ps ts).all okP = true := List.all_eq_true.mpr fun t ht => by
  obtain ⟨i1, i2⟩ := pairs_in (List.mem_filter.mp ht).1
  unfold okP
  rw [nm_ok (L.nm _ i1), nm_ok (L.nm _ i2)]
  rfl
theorem seq_l8 {ps : List Str} {ts : List (Str × Str)} (L : LoreOk ps ts) : ∀ t ∈ inSeq ps ts, t.1.length ≤ 8 ∧ t.2.length ≤ 8 := fun t ht => by
  obtain ⟨i1, i2⟩ := pairs_in (List.mem_filter.mp ht).1
  exact ⟨L.l8 _ i1, L.l8 _ i2⟩
/-- told of two places: whether they are tied -/
theorem nb_tied {ps : List Str} {ts : List (Str × Str)} (L : LoreOk ps ts) {y z : Str} (hy : y ∈ ps) (hz : z ∈ ps) : decide (z ∈ nbOf (inSeq ps ts) y) = tieIn ts (y, z) := by
  have m := mem_nb (ties := ts) (y := y) (z := z) L.nd
  cases e : tieIn ts (y, z) with
  | false => exact decide_eq_false fun h => by rw [(m.mp h).2.2.2] at e; cases e
  | true =>
    refine decide_eq_true (m.mpr ⟨hz, hy, fun z' => ?_, e⟩)
    subst z'
    unfold tieIn at e
    rcases Bool.or_eq_true_iff.mp e with q | q
    · exact L.once.1 _ (of_decide_eq_true q) rfl
    · exact L.once.1 _ (of_decide_eq_true q) rfl
/-- what is held of a value that was asked for as a place -/
theorem isIn_mem {y : Str} (h : y ∈ ps) : isIn (.str y) ps = true := decide_eq_true h
theorem lore_but {H H' : Hp} {t p : Addr} {k : Nat} {ps : List Str} {ties : List (Str × Str)} (h : LoreAt H t ps ties) (hp : PotAt H p k) (s : SameBut p H H') : LoreAt H' t ps ties := by
  obtain ⟨o, i, j, ep, _⟩ := hp
  obtain ⟨a, l, e, ea, as, el, pr⟩ := h
  have ne : ∀ {b : Addr} {xs : List V}, H b = some (.tup xs) → b ≠ p := fun e1 z => by
    rw [z, ep] at e1
    cases e1
  refine ⟨a, l, s _ _ (ne e) e, s _ _ (fun z => ?_) ea, as, s _ _ (fun z => ?_) el, Paired.weak (fun u v e => s _ _ (ne e) e) pr⟩
  · rw [z, ep] at ea
    cases ps with
    | nil => cases ea
    | cons y ps => cases ea
  · rw [z, ep] at el
    cases as with
    | nil => cases el
    | cons y ps => cases el
theorem tabs_pot {T : List (Addr × Str)} {H H' : Hp} {p : Addr} {k : Nat} (t : Tabs T H) (hp : PotAt H p k) (s : SameBut p H H') : Tabs T H' := let ⟨_, _, _, e, _⟩ := hp; tabs_but t e s
theorem pot_ne {H : Hp} {p b : Addr} {k : Nat} {us : List V} (hp : PotAt H p k) (e : H b = some (.tup us)) : b ≠ p := by
  obtain ⟨_, _, _, e1, _⟩ := hp
  intro z
  rw [z, e1] at e
  cases e
theorem pot_nel {H : Hp} {p b : Addr} {k : Nat} {ps : List Str} (hp : PotAt H p k) (e : H b = some (.lst (ps.map V.str))) (h : 3 ≤ ps.length) : b ≠ p := by
  obtain ⟨_, _, _, e1, _⟩ := hp
  intro z
  rw [z, e1] at e
  cases ps with
  | nil => exact absurd h (by decide)
  | cons y ps => cases e
def midH (p : Addr) (H H' : Hp) : Hp := fun b => if b = p then H p else H' b
theorem mid_ext {p : Addr} {H H' : Hp} (s : ExtP p H H') : ExtN H (midH p H H') := fun b o e t => by
  by_cases h : b = p
  · subst h
    exact (if_pos rfl).trans e
  · exact (if_neg h).trans (s b o h e t)
theorem mid_but {p : Addr} {H H' : Hp} : SameBut p (midH p H H') H' := fun b o h e => (if_neg h).symm.trans e
theorem lore_extP {H H' : Hp} {t p : Addr} {k : Nat} {ps : List Str} {ties : List (Str × Str)} (h : LoreAt H t ps ties) (hp : PotAt H p k) (s : ExtP p H H') : LoreAt H' t ps ties :=
  lore_but (h.ext (mid_ext s)) (hp.ext (mid_ext s)) mid_but
theorem net_extP {H H' : Hp} {C x p : Addr} {k : Nat} {z : Str} {ps : List Str} {qs : List (Str × Str)} (h : NetAt H C x z ps qs) (hp : PotAt H p k) (s : ExtP p H H') : NetAt H' C x z ps qs :=
  net_but (h.ext (mid_ext s)) (hp.ext (mid_ext s)) mid_but
theorem shp_tx {ps : List Str} (h : ps.all PyData.strOk = true) : SeqAt.shaped (.list (txD ps)) = true := by
  refine shaped_of (tx_lay.trans h) ?_
  show PyData.depthAll (txD ps) + 1 ≤ 60
  rw [tx_depth]
  decide
theorem shp_pr {qs : List (Str × Str)} (h : qs.all okP = true) : SeqAt.shaped (.list (tieD qs)) = true := by
  refine shaped_of (pr_lay.trans h) ?_
  show PyData.depthAll (tieD qs) + 1 ≤ 60
  have := pr_depth qs
  omega
theorem andV_ext {ta tb : TE} {σ : L2.St} {H : Hp} {Q : VK} {b1 b2 : Bool} (ha : ∀ Q' : VK, Q' (.bl b1) H → ta σ H Q') (hb : b1 = true → ∀ Q' : VK, (∀ H', Same H H' → Q' (.bl b2) H') → tb σ H Q')
    (hq : ∀ H', Same H H' → Q (.bl (b1 && b2)) H') : tAndV ta tb σ H Q :=
  ha _ ⟨b1, rfl, by
    cases b1 with
    | false => exact hq _ (Same.refl _)
    | true => exact hb rfl _ hq⟩
section
variable {K : PySem.W.Frag} {ad : Adr} {fN : Addr} {E : XK}
theorem req_net (N : NetC K fN ad.a_Net) (M : NetP K ad) {H : Hp} {x y : Addr} {z z' : Str} {ps ps' : List Str} {qs qs' : List (Str × Str)} {Q : VK} (n : NetAt H ad.a_Net x z ps qs) (n' : NetAt H ad.a_Net y z' ps' qs')
    (o1 : ps.all PyData.strOk = true) (o2 : ps'.all PyData.strOk = true) (o3 : qs.all okP = true) (o4 : qs'.all okP = true) (q : Q (.bl (decide (ps = ps') && decide (qs = qs'))) H) :
    rEqOwn K ad.a_Net (spEqN K ad) E (.ref x) (.ref y) H Q := by
  obtain ⟨dx, a, b, d, h1, h2⟩ := id n
  exact ⟨x, dx, _, rfl, h1, netSub N M n', x, .ref y, z, ps, qs, rfl, n, .inr ⟨y, z', ps', qs', rfl, n', o1, o2, o3, o4, _, rfl, q⟩⟩
theorem rne_net (N : NetC K fN ad.a_Net) (M : NetP K ad) {H : Hp} {x y : Addr} {z z' : Str} {ps ps' : List Str} {qs qs' : List (Str × Str)} {Q : VK} (n : NetAt H ad.a_Net x z ps qs) (n' : NetAt H ad.a_Net y z' ps' qs')
    (o1 : ps.all PyData.strOk = true) (o2 : ps'.all PyData.strOk = true) (o3 : qs.all okP = true) (o4 : qs'.all okP = true) (q : Q (.bl (!(decide (ps = ps') && decide (qs = qs')))) H) :
    rNeOwn K ad.a_Net (spEqN K ad) E (.ref x) (.ref y) H Q := by
  obtain ⟨dx, a, b, d, h1, h2⟩ := id n
  exact ⟨x, dx, _, rfl, h1, netSub N M n', x, .ref y, z, ps, qs, rfl, n, .inr ⟨y, z', ps', qs', rfl, n', o1, o2, o3, o4, _, rfl, q⟩⟩
theorem req_odd {H : Hp} {x : Addr} {v : V} {t : Value} {z : Str} {ps : List Str} {qs : List (Str × Str)} {Q : VK} (n : NetAt H ad.a_Net x z ps qs)
    (ty : TyX K H v t) (k : PySem.W.kitOne K t (.ref ad.a_Net) = some false) (nf : PySem.W.notFirst K ad.a_Net t = true) (q : Q (.bl false) H) : rEqOwn K ad.a_Net (spEqN K ad) E (.ref x) v H Q := by
  obtain ⟨dx, a, b, d, h1, h2⟩ := id n
  exact ⟨x, dx, _, rfl, h1, ⟨_, ty, nf⟩, x, v, z, ps, qs, rfl, n, .inl ⟨_, ty, k, _, rfl, q⟩⟩
theorem rne_odd {H : Hp} {x : Addr} {v : V} {t : Value} {z : Str} {ps : List Str} {qs : List (Str × Str)} {Q : VK} (n : NetAt H ad.a_Net x z ps qs)
    (ty : TyX K H v t) (k : PySem.W.kitOne K t (.ref ad.a_Net) = some false) (nf : PySem.W.notFirst K ad.a_Net t = true) (q : Q (.bl true) H) : rNeOwn K ad.a_Net (spEqN K ad) E (.ref x) v H Q := by
  obtain ⟨dx, a, b, d, h1, h2⟩ := id n
  exact ⟨x, dx, _, rfl, h1, ⟨_, ty, nf⟩, x, v, z, ps, qs, rfl, n, .inl ⟨_, ty, k, _, rfl, q⟩⟩
end
end K05
namespace K05
open PySem L2 NetM PySem.Spec PyProof.Rows
/-- a pair of two unlike places of a net -/
def spIsPair (ad : Adr) : Sp := fun vs H Q _ => ∃ (x v : Addr) (a b z : Str) (ps : List Str) (qs : List (Str × Str)), vs = [.ref x, .ref v] ∧ NetAt H ad.a_Net x z ps qs ∧ PairAt H v (a, b) ∧ a ∈ ps ∧ b ∈ ps ∧ a ≠ b ∧ Q (.bl true) H
def spIsTie (ad : Adr) : Sp := fun vs H Q _ => ∃ (x v : Addr) (a b z : Str) (ps : List Str) (qs : List (Str × Str)), vs = [.ref x, .ref v] ∧ NetAt H ad.a_Net x z ps qs ∧ PairAt H v (a, b) ∧ a ∈ ps ∧ b ∈ ps ∧ a ≠ b ∧ Q (.bl (decide (b ∈ nbOf qs a))) H
def spIsFree (ad : Adr) : Sp := fun vs H Q _ => ∃ (x v : Addr) (a b z : Str) (ps : List Str) (qs : List (Str × Str)), vs = [.ref x, .ref v] ∧ NetAt H ad.a_Net x z ps qs ∧ PairAt H v (a, b) ∧ a ∈ ps ∧ b ∈ ps ∧ a ≠ b ∧ Q (.bl (!decide (b ∈ nbOf qs a))) H
section
variable {P : Program} {w : World} {K : PySem.W.Frag} {mg : Str → Option Value} {base : Heap} {ad : Adr}
theorem sc_is_pair : FnScope ["net", "value"] ["net", "value"] (defScope s_is_pair) := ⟨rfl, rfl, rfl, by decide +kernel, rfl, by decide +kernel, by decide +kernel⟩
theorem ok_is_pair {f fN : Addr} {fd fd1 : FuncData} (F : Fun K "is_pair" "is_pair" s_is_pair f fd) (T : Txt K mg ad) (N : NetC K fN ad.a_Net) (M : NetP K ad)
    (G_con : FnOk P w K mg base CX0 2 ad.f_Net___contains__ fd1 ["self", "x"] (spCon K ad)) (b_con : Binds K fd1 ["self", "x"] []) : FnOk P w K mg base CX0 3 f fd ["net", "value"] (spIsPair ad) := by
  refine F.ok sc_is_pair (fun vs H Q E h => ?_) (fun cdv A outer s H vs Q E hr h => ?_)
  · obtain ⟨_, _, _, _, _, _, _, rfl, _⟩ := h
    rfl
  · obtain ⟨x, v, a, b, z, ps, qs, rfl, net, hv, ma, mb, ne, kQ⟩ := h
    have h2 := hr
    refine ⟨_, (pss_cons (ps_if (PW.pt (pw_or (pt_not (pt_val (pe_callB call_isi (by rfl) T.n_isinstance (by decide +kernel) (pa_cons (pv 1) (pa_cons (pe_bltn (v := .ty "tuple") (by rfl) T.n_tuple (by decide +kernel) rfl) pa_nil))))) (pw_or1 (pt_cmpR op_ne (pe_callB (kLen (K := K)) (by rfl) T.n_len (by decide +kernel) (pa_cons (pv 1) pa_nil)) pe_int (nomark _))))) (pss_one (ps_ret pe_bl)) pss_nil)
      (pss_one (ps_ret (pe_and (pe_cmpR (op_inOwn G_con h2 b_con pass0 M.e_con M.b_con) (pe_ix (kIxT (K := K)) (pv 1) pe_int (fun _ _ => rfl)) (pv 0) (by rfl)) (pe_and (pe_cmpR (op_inOwn G_con h2 b_con pass0 M.e_con M.b_con) (pe_ix (kIxT (K := K)) (pv 1) pe_int (fun _ _ => rfl)) (pv 0) (by rfl)) (pe_one (pe_cmpR op_ne (pe_ix (kIxT (K := K)) (pv 1) pe_int (fun _ _ => rfl)) (pe_ix (kIxT (K := K)) (pv 1) pe_int (fun _ _ => rfl)) (nomark _)))))))), ?_⟩
    have hv' := SqT.of (K := K) hv
    refine ⟨_, rfl, .ref v, .ty "tuple", .type "tuple", .type "tuple", true, rfl, .ty _, .base (.tup hv), kit_ty (by decide +kernel), true, rfl, if_eqF rfl ?_⟩
    refine ⟨_, rfl, v, _, rfl, .inr hv', rfl, _, rfl, if_eqF rfl ?_⟩
    obtain ⟨dx, _, _, _, n1, _⟩ := id net
    refine ⟨_, rfl, v, _, (0 : Int), .str a, rfl, rfl, hv', rfl, _, rfl, x, dx, _, rfl, n1, ⟨x, .str a, _, ps, _, rfl, net, .str a, _, rfl, ?_⟩⟩
    refine ⟨_, rfl, if_eqT (isIn_mem ma) ?_⟩
    refine ⟨_, rfl, v, _, (1 : Int), .str b, rfl, rfl, hv', rfl, _, rfl, x, dx, _, rfl, n1, ⟨x, .str b, _, ps, _, rfl, net, .str b, _, rfl, ?_⟩⟩
    refine ⟨_, rfl, if_eqT (isIn_mem mb) ?_⟩
    refine ⟨_, rfl, v, _, (0 : Int), .str a, rfl, rfl, hv', rfl, _, rfl, v, _, (1 : Int), .str b, rfl, rfl, hv', rfl, ?_⟩
    have e : decide (V.str a = V.str b) = false := decide_eq_false fun e => ne (V.str.inj e)
    refine ⟨rfl, ?_⟩
    rw [e]
    exact kQ
theorem sc_is_tie : FnScope ["net", "value"] ["net", "value"] (defScope s_is_tie) := ⟨rfl, rfl, rfl, by decide +kernel, rfl, by decide +kernel, by decide +kernel⟩
theorem ok_is_tie {f fN : Addr} {fd fd1 fd2 : FuncData} (F : Fun K "is_tie" "is_tie" s_is_tie f fd) (T : Txt K mg ad) (N : NetC K fN ad.a_Net) (M : NetP K ad)
    (G_is_pair : FnOk P w K mg base CX0 3 ad.f_is_pair fd1 ["net", "value"] (spIsPair ad)) (b_is_pair : Binds K fd1 ["net", "value"] [])
    (G_tied : FnOk P w K mg base (L2.CX P w) 4 ad.f_Net_tied fd2 ["self", "one", "other"] (spTied K ad)) (b_tied : Binds K fd2 ["self", "one", "other"] []) : FnOk P w K mg base CX0 5 f fd ["net", "value"] (spIsTie ad) := by
  refine F.ok sc_is_tie (fun vs H Q E h => ?_) (fun cdv A outer s H vs Q E hr h => ?_)
  · obtain ⟨_, _, _, _, _, _, _, rfl, _⟩ := h
    rfl
  · obtain ⟨x, v, a, b, z, ps, qs, rfl, net, hv, ma, mb, ne, kQ⟩ := h
    have h_is_pair := hr.mono (show 3 ≤ 4 by decide)
    have h4 := hr
    refine ⟨_, (pss_one (ps_ret (pe_and (pe_call G_is_pair h_is_pair (by rfl) T.m_is_pair T.k_is_pair b_is_pair .nil pass0 (pa_cons (pv 0) (pa_cons (pv 1) pa_nil))) (pe_one (pe_meth (pv 0) N.cls M.tied G_tied h4 b_tied .nil passN (pa_cons (pe_ix (kIxT (K := K)) (pv 1) pe_int (fun _ _ => rfl)) (pa_cons (pe_ix (kIxT (K := K)) (pv 1) pe_int (fun _ _ => rfl)) pa_nil))))))), ?_⟩
    have hv' := SqT.of (K := K) hv
    obtain ⟨dx, _, _, _, n1, _⟩ := id net
    refine ⟨_, rfl, _, rfl, x, v, a, b, z, ps, qs, rfl, net, hv, ma, mb, ne, ⟨_, rfl, if_eqT rfl ?_⟩⟩
    refine ⟨_, rfl, x, dx, _, rfl, n1, rfl, _, rfl, v, _, (0 : Int), .str a, rfl, rfl, hv', rfl, _, rfl, v, _, (1 : Int), .str b, rfl, rfl, hv', rfl, ⟨x, .str a, .str b, _, ps, _, rfl, net, .str a, .str b, fun e => (by rw [isIn_mem ma] at e; cases e), fun _ e => (by rw [isIn_mem mb] at e; cases e), fun a' b' ea eb _ _ => ?_⟩⟩
    cases ea
    cases eb
    exact kQ
theorem sc_is_free : FnScope ["net", "value"] ["net", "value"] (defScope s_is_free) := ⟨rfl, rfl, rfl, by decide +kernel, rfl, by decide +kernel, by decide +kernel⟩
theorem ok_is_free {f fN : Addr} {fd fd1 fd2 : FuncData} (F : Fun K "is_free" "is_free" s_is_free f fd) (T : Txt K mg ad) (N : NetC K fN ad.a_Net) (M : NetP K ad)
    (G_is_pair : FnOk P w K mg base CX0 3 ad.f_is_pair fd1 ["net", "value"] (spIsPair ad)) (b_is_pair : Binds K fd1 ["net", "value"] [])
    (G_tied : FnOk P w K mg base (L2.CX P w) 4 ad.f_Net_tied fd2 ["self", "one", "other"] (spTied K ad)) (b_tied : Binds K fd2 ["self", "one", "other"] []) : FnOk P w K mg base CX0 5 f fd ["net", "value"] (spIsFree ad) := by
  refine F.ok sc_is_free (fun vs H Q E h => ?_) (fun cdv A outer s H vs Q E hr h => ?_)
  · obtain ⟨_, _, _, _, _, _, _, rfl, _⟩ := h
    rfl
  · obtain ⟨x, v, a, b, z, ps, qs, rfl, net, hv, ma, mb, ne, kQ⟩ := h
    have h_is_pair := hr.mono (show 3 ≤ 4 by decide)
    have h4 := hr
    refine ⟨_, (pss_one (ps_ret (pe_and (pe_call G_is_pair h_is_pair (by rfl) T.m_is_pair T.k_is_pair b_is_pair .nil pass0 (pa_cons (pv 0) (pa_cons (pv 1) pa_nil))) (pe_one (pe_not (pe_meth (pv 0) N.cls M.tied G_tied h4 b_tied .nil passN (pa_cons (pe_ix (kIxT (K := K)) (pv 1) pe_int (fun _ _ => rfl)) (pa_cons (pe_ix (kIxT (K := K)) (pv 1) pe_int (fun _ _ => rfl)) pa_nil)))))))), ?_⟩
    have hv' := SqT.of (K := K) hv
    obtain ⟨dx, _, _, _, n1, _⟩ := id net
    refine ⟨_, rfl, _, rfl, x, v, a, b, z, ps, qs, rfl, net, hv, ma, mb, ne, ⟨_, rfl, if_eqT rfl ?_⟩⟩
    refine ⟨_, rfl, x, dx, _, rfl, n1, rfl, _, rfl, v, _, (0 : Int), .str a, rfl, rfl, hv', rfl, _, rfl, v, _, (1 : Int), .str b, rfl, rfl, hv', rfl, ⟨x, .str a, .str b, _, ps, _, rfl, net, .str a, .str b, fun e => (by rw [isIn_mem ma] at e; cases e), fun _ e => (by rw [isIn_mem mb] at e; cases e), fun a' b' ea eb _ _ => ?_⟩⟩
    cases ea
    cases eb
    refine ⟨_, rfl, ?_⟩
    exact kQ
end
end K05
namespace K05
open PySem L2 NetM PySem.Spec PyProof.Rows
def spNearTL (K : PySem.W.Frag) : Sp := fun vs H Q _ => ∃ (a t : Addr) (ps : List Str) (ties : List (Str × Str)), vs = [.ref a, .ref t] ∧ SqT K H a (ps.map V.str) ∧ PairsL H t ties ∧
  ps.length ≤ 100 ∧ ties.length ≤ 20000 ∧ ∀ (H' : Hp) (d : Addr) (kvs : List (Key × V)), Same H H' → H' d = some (.dK kvs) →
  (∀ y ∈ ps, ∃ u, valV kvs (Sum.inr y) = some (.ref u) ∧ H' u = some (.tup ((nbOf ties y).map V.str))) → Q (.ref d) H'
section
variable {P : Program} {w : World} {K : PySem.W.Frag} {mg : Str → Option Value} {base : Heap} {ad : Adr}
theorem ok_neighboursTL {f : Addr} {fd : FuncData} (F : Fun K "neighbours" "neighbours" s_neighbours f fd) (T : Txt K mg ad) : FnOk P w K mg base CX0 1 f fd ["places", "ties"] (spNearTL K) := by
  refine F.ok sc_neighbours (fun vs H Q E h => ?_) (fun cdv A outer s H vs Q E hr h => ?_)
  · obtain ⟨_, _, _, _, rfl, _⟩ := h
    rfl
  · obtain ⟨a, l, ps, ties, rfl, ha, hl, h100, ht, k⟩ := h
    obtain ⟨as, e0, r0⟩ := hl
    have eqs : (as.map V.ref).length = ties.length := by rw [List.length_map, Paired.length r0]
    have s0 : Same H H := fun _ _ e => e
    refine ⟨_, (pss_cons (ps_set (i := 2) sc_neighbours.nd rfl (Or.inr rfl) (pe_dc (own := [("place", 4)]) (g := gName 4) rfl sc_neighbours.nd (kTupI (K := K) (pv 0)) (blkOk_by (by rfl)) (fun _ _ _ _ _ => pg_name (i := 4) sc_neighbours.nd rfl (Or.inr rfl)) (fun _ _ _ _ _ => pts_nil) (fun _ _ _ _ _ => (pv 4)) (fun _ _ _ _ _ => (pe_lc (own := [("one", 5), ("other", 6)]) rfl sc_neighbours.nd (kLstI (K := K) (pv 1)) (blkOk_by (by rfl)) (fun _ _ _ _ _ => kTgt (K := K) (n := 2) (by rfl) (pgs_cons (pg_name (i := 5) sc_neighbours.nd rfl (Or.inl rfl)) (pgs_cons (pg_name (i := 6) sc_neighbours.nd rfl (Or.inl rfl)) pgs_nil))) (fun _ _ _ _ _ => (pts_one (pt_cmpR op_eq (pv 6) (pv 4) (nomark _)))) (fun _ _ _ _ _ => (pv 5))))))
      (pss_cons (ps_set (i := 3) sc_neighbours.nd rfl (Or.inr rfl) (pe_dc (own := [("place", 4)]) (g := gName 4) rfl sc_neighbours.nd (kTupI (K := K) (pv 0)) (blkOk_by (by rfl)) (fun _ _ _ _ _ => pg_name (i := 4) sc_neighbours.nd rfl (Or.inr rfl)) (fun _ _ _ _ _ => pts_nil) (fun _ _ _ _ _ => (pv 4)) (fun _ _ _ _ _ => (pe_lc (own := [("one", 5), ("other", 6)]) rfl sc_neighbours.nd (kLstI (K := K) (pv 1)) (blkOk_by (by rfl)) (fun _ _ _ _ _ => kTgt (K := K) (n := 2) (by rfl) (pgs_cons (pg_name (i := 5) sc_neighbours.nd rfl (Or.inl rfl)) (pgs_cons (pg_name (i := 6) sc_neighbours.nd rfl (Or.inl rfl)) pgs_nil))) (fun _ _ _ _ _ => (pts_one (pt_cmpR op_eq (pv 5) (pv 4) (nomark _)))) (fun _ _ _ _ _ => (pv 6))))))
      (pss_one (ps_ret (pe_dc (own := [("place", 4)]) (g := gName 4) rfl sc_neighbours.nd (kTupI (K := K) (pv 0)) (blkOk_by (by rfl)) (fun _ _ _ _ _ => pg_name (i := 4) sc_neighbours.nd rfl (Or.inl rfl)) (fun _ _ _ _ _ => pts_nil) (fun _ _ _ _ _ => (pv 4)) (fun _ _ _ _ _ => (pe_callTy (kTupOf (K := K)) (by rfl) T.n_tuple (by decide +kernel) (pa_cons (pe_op op_cat (pe_dget (hu_of hr) (pv 2) (pv 4) (fun _ _ => rfl)) (pe_dget (hu_of hr) (pv 3) (pv 4) (fun _ _ => rfl))) pa_nil)))))))), ?_⟩
    refine ⟨_, rfl, a, rfl, ⟨_, s0.tup ha⟩, fun D1 nD1 => ?_⟩
    refine lcB walk_tup (fun i Hc => Same H Hc ∧ ∃ kvs, Hc D1 = some (.dK kvs) ∧ kvs.length ≤ i ∧ ∀ y ∈ ps.take i, ∃ u, valV kvs (Sum.inr y) = some (.ref u) ∧ Hc u = some (.lst ((earlOf ties y).map V.str)))
      ⟨same_new nD1, [], upd_same, Nat.le_refl _, fun y hy => by simp at hy⟩ (fun i Hc _ z => (Same.trans s0 z.1).tup ha) ?_ ?_
    · rintro i x Hc H' hi ⟨sc, kvs, hD, hk, hv⟩ ⟨rfl, hx⟩
      obtain ⟨y, hy, rfl⟩ := str_at hx
      have hi' : i < 100 := by
        rw [List.length_map] at hi
        omega
      refine ⟨rfl, _, rfl, _, rfl, l, rfl, ⟨_, SqL.of (sc _ _ (s0 _ _ e0))⟩, fun Di nDi => ?_⟩
      refine lcB walk_list (fun j Hd => Same H' Hd ∧ Hd Di = some (.lst ((((ties.take j).filter fun p => decide (V.str p.2 = V.str y)).map (·.1)).map V.str)))
        ⟨same_new nDi, upd_same⟩ (fun j Hd _ z => SqL.of (z.1 _ _ (sc _ _ (s0 _ _ e0)))) ?_ ?_
      · rintro j x Hd H2 hj ⟨s2, h2⟩ ⟨rfl, hx2⟩
        obtain ⟨a', pq, rfl, hpq, pa⟩ := pair_at r0 hx2
        refine ⟨a', _, rfl, SqT.of (s2 _ _ (sc _ _ (s0 _ _ pa))), rfl, _, _, rfl, _, _, rfl, rfl, rfl, ?_⟩
        refine ⟨_, rfl, _, rfl, rfl, _, rfl, ?_⟩
        by_cases hm : V.str pq.2 = V.str y
        · refine if_eqT (decide_eq_true hm) ⟨_, rfl, _, h2, ?_, fun b u eb => ?_, ?_⟩
          · rw [List.length_map, List.length_map]
            exact Nat.lt_of_le_of_lt (Nat.le_trans (List.length_filter_le _ _) (by rw [List.length_take]; omega) : _ ≤ 20000) (by decide)
          · rw [upd_ne (ne_of_none eb nDi)]
            exact s2 _ _ eb
          · rw [upd_same, filterMore hpq, if_pos (decide_eq_true hm), List.map_append, List.map_append]
            rfl
        · refine if_eqF (decide_eq_false hm) ⟨s2, ?_⟩
          rw [h2, filterMore hpq, if_neg (by rw [decide_eq_false hm]; exact Bool.false_ne_true), List.append_nil]
      · rintro Hd ⟨s2, h2⟩
        rw [eqs, List.take_length] at h2
        have hD' := s2 _ _ hD
        refine ⟨kvs, Sum.inr y, rfl, hD', Nat.lt_of_le_of_lt (Nat.le_trans hk (Nat.le_of_lt hi')) (by decide), fun b u eb => ?_, _, upd_same, ?_, fun y' hy' => ?_⟩
        · rw [upd_ne (ne_of_none eb nD1)]
          exact s2 _ _ (sc _ _ eb)
        · exact Nat.le_trans (length_putK _ _ _) (Nat.succ_le_succ hk)
        · by_cases e : y' = y
          · subst e
            refine ⟨Di, by rw [valV_put, if_pos rfl], ?_⟩
            rw [upd_ne (ne_of h2 hD' (fun z => by cases z))]
            exact h2
          · rw [take_more hy] at hy'
            have hy2 : y' ∈ ps.take i := by
              rcases List.mem_append.mp hy' with z | z
              · exact z
              · exact absurd (List.mem_singleton.mp z) e
            obtain ⟨u, hu1, hu2⟩ := hv y' hy2
            refine ⟨u, by rw [valV_put, if_neg (fun z => e (Sum.inr.inj z))]; exact hu1, ?_⟩
            have hu3 := s2 _ _ hu2
            rw [upd_ne (ne_of hu3 hD' (fun z => by cases z))]
            exact hu3
    rintro H1 ⟨sn1, kv1, hD1, hk1, hv1⟩
    rw [List.length_map] at hk1 hv1
    rw [List.take_length] at hv1
    have s1 : Same H H1 := Same.trans s0 sn1
    refine ⟨_, rfl, a, rfl, ⟨_, s1.tup ha⟩, fun D2 nD2 => ?_⟩
    refine lcB walk_tup (fun i Hc => Same H1 Hc ∧ ∃ kvs, Hc D2 = some (.dK kvs) ∧ kvs.length ≤ i ∧ ∀ y ∈ ps.take i, ∃ u, valV kvs (Sum.inr y) = some (.ref u) ∧ Hc u = some (.lst ((lateOf ties y).map V.str)))
      ⟨same_new nD2, [], upd_same, Nat.le_refl _, fun y hy => by simp at hy⟩ (fun i Hc _ z => (Same.trans s1 z.1).tup ha) ?_ ?_
    · rintro i x Hc H' hi ⟨sc, kvs, hD, hk, hv⟩ ⟨rfl, hx⟩
      obtain ⟨y, hy, rfl⟩ := str_at hx
      have hi' : i < 100 := by
        rw [List.length_map] at hi
        omega
      refine ⟨rfl, _, rfl, _, rfl, l, rfl, ⟨_, SqL.of (sc _ _ (s1 _ _ e0))⟩, fun Di nDi => ?_⟩
      refine lcB walk_list (fun j Hd => Same H' Hd ∧ Hd Di = some (.lst ((((ties.take j).filter fun p => decide (V.str p.1 = V.str y)).map (·.2)).map V.str)))
        ⟨same_new nDi, upd_same⟩ (fun j Hd _ z => SqL.of (z.1 _ _ (sc _ _ (s1 _ _ e0)))) ?_ ?_
      · rintro j x Hd H2 hj ⟨s2, h2⟩ ⟨rfl, hx2⟩
        obtain ⟨a', pq, rfl, hpq, pa⟩ := pair_at r0 hx2
        refine ⟨a', _, rfl, SqT.of (s2 _ _ (sc _ _ (s1 _ _ pa))), rfl, _, _, rfl, _, _, rfl, rfl, rfl, ?_⟩
        refine ⟨_, rfl, _, rfl, rfl, _, rfl, ?_⟩
        by_cases hm : V.str pq.1 = V.str y
        · refine if_eqT (decide_eq_true hm) ⟨_, rfl, _, h2, ?_, fun b u eb => ?_, ?_⟩
          · rw [List.length_map, List.length_map]
            exact Nat.lt_of_le_of_lt (Nat.le_trans (List.length_filter_le _ _) (by rw [List.length_take]; omega) : _ ≤ 20000) (by decide)
          · rw [upd_ne (ne_of_none eb nDi)]
            exact s2 _ _ eb
          · rw [upd_same, filterMore hpq, if_pos (decide_eq_true hm), List.map_append, List.map_append]
            rfl
        · refine if_eqF (decide_eq_false hm) ⟨s2, ?_⟩
          rw [h2, filterMore hpq, if_neg (by rw [decide_eq_false hm]; exact Bool.false_ne_true), List.append_nil]
      · rintro Hd ⟨s2, h2⟩
        rw [eqs, List.take_length] at h2
        have hD' := s2 _ _ hD
        refine ⟨kvs, Sum.inr y, rfl, hD', Nat.lt_of_le_of_lt (Nat.le_trans hk (Nat.le_of_lt hi')) (by decide), fun b u eb => ?_, _, upd_same, ?_, fun y' hy' => ?_⟩
        · rw [upd_ne (ne_of_none eb nD2)]
          exact s2 _ _ (sc _ _ eb)
        · exact Nat.le_trans (length_putK _ _ _) (Nat.succ_le_succ hk)
        · by_cases e : y' = y
          · subst e
            refine ⟨Di, by rw [valV_put, if_pos rfl], ?_⟩
            rw [upd_ne (ne_of h2 hD' (fun z => by cases z))]
            exact h2
          · rw [take_more hy] at hy'
            have hy2 : y' ∈ ps.take i := by
              rcases List.mem_append.mp hy' with z | z
              · exact z
              · exact absurd (List.mem_singleton.mp z) e
            obtain ⟨u, hu1, hu2⟩ := hv y' hy2
            refine ⟨u, by rw [valV_put, if_neg (fun z => e (Sum.inr.inj z))]; exact hu1, ?_⟩
            have hu3 := s2 _ _ hu2
            rw [upd_ne (ne_of hu3 hD' (fun z => by cases z))]
            exact hu3
    rintro H2 ⟨sn2, kv2, hD2, hk2, hv2⟩
    rw [List.length_map] at hk2 hv2
    rw [List.take_length] at hv2
    have s2 : Same H H2 := Same.trans s1 sn2
    refine ⟨_, rfl, a, rfl, ⟨_, s2.tup ha⟩, fun D3 nD3 => ?_⟩
    refine lcB walk_tup (fun i Hc => Same H2 Hc ∧ ∃ kvs, Hc D3 = some (.dK kvs) ∧ kvs.length ≤ i ∧ ∀ y ∈ ps.take i, ∃ u, valV kvs (Sum.inr y) = some (.ref u) ∧ Hc u = some (.tup ((nbOf ties y).map V.str)))
      ⟨same_new nD3, [], upd_same, Nat.le_refl _, fun y hy => by simp at hy⟩ (fun i Hc _ z => (Same.trans s2 z.1).tup ha) ?_ ?_
    · rintro i x Hc H' hi ⟨sc, kvs, hD, hk, hv⟩ ⟨rfl, hx⟩
      obtain ⟨y, hy, rfl⟩ := str_at hx
      have hi' : i < 100 := by
        rw [List.length_map] at hi
        omega
      have my : y ∈ ps := List.mem_of_getElem? hy
      obtain ⟨u1, hu1, hl1⟩ := hv1 y my
      obtain ⟨u2, hu2, hl2⟩ := hv2 y my
      have g1 := DGet.k (k := Sum.inr y) (sc _ _ (sn2 _ _ hD1))
      have g2 := DGet.k (k := Sum.inr y) (sc _ _ hD2)
      rw [hu1] at g1
      rw [hu2] at g2
      refine ⟨rfl, _, rfl, _, rfl, _, rfl, D1, .ref u1, rfl, g1, _, rfl, _, rfl, D2, .ref u2, rfl, g2, u1, u2, _, _, rfl, rfl, sc _ _ (sn2 _ _ hl1), sc _ _ hl2, ?_, fun p np => ?_⟩
      · rw [List.length_map, List.length_map]
        unfold earlOf lateOf
        rw [List.length_map, List.length_map]
        have q1 := List.length_filter_le (fun p : Str × Str => decide (V.str p.2 = V.str y)) ties
        have q2 := List.length_filter_le (fun p : Str × Str => decide (V.str p.1 = V.str y)) ties
        exact Nat.le_trans (Nat.add_le_add q1 q2) (Nat.le_trans (Nat.add_le_add ht ht) (by decide))
      have sp := same_new (o := .lst ((earlOf ties y).map V.str ++ (lateOf ties y).map V.str)) np
      have fp : upd H' p (.lst ((earlOf ties y).map V.str ++ (lateOf ties y).map V.str)) p = some (.lst ((earlOf ties y).map V.str ++ (lateOf ties y).map V.str)) := upd_same
      generalize upd H' p (.lst ((earlOf ties y).map V.str ++ (lateOf ties y).map V.str)) = H3 at sp fp ⊢
      refine ⟨p, _, rfl, .inl ⟨SqL.of fp, fun q nq => ?_⟩⟩
      have sq : Same H' (upd H3 q (.tup ((earlOf ties y).map V.str ++ (lateOf ties y).map V.str))) := Same.trans sp (same_new nq)
      have fq : upd H3 q (.tup ((earlOf ties y).map V.str ++ (lateOf ties y).map V.str)) q = some (.tup ((nbOf ties y).map V.str)) := by
        rw [upd_same]
        unfold nbOf
        rw [List.map_append]
      generalize upd H3 q (.tup ((earlOf ties y).map V.str ++ (lateOf ties y).map V.str)) = H4 at sq fq ⊢
      have hD' := sq _ _ hD
      refine ⟨kvs, Sum.inr y, rfl, hD', Nat.lt_of_le_of_lt (Nat.le_trans hk (Nat.le_of_lt hi')) (by decide), fun b u eb => ?_, _, upd_same, ?_, fun y' hy' => ?_⟩
      · rw [upd_ne (ne_of_none eb nD3)]
        exact sq _ _ (sc _ _ eb)
      · exact Nat.le_trans (length_putK _ _ _) (Nat.succ_le_succ hk)
      · by_cases e : y' = y
        · subst e
          refine ⟨q, by rw [valV_put, if_pos rfl], ?_⟩
          rw [upd_ne (ne_of fq hD' (fun z => by cases z))]
          exact fq
        · rw [take_more hy] at hy'
          have hy2 : y' ∈ ps.take i := by
            rcases List.mem_append.mp hy' with z | z
            · exact z
            · exact absurd (List.mem_singleton.mp z) e
          obtain ⟨u, w1, w2⟩ := hv y' hy2
          refine ⟨u, by rw [valV_put, if_neg (fun z => e (Sum.inr.inj z))]; exact w1, ?_⟩
          have w3 := sq _ _ w2
          rw [upd_ne (ne_of w3 hD' (fun z => by cases z))]
          exact w3
    · rintro Hc ⟨sc, kvs, hD, hk, hv⟩
      rw [List.length_map, List.take_length] at hv
      exact k Hc D3 kvs (Same.trans s2 sc) hD hv
end
def spNearLL (K : PySem.W.Frag) : Sp := fun vs H Q _ => ∃ (a t : Addr) (ps : List Str) (ties : List (Str × Str)), vs = [.ref a, .ref t] ∧ SqL K H a (ps.map V.str) ∧ PairsL H t ties ∧
  ps.length ≤ 100 ∧ ties.length ≤ 20000 ∧ ∀ (H' : Hp) (d : Addr) (kvs : List (Key × V)), Same H H' → H' d = some (.dK kvs) →
  (∀ y ∈ ps, ∃ u, valV kvs (Sum.inr y) = some (.ref u) ∧ H' u = some (.tup ((nbOf ties y).map V.str))) → Q (.ref d) H'
section
variable {P : Program} {w : World} {K : PySem.W.Frag} {mg : Str → Option Value} {base : Heap} {ad : Adr}
theorem ok_neighboursLL {f : Addr} {fd : FuncData} (F : Fun K "neighbours" "neighbours" s_neighbours f fd) (T : Txt K mg ad) : FnOk P w K mg base CX0 1 f fd ["places", "ties"] (spNearLL K) := by
  refine F.ok sc_neighbours (fun vs H Q E h => ?_) (fun cdv A outer s H vs Q E hr h => ?_)
  · obtain ⟨_, _, _, _, rfl, _⟩ := h
    rfl
  · obtain ⟨a, l, ps, ties, rfl, ha, hl, h100, ht, k⟩ := h
    obtain ⟨as, e0, r0⟩ := hl
    have eqs : (as.map V.ref).length = ties.length := by rw [List.length_map, Paired.length r0]
    have s0 : Same H H := fun _ _ e => e
    refine ⟨_, (pss_cons (ps_set (i := 2) sc_neighbours.nd rfl (Or.inr rfl) (pe_dc (own := [("place", 4)]) (g := gName 4) rfl sc_neighbours.nd (kLstI (K := K) (pv 0)) (blkOk_by (by rfl)) (fun _ _ _ _ _ => pg_name (i := 4) sc_neighbours.nd rfl (Or.inr rfl)) (fun _ _ _ _ _ => pts_nil) (fun _ _ _ _ _ => (pv 4)) (fun _ _ _ _ _ => (pe_lc (own := [("one", 5), ("other", 6)]) rfl sc_neighbours.nd (kLstI (K := K) (pv 1)) (blkOk_by (by rfl)) (fun _ _ _ _ _ => kTgt (K := K) (n := 2) (by rfl) (pgs_cons (pg_name (i := 5) sc_neighbours.nd rfl (Or.inl rfl)) (pgs_cons (pg_name (i := 6) sc_neighbours.nd rfl (Or.inl rfl)) pgs_nil))) (fun _ _ _ _ _ => (pts_one (pt_cmpR op_eq (pv 6) (pv 4) (nomark _)))) (fun _ _ _ _ _ => (pv 5))))))
      (pss_cons (ps_set (i := 3) sc_neighbours.nd rfl (Or.inr rfl) (pe_dc (own := [("place", 4)]) (g := gName 4) rfl sc_neighbours.nd (kLstI (K := K) (pv 0)) (blkOk_by (by rfl)) (fun _ _ _ _ _ => pg_name (i := 4) sc_neighbours.nd rfl (Or.inr rfl)) (fun _ _ _ _ _ => pts_nil) (fun _ _ _ _ _ => (pv 4)) (fun _ _ _ _ _ => (pe_lc (own := [("one", 5), ("other", 6)]) rfl sc_neighbours.nd (kLstI (K := K) (pv 1)) (blkOk_by (by rfl)) (fun _ _ _ _ _ => kTgt (K := K) (n := 2) (by rfl) (pgs_cons (pg_name (i := 5) sc_neighbours.nd rfl (Or.inl rfl)) (pgs_cons (pg_name (i := 6) sc_neighbours.nd rfl (Or.inl rfl)) pgs_nil))) (fun _ _ _ _ _ => (pts_one (pt_cmpR op_eq (pv 5) (pv 4) (nomark _)))) (fun _ _ _ _ _ => (pv 6))))))
      (pss_one (ps_ret (pe_dc (own := [("place", 4)]) (g := gName 4) rfl sc_neighbours.nd (kLstI (K := K) (pv 0)) (blkOk_by (by rfl)) (fun _ _ _ _ _ => pg_name (i := 4) sc_neighbours.nd rfl (Or.inl rfl)) (fun _ _ _ _ _ => pts_nil) (fun _ _ _ _ _ => (pv 4)) (fun _ _ _ _ _ => (pe_callTy (kTupOf (K := K)) (by rfl) T.n_tuple (by decide +kernel) (pa_cons (pe_op op_cat (pe_dget (hu_of hr) (pv 2) (pv 4) (fun _ _ => rfl)) (pe_dget (hu_of hr) (pv 3) (pv 4) (fun _ _ => rfl))) pa_nil)))))))), ?_⟩
    refine ⟨_, rfl, a, rfl, ⟨_, s0.seq ha⟩, fun D1 nD1 => ?_⟩
    refine lcB walk_list (fun i Hc => Same H Hc ∧ ∃ kvs, Hc D1 = some (.dK kvs) ∧ kvs.length ≤ i ∧ ∀ y ∈ ps.take i, ∃ u, valV kvs (Sum.inr y) = some (.ref u) ∧ Hc u = some (.lst ((earlOf ties y).map V.str)))
      ⟨same_new nD1, [], upd_same, Nat.le_refl _, fun y hy => by simp at hy⟩ (fun i Hc _ z => (Same.trans s0 z.1).seq ha) ?_ ?_
    · rintro i x Hc H' hi ⟨sc, kvs, hD, hk, hv⟩ ⟨rfl, hx⟩
      obtain ⟨y, hy, rfl⟩ := str_at hx
      have hi' : i < 100 := by
        rw [List.length_map] at hi
        omega
      refine ⟨rfl, _, rfl, _, rfl, l, rfl, ⟨_, SqL.of (sc _ _ (s0 _ _ e0))⟩, fun Di nDi => ?_⟩
      refine lcB walk_list (fun j Hd => Same H' Hd ∧ Hd Di = some (.lst ((((ties.take j).filter fun p => decide (V.str p.2 = V.str y)).map (·.1)).map V.str)))
        ⟨same_new nDi, upd_same⟩ (fun j Hd _ z => SqL.of (z.1 _ _ (sc _ _ (s0 _ _ e0)))) ?_ ?_
      · rintro j x Hd H2 hj ⟨s2, h2⟩ ⟨rfl, hx2⟩
        obtain ⟨a', pq, rfl, hpq, pa⟩ := pair_at r0 hx2
        refine ⟨a', _, rfl, SqT.of (s2 _ _ (sc _ _ (s0 _ _ pa))), rfl, _, _, rfl, _, _, rfl, rfl, rfl, ?_⟩
        refine ⟨_, rfl, _, rfl, rfl, _, rfl, ?_⟩
        by_cases hm : V.str pq.2 = V.str y
        · refine if_eqT (decide_eq_true hm) ⟨_, rfl, _, h2, ?_, fun b u eb => ?_, ?_⟩
          · rw [List.length_map, List.length_map]
            exact Nat.lt_of_le_of_lt (Nat.le_trans (List.length_filter_le _ _) (by rw [List.length_take]; omega) : _ ≤ 20000) (by decide)
          · rw [upd_ne (ne_of_none eb nDi)]
            exact s2 _ _ eb
          · rw [upd_same, filterMore hpq, if_pos (decide_eq_true hm), List.map_append, List.map_append]
            rfl
        · refine if_eqF (decide_eq_false hm) ⟨s2, ?_⟩
          rw [h2, filterMore hpq, if_neg (by rw [decide_eq_false hm]; exact Bool.false_ne_true), List.append_nil]
      · rintro Hd ⟨s2, h2⟩
        rw [eqs, List.take_length] at h2
        have hD' := s2 _ _ hD
        refine ⟨kvs, Sum.inr y, rfl, hD', Nat.lt_of_le_of_lt (Nat.le_trans hk (Nat.le_of_lt hi')) (by decide), fun b u eb => ?_, _, upd_same, ?_, fun y' hy' => ?_⟩
        · rw [upd_ne (ne_of_none eb nD1)]
          exact s2 _ _ (sc _ _ eb)
        · exact Nat.le_trans (length_putK _ _ _) (Nat.succ_le_succ hk)
        · by_cases e : y' = y
          · subst e
            refine ⟨Di, by rw [valV_put, if_pos rfl], ?_⟩
            rw [upd_ne (ne_of h2 hD' (fun z => by cases z))]
            exact h2
          · rw [take_more hy] at hy'
            have hy2 : y' ∈ ps.take i := by
              rcases List.mem_append.mp hy' with z | z
              · exact z
              · exact absurd (List.mem_singleton.mp z) e
            obtain ⟨u, hu1, hu2⟩ := hv y' hy2
            refine ⟨u, by rw [valV_put, if_neg (fun z => e (Sum.inr.inj z))]; exact hu1, ?_⟩
            have hu3 := s2 _ _ hu2
            rw [upd_ne (ne_of hu3 hD' (fun z => by cases z))]
            exact hu3
    rintro H1 ⟨sn1, kv1, hD1, hk1, hv1⟩
    rw [List.length_map] at hk1 hv1
    rw [List.take_length] at hv1
    have s1 : Same H H1 := Same.trans s0 sn1
    refine ⟨_, rfl, a, rfl, ⟨_, s1.seq ha⟩, fun D2 nD2 => ?_⟩
    refine lcB walk_list (fun i Hc => Same H1 Hc ∧ ∃ kvs, Hc D2 = some (.dK kvs) ∧ kvs.length ≤ i ∧ ∀ y ∈ ps.take i, ∃ u, valV kvs (Sum.inr y) = some (.ref u) ∧ Hc u = some (.lst ((lateOf ties y).map V.str)))
      ⟨same_new nD2, [], upd_same, Nat.le_refl _, fun y hy => by simp at hy⟩ (fun i Hc _ z => (Same.trans s1 z.1).seq ha) ?_ ?_
    · rintro i x Hc H' hi ⟨sc, kvs, hD, hk, hv⟩ ⟨rfl, hx⟩
      obtain ⟨y, hy, rfl⟩ := str_at hx
      have hi' : i < 100 := by
        rw [List.length_map] at hi
        omega
      refine ⟨rfl, _, rfl, _, rfl, l, rfl, ⟨_, SqL.of (sc _ _ (s1 _ _ e0))⟩, fun Di nDi => ?_⟩
      refine lcB walk_list (fun j Hd => Same H' Hd ∧ Hd Di = some (.lst ((((ties.take j).filter fun p => decide (V.str p.1 = V.str y)).map (·.2)).map V.str)))
        ⟨same_new nDi, upd_same⟩ (fun j Hd _ z => SqL.of (z.1 _ _ (sc _ _ (s1 _ _ e0)))) ?_ ?_
      · rintro j x Hd H2 hj ⟨s2, h2⟩ ⟨rfl, hx2⟩
        obtain ⟨a', pq, rfl, hpq, pa⟩ := pair_at r0 hx2
        refine ⟨a', _, rfl, SqT.of (s2 _ _ (sc _ _ (s1 _ _ pa))), rfl, _, _, rfl, _, _, rfl, rfl, rfl, ?_⟩
        refine ⟨_, rfl, _, rfl, rfl, _, rfl, ?_⟩
        by_cases hm : V.str pq.1 = V.str y
        · refine if_eqT (decide_eq_true hm) ⟨_, rfl, _, h2, ?_, fun b u eb => ?_, ?_⟩
          · rw [List.length_map, List.length_map]
            exact Nat.lt_of_le_of_lt (Nat.le_trans (List.length_filter_le _ _) (by rw [List.length_take]; omega) : _ ≤ 20000) (by decide)
          · rw [upd_ne (ne_of_none eb nDi)]
            exact s2 _ _ eb
          · rw [upd_same, filterMore hpq, if_pos (decide_eq_true hm), List.map_append, List.map_append]
            rfl
        · refine if_eqF (decide_eq_false hm) ⟨s2, ?_⟩
          rw [h2, filterMore hpq, if_neg (by rw [decide_eq_false hm]; exact Bool.false_ne_true), List.append_nil]
      · rintro Hd ⟨s2, h2⟩
        rw [eqs, List.take_length] at h2
        have hD' := s2 _ _ hD
        refine ⟨kvs, Sum.inr y, rfl, hD', Nat.lt_of_le_of_lt (Nat.le_trans hk (Nat.le_of_lt hi')) (by decide), fun b u eb => ?_, _, upd_same, ?_, fun y' hy' => ?_⟩
        · rw [upd_ne (ne_of_none eb nD2)]
          exact s2 _ _ (sc _ _ eb)
        · exact Nat.le_trans (length_putK _ _ _) (Nat.succ_le_succ hk)
        · by_cases e : y' = y
          · subst e
            refine ⟨Di, by rw [valV_put, if_pos rfl], ?_⟩
            rw [upd_ne (ne_of h2 hD' (fun z => by cases z))]
            exact h2
          · rw [take_more hy] at hy'
            have hy2 : y' ∈ ps.take i := by
              rcases List.mem_append.mp hy' with z | z
              · exact z
              · exact absurd (List.mem_singleton.mp z) e
            obtain ⟨u, hu1, hu2⟩ := hv y' hy2
            refine ⟨u, by rw [valV_put, if_neg (fun z => e (Sum.inr.inj z))]; exact hu1, ?_⟩
            have hu3 := s2 _ _ hu2
            rw [upd_ne (ne_of hu3 hD' (fun z => by cases z))]
            exact hu3
    rintro H2 ⟨sn2, kv2, hD2, hk2, hv2⟩
    rw [List.length_map] at hk2 hv2
    rw [List.take_length] at hv2
    have s2 : Same H H2 := Same.trans s1 sn2
    refine ⟨_, rfl, a, rfl, ⟨_, s2.seq ha⟩, fun D3 nD3 => ?_⟩
    refine lcB walk_list (fun i Hc => Same H2 Hc ∧ ∃ kvs, Hc D3 = some (.dK kvs) ∧ kvs.length ≤ i ∧ ∀ y ∈ ps.take i, ∃ u, valV kvs (Sum.inr y) = some (.ref u) ∧ Hc u = some (.tup ((nbOf ties y).map V.str)))
      ⟨same_new nD3, [], upd_same, Nat.le_refl _, fun y hy => by simp at hy⟩ (fun i Hc _ z => (Same.trans s2 z.1).seq ha) ?_ ?_
    · rintro i x Hc H' hi ⟨sc, kvs, hD, hk, hv⟩ ⟨rfl, hx⟩
      obtain ⟨y, hy, rfl⟩ := str_at hx
      have hi' : i < 100 := by
        rw [List.length_map] at hi
        omega
      have my : y ∈ ps := List.mem_of_getElem? hy
      obtain ⟨u1, hu1, hl1⟩ := hv1 y my
      obtain ⟨u2, hu2, hl2⟩ := hv2 y my
      have g1 := DGet.k (k := Sum.inr y) (sc _ _ (sn2 _ _ hD1))
      have g2 := DGet.k (k := Sum.inr y) (sc _ _ hD2)
      rw [hu1] at g1
      rw [hu2] at g2
      refine ⟨rfl, _, rfl, _, rfl, _, rfl, D1, .ref u1, rfl, g1, _, rfl, _, rfl, D2, .ref u2, rfl, g2, u1, u2, _, _, rfl, rfl, sc _ _ (sn2 _ _ hl1), sc _ _ hl2, ?_, fun p np => ?_⟩
      · rw [List.length_map, List.length_map]
        unfold earlOf lateOf
        rw [List.length_map, List.length_map]
        have q1 := List.length_filter_le (fun p : Str × Str => decide (V.str p.2 = V.str y)) ties
        have q2 := List.length_filter_le (fun p : Str × Str => decide (V.str p.1 = V.str y)) ties
        exact Nat.le_trans (Nat.add_le_add q1 q2) (Nat.le_trans (Nat.add_le_add ht ht) (by decide))
      have sp := same_new (o := .lst ((earlOf ties y).map V.str ++ (lateOf ties y).map V.str)) np
      have fp : upd H' p (.lst ((earlOf ties y).map V.str ++ (lateOf ties y).map V.str)) p = some (.lst ((earlOf ties y).map V.str ++ (lateOf ties y).map V.str)) := upd_same
      generalize upd H' p (.lst ((earlOf ties y).map V.str ++ (lateOf ties y).map V.str)) = H3 at sp fp ⊢
      refine ⟨p, _, rfl, .inl ⟨SqL.of fp, fun q nq => ?_⟩⟩
      have sq : Same H' (upd H3 q (.tup ((earlOf ties y).map V.str ++ (lateOf ties y).map V.str))) := Same.trans sp (same_new nq)
      have fq : upd H3 q (.tup ((earlOf ties y).map V.str ++ (lateOf ties y).map V.str)) q = some (.tup ((nbOf ties y).map V.str)) := by
        rw [upd_same]
        unfold nbOf
        rw [List.map_append]
      generalize upd H3 q (.tup ((earlOf ties y).map V.str ++ (lateOf ties y).map V.str)) = H4 at sq fq ⊢
      have hD' := sq _ _ hD
      refine ⟨kvs, Sum.inr y, rfl, hD', Nat.lt_of_le_of_lt (Nat.le_trans hk (Nat.le_of_lt hi')) (by decide), fun b u eb => ?_, _, upd_same, ?_, fun y' hy' => ?_⟩
      · rw [upd_ne (ne_of_none eb nD3)]
        exact sq _ _ (sc _ _ eb)
      · exact Nat.le_trans (length_putK _ _ _) (Nat.succ_le_succ hk)
      · by_cases e : y' = y
        · subst e
          refine ⟨q, by rw [valV_put, if_pos rfl], ?_⟩
          rw [upd_ne (ne_of fq hD' (fun z => by cases z))]
          exact fq
        · rw [take_more hy] at hy'
          have hy2 : y' ∈ ps.take i := by
            rcases List.mem_append.mp hy' with z | z
            · exact z
            · exact absurd (List.mem_singleton.mp z) e
          obtain ⟨u, w1, w2⟩ := hv y' hy2
          refine ⟨u, by rw [valV_put, if_neg (fun z => e (Sum.inr.inj z))]; exact w1, ?_⟩
          have w3 := sq _ _ w2
          rw [upd_ne (ne_of w3 hD' (fun z => by cases z))]
          exact w3
    · rintro Hc ⟨sc, kvs, hD, hk, hv⟩
      rw [List.length_map, List.take_length] at hv
      exact k Hc D3 kvs (Same.trans s2 sc) hD hv
end
end K05
namespace NetM
open PySem L2
theorem mem_seq {ps : List Str} {ts : List (Str × Str)} {p : Str × Str} : p ∈ inSeq ps ts ↔ p ∈ pairsAll ps ∧ tieIn ts p = true := List.mem_filter
theorem seq_in {ps : List Str} {ts : List (Str × Str)} (nd : ps.Nodup) {p : Str × Str} (h : p ∈ pairsAll ps) : tieIn (inSeq ps ts) p = tieIn ts p := by
  have np : (p.2, p.1) ∉ pairsAll ps := fun z => pairs_anti nd h z
  rw [Bool.eq_iff_iff, tieIn_iff]
  constructor
  · rintro (q | q)
    · exact (mem_seq.mp q).2
    · exact absurd (mem_seq.mp q).1 np
  · exact fun q => .inl (mem_seq.mpr ⟨h, q⟩)
theorem seq_filter {ps : List Str} {ts : List (Str × Str)} {f : Str × Str → Bool} (nd : ps.Nodup) : inSeq ps ((inSeq ps ts).filter f) = (inSeq ps ts).filter f := by
  show (pairsAll ps).filter _ = ((pairsAll ps).filter (tieIn ts)).filter f
  rw [List.filter_filter]
  refine List.filter_congr fun p hp => ?_
  have np : (p.2, p.1) ∉ pairsAll ps := fun z => pairs_anti nd hp z
  rw [Bool.eq_iff_iff, tieIn_iff, Bool.and_eq_true]
  constructor
  · rintro (q | q)
    · obtain ⟨q1, q2⟩ := List.mem_filter.mp q
      exact ⟨q2, (mem_seq.mp q1).2⟩
    · exact absurd (mem_seq.mp (List.mem_filter.mp q).1).1 np
  · rintro ⟨q1, q2⟩
    exact .inl (List.mem_filter.mpr ⟨mem_seq.mpr ⟨hp, q2⟩, q1⟩)
theorem seq_idem {ps : List Str} {ts : List (Str × Str)} (nd : ps.Nodup) : inSeq ps (inSeq ps ts) = inSeq ps ts := by
  have q := seq_filter (ts := ts) (f := fun _ => true) nd
  rw [show (inSeq ps ts).filter (fun _ => true) = inSeq ps ts from List.filter_eq_self.mpr fun _ _ => rfl] at q
  exact q
theorem pairs_irr {ps : List Str} (nd : ps.Nodup) {a b : Str} (h : (a, b) ∈ pairsAll ps) : a ≠ b := fun e => by
  subst e
  exact pairs_anti nd h h
theorem seq_nodup {ps : List Str} {ts : List (Str × Str)} (nd : ps.Nodup) : (inSeq ps ts).Nodup := (pairs_nodup nd).filter _
theorem seq_once {ps : List Str} {ts : List (Str × Str)} (nd : ps.Nodup) : Once (inSeq ps ts) := by
  refine ⟨fun t ht => pairs_irr nd (a := t.1) (b := t.2) (mem_seq.mp ht).1, ?_⟩
  refine List.Pairwise.imp_of_mem (fun {s t} hs ht ne tw => ?_) (seq_nodup (ts := ts) nd)
  rcases tw with e | e
  · exact ne e
  · refine pairs_anti nd (mem_seq.mp hs).1 (?_ : (s.2, s.1) ∈ pairsAll ps)
    rw [e]
    exact (mem_seq.mp ht).1
theorem len_sub {α : Type} : ∀ {l m : List α}, l.Nodup → (∀ y ∈ l, y ∈ m) → l.length ≤ m.length
  | [], _, _, _ => Nat.zero_le _
  | a :: l, m, nd, h => by
    obtain ⟨n1, n2⟩ := List.nodup_cons.mp nd
    obtain ⟨u, v, rfl⟩ := List.append_of_mem (h a (.head _))
    have := len_sub (l := l) (m := u ++ v) n2 fun y hy => by
      rcases List.mem_append.mp (h y (.tail _ hy)) with q | q
      · exact List.mem_append_left _ q
      · rcases List.mem_cons.mp q with rfl | q
        · exact absurd hy n1
        · exact List.mem_append_right _ q
    rw [List.length_append] at this
    rw [List.length_append, List.length_cons, List.length_cons]
    omega
/-- a tie, told from its earlier place on -/
theorem one_way {ps : List Str} {a b : Str} (ha : a ∈ ps) (hb : b ∈ ps) (ne : a ≠ b) : ∃ o, o ∈ pairsAll ps ∧ (o = (a, b) ∨ o = (b, a)) := by
  rcases pairs_total ha hb ne with q | q
  · exact ⟨_, q, .inl rfl⟩
  · exact ⟨_, q, .inr rfl⟩
theorem tie_app {ts : List (Str × Str)} {t p : Str × Str} : tieIn (ts ++ [t]) p = (tieIn ts p || (decide (p = t) || decide (p = (t.2, t.1)))) := by
  rw [Bool.eq_iff_iff, tieIn_iff, Bool.or_eq_true, tieIn_iff, Bool.or_eq_true, decide_eq_true_iff, decide_eq_true_iff, List.mem_append, List.mem_append, List.mem_singleton, List.mem_singleton]
  have e : (p.2, p.1) = t ↔ p = (t.2, t.1) := by
    constructor
    · rintro rfl
      rfl
    · rintro rfl
      rfl
  rw [e]
  constructor
  · rintro ((h | h) | (h | h))
    · exact .inl (.inl h)
    · exact .inr (.inl h)
    · exact .inl (.inr h)
    · exact .inr (.inr h)
  · rintro ((h | h) | (h | h))
    · exact .inl (.inl h)
    · exact .inr (.inl h)
    · exact .inl (.inr h)
    · exact .inr (.inr h)
theorem tie_of {ts : List (Str × Str)} {a b : Str} {o : Str × Str} (e : o = (a, b) ∨ o = (b, a)) : tieIn ts o = tieIn ts (a, b) := by
  rcases e with rfl | rfl
  · rfl
  · exact tie_sym
theorem seq_more {ps : List Str} {ts : List (Str × Str)} {a b : Str} (nd : ps.Nodup) (ha : a ∈ ps) (hb : b ∈ ps) (ne : a ≠ b) (no : tieIn ts (a, b) = false) : (inSeq ps (ts ++ [(a, b)])).length = (inSeq ps ts).length + 1 := by
  obtain ⟨o, ho, eo⟩ := one_way ha hb ne
  have to : tieIn ts o = false := (tie_of eo).trans no
  have is : ∀ p ∈ pairsAll ps, (tieIn (ts ++ [(a, b)]) p = true ↔ tieIn ts p = true ∨ p = o) := fun p hp => by
    rw [tie_app, Bool.or_eq_true, Bool.or_eq_true, decide_eq_true_iff, decide_eq_true_iff]
    constructor
    · rintro (h | h | h)
      · exact .inl h
      · rcases eo with rfl | rfl
        · exact .inr h
        · exact absurd ho (fun z => pairs_anti nd z (h ▸ hp))
      · rcases eo with rfl | rfl
        · exact absurd ho (fun z => pairs_anti nd z (h ▸ hp))
        · exact .inr h
    · rintro (h | h)
      · exact .inl h
      · rcases eo with rfl | rfl
        · exact .inr (.inl h)
        · exact .inr (.inr h)
  have l1 : (inSeq ps (ts ++ [(a, b)])).length ≤ (o :: inSeq ps ts).length := len_sub (seq_nodup nd) fun p hp => by
    obtain ⟨h1, h2⟩ := mem_seq.mp hp
    rcases (is p h1).mp h2 with h | h
    · exact .tail _ (mem_seq.mpr ⟨h1, h⟩)
    · exact h ▸ .head _
  have l2 : (o :: inSeq ps ts).length ≤ (inSeq ps (ts ++ [(a, b)])).length := len_sub (List.nodup_cons.mpr ⟨fun z => (by rw [(mem_seq.mp z).2] at to; cases to), seq_nodup nd⟩) fun p hp => by
    rcases List.mem_cons.mp hp with rfl | hp
    · exact mem_seq.mpr ⟨ho, (is _ ho).mpr (.inr rfl)⟩
    · obtain ⟨h1, h2⟩ := mem_seq.mp hp
      exact mem_seq.mpr ⟨h1, (is _ h1).mpr (.inl h2)⟩
  rw [List.length_cons] at l1 l2
  omega
theorem none_cut {nb : Str → List Str} {ps : List Str} (h : cutOf nb ps = none) : AllIn nb ps (ps.headD "") ∧ ∀ p ∈ ps, Fine nb ps p := by
  unfold cutOf at h
  split at h
  · rename_i a
    refine ⟨a, fun p hp => ?_⟩
    rw [Option.map_eq_none_iff, List.find?_eq_none] at h
    have q := h p hp
    simpa using q
  · cases h
theorem cut_mono {nb nb' : Str → List Str} {ps : List Str} (nd : ps.Nodup) (h2 : 2 ≤ ps.length) (h : ∀ y ∈ ps, ∀ z ∈ ps, z ∈ nb y → z ∈ nb' y) (c : cutOf nb ps = none) : cutOf nb' ps = none := by
  obtain ⟨c1, c2⟩ := none_cut c
  have ne : ps ≠ [] := fun e => by rw [e] at h2; simp at h2
  refine cut_none (fun y hy => (c1 y hy).imp h (headIn ne)) fun p hp y hy => ?_
  obtain ⟨z, r, eo⟩ := oth_ne (p := p) nd h2
  exact (c2 p hp y hy).imp (fun y hy z hz => h y (oth_mem.mp hy).1 z (oth_mem.mp hz).1) (headIn (by rw [eo]; simp))
theorem reach_first {nb : Str → List Str} {some : List Str} {x y : Str} (r : Reach nb some x y) (ne : x ≠ y) : ∃ z, z ∈ some ∧ z ∈ nb x := by
  induction r with
  | refl => exact absurd rfl ne
  | @step y z r hz hs ih =>
    by_cases e : x = y
    · subst e
      exact ⟨z, hs, hz⟩
    · exact ih e
theorem reach_last {nb : Str → List Str} {some : List Str} {x y : Str} (hx : x ∈ some) (r : Reach nb some x y) (ne : x ≠ y) : ∃ z, z ∈ some ∧ y ∈ nb z := by
  cases r with
  | refl => exact absurd rfl ne
  | @step z _ r hz hs => exact ⟨z, r.mem hx, hz⟩
/-- in a well tied net each place has a neighbour besides any one place -/
theorem nb_more {ps : List Str} {ts : List (Str × Str)} (nd : ps.Nodup) (h3 : 3 ≤ ps.length) (c : cutOf (nbOf (inSeq ps ts)) ps = none) {v p : Str} (hv : v ∈ ps) (hp : p ∈ ps) (ne : v ≠ p) : ∃ z, z ∈ ps ∧ z ≠ p ∧ z ∈ nbOf (inSeq ps ts) v := by
  have F := (none_cut c).2 p hp
  obtain ⟨y, r, eo⟩ := oth_ne (p := p) nd (by omega)
  have hy : y ∈ oth ps p := by rw [eo]; exact .head _
  have hvo : v ∈ oth ps p := oth_mem.mpr ⟨hv, ne⟩
  unfold Fine at F
  rw [show (oth ps p).headD "" = y by rw [eo]; rfl] at F
  by_cases e : y = v
  · subst e
    -- another one but y
    have : ∃ u, u ∈ oth ps p ∧ y ≠ u := by
      cases r with
      | cons u r =>
        refine ⟨u, by rw [eo]; exact .tail _ (.head _), fun z => ?_⟩
        have nd2 : (oth ps p).Nodup := nd.filter _
        rw [eo, z] at nd2
        exact (List.nodup_cons.mp nd2).1 (.head _)
      | nil =>
        have l : ps.length ≤ [p, y].length := len_sub nd fun z hz => by
          by_cases q : z = p
          · exact q ▸ .head _
          · have hz' : z ∈ oth ps p := oth_mem.mpr ⟨hz, q⟩
            rw [eo] at hz'
            exact .tail _ hz'
        simp at l
        omega
    obtain ⟨u, hu, nu⟩ := this
    obtain ⟨z, hz, q⟩ := reach_first (F u hu) nu
    exact ⟨z, (oth_mem.mp hz).1, (oth_mem.mp hz).2, q⟩
  · obtain ⟨z, hz, q⟩ := reach_last hy (F v hvo) e
    refine ⟨z, (oth_mem.mp hz).1, (oth_mem.mp hz).2, ?_⟩
    obtain ⟨m1, m2, m3, m4⟩ := (mem_nb nd).mp q
    exact (mem_nb nd).mpr ⟨m2, m1, m3.symm, tie_sym.trans m4⟩
theorem few_ties {ps : List Str} {ts : List (Str × Str)} (nd : ps.Nodup) (h3 : 3 ≤ ps.length) (c : cutOf (nbOf (inSeq ps ts)) ps = none) : 3 ≤ (inSeq ps ts).length := by
  obtain ⟨v, a, r, rfl⟩ : ∃ v a r, ps = v :: a :: r := by
    match ps, h3 with
    | v :: a :: r, _ => exact ⟨v, a, r, rfl⟩
  have hv : v ∈ v :: a :: r := .head _
  have ha : a ∈ v :: a :: r := .tail _ (.head _)
  have va : v ≠ a := fun e => (List.nodup_cons.mp nd).1 (e ▸ .head _)
  obtain ⟨x, hx, xa, nx⟩ := nb_more nd h3 c hv ha va
  have vx : v ≠ x := ((mem_nb nd).mp nx).2.2.1.symm
  obtain ⟨y, hy, yx, ny⟩ := nb_more nd h3 c hv hx vx
  have vy : v ≠ y := ((mem_nb nd).mp ny).2.2.1.symm
  obtain ⟨m, hm, mv, nm⟩ := nb_more nd h3 c hx hv vx.symm
  have xm : x ≠ m := ((mem_nb nd).mp nm).2.2.1.symm
  have get : ∀ {p q : Str}, q ∈ nbOf (inSeq (v :: a :: r) ts) p → ∃ o, o ∈ inSeq (v :: a :: r) ts ∧ (o = (p, q) ∨ o = (q, p)) := fun h => by
    obtain ⟨m1, m2, m3, m4⟩ := (mem_nb nd).mp h
    obtain ⟨o, ho, eo⟩ := one_way m2 m1 m3.symm
    exact ⟨o, mem_seq.mpr ⟨ho, (tie_of eo).trans m4⟩, eo⟩
  obtain ⟨o1, h1, e1⟩ := get nx
  obtain ⟨o2, h2, e2⟩ := get ny
  obtain ⟨o3, h3', e3⟩ := get nm
  have l : [o1, o2, o3].length ≤ (inSeq (v :: a :: r) ts).length := len_sub (by
    refine List.nodup_cons.mpr ⟨fun z => ?_, List.nodup_cons.mpr ⟨fun z => ?_, List.nodup_cons.mpr ⟨fun z => (by cases z), .nil⟩⟩⟩
    · simp only [List.mem_cons, List.not_mem_nil, or_false] at z
      rcases z with z | z
      · rcases e1 with rfl | rfl <;> rcases e2 with rfl | rfl <;> simp_all
      · rcases e1 with rfl | rfl <;> rcases e3 with rfl | rfl <;> simp_all
    · simp only [List.mem_cons, List.not_mem_nil, or_false] at z
      rcases e2 with rfl | rfl <;> rcases e3 with rfl | rfl <;> simp_all) fun z hz => by
    simp only [List.mem_cons, List.not_mem_nil, or_false] at hz
    rcases hz with rfl | rfl | rfl <;> assumption
  exact l
end NetM
namespace NetM
open PySem L2 TL
/-- places, and ties in sequence -/
structure SeqOk (ps : List Str) (qs : List (Str × Str)) : Prop where
  nd : ps.Nodup
  h3 : 3 ≤ ps.length
  h16 : ps.length ≤ 16
  nm : ∀ z ∈ ps, isNm z = true
  sq : inSeq ps qs = qs
  most : qs.length ≤ 45
theorem SeqOk.inn {ps : List Str} {qs : List (Str × Str)} (S : SeqOk ps qs) : ∀ t ∈ qs, t.1 ∈ ps ∧ t.2 ∈ ps := fun t ht => by
  rw [← S.sq] at ht
  exact pairs_in (mem_seq.mp ht).1
theorem SeqOk.lore {ps : List Str} {qs : List (Str × Str)} (S : SeqOk ps qs) (c : cutOf (nbOf qs) ps = none) : LoreOk ps qs := by
  have c' : cutOf (nbOf (inSeq ps qs)) ps = none := by rw [S.sq]; exact c
  refine ⟨S.nd, S.h3, S.h16, S.nm, S.inn, ?_, ?_, S.most, c'⟩
  · have := seq_once (ts := qs) S.nd
    rw [S.sq] at this
    exact this
  · have := few_ties S.nd S.h3 c'
    rw [S.sq] at this
    exact this
theorem tl_inj : ∀ {x y : Str}, tl x = tl y → x = y
  | ⟨_⟩, ⟨_⟩, h => congrArg Str.mk (Array.toList_inj.mp h)
theorem app_assoc (a b c : Str) : a ++ b ++ c = a ++ (b ++ c) := tl_inj (by rw [tl_append, tl_append, tl_append, tl_append, List.append_assoc])
theorem cost_le (n : Nat) : ∀ l : List Str, (∀ z ∈ l, z.length ≤ n) → cost l ≤ (n + 1) * l.length
  | [], _ => Nat.zero_le _
  | p :: l, h => by
    have i := cost_le n l fun z hz => h z (.tail _ hz)
    have hp := h p (.head _)
    have e : (n + 1) * (l.length + 1) = (n + 1) * l.length + (n + 1) := Nat.mul_succ _ _
    rw [cost_cons, List.length_cons]
    omega
theorem len_app (x y : Str) : (x ++ y).length = x.length + y.length := by rw [len_tl, tl_append, List.length_append, ← len_tl, ← len_tl]
theorem line_cat (a b : Str) : ((Str.empty ++ ("tie " : Str)) ++ a ++ (" " : Str)) ++ b = lineOf (a, b) := by
  refine tl_inj ?_
  unfold lineOf
  rw [join_eq, tl_join, tl_append, tl_append, tl_append, tl_append]
  show _ = tl "tie" ++ (tl " " ++ (tl a ++ (tl " " ++ tl b)))
  rw [show tl Str.empty = [] by decide +kernel, show tl ("tie " : Str) = tl "tie" ++ tl " " by decide +kernel]
  simp only [List.nil_append, List.append_assoc]
theorem head_cat {ps : List Str} (ne : ps ≠ []) : ("places " : Str) ++ Txt.join " " ps = Txt.join " " ("places" :: ps) := by
  cases ps with
  | nil => exact absurd rfl ne
  | cons p r =>
    refine tl_inj ?_
    rw [join_eq, join_eq, tl_append, tl_join, tl_join]
    show _ = tl "places" ++ (tl " " ++ joinL (tl " ") ((p :: r).map tl))
    rw [show tl ("places " : Str) = tl "places" ++ tl " " by decide +kernel, List.append_assoc]
end NetM
namespace K05
open PySem L2 NetM PySem.Spec PyProof.Rows
section
variable {P : Program} {w : World} {K : PySem.W.Frag} {mg : Str → Option Value} {base : Heap} {ad : Adr}
theorem sc_net_of : FnScope ["places", "ties", "lines", "one", "other"] ["places", "ties"] (defScope s_net_of) := ⟨rfl, rfl, rfl, by decide +kernel, rfl, by decide +kernel, by decide +kernel⟩
def spNetOfTT (K : PySem.W.Frag) (ad : Adr) : Sp := fun vs H Q E => ∃ (a l : Addr) (ps : List Str) (qs : List (Str × Str)), vs = [.ref a, .ref l] ∧ SqT K H a (ps.map V.str) ∧ PairsT H l qs ∧ SeqOk ps qs ∧
  (∀ u, cutOf (nbOf qs) ps = some u → ∀ H' d, Same H H' → H' d = some (.xd [("value", u)]) → E (.ref ad.a_NotTied) (some d) H') ∧
  (cutOf (nbOf qs) ps = none → ∀ H' x, Same H H' → NetAt H' ad.a_Net x (textOf ps qs) ps qs → Q (.ref x) H')
theorem ok_net_ofTT {f fN : Addr} {fd fd1 fd2 fd3 : FuncData} (F : Fun K "net_of" "net_of" s_net_of f fd) (T : Txt K mg ad) (N : NetC K fN ad.a_Net)
    (G_Net : FnOk P w K mg base (L2.CX P w) 4 fN fd1 ["self", "text"] (spNetInit K ad)) (b_Net : Binds K fd1 ["self", "text"] [])
    (G_neighbours : FnOk P w K mg base CX0 1 ad.f_neighbours fd2 ["places", "ties"] (spNear K)) (b_neighbours : Binds K fd2 ["places", "ties"] [])
    (G_check_well_tied : FnOk P w K mg base (L2.CX P w) 3 ad.f_check_well_tied fd3 ["places", "near"] (spCheck K ad)) (b_check_well_tied : Binds K fd3 ["places", "near"] []) :
    FnOk P w K mg base (L2.CX P w) 6 f fd ["places", "ties"] (spNetOfTT K ad) := by
  refine F.okX sc_net_of (fun vs H Q E h => ?_) (fun cdv A outer s H vs Q E hr h => ?_)
  · obtain ⟨_, _, _, _, rfl, _⟩ := h
    rfl
  · obtain ⟨a, l, ps, qs, rfl, ha, hl, S, kE, kQ⟩ := h
    have h_neighbours := hr.mono (show 1 ≤ 5 by decide)
    have hr3 := hr.mono (show 3 ≤ 5 by decide)
    have hr4 := hr
    refine ⟨_, (pss_cons (ps_expr (pe_call G_check_well_tied hr3 (by rfl) T.m_check_well_tied T.k_check_well_tied b_check_well_tied .nil (passes_call (takes_of rfl rfl rfl rfl) fun _ _ _ _ h => h) (pa_cons (pv 0) (pa_cons (pe_call G_neighbours h_neighbours (by rfl) T.m_neighbours T.k_neighbours b_neighbours .nil pass0 (pa_cons (pv 0) (pa_cons (pv 1) pa_nil))) pa_nil))))
      (pss_cons (ps_set (i := 2) sc_net_of.nd rfl (Or.inl rfl) (pe_op op_cat (pe_lst (pa_cons (pe_op op_add_str pe_str (kJoin (K := K) pe_str (pv 0))) pa_nil)) (pe_lc (own := [("one", 3), ("other", 4)]) rfl sc_net_of.nd (kTupI (K := K) (pv 1)) (blkOk_by (N := ["places", "ties", "lines", "one", "other"]) (sc := defScope s_net_of) (by decide +kernel)) (fun _ _ _ _ _ => kTgt (K := K) (n := 2) (by rfl) (pgs_cons (pg_name (i := 3) sc_net_of.nd rfl (Or.inl rfl)) (pgs_cons (pg_name (i := 4) sc_net_of.nd rfl (Or.inl rfl)) pgs_nil))) (fun _ _ _ _ _ => pts_nil) (fun _ _ _ _ _ => (pe_joined (.cons pe_str (.cons (pe_fmt (pv 3)) (.cons pe_str (.cons (pe_fmt (pv 4)) .nil)))))))))
      (pss_one (ps_ret (pe_make N.mkN G_Net hr4 (by rfl) T.m_Net b_Net .nil (passes_call (takes_of rfl rfl rfl rfl) fun _ _ _ _ h => h) (pa_cons (kJoin (K := K) pe_str (pv 2)) pa_nil)))))), ?_⟩
    have h16 := S.h16
    have most := S.most
    have nn : ∀ y, (nbOf qs y).Nodup := fun y => by
      have q := nb_nodup (ties := qs) S.nd y
      rw [S.sq] at q
      exact q
    have nl : ∀ y, (nbOf qs y).length ≤ 100 := fun y => by
      have q := nb_len (ties := qs) S.nd y
      rw [S.sq] at q
      omega
    have hS : ∀ {H' : Hp}, Same H H' → SqT K H' a (ps.map V.str) := fun s => s.tup ha
    refine ⟨_, rfl, _, rfl, _, rfl, a, l, ps, qs, rfl, ha, hl, by omega, by omega, fun H1 d kvs s1 hd hv => ⟨a, d, ps, nbOf qs, rfl, .inr (hS s1), ⟨kvs, hd, fun y hy => ?_⟩, S.nd, S.h3, by omega, fun y _ => nl y, fun c H2 s2 => ?_, fun u c H2 d' s2 _ hd2 => kE u c H2 d' (Same.trans s1 s2) hd2⟩⟩
    · obtain ⟨u, e1, e2⟩ := hv y hy
      exact ⟨u, e1, e2, nn y⟩
    have s12 := Same.trans s1 s2
    have cp := cost_le 8 ps fun z hz => nm_len (S.nm z hz)
    have cj : (Txt.join " " ps).length ≤ 200 := Nat.le_trans (join_cost (y := " ") (s := 32) (by decide +kernel) _) (by omega)
    refine ⟨⟨_, rfl⟩, _, rfl, " ", a, ps, rfl, rfl, .inr (hS s12), join_ok (by decide +kernel) (Nat.le_trans cp (by omega)), ?_⟩
    refine ⟨_, _, rfl, rfl, ?_, ?_⟩
    · rw [show ("places " : Str).length = 7 by decide +kernel]
      exact Nat.le_trans (by omega : _ ≤ 1000) (by decide)
    rw [head_cat (fun e => by have := S.h3; rw [e] at this; exact absurd this (by decide))]
    refine ⟨by show 1 ≤ sizeLine; decide, fun c1 n1 => ?_⟩
    have f1 : upd H2 c1 (.lst [.str (Txt.join " " ("places" :: ps))]) c1 = some (.lst [.str (Txt.join " " ("places" :: ps))]) := upd_same
    have s3 := Same.trans s12 (same_new (o := .lst [.str (Txt.join " " ("places" :: ps))]) n1)
    generalize upd H2 c1 (.lst [.str (Txt.join " " ("places" :: ps))]) = H3 at f1 s3 ⊢
    obtain ⟨as, e0, r0⟩ := id hl
    have lal := Paired.length r0
    refine ⟨_, rfl, l, rfl, ⟨_, SqT.of (s3 _ _ e0)⟩, fun D nD => ?_⟩
    have l8 : ∀ z ∈ ps, z.length ≤ 8 := fun z hz => nm_len (S.nm z hz)
    refine lcB walk_tup (fun j Hd => Same H3 Hd ∧ Hd D = some (.lst (((qs.take j).map lineOf).map V.str))) ⟨same_new nD, upd_same⟩ (fun j Hd _ z => SqT.of (z.1 _ _ (s3 _ _ e0))) ?_ ?_
    · rintro j y Hd H' hj ⟨sd, hD⟩ ⟨rfl, hx⟩
      rw [List.length_map, lal] at hj
      obtain ⟨t, pq, rfl, hpq, pa⟩ := pair_at r0 hx
      have mt := S.inn pq (List.mem_of_getElem? hpq)
      have la := l8 _ mt.1
      have lb := l8 _ mt.2
      refine ⟨t, _, rfl, SqT.of (sd _ _ (s3 _ _ pa)), rfl, _, _, rfl, _, _, rfl, rfl, rfl, ?_⟩
      refine ⟨_, rfl, ?_, _, rfl, .inl ⟨_, rfl, ?_, _, rfl, ?_, _, rfl, ?_, _, rfl, .inl ⟨_, rfl, ?_, _, rfl, ?_, ?_⟩⟩⟩
      · exact Nat.le_trans (by decide +kernel : (Str.empty ++ ("tie " : Str)).length ≤ 10) (by decide)
      · exact Nat.le_trans la (by decide)
      · exact Nat.le_trans (by rw [len_app, show (Str.empty ++ ("tie " : Str)).length = 4 by decide +kernel]; omega : _ ≤ 100) (by decide)
      · exact Nat.le_trans (by rw [len_app, len_app, show (Str.empty ++ ("tie " : Str)).length = 4 by decide +kernel, show (" " : Str).length = 1 by decide +kernel]; omega : _ ≤ 100) (by decide)
      · exact Nat.le_trans lb (by decide)
      · exact Nat.le_trans (by rw [len_app, len_app, len_app, show (Str.empty ++ ("tie " : Str)).length = 4 by decide +kernel, show (" " : Str).length = 1 by decide +kernel]; omega : _ ≤ 100) (by decide)
      refine ⟨_, hD, ?_, fun b o eb => ?_, ?_⟩
      · rw [List.length_map, List.length_map, List.length_take]
        exact Nat.lt_of_le_of_lt (by omega : _ ≤ 100) (by decide)
      · rw [upd_ne (ne_of_none eb nD)]
        exact sd _ _ eb
      · rw [upd_same, take_more hpq, List.map_append, List.map_append, line_cat]
        rfl
    rintro H4 ⟨s4, hD⟩
    rw [List.length_map, lal, List.take_length] at hD
    have f4 := s4 _ _ f1
    refine ⟨c1, D, _, _, rfl, rfl, f4, hD, ?_, fun m nm => ?_⟩
    · rw [List.length_map, List.length_map]
      exact Nat.le_trans (by show 1 + qs.length ≤ 100; omega) (by decide)
    have s5 := Same.trans (Same.trans s3 s4) (same_new (o := .lst ([V.str (Txt.join " " ("places" :: ps))] ++ (qs.map lineOf).map V.str)) nm)
    have f5 : upd H4 m (.lst ([V.str (Txt.join " " ("places" :: ps))] ++ (qs.map lineOf).map V.str)) m = some (.lst ((Txt.join " " ("places" :: ps) :: qs.map lineOf).map V.str)) := upd_same
    generalize upd H4 m (.lst ([V.str (Txt.join " " ("places" :: ps))] ++ (qs.map lineOf).map V.str)) = H5 at s5 f5 ⊢
    have L := S.lore c
    have ll := cost_le 22 (qs.map lineOf) fun z hz => by
      obtain ⟨t, ht, rfl⟩ := List.mem_map.mp hz
      refine Nat.le_trans (join_cost (y := " ") (s := 32) (by decide +kernel) _) ?_
      have := l8 _ (S.inn t ht).1
      have := l8 _ (S.inn t ht).2
      rw [cost_cons, cost_cons, cost_cons, cost_nil, show ("tie" : Str).length = 3 by decide +kernel]
      omega
    rw [List.length_map] at ll
    have j1 : (Txt.join " " ("places" :: ps)).length ≤ 200 := by
      refine Nat.le_trans (join_cost (y := " ") (s := 32) (by decide +kernel) _) ?_
      rw [cost_cons, show ("places" : Str).length = 6 by decide +kernel]
      omega
    refine ⟨⟨_, rfl⟩, _, rfl, "\n", m, _, rfl, rfl, .inl (SqL.of f5), join_ok (by decide +kernel) (by rw [cost_cons]; omega), fun x dx nx ndx ne => ⟨x, dx, _, rfl, upd_same, .inr ⟨_, rfl, Nat.le_trans (text_short L L.l8) (by decide), fun n hn => ?_, fun ps' ties' ok' => ?_⟩⟩⟩
    · exact (ok_noErr hn (lore_net L)).elim
    · obtain ⟨rfl, rfl⟩ := ok_only (lore_net L) ok'
      rw [S.sq]
      refine ⟨fun u cu => ?_, fun cn H' sb net => ⟨rfl, kQ c H' x (fun b o e => ?_) net⟩⟩
      · rw [c] at cu
        cases cu
      · have e5 := s5 _ _ e
        refine sb b o (ne_of_none e5 nx) ?_
        rw [upd_ne (ne_of_none e5 nx), upd_ne (ne_of_none e5 ndx)]
        exact e5
def spNetOfTL (K : PySem.W.Frag) (ad : Adr) : Sp := fun vs H Q E => ∃ (a l : Addr) (ps : List Str) (qs : List (Str × Str)), vs = [.ref a, .ref l] ∧ SqT K H a (ps.map V.str) ∧ PairsL H l qs ∧ SeqOk ps qs ∧
  (∀ u, cutOf (nbOf qs) ps = some u → ∀ H' d, Same H H' → H' d = some (.xd [("value", u)]) → E (.ref ad.a_NotTied) (some d) H') ∧
  (cutOf (nbOf qs) ps = none → ∀ H' x, Same H H' → NetAt H' ad.a_Net x (textOf ps qs) ps qs → Q (.ref x) H')
theorem ok_net_ofTL {f fN : Addr} {fd fd1 fd2 fd3 : FuncData} (F : Fun K "net_of" "net_of" s_net_of f fd) (T : Txt K mg ad) (N : NetC K fN ad.a_Net)
    (G_Net : FnOk P w K mg base (L2.CX P w) 4 fN fd1 ["self", "text"] (spNetInit K ad)) (b_Net : Binds K fd1 ["self", "text"] [])
    (G_neighbours : FnOk P w K mg base CX0 1 ad.f_neighbours fd2 ["places", "ties"] (spNearTL K)) (b_neighbours : Binds K fd2 ["places", "ties"] [])
    (G_check_well_tied : FnOk P w K mg base (L2.CX P w) 3 ad.f_check_well_tied fd3 ["places", "near"] (spCheck K ad)) (b_check_well_tied : Binds K fd3 ["places", "near"] []) :
    FnOk P w K mg base (L2.CX P w) 6 f fd ["places", "ties"] (spNetOfTL K ad) := by
  refine F.okX sc_net_of (fun vs H Q E h => ?_) (fun cdv A outer s H vs Q E hr h => ?_)
  · obtain ⟨_, _, _, _, rfl, _⟩ := h
    rfl
  · obtain ⟨a, l, ps, qs, rfl, ha, hl, S, kE, kQ⟩ := h
    have h_neighbours := hr.mono (show 1 ≤ 5 by decide)
    have hr3 := hr.mono (show 3 ≤ 5 by decide)
    have hr4 := hr
    refine ⟨_, (pss_cons (ps_expr (pe_call G_check_well_tied hr3 (by rfl) T.m_check_well_tied T.k_check_well_tied b_check_well_tied .nil (passes_call (takes_of rfl rfl rfl rfl) fun _ _ _ _ h => h) (pa_cons (pv 0) (pa_cons (pe_call G_neighbours h_neighbours (by rfl) T.m_neighbours T.k_neighbours b_neighbours .nil pass0 (pa_cons (pv 0) (pa_cons (pv 1) pa_nil))) pa_nil))))
      (pss_cons (ps_set (i := 2) sc_net_of.nd rfl (Or.inl rfl) (pe_op op_cat (pe_lst (pa_cons (pe_op op_add_str pe_str (kJoin (K := K) pe_str (pv 0))) pa_nil)) (pe_lc (own := [("one", 3), ("other", 4)]) rfl sc_net_of.nd (kLstI (K := K) (pv 1)) (blkOk_by (N := ["places", "ties", "lines", "one", "other"]) (sc := defScope s_net_of) (by decide +kernel)) (fun _ _ _ _ _ => kTgt (K := K) (n := 2) (by rfl) (pgs_cons (pg_name (i := 3) sc_net_of.nd rfl (Or.inl rfl)) (pgs_cons (pg_name (i := 4) sc_net_of.nd rfl (Or.inl rfl)) pgs_nil))) (fun _ _ _ _ _ => pts_nil) (fun _ _ _ _ _ => (pe_joined (.cons pe_str (.cons (pe_fmt (pv 3)) (.cons pe_str (.cons (pe_fmt (pv 4)) .nil)))))))))
      (pss_one (ps_ret (pe_make N.mkN G_Net hr4 (by rfl) T.m_Net b_Net .nil (passes_call (takes_of rfl rfl rfl rfl) fun _ _ _ _ h => h) (pa_cons (kJoin (K := K) pe_str (pv 2)) pa_nil)))))), ?_⟩
    have h16 := S.h16
    have most := S.most
    have nn : ∀ y, (nbOf qs y).Nodup := fun y => by
      have q := nb_nodup (ties := qs) S.nd y
      rw [S.sq] at q
      exact q
    have nl : ∀ y, (nbOf qs y).length ≤ 100 := fun y => by
      have q := nb_len (ties := qs) S.nd y
      rw [S.sq] at q
      omega
    have hS : ∀ {H' : Hp}, Same H H' → SqT K H' a (ps.map V.str) := fun s => s.tup ha
    refine ⟨_, rfl, _, rfl, _, rfl, a, l, ps, qs, rfl, ha, hl, by omega, by omega, fun H1 d kvs s1 hd hv => ⟨a, d, ps, nbOf qs, rfl, .inr (hS s1), ⟨kvs, hd, fun y hy => ?_⟩, S.nd, S.h3, by omega, fun y _ => nl y, fun c H2 s2 => ?_, fun u c H2 d' s2 _ hd2 => kE u c H2 d' (Same.trans s1 s2) hd2⟩⟩
    · obtain ⟨u, e1, e2⟩ := hv y hy
      exact ⟨u, e1, e2, nn y⟩
    have s12 := Same.trans s1 s2
    have cp := cost_le 8 ps fun z hz => nm_len (S.nm z hz)
    have cj : (Txt.join " " ps).length ≤ 200 := Nat.le_trans (join_cost (y := " ") (s := 32) (by decide +kernel) _) (by omega)
    refine ⟨⟨_, rfl⟩, _, rfl, " ", a, ps, rfl, rfl, .inr (hS s12), join_ok (by decide +kernel) (Nat.le_trans cp (by omega)), ?_⟩
    refine ⟨_, _, rfl, rfl, ?_, ?_⟩
    · rw [show ("places " : Str).length = 7 by decide +kernel]
      exact Nat.le_trans (by omega : _ ≤ 1000) (by decide)
    rw [head_cat (fun e => by have := S.h3; rw [e] at this; exact absurd this (by decide))]
    refine ⟨by show 1 ≤ sizeLine; decide, fun c1 n1 => ?_⟩
    have f1 : upd H2 c1 (.lst [.str (Txt.join " " ("places" :: ps))]) c1 = some (.lst [.str (Txt.join " " ("places" :: ps))]) := upd_same
    have s3 := Same.trans s12 (same_new (o := .lst [.str (Txt.join " " ("places" :: ps))]) n1)
    generalize upd H2 c1 (.lst [.str (Txt.join " " ("places" :: ps))]) = H3 at f1 s3 ⊢
    obtain ⟨as, e0, r0⟩ := id hl
    have lal := Paired.length r0
    refine ⟨_, rfl, l, rfl, ⟨_, SqL.of (s3 _ _ e0)⟩, fun D nD => ?_⟩
    have l8 : ∀ z ∈ ps, z.length ≤ 8 := fun z hz => nm_len (S.nm z hz)
    refine lcB walk_list (fun j Hd => Same H3 Hd ∧ Hd D = some (.lst (((qs.take j).map lineOf).map V.str))) ⟨same_new nD, upd_same⟩ (fun j Hd _ z => SqL.of (z.1 _ _ (s3 _ _ e0))) ?_ ?_
    · rintro j y Hd H' hj ⟨sd, hD⟩ ⟨rfl, hx⟩
      rw [List.length_map, lal] at hj
      obtain ⟨t, pq, rfl, hpq, pa⟩ := pair_at r0 hx
      have mt := S.inn pq (List.mem_of_getElem? hpq)
      have la := l8 _ mt.1
      have lb := l8 _ mt.2
      refine ⟨t, _, rfl, SqT.of (sd _ _ (s3 _ _ pa)), rfl, _, _, rfl, _, _, rfl, rfl, rfl, ?_⟩
      refine ⟨_, rfl, ?_, _, rfl, .inl ⟨_, rfl, ?_, _, rfl, ?_, _, rfl, ?_, _, rfl, .inl ⟨_, rfl, ?_, _, rfl, ?_, ?_⟩⟩⟩
      · exact Nat.le_trans (by decide +kernel : (Str.empty ++ ("tie " : Str)).length ≤ 10) (by decide)
      · exact Nat.le_trans la (by decide)
      · exact Nat.le_trans (by rw [len_app, show (Str.empty ++ ("tie " : Str)).length = 4 by decide +kernel]; omega : _ ≤ 100) (by decide)
      · exact Nat.le_trans (by rw [len_app, len_app, show (Str.empty ++ ("tie " : Str)).length = 4 by decide +kernel, show (" " : Str).length = 1 by decide +kernel]; omega : _ ≤ 100) (by decide)
      · exact Nat.le_trans lb (by decide)
      · exact Nat.le_trans (by rw [len_app, len_app, len_app, show (Str.empty ++ ("tie " : Str)).length = 4 by decide +kernel, show (" " : Str).length = 1 by decide +kernel]; omega : _ ≤ 100) (by decide)
      refine ⟨_, hD, ?_, fun b o eb => ?_, ?_⟩
      · rw [List.length_map, List.length_map, List.length_take]
        exact Nat.lt_of_le_of_lt (by omega : _ ≤ 100) (by decide)
      · rw [upd_ne (ne_of_none eb nD)]
        exact sd _ _ eb
      · rw [upd_same, take_more hpq, List.map_append, List.map_append, line_cat]
        rfl
    rintro H4 ⟨s4, hD⟩
    rw [List.length_map, lal, List.take_length] at hD
    have f4 := s4 _ _ f1
    refine ⟨c1, D, _, _, rfl, rfl, f4, hD, ?_, fun m nm => ?_⟩
    · rw [List.length_map, List.length_map]
      exact Nat.le_trans (by show 1 + qs.length ≤ 100; omega) (by decide)
    have s5 := Same.trans (Same.trans s3 s4) (same_new (o := .lst ([V.str (Txt.join " " ("places" :: ps))] ++ (qs.map lineOf).map V.str)) nm)
    have f5 : upd H4 m (.lst ([V.str (Txt.join " " ("places" :: ps))] ++ (qs.map lineOf).map V.str)) m = some (.lst ((Txt.join " " ("places" :: ps) :: qs.map lineOf).map V.str)) := upd_same
    generalize upd H4 m (.lst ([V.str (Txt.join " " ("places" :: ps))] ++ (qs.map lineOf).map V.str)) = H5 at s5 f5 ⊢
    have L := S.lore c
    have ll := cost_le 22 (qs.map lineOf) fun z hz => by
      obtain ⟨t, ht, rfl⟩ := List.mem_map.mp hz
      refine Nat.le_trans (join_cost (y := " ") (s := 32) (by decide +kernel) _) ?_
      have := l8 _ (S.inn t ht).1
      have := l8 _ (S.inn t ht).2
      rw [cost_cons, cost_cons, cost_cons, cost_nil, show ("tie" : Str).length = 3 by decide +kernel]
      omega
    rw [List.length_map] at ll
    have j1 : (Txt.join " " ("places" :: ps)).length ≤ 200 := by
      refine Nat.le_trans (join_cost (y := " ") (s := 32) (by decide +kernel) _) ?_
      rw [cost_cons, show ("places" : Str).length = 6 by decide +kernel]
      omega
    refine ⟨⟨_, rfl⟩, _, rfl, "\n", m, _, rfl, rfl, .inl (SqL.of f5), join_ok (by decide +kernel) (by rw [cost_cons]; omega), fun x dx nx ndx ne => ⟨x, dx, _, rfl, upd_same, .inr ⟨_, rfl, Nat.le_trans (text_short L L.l8) (by decide), fun n hn => ?_, fun ps' ties' ok' => ?_⟩⟩⟩
    · exact (ok_noErr hn (lore_net L)).elim
    · obtain ⟨rfl, rfl⟩ := ok_only (lore_net L) ok'
      rw [S.sq]
      refine ⟨fun u cu => ?_, fun cn H' sb net => ⟨rfl, kQ c H' x (fun b o e => ?_) net⟩⟩
      · rw [c] at cu
        cases cu
      · have e5 := s5 _ _ e
        refine sb b o (ne_of_none e5 nx) ?_
        rw [upd_ne (ne_of_none e5 nx), upd_ne (ne_of_none e5 ndx)]
        exact e5
def spNetOfLL (K : PySem.W.Frag) (ad : Adr) : Sp := fun vs H Q E => ∃ (a l : Addr) (ps : List Str) (qs : List (Str × Str)), vs = [.ref a, .ref l] ∧ SqL K H a (ps.map V.str) ∧ PairsL H l qs ∧ SeqOk ps qs ∧
  (∀ u, cutOf (nbOf qs) ps = some u → ∀ H' d, Same H H' → H' d = some (.xd [("value", u)]) → E (.ref ad.a_NotTied) (some d) H') ∧
  (cutOf (nbOf qs) ps = none → ∀ H' x, Same H H' → NetAt H' ad.a_Net x (textOf ps qs) ps qs → Q (.ref x) H')
theorem ok_net_ofLL {f fN : Addr} {fd fd1 fd2 fd3 : FuncData} (F : Fun K "net_of" "net_of" s_net_of f fd) (T : Txt K mg ad) (N : NetC K fN ad.a_Net)
    (G_Net : FnOk P w K mg base (L2.CX P w) 4 fN fd1 ["self", "text"] (spNetInit K ad)) (b_Net : Binds K fd1 ["self", "text"] [])
    (G_neighbours : FnOk P w K mg base CX0 1 ad.f_neighbours fd2 ["places", "ties"] (spNearLL K)) (b_neighbours : Binds K fd2 ["places", "ties"] [])
    (G_check_well_tied : FnOk P w K mg base (L2.CX P w) 3 ad.f_check_well_tied fd3 ["places", "near"] (spCheck K ad)) (b_check_well_tied : Binds K fd3 ["places", "near"] []) :
    FnOk P w K mg base (L2.CX P w) 6 f fd ["places", "ties"] (spNetOfLL K ad) := by
  refine F.okX sc_net_of (fun vs H Q E h => ?_) (fun cdv A outer s H vs Q E hr h => ?_)
  · obtain ⟨_, _, _, _, rfl, _⟩ := h
    rfl
  · obtain ⟨a, l, ps, qs, rfl, ha, hl, S, kE, kQ⟩ := h
    have h_neighbours := hr.mono (show 1 ≤ 5 by decide)
    have hr3 := hr.mono (show 3 ≤ 5 by decide)
    have hr4 := hr
    refine ⟨_, (pss_cons (ps_expr (pe_call G_check_well_tied hr3 (by rfl) T.m_check_well_tied T.k_check_well_tied b_check_well_tied .nil (passes_call (takes_of rfl rfl rfl rfl) fun _ _ _ _ h => h) (pa_cons (pv 0) (pa_cons (pe_call G_neighbours h_neighbours (by rfl) T.m_neighbours T.k_neighbours b_neighbours .nil pass0 (pa_cons (pv 0) (pa_cons (pv 1) pa_nil))) pa_nil))))
      (pss_cons (ps_set (i := 2) sc_net_of.nd rfl (Or.inl rfl) (pe_op op_cat (pe_lst (pa_cons (pe_op op_add_str pe_str (kJoin (K := K) pe_str (pv 0))) pa_nil)) (pe_lc (own := [("one", 3), ("other", 4)]) rfl sc_net_of.nd (kLstI (K := K) (pv 1)) (blkOk_by (N := ["places", "ties", "lines", "one", "other"]) (sc := defScope s_net_of) (by decide +kernel)) (fun _ _ _ _ _ => kTgt (K := K) (n := 2) (by rfl) (pgs_cons (pg_name (i := 3) sc_net_of.nd rfl (Or.inl rfl)) (pgs_cons (pg_name (i := 4) sc_net_of.nd rfl (Or.inl rfl)) pgs_nil))) (fun _ _ _ _ _ => pts_nil) (fun _ _ _ _ _ => (pe_joined (.cons pe_str (.cons (pe_fmt (pv 3)) (.cons pe_str (.cons (pe_fmt (pv 4)) .nil)))))))))
      (pss_one (ps_ret (pe_make N.mkN G_Net hr4 (by rfl) T.m_Net b_Net .nil (passes_call (takes_of rfl rfl rfl rfl) fun _ _ _ _ h => h) (pa_cons (kJoin (K := K) pe_str (pv 2)) pa_nil)))))), ?_⟩
    have h16 := S.h16
    have most := S.most
    have nn : ∀ y, (nbOf qs y).Nodup := fun y => by
      have q := nb_nodup (ties := qs) S.nd y
      rw [S.sq] at q
      exact q
    have nl : ∀ y, (nbOf qs y).length ≤ 100 := fun y => by
      have q := nb_len (ties := qs) S.nd y
      rw [S.sq] at q
      omega
    have hS : ∀ {H' : Hp}, Same H H' → SqL K H' a (ps.map V.str) := fun s => s.seq ha
    refine ⟨_, rfl, _, rfl, _, rfl, a, l, ps, qs, rfl, ha, hl, by omega, by omega, fun H1 d kvs s1 hd hv => ⟨a, d, ps, nbOf qs, rfl, .inl (hS s1), ⟨kvs, hd, fun y hy => ?_⟩, S.nd, S.h3, by omega, fun y _ => nl y, fun c H2 s2 => ?_, fun u c H2 d' s2 _ hd2 => kE u c H2 d' (Same.trans s1 s2) hd2⟩⟩
    · obtain ⟨u, e1, e2⟩ := hv y hy
      exact ⟨u, e1, e2, nn y⟩
    have s12 := Same.trans s1 s2
    have cp := cost_le 8 ps fun z hz => nm_len (S.nm z hz)
    have cj : (Txt.join " " ps).length ≤ 200 := Nat.le_trans (join_cost (y := " ") (s := 32) (by decide +kernel) _) (by omega)
    refine ⟨⟨_, rfl⟩, _, rfl, " ", a, ps, rfl, rfl, .inl (hS s12), join_ok (by decide +kernel) (Nat.le_trans cp (by omega)), ?_⟩
    refine ⟨_, _, rfl, rfl, ?_, ?_⟩
    · rw [show ("places " : Str).length = 7 by decide +kernel]
      exact Nat.le_trans (by omega : _ ≤ 1000) (by decide)
    rw [head_cat (fun e => by have := S.h3; rw [e] at this; exact absurd this (by decide))]
    refine ⟨by show 1 ≤ sizeLine; decide, fun c1 n1 => ?_⟩
    have f1 : upd H2 c1 (.lst [.str (Txt.join " " ("places" :: ps))]) c1 = some (.lst [.str (Txt.join " " ("places" :: ps))]) := upd_same
    have s3 := Same.trans s12 (same_new (o := .lst [.str (Txt.join " " ("places" :: ps))]) n1)
    generalize upd H2 c1 (.lst [.str (Txt.join " " ("places" :: ps))]) = H3 at f1 s3 ⊢
    obtain ⟨as, e0, r0⟩ := id hl
    have lal := Paired.length r0
    refine ⟨_, rfl, l, rfl, ⟨_, SqL.of (s3 _ _ e0)⟩, fun D nD => ?_⟩
    have l8 : ∀ z ∈ ps, z.length ≤ 8 := fun z hz => nm_len (S.nm z hz)
    refine lcB walk_list (fun j Hd => Same H3 Hd ∧ Hd D = some (.lst (((qs.take j).map lineOf).map V.str))) ⟨same_new nD, upd_same⟩ (fun j Hd _ z => SqL.of (z.1 _ _ (s3 _ _ e0))) ?_ ?_
    · rintro j y Hd H' hj ⟨sd, hD⟩ ⟨rfl, hx⟩
      rw [List.length_map, lal] at hj
      obtain ⟨t, pq, rfl, hpq, pa⟩ := pair_at r0 hx
      have mt := S.inn pq (List.mem_of_getElem? hpq)
      have la := l8 _ mt.1
      have lb := l8 _ mt.2
      refine ⟨t, _, rfl, SqT.of (sd _ _ (s3 _ _ pa)), rfl, _, _, rfl, _, _, rfl, rfl, rfl, ?_⟩
      refine ⟨_, rfl, ?_, _, rfl, .inl ⟨_, rfl, ?_, _, rfl, ?_, _, rfl, ?_, _, rfl, .inl ⟨_, rfl, ?_, _, rfl, ?_, ?_⟩⟩⟩
      · exact Nat.le_trans (by decide +kernel : (Str.empty ++ ("tie " : Str)).length ≤ 10) (by decide)
      · exact Nat.le_trans la (by decide)
      · exact Nat.le_trans (by rw [len_app, show (Str.empty ++ ("tie " : Str)).length = 4 by decide +kernel]; omega : _ ≤ 100) (by decide)
      · exact Nat.le_trans (by rw [len_app, len_app, show (Str.empty ++ ("tie " : Str)).length = 4 by decide +kernel, show (" " : Str).length = 1 by decide +kernel]; omega : _ ≤ 100) (by decide)
      · exact Nat.le_trans lb (by decide)
      · exact Nat.le_trans (by rw [len_app, len_app, len_app, show (Str.empty ++ ("tie " : Str)).length = 4 by decide +kernel, show (" " : Str).length = 1 by decide +kernel]; omega : _ ≤ 100) (by decide)
      refine ⟨_, hD, ?_, fun b o eb => ?_, ?_⟩
      · rw [List.length_map, List.length_map, List.length_take]
        exact Nat.lt_of_le_of_lt (by omega : _ ≤ 100) (by decide)
      · rw [upd_ne (ne_of_none eb nD)]
        exact sd _ _ eb
      · rw [upd_same, take_more hpq, List.map_append, List.map_append, line_cat]
        rfl
    rintro H4 ⟨s4, hD⟩
    rw [List.length_map, lal, List.take_length] at hD
    have f4 := s4 _ _ f1
    refine ⟨c1, D, _, _, rfl, rfl, f4, hD, ?_, fun m nm => ?_⟩
    · rw [List.length_map, List.length_map]
      exact Nat.le_trans (by show 1 + qs.length ≤ 100; omega) (by decide)
    have s5 := Same.trans (Same.trans s3 s4) (same_new (o := .lst ([V.str (Txt.join " " ("places" :: ps))] ++ (qs.map lineOf).map V.str)) nm)
    have f5 : upd H4 m (.lst ([V.str (Txt.join " " ("places" :: ps))] ++ (qs.map lineOf).map V.str)) m = some (.lst ((Txt.join " " ("places" :: ps) :: qs.map lineOf).map V.str)) := upd_same
    generalize upd H4 m (.lst ([V.str (Txt.join " " ("places" :: ps))] ++ (qs.map lineOf).map V.str)) = H5 at s5 f5 ⊢
    have L := S.lore c
    have ll := cost_le 22 (qs.map lineOf) fun z hz => by
      obtain ⟨t, ht, rfl⟩ := List.mem_map.mp hz
      refine Nat.le_trans (join_cost (y := " ") (s := 32) (by decide +kernel) _) ?_
      have := l8 _ (S.inn t ht).1
      have := l8 _ (S.inn t ht).2
      rw [cost_cons, cost_cons, cost_cons, cost_nil, show ("tie" : Str).length = 3 by decide +kernel]
      omega
    rw [List.length_map] at ll
    have j1 : (Txt.join " " ("places" :: ps)).length ≤ 200 := by
      refine Nat.le_trans (join_cost (y := " ") (s := 32) (by decide +kernel) _) ?_
      rw [cost_cons, show ("places" : Str).length = 6 by decide +kernel]
      omega
    refine ⟨⟨_, rfl⟩, _, rfl, "\n", m, _, rfl, rfl, .inl (SqL.of f5), join_ok (by decide +kernel) (by rw [cost_cons]; omega), fun x dx nx ndx ne => ⟨x, dx, _, rfl, upd_same, .inr ⟨_, rfl, Nat.le_trans (text_short L L.l8) (by decide), fun n hn => ?_, fun ps' ties' ok' => ?_⟩⟩⟩
    · exact (ok_noErr hn (lore_net L)).elim
    · obtain ⟨rfl, rfl⟩ := ok_only (lore_net L) ok'
      rw [S.sq]
      refine ⟨fun u cu => ?_, fun cn H' sb net => ⟨rfl, kQ c H' x (fun b o e => ?_) net⟩⟩
      · rw [c] at cu
        cases cu
      · have e5 := s5 _ _ e
        refine sb b o (ne_of_none e5 nx) ?_
        rw [upd_ne (ne_of_none e5 nx), upd_ne (ne_of_none e5 ndx)]
        exact e5
end
end K05
namespace L2
open PySem PySem.Spec PyProof.Rows
/-- a datum that is not in a tuple of data -/
def rNotInTD (K : PySem.W.Frag) : R2 := fun x y H Q => ∃ d ds, Dp K H x d ∧ Dp K H y (.tuple ds) ∧ SeqAt.shaped d = true ∧ SeqAt.shaped (.tuple ds) = true ∧ Q (.bl (!ds.any fun z => PyData.eqv z d)) H
theorem op_notInTD {X : Cx} (hu : X.A.units + 65 < cLine) : OpR X (compareOp .NotIn) (rNotInTD X.K) := by
  rintro pins s σ H x y v u Q I rx ry ⟨d, ds, hd, he, sd, se, q⟩
  obtain ⟨_, r1⟩ := Dp.reads I d x v hd rx
  obtain ⟨_, r2⟩ := Dp.reads I (.tuple ds) y u he ry
  exact SeqAt.notIn_tuple_reads r2 r1 (SeqAt.canLay_of_shaped se) (SeqAt.canLay_of_shaped sd) (room_in_shaped sd hu) ⟨.bl _, H, I, rfl, q⟩
theorem kNotInTD {X : Cx} {K : PySem.W.Frag} (hu : X.A.units + 65 < cLine) (h : X.K = K := by rfl) : OpR X (compareOp .NotIn) (rNotInTD K) := by
  subst h
  exact op_notInTD hu
theorem dp_pairsT {K : PySem.W.Frag} {H : Hp} {l : Addr} {ps : List (Str × Str)} (h : PairsT H l ps) : Dp K H (.ref l) (.tuple (ps.map pD)) :=
  let ⟨_, e, r⟩ := h
  .tup (SqT.of e) (dp_pairs r)
theorem pDsT_shaped {ps : List (Str × Str)} (ok : ps.all okP = true) : SeqAt.shaped (.tuple (ps.map pD)) = true := by
  have h := pDs_depth ps
  unfold SeqAt.shaped
  rw [Bool.and_eq_true, decide_eq_true_eq]
  refine ⟨by simp [PyData.canLay0, pDs_lay ps ok], ?_⟩
  simp only [PyData.depth]
  omega
end L2
namespace NetM
open PySem L2
theorem SeqOk.add {ps : List Str} {qs : List (Str × Str)} (S : SeqOk ps qs) {a b : Str} (ha : a ∈ ps) (hb : b ∈ ps) (ne : a ≠ b) (no : tieIn qs (a, b) = false) (l : qs.length < 45) : SeqOk ps (inSeq ps (qs ++ [(a, b)])) := by
  refine ⟨S.nd, S.h3, S.h16, S.nm, seq_idem S.nd, ?_⟩
  rw [seq_more S.nd ha hb ne no, S.sq]
  exact l
theorem SeqOk.add_cut {ps : List Str} {qs : List (Str × Str)} (S : SeqOk ps qs) (t : Str × Str) (c : cutOf (nbOf qs) ps = none) : cutOf (nbOf (inSeq ps (qs ++ [t]))) ps = none := by
  have c' : cutOf (nbOf (inSeq ps qs)) ps = none := by rw [S.sq]; exact c
  refine cut_mono S.nd (Nat.le_trans (by decide) S.h3) (fun y _ z _ h => ?_) c'
  obtain ⟨h1, h2, h3, h4⟩ := (mem_nb S.nd).mp h
  exact (mem_nb S.nd).mpr ⟨h1, h2, h3, by rw [tie_app, h4]; rfl⟩
theorem SeqOk.free {ps : List Str} {qs : List (Str × Str)} (S : SeqOk ps qs) {a b : Str} (ha : a ∈ ps) (hb : b ∈ ps) (ne : a ≠ b) : decide (b ∈ nbOf qs a) = tieIn qs (a, b) := by
  have e : b ∈ nbOf (inSeq ps qs) a ↔ _ := mem_nb S.nd
  rw [S.sq] at e
  rw [Bool.eq_iff_iff, decide_eq_true_iff, e]
  exact ⟨fun h => h.2.2.2, fun h => ⟨hb, ha, ne.symm, h⟩⟩
theorem SeqOk.okps {ps : List Str} {qs : List (Str × Str)} (S : SeqOk ps qs) : ps.all PyData.strOk = true := List.all_eq_true.mpr fun z hz => nm_ok (S.nm z hz)
theorem SeqOk.okqs {ps : List Str} {qs : List (Str × Str)} (S : SeqOk ps qs) : qs.all okP = true := List.all_eq_true.mpr fun t ht => by
  unfold okP
  rw [nm_ok (S.nm _ (S.inn t ht).1), nm_ok (S.nm _ (S.inn t ht).2)]
  rfl
theorem pairs_oth (a : Str) : ∀ ps : List Str, pairsAll (oth ps a) = (pairsAll ps).filter fun p => !decide (a ∈ [p.1, p.2])
  | [] => rfl
  | x :: r => by
    have ih := pairs_oth a r
    have e : ∀ (y : Str), (!decide (V.str y = V.str a)) = !decide (y = a) := fun y => by
      by_cases h : y = a
      · rw [decide_eq_true h, decide_eq_true (congrArg V.str h)]
      · rw [decide_eq_false h, decide_eq_false fun z => h (V.str.inj z)]
    rw [pairsAll_cons, List.filter_append, ← ih]
    unfold oth
    rw [List.filter_cons, e, List.filter_map]
    by_cases h : x = a
    · subst h
      rw [if_neg (by simp)]
      rw [show List.filter ((fun p : Str × Str => !decide (x ∈ [p.1, p.2])) ∘ fun o => (x, o)) r = [] from List.filter_eq_nil_iff.mpr fun o _ => by simp]
      rfl
    · rw [if_pos (by simp [h]), pairsAll_cons]
      congr 2
      refine List.filter_congr fun o _ => ?_
      rw [e]
      have h' : ¬ a = x := fun z => h z.symm
      by_cases q : o = a
      · subst q
        simp
      · have q' : ¬ a = o := fun z => q z.symm
        simp [q, q', h']
theorem SeqOk.less {ps : List Str} {qs : List (Str × Str)} (S : SeqOk ps qs) {a : Str} (ha : a ∈ ps) (h4 : 4 ≤ ps.length) : SeqOk (oth ps a) (qs.filter fun p => !decide (a ∈ [p.1, p.2])) := by
  have ln : ps.length ≤ (a :: oth ps a).length := len_sub S.nd fun z hz => by
    by_cases q : z = a
    · exact q ▸ .head _
    · exact .tail _ (oth_mem.mpr ⟨hz, q⟩)
  rw [List.length_cons] at ln
  refine ⟨S.nd.filter _, by omega, Nat.le_trans (List.length_filter_le _ _) S.h16, fun z hz => S.nm z (oth_mem.mp hz).1, ?_, Nat.le_trans (List.length_filter_le _ _) S.most⟩
  have sq := S.sq
  show (pairsAll (oth ps a)).filter _ = _
  rw [pairs_oth, List.filter_filter]
  have e : qs.filter (fun p => !decide (a ∈ [p.1, p.2])) = (pairsAll ps).filter fun p => (!decide (a ∈ [p.1, p.2])) && tieIn qs p := by
    rw [← List.filter_filter]
    exact congrArg _ sq.symm
  rw [e]
  refine List.filter_congr fun p hp => ?_
  rw [← e]
  have np : (p.2, p.1) ∉ pairsAll ps := fun z => pairs_anti S.nd hp z
  have mq : ∀ t ∈ qs, t ∈ pairsAll ps := fun t ht => by
    rw [← sq] at ht
    exact (mem_seq.mp ht).1
  rw [Bool.eq_iff_iff, Bool.and_eq_true, Bool.and_eq_true, tieIn_iff, tieIn_iff]
  constructor
  · rintro ⟨q | q, r⟩
    · exact ⟨r, .inl (List.mem_filter.mp q).1⟩
    · exact absurd (mq _ (List.mem_filter.mp q).1) np
  · rintro ⟨r, q | q⟩
    · exact ⟨.inl (List.mem_filter.mpr ⟨q, r⟩), r⟩
    · exact absurd (mq _ q) np
theorem SeqOk.cut {ps : List Str} {qs : List (Str × Str)} (S : SeqOk ps qs) (f : Str × Str → Bool) : SeqOk ps (qs.filter f) := by
  have e := seq_filter (ts := qs) (f := f) S.nd
  rw [S.sq] at e
  exact ⟨S.nd, S.h3, S.h16, S.nm, e, Nat.le_trans (List.length_filter_le _ _) S.most⟩
end NetM
namespace K05
open PySem L2 NetM PySem.Spec PyProof.Rows
section
variable {P : Program} {w : World} {K : PySem.W.Frag} {mg : Str → Option Value} {base : Heap} {ad : Adr}
theorem sc_Net___add__ : FnScope ["self", "other"] ["self", "other"] (defScope s_Net___add__) := ⟨rfl, rfl, rfl, by decide +kernel, rfl, by decide +kernel, by decide +kernel⟩
/-- net + tie, a tie that the net does not have, and that there is room for -/
def spAdd (ad : Adr) : Sp := fun vs H Q _ => ∃ (x t : Addr) (a b z : Str) (ps : List Str) (qs : List (Str × Str)), vs = [.ref x, .ref t] ∧ NetAt H ad.a_Net x z ps qs ∧ SeqOk ps qs ∧ cutOf (nbOf qs) ps = none ∧ PairAt H t (a, b) ∧ a ∈ ps ∧ b ∈ ps ∧ a ≠ b ∧
  tieIn qs (a, b) = false ∧ qs.length < 45 ∧ ∀ H' y, Same H H' → NetAt H' ad.a_Net y (textOf ps (inSeq ps (qs ++ [(a, b)]))) ps (inSeq ps (qs ++ [(a, b)])) → Q (.ref y) H'
theorem ok_Net_add {f fN : Addr} {fd fd1 fd2 fd3 fdI : FuncData} (F : Fun K "__add__" "Net.__add__" s_Net___add__ f fd) (T : Txt K mg ad) (N : NetC K fN ad.a_Net)
    (GI : FnOk P w K mg base CX0 1 ad.fI fdI ["self", "value"] (spErrInit K)) (bI : Binds K fdI ["self", "value"] [])
    (G_is_free : FnOk P w K mg base CX0 5 ad.f_is_free fd1 ["net", "value"] (spIsFree ad)) (b_is_free : Binds K fd1 ["net", "value"] [])
    (G_ties_in_sequence : FnOk P w K mg base CX0 1 ad.f_ties_in_sequence fd2 ["places", "ties"] (spInSeq K)) (b_ties_in_sequence : Binds K fd2 ["places", "ties"] [])
    (G_net_of : FnOk P w K mg base (L2.CX P w) 6 ad.f_net_of fd3 ["places", "ties"] (spNetOfTT K ad)) (b_net_of : Binds K fd3 ["places", "ties"] []) : FnOk P w K mg base (L2.CX P w) 7 f fd ["self", "other"] (spAdd ad) := by
  refine F.okX sc_Net___add__ (fun vs H Q E h => ?_) (fun cdv A outer s H vs Q E hr h => ?_)
  · obtain ⟨_, _, _, _, _, _, _, rfl, _⟩ := h
    rfl
  · obtain ⟨x, t, a, b, z, ps, qs, rfl, net, S, cut, ht, ma, mb, ne, no, few, kQ⟩ := h
    have hr2 := hr.mono (show 2 ≤ 6 by decide)
    have h_is_free := hr.mono (show 5 ≤ 6 by decide)
    have h_ties_in_sequence := hr.mono (show 1 ≤ 6 by decide)
    have hr6 := hr
    refine ⟨_, (pss_cons (ps_if (pt_not (pt_val (pe_call G_is_free h_is_free (by rfl) T.m_is_free T.k_is_free b_is_free .nil pass0 (pa_cons (pv 0) (pa_cons (pv 1) pa_nil))))) (pss_one (ps_raise rfl (takes_of rfl rfl rfl rfl) (pmk_oex (dvs := []) T.c_BadTie.oex T.c_BadTie.iC T.tI GI hr2 bI .nil pass0 (by rfl) T.m_BadTie (pa_cons (pv 1) pa_nil)))) pss_nil)
      (pss_cons (ps_if (pt_cmpR op_eq (pe_callB (kLen (K := K)) (by rfl) T.n_len (by decide +kernel) (pa_cons (pe_fld (pv 0) (by rfl)) pa_nil)) (pe_glob (v := .int 45) rfl T.m_MOST_TIES.choose_spec ⟨_, rfl⟩) (nomark _)) (pss_one (ps_raise rfl (takes_of rfl rfl rfl rfl) (pmk_oex (dvs := []) T.c_Full.oex T.c_Full.iC T.tI GI hr2 bI .nil pass0 (by rfl) T.m_Full (pa_cons (pe_glob (v := .int 45) rfl T.m_MOST_TIES.choose_spec ⟨_, rfl⟩) pa_nil)))) pss_nil)
      (pss_one (ps_ret (pe_call G_net_of hr6 (by rfl) T.m_net_of T.k_net_of b_net_of .nil (passes_call (takes_of rfl rfl rfl rfl) fun _ _ _ _ h => h) (pa_cons (pe_fld (pv 0) (by rfl)) (pa_cons (pe_call G_ties_in_sequence h_ties_in_sequence (by rfl) T.m_ties_in_sequence T.k_ties_in_sequence b_ties_in_sequence .nil pass0 (pa_cons (pe_fld (pv 0) (by rfl)) (pa_cons (pe_lst (StX.pa_star (pe_fld (pv 0) (by rfl)) (pa_cons (pv 1) pa_nil))) pa_nil))) pa_nil))))))), ?_⟩
    obtain ⟨dx, na, nt, nn, g1, ⟨ob, obc, obd, g2⟩, ⟨as, g3, pr⟩, g4⟩ := id net
    have lal := Paired.length pr
    refine ⟨_, rfl, _, rfl, x, t, a, b, z, ps, qs, rfl, net, ht, ma, mb, ne, ⟨_, rfl, if_eqF (by rw [S.free ma mb ne, no]; rfl) ?_⟩⟩
    refine ⟨_, rfl, x, ad.a_Net, dx, _, _, rfl, g1, N.cls, N.n_ties, rfl, nt, _, rfl, .inr (SqT.of g3), rfl, _, rfl, if_eqF ?_ ?_⟩
    · rw [List.length_map, lal]
      refine decide_eq_false fun e => ?_
      have := V.int.inj e
      omega
    refine ⟨_, rfl, x, ad.a_Net, dx, _, _, rfl, g1, N.cls, N.n_places, rfl, ?_⟩
    refine ⟨_, rfl, x, ad.a_Net, dx, _, _, rfl, g1, N.cls, N.n_places, rfl, ?_⟩
    refine ⟨_, rfl, x, ad.a_Net, dx, _, _, rfl, g1, N.cls, N.n_ties, rfl, nt, _, rfl, .inl (SqT.of g3), _, rfl, ?_⟩
    have most := S.most
    have h16 := S.h16
    refine ⟨?_, fun p np => ?_⟩
    · rw [List.length_append, List.length_map, lal]
      exact Nat.le_trans (by show qs.length + 1 ≤ 100; omega) (by decide)
    have s1 := same_new (o := .lst (as.map V.ref ++ [.ref t])) np
    have f1 : upd H p (.lst (as.map V.ref ++ [.ref t])) p = some (.lst ((as ++ [t]).map V.ref)) := by
      rw [upd_same, List.map_append]
      rfl
    generalize upd H p (.lst (as.map V.ref ++ [.ref t])) = H1 at s1 f1 ⊢
    have ok1 : okP (a, b) = true := by
      unfold okP
      rw [nm_ok (S.nm _ ma), nm_ok (S.nm _ mb)]
      rfl
    refine ⟨na, p, ps, qs ++ [(a, b)], rfl, SqF.of (s1 _ _ g2), ⟨as ++ [t], f1, Paired.app (Paired.weak (fun _ _ z => s1 _ _ z) pr) (.cons (s1 _ _ ht) .nil)⟩, by omega, S.okps, ?_, fun H2 q s2 pt => ?_⟩
    · rw [List.all_append, S.okqs]
      simp [ok1]
    · refine ⟨na, q, ps, _, rfl, SqF.of (s2 _ _ (s1 _ _ g2)), pt, S.add ma mb ne no few, fun u cu => ?_, fun _ H3 y s3 nt3 => kQ H3 y (Same.trans (Same.trans s1 s2) s3) nt3⟩
      rw [S.add_cut _ cut] at cu
      cases cu
theorem sc_Net___sub__ : FnScope ["self", "other", "gone", "tie"] ["self", "other"] (defScope s_Net___sub__) := ⟨rfl, rfl, rfl, by decide +kernel, rfl, by decide +kernel, by decide +kernel⟩
/-- net - tie, a tie of the net: another net, or NotTied -/
def spSub (ad : Adr) : Sp := fun vs H Q E => ∃ (x t : Addr) (a b z : Str) (ps : List Str) (qs : List (Str × Str)), vs = [.ref x, .ref t] ∧ NetAt H ad.a_Net x z ps qs ∧ SeqOk ps qs ∧ PairAt H t (a, b) ∧ a ∈ ps ∧ b ∈ ps ∧ a ≠ b ∧
  tieIn qs (a, b) = true ∧ (∀ u, cutOf (nbOf (qs.filter fun p => !decide (p ∈ inSeq ps [(a, b)]))) ps = some u → ∀ H' d, Same H H' → H' d = some (.xd [("value", u)]) → E (.ref ad.a_NotTied) (some d) H') ∧
  (cutOf (nbOf (qs.filter fun p => !decide (p ∈ inSeq ps [(a, b)]))) ps = none → ∀ H' y, Same H H' → NetAt H' ad.a_Net y (textOf ps (qs.filter fun p => !decide (p ∈ inSeq ps [(a, b)]))) ps (qs.filter fun p => !decide (p ∈ inSeq ps [(a, b)])) → Q (.ref y) H')
theorem ok_Net_sub {f fN : Addr} {fd fd1 fd2 fd3 fdI : FuncData} (F : Fun K "__sub__" "Net.__sub__" s_Net___sub__ f fd) (T : Txt K mg ad) (N : NetC K fN ad.a_Net)
    (GI : FnOk P w K mg base CX0 1 ad.fI fdI ["self", "value"] (spErrInit K)) (bI : Binds K fdI ["self", "value"] [])
    (G_is_tie : FnOk P w K mg base CX0 5 ad.f_is_tie fd1 ["net", "value"] (spIsTie ad)) (b_is_tie : Binds K fd1 ["net", "value"] [])
    (G_ties_in_sequence : FnOk P w K mg base CX0 1 ad.f_ties_in_sequence fd2 ["places", "ties"] (spInSeq K)) (b_ties_in_sequence : Binds K fd2 ["places", "ties"] [])
    (G_net_of : FnOk P w K mg base (L2.CX P w) 6 ad.f_net_of fd3 ["places", "ties"] (spNetOfTL K ad)) (b_net_of : Binds K fd3 ["places", "ties"] []) : FnOk P w K mg base (L2.CX P w) 7 f fd ["self", "other"] (spSub ad) := by
  refine F.okX sc_Net___sub__ (fun vs H Q E h => ?_) (fun cdv A outer s H vs Q E hr h => ?_)
  · obtain ⟨_, _, _, _, _, _, _, rfl, _⟩ := h
    rfl
  · obtain ⟨x, t, a, b, z, ps, qs, rfl, net, S, ht, ma, mb, ne, yes, kE, kQ⟩ := h
    have hr2 := hr.mono (show 2 ≤ 6 by decide)
    have h_is_tie := hr.mono (show 5 ≤ 6 by decide)
    have h_ties_in_sequence := hr.mono (show 1 ≤ 6 by decide)
    have hr6 := hr
    have hu65 : (A.deeper (envOfC "Net.__sub__" (defScope s_Net___sub__) s.heap.objs.size f cdv)).units + 65 < cLine := by
      have := hr.un
      omega
    refine ⟨_, (pss_cons (ps_if (pt_not (pt_val (pe_call G_is_tie h_is_tie (by rfl) T.m_is_tie T.k_is_tie b_is_tie .nil pass0 (pa_cons (pv 0) (pa_cons (pv 1) pa_nil))))) (pss_one (ps_raise rfl (takes_of rfl rfl rfl rfl) (pmk_oex (dvs := []) T.c_BadTie.oex T.c_BadTie.iC T.tI GI hr2 bI .nil pass0 (by rfl) T.m_BadTie (pa_cons (pv 1) pa_nil)))) pss_nil)
      (pss_cons (ps_set (i := 2) sc_Net___sub__.nd rfl (Or.inr rfl) (pe_call G_ties_in_sequence h_ties_in_sequence (by rfl) T.m_ties_in_sequence T.k_ties_in_sequence b_ties_in_sequence .nil pass0 (pa_cons (pe_fld (pv 0) (by rfl)) (pa_cons (pe_lst (pa_cons (pv 1) pa_nil)) pa_nil))))
      (pss_one (ps_ret (pe_call G_net_of hr6 (by rfl) T.m_net_of T.k_net_of b_net_of .nil (passes_call (takes_of rfl rfl rfl rfl) fun _ _ _ _ h => h) (pa_cons (pe_fld (pv 0) (by rfl)) (pa_cons (pe_lc (own := [("tie", 3)]) (g := gName 3) rfl sc_Net___sub__.nd (kTupI (K := K) (pe_fld (pv 0) (by rfl))) (blkOk_by (N := ["self", "other", "gone", "tie"]) (sc := defScope s_Net___sub__) (by decide +kernel)) (fun _ _ _ _ _ => pg_name (i := 3) sc_Net___sub__.nd rfl (Or.inl rfl)) (fun _ _ _ _ _ => (pts_one (pt_cmpR (kNotInTD (K := K) hu65) (pv 3) (pv 2) (by rfl)))) (fun _ _ _ _ _ => (pv 3))) pa_nil))))))), ?_⟩
    obtain ⟨dx, na, nt, nn, g1, ⟨ob, obc, obd, g2⟩, ⟨as, g3, pr⟩, g4⟩ := id net
    have lal := Paired.length pr
    have most := S.most
    have h16 := S.h16
    refine ⟨_, rfl, _, rfl, x, t, a, b, z, ps, qs, rfl, net, ht, ma, mb, ne, ⟨_, rfl, if_eqF (by rw [S.free ma mb ne, yes]; rfl) ?_⟩⟩
    refine ⟨_, rfl, x, ad.a_Net, dx, _, _, rfl, g1, N.cls, N.n_places, rfl, _, rfl, by show 1 ≤ sizeLine; decide, fun p np => ?_⟩
    have s1 := same_new (o := .lst [.ref t]) np
    have f1 : upd H p (.lst [.ref t]) p = some (.lst ([t].map V.ref)) := upd_same
    generalize upd H p (.lst [.ref t]) = H1 at s1 f1 ⊢
    have ok1 : okP (a, b) = true := by
      unfold okP
      rw [nm_ok (S.nm _ ma), nm_ok (S.nm _ mb)]
      rfl
    refine ⟨na, p, ps, [(a, b)], rfl, SqF.of (s1 _ _ g2), ⟨[t], f1, .cons (s1 _ _ ht) .nil⟩, by omega, S.okps, by simp [ok1], fun H2 q s2 pt => ?_⟩
    have s12 := Same.trans s1 s2
    refine ⟨_, rfl, x, ad.a_Net, dx, _, _, rfl, s12 _ _ g1, N.cls, N.n_places, rfl, _, rfl, x, ad.a_Net, dx, _, _, rfl, s12 _ _ g1, N.cls, N.n_ties, rfl, nt, rfl, ⟨_, SqT.of (s12 _ _ g3)⟩, fun D nD => ?_⟩
    refine lcB walk_tup (fun j Hd => Same H2 Hd ∧ PairsL Hd D ((qs.take j).filter fun p => !decide (p ∈ inSeq ps [(a, b)]))) ⟨same_new nD, [], upd_same, .nil⟩ (fun j Hd _ z => SqT.of (z.1 _ _ (s12 _ _ g3))) ?_ ?_
    · rintro j y Hd H' hj ⟨sd, hD⟩ ⟨rfl, hx⟩
      rw [List.length_map, lal] at hj
      obtain ⟨u, pq, rfl, hpq, pa⟩ := pair_at pr hx
      have pa' : PairAt H' u pq := sd _ _ (s12 _ _ pa)
      obtain ⟨as2, hd2, pr2⟩ := id hD
      have pt' : PairsT H' q (inSeq ps [(a, b)]) := by
        obtain ⟨bs, e, r⟩ := pt
        exact ⟨bs, sd _ _ e, Paired.weak (fun _ _ z => sd _ _ z) r⟩
      have okg : (inSeq ps [(a, b)]).all okP = true := List.all_eq_true.mpr fun t ht => by
        obtain ⟨i1, i2⟩ := pairs_in (mem_seq.mp ht).1
        unfold okP
        rw [nm_ok (S.nm _ i1), nm_ok (S.nm _ i2)]
        rfl
      have okq : okP pq = true := List.all_eq_true.mp S.okqs _ (List.mem_of_getElem? hpq)
      refine ⟨rfl, _, rfl, _, rfl, pD pq, (inSeq ps [(a, b)]).map pD, dp_pair pa', dp_pairsT pt', pD_shaped okq, pDsT_shaped okg, ?_⟩
      refine ⟨_, rfl, ?_⟩
      rw [any_pD]
      by_cases hm : pq ∈ inSeq ps [(a, b)]
      · refine if_eqF (by rw [decide_eq_true hm]; rfl) ⟨sd, ?_⟩
        rw [filterMore hpq, if_neg (by rw [decide_eq_true hm]; simp), List.append_nil]
        exact hD
      · refine if_eqT (by rw [decide_eq_false hm]; rfl) ⟨_, rfl, _, hd2, ?_, fun o c eb => ?_, ?_⟩
        · rw [List.length_map, Paired.length pr2]
          exact Nat.lt_of_le_of_lt (Nat.le_trans (List.length_filter_le _ _) (by rw [List.length_take]; omega) : _ ≤ 100) (by decide)
        · rw [upd_ne (ne_of_none eb nD)]
          exact sd _ _ eb
        · rw [filterMore hpq, if_pos (by rw [decide_eq_false hm]; rfl)]
          exact pairs_old hD pa' hd2
    rintro H3 ⟨s3, hD⟩
    rw [List.length_map, lal, List.take_length] at hD
    have s13 := Same.trans s12 s3
    exact ⟨na, D, ps, _, rfl, SqF.of (s13 _ _ g2), hD, S.cut _, fun u cu H4 d s4 hd => kE u cu H4 d (Same.trans s13 s4) hd, fun cn H4 y s4 nt4 => kQ cn H4 y (Same.trans s13 s4) nt4⟩
theorem sc_Net_without : FnScope ["self", "place", "places", "other", "tie"] ["self", "place"] (defScope s_Net_without) := ⟨rfl, rfl, rfl, by decide +kernel, rfl, by decide +kernel, by decide +kernel⟩
/-- net.without(place), a place of the net: another net, or NotTied, or Few -/
def spWithout (ad : Adr) : Sp := fun vs H Q E => ∃ (x : Addr) (a z : Str) (ps : List Str) (qs : List (Str × Str)), vs = [.ref x, .str a] ∧ NetAt H ad.a_Net x z ps qs ∧ SeqOk ps qs ∧ a ∈ ps ∧
  (∀ C, C = ad.a_NotTied ∨ C = ad.a_Few → ∀ H' d v, Same H H' → H' d = some (.xd [("value", v)]) → E (.ref C) (some d) H') ∧
  (4 ≤ ps.length → cutOf (nbOf (qs.filter fun p => !decide (a ∈ [p.1, p.2]))) (oth ps a) = none → ∀ H' y, Same H H' → NetAt H' ad.a_Net y (textOf (oth ps a) (qs.filter fun p => !decide (a ∈ [p.1, p.2]))) (oth ps a) (qs.filter fun p => !decide (a ∈ [p.1, p.2])) → Q (.ref y) H')
theorem ok_Net_without {f fN : Addr} {fd fd1 fd3 fdI : FuncData} (F : Fun K "without" "Net.without" s_Net_without f fd) (T : Txt K mg ad) (N : NetC K fN ad.a_Net)
    (GI : FnOk P w K mg base CX0 1 ad.fI fdI ["self", "value"] (spErrInit K)) (bI : Binds K fdI ["self", "value"] [])
    (G_pl : FnOk P w K mg base (L2.CX P w) 3 ad.f_check_place fd1 ["net", "value"] (spPlace K ad)) (b_pl : Binds K fd1 ["net", "value"] [])
    (G_net_of : FnOk P w K mg base (L2.CX P w) 6 ad.f_net_of fd3 ["places", "ties"] (spNetOfLL K ad)) (b_net_of : Binds K fd3 ["places", "ties"] []) : FnOk P w K mg base (L2.CX P w) 7 f fd ["self", "place"] (spWithout ad) := by
  refine F.okX sc_Net_without (fun vs H Q E h => ?_) (fun cdv A outer s H vs Q E hr h => ?_)
  · obtain ⟨_, _, _, _, _, rfl, _⟩ := h
    rfl
  · obtain ⟨x, a, z, ps, qs, rfl, net, S, ma, kE, kQ⟩ := h
    have hr2 := hr.mono (show 2 ≤ 6 by decide)
    have hr3 := hr.mono (show 3 ≤ 6 by decide)
    have hr6 := hr
    refine ⟨_, (pss_cons (ps_expr (pe_call G_pl hr3 (by rfl) T.m_check_place T.k_check_place b_pl .nil (passes_call (takes_of rfl rfl rfl rfl) fun _ _ _ _ h => h) (pa_cons (pv 0) (pa_cons (pv 1) pa_nil))))
      (pss_cons (ps_if (pt_cmpR op_eq (pe_callB (kLen (K := K)) (by rfl) T.n_len (by decide +kernel) (pa_cons (pe_fld (pv 0) (by rfl)) pa_nil)) (pe_glob (v := .int 3) rfl T.m_FEWEST_PLACES.choose_spec ⟨_, rfl⟩) (nomark _)) (pss_one (ps_raise rfl (takes_of rfl rfl rfl rfl) (pmk_oex (dvs := []) T.c_Few.oex T.c_Few.iC T.tI GI hr2 bI .nil pass0 (by rfl) T.m_Few (pa_cons (pe_glob (v := .int 3) rfl T.m_FEWEST_PLACES.choose_spec ⟨_, rfl⟩) pa_nil)))) pss_nil)
      (pss_cons (ps_setLc (i := 2) (own := [("other", 3)]) (g := gName 3) rfl sc_Net_without.nd rfl rfl (sw_true rfl rfl rfl (by decide +kernel)) (kTupI (K := K) (pe_fld (pv 0) (by rfl))) (blkOk_by (N := ["self", "place", "places", "other", "tie"]) (sc := defScope s_Net_without) (by decide +kernel)) (fun _ _ _ _ _ => pg_name (i := 3) sc_Net_without.nd rfl (Or.inl rfl)) (fun _ _ _ _ _ => (pts_one (pt_cmpR op_ne (pv 3) (pv 1) (nomark _)))) (fun _ _ _ _ _ => (pv 3)))
      (pss_one (ps_ret (pe_call G_net_of hr6 (by rfl) T.m_net_of T.k_net_of b_net_of .nil (passes_call (takes_of rfl rfl rfl rfl) fun _ _ _ _ h => h) (pa_cons (pv 2) (pa_cons (pe_lc (own := [("tie", 4)]) (g := gName 4) rfl sc_Net_without.nd (kTupI (K := K) (pe_fld (pv 0) (by rfl))) (blkOk_by (N := ["self", "place", "places", "other", "tie"]) (sc := defScope s_Net_without) (by decide +kernel)) (fun _ _ _ _ _ => pg_name (i := 4) sc_Net_without.nd rfl (Or.inl rfl)) (fun _ _ _ _ _ => (pts_one (pt_cmpR (kNin (K := K)) (pv 1) (pv 4) (by rfl)))) (fun _ _ _ _ _ => (pv 4))) pa_nil)))))))), ?_⟩
    obtain ⟨dx, na, nt, nn, g1, ⟨ob, obc, obd, g2⟩, ⟨as, g3, pr⟩, g4⟩ := id net
    have lal := Paired.length pr
    have most := S.most
    have h16 := S.h16
    refine ⟨_, rfl, _, rfl, x, .str a, z, ps, qs, rfl, net, .str a, fun e => (by rw [isIn_mem ma] at e; cases e), fun _ => ?_⟩
    refine ⟨_, rfl, x, ad.a_Net, dx, _, _, rfl, g1, N.cls, N.n_places, rfl, na, _, rfl, .inr (SqF.of g2), rfl, _, rfl, ?_⟩
    rw [List.length_map]
    by_cases h3 : ps.length = 3
    · exact if_eqT (by rw [h3]; rfl) (mkO_intro T.c_Few fun d H2 nd s2 e2 => kE _ (.inr rfl) H2 d _ s2 e2)
    refine if_eqF (decide_eq_false fun e => h3 (by have := V.int.inj e; omega)) ?_
    have h4 : 4 ≤ ps.length := by
      have := S.h3
      omega
    refine ⟨_, rfl, x, ad.a_Net, dx, _, _, rfl, g1, N.cls, N.n_places, rfl, na, rfl, ⟨_, SqF.of g2⟩, fun D nD => ?_⟩
    refine lcB walk_tup (fun j Hd => Same H Hd ∧ Hd D = some (.lst ((oth (ps.take j) a).map V.str))) ⟨same_new nD, upd_same⟩ (fun j Hd _ z => SqF.of (z.1 _ _ g2)) ?_ ?_
    · rintro j y Hd H' hj ⟨sd, hD⟩ ⟨rfl, hx⟩
      obtain ⟨o, ho, rfl⟩ := str_at hx
      refine ⟨rfl, _, rfl, _, rfl, rfl, _, rfl, ?_⟩
      have lt : (oth (ps.take j) a).length ≤ 100 := by
        unfold oth
        have := List.length_filter_le (fun o => !decide (V.str o = V.str a)) (ps.take j)
        rw [List.length_take] at this
        omega
      by_cases hm : V.str o = V.str a
      · refine if_eqF (by rw [decide_eq_true hm]; rfl) ⟨sd, ?_⟩
        unfold oth at hD ⊢
        rw [filterMore ho, if_neg (by rw [decide_eq_true hm]; simp), List.append_nil]
        exact hD
      · refine if_eqT (by rw [decide_eq_false hm]; rfl) ⟨_, rfl, _, hD, ?_, fun b c eb => ?_, ?_⟩
        · rw [List.length_map]
          exact Nat.lt_of_le_of_lt lt (by decide)
        · rw [upd_ne (ne_of_none eb nD)]
          exact sd _ _ eb
        · unfold oth
          rw [upd_same, filterMore ho, if_pos (by rw [decide_eq_false hm]; rfl), List.map_append]
          rfl
    rintro H1 ⟨s1, hD⟩
    rw [List.length_map, List.take_length] at hD
    refine ⟨_, rfl, _, rfl, x, ad.a_Net, dx, _, _, rfl, s1 _ _ g1, N.cls, N.n_ties, rfl, nt, rfl, ⟨_, SqT.of (s1 _ _ g3)⟩, fun D2 nD2 => ?_⟩
    refine lcB walk_tup (fun j Hd => Same H1 Hd ∧ PairsL Hd D2 ((qs.take j).filter fun p => !decide (a ∈ [p.1, p.2]))) ⟨same_new nD2, [], upd_same, .nil⟩ (fun j Hd _ z => SqT.of (z.1 _ _ (s1 _ _ g3))) ?_ ?_
    · rintro j y Hd H' hj ⟨sd, hD2⟩ ⟨rfl, hx⟩
      rw [List.length_map, lal] at hj
      obtain ⟨u, pq, rfl, hpq, pa⟩ := pair_at pr hx
      have pa' : PairAt H' u pq := sd _ _ (s1 _ _ pa)
      obtain ⟨as2, hd2, pr2⟩ := id hD2
      refine ⟨rfl, _, rfl, _, rfl, u, [V.str pq.1, V.str pq.2], rfl, .inr (SqT.of pa'), rfl, rfl, ?_⟩
      refine ⟨_, rfl, ?_⟩
      rw [show [V.str pq.1, V.str pq.2] = [pq.1, pq.2].map V.str from rfl, notIn_strs]
      by_cases hm : a ∈ [pq.1, pq.2]
      · refine if_eqF (by rw [decide_eq_true hm]; rfl) ⟨sd, ?_⟩
        rw [filterMore hpq, if_neg (by rw [decide_eq_true hm]; simp), List.append_nil]
        exact hD2
      · refine if_eqT (by rw [decide_eq_false hm]; rfl) ⟨_, rfl, _, hd2, ?_, fun o c eb => ?_, ?_⟩
        · rw [List.length_map, Paired.length pr2]
          exact Nat.lt_of_le_of_lt (Nat.le_trans (List.length_filter_le _ _) (by rw [List.length_take]; omega) : _ ≤ 100) (by decide)
        · rw [upd_ne (ne_of_none eb nD2)]
          exact sd _ _ eb
        · rw [filterMore hpq, if_pos (by rw [decide_eq_false hm]; rfl)]
          exact pairs_old hD2 pa' hd2
    rintro H3 ⟨s3, hD2⟩
    rw [List.length_map, lal, List.take_length] at hD2
    have s13 := Same.trans s1 s3
    exact ⟨D, D2, oth ps a, _, rfl, SqL.of (s3 _ _ hD), hD2, S.less ma h4, fun u cu H4 d s4 hd => kE _ (.inl rfl) H4 d _ (Same.trans s13 s4) hd, fun cn H4 y s4 nt4 => kQ h4 cn H4 y (Same.trans s13 s4) nt4⟩
end
end K05
namespace NetM
open PySem L2
theorem SeqOk.nb {ps : List Str} {qs : List (Str × Str)} (S : SeqOk ps qs) {o : Str} (ho : o ∈ ps) : nbOf qs o = ps.filter fun u => decide (u ∈ nbOf qs o) := by
  have e := near_nb (ts := qs) S.nd ho
  rw [S.sq] at e
  refine e.trans (List.filter_congr fun u hu => ?_)
  rw [Bool.eq_iff_iff, decide_eq_true_iff, e]
  unfold nearS
  rw [List.mem_filter]
  exact ⟨fun h => ⟨hu, h⟩, fun h => h.2⟩
theorem sum_add {α : Type} (f g : α → Nat) : ∀ l : List α, (l.map fun p => f p + g p).sum = (l.map f).sum + (l.map g).sum
  | [] => rfl
  | a :: l => by
    have := sum_add f g l
    simp only [List.map_cons, List.sum_cons]
    omega
theorem sum_one {x : Str} : ∀ {l : List Str}, x ∈ l → l.Nodup → (l.map fun p => if decide (V.str x = V.str p) = true then 1 else 0).sum = 1
  | a :: l, h, nd => by
    obtain ⟨n1, n2⟩ := List.nodup_cons.mp nd
    have zero : ∀ {m : List Str}, x ∉ m → (m.map fun p => if decide (V.str x = V.str p) = true then 1 else 0).sum = 0 := fun {m} => by
      induction m with
      | nil => intro _; rfl
      | cons b m ih =>
        intro hb
        have e : decide (V.str x = V.str b) = false := decide_eq_false fun e => hb (V.str.inj e ▸ .head _)
        simp only [List.map_cons, List.sum_cons, e]
        rw [ih fun z => hb (.tail _ z)]
        rfl
    by_cases e : x = a
    · subst e
      simp only [List.map_cons, List.sum_cons, decide_true, if_true]
      rw [zero n1]
    · have e' : decide (V.str x = V.str a) = false := decide_eq_false fun z => e (V.str.inj z)
      rcases List.mem_cons.mp h with z | z
      · exact absurd z e
      · simp only [List.map_cons, List.sum_cons, e']
        rw [sum_one z n2]
        rfl
theorem sum_fst {ps : List Str} (nd : ps.Nodup) (g : Str × Str → Str) : ∀ qs : List (Str × Str), (∀ t ∈ qs, g t ∈ ps) → (ps.map fun y => (qs.filter fun p => decide (V.str (g p) = V.str y)).length).sum = qs.length
  | [], _ => by
    induction ps with
    | nil => rfl
    | cons p ps ih => exact (by simpa using ih (List.nodup_cons.mp nd).2)
  | t :: qs, h => by
    have ih := sum_fst nd g qs fun s hs => h s (.tail _ hs)
    have e : (fun y => ((t :: qs).filter fun p => decide (V.str (g p) = V.str y)).length) = fun y => (qs.filter fun p => decide (V.str (g p) = V.str y)).length + if decide (V.str (g t) = V.str y) = true then 1 else 0 := funext fun y => by
      rw [List.filter_cons]
      by_cases q : decide (V.str (g t) = V.str y) = true
      · rw [if_pos q, if_pos q, List.length_cons]
      · rw [if_neg q, if_neg q, Nat.add_zero]
    rw [e, sum_add, ih, sum_one (h t (.head _)) nd, List.length_cons]
theorem SeqOk.hands {ps : List Str} {qs : List (Str × Str)} (S : SeqOk ps qs) : (ps.map fun p => (nbOf qs p).length).sum = 2 * qs.length := by
  have e : (fun p => (nbOf qs p).length) = fun y => (qs.filter fun p => decide (V.str p.2 = V.str y)).length + (qs.filter fun p => decide (V.str p.1 = V.str y)).length := funext fun y => by
    unfold nbOf earlOf lateOf
    rw [List.length_append, List.length_map, List.length_map]
  rw [e, sum_add, sum_fst S.nd (fun p => p.2) qs fun t ht => (S.inn t ht).2, sum_fst S.nd (fun p => p.1) qs fun t ht => (S.inn t ht).1]
  omega
theorem SeqOk.sym {ps : List Str} {qs : List (Str × Str)} (S : SeqOk ps qs) (a b : Str) : decide (b ∈ nbOf qs a) = decide (a ∈ nbOf qs b) := by
  have e1 : b ∈ nbOf (inSeq ps qs) a ↔ _ := mem_nb S.nd
  have e2 : a ∈ nbOf (inSeq ps qs) b ↔ _ := mem_nb S.nd
  rw [S.sq] at e1 e2
  refine decide_eq_decide.mpr (e1.trans (Iff.trans ?_ e2.symm))
  exact ⟨fun h => ⟨h.2.1, h.1, h.2.2.1.symm, tie_sym.trans h.2.2.2⟩, fun h => ⟨h.2.1, h.1, h.2.2.1.symm, tie_sym.trans h.2.2.2⟩⟩
theorem SeqOk.irr {ps : List Str} {qs : List (Str × Str)} (S : SeqOk ps qs) (a : Str) : decide (a ∈ nbOf qs a) = false := by
  have e1 : a ∈ nbOf (inSeq ps qs) a ↔ _ := mem_nb S.nd
  rw [S.sq] at e1
  exact decide_eq_false fun h => (e1.mp h).2.2.1 rfl
end NetM
namespace NetM
open PySem L2
/-- the numbers of the two ends of a tie -/
def spotOf (ps : List Str) (t : Str × Str) : List Int := [(place ps t.1 : Int), (place ps t.2 : Int)]
theorem SeqOk.up {ps : List Str} {qs : List (Str × Str)} (S : SeqOk ps qs) : ∀ t ∈ qs, place ps t.1 < place ps t.2 := fun t ht => by
  rw [← S.sq] at ht
  exact ((mem_pairs S.nd (a := t.1) (b := t.2)).mp (mem_seq.mp ht).1).2.2
theorem SeqOk.lt {ps : List Str} {qs : List (Str × Str)} (S : SeqOk ps qs) {z : Str} (hz : z ∈ ps) : place ps z < 16 := Nat.lt_of_lt_of_le (place_lt hz) S.h16
theorem SeqOk.rise {ps : List Str} {qs : List (Str × Str)} (S : SeqOk ps qs) : (qs.map (spotOf ps)).Pairwise fun a b => TS.code 64 a < TS.code 64 b := by
  refine List.pairwise_map.mpr ?_
  have q := seq_up (ts := qs) S.nd (Nat.le_trans S.h16 (by decide))
  rw [S.sq] at q
  refine List.Pairwise.imp_of_mem (fun {s t} hs ht h => ?_) q
  have a1 := S.lt (S.inn s hs).1
  have a2 := S.lt (S.inn s hs).2
  have b1 := S.lt (S.inn t ht).1
  have b2 := S.lt (S.inn t ht).2
  unfold spotOf
  rw [code_pair, code_pair]
  unfold NetM.code at h
  omega
def ivD (v : List Int) : PyData := .tuple (v.map .int)
theorem iv_lay : ∀ v : List Int, PyData.canLayAll0 (v.map .int) = true
  | [] => by simp [PyData.canLayAll0]
  | a :: v => by
    have := iv_lay v
    simp [PyData.canLayAll0, PyData.canLay0, this]
theorem iv_depth : ∀ v : List Int, PyData.depthAll (v.map .int) = 0
  | [] => by simp [PyData.depthAll]
  | a :: v => by
    have := iv_depth v
    simp [PyData.depthAll, PyData.depth, this]
theorem ivs_lay : ∀ m : List (List Int), PyData.canLayAll0 (m.map ivD) = true
  | [] => by simp [PyData.canLayAll0]
  | v :: m => by
    have h1 := ivs_lay m
    have h2 := iv_lay v
    simp [PyData.canLayAll0, PyData.canLay0, ivD, h1, h2]
theorem ivs_depth : ∀ m : List (List Int), PyData.depthAll (m.map ivD) ≤ 1
  | [] => by simp [PyData.depthAll]
  | v :: m => by
    have h1 := ivs_depth m
    have h2 := iv_depth v
    simp only [List.map_cons, PyData.depthAll, ivD, PyData.depth]
    omega
theorem ivs_shaped (m : List (List Int)) : SeqAt.shaped (.list (m.map ivD)) = true := by
  refine shaped_of (ivs_lay m) ?_
  show PyData.depthAll (m.map ivD) + 1 ≤ 60
  have := ivs_depth m
  omega
theorem dp_ints {K : PySem.W.Frag} {H : Hp} : ∀ v : List Int, DpAll K H (v.map V.int) (v.map .int)
  | [] => .nil
  | a :: v => .cons (.int a) (dp_ints v)
theorem dp_spots {K : PySem.W.Frag} {H : Hp} : ∀ ks : List (Addr × List Int), (∀ p ∈ ks, SqT K H p.1 (p.2.map V.int)) → DpAll K H (ks.map fun p => V.ref p.1) (ks.map fun p => ivD p.2)
  | [], _ => .nil
  | p :: ks, h => .cons (.tup (h p (.head _)) (dp_ints p.2)) (dp_spots ks fun q hq => h q (.tail _ hq))
end NetM
namespace K05
open PySem L2 NetM PySem.Spec PyProof.Rows
theorem no_out {y : Str} {ps : List Str} (h : y ∈ ps) {p : Prop} (e : isIn (.str y) ps = false) : p := by
  rw [isIn_mem h] at e
  cases e
theorem tied_at {K : PySem.W.Frag} {ad : Adr} {H : Hp} {x : Addr} {z a b : Str} {ps : List Str} {qs : List (Str × Str)} {Q : VK} {E : XK} (net : NetAt H ad.a_Net x z ps qs) (ma : a ∈ ps) (mb : b ∈ ps) (q : Q (.bl (decide (b ∈ nbOf qs a))) H) :
    spTied K ad [.ref x, .str a, .str b] H Q E :=
  ⟨x, .str a, .str b, z, ps, qs, rfl, net, .str a, .str b, fun e => (by rw [isIn_mem ma] at e; cases e), fun _ e => (by rw [isIn_mem mb] at e; cases e), fun a' b' ea eb _ _ => by
    cases ea
    cases eb
    exact q⟩
theorem get_at {K : PySem.W.Frag} {ad : Adr} {H : Hp} {x : Addr} {z a : Str} {ps : List Str} {qs : List (Str × Str)} {Q : VK} {E : XK} (net : NetAt H ad.a_Net x z ps qs) (ma : a ∈ ps) (q : ∀ t, H t = some (.tup ((nbOf qs a).map V.str)) → Q (.ref t) H) :
    spGet K ad [.ref x, .str a] H Q E :=
  ⟨x, .str a, z, ps, qs, rfl, net, .str a, fun e => (by rw [isIn_mem ma] at e; cases e), fun y ey _ t ht => by
    cases ey
    exact q t ht⟩
theorem shp_bl (bs : List Bool) : SeqAt.shaped (.list (blD bs)) = true := by
  refine shaped_of (bl_lay bs) ?_
  show PyData.depthAll (blD bs) + 1 ≤ 60
  rw [bl_depth]
  decide
theorem shp_txT {ps : List Str} (h : ps.all PyData.strOk = true) : SeqAt.shaped (.tuple (txD ps)) = true := by
  refine shaped_of (tx_lay.trans h) ?_
  show PyData.depthAll (txD ps) + 1 ≤ 60
  rw [tx_depth]
  decide
section
variable {P : Program} {w : World} {K : PySem.W.Frag} {mg : Str → Option Value} {base : Heap} {ad : Adr}
theorem sc__law_agrees : FnScope ["_law_net_here", "_law_amount", "_law_one", "_law_told", "_law_spots", "_law_other", "_law_far", "_law_low", "_law_high"] ["_law_net_here"] (defScope s__law_agrees) := ⟨rfl, rfl, rfl, by decide +kernel, rfl, by decide +kernel, by decide +kernel⟩
/-- all that a net tells of ties agrees -/
def spAgrees (ad : Adr) : Sp := fun vs H Q _ => ∃ (x : Addr) (z : Str) (ps : List Str) (qs : List (Str × Str)), vs = [.ref x] ∧ NetAt H ad.a_Net x z ps qs ∧ SeqOk ps qs ∧ ∀ H', Same H H' → Q (.bl true) H'
theorem ok__law_agrees {f fN : Addr} {fd fd1 fd2 : FuncData} (F : Fun K "_law_agrees" "_law_agrees" s__law_agrees f fd) (T : Txt K mg ad) (N : NetC K fN ad.a_Net) (M : NetP K ad)
    (G_get : FnOk P w K mg base (L2.CX P w) 3 ad.f_Net___getitem__ fd1 ["self", "at"] (spGet K ad)) (b_get : Binds K fd1 ["self", "at"] [])
    (G_tied : FnOk P w K mg base (L2.CX P w) 4 ad.f_Net_tied fd2 ["self", "one", "other"] (spTied K ad)) (b_tied : Binds K fd2 ["self", "one", "other"] []) : FnOk P w K mg base CX0 5 f fd ["_law_net_here"] (spAgrees ad) := by
  refine F.ok sc__law_agrees (fun vs H Q E h => ?_) (fun cdv A outer s H vs Q E hr h => ?_)
  · obtain ⟨_, _, _, _, rfl, _⟩ := h
    rfl
  · obtain ⟨x, z, ps, qs, rfl, net, S, kQ⟩ := h
    have h4 := hr
    have hu64 := hr.units
    refine ⟨_, (pss_cons (ps_set (i := 1) sc__law_agrees.nd rfl (Or.inl rfl) pe_int)
      (pss_cons (ps_for PassesOwn.never rfl (kTupI (K := K) (pe_fld (pv 0) (by rfl))) (pg_name (i := 2) sc__law_agrees.nd rfl (Or.inr rfl)) (pss_cons (ps_if (pt_cmpR (op_neD hu64) (pe_ixOwn G_get h4 b_get passN M.e_get M.g_get M.b_get (pv 0) (pv 2) (fun _ _ => rfl)) (pe_callTy (kTupOf (K := K)) (by rfl) T.n_tuple (by decide +kernel) (pa_cons (pe_lc (own := [("_law_other", 5)]) (g := gName 5) rfl sc__law_agrees.nd (kTupI (K := K) (pe_fld (pv 0) (by rfl))) (blkOk_by (N := ["_law_net_here", "_law_amount", "_law_one", "_law_told", "_law_spots", "_law_other", "_law_far", "_law_low", "_law_high"]) (sc := defScope s__law_agrees) (by decide +kernel)) (fun _ _ _ _ _ => pg_name (i := 5) sc__law_agrees.nd rfl (Or.inl rfl)) (fun _ _ _ _ _ => (pts_one (pt_val (pe_meth (pv 0) N.cls M.tied G_tied h4 b_tied .nil passN (pa_cons (pv 2) (pa_cons (pv 5) pa_nil)))))) (fun _ _ _ _ _ => (pv 5))) pa_nil)) (nomark _)) (pss_one (ps_ret pe_bl)) pss_nil)
      (pss_cons (ps_setLc (i := 3) (own := [("_law_far", 6)]) (g := gName 6) rfl sc__law_agrees.nd rfl rfl (sw_true rfl rfl rfl (by decide +kernel)) (kTupI (K := K) (pe_fld (pv 0) (by rfl))) (blkOk_by (N := ["_law_net_here", "_law_amount", "_law_one", "_law_told", "_law_spots", "_law_other", "_law_far", "_law_low", "_law_high"]) (sc := defScope s__law_agrees) (by decide +kernel)) (fun _ _ _ _ _ => pg_name (i := 6) sc__law_agrees.nd rfl (Or.inl rfl)) (fun _ _ _ _ _ => pts_nil) (fun _ _ _ _ _ => (pe_meth (pv 0) N.cls M.tied G_tied h4 b_tied .nil passN (pa_cons (pv 2) (pa_cons (pv 6) pa_nil)))))
      (pss_cons (ps_if (PW.pt (pw_or (pt_val (pe_meth (pv 0) N.cls M.tied G_tied h4 b_tied .nil passN (pa_cons (pv 2) (pa_cons (pv 2) pa_nil)))) (pw_or1 (pt_cmpR (op_neD hu64) (pv 3) (pe_lc (own := [("_law_far", 6)]) (g := gName 6) rfl sc__law_agrees.nd (kTupI (K := K) (pe_fld (pv 0) (by rfl))) (blkOk_by (N := ["_law_net_here", "_law_amount", "_law_one", "_law_told", "_law_spots", "_law_other", "_law_far", "_law_low", "_law_high"]) (sc := defScope s__law_agrees) (by decide +kernel)) (fun _ _ _ _ _ => pg_name (i := 6) sc__law_agrees.nd rfl (Or.inl rfl)) (fun _ _ _ _ _ => pts_nil) (fun _ _ _ _ _ => (pe_meth (pv 0) N.cls M.tied G_tied h4 b_tied .nil passN (pa_cons (pv 6) (pa_cons (pv 2) pa_nil))))) (nomark _))))) (pss_one (ps_ret pe_bl)) pss_nil)
      (pss_one (ps_set (i := 1) sc__law_agrees.nd rfl (Or.inl rfl) (pe_op op_add (pv 1) (pe_callB (kLen (K := K)) (by rfl) T.n_len (by decide +kernel) (pa_cons (pe_ixOwn G_get h4 b_get passN M.e_get M.g_get M.b_get (pv 0) (pv 2) (fun _ _ => rfl)) pa_nil)))))))))
      (pss_cons (ps_if (PW.pt (pw_or (pt_cmpR op_ne (pv 1) (pe_op op_mul pe_int (pe_callB (kLen (K := K)) (by rfl) T.n_len (by decide +kernel) (pa_cons (pe_fld (pv 0) (by rfl)) pa_nil))) (nomark _)) (pw_or1 (pt_not (pt_val (pe_callB (kAll (K := K) rfl) (by rfl) T.n_all (by decide +kernel) (pa_cons (pe_lc (own := [("_law_one", 2), ("_law_other", 5)]) rfl sc__law_agrees.nd (kTupI (K := K) (pe_fld (pv 0) (by rfl))) (blkOk_by (N := ["_law_net_here", "_law_amount", "_law_one", "_law_told", "_law_spots", "_law_other", "_law_far", "_law_low", "_law_high"]) (sc := defScope s__law_agrees) (by decide +kernel)) (fun _ _ _ _ _ => kTgt (K := K) (n := 2) (by rfl) (pgs_cons (pg_name (i := 2) sc__law_agrees.nd rfl (Or.inl rfl)) (pgs_cons (pg_name (i := 5) sc__law_agrees.nd rfl (Or.inl rfl)) pgs_nil))) (fun _ _ _ _ _ => pts_nil) (fun _ _ _ _ _ => (pe_meth (pv 0) N.cls M.tied G_tied h4 b_tied .nil passN (pa_cons (pv 2) (pa_cons (pv 5) pa_nil))))) pa_nil))))))) (pss_one (ps_ret pe_bl)) pss_nil)
      (pss_cons (ps_setLc (i := 4) (own := [("_law_one", 2), ("_law_other", 5)]) rfl sc__law_agrees.nd rfl rfl (sw_true rfl rfl rfl (by decide +kernel)) (kTupI (K := K) (pe_fld (pv 0) (by rfl))) (blkOk_by (N := ["_law_net_here", "_law_amount", "_law_one", "_law_told", "_law_spots", "_law_other", "_law_far", "_law_low", "_law_high"]) (sc := defScope s__law_agrees) (by decide +kernel)) (fun _ _ _ _ _ => kTgt (K := K) (n := 2) (by rfl) (pgs_cons (pg_name (i := 2) sc__law_agrees.nd rfl (Or.inl rfl)) (pgs_cons (pg_name (i := 5) sc__law_agrees.nd rfl (Or.inl rfl)) pgs_nil))) (fun _ _ _ _ _ => pts_nil) (fun _ _ _ _ _ => (pe_tup (pa_cons (kTupIndexM (K := K) (kFld (K := K) (pv 0) (by rfl)) (pv 2)) (pa_cons (kTupIndexM (K := K) (kFld (K := K) (pv 0) (by rfl)) (pv 5)) pa_nil)))))
      (pss_one (ps_ret (pe_and (pe_cmpR (op_eqD hu64) (pv 4) (pe_callB (cr_sortedT rfl) (by rfl) T.n_sorted (by decide +kernel) (pa_cons (pe_callTy (cr_setOfT rfl hu64) (by rfl) T.n_set (by decide +kernel) (pa_cons (pv 4) pa_nil)) pa_nil)) (nomark _)) (pe_one (pe_callB (kAll (K := K) rfl) (by rfl) T.n_all (by decide +kernel) (pa_cons (pe_lc (own := [("_law_low", 7), ("_law_high", 8)]) rfl sc__law_agrees.nd (kLstI (K := K) (pv 4)) (blkOk_by (N := ["_law_net_here", "_law_amount", "_law_one", "_law_told", "_law_spots", "_law_other", "_law_far", "_law_low", "_law_high"]) (sc := defScope s__law_agrees) (by decide +kernel)) (fun _ _ _ _ _ => kTgt (K := K) (n := 2) (by rfl) (pgs_cons (pg_name (i := 7) sc__law_agrees.nd rfl (Or.inl rfl)) (pgs_cons (pg_name (i := 8) sc__law_agrees.nd rfl (Or.inl rfl)) pgs_nil))) (fun _ _ _ _ _ => pts_nil) (fun _ _ _ _ _ => (pe_cmpR op_lt (pv 7) (pv 8) (nomark _)))) pa_nil)))))))))), ?_⟩
    obtain ⟨dx, na, nt, nn, g1, ⟨ob, obc, obd, g2⟩, ⟨as, g3, pr⟩, g4⟩ := id net
    have lal := Paired.length pr
    have most := S.most
    have h16 := S.h16
    have h3 := S.h3
    have oknb : ∀ o, (nbOf qs o).all PyData.strOk = true := fun o => List.all_eq_true.mpr fun u hu => by
      have hu' : u ∈ nbOf (inSeq ps qs) o := by rw [S.sq]; exact hu
      exact nm_ok (S.nm _ (nb_in hu'))
    refine ⟨_, rfl, x, ad.a_Net, dx, _, _, rfl, g1, N.cls, N.n_places, rfl, na, rfl, ⟨_, SqF.of g2⟩, ?_⟩
    refine for_it walk_tup (fun i σ Hc => ∃ (s2 s3 s5 s6 : Option V), σ = [some (.ref x), some (.int ((((ps.take i).map fun p => (nbOf qs p).length).sum : Nat) : Int)), s2, s3, none, s5, s6, none, none] ∧ Same H Hc) ⟨none, none, none, none, rfl, fun _ _ e => e⟩ (fun i σ Hc _ ⟨_, _, _, _, _, z⟩ => SqF.of (z _ _ g2)) ?_ ?_
    · rintro i y σ Hc H' hi ⟨s2, s3, s5, s6, rfl, sc⟩ ⟨rfl, hy⟩
      obtain ⟨o, ho, rfl⟩ := str_at hy
      have mo : o ∈ ps := List.mem_of_getElem? ho
      have n1c := sc _ _ g1
      refine ⟨_, rfl, _, rfl, x, dx, _, rfl, n1c, get_at (net.same sc) mo fun tt htt => ?_⟩
      refine ⟨_, rfl, x, ad.a_Net, dx, _, _, rfl, n1c, N.cls, N.n_places, rfl, na, rfl, ⟨_, SqF.of (sc _ _ g2)⟩, fun D nD => ?_⟩
      refine lcB walk_tup (fun j Hd => Same H' Hd ∧ Hd D = some (.lst (((ps.take j).filter fun u => decide (u ∈ nbOf qs o)).map V.str))) ⟨same_new nD, upd_same⟩ (fun j Hd _ z => SqF.of (z.1 _ _ (sc _ _ g2))) ?_ ?_
      · rintro j v Hd H3 hj ⟨sd, hD⟩ ⟨rfl, hv⟩
        obtain ⟨u, hu, rfl⟩ := str_at hv
        have mu : u ∈ ps := List.mem_of_getElem? hu
        have s9 := Same.trans sc sd
        refine ⟨rfl, _, rfl, x, dx, _, rfl, s9 _ _ g1, rfl, _, rfl, _, rfl, ⟨x, .str o, .str u, _, ps, _, rfl, net.same s9, .str o, .str u, no_out mo, fun _ => no_out mu, fun a b ea eb _ _ => ?_⟩⟩
        cases ea
        cases eb
        refine ⟨_, rfl, ?_⟩
        have lt : ((ps.take j).filter fun u => decide (u ∈ nbOf qs o)).length ≤ 100 := by
          have := List.length_filter_le (fun u => decide (u ∈ nbOf qs o)) (ps.take j)
          rw [List.length_take] at this
          omega
        by_cases hm : u ∈ nbOf qs o
        · refine if_eqT (decide_eq_true hm) ⟨_, rfl, _, hD, ?_, fun b c eb => ?_, ?_⟩
          · rw [List.length_map]
            exact Nat.lt_of_le_of_lt lt (by decide)
          · rw [upd_ne (ne_of_none eb nD)]
            exact sd _ _ eb
          · rw [upd_same, filterMore hu, if_pos (decide_eq_true hm), List.map_append]
            rfl
        · refine if_eqF (decide_eq_false hm) ⟨sd, ?_⟩
          rw [filterMore hu, if_neg (by rw [decide_eq_false hm]; simp), List.append_nil]
          exact hD
      rintro H4 ⟨s4, hD⟩
      rw [List.length_map, List.take_length, ← S.nb mo] at hD
      refine ⟨D, _, rfl, .inl ⟨SqL.of hD, fun q nq => ?_⟩⟩
      have s5' := Same.trans s4 (same_new (o := .tup ((nbOf qs o).map V.str)) nq)
      have f5 : upd H4 q (.tup ((nbOf qs o).map V.str)) q = some (.tup ((nbOf qs o).map V.str)) := upd_same
      generalize upd H4 q (.tup ((nbOf qs o).map V.str)) = H5 at s5' f5 ⊢
      refine ⟨.tuple (txD (nbOf qs o)), .tuple (txD (nbOf qs o)), .tup (SqT.of (s5' _ _ htt)) (tx_all _), .tup (SqT.of f5) (tx_all _), shp_txT (oknb o), shp_txT (oknb o), _, rfl, if_eqF (by show (!PyData.eqvAll (txD (nbOf qs o)) (txD (nbOf qs o))) = false; rw [eqv_tx]; simp) ?_⟩
      have s05 := Same.trans sc s5'
      refine ⟨_, rfl, x, ad.a_Net, dx, _, _, rfl, s05 _ _ g1, N.cls, N.n_places, rfl, na, rfl, ⟨_, SqF.of (s05 _ _ g2)⟩, fun D2 nD2 => ?_⟩
      refine lcB walk_tup (fun j Hd => Same H5 Hd ∧ Hd D2 = some (.lst (((ps.take j).map fun u => decide (u ∈ nbOf qs o)).map V.bl))) ⟨same_new nD2, upd_same⟩ (fun j Hd _ z => SqF.of (z.1 _ _ (s05 _ _ g2))) ?_ ?_
      · rintro j v Hd H3 hj ⟨sd, hD⟩ ⟨rfl, hv⟩
        obtain ⟨u, hu, rfl⟩ := str_at hv
        have mu : u ∈ ps := List.mem_of_getElem? hu
        have s9 := Same.trans s05 sd
        refine ⟨rfl, _, rfl, x, dx, _, rfl, s9 _ _ g1, rfl, _, rfl, _, rfl, ⟨x, .str o, .str u, _, ps, _, rfl, net.same s9, .str o, .str u, no_out mo, fun _ => no_out mu, fun a b ea eb _ _ => ?_⟩⟩
        cases ea
        cases eb
        refine ⟨_, hD, ?_, fun b c eb => ?_, ?_⟩
        · rw [List.length_map, List.length_map, List.length_take]
          exact Nat.lt_of_le_of_lt (by omega : _ ≤ 100) (by decide)
        · rw [upd_ne (ne_of_none eb nD2)]
          exact sd _ _ eb
        · rw [upd_same, take_more hu, List.map_append, List.map_append]
          rfl
      rintro H6 ⟨s6', hD2⟩
      rw [List.length_map, List.take_length] at hD2
      have s06 := Same.trans s05 s6'
      refine ⟨_, rfl, x, dx, _, rfl, s06 _ _ g1, rfl, _, rfl, _, rfl, ⟨x, .str o, .str o, _, ps, _, rfl, net.same s06, .str o, .str o, no_out mo, fun _ => no_out mo, fun a b ea eb _ _ => ?_⟩⟩
      cases ea
      cases eb
      refine ⟨_, rfl, if_eqF (S.irr o) ?_⟩
      refine ⟨_, rfl, _, rfl, x, ad.a_Net, dx, _, _, rfl, s06 _ _ g1, N.cls, N.n_places, rfl, na, rfl, ⟨_, SqF.of (s06 _ _ g2)⟩, fun D3 nD3 => ?_⟩
      refine lcB walk_tup (fun j Hd => Same H6 Hd ∧ Hd D3 = some (.lst (((ps.take j).map fun u => decide (u ∈ nbOf qs o)).map V.bl))) ⟨same_new nD3, upd_same⟩ (fun j Hd _ z => SqF.of (z.1 _ _ (s06 _ _ g2))) ?_ ?_
      · rintro j v Hd H3 hj ⟨sd, hD⟩ ⟨rfl, hv⟩
        obtain ⟨u, hu, rfl⟩ := str_at hv
        have mu : u ∈ ps := List.mem_of_getElem? hu
        have s9 := Same.trans s06 sd
        refine ⟨rfl, _, rfl, x, dx, _, rfl, s9 _ _ g1, rfl, _, rfl, _, rfl, ⟨x, .str u, .str o, _, ps, _, rfl, net.same s9, .str u, .str o, no_out mu, fun _ => no_out mo, fun a b ea eb _ _ => ?_⟩⟩
        cases ea
        cases eb
        rw [S.sym u o]
        refine ⟨_, hD, ?_, fun b c eb => ?_, ?_⟩
        · rw [List.length_map, List.length_map, List.length_take]
          exact Nat.lt_of_le_of_lt (by omega : _ ≤ 100) (by decide)
        · rw [upd_ne (ne_of_none eb nD3)]
          exact sd _ _ eb
        · rw [upd_same, take_more hu, List.map_append, List.map_append]
          rfl
      rintro H7 ⟨s7, hD3⟩
      rw [List.length_map, List.take_length] at hD3
      have s07 := Same.trans s06 s7
      refine ⟨.list (blD (ps.map fun u => decide (u ∈ nbOf qs o))), .list (blD (ps.map fun u => decide (u ∈ nbOf qs o))), .lst (SqL.of (s7 _ _ hD2)) (bl_all _), .lst (SqL.of hD3) (bl_all _), shp_bl _, shp_bl _, _, rfl, if_eqF (by show (!PyData.eqvAll (blD _) (blD _)) = false; rw [eqv_bl]; simp) ?_⟩
      refine ⟨_, rfl, _, rfl, _, rfl, x, dx, _, rfl, s07 _ _ g1, ⟨x, .str o, _, ps, _, rfl, net.same s07, .str o, no_out mo, fun y ey my t8 h8 => ?_⟩⟩
      cases ey
      refine ⟨t8, _, rfl, .inr (SqT.of h8), ?_⟩
      refine ⟨_, _, rfl, rfl, ?_⟩
      have e : ((ps.take (i + 1)).map fun p => (nbOf qs p).length).sum = ((ps.take i).map fun p => (nbOf qs p).length).sum + (nbOf qs o).length := by
        rw [take_more ho, List.map_append, List.sum_append]
        simp
      refine ⟨some (.str o), some (.ref D2), s5, s6, ?_, s07⟩
      rw [e, List.length_map, Int.natCast_add]
      rfl
    rintro σ Hc ⟨s2, s3, s5, s6, rfl, sc⟩
    rw [List.length_map, List.take_length]
    have hand : (ps.map fun p => (nbOf qs p).length).sum = 2 * qs.length := S.hands
    rw [hand]
    refine ⟨_, rfl, _, rfl, x, ad.a_Net, dx, _, _, rfl, sc _ _ g1, N.cls, N.n_ties, rfl, nt, _, rfl, .inr (SqT.of (sc _ _ g3)), ?_⟩
    refine ⟨_, _, rfl, rfl, .inl ⟨by decide, by decide⟩, rfl, _, rfl, if_eqF ?_ ?_⟩
    · rw [List.length_map, lal]
      have e : V.int (((2 * qs.length : Nat)) : Int) = V.int (2 * (qs.length : Int)) := by rw [Int.natCast_mul]; rfl
      rw [e, decide_eq_true rfl]
      rfl
    refine ⟨_, rfl, x, ad.a_Net, dx, _, _, rfl, sc _ _ g1, N.cls, N.n_ties, rfl, nt, rfl, ⟨_, SqT.of (sc _ _ g3)⟩, fun D nD => ?_⟩
    refine lcB walk_tup (fun j Hd => Same Hc Hd ∧ Hd D = some (.lst ((List.replicate j true).map V.bl))) ⟨same_new nD, upd_same⟩ (fun j Hd _ z => SqT.of (z.1 _ _ (sc _ _ g3))) ?_ ?_
    · rintro j v Hd H' hj ⟨sd, hD⟩ ⟨rfl, hv⟩
      rw [List.length_map, lal] at hj
      obtain ⟨u, pq, rfl, hpq, pa⟩ := pair_at pr hv
      have s9 := Same.trans sc sd
      have mq := List.mem_of_getElem? hpq
      have mt := S.inn pq mq
      refine ⟨u, _, rfl, SqT.of (s9 _ _ pa), rfl, _, _, rfl, _, _, rfl, rfl, rfl, _, rfl, x, dx, _, rfl, s9 _ _ g1, rfl, _, rfl, _, rfl, ⟨x, .str pq.1, .str pq.2, _, ps, _, rfl, net.same s9, .str _, .str _, no_out mt.1, fun _ => no_out mt.2, fun a b ea eb _ _ => ?_⟩⟩
      cases ea
      cases eb
      have yes : decide (pq.2 ∈ nbOf qs pq.1) = true := decide_eq_true (List.mem_append_right _ (mem_late.mpr mq))
      rw [yes]
      refine ⟨_, hD, ?_, fun b c eb => ?_, ?_⟩
      · rw [List.length_map, List.length_replicate]
        exact Nat.lt_of_le_of_lt (by omega : _ ≤ 100) (by decide)
      · rw [upd_ne (ne_of_none eb nD)]
        exact sd _ _ eb
      · rw [upd_same, List.replicate_succ', List.map_append]
        rfl
    rintro H1 ⟨s1, hD⟩
    have s01 := Same.trans sc s1
    refine ⟨D, _, rfl, SqL.of hD, ?_⟩
    rw [show ∀ m, (List.replicate m true).all id = true from fun m => List.all_eq_true.mpr fun b hb => (List.mem_replicate.mp hb).2]
    refine ⟨_, rfl, if_eqF rfl ?_⟩
    refine ⟨_, rfl, x, ad.a_Net, dx, _, _, rfl, s01 _ _ g1, N.cls, N.n_ties, rfl, nt, rfl, ⟨_, SqT.of (s01 _ _ g3)⟩, fun D2 nD2 => ?_⟩
    refine lcB walk_tup (fun j Hd => Same H1 Hd ∧ ∃ ks : List (Addr × List Int), Hd D2 = some (.lst (ks.map fun p => V.ref p.1)) ∧ (∀ p ∈ ks, Hd p.1 = some (.tup (p.2.map V.int))) ∧ ks.map (·.2) = (qs.take j).map (spotOf ps)) ⟨same_new nD2, [], upd_same, fun p h => absurd h (List.not_mem_nil), rfl⟩ (fun j Hd _ z => SqT.of (z.1 _ _ (s01 _ _ g3))) ?_ ?_
    · rintro j v Hd H' hj ⟨sd, ks, hD2, hks, eks⟩ ⟨rfl, hv⟩
      rw [List.length_map, lal] at hj
      obtain ⟨u, pq, rfl, hpq, pa⟩ := pair_at pr hv
      have s9 := Same.trans s01 sd
      have mq := List.mem_of_getElem? hpq
      have mt := S.inn pq mq
      have first : ∀ {z : Str}, z ∈ ps → ∀ m, m < place ps z → ps[m]? ≠ some z := fun {z} hz m lt e => by
        have := place_get S.nd e
        omega
      have lk : ks.length = j := by
        have := congrArg List.length eks
        rw [List.length_map, List.length_map, List.length_take] at this
        omega
      refine ⟨u, _, rfl, SqT.of (s9 _ _ pa), rfl, _, _, rfl, _, _, rfl, rfl, rfl, ?_⟩
      refine ⟨_, rfl, x, ad.a_Net, dx, _, _, rfl, s9 _ _ g1, N.cls, N.n_places, rfl, ⟨na, _, rfl, ob, obc, obd, s9 _ _ g2⟩, _, rfl, na, ps, pq.1, place ps pq.1, rfl, rfl, SqF.of (s9 _ _ g2), place_at mt.1, first mt.1, ?_⟩
      refine ⟨_, rfl, x, ad.a_Net, dx, _, _, rfl, s9 _ _ g1, N.cls, N.n_places, rfl, ⟨na, _, rfl, ob, obc, obd, s9 _ _ g2⟩, _, rfl, na, ps, pq.2, place ps pq.2, rfl, rfl, SqF.of (s9 _ _ g2), place_at mt.2, first mt.2, ?_⟩
      refine ⟨by show 2 ≤ sizeLine; decide, fun c nc => ?_⟩
      have sc' := same_new (o := .tup [V.int (place ps pq.1 : Nat), V.int (place ps pq.2 : Nat)]) nc
      refine ⟨_, sc' _ _ hD2, ?_, fun b o eb => ?_, ks ++ [(c, spotOf ps pq)], ?_, ?_, ?_⟩
      · rw [List.length_map, lk]
        exact Nat.lt_of_le_of_lt (by omega : _ ≤ 100) (by decide)
      · rw [upd_ne (ne_of_none eb nD2)]
        exact sc' _ _ (sd _ _ eb)
      · rw [upd_same, List.map_append]
        rfl
      · intro p hp
        have ne : ∀ {q : Addr} {xs : List V}, upd H' c (.tup [V.int (place ps pq.1 : Nat), V.int (place ps pq.2 : Nat)]) q = some (.tup xs) → q ≠ D2 := fun e z => by
          rw [z, sc' _ _ hD2] at e
          cases e
        rcases List.mem_append.mp hp with h | h
        · have e := sc' _ _ (hks p h)
          rw [upd_ne (ne e)]
          exact e
        · cases List.mem_singleton.mp h
          have e : upd H' c (.tup [V.int (place ps pq.1 : Nat), V.int (place ps pq.2 : Nat)]) c = some (.tup [V.int (place ps pq.1 : Nat), V.int (place ps pq.2 : Nat)]) := upd_same
          rw [upd_ne (ne e)]
          exact e
      · rw [List.map_append, eks, take_more hpq, List.map_append]
        rfl
    rintro H2 ⟨s2, ks, hD2, hks, eks⟩
    rw [List.length_map, lal, List.take_length] at eks
    have s02 := Same.trans s01 s2
    have kk : ∀ p ∈ ks, ∃ t ∈ qs, p.2 = spotOf ps t := fun p hp => by
      have m : p.2 ∈ ks.map (·.2) := List.mem_map.mpr ⟨p, hp, rfl⟩
      rw [eks] at m
      obtain ⟨t, ht, e⟩ := List.mem_map.mp m
      exact ⟨t, ht, e.symm⟩
    have lk : ks.length = qs.length := by
      have := congrArg List.length eks
      rw [List.length_map, List.length_map] at this
      exact this
    refine ⟨_, rfl, _, rfl, D2, ks, rfl, SqL.of hD2, fun p hp => SqT.of (hks p hp), by omega, fun a L na' sub all => ?_⟩
    refine ⟨a, L, 2, 64, rfl, upd_same, fun p hp => SqT.of (same_new na' _ _ (hks p (sub p hp))), by decide, fun p hp => ?_, fun L' q pm nd few pw nq => ?_⟩
    · obtain ⟨t, ht, e⟩ := kk p (sub p hp)
      rw [e]
      refine ⟨rfl, fun m hm => ?_⟩
      have b1 := S.lt (S.inn t ht).1
      have b2 := S.lt (S.inn t ht).2
      unfold spotOf at hm
      simp only [List.mem_cons, List.not_mem_nil, or_false] at hm
      rcases hm with rfl | rfl <;> omega
    have em : L'.map (·.2) = qs.map (spotOf ps) := by
      refine sorted_uniq (f := TS.code 64) (perm_of_mem nd (S.rise.imp fun h e => by subst e; omega) fun v => ⟨fun h => ?_, fun h => ?_⟩) (List.pairwise_map.mpr pw) S.rise
      · obtain ⟨p, hp, rfl⟩ := List.mem_map.mp h
        obtain ⟨t, ht, e⟩ := kk p (sub p (pm.mem_iff.mp hp))
        rw [e]
        exact List.mem_map.mpr ⟨t, ht, rfl⟩
      · rw [← eks] at h
        obtain ⟨p, hp, rfl⟩ := List.mem_map.mp h
        exact (pm.map (·.2)).mem_iff.mpr (all p hp)
    have e1 : ks.map (fun p => ivD p.2) = (qs.map (spotOf ps)).map ivD := by
      rw [← eks, List.map_map]
      rfl
    have e2 : L'.map (fun p => ivD p.2) = (qs.map (spotOf ps)).map ivD := by
      rw [← em, List.map_map]
      rfl
    have s3 : ∀ b o, H2 b = some o → upd (upd H2 a (SetTO P w a L)) q (.lst (L'.map fun p => V.ref p.1)) b = some o := fun b o e => same_new nq _ _ (same_new na' _ _ e)
    have f3 : upd (upd H2 a (SetTO P w a L)) q (.lst (L'.map fun p => V.ref p.1)) q = some (.lst (L'.map fun p => V.ref p.1)) := upd_same
    refine ⟨.list (ks.map fun p => ivD p.2), .list (L'.map fun p => ivD p.2), .lst (SqL.of (s3 _ _ hD2)) (dp_spots ks fun p hp => SqT.of (s3 _ _ (hks p hp))), .lst (SqL.of f3) (dp_spots L' fun p hp => SqT.of (s3 _ _ (hks p (sub p (pm.mem_iff.mp hp))))), by rw [e1]; exact ivs_shaped _, by rw [e2]; exact ivs_shaped _, ?_⟩
    rw [e1, e2]
    refine ⟨_, rfl, if_eqT (SeqAt.eqv_refl _ (SeqAt.canLay_of_shaped (ivs_shaped _))) ?_⟩
    refine ⟨_, rfl, D2, rfl, ⟨_, SqL.of (s3 _ _ hD2)⟩, fun D5 nD5 => ?_⟩
    have D5n : ∀ b o, H2 b = some o → b ≠ D5 := fun b o e => ne_of_none (s3 _ _ e) nD5
    refine lcB walk_list (fun j Hd => Same H2 Hd ∧ Hd D5 = some (.lst ((List.replicate j true).map V.bl))) ⟨fun b o e => same_new nD5 _ _ (s3 _ _ e), upd_same⟩ (fun j Hd _ z => SqL.of (z.1 _ _ hD2)) ?_ ?_
    · rintro j v Hd H' hj ⟨sd, hD⟩ ⟨rfl, hv⟩
      rw [List.length_map] at hj
      rw [List.getElem?_map, List.getElem?_eq_getElem hj] at hv
      obtain rfl : V.ref ks[j].1 = v := Option.some.inj hv
      have mk : ks[j] ∈ ks := List.getElem_mem hj
      obtain ⟨t, ht, e⟩ := kk _ mk
      have cell := sd _ _ (hks _ mk)
      rw [e] at cell
      have up := S.up t ht
      refine ⟨ks[j].1, _, rfl, SqT.of cell, rfl, _, _, rfl, _, _, rfl, rfl, rfl, _, rfl, _, rfl, _, _, rfl, rfl, ?_⟩
      have yes : decide (((place ps t.1 : Nat) : Int) < ((place ps t.2 : Nat) : Int)) = true := decide_eq_true (by omega)
      refine ⟨_, hD, ?_, fun b c eb => ?_, ?_⟩
      · rw [List.length_map, List.length_replicate]
        exact Nat.lt_of_le_of_lt (by omega : _ ≤ 100) (by decide)
      · rw [upd_ne (D5n _ _ eb)]
        exact sd _ _ eb
      · rw [upd_same, show (fun i j : Int => V.bl (decide (i < j))) ((place ps t.1 : Nat) : Int) ((place ps t.2 : Nat) : Int) = V.bl true from congrArg V.bl yes, List.replicate_succ', List.map_append]
        rfl
    rintro H5 ⟨s5', hD⟩
    refine ⟨D5, _, rfl, SqL.of hD, ?_⟩
    rw [show ∀ m, (List.replicate m true).all id = true from fun m => List.all_eq_true.mpr fun b hb => (List.mem_replicate.mp hb).2]
    exact kQ _ (Same.trans s02 s5')
end
end K05
namespace NetM
open PySem L2 TL
theorem line_cat2 (a b : Str) : (("tie " : Str) ++ a ++ (" " : Str)) ++ b = lineOf (a, b) := by
  rw [← line_cat, show (Str.empty ++ ("tie " : Str)) = "tie " by decide +kernel]
end NetM
namespace K05
open PySem L2 NetM PySem.Spec PyProof.Rows
section
variable {P : Program} {w : World} {K : PySem.W.Frag} {mg : Str → Option Value} {base : Heap} {ad : Adr}
theorem sc__law_is_text_right : FnScope ["_law_net_here", "_law_rows", "_law_one", "_law_other"] ["_law_net_here"] (defScope s__law_is_text_right) := ⟨rfl, rfl, rfl, by decide +kernel, rfl, by decide +kernel, by decide +kernel⟩
/-- the text of a net that was made -/
def spTextRight (ad : Adr) : Sp := fun vs H Q _ => ∃ (x : Addr) (ps : List Str) (qs : List (Str × Str)), vs = [.ref x] ∧ NetAt H ad.a_Net x (textOf ps qs) ps qs ∧ SeqOk ps qs ∧ ∀ H', Same H H' → Q (.bl true) H'
theorem ok__law_is_text_right {f fN : Addr} {fd : FuncData} (F : Fun K "_law_is_text_right" "_law_is_text_right" s__law_is_text_right f fd) (T : Txt K mg ad) (N : NetC K fN ad.a_Net) : FnOk P w K mg base CX0 1 f fd ["_law_net_here"] (spTextRight ad) := by
  refine F.ok sc__law_is_text_right (fun vs H Q E h => ?_) (fun cdv A outer s H vs Q E hr h => ?_)
  · obtain ⟨_, _, _, rfl, _⟩ := h
    rfl
  · obtain ⟨x, ps, qs, rfl, net, S, kQ⟩ := h
    refine ⟨_, (pss_cons (ps_set (i := 1) sc__law_is_text_right.nd rfl (Or.inl rfl) (pe_op op_cat (pe_lst (pa_cons (kJoin (K := K) pe_str (pe_op op_catT (pe_tup (pa_cons pe_str pa_nil)) (pe_fld (pv 0) (by rfl)))) pa_nil)) (pe_lc (own := [("_law_one", 2), ("_law_other", 3)]) rfl sc__law_is_text_right.nd (kTupI (K := K) (pe_fld (pv 0) (by rfl))) (blkOk_by (N := ["_law_net_here", "_law_rows", "_law_one", "_law_other"]) (sc := defScope s__law_is_text_right) (by decide +kernel)) (fun _ _ _ _ _ => kTgt (K := K) (n := 2) (by rfl) (pgs_cons (pg_name (i := 2) sc__law_is_text_right.nd rfl (Or.inl rfl)) (pgs_cons (pg_name (i := 3) sc__law_is_text_right.nd rfl (Or.inl rfl)) pgs_nil))) (fun _ _ _ _ _ => pts_nil) (fun _ _ _ _ _ => (pe_op op_add_str (pe_op op_add_str (pe_op op_add_str pe_str (pv 2)) pe_str) (pv 3))))))
      (pss_one (ps_ret (pe_cmpR op_eq (pe_fld (pv 0) (by rfl)) (kJoin (K := K) pe_str (pv 1)) (nomark _))))), ?_⟩
    obtain ⟨dx, na, nt, nn, g1, ⟨ob, obc, obd, g2⟩, ⟨as, g3, pr⟩, g4⟩ := id net
    have lal := Paired.length pr
    have most := S.most
    have h16 := S.h16
    have h3 := S.h3
    have l8 : ∀ z ∈ ps, z.length ≤ 8 := fun z hz => nm_len (S.nm z hz)
    have cp := cost_le 8 ps l8
    have ne : ps ≠ [] := fun e => by rw [e] at h3; exact absurd h3 (by decide)
    refine ⟨⟨_, rfl⟩, by show 1 ≤ sizeLine; decide, fun c1 n1 => ?_⟩
    have s1 := same_new (o := .tup [V.str "places"]) n1
    have f1 : upd H c1 (.tup [V.str "places"]) c1 = some (.tup [V.str "places"]) := upd_same
    generalize upd H c1 (.tup [V.str "places"]) = H1 at s1 f1 ⊢
    refine ⟨_, rfl, x, ad.a_Net, dx, _, _, rfl, s1 _ _ g1, N.cls, N.n_places, rfl, c1, na, [V.str "places"], ps.map V.str, rfl, rfl, SqT.of f1, SqF.of (s1 _ _ g2), by simp, ?_, fun e => absurd (List.map_eq_nil_iff.mp e) ne, fun _ c2 n2 => ?_⟩
    · rw [List.length_map]
      exact Nat.le_trans (by show 1 + ps.length ≤ 100; omega) (by decide)
    have s2 := Same.trans s1 (same_new (o := .tup ([V.str "places"] ++ ps.map V.str)) n2)
    have f2 : upd H1 c2 (.tup ([V.str "places"] ++ ps.map V.str)) c2 = some (.tup ((("places" : Str) :: ps).map V.str)) := upd_same
    generalize upd H1 c2 (.tup ([V.str "places"] ++ ps.map V.str)) = H2 at s2 f2 ⊢
    refine ⟨" ", c2, "places" :: ps, rfl, rfl, .inr (SqT.of f2), join_ok (by decide +kernel) (by rw [cost_cons, show ("places" : Str).length = 6 by decide +kernel]; omega), ?_⟩
    refine ⟨by show 1 ≤ sizeLine; decide, fun c3 n3 => ?_⟩
    have s3 := Same.trans s2 (same_new (o := .lst [.str (Txt.join " " ("places" :: ps))]) n3)
    have f3 : upd H2 c3 (.lst [.str (Txt.join " " ("places" :: ps))]) c3 = some (.lst [.str (Txt.join " " ("places" :: ps))]) := upd_same
    generalize upd H2 c3 (.lst [.str (Txt.join " " ("places" :: ps))]) = H3 at s3 f3 ⊢
    refine ⟨_, rfl, x, ad.a_Net, dx, _, _, rfl, s3 _ _ g1, N.cls, N.n_ties, rfl, nt, rfl, ⟨_, SqT.of (s3 _ _ g3)⟩, fun D nD => ?_⟩
    refine lcB walk_tup (fun j Hd => Same H3 Hd ∧ Hd D = some (.lst (((qs.take j).map lineOf).map V.str))) ⟨same_new nD, upd_same⟩ (fun j Hd _ z => SqT.of (z.1 _ _ (s3 _ _ g3))) ?_ ?_
    · rintro j y Hd H' hj ⟨sd, hD⟩ ⟨rfl, hx⟩
      rw [List.length_map, lal] at hj
      obtain ⟨t, pq, rfl, hpq, pa⟩ := pair_at pr hx
      have mt := S.inn pq (List.mem_of_getElem? hpq)
      have la := l8 _ mt.1
      have lb := l8 _ mt.2
      refine ⟨t, _, rfl, SqT.of (sd _ _ (s3 _ _ pa)), rfl, _, _, rfl, _, _, rfl, rfl, rfl, _, rfl, _, _, rfl, rfl, ?_, _, _, rfl, rfl, ?_, _, rfl, _, _, rfl, rfl, ?_, ?_⟩
      · exact Nat.le_trans (by rw [show ("tie " : Str).length = 4 by decide +kernel]; omega : _ ≤ 100) (by decide)
      · exact Nat.le_trans (by rw [len_app, show ("tie " : Str).length = 4 by decide +kernel, show (" " : Str).length = 1 by decide +kernel]; omega : _ ≤ 100) (by decide)
      · exact Nat.le_trans (by rw [len_app, len_app, show ("tie " : Str).length = 4 by decide +kernel, show (" " : Str).length = 1 by decide +kernel]; omega : _ ≤ 100) (by decide)
      refine ⟨_, hD, ?_, fun b o eb => ?_, ?_⟩
      · rw [List.length_map, List.length_map, List.length_take]
        exact Nat.lt_of_le_of_lt (by omega : _ ≤ 100) (by decide)
      · rw [upd_ne (ne_of_none eb nD)]
        exact sd _ _ eb
      · rw [upd_same, take_more hpq, List.map_append, List.map_append, line_cat2]
        rfl
    rintro H4 ⟨s4, hD⟩
    rw [List.length_map, lal, List.take_length] at hD
    have f4 := s4 _ _ f3
    refine ⟨c3, D, _, _, rfl, rfl, f4, hD, ?_, fun m nm => ?_⟩
    · rw [List.length_map, List.length_map]
      exact Nat.le_trans (by show 1 + qs.length ≤ 100; omega) (by decide)
    have s5 := Same.trans (Same.trans s3 s4) (same_new (o := .lst ([V.str (Txt.join " " ("places" :: ps))] ++ (qs.map lineOf).map V.str)) nm)
    have f5 : upd H4 m (.lst ([V.str (Txt.join " " ("places" :: ps))] ++ (qs.map lineOf).map V.str)) m = some (.lst ((Txt.join " " ("places" :: ps) :: qs.map lineOf).map V.str)) := upd_same
    generalize upd H4 m (.lst ([V.str (Txt.join " " ("places" :: ps))] ++ (qs.map lineOf).map V.str)) = H5 at s5 f5 ⊢
    have ll := cost_le 22 (qs.map lineOf) fun z hz => by
      obtain ⟨t, ht, rfl⟩ := List.mem_map.mp hz
      refine Nat.le_trans (join_cost (y := " ") (s := 32) (by decide +kernel) _) ?_
      have := l8 _ (S.inn t ht).1
      have := l8 _ (S.inn t ht).2
      rw [cost_cons, cost_cons, cost_cons, cost_nil, show ("tie" : Str).length = 3 by decide +kernel]
      omega
    rw [List.length_map] at ll
    have j1 : (Txt.join " " ("places" :: ps)).length ≤ 200 := by
      refine Nat.le_trans (join_cost (y := " ") (s := 32) (by decide +kernel) _) ?_
      rw [cost_cons, show ("places" : Str).length = 6 by decide +kernel]
      omega
    refine ⟨_, rfl, x, ad.a_Net, dx, _, _, rfl, s5 _ _ g1, N.cls, N.n_text, rfl, ⟨_, rfl⟩, _, rfl, "\n", m, _, rfl, rfl, .inl (SqL.of f5), join_ok (by decide +kernel) (by rw [cost_cons]; omega), rfl, ?_⟩
    have e : decide (V.str (textOf ps qs) = V.str (Txt.join "\n" (Txt.join " " ("places" :: ps) :: qs.map lineOf))) = true := decide_eq_true rfl
    rw [e]
    exact kQ _ s5
theorem sc__law_missing : FnScope ["_law_net_here", "_law_found", "_law_one", "_law_other"] ["_law_net_here"] (defScope s__law_missing) := ⟨rfl, rfl, rfl, by decide +kernel, rfl, by decide +kernel, by decide +kernel⟩
/-- the pairs of places that are not tied -/
def spMissing (ad : Adr) : Sp := fun vs H Q _ => ∃ (x : Addr) (z : Str) (ps : List Str) (qs : List (Str × Str)), vs = [.ref x] ∧ NetAt H ad.a_Net x z ps qs ∧ SeqOk ps qs ∧
  ∀ H' l ts, Same H H' → H l = none → PairsL H' l ts → ts.Nodup → ts.length ≤ 256 → (∀ t ∈ ts, t.1 ∈ ps ∧ t.2 ∈ ps ∧ t.1 ≠ t.2 ∧ tieIn qs t = false) → Q (.ref l) H'
theorem ok__law_missing {f fN : Addr} {fd fd2 : FuncData} (F : Fun K "_law_missing" "_law_missing" s__law_missing f fd) (T : Txt K mg ad) (N : NetC K fN ad.a_Net) (M : NetP K ad)
    (G_tied : FnOk P w K mg base (L2.CX P w) 4 ad.f_Net_tied fd2 ["self", "one", "other"] (spTied K ad)) (b_tied : Binds K fd2 ["self", "one", "other"] []) : FnOk P w K mg base CX0 5 f fd ["_law_net_here"] (spMissing ad) := by
  refine F.ok sc__law_missing (fun vs H Q E h => ?_) (fun cdv A outer s H vs Q E hr h => ?_)
  · obtain ⟨_, _, _, _, rfl, _⟩ := h
    rfl
  · obtain ⟨x, z, ps, qs, rfl, net, S, kQ⟩ := h
    have h4 := hr
    refine ⟨_, (pss_cons (ps_set (i := 1) sc__law_missing.nd rfl (Or.inl rfl) (pe_lst pa_nil))
      (pss_cons (ps_for PassesOwn.never rfl (kTupI (K := K) (pe_fld (pv 0) (by rfl))) (pg_name (i := 2) sc__law_missing.nd rfl (Or.inr rfl)) (pss_one (ps_expr (pe_bm PySem.F.plainAttrs_list PySem.F.slot_list_extend PySem.F.type_list_extend mt_extend (pv 1) (pa_cons (pe_lc (own := [("_law_other", 3)]) (g := gName 3) rfl sc__law_missing.nd (kTupI (K := K) (pe_fld (pv 0) (by rfl))) (blkOk_by (N := ["_law_net_here", "_law_found", "_law_one", "_law_other"]) (sc := defScope s__law_missing) (by decide +kernel)) (fun _ _ _ _ _ => pg_name (i := 3) sc__law_missing.nd rfl (Or.inl rfl)) (fun _ _ _ _ _ => (pts_one (PW.pt (pw_and (pt_cmpR op_ne (pv 2) (pv 3) (nomark _)) (pw_and1 (pt_not (pt_val (pe_meth (pv 0) N.cls M.tied G_tied h4 b_tied .nil passN (pa_cons (pv 2) (pa_cons (pv 3) pa_nil)))))))))) (fun _ _ _ _ _ => (pe_tup (pa_cons (pv 2) (pa_cons (pv 3) pa_nil))))) pa_nil)))))
      (pss_one (ps_ret (pv 1))))), ?_⟩
    obtain ⟨dx, na, nt, nn, g1, ⟨ob, obc, obd, g2⟩, ⟨as, g3, pr⟩, g4⟩ := id net
    have h16 := S.h16
    refine ⟨by show 0 ≤ sizeLine; decide, fun l nl => ?_⟩
    have sl : Same H (upd H l (.lst ([] : List V))) := same_new nl
    refine ⟨_, rfl, x, ad.a_Net, dx, _, _, rfl, sl _ _ g1, N.cls, N.n_places, rfl, na, rfl, ⟨_, SqF.of (sl _ _ g2)⟩, ?_⟩
    refine for_it walk_tup (fun i σ Hc => ∃ (s2 s3 : Option V) (ts : List (Str × Str)), σ = [some (.ref x), some (.ref l), s2, s3] ∧ Same H Hc ∧ PairsL Hc l ts ∧ ts.Nodup ∧ ts.length ≤ 16 * i ∧ (∀ t ∈ ts, t.1 ∈ ps.take i ∧ t.2 ∈ ps ∧ t.1 ≠ t.2 ∧ tieIn qs t = false)) ⟨none, none, [], rfl, sl, ⟨[], upd_same, .nil⟩, .nil, Nat.zero_le _, fun t h => absurd h (List.not_mem_nil)⟩ (fun i σ Hc _ ⟨_, _, _, _, z, _⟩ => SqF.of (z _ _ g2)) ?_ ?_
    · rintro i y σ Hc H' hi ⟨s2, s3, ts, rfl, sc, pl, nd, ln, good⟩ ⟨rfl, hy⟩
      obtain ⟨o, ho, rfl⟩ := str_at hy
      have mo : o ∈ ps := List.mem_of_getElem? ho
      obtain ⟨bs, hl, prl⟩ := id pl
      have lnl : H l = none := nl
      let c : Str → Bool := fun u => !decide (V.str o = V.str u) && !decide (u ∈ nbOf qs o)
      refine ⟨_, rfl, .inl ⟨rfl, _, SqL.of hl⟩, _, rfl, x, ad.a_Net, dx, _, _, rfl, sc _ _ g1, N.cls, N.n_places, rfl, na, rfl, ⟨_, SqF.of (sc _ _ g2)⟩, fun D nD => ?_⟩
      refine lcB walk_tup (fun j Hd => Same H' Hd ∧ PairsL Hd D (((ps.take j).filter c).map fun u => (o, u))) ⟨same_new nD, [], upd_same, .nil⟩ (fun j Hd _ z => SqF.of (z.1 _ _ (sc _ _ g2))) ?_ ?_
      · rintro j v Hd H3 hj ⟨sd, hD⟩ ⟨rfl, hv⟩
        rw [List.length_map] at hj
        obtain ⟨u, hu, rfl⟩ := str_at hv
        have mu : u ∈ ps := List.mem_of_getElem? hu
        have s9 := Same.trans sc sd
        obtain ⟨ds, hd, prd⟩ := id hD
        have lds : ds.length ≤ 16 := by
          have e := Paired.length prd
          rw [List.length_map] at e
          have := List.length_filter_le c (ps.take j)
          rw [List.length_take] at this
          omega
        have no : ∀ {p : Bool}, c u = false → (p = true → False) → PairsL H3 D (((ps.take (j + 1)).filter c).map fun u => (o, u)) := fun h _ => by
          rw [filterMore hu, if_neg (by rw [h]; exact Bool.false_ne_true), List.append_nil]
          exact hD
        refine ⟨rfl, _, rfl, _, rfl, rfl, _, rfl, ?_⟩
        by_cases e : V.str o = V.str u
        · refine if_eqF (by rw [decide_eq_true e]; rfl) ?_
          exact ⟨sd, no (p := false) (by show (!decide (V.str o = V.str u) && _) = false; rw [decide_eq_true e]; rfl) fun z => by cases z⟩
        · refine if_eqT (by rw [decide_eq_false e]; rfl) ?_
          refine ⟨_, rfl, x, dx, _, rfl, s9 _ _ g1, rfl, _, rfl, _, rfl, ⟨x, .str o, .str u, _, ps, _, rfl, net.same s9, .str o, .str u, no_out mo, fun _ => no_out mu, fun a b ea eb _ _ => ?_⟩⟩
          cases ea
          cases eb
          refine ⟨_, rfl, ?_⟩
          by_cases tn : u ∈ nbOf qs o
          · refine if_eqF (by rw [decide_eq_true tn]; rfl) ⟨sd, no (p := false) (by show (_ && !decide (u ∈ nbOf qs o)) = false; rw [decide_eq_true tn, Bool.and_comm]; rfl) fun z => by cases z⟩
          · refine if_eqT (by rw [decide_eq_false tn]; rfl) ?_
            refine ⟨_, rfl, _, rfl, by show 2 ≤ sizeLine; decide, fun q nq => ?_⟩
            refine ⟨_, same_new nq _ _ hd, ?_, fun b k eb => ?_, ?_⟩
            · rw [List.length_map]
              exact Nat.lt_of_le_of_lt (by omega : _ ≤ 100) (by decide)
            · rw [upd_ne (ne_of_none eb nD)]
              exact same_new nq _ _ (sd _ _ eb)
            · rw [filterMore hu, if_pos (by show (!decide (V.str o = V.str u) && !decide (u ∈ nbOf qs o)) = true; rw [decide_eq_false e, decide_eq_false tn]; rfl), List.map_append]
              exact pairs_push hD nq hd
      rintro H4 ⟨s4, hD⟩
      rw [List.length_map, List.take_length] at hD
      obtain ⟨ds, hd, prd⟩ := id hD
      have hl4 := s4 _ _ hl
      have lD : l ≠ D := ne_of_none hl nD
      have lb := Paired.length prl
      have ld := Paired.length prd
      rw [List.length_map] at ld
      have lf := List.length_filter_le c ps
      have ip : i < 16 := by
        have := (List.getElem?_eq_some_iff.mp ho).1
        omega
      refine ⟨l, D, _, _, rfl, rfl, hl4, hd, ?_, ?_⟩
      · rw [List.length_map, List.length_map]
        exact Nat.le_trans (by omega : _ ≤ 1000) (by decide)
      have nt4 : ∀ {q : Addr} {t : Str × Str}, PairAt H4 q t → PairAt (upd H4 l (.lst (bs.map V.ref ++ ds.map V.ref))) q t := fun {q t} e => by
        show upd H4 l _ q = _
        rw [upd_ne (fun z => by
          have e' : H4 q = some (.tup [.str t.1, .str t.2]) := e
          rw [z, hl4] at e'
          cases e')]
        exact e
      refine ⟨some (.str o), s3, ts ++ (ps.filter c).map (fun u => (o, u)), rfl, fun b k e => ?_, ⟨bs ++ ds, by rw [upd_same, List.map_append], Paired.app (Paired.weak (fun _ _ z => nt4 (s4 _ _ z)) prl) (Paired.weak (fun _ _ z => nt4 z) prd)⟩, ?_, ?_, ?_⟩
      · rw [upd_ne (ne_of_none e lnl)]
        exact s4 _ _ (sc _ _ e)
      · refine List.nodup_append.mpr ⟨nd, List.pairwise_map.mpr ((S.nd.filter c).imp fun ne e => ne (Prod.mk.inj e).2), fun a ha b hb e => ?_⟩
        obtain ⟨u, _, rfl⟩ := List.mem_map.mp hb
        subst e
        have m := (good _ ha).1
        obtain ⟨k, hk, ek⟩ := List.getElem_of_mem m
        rw [List.length_take] at hk
        rw [List.getElem_take] at ek
        have e1 : place ps o = k := place_get S.nd (List.getElem?_eq_some_iff.mpr ⟨_, ek⟩)
        have e2 : place ps o = i := place_get S.nd ho
        have hk' := Nat.lt_of_lt_of_le hk (Nat.min_le_left _ _)
        omega
      · rw [List.length_append, List.length_map]
        omega
      · intro t ht
        rcases List.mem_append.mp ht with h | h
        · obtain ⟨h1, h2⟩ := good t h
          exact ⟨by rw [take_more ho]; exact List.mem_append_left _ h1, h2⟩
        · obtain ⟨u, hu, rfl⟩ := List.mem_map.mp h
          obtain ⟨u1, u2⟩ := List.mem_filter.mp hu
          have u2' : (!decide (V.str o = V.str u) && !decide (u ∈ nbOf qs o)) = true := u2
          rw [Bool.and_eq_true, Bool.not_eq_true', Bool.not_eq_true', decide_eq_false_iff_not, decide_eq_false_iff_not] at u2'
          have ne : o ≠ u := fun e => u2'.1 (congrArg V.str e)
          refine ⟨by rw [take_more ho]; exact List.mem_append_right _ (.head _), u1, ne, ?_⟩
          rw [← S.free mo u1 ne]
          exact decide_eq_false u2'.2
    rintro σ Hc ⟨s2, s3, ts, rfl, sc, pl, nd, ln, good⟩
    rw [List.length_map] at ln good
    rw [List.take_length] at good
    exact ⟨_, rfl, kQ _ l ts sc nl pl nd (by omega) good⟩
end
end K05
namespace K05
open PySem L2 LamX NetM PySem.Spec PyProof.Rows
/-- what Net is asked for by + and - and without -/
structure NetP2 (K : PySem.W.Frag) (A : Adr) : Prop where
  sf : PySem.W.selfFirst K A.a_Net = true
  e_add : PySem.W.findIn K (.ref A.a_Net) (PySem.dunder "add") = some (some (.ref A.f_Net___add__))
  b_add : PySem.W.isFn K (.ref A.f_Net___add__) = true
  i_add : PySem.W.idleIn K "tuple" "add" = true
  e_sub : PySem.W.findIn K (.ref A.a_Net) (PySem.dunder "sub") = some (some (.ref A.f_Net___sub__))
  b_sub : PySem.W.isFn K (.ref A.f_Net___sub__) = true
  i_sub : PySem.W.idleIn K "tuple" "sub" = true
  without : Meth K A.a_Net "without" A.f_Net_without
/-- the name of the lambda of _law_right -/
def jq : Str := (envOfC "_law_right" (defScope s__law_right) 0 0 .none).qual ++ "<lambda>"
/-- a net that the law is at -/
structure St5 (C : Addr) (H : Hp) (x : Addr) (z : Str) (ps : List Str) (qs : List (Str × Str)) (n : Nat) : Prop where
  net : NetAt H C x z ps qs
  ok : SeqOk ps qs
  tied : cutOf (nbOf qs) ps = none
  told : ∃ ts, z = textOf ps ts ∧ LoreOk ps ts ∧ inSeq ps ts = qs
  few : qs.length ≤ n
section
open StrLaws TL
theorem join_sOk {y : Str} {s : Nat} (hy : tl y = [s]) (hs : s < 0x110000) {ws : List Str} (h : ∀ w ∈ ws, PyData.strOk w = true) : PyData.strOk (Txt.join y ws) = true := by
  unfold PyData.strOk
  rw [← Array.all_toList, List.all_eq_true]
  intro c hc
  have hc' : c ∈ tl (Txt.join y ws) := hc
  rw [join_eq, tl_join, hy] at hc'
  rcases joinL_signs s _ _ hc' with e | ⟨w, hw, hcw⟩
  · rw [e]
    exact decide_eq_true hs
  · obtain ⟨z, hz, rfl⟩ := List.mem_map.mp hw
    have q := h z hz
    unfold PyData.strOk at q
    rw [← Array.all_toList, List.all_eq_true] at q
    exact q c hcw
theorem text_ok {ps : List Str} {ts : List (Str × Str)} (L : LoreOk ps ts) : PyData.strOk (textOf ps ts) = true := by
  refine join_sOk (s := 10) (by decide +kernel) (by decide) fun w hw => ?_
  rcases List.mem_cons.mp hw with rfl | hw
  · refine join_sOk (s := 32) (by decide +kernel) (by decide) fun w hw => ?_
    rcases List.mem_cons.mp hw with rfl | hw
    · decide +kernel
    · exact nm_ok (L.nm w hw)
  · obtain ⟨t, ht, rfl⟩ := List.mem_map.mp hw
    refine join_sOk (s := 32) (by decide +kernel) (by decide) fun w hw => ?_
    simp only [List.mem_cons, List.not_mem_nil, or_false] at hw
    rcases hw with rfl | rfl | rfl
    · decide +kernel
    · exact nm_ok (L.nm _ (L.inn t ht).1)
    · exact nm_ok (L.nm _ (L.inn t ht).2)
end
theorem if_rel {T : TT} {A B : TS} {D : Ends} {σ : L2.St} {H : Hp} (RA RB : Hp → Prop) (hT : ∀ R : Bool → Hp → Prop, (∀ H', RA H' → R true H') → (∀ H', RB H' → R false H') → T σ H R)
    (hA : ∀ H', RA H' → A D σ H') (hB : ∀ H', RB H' → B D σ H') : tIfS T A B D σ H := hT _ hA hB
theorem ans_all {K : PySem.W.Frag} {DE : Addr} {tl : (XK → Hp → VK → Prop)} {H0 : Hp} {Q : VK} (Out : Addr → Hp → Prop) (h : ∀ H' t, Out t H' → Q (.ref t) H') (go : ∀ Q' : VK, (∀ H' t, Out t H' → Q' (.ref t) H') → TTans K DE tl H0 Q') : TTans K DE tl H0 Q := go Q h
theorem sub_add {ps : List Str} {qs : List (Str × Str)} (S : SeqOk ps qs) {a b : Str} (ha : a ∈ ps) (hb : b ∈ ps) (ne : a ≠ b) (no : tieIn qs (a, b) = false) :
    (inSeq ps (qs ++ [(a, b)])).filter (fun p => !decide (p ∈ inSeq ps [(b, a)])) = qs := by
  have e : qs = (pairsAll ps).filter (tieIn qs) := S.sq.symm
  refine Eq.trans ?_ e.symm
  show ((pairsAll ps).filter _).filter _ = _
  rw [List.filter_filter]
  refine List.filter_congr fun p hp => ?_
  have m : p ∈ inSeq ps [(b, a)] ↔ p = (b, a) ∨ p = (a, b) := by
    rw [mem_seq, tieIn_iff, List.mem_singleton, List.mem_singleton]
    have e2 : (p.2, p.1) = (b, a) ↔ p = (a, b) := by
      obtain ⟨p1, p2⟩ := p
      simp only [Prod.mk.injEq]
      exact ⟨fun h => ⟨h.2, h.1⟩, fun h => ⟨h.2, h.1⟩⟩
    rw [e2]
    exact ⟨fun h => h.2, fun h => ⟨hp, h⟩⟩
  rw [tie_app, Bool.eq_iff_iff, Bool.and_eq_true, Bool.not_eq_true', decide_eq_false_iff_not, m, Bool.or_eq_true, Bool.or_eq_true, decide_eq_true_iff, decide_eq_true_iff]
  constructor
  · rintro ⟨h1, h2 | h2 | h2⟩
    · exact h2
    · exact absurd (.inr h2) h1
    · exact absurd (.inl h2) h1
  · intro h
    refine ⟨fun z => ?_, .inl h⟩
    rcases z with rfl | rfl
    · rw [tie_sym, no] at h
      cases h
    · rw [no] at h
      cases h
theorem add_add {ps : List Str} {qs : List (Str × Str)} (nd : ps.Nodup) (s t : Str × Str) : inSeq ps (inSeq ps (qs ++ [s]) ++ [t]) = inSeq ps (inSeq ps (qs ++ [t]) ++ [s]) := by
  refine List.filter_congr fun p hp => ?_
  rw [tie_app, tie_app, seq_in nd hp, seq_in nd hp, tie_app, tie_app]
  cases tieIn qs p <;> cases decide (p = s) <;> cases decide (p = (s.2, s.1)) <;> cases decide (p = t) <;> cases decide (p = (t.2, t.1)) <;> rfl
theorem yes_add {ps : List Str} {qs : List (Str × Str)} (nd : ps.Nodup) {a b : Str} (ha : a ∈ ps) (hb : b ∈ ps) (ne : a ≠ b) : tieIn (inSeq ps (qs ++ [(a, b)])) (b, a) = true := by
  obtain ⟨o, ho, eo⟩ := one_way ha hb ne
  have h : tieIn (inSeq ps (qs ++ [(a, b)])) o = true := by
    rw [seq_in nd ho, tie_app]
    rcases eo with rfl | rfl
    · simp
    · simp
  rw [← tie_of (a := b) (b := a) (eo.symm)]
  exact h
theorem no_add {ps : List Str} {qs : List (Str × Str)} (nd : ps.Nodup) {s : Str × Str} {a b : Str} (ha : a ∈ ps) (hb : b ∈ ps) (ne : a ≠ b) (no : tieIn qs (a, b) = false) (n1 : s ≠ (a, b)) (n2 : s ≠ (b, a)) : tieIn (inSeq ps (qs ++ [s])) (a, b) = false := by
  obtain ⟨o, ho, eo⟩ := one_way ha hb ne
  rw [← tie_of eo, seq_in nd ho, tie_of eo, tie_app, no, decide_eq_false fun z => n1 z.symm, decide_eq_false fun z => n2 ?_]
  · rfl
  · obtain ⟨s1, s2⟩ := s
    have := Prod.mk.inj z
    rw [this.1, this.2]
theorem shp_prT {qs : List (Str × Str)} (h : qs.all okP = true) : SeqAt.shaped (.tuple (tieD qs)) = true := by
  refine shaped_of (pr_lay.trans h) ?_
  show PyData.depthAll (tieD qs) + 1 ≤ 60
  have := pr_depth qs
  omega
theorem before_shp {z : Str} {qs : List (Str × Str)} (hz : PyData.strOk z = true) (h : qs.all okP = true) : SeqAt.shaped (.tuple [.str z, .tuple (tieD qs)]) = true := by
  refine shaped_of ?_ ?_
  · have q : PyData.canLayAll0 (tieD qs) = true := pr_lay.trans h
    simp [PyData.canLay0, PyData.canLayAll0, hz, q]
  · have := pr_depth qs
    simp only [PyData.depth, PyData.depthAll]
    omega
theorem seq_le {ps : List Str} {ts : List (Str × Str)} (nd : ps.Nodup) : (inSeq ps ts).length ≤ ts.length := by
  let g : Str × Str → Str × Str := fun t => if t ∈ pairsAll ps then t else (t.2, t.1)
  have := len_sub (l := inSeq ps ts) (m := ts.map g) (seq_nodup nd) fun p hp => by
    obtain ⟨h1, h2⟩ := mem_seq.mp hp
    rcases tieIn_iff.mp h2 with m | m
    · exact List.mem_map.mpr ⟨p, m, if_pos h1⟩
    · exact List.mem_map.mpr ⟨(p.2, p.1), m, if_neg fun z => pairs_anti nd h1 z⟩
  rw [List.length_map] at this
  exact this
theorem lore_seq {ps : List Str} {ts : List (Str × Str)} (L : LoreOk ps ts) : SeqOk ps (inSeq ps ts) := ⟨L.nd, L.h3, L.h16, L.nm, seq_idem L.nd, Nat.le_trans (seq_le L.nd) L.most⟩
def spRight (Pt : Addr) : Sp := fun vs H Q _ => ∃ (p : Addr), vs = [.ref p] ∧ PotAt H p 0 ∧ Tabs [(Pt, jq)] H ∧ ∀ H', ExtP p H H' → Tabs [(Pt, jq)] H' → Q (.bl true) H'
section
variable {P : Program} {w : World} {K : PySem.W.Frag} {mg : Str → Option Value} {base : Heap} {ad : Adr}
theorem sc__law_right : FnScope ["_law_pot_here", "_law_lore_here", "_law_lap", "_law_some_here", "_law_two", "_law_grown", "_law_before", "_law_caught", "_law_less", "_law_again", "_law_net_here", "_law_place", "_law_tie"] ["_law_pot_here"] (defScope s__law_right) := ⟨rfl, rfl, rfl, by decide +kernel, rfl, by decide +kernel, by decide +kernel⟩
theorem ok__law_right {f c Pt fN : Addr} {fdN fdE fdA fdS fdW fd1 fd2 fd3 fd4 fd5 fd6 fd7 fd8 : FuncData} {kV1 dc1 pm1 ct1 oc1 : Value} {an1 od1 : Option Addr} {sl1 : Array (Option Value)} {kV2 dc2 pm2 ct2 oc2 cda : Value} {an2 od2 : Option Addr} {sl2 : Array (Option Value)}
    (lkf : K.lookup f = some ⟨oc1, od1, .func (PySem.W.fnOf "_law_right" "_law_right" (defArgs s__law_right) (defBody s__law_right) (defScope s__law_right) .none kV1 dc1 pm1 an1 (.ref c) ct1), sl1⟩)
    (hcf : PySem.W.codeIn K (.ref c) "_law_right" = true)
    (lka : K.lookup ad.f__law_answer = some ⟨oc2, od2, .func (PySem.W.fnOf "_law_answer" "_law_answer" (defArgs s__law_answer) (defBody s__law_answer) (defScope s__law_answer) .none kV2 dc2 pm2 an2 cda ct2), sl2⟩)
    (hca : PySem.W.codeIn K cda "_law_answer" = true)
    (bna : Binds K (PySem.W.fnOf "_law_answer" "_law_answer" (defArgs s__law_answer) (defBody s__law_answer) (defScope s__law_answer) .none kV2 dc2 pm2 an2 cda ct2) ["_law_look"] [])
    (T : Txt K mg ad) (N : NetC K fN ad.a_Net) (M : NetP K ad) (M2 : NetP2 K ad) (TB : TabB base mg c Pt)
    (G_Net : FnOk P w K mg base (L2.CX P w) 4 fN fdN ["self", "text"] (spNetInit K ad)) (b_Net : Binds K fdN ["self", "text"] [])
    (G_eq : FnOk P w K mg base CX0 1 ad.f_Net___eq__ fdE ["self", "other"] (spEqN K ad)) (b_eq : Binds K fdE ["self", "other"] [])
    (G_add : FnOk P w K mg base (L2.CX P w) 7 ad.f_Net___add__ fdA ["self", "other"] (spAdd ad)) (b_add : Binds K fdA ["self", "other"] [])
    (G_sub : FnOk P w K mg base (L2.CX P w) 7 ad.f_Net___sub__ fdS ["self", "other"] (spSub ad)) (b_sub : Binds K fdS ["self", "other"] [])
    (G_without : FnOk P w K mg base (L2.CX P w) 7 ad.f_Net_without fdW ["self", "place"] (spWithout ad)) (b_without : Binds K fdW ["self", "place"] [])
    (G__law_take : FnOk P w K mg base CX0 1 ad.f__law_take fd1 ["_law_pot_here", "_law_upto"] spTake) (b__law_take : Binds K fd1 ["_law_pot_here", "_law_upto"] [])
    (G__law_of : FnOk P w K mg base CX0 2 ad.f__law_of fd2 ["_law_pot_here", "_law_some_here"] spOf) (b__law_of : Binds K fd2 ["_law_pot_here", "_law_some_here"] [])
    (G__law_some : FnOk P w K mg base CX0 2 ad.f__law_some fd3 ["_law_pot_here", "_law_pool", "_law_wanted"] (spSome K)) (b__law_some : Binds K fd3 ["_law_pot_here", "_law_pool", "_law_wanted"] [])
    (G__law_lore : FnOk P w K mg base CX0 4 ad.f__law_lore fd4 ["_law_pot_here", "_law_most", "_law_laps"] spLore) (b__law_lore : Binds K fd4 ["_law_pot_here", "_law_most", "_law_laps"] [])
    (G__law_net : FnOk P w K mg base CX0 6 ad.f__law_net fd5 ["_law_lore_here"] (spNet ad)) (b__law_net : Binds K fd5 ["_law_lore_here"] [])
    (G__law_agrees : FnOk P w K mg base CX0 5 ad.f__law_agrees fd6 ["_law_net_here"] (spAgrees ad)) (b__law_agrees : Binds K fd6 ["_law_net_here"] [])
    (G__law_is_text_right : FnOk P w K mg base CX0 1 ad.f__law_is_text_right fd7 ["_law_net_here"] (spTextRight ad)) (b__law_is_text_right : Binds K fd7 ["_law_net_here"] [])
    (G__law_missing : FnOk P w K mg base CX0 5 ad.f__law_missing fd8 ["_law_net_here"] (spMissing ad)) (b__law_missing : Binds K fd8 ["_law_net_here"] [])
    (xT : PySem.W.exmOne K (.ref ad.a_NotTied) (.ref ad.a_DrawError) = some true) (xF : PySem.W.exmOne K (.ref ad.a_Few) (.ref ad.a_DrawError) = some true) :
    FnOk P w K mg base CX0 10 f (PySem.W.fnOf "_law_right" "_law_right" (defArgs s__law_right) (defBody s__law_right) (defScope s__law_right) .none kV1 dc1 pm1 an1 (.ref c) ct1) ["_law_pot_here"] (spRight Pt) := by
  refine ⟨fun vs H Q E h => ?_, fun A outer s H args us vs Q E hr e0 hb r hsp => ?_⟩
  · obtain ⟨_, rfl, _⟩ := h
    rfl
  · have hl : vs.length = 1 := by
      obtain ⟨_, rfl, _⟩ := hsp
      rfl
    refine run_ofS lkf hcf sc__law_right hr e0 hb r hl fun hr1 => ?_
    obtain ⟨p, rfl, hp, hT, kQ⟩ := hsp
    have h__law_take := hr1.mono (show 1 ≤ 9 by decide)
    have h__law_of := hr1.mono (show 2 ≤ 9 by decide)
    have h__law_some := hr1.mono (show 2 ≤ 9 by decide)
    have h__law_lore := hr1.mono (show 4 ≤ 9 by decide)
    have h__law_net := hr1.mono (show 6 ≤ 9 by decide)
    have h__law_agrees := hr1.mono (show 5 ≤ 9 by decide)
    have h__law_is_text_right := hr1.mono (show 1 ≤ 9 by decide)
    have h__law_missing := hr1.mono (show 5 ≤ 9 by decide)
    have h1 := hr1.mono (show 1 ≤ 9 by decide)
    have h2 := hr1.mono (show 2 ≤ 9 by decide)
    have h4 := hr1.mono (show 5 ≤ 9 by decide)
    have h7 := hr1.mono (show 7 ≤ 9 by decide)
    have hu64 := hr1.units
    refine ⟨_, (pss_cons (ps_set (i := 1) sc__law_right.nd rfl (Or.inl rfl) (pe_call G__law_lore h__law_lore (by rfl) T.m__law_lore T.k__law_lore b__law_lore .nil pass0 (pa_cons (pv 0) (pa_cons (pe_call G__law_of h__law_of (by rfl) T.m__law_of T.k__law_of b__law_of .nil pass0 (pa_cons (pv 0) (pa_cons (pe_lst (pa_cons pe_int (pa_cons pe_int pa_nil))) pa_nil))) (pa_cons pe_int pa_nil)))))
      (pss_cons (ps_set (i := 10) sc__law_right.nd rfl (Or.inr rfl) (pe_call G__law_net h__law_net (by rfl) T.m__law_net T.k__law_net b__law_net .nil pass0 (pa_cons (pv 1) pa_nil)))
      (pss_cons (ps_for (passes_of rfl) rfl (pi_range1 (by rfl) T.n_range (pa_cons (pe_op op_add pe_int (pe_call G__law_take h__law_take (by rfl) T.m__law_take T.k__law_take b__law_take .nil pass0 (pa_cons (pv 0) (pa_cons pe_int pa_nil)))) pa_nil)) (pg_name (i := 2) sc__law_right.nd rfl (Or.inl rfl)) (pss_cons (ps_set (i := 3) sc__law_right.nd rfl (Or.inl rfl) (pe_call G__law_missing h__law_missing (by rfl) T.m__law_missing T.k__law_missing b__law_missing .nil pass0 (pa_cons (pv 10) pa_nil)))
      (pss_one (ps_if (PW.pt (pw_and (pt_cmpR (op_neD hu64) (pv 3) (pe_lst pa_nil) (nomark _)) (pw_and1 (pt_cmpR op_gt (pe_call G__law_take h__law_take (by rfl) T.m__law_take T.k__law_take b__law_take .nil pass0 (pa_cons (pv 0) (pa_cons pe_int pa_nil))) pe_int (nomark _))))) (pss_cons (ps_set (i := 4) sc__law_right.nd rfl (Or.inl rfl) (pe_call G__law_some h__law_some (by rfl) T.m__law_some T.k__law_some b__law_some .nil pass0 (pa_cons (pv 0) (pa_cons (pv 3) (pa_cons (pe_callB (call_min2 rfl) (by rfl) T.n_min (by decide +kernel) (pa_cons pe_int (pa_cons (pe_callB (kLen (K := K)) (by rfl) T.n_len (by decide +kernel) (pa_cons (pv 3) pa_nil)) pa_nil))) pa_nil)))))
      (pss_cons (ps_set (i := 5) sc__law_right.nd rfl (Or.inl rfl) (pe_op (op_arOwn G_add h7 b_add passN (by rfl) M2.sf M2.e_add M2.b_add M2.i_add) (pv 10) (pe_ix (kIxL (K := K)) (pv 4) pe_int (fun _ _ => rfl))))
      (pss_cons (ps_if (PW.pt (pw_or (pt_cmpR (op_neOwn G_eq h2 b_eq pass0 M.e_ne M.hm M.e_eq M.b_eq) (pe_op (op_arOwn G_sub h7 b_sub passN (by rfl) M2.sf M2.e_sub M2.b_sub M2.i_sub) (pv 5) (pe_back (K := K) (pe_ix (kIxL (K := K)) (pv 4) pe_int (fun _ _ => rfl)) (po_some (pe_un un_neg pe_int)))) (pv 10) (nomark _)) (pw_or (pt_not (pt_val (pe_call G__law_agrees h__law_agrees (by rfl) T.m__law_agrees T.k__law_agrees b__law_agrees .nil pass0 (pa_cons (pv 5) pa_nil)))) (pw_or1 (pt_cmpR op_ne (pe_callB (kLen (K := K)) (by rfl) T.n_len (by decide +kernel) (pa_cons (pe_fld (pv 5) (by rfl)) pa_nil)) (pe_op op_add (pe_callB (kLen (K := K)) (by rfl) T.n_len (by decide +kernel) (pa_cons (pe_fld (pv 10) (by rfl)) pa_nil)) pe_int) (nomark _)))))) (pss_one (ps_ret pe_bl)) pss_nil)
      (pss_cons (ps_if (pt_not (pt_val (pe_call G__law_is_text_right h__law_is_text_right (by rfl) T.m__law_is_text_right T.k__law_is_text_right b__law_is_text_right .nil pass0 (pa_cons (pv 5) pa_nil)))) (pss_one (ps_ret pe_bl)) pss_nil)
      (pss_cons (ps_if (PW.pt (pw_and (pt_cmpR op_eq (pe_callB (kLen (K := K)) (by rfl) T.n_len (by decide +kernel) (pa_cons (pv 4) pa_nil)) pe_int (nomark _)) (pw_and (pt_cmpR (op_neD hu64) (pe_ix (kIxL (K := K)) (pv 4) pe_int (fun _ _ => rfl)) (pe_back (K := K) (pe_ix (kIxL (K := K)) (pv 4) pe_int (fun _ _ => rfl)) (po_some (pe_un un_neg pe_int))) (nomark _)) (pw_and1 (pt_cmpR (op_neOwn G_eq h2 b_eq pass0 M.e_ne M.hm M.e_eq M.b_eq) (pe_op (op_arOwn G_add h7 b_add passN (by rfl) M2.sf M2.e_add M2.b_add M2.i_add) (pv 5) (pe_ix (kIxL (K := K)) (pv 4) pe_int (fun _ _ => rfl))) (pe_op (op_arOwn G_add h7 b_add passN (by rfl) M2.sf M2.e_add M2.b_add M2.i_add) (pe_op (op_arOwn G_add h7 b_add passN (by rfl) M2.sf M2.e_add M2.b_add M2.i_add) (pv 10) (pe_ix (kIxL (K := K)) (pv 4) pe_int (fun _ _ => rfl))) (pe_ix (kIxL (K := K)) (pv 4) pe_int (fun _ _ => rfl))) (nomark _)))))) (pss_one (ps_ret pe_bl)) pss_nil)
      (pss_one (ps_set (i := 10) sc__law_right.nd rfl (Or.inr rfl) (pv 5)))))))) (pss_cons (ps_asg (pe_tup (pa_cons (pe_call G__law_of h__law_of (by rfl) T.m__law_of T.k__law_of b__law_of .nil pass0 (pa_cons (pv 0) (pa_cons (pe_callTy (kListOf (K := K)) (by rfl) T.n_list (by decide +kernel) (pa_cons (pe_fld (pv 10) (by rfl)) pa_nil)) pa_nil))) (pa_cons (pe_call G__law_of h__law_of (by rfl) T.m__law_of T.k__law_of b__law_of .nil pass0 (pa_cons (pv 0) (pa_cons (pe_callTy (kListOf (K := K)) (by rfl) T.n_list (by decide +kernel) (pa_cons (pe_fld (pv 10) (by rfl)) pa_nil)) pa_nil))) pa_nil))) (kTgt (K := K) (n := 2) (by rfl) (pgs_cons (pg_name (i := 12) sc__law_right.nd rfl (Or.inr rfl)) (pgs_cons (pg_name (i := 11) sc__law_right.nd rfl (Or.inr rfl)) pgs_nil))))
      (pss_cons (ps_set (i := 6) sc__law_right.nd rfl (Or.inl rfl) (pe_tup (pa_cons (pe_fld (pv 10) (by rfl)) (pa_cons (pe_fld (pv 10) (by rfl)) pa_nil))))
      (pss_cons (ps_asg (pe_lamcallS (c := c) (P := Pt) (T := [(Pt, jq)]) (Ng := ["_law_look", "_law_caught", "_law_reply", "error"]) (k := 7) (by rfl) T.m__law_answer T.k__law_answer lka hca bna sc__law_answer rfl (Or.inl rfl) (answer_gives T) TB rfl (List.mem_singleton.mpr rfl) (fun p hp _ => by rw [List.mem_singleton.mp hp]; rfl) hr1 (lamS_by (sc := defScope s__law_right) (by decide +kernel)) (by rfl) (fun _ _ _ _ _ => rfl) (fun A outer s H E f c' hr2 => (pe_ifExp (pt_cmpR op_eq (pe_call G__law_take (hr2.mono (show 1 ≤ 7 by decide)) (by rfl) T.m__law_take T.k__law_take b__law_take .nil pass0 (pa_cons (pv 0) (pa_cons pe_int pa_nil))) pe_int (nomark _)) (pe_op (op_arOwn G_sub hr2 b_sub (passes_call (takes_of rfl rfl rfl rfl) fun _ _ _ _ h => h) (by rfl) M2.sf M2.e_sub M2.b_sub M2.i_sub) (pv 10) (pv 12)) (pe_meth (pv 10) N.cls M2.without G_without hr2 b_without .nil (passes_call (takes_of rfl rfl rfl rfl) fun _ _ _ _ h => h) (pa_cons (pv 11) pa_nil))))) (kTgt (K := K) (n := 2) (by rfl) (pgs_cons (pg_name (i := 7) sc__law_right.nd rfl (Or.inl rfl)) (pgs_cons (pg_name (i := 8) sc__law_right.nd rfl (Or.inl rfl)) pgs_nil))))
      (pss_cons (ps_if (pt_cmpR (op_neD hu64) (pe_tup (pa_cons (pe_fld (pv 10) (by rfl)) (pa_cons (pe_fld (pv 10) (by rfl)) pa_nil))) (pv 6) (nomark _)) (pss_one (ps_ret pe_bl)) pss_nil)
      (pss_cons (ps_if (PW.pt (pw_and (pt_cmpR op_isN (pv 7) pe_non (nomark _)) (pw_and1 (PW.pt (pw_or (pt_not (pt_val (pe_call G__law_agrees h__law_agrees (by rfl) T.m__law_agrees T.k__law_agrees b__law_agrees .nil pass0 (pa_cons (pv 8) pa_nil)))) (pw_or1 (pt_not (pt_val (pe_call G__law_is_text_right h__law_is_text_right (by rfl) T.m__law_is_text_right T.k__law_is_text_right b__law_is_text_right .nil pass0 (pa_cons (pv 8) pa_nil)))))))))) (pss_one (ps_ret pe_bl)) pss_nil)
      (pss_one (ps_set (i := 10) sc__law_right.nd rfl (Or.inr rfl) (pe_ifExp (pt_cmpR op_notN (pv 7) pe_non (nomark _)) (pv 10) (pv 8)))))))))))))
      (pss_cons (ps_set (i := 9) sc__law_right.nd rfl (Or.inl rfl) (pe_make N.mkN G_Net h4 (by rfl) T.m_Net b_Net .nil passN (pa_cons (pe_fld (pv 10) (by rfl)) pa_nil)))
      (pss_one (ps_ret (pe_and (pe_cmpR (op_eqOwn G_eq h1 b_eq pass0 M.e_eq M.b_eq) (pv 9) (pv 10) (nomark _)) (pe_and (pe_cmpR op_eq (pe_fld (pv 9) (by rfl)) (pe_fld (pv 10) (by rfl)) (nomark _)) (pe_and (pe_call G__law_agrees h__law_agrees (by rfl) T.m__law_agrees T.k__law_agrees b__law_agrees .nil pass0 (pa_cons (pv 9) pa_nil)) (pe_one (pe_cmpR (op_eqD hu64) (pe_fld (pv 9) (by rfl)) (pe_fld (pv 10) (by rfl)) (nomark _)))))))))))), ?_⟩
    refine ⟨_, rfl, _, rfl, by show 2 ≤ sizeLine; decide, fun l1 nl1 => ?_⟩
    have s1 : Same H (upd H l1 (.lst [V.int 9, V.int 16])) := same_new nl1
    have pl1 : p ≠ l1 := ne_of_none (potAt_len hp).choose_spec nl1
    refine ⟨p, l1, 0, [V.int 9, V.int 16], rfl, hp.same s1, by decide, pl1, upd_same, by decide, by decide, fun H2 m b2 p2 hm => ?_⟩
    have b12 : SameBut p H H2 := fun b o nb e => b2 _ _ nb (s1 _ _ e)
    obtain ⟨Mx, rfl, hM⟩ : ∃ Mx : Int, m = .int Mx ∧ (Mx = 9 ∨ Mx = 16) := by
      simp only [List.mem_cons, List.not_mem_nil, or_false] at hm
      rcases hm with rfl | rfl
      · exact ⟨_, rfl, .inl rfl⟩
      · exact ⟨_, rfl, .inr rfl⟩
    have T2 := tabs_pot hT hp b12
    refine ⟨p, _, Mx, 9, rfl, p2, by omega, by omega, by omega, by decide, by decide, fun H3 t ps ties b3 p3 l3 L m9 lc _ => ?_⟩
    have T3 := tabs_pot T2 p2 b3
    refine ⟨_, rfl, t, ps, ties, rfl, l3, L, fun H4 x s4 n4 => ?_⟩
    have p4 := p3.ext (sExt s4)
    have T4 := T3.ext s4
    have e4 : ExtP p H H4 := ExtP.trans (ExtP.of_but b12) (ExtP.trans (ExtP.of_but b3) (ExtP.of_ext (sExt s4)))
    refine ⟨_, rfl, p, _, 10, rfl, p4, by omega, by decide, by decide, fun H5 d b5 p5 d0 d1 => ?_⟩
    refine ⟨_, _, rfl, rfl, 1 + d, rfl, by omega, by omega, ?_⟩
    have T5 := tabs_pot T4 p4 b5
    have e5 : ExtP p H H5 := ExtP.trans e4 (ExtP.of_but b5)
    have h16 := L.h16
    have st5 : St5 ad.a_Net H5 x (textOf ps ties) ps (inSeq ps ties) 25 := ⟨net_but n4 p4 b5, lore_seq L, L.tied, ⟨ties, rfl, L, rfl⟩, Nat.le_trans (seq_le L.nd) (by omega)⟩
    refine for_it (walk_range (lo := 0) (n := (1 + d).toNat)) (fun i σ Hc => ∃ (x : Addr) (z : Str) (ps : List Str) (qs : List (Str × Str)) (s2 s3 s4 s5 s6 s7 s8 s11 s12 : Option V), σ = [some (.ref p), some (.ref t), s2, s3, s4, s5, s6, s7, s8, none, some (.ref x), s11, s12] ∧
        St5 ad.a_Net Hc x z ps qs (25 + i) ∧ PotAt Hc p (310 + 10 * i) ∧ ExtP p H Hc ∧ Tabs [(Pt, jq)] Hc)
      ⟨x, _, ps, _, none, none, none, none, none, none, none, none, none, rfl, st5, pot_mono p5 (by omega), e5, T5⟩ (fun _ _ _ _ _ => trivial) ?_ ?_
    · rintro i y σ H' Hc hi ⟨x, z, ps, qs, s2, s3, s4, s5, s6, s7, s8, s11, s12, rfl, st, pc, ec, Tc⟩ ⟨rfl, rfl⟩
      have S := st.ok
      refine ⟨_, rfl, x, z, ps, qs, rfl, st.net, S, fun H1 l ts s1 nl pl nd len good => ?_⟩
      have p1 := pc.ext (sExt s1)
      have T1 := Tc.ext s1
      have lp : p ≠ l := ne_of_none (potAt_len pc).choose_spec nl
      have okts : ts.all okP = true := List.all_eq_true.mpr fun t ht => by
        obtain ⟨i1, i2, _⟩ := good t ht
        unfold okP
        rw [nm_ok (S.nm _ i1), nm_ok (S.nm _ i2)]
        rfl
      delta gName tSeq tAsg
      dsimp only
      refine if_rel (fun Ha => ExtP p Hc Ha ∧ PotAt Ha p (310 + 10 * i + 1) ∧ Tabs [(Pt, jq)] Ha ∧ PairsL Ha l ts ∧ ts ≠ []) (fun Ha => ExtP p Hc Ha ∧ PotAt Ha p (310 + 10 * i + 1) ∧ Tabs [(Pt, jq)] Ha) (fun R hA hB => ?_) (fun Ha ⟨ea, pa, Ta, pla, tne⟩ => ?_) (fun Ha ⟨ea, pa, Ta⟩ => ?_)
      · refine ⟨_, rfl, by show 0 ≤ sizeLine; decide, fun e ne => ?_⟩
        have s2 : Same H1 (upd H1 e (.lst ([] : List V))) := same_new ne
        refine ⟨.list (ts.map pD), .list [], dp_pairsL (pl.same s2), .lst (SqL.of upd_same) .nil, pDs_shaped okts, rfl, _, rfl, ?_⟩
        have s12 := Same.trans s1 s2
        cases ts with
        | nil => exact if_eqF rfl (hB _ ⟨ExtP.of_ext (sExt s12), pot_mono (p1.ext (sExt s2)) (by omega), T1.ext s2⟩)
        | cons t0 tr =>
          refine if_eqT rfl ?_
          refine ⟨_, rfl, p, _, 3, rfl, p1.ext (sExt s2), by omega, by decide, by decide, fun H3 d b3 p3 d0 d1 => ?_⟩
          have e3 : ExtP p Hc H3 := ExtP.trans (ExtP.of_ext (sExt s12)) (ExtP.of_but b3)
          have T3 := tabs_pot (T1.ext s2) (p1.ext (sExt s2)) b3
          refine ⟨_, _, rfl, rfl, _, rfl, ?_⟩
          by_cases hd : (0 : Int) < d
          · rw [decide_eq_true hd]
            exact (hA _ ⟨e3, p3, T3, pairs_but (pl.same s2) (p1.ext (sExt s2)) lp.symm b3, by simp⟩)
          · rw [decide_eq_false hd]
            exact (hB _ ⟨e3, p3, T3⟩)
      · have neta := net_extP st.net pc ea
        obtain ⟨dx, na, nt, nn, g1, g2, ⟨as, g3, pr⟩, g4⟩ := id neta
        obtain ⟨bs0, hl, prl⟩ := id pla
        have lb := Paired.length prl
        have lt1 : 1 ≤ ts.length := by
          cases ts with
          | nil => exact absurd rfl tne
          | cons _ _ => simp
        refine ⟨_, rfl, _, rfl, _, rfl, l, _, rfl, .inl (SqL.of hl), _, _, rfl, p, l, _, min 2 ts.length, bs0.map V.ref, ?_, pa, by omega, lp, hl, ?_, ?_, fun H2 q ys b2 p2 nq hq ly my => ?_⟩
        · rw [List.length_map, lb]
          have e : (if ((ts.length : Nat) : Int) < 2 then ((ts.length : Nat) : Int) else 2) = ((min 2 ts.length : Nat) : Int) := by
            split <;> omega
          rw [e]
          rfl
        · rw [List.length_map, lb]
          omega
        · rw [List.length_map, lb]
          omega
        obtain ⟨zs, pz⟩ := my
        have pr2 : Paired (PairAt H2) bs0 ts := Paired.weak (fun _ _ z => b2 _ _ (pot_ne pa z) z) prl
        obtain ⟨bs, us, eys, pu, pus⟩ := pairs_perm pr2 pz
        have lus : us.length = ts.length := pus.length_eq
        obtain ⟨b0, br, a0, c0, ur, rfl, rfl, f0, fr⟩ : ∃ b0 br a0 c0 ur, bs = b0 :: br ∧ us = (a0, c0) :: ur ∧ PairAt H2 b0 (a0, c0) ∧ Paired (PairAt H2) br ur := by
          cases pu with
          | nil => exact absurd lus (by show ¬ (0 = ts.length); omega)
          | @cons a b l m f r => exact ⟨a, l, b.1, b.2, m, rfl, rfl, f, r⟩
        obtain ⟨yr, rfl, eyr⟩ : ∃ yr, ys = .ref b0 :: yr ∧ yr ++ zs = br.map V.ref := by
          cases ys with
          | nil => exact absurd ly (by show ¬ (0 = min 2 ts.length); omega)
          | cons y yr =>
            have e := List.cons.inj (show y :: (yr ++ zs) = V.ref b0 :: br.map V.ref from eys)
            exact ⟨yr, by rw [e.1], e.2⟩
        obtain ⟨ma, mc, ac, no⟩ := good (a0, c0) (pus.mem_iff.mp (.head _))
        have few := st.few
        have ip : i < (1 + d).toNat := hi
        have net2 := net_but neta pa b2
        have T2 := tabs_pot Ta pa b2
        have e2 : ExtP p Hc H2 := ExtP.trans ea (ExtP.of_but b2)
        obtain ⟨dx2, na2, nt2, nn2, k1, k2, ⟨as2, k3, pr3⟩, k4⟩ := id net2
        refine ⟨_, rfl, _, rfl, q, _, (0 : Int), .ref b0, rfl, rfl, SqL.of hq, atI_nat (j := 0) rfl, ?_⟩
        refine ⟨x, dx2, _, b0, _, rfl, k1, rfl, f0, x, b0, a0, c0, z, ps, qs, rfl, net2, S, st.tied, f0, ma, mc, ac, no, by omega, fun H3 y s3 n3 => ⟨y, rfl, ?_⟩⟩
        have S1 := S.add ma mc ac no (by omega)
        have c1 := S.add_cut (a0, c0) st.tied
        have hq3 := s3 _ _ hq
        have f03 := s3 _ _ f0
        refine ⟨_, rfl, _, rfl, q, _, (0 : Int), .ref b0, rfl, rfl, SqL.of hq3, atI_nat (j := 0) rfl, _, rfl, _, rfl, rfl, b0, _, rfl, .inr ⟨SqT.of f03, fun cc ncc => ?_⟩⟩
        have s4 := same_new (o := .tup [V.str c0, V.str a0]) ncc
        have f4 : upd H3 cc (.tup [V.str c0, V.str a0]) cc = some (.tup [V.str c0, V.str a0]) := upd_same
        obtain ⟨dy, nay, nty, nny, j1, j2, ⟨asy, j3, pry⟩, j4⟩ := id n3
        refine ⟨y, dy, _, cc, _, rfl, s4 _ _ j1, rfl, f4, y, cc, c0, a0, _, ps, _, rfl, n3.same s4, S1, f4, mc, ma, ac.symm, yes_add S.nd ma mc ac, fun u cu => ?_, fun cn H5 w s5 n5 => ⟨w, rfl, ?_⟩⟩
        · rw [sub_add S ma mc ac no, st.tied] at cu
          cases cu
        rw [sub_add S ma mc ac no] at n5
        have s35 := Same.trans s4 s5
        have s25 := Same.trans s3 s35
        have net5 := net2.same s25
        have ok1 := S.okps
        have ok2 := S.okqs
        refine ⟨_, rfl, ?_⟩
        refine rne_net N M n5 net5 ok1 ok1 ok2 ok2 ?_
        refine ⟨_, rfl, if_eqF (by simp) ?_⟩
        refine ⟨_, rfl, y, _, _, _, rfl, n3.same s35, S1, fun H6 s6 => ⟨true, rfl, if_eqF rfl ?_⟩⟩
        have s36 := Same.trans s35 s6
        have s26 := Same.trans s3 s36
        refine ⟨_, rfl, y, ad.a_Net, dy, _, _, rfl, s36 _ _ j1, N.cls, N.n_ties, rfl, nty, _, rfl, .inr (SqT.of (s36 _ _ j3)), ?_⟩
        refine ⟨_, rfl, x, ad.a_Net, dx2, _, _, rfl, s26 _ _ k1, N.cls, N.n_ties, rfl, nt2, _, rfl, .inr (SqT.of (s26 _ _ k3)), ?_⟩
        refine ⟨_, _, rfl, rfl, rfl, _, rfl, if_eqF ?_ ?_⟩
        · rw [List.length_map, List.length_map, Paired.length pry, Paired.length pr3, seq_more S.nd ma mc ac no, S.sq]
          have e : V.int (((qs.length + 1 : Nat)) : Int) = V.int ((qs.length : Int) + 1) := by rw [Int.natCast_add]; rfl
          rw [e, decide_eq_true rfl]
          rfl
        refine ⟨_, rfl, y, _, _, rfl, n3.same s36, S1, fun H7 s7 => ⟨true, rfl, if_eqF rfl ?_⟩⟩
        have s37 := Same.trans s36 s7
        have s27 := Same.trans s26 s7
        have hq7 := s37 _ _ hq3
        have f07 := s37 _ _ f03
        delta tNext
        dsimp only
        refine if_rel (fun _ => False) (fun Hb => Same H7 Hb) (fun R _ hB => ?_) (fun Hb z => z.elim) (fun Hb s8 => ?_)
        · refine ⟨_, rfl, q, _, rfl, .inl (SqL.of hq7), rfl, _, rfl, ?_⟩
          by_cases h2 : ts.length = 1
          · refine if_eqF ?_ (hB _ fun _ _ e => e)
            have e : (V.ref b0 :: yr).length = 1 := by rw [ly, h2]; rfl
            rw [e]
            exact decide_eq_false fun z => by cases z
          have e2' : (V.ref b0 :: yr).length = 2 := by rw [ly]; omega
          refine if_eqT (by rw [e2']; exact decide_eq_true rfl) ?_
          obtain ⟨b1, br2, a1', c1', ur2, rfl, rfl, f1, fr2⟩ : ∃ b1 br2 a1 c1 ur2, br = b1 :: br2 ∧ ur = (a1, c1) :: ur2 ∧ PairAt H2 b1 (a1, c1) ∧ Paired (PairAt H2) br2 ur2 := by
            cases fr with
            | nil => exact absurd lus (by show ¬ (1 = ts.length); omega)
            | @cons a b l m f r => exact ⟨a, l, b.1, b.2, m, rfl, rfl, f, r⟩
          obtain rfl : yr = [.ref b1] := by
            match yr, e2' with
            | [y1], _ =>
              have e := List.cons.inj (show y1 :: zs = V.ref b1 :: br2.map V.ref from eyr)
              rw [e.1]
          obtain ⟨ma1, mc1, ac1, no1⟩ := good (a1', c1') (pus.mem_iff.mp (.tail _ (.head _)))
          have n01 : (a0, c0) ≠ (a1', c1') := by
            have ndu := pus.nodup_iff.mpr nd
            exact fun z => (List.nodup_cons.mp ndu).1 (z ▸ .head _)
          have f17 := s37 _ _ (s3 _ _ f1)
          have okp : ∀ {u v : Str}, u ∈ ps → v ∈ ps → okP (u, v) = true := fun hu hv => by
            unfold okP
            rw [nm_ok (S.nm _ hu), nm_ok (S.nm _ hv)]
            rfl
          refine ⟨_, rfl, q, _, (0 : Int), .ref b0, rfl, rfl, SqL.of hq7, atI_nat (j := 0) rfl, _, rfl, q, _, (1 : Int), .ref b1, rfl, rfl, SqL.of hq7, atI_nat (j := 1) rfl, _, rfl, _, rfl, rfl, b1, _, rfl, .inr ⟨SqT.of f17, fun ce nce => ?_⟩⟩
          have s8 := same_new (o := .tup [V.str c1', V.str a1']) nce
          have f8 : upd H7 ce (.tup [V.str c1', V.str a1']) ce = some (.tup [V.str c1', V.str a1']) := upd_same
          refine ⟨pD (a0, c0), pD (c1', a1'), dp_pair (s8 _ _ f07), dp_pair f8, pD_shaped (okp ma mc), pD_shaped (okp mc1 ma1), _, rfl, ?_⟩
          rw [pD_eqv]
          by_cases eq : (a0, c0) = (c1', a1')
          · exact if_eqF (by rw [decide_eq_true eq]; rfl) (hB _ s8)
          refine if_eqT (by rw [decide_eq_false eq]; rfl) ?_
          have s38 := Same.trans s37 s8
          have s28 := Same.trans s3 s38
          have g18 := s8 _ _ f17
          have g08 := s8 _ _ f07
          have hq8 := s8 _ _ hq7
          have hB8 := fun H' (s : Same _ H') => hB H' (Same.trans s8 s)
          rw [show ([V.str (a1', c1').1, V.str (a1', c1').2] : List V).reverse = [V.str c1', V.str a1'] from rfl]
          generalize upd H7 ce (.tup [V.str c1', V.str a1']) = H8 at s8 f8 s38 s28 g18 g08 hq8 hB8 ⊢
          have n11 := no_add (s := (a0, c0)) S.nd ma1 mc1 ac1 no1 n01 eq
          have n00 := no_add (s := (a1', c1')) S.nd ma mc ac no (fun z => n01 z.symm) (fun z => eq (by rw [Prod.mk.injEq] at z ⊢; exact ⟨z.2.symm, z.1.symm⟩))
          have l1 : (inSeq ps (qs ++ [(a0, c0)])).length ≤ 44 := by rw [seq_more S.nd ma mc ac no, S.sq]; omega
          have l2 : (inSeq ps (qs ++ [(a1', c1')])).length ≤ 44 := by rw [seq_more S.nd ma1 mc1 ac1 no1, S.sq]; omega
          have S2 := S.add ma1 mc1 ac1 no1 (by omega)
          have c2 := S.add_cut (a1', c1') st.tied
          refine ⟨_, rfl, _, rfl, q, _, (1 : Int), .ref b1, rfl, rfl, SqL.of hq8, atI_nat (j := 1) rfl, ?_⟩
          refine ⟨y, dy, _, b1, _, rfl, s38 _ _ j1, rfl, g18, y, b1, a1', c1', _, ps, _, rfl, n3.same s38, S1, c1, g18, ma1, mc1, ac1, n11, by omega, fun H9 w9 s9 n9 => ⟨w9, rfl, ?_⟩⟩
          refine ⟨_, rfl, _, rfl, q, _, (1 : Int), .ref b1, rfl, rfl, SqL.of (s9 _ _ hq8), atI_nat (j := 1) rfl, ?_⟩
          have s29 := Same.trans s28 s9
          refine ⟨x, dx2, _, b1, _, rfl, s29 _ _ k1, rfl, s9 _ _ g18, x, b1, a1', c1', _, ps, _, rfl, net2.same s29, S, st.tied, s9 _ _ g18, ma1, mc1, ac1, no1, by omega, fun H10 w10 s10 n10 => ⟨w10, rfl, ?_⟩⟩
          have s810 := Same.trans s9 s10
          obtain ⟨d10, _, _, _, i1, _⟩ := id n10
          refine ⟨_, rfl, q, _, (0 : Int), .ref b0, rfl, rfl, SqL.of (s810 _ _ hq8), atI_nat (j := 0) rfl, ?_⟩
          refine ⟨w10, d10, _, b0, _, rfl, i1, rfl, s810 _ _ g08, w10, b0, a0, c0, _, ps, _, rfl, n10, S2, c2, s810 _ _ g08, ma, mc, ac, n00, by omega, fun H11 w11 s11 n11' => ⟨w11, rfl, ?_⟩⟩
          have S12 := S1.add ma1 mc1 ac1 n11 (Nat.lt_of_le_of_lt l1 (by decide))
          have S21 := S2.add ma mc ac n00 (Nat.lt_of_le_of_lt l2 (by decide))
          refine rne_net N M (n9.same (Same.trans s10 s11)) n11' ok1 ok1 S12.okqs S21.okqs ?_
          refine ⟨_, rfl, ?_⟩
          rw [add_add S.nd (a0, c0) (a1', c1'), decide_eq_true (rfl : ps = ps), decide_eq_true rfl]
          exact hB8 _ (Same.trans s810 s11)
        have s3b := Same.trans s37 s8
        have s2b := Same.trans s3 s3b
        refine ⟨_, rfl, y, _, ps, _, _, _, _, _, _, _, _, _, _, rfl, ⟨n3.same s3b, S1, c1, ⟨_, rfl, S1.lore c1, S1.sq⟩, ?_⟩, pot_mono (p2.ext (sExt s2b)) (by omega), ExtP.trans ec (ExtP.trans e2 (ExtP.of_ext (sExt s2b))), T2.ext s2b⟩
        rw [seq_more S.nd ma mc ac no, S.sq]
        omega
      have neta := net_extP st.net pc ea
      have few := st.few
      have ip : i < (1 + d).toNat := hi
      have h3 := S.h3
      obtain ⟨dx, na, nt, nn, g1, ⟨ob, obc, obd, g2⟩, ⟨as, g3, pr⟩, g4⟩ := id neta
      have lal := Paired.length pr
      have q3 : 3 ≤ qs.length := by
        have c' : cutOf (nbOf (inSeq ps qs)) ps = none := by rw [S.sq]; exact st.tied
        have := few_ties S.nd S.h3 c'
        rw [S.sq] at this
        exact this
      have most := S.most
      have h16' := S.h16
      refine ⟨_, rfl, _, rfl, x, ad.a_Net, dx, _, _, rfl, g1, N.cls, N.n_ties, rfl, nt, _, rfl, .inr (SqT.of g3), fun l2 nl2 => ?_⟩
      have s2 : Same Ha (upd Ha l2 (.lst (as.map V.ref))) := same_new nl2
      have pl2 : p ≠ l2 := ne_of_none (potAt_len pa).choose_spec nl2
      refine ⟨p, l2, _, _, rfl, pa.ext (sExt s2), by omega, pl2, upd_same, by rw [List.length_map, lal]; omega, by rw [List.length_map, lal]; omega, fun H2 v b2 p2 hv => ?_⟩
      obtain ⟨u, hu, rfl⟩ := List.mem_map.mp hv
      obtain ⟨⟨ta, tc⟩, htq, pu⟩ := paired_left pr u hu
      have b2' : SameBut p Ha H2 := fun b o nb e => b2 _ _ nb (s2 _ _ e)
      have net2 := net_but neta pa b2'
      have T2 := tabs_pot Ta pa b2'
      have pu2 : PairAt H2 u (ta, tc) := b2' _ _ (pot_ne pa pu) pu
      obtain ⟨dx2, na2, nt2, nn2, g12, ⟨ob2, _, _, g22⟩, _⟩ := id net2
      refine ⟨_, rfl, _, rfl, x, ad.a_Net, dx2, _, _, rfl, g12, N.cls, N.n_places, rfl, na2, _, rfl, .inr (SqF.of g22), fun l3 nl3 => ?_⟩
      have s3 : Same H2 (upd H2 l3 (.lst (ps.map V.str))) := same_new nl3
      have pl3 : p ≠ l3 := ne_of_none (potAt_len p2).choose_spec nl3
      refine ⟨p, l3, _, _, rfl, p2.ext (sExt s3), by omega, pl3, upd_same, by rw [List.length_map]; omega, by rw [List.length_map]; omega, fun H3 v b3 p3 hv => ?_⟩
      obtain ⟨o, mo, rfl⟩ := List.mem_map.mp hv
      have b3' : SameBut p H2 H3 := fun b o nb e => b3 _ _ nb (s3 _ _ e)
      have b13 : SameBut p Ha H3 := fun b o nb e => b3' _ _ nb (b2' _ _ nb e)
      have net3 := net_but neta pa b13
      have T3 := tabs_pot T2 p2 b3'
      have pu3 : PairAt H3 u (ta, tc) := b13 _ _ (pot_ne pa pu) pu
      refine ⟨by show 2 ≤ sizeLine; decide, fun c2 nc2 => ⟨c2, _, rfl, SqT.of upd_same, rfl, _, _, rfl, _, _, rfl, rfl, ?_⟩⟩
      have s4 : Same H3 (upd H3 c2 (.tup [V.ref u, V.str o])) := same_new nc2
      generalize upd H3 c2 (.tup [V.ref u, V.str o]) = H4 at s4 ⊢
      have net4 := net3.same s4
      obtain ⟨dx4, na4, nt4, nn4, g14, ⟨ob4, _, _, g24⟩, ⟨as4, g34, pr4⟩, _⟩ := id net4
      refine ⟨_, rfl, x, ad.a_Net, dx4, _, _, rfl, g14, N.cls, N.n_text, rfl, _, rfl, x, ad.a_Net, dx4, _, _, rfl, g14, N.cls, N.n_ties, rfl, by show 2 ≤ sizeLine; decide, fun cb ncb => ?_⟩
      have s5 : Same H4 (upd H4 cb (.tup [V.str z, V.ref nt4])) := same_new ncb
      have f5 : upd H4 cb (.tup [V.str z, V.ref nt4]) cb = some (.tup [V.str z, V.ref nt4]) := upd_same
      generalize upd H4 cb (.tup [V.str z, V.ref nt4]) = H5 at s5 f5 ⊢
      have s35 := Same.trans s4 s5
      have net5 := net3.same s35
      have T5 := T3.ext s35
      have p5' := p3.ext (sExt s35)
      have e5' : ExtP p Hc H5 := ExtP.trans ea (ExtP.trans (ExtP.of_but b13) (ExtP.of_ext (sExt s35)))
      have pu5 := s35 _ _ pu3
      let Out : Addr → Hp → Prop := fun tt Hf => ∃ v w', Hf tt = some (.tup [v, w']) ∧ ExtP p H5 Hf ∧ PotAt Hf p (310 + 10 * i + 1 + 1 + 1 + 1) ∧ Tabs [(Pt, jq)] Hf ∧
        (((∃ a, v = .ref a) ∧ w' = .non) ∨ (v = .non ∧ ∃ y ps' qs', w' = .ref y ∧ St5 ad.a_Net Hf y (textOf ps' qs') ps' qs' (25 + (i + 1))))
      refine ⟨T5, fun H6 e6 T6 => ans_all Out (fun Hf tt out => ?_) (fun Q' hQ' => ?_)⟩
      · obtain ⟨v, w', ft, ef, pf, Tf, alt⟩ := out
        have netf := net_extP net5 p5' ef
        obtain ⟨dxf, naf, ntf, nnf, k1, _, ⟨asf, k3, prf⟩, _⟩ := id netf
        have cbp : cb ≠ p := (ne_of_none (potAt_len (p3.ext (sExt s4))).choose_spec ncb).symm
        have f5f := ef _ _ cbp f5 (fun _ z => by cases z)
        have g345 := s5 _ _ g34
        have g34f := ef _ _ (pot_ne p5' g345) g345 (fun _ z => by cases z)
        have pr4f : Paired (PairAt Hf) as4 qs := Paired.weak (fun _ _ z => ef _ _ (pot_ne p5' (s5 _ _ z)) (s5 _ _ z) (fun _ z => by cases z)) pr4
        obtain ⟨tsz, ez, Lz, eqz⟩ := st.told
        have okz : PyData.strOk z = true := by rw [ez]; exact text_ok Lz
        refine ⟨tt, _, rfl, SqT.of ft, rfl, _, _, rfl, _, _, rfl, rfl, ?_⟩
        refine ⟨_, rfl, x, ad.a_Net, dxf, _, _, rfl, k1, N.cls, N.n_text, rfl, _, rfl, x, ad.a_Net, dxf, _, _, rfl, k1, N.cls, N.n_ties, rfl, by show 2 ≤ sizeLine; decide, fun cc ncc => ?_⟩
        have sc' : Same Hf (upd Hf cc (.tup [V.str z, V.ref ntf])) := same_new ncc
        have fcc : upd Hf cc (.tup [V.str z, V.ref ntf]) cc = some (.tup [V.str z, V.ref ntf]) := upd_same
        generalize upd Hf cc (.tup [V.str z, V.ref ntf]) = Hg at sc' fcc ⊢
        have shp := before_shp okz S.okqs
        refine ⟨_, rfl, .tuple [.str z, .tuple (tieD qs)], .tuple [.str z, .tuple (tieD qs)], .tup (SqT.of fcc) (.cons (.str _) (.cons (.tup (SqT.of (sc' _ _ k3)) (pr_all (Paired.weak (fun _ _ z => sc' _ _ z) prf))) .nil)),
          .tup (SqT.of (sc' _ _ f5f)) (.cons (.str _) (.cons (.tup (SqT.of (sc' _ _ g34f)) (pr_all (Paired.weak (fun _ _ z => sc' _ _ z) pr4f))) .nil)), shp, shp, _, rfl, if_eqF (by rw [SeqAt.eqv_refl _ (SeqAt.canLay_of_shaped shp)]; rfl) ?_⟩
        have eg : ExtP p H Hg := ExtP.trans ec (ExtP.trans e5' (ExtP.trans ef (ExtP.of_ext (sExt sc'))))
        have pg := pf.ext (sExt sc')
        have Tg := Tf.ext sc'
        rcases alt with ⟨⟨a, rfl⟩, rfl⟩ | ⟨rfl, y, ps', qs', rfl, sty⟩
        · refine ⟨_, rfl, rfl, _, rfl, if_eqF (by rfl) ?_⟩
          refine ⟨_, rfl, rfl, _, rfl, if_eqT (by rfl) ?_⟩
          exact ⟨_, rfl, x, z, ps, qs, _, _, _, _, _, _, _, _, _, rfl, ⟨netf.same sc', S, st.tied, st.told, by omega⟩, pot_mono pg (by omega), eg, Tg⟩
        · refine ⟨_, rfl, rfl, _, rfl, if_eqT (by rfl) ?_⟩
          have sn := sty.net.same sc'
          refine ⟨_, rfl, y, _, _, _, rfl, sn, sty.ok, fun Hh sh => ⟨true, rfl, if_eqF rfl ?_⟩⟩
          refine ⟨_, rfl, y, _, _, rfl, sn.same sh, sty.ok, fun Hi si => ⟨true, rfl, if_eqF rfl ?_⟩⟩
          have sgi := Same.trans sh si
          refine ⟨_, rfl, rfl, _, rfl, if_eqF (by rfl) ?_⟩
          exact ⟨_, rfl, y, _, ps', qs', _, _, _, _, _, _, _, _, _, rfl, ⟨sn.same sgi, sty.ok, sty.tied, sty.told, sty.few⟩, pot_mono (pg.ext (sExt sgi)) (by omega), ExtP.trans eg (ExtP.of_ext (sExt sgi)), Tg.ext sgi⟩
      · intro H7 Q1 s7 kQ1
        have e7 : ExtN H5 H7 := fun b o e t => s7 _ _ (e6 _ _ e t)
        have T7 := T6.ext s7
        have p7 := p5'.ext e7
        have net7 := net5.ext e7
        have pu7 : PairAt H7 u (ta, tc) := e7 _ _ pu5 (fun _ z => by cases z)
        refine ⟨_, rfl, p, _, 2, rfl, p7, by omega, by decide, by decide, fun H8 d' b8 p8 d0' d1' => ⟨rfl, _, rfl, ?_⟩⟩
        have e8 : ExtP p H5 H8 := ExtP.trans (ExtP.of_ext e7) (ExtP.of_but b8)
        have T8 := tabs_pot T7 p7 b8
        have net8 := net_but net7 p7 b8
        have pu8 : PairAt H8 u (ta, tc) := b8 _ _ (pot_ne p7 pu7) pu7
        have mt := S.inn (ta, tc) htq
        have up := S.up (ta, tc) htq
        have tne : ta ≠ tc := fun e => by
          rw [e] at up
          exact absurd up (Nat.lt_irrefl _)
        have yes : tieIn qs (ta, tc) = true := tieIn_iff.mpr (.inl htq)
        have bad : ∀ {C d2 : Addr} {H9 : Hp} {v : V}, PySem.W.exmOne K (.ref C) (.ref ad.a_DrawError) = some true → Same H8 H9 → H9 d2 = some (.xd [("value", v)]) → EAns K ad.a_DrawError Q' (.ref C) (some d2) H9 := fun {C d2 H9 v} xm s9 hd9 => ⟨xm, fun a na t nt => by
          have sn : Same H9 (upd H9 a (exq a (.ref C) (some d2))) := same_new na
          have sn2 := Same.trans (Same.trans s9 sn) (same_new (o := .tup [V.ref a, .non]) nt)
          exact hQ' _ t ⟨.ref a, .non, upd_same, ExtP.trans e8 (ExtP.of_ext (sExt sn2)), p8.ext (sExt sn2), T8.ext sn2, .inl ⟨⟨_, rfl⟩, rfl⟩⟩⟩
        have good' : ∀ {H9 : Hp} {y : Addr} {ps' : List Str} {qs' : List (Str × Str)}, Same H8 H9 → NetAt H9 ad.a_Net y (textOf ps' qs') ps' qs' → SeqOk ps' qs' → cutOf (nbOf qs') ps' = none → qs'.length ≤ qs.length → Q1 (.ref y) H9 := fun {H9 y ps' qs'} s9 n9 S9 c9 l9 => kQ1 _ _ fun t nt => by
          have sn := Same.trans s9 (same_new (o := .tup [V.non, .ref y]) nt)
          exact hQ' _ t ⟨.non, .ref y, upd_same, ExtP.trans e8 (ExtP.of_ext (sExt sn)), p8.ext (sExt sn), T8.ext sn, .inr ⟨rfl, y, ps', qs', rfl, n9.same (same_new nt), S9, c9, ⟨_, rfl, S9.lore c9, S9.sq⟩, by omega⟩⟩
        obtain ⟨dx8, na8, nt8, nn8, g18, _, _⟩ := id net8
        by_cases hd : d' = 0
        · refine if_eqT (by rw [hd]; rfl) ?_
          refine ⟨_, rfl, _, rfl, x, dx8, _, u, _, rfl, g18, rfl, pu8, x, u, ta, tc, z, ps, qs, rfl, net8, S, pu8, mt.1, mt.2, tne, yes, fun _ cu H9 d2 s9 hd9 => bad xT s9 hd9, fun cn H9 y s9 n9 => ⟨y, rfl, good' s9 n9 (S.cut _) cn (List.length_filter_le _ _)⟩⟩
        · refine if_eqF (decide_eq_false fun e => hd (V.int.inj e)) ?_
          refine ⟨_, rfl, x, dx8, _, rfl, g18, rfl, _, rfl, x, o, z, ps, qs, rfl, net8, S, mo, fun C hC H9 d2 v s9 hd9 => ?_, fun h4' cn H9 y s9 n9 => good' s9 n9 (S.less mo h4') cn (List.length_filter_le _ _)⟩
          rcases hC with rfl | rfl
          · exact bad xT s9 hd9
          · exact bad xF s9 hd9
    rintro σ Hc ⟨x, z, ps, qs, s2, s3, s4, s5, s6, s7, s8, s11, s12, rfl, st, pc, ec, Tc⟩
    obtain ⟨ts, ez, Lz, eq⟩ := st.told
    have S := st.ok
    obtain ⟨dx, na, nt, nn, g1, ⟨ob, obc, obd, g2⟩, ⟨as, g3, pr⟩, g4⟩ := id st.net
    refine ⟨_, rfl, x, ad.a_Net, dx, _, _, rfl, g1, N.cls, N.n_text, rfl, fun y dy ny ndy ney => ⟨y, dy, _, rfl, upd_same, .inr ⟨_, rfl, ?_, fun n hn => ?_, fun ps' ties' ok' => ?_⟩⟩⟩
    · rw [ez]
      exact Nat.le_trans (text_short Lz Lz.l8) (by decide)
    · rw [ez] at hn
      exact (ok_noErr hn (lore_net Lz)).elim
    rw [ez] at ok'
    obtain ⟨rfl, rfl⟩ := ok_only (lore_net Lz) ok'
    rw [eq]
    refine ⟨fun u cu => ?_, fun cn H1 sb net1 => ⟨rfl, ?_⟩⟩
    · rw [st.tied] at cu
      cases cu
    have s1 : Same Hc H1 := fun b o e => sb b o (ne_of_none e ny) (by
      rw [upd_ne (ne_of_none e ny), upd_ne (ne_of_none e ndy)]
      exact e)
    have netx := st.net.same s1
    obtain ⟨dy1, nay, nty, nny, k1, _, ⟨asy, k3, pry⟩, _⟩ := id net1
    have ok1 := S.okps
    have ok2 := S.okqs
    refine ⟨_, rfl, _, rfl, ?_⟩
    refine req_net N M net1 netx ok1 ok1 ok2 ok2 ?_
    refine ⟨_, rfl, if_eqT (by simp) ?_⟩
    refine ⟨_, rfl, y, ad.a_Net, dy1, _, _, rfl, k1, N.cls, N.n_text, rfl, _, rfl, x, ad.a_Net, dx, _, _, rfl, s1 _ _ g1, N.cls, N.n_text, rfl, rfl, _, rfl, if_eqT (decide_eq_true rfl) ?_⟩
    refine ⟨_, rfl, y, _, _, _, rfl, net1, S, fun H2 s2 => ⟨_, rfl, if_eqT rfl ?_⟩⟩
    have s12 := Same.trans s1 s2
    refine ⟨_, rfl, y, ad.a_Net, dy1, _, _, rfl, s2 _ _ k1, N.cls, N.n_ties, rfl, _, rfl, x, ad.a_Net, dx, _, _, rfl, s12 _ _ g1, N.cls, N.n_ties, rfl, .tuple (tieD qs), .tuple (tieD qs), .tup (SqT.of (s2 _ _ k3)) (pr_all (Paired.weak (fun _ _ z => s2 _ _ z) pry)), .tup (SqT.of (s12 _ _ g3)) (pr_all (Paired.weak (fun _ _ z => s12 _ _ z) pr)), shp_prT ok2, shp_prT ok2, ?_⟩
    have e : PyData.eqv (.tuple (tieD qs)) (.tuple (tieD qs)) = true := by
      show PyData.eqvAll (tieD qs) (tieD qs) = true
      rw [eqv_pr]
      exact decide_eq_true rfl
    rw [e]
    exact kQ _ (ExtP.trans ec (ExtP.of_ext (sExt s12))) (Tc.ext s12)
end
end K05
namespace K05
open PySem L2 LamX NetM PySem.Spec PyProof.Rows
theorem seq_ext {K : PySem.W.Frag} {H H' : Hp} {a : Addr} {xs : List V} (e : ExtN H H') (h : SqL K H a xs) : SqL K H' a xs := by
  rcases h with (h | ⟨o, h⟩) | h
  · exact .inl (.inl (e _ _ h fun ps z => by cases z))
  · exact .inl (.inr ⟨o, e _ _ h fun ps z => by cases z⟩)
  · exact .inr h
theorem range_at {n i : Nat} {x : V} (h : ((List.range n).map fun (i : Nat) => V.int i)[i]? = some x) : x = .int i ∧ i < n := by
  rw [List.getElem?_map] at h
  cases e : (List.range n)[i]? with
  | none => rw [e] at h; cases h
  | some j =>
    obtain ⟨h1, h2⟩ := List.getElem?_eq_some_iff.mp e
    rw [List.getElem_range] at h2
    rw [List.length_range] at h1
    rw [e] at h
    cases h
    exact ⟨by rw [h2], h1⟩
def spLaw (K : PySem.W.Frag) (Pt : Addr) : Sp := fun vs H Q _ => ∃ (a : Addr) (ns : List Int), vs = [.ref a] ∧ SqL K H a (ns.map V.int) ∧ Tabs [(Pt, jq)] H ∧ ∀ H', Q (.bl true) H'
section
variable {P : Program} {w : World} {K : PySem.W.Frag} {mg : Str → Option Value} {base : Heap} {ad : Adr}
theorem sc_law : FnScope ["_law_script", "_law_place"] ["_law_script"] (defScope s_law) := ⟨rfl, rfl, rfl, by decide +kernel, rfl, by decide +kernel, by decide +kernel⟩
theorem ok_law {f Pt : Addr} {fd fd1 fd2 fd3 : FuncData} (F : Fun K "law" "law" s_law f fd) (T : Txt K mg ad)
    (G__law_right : FnOk P w K mg base CX0 10 ad.f__law_right fd1 ["_law_pot_here"] (spRight Pt)) (b__law_right : Binds K fd1 ["_law_pot_here"] [])
    (G__law_pot : FnOk P w K mg base CX0 1 ad.f__law_pot fd2 ["_law_script", "_law_place"] (spPot K)) (b__law_pot : Binds K fd2 ["_law_script", "_law_place"] [])
    (G__law_cells : FnOk P w K mg base CX0 1 ad.f__law_cells fd3 ["_law_script", "_law_most"] (spCells K)) (b__law_cells : Binds K fd3 ["_law_script", "_law_most"] []) : FnOk P w K mg base CX0 11 f fd ["_law_script"] (spLaw K Pt) := by
  refine F.ok sc_law (fun vs H Q E h => ?_) (fun cdv A outer s H vs Q E hr h => ?_)
  · obtain ⟨_, _, rfl, _⟩ := h
    rfl
  · obtain ⟨a, ns, rfl, hS, hT, kQ⟩ := h
    have h__law_cells := hr.mono (show 1 ≤ 10 by decide)
    have h__law_pot := hr.mono (show 1 ≤ 10 by decide)
    have h__law_right := hr
    refine ⟨_, (pss_one (ps_ret (pe_callB (kAll (K := K) rfl) (by rfl) T.n_all (by decide +kernel) (pa_cons (pe_lc (own := [("_law_place", 1)]) (g := gName 1) rfl sc_law.nd (kLstI (K := K) (pe_call G__law_cells h__law_cells (by rfl) T.m__law_cells T.k__law_cells b__law_cells .nil pass0 (pa_cons (pv 0) (pa_cons pe_int pa_nil)))) (blkOk_by (N := ["_law_script", "_law_place"]) (sc := defScope s_law) (by decide +kernel)) (fun _ _ _ _ _ => pg_name (i := 1) sc_law.nd rfl (Or.inl rfl)) (fun _ _ _ _ _ => pts_nil) (fun _ _ _ _ _ => (pe_call G__law_right h__law_right (by rfl) T.m__law_right T.k__law_right b__law_right .nil pass0 (pa_cons (pe_call G__law_pot h__law_pot (by rfl) T.m__law_pot T.k__law_pot b__law_pot .nil pass0 (pa_cons (pv 0) (pa_cons (pv 1) pa_nil))) pa_nil)))) pa_nil)))), ?_⟩
    refine ⟨_, rfl, a, 5, ns, rfl, hS, by decide, by decide, fun H1 c n s1 hn hc => ⟨c, rfl, ⟨_, SqL.of hc⟩, fun D nD => ?_⟩⟩
    have T1 := hT.ext s1
    have hS1 := s1.seq hS
    have sD : Same H1 (upd H1 D (.lst ([] : List V))) := same_new nD
    refine lcB walk_list (fun j Hd => ExtN H1 Hd ∧ Tabs [(Pt, jq)] Hd ∧ Hd D = some (.lst ((List.replicate j true).map V.bl))) ⟨sExt sD, T1.ext sD, upd_same⟩ (fun j Hd _ z => SqL.of (z.1 _ _ hc fun ps z => by cases z)) ?_ ?_
    · rintro j y Hd H' hj ⟨xd, Td, hd⟩ ⟨rfl, hx⟩
      obtain ⟨rfl, hlt⟩ := range_at hx
      refine ⟨rfl, _, rfl, _, rfl, a, (j : Nat), ns, rfl, seq_ext xd hS1, by omega, by omega, fun H2 p s2 np pa => ?_⟩
      refine ⟨p, rfl, pa, Td.ext s2, fun H3 x3 T3 => ?_⟩
      have pD : D ≠ p := fun z => by
        rw [← z, hd] at np
        cases np
      have hd3 := x3 _ _ pD (s2 _ _ hd) fun ps z => by cases z
      refine ⟨_, hd3, ?_, fun b o eb tb => ?_, tabs_but T3 hd3 fun b o nb eb => by rw [upd_ne nb]; exact eb, ?_⟩
      · rw [List.length_map, List.length_replicate]
        exact Nat.lt_of_le_of_lt (by omega : _ ≤ 100) (by decide)
      · rw [upd_ne (ne_of_none eb nD)]
        have e2 := s2 _ _ (xd _ _ eb tb)
        refine x3 _ _ (fun z => ?_) e2 tb
        subst z
        rw [xd _ _ eb tb] at np
        cases np
      · rw [upd_same, List.replicate_succ', List.map_append]
        rfl
    · rintro Hd ⟨xd, Td, hd⟩
      refine ⟨D, _, rfl, SqL.of hd, ?_⟩
      rw [show ∀ m, (List.replicate m true).all id = true from fun m => List.all_eq_true.mpr fun b hb => (List.mem_replicate.mp hb).2]
      exact kQ Hd
end
end K05
namespace K05
open PySem L2 NetM LamX PySem.Spec PyProof.Rows
def errOk (K : PySem.W.Frag) (fI C : Addr) : Bool :=
  (PySem.W.findIn K (.ref C) "__setattr__" == some (some (.builtin "object.__setattr__"))) && (PySem.W.subIn K (.ref C) (.type "BaseException") == some true) &&
  (PySem.W.typeIn K (.ref C) == some (.type "type")) && PySem.W.keepIn K (.ref C) && (PySem.W.findIn K (.ref C) "value" == some none) &&
  (PySem.W.findIn K (.ref C) "__init__" == some (some (.ref fI))) &&
  (PySem.W.findIn K (.ref C) "__getattribute__" == some (some (.builtin "BaseException.__getattribute__"))) && (PySem.W.findIn K (.ref C) "__getattr__" == some none) &&
  (PySem.W.findIn K (.ref C) "__class__" == some (some (.builtin "object.__class__"))) && PySem.W.hasDictIn K C && (PySem.W.mroIn K C (.type "object") == some true) &&
  (PySem.W.specialIn K (.builtin "object.__class__") "__get__" == some (some (.builtin "getset_descriptor.__get__"))) && (PySem.W.takesIn K (.builtin "object.__class__") == some true)
theorem err_mk {K : PySem.W.Frag} {fI C N : Addr} {nm q : Str} {bs bm : List Value} {sn : List Str} {sub : List Value} {ab : Bool} {col : Option Bool} {dd : Option Addr} {m0 m1 m2 m3 m5 : Option Value}
    (xL : K.lookup C = some (excClassObj nm q C N bs bm true sn sub ab col dd m0 m1 m2 m3 m5 "ValueError.__new__")) (rb : PySem.HandSPX.refsVE bm = true) (e : errOk K fI C = true) : ErrC K fI C := by
  unfold errOk at e
  simp only [Bool.and_eq_true, beq_iff_eq] at e
  obtain ⟨⟨⟨⟨⟨⟨⟨⟨⟨⟨⟨⟨e1, e2⟩, e3⟩, e4⟩, e5⟩, e6⟩, e7⟩, e8⟩, e9⟩, e10⟩, e11⟩, e12⟩, e13⟩ := e
  exact ⟨⟨⟨nm, q, N, bs, bm, sn, sub, ab, col, dd, m0, m1, m2, m3, m5, xL, rb⟩, e1, e2, e3, e4⟩, e5, e6, e7, e8, e9, e10, e11, e12, e13⟩
/-- the errors that are caught -/
def kitOk (K : PySem.W.Frag) (D N F : Addr) : Bool := (PySem.W.exmOne K (.ref N) (.ref D) == some true) && (PySem.W.exmOne K (.ref F) (.ref D) == some true)
theorem kit_mk {K : PySem.W.Frag} {D N F : Addr} (e : kitOk K D N F = true) : PySem.W.exmOne K (.ref N) (.ref D) = some true ∧ PySem.W.exmOne K (.ref F) (.ref D) = some true := by
  unfold kitOk at e
  simp only [Bool.and_eq_true, beq_iff_eq] at e
  exact ⟨e.1, e.2⟩
/-- what Net is asked for by +, - and without -/
def netP2Ok (K : PySem.W.Frag) (C fa fs fw : Addr) : Bool :=
  PySem.W.selfFirst K C && decide (PySem.W.findIn K (.ref C) (PySem.dunder "add") = some (some (.ref fa))) && PySem.W.isFn K (.ref fa) && PySem.W.idleIn K "tuple" "add" &&
  decide (PySem.W.findIn K (.ref C) (PySem.dunder "sub") = some (some (.ref fs))) && PySem.W.isFn K (.ref fs) && PySem.W.idleIn K "tuple" "sub" &&
  decide (PySem.W.findIn K (.ref C) "without" = some (some (.ref fw))) && PySem.W.isFn K (.ref fw) && PySem.W.keepIn K (.ref fw)
theorem netP2_mk {K : PySem.W.Frag} {A : Adr} (e : netP2Ok K A.a_Net A.f_Net___add__ A.f_Net___sub__ A.f_Net_without = true) : NetP2 K A := by
  unfold netP2Ok at e
  simp only [Bool.and_eq_true, decide_eq_true_eq] at e
  obtain ⟨⟨⟨⟨⟨⟨⟨⟨⟨e1, e2⟩, e3⟩, e4⟩, e5⟩, e6⟩, e7⟩, e8⟩, e9⟩, e10⟩ := e
  exact ⟨e1, e2, e3, e4, e5, e6, e7, ⟨e8, e9, e10⟩⟩
/-- what Net is asked for by operators and methods -/
def netPOk (K : PySem.W.Frag) (C fe fl fc fg ft : Addr) : Bool :=
  decide (PySem.W.findIn K (.ref C) "__eq__" = some (some (.ref fe))) && decide (PySem.W.findIn K (.ref C) "__ne__" = some (some (.builtin "object.__ne__"))) && decide (PySem.W.findIn K (.ref C) "__len__" = some (some (.ref fl))) &&
  decide (PySem.W.findIn K (.ref C) "__contains__" = some (some (.ref fc))) && decide (PySem.W.findIn K (.ref C) "__getitem__" = some (some (.ref fg))) && PySem.W.isFn K (.ref fe) && PySem.W.isFn K (.ref fl) && PySem.W.isFn K (.ref fc) && PySem.W.isFn K (.ref fg) && PySem.W.fnIn K fg &&
  decide (PySem.W.findIn K (.ref C) "tied" = some (some (.ref ft))) && PySem.W.isFn K (.ref ft) && PySem.W.keepIn K (.ref ft) &&
  decide (PySem.W.findIn K (.ref C) "__class__" = some (some (.builtin "object.__class__"))) && decide (PySem.W.specialIn K (.builtin "object.__class__") "__get__" = some (some (.builtin "getset_descriptor.__get__"))) &&
  decide (PySem.W.takesIn K (.builtin "object.__class__") = some true) && decide (PySem.W.mroIn K C (.type "object") = some true) && decide (PySem.W.kitOne K (.ref C) (.ref C) = some true) && decide (PySem.W.kitOne K (.type "str") (.ref C) = some false) &&
  decide (PySem.W.kitOne K (.type "tuple") (.ref C) = some false) && decide (PySem.W.kitOne K (.type "int") (.ref C) = some false) && PySem.W.notFirst K C (.type "str") && PySem.W.notFirst K C (.type "tuple") && PySem.W.notFirst K C (.type "int")
theorem netP_mk {K : PySem.W.Frag} {A : Adr} (e : netPOk K A.a_Net A.f_Net___eq__ A.f_Net___len__ A.f_Net___contains__ A.f_Net___getitem__ A.f_Net_tied = true) : NetP K A := by
  unfold netPOk at e
  simp only [Bool.and_eq_true, decide_eq_true_eq] at e
  obtain ⟨⟨⟨⟨⟨⟨⟨⟨⟨⟨⟨⟨⟨⟨⟨⟨⟨⟨⟨⟨⟨⟨⟨e1, e2⟩, e3⟩, e4⟩, e5⟩, e6⟩, e7⟩, e8⟩, e9⟩, e10⟩, e11⟩, e12⟩, e13⟩, e14⟩, e15⟩, e16⟩, e17⟩, e18⟩, e19⟩, e20⟩, e21⟩, e22⟩, e23⟩, e24⟩ := e
  exact ⟨e1, e2, e3, e4, e5, e6, e7, e8, e9, e10, ⟨e11, e12, e13⟩, e14, e15, e16, e17, e18, e19, e20, e21, e22, e23, e24⟩
/-- the class Net -/
def netOk (K : PySem.W.Frag) (fN C : Addr) : Bool := PySem.W.plainGet K C Str.empty && PySem.W.hasDictIn K C && PySem.W.plainOver K C && decide (PySem.W.findIn K (.ref C) "__setattr__" = some (some (.builtin "object.__setattr__"))) &&
  PySem.W.makesIn K C && decide (PySem.W.findIn K (.ref C) "__init__" = some (some (.ref fN))) && PySem.W.isFn K (.ref fN) && PySem.W.keepIn K (.ref C) &&
  decide (PySem.W.findIn K (.ref C) "text" = some none) && decide (PySem.W.findIn K (.ref C) "places" = some none) && decide (PySem.W.findIn K (.ref C) "ties" = some none) && decide (PySem.W.findIn K (.ref C) "_near" = some none)
theorem net_mk {K : PySem.W.Frag} {fN C : Addr} (e : netOk K fN C = true) : NetC K fN C := by
  unfold netOk at e
  simp only [Bool.and_eq_true, decide_eq_true_eq] at e
  obtain ⟨⟨⟨⟨⟨⟨⟨⟨⟨⟨⟨e1, e2⟩, e3⟩, e4⟩, e5⟩, e6⟩, e7⟩, e8⟩, e9⟩, e10⟩, e11⟩, e12⟩ := e
  exact ⟨⟨e1, e2, e3, e4⟩, ⟨e5, e6, e7, e8⟩, e9, e10, e11, e12⟩
/-- where the table of _law_right's code stands -/
def tabP (K : PySem.W.Frag) : Addr := match PySem.W.tabIn K "_law_right" with
  | some (_, P) => P
  | none => 0
/-- the end, where a def that the law calls makes a lambda -/
theorem walk_ofJ {l : PySem.W.OpenLaw} {n k : Nat} {q : Program} {loose : List Str} {XP : (Str → Option Value) → Heap → Prop} {YP : World → Heap → Prop} {d : DefRec} {K : Params → PySem.W.Frag} {CX : World → CXT} {x J : Str}
    (hn : l.most = some n) (hn2 : n ≤ sizeLine) (hdf : d.params.defaults = []) (hr : Room k callerA) (hrec : ((recsOf q).any fun e => e.name == J) = true) (hY : ∀ (w : World) (h : Heap), YP w h → (K w.params).In h)
    (hCX : ∀ (w : World) (H : Hp) (s : Shared) (e : Value) (s' : Shared), CX w [] H s (fun _ _ _ => False) e s' → False)
    (F : ∀ (w : World) (mg : Str → Option Value) (fa : Addr) (h : Heap), (K w.params).In h → h.Ns mainGlobals mg → mg d.name = some (.ref fa) →
      (∀ c P, PySem.W.tabIn (K w.params) J = some (c, P) → PySem.W.CodeHd h c P ∧ h.get? P = some { cls := .none, data := .fields #[] }) → LawAtS l w (K w.params) (CX w) k n x mg fa h) :
    PySem.W.WalkO q loose XP YP l.row.toRowW d [] (fun f vs => PySem.call f vs) := by
  refine Att.attach_callB hn hdf fun w s₀ s₁ mg mb fa o pm cd doc a vs ns G Y ho hd hcd hmg hobj hints hlen hbits hg => ?_
  have KX := hY w _ Y
  have tab : ∀ c P, PySem.W.tabIn (K w.params) J = some (c, P) → PySem.W.CodeHd s₁.heap c P ∧ s₁.heap.get? P = some { cls := .none, data := .fields #[] } := fun c P e => by
    obtain ⟨dL, hm, hn1⟩ := List.any_eq_true.mp hrec
    cases hf : (recsOf q).find? fun e => e.name == J with
    | none => exact absurd hn1 (List.find?_eq_none.mp hf dL hm)
    | some dJ => exact PySem.W.tab_of G.T KX hf e
  obtain ⟨fd, cs, sp, hT, nT, C, hb, hsp, hF⟩ := F w mg fa _ KX G.T.g hmg tab
  exact law_callTs KX G.T.g G.T.b G.T.builtins G.T.nolimit hg hT nT C G.T.bmain hobj hints (Nat.le_trans hlen hn2) hr hF hb (fun H hH hS => hsp H a ns hlen hbits hH hS) fun H e s' => hCX w H s₁ e s'
section
variable {P : Program} {w : World} {K : PySem.W.Frag} {mg : Str → Option Value} {base : Heap} {ad : Adr}
theorem scI : FnScope ["self", "value"] ["self", "value"] (defScope s_DrawError___init__) := ⟨rfl, rfl, rfl, by decide +kernel, rfl, by decide +kernel, by decide +kernel⟩
theorem ok_init {f : Addr} {fd : FuncData} (F : Fun K "__init__" "DrawError.__init__" s_DrawError___init__ f fd) : FnOk P w K mg base CX0 1 f fd ["self", "value"] (spErrInit K) := by
  refine F.ok scI (fun vs H Q E h => ?_) (fun cdv A outer s H vs Q E hr h => ?_)
  · obtain ⟨a, C, fI, v, rfl, _⟩ := h
    rfl
  · obtain ⟨a, C, fI, v, rfl, T, ha, k⟩ := h
    refine ⟨_, pss_one (ps_ost (pv 0) (pv 1)), ?_⟩
    refine ⟨v, rfl, .ref a, rfl, a, C, rfl, T.oex, T.nv, .inl ⟨ha, fun d nd ne => k _ d (fun b o nb e => ?_) ne nd upd_same ?_⟩⟩
    · rw [upd_ne nb, upd_ne (ne_of_none e nd)]
      exact e
    · rw [upd_ne ne, upd_same]
end

theorem all_mk {l : PySem.W.OpenLaw} {w : World} {K : PySem.W.Frag} {h : Heap} {mg : Str → Option Value} {fa : Addr} (X : K.In h) (G : h.Ns mainGlobals mg) (hfa : mg "law" = some (.ref fa))
    (hT : ∀ c P, PySem.W.tabIn K "_law_right" = some (c, P) → PySem.W.CodeHd h c P ∧ h.get? P = some { cls := .none, data := .fields #[] })
    {a_DrawError a_BadNet a_NotTied a_NoPlace a_BadTie a_Full a_Few a_Net fI fN cJ f_is_name f_reached f_read_places f_read_tie f_read_net f_ties_in_sequence f_neighbours f_check_well_tied f_check_place f_net_of f_is_pair f_is_tie f_is_free f__law_pot f__law_take f__law_of f__law_some f__law_cells f__law_answer f__law_names f__law_is_there f__law_lore f__law_text f__law_net f__law_agrees f__law_is_text_right f__law_missing f__law_right f_law f_Net___eq__ f_Net___len__ f_Net___contains__ f_Net___getitem__ f_Net_tied f_Net___add__ f_Net___sub__ f_Net_without : Addr}
    {t_LETTERS : Tok}
    {t_LONGEST_NAME : Tok}
    {t_FEWEST_PLACES : Tok}
    {t_MOST_PLACES : Tok}
    {t_FEWEST_TIES : Tok}
    {t_MOST_TIES : Tok}
    {nm_DrawError q_DrawError : Str} {N_DrawError : Addr} {bs_DrawError : List Value} {sn_DrawError : List Str} {sub_DrawError : List Value} {ab_DrawError : Bool} {col_DrawError : Option Bool} {dd_DrawError : Option Addr} {u0_DrawError u1_DrawError u2_DrawError u3_DrawError u5_DrawError : Option Value}
    {nm_BadNet q_BadNet : Str} {N_BadNet : Addr} {bs_BadNet : List Value} {sn_BadNet : List Str} {sub_BadNet : List Value} {ab_BadNet : Bool} {col_BadNet : Option Bool} {dd_BadNet : Option Addr} {u0_BadNet u1_BadNet u2_BadNet u3_BadNet u5_BadNet : Option Value}
    {nm_NotTied q_NotTied : Str} {N_NotTied : Addr} {bs_NotTied : List Value} {sn_NotTied : List Str} {sub_NotTied : List Value} {ab_NotTied : Bool} {col_NotTied : Option Bool} {dd_NotTied : Option Addr} {u0_NotTied u1_NotTied u2_NotTied u3_NotTied u5_NotTied : Option Value}
    {nm_NoPlace q_NoPlace : Str} {N_NoPlace : Addr} {bs_NoPlace : List Value} {sn_NoPlace : List Str} {sub_NoPlace : List Value} {ab_NoPlace : Bool} {col_NoPlace : Option Bool} {dd_NoPlace : Option Addr} {u0_NoPlace u1_NoPlace u2_NoPlace u3_NoPlace u5_NoPlace : Option Value}
    {nm_BadTie q_BadTie : Str} {N_BadTie : Addr} {bs_BadTie : List Value} {sn_BadTie : List Str} {sub_BadTie : List Value} {ab_BadTie : Bool} {col_BadTie : Option Bool} {dd_BadTie : Option Addr} {u0_BadTie u1_BadTie u2_BadTie u3_BadTie u5_BadTie : Option Value}
    {nm_Full q_Full : Str} {N_Full : Addr} {bs_Full : List Value} {sn_Full : List Str} {sub_Full : List Value} {ab_Full : Bool} {col_Full : Option Bool} {dd_Full : Option Addr} {u0_Full u1_Full u2_Full u3_Full u5_Full : Option Value}
    {nm_Few q_Few : Str} {N_Few : Addr} {bs_Few : List Value} {sn_Few : List Str} {sub_Few : List Value} {ab_Few : Bool} {col_Few : Option Bool} {dd_Few : Option Addr} {u0_Few u1_Few u2_Few u3_Few u5_Few : Option Value}
    {od_init an_init : Option Addr} {sl_init : Array (Option Value)} {oc_init kV_init dc_init pm_init cd_init ct_init : Value}
    {od_net an_net : Option Addr} {sl_net : Array (Option Value)} {oc_net kV_net dc_net pm_net cd_net ct_net : Value}
    {od_Net___eq__ an_Net___eq__ : Option Addr} {sl_Net___eq__ : Array (Option Value)} {oc_Net___eq__ kV_Net___eq__ dc_Net___eq__ pm_Net___eq__ cd_Net___eq__ ct_Net___eq__ : Value}
    {od_Net___len__ an_Net___len__ : Option Addr} {sl_Net___len__ : Array (Option Value)} {oc_Net___len__ kV_Net___len__ dc_Net___len__ pm_Net___len__ cd_Net___len__ ct_Net___len__ : Value}
    {od_Net___contains__ an_Net___contains__ : Option Addr} {sl_Net___contains__ : Array (Option Value)} {oc_Net___contains__ kV_Net___contains__ dc_Net___contains__ pm_Net___contains__ cd_Net___contains__ ct_Net___contains__ : Value}
    {od_Net___getitem__ an_Net___getitem__ : Option Addr} {sl_Net___getitem__ : Array (Option Value)} {oc_Net___getitem__ kV_Net___getitem__ dc_Net___getitem__ pm_Net___getitem__ cd_Net___getitem__ ct_Net___getitem__ : Value}
    {od_Net_tied an_Net_tied : Option Addr} {sl_Net_tied : Array (Option Value)} {oc_Net_tied kV_Net_tied dc_Net_tied pm_Net_tied cd_Net_tied ct_Net_tied : Value}
    {od_Net___add__ an_Net___add__ : Option Addr} {sl_Net___add__ : Array (Option Value)} {oc_Net___add__ kV_Net___add__ dc_Net___add__ pm_Net___add__ cd_Net___add__ ct_Net___add__ : Value}
    {od_Net___sub__ an_Net___sub__ : Option Addr} {sl_Net___sub__ : Array (Option Value)} {oc_Net___sub__ kV_Net___sub__ dc_Net___sub__ pm_Net___sub__ cd_Net___sub__ ct_Net___sub__ : Value}
    {od_Net_without an_Net_without : Option Addr} {sl_Net_without : Array (Option Value)} {oc_Net_without kV_Net_without dc_Net_without pm_Net_without cd_Net_without ct_Net_without : Value}
    {od_is_name an_is_name : Option Addr} {sl_is_name : Array (Option Value)} {oc_is_name kV_is_name dc_is_name pm_is_name cd_is_name ct_is_name : Value}
    {od_reached an_reached : Option Addr} {sl_reached : Array (Option Value)} {oc_reached kV_reached dc_reached pm_reached cd_reached ct_reached : Value}
    {od_read_places an_read_places : Option Addr} {sl_read_places : Array (Option Value)} {oc_read_places kV_read_places dc_read_places pm_read_places cd_read_places ct_read_places : Value}
    {od_read_tie an_read_tie : Option Addr} {sl_read_tie : Array (Option Value)} {oc_read_tie kV_read_tie dc_read_tie pm_read_tie cd_read_tie ct_read_tie : Value}
    {od_read_net an_read_net : Option Addr} {sl_read_net : Array (Option Value)} {oc_read_net kV_read_net dc_read_net pm_read_net cd_read_net ct_read_net : Value}
    {od_ties_in_sequence an_ties_in_sequence : Option Addr} {sl_ties_in_sequence : Array (Option Value)} {oc_ties_in_sequence kV_ties_in_sequence dc_ties_in_sequence pm_ties_in_sequence cd_ties_in_sequence ct_ties_in_sequence : Value}
    {od_neighbours an_neighbours : Option Addr} {sl_neighbours : Array (Option Value)} {oc_neighbours kV_neighbours dc_neighbours pm_neighbours cd_neighbours ct_neighbours : Value}
    {od_check_well_tied an_check_well_tied : Option Addr} {sl_check_well_tied : Array (Option Value)} {oc_check_well_tied kV_check_well_tied dc_check_well_tied pm_check_well_tied cd_check_well_tied ct_check_well_tied : Value}
    {od_check_place an_check_place : Option Addr} {sl_check_place : Array (Option Value)} {oc_check_place kV_check_place dc_check_place pm_check_place cd_check_place ct_check_place : Value}
    {od_net_of an_net_of : Option Addr} {sl_net_of : Array (Option Value)} {oc_net_of kV_net_of dc_net_of pm_net_of cd_net_of ct_net_of : Value}
    {od_is_pair an_is_pair : Option Addr} {sl_is_pair : Array (Option Value)} {oc_is_pair kV_is_pair dc_is_pair pm_is_pair cd_is_pair ct_is_pair : Value}
    {od_is_tie an_is_tie : Option Addr} {sl_is_tie : Array (Option Value)} {oc_is_tie kV_is_tie dc_is_tie pm_is_tie cd_is_tie ct_is_tie : Value}
    {od_is_free an_is_free : Option Addr} {sl_is_free : Array (Option Value)} {oc_is_free kV_is_free dc_is_free pm_is_free cd_is_free ct_is_free : Value}
    {od__law_pot an__law_pot : Option Addr} {sl__law_pot : Array (Option Value)} {oc__law_pot kV__law_pot dc__law_pot pm__law_pot cd__law_pot ct__law_pot : Value}
    {od__law_take an__law_take : Option Addr} {sl__law_take : Array (Option Value)} {oc__law_take kV__law_take dc__law_take pm__law_take cd__law_take ct__law_take : Value}
    {od__law_of an__law_of : Option Addr} {sl__law_of : Array (Option Value)} {oc__law_of kV__law_of dc__law_of pm__law_of cd__law_of ct__law_of : Value}
    {od__law_some an__law_some : Option Addr} {sl__law_some : Array (Option Value)} {oc__law_some kV__law_some dc__law_some pm__law_some cd__law_some ct__law_some : Value}
    {od__law_cells an__law_cells : Option Addr} {sl__law_cells : Array (Option Value)} {oc__law_cells kV__law_cells dc__law_cells pm__law_cells cd__law_cells ct__law_cells : Value}
    {od__law_answer an__law_answer : Option Addr} {sl__law_answer : Array (Option Value)} {oc__law_answer kV__law_answer dc__law_answer pm__law_answer cd__law_answer ct__law_answer : Value}
    {od__law_names an__law_names : Option Addr} {sl__law_names : Array (Option Value)} {oc__law_names kV__law_names dc__law_names pm__law_names cd__law_names ct__law_names : Value}
    {od__law_is_there an__law_is_there : Option Addr} {sl__law_is_there : Array (Option Value)} {oc__law_is_there kV__law_is_there dc__law_is_there pm__law_is_there cd__law_is_there ct__law_is_there : Value}
    {od__law_lore an__law_lore : Option Addr} {sl__law_lore : Array (Option Value)} {oc__law_lore kV__law_lore dc__law_lore pm__law_lore cd__law_lore ct__law_lore : Value}
    {od__law_text an__law_text : Option Addr} {sl__law_text : Array (Option Value)} {oc__law_text kV__law_text dc__law_text pm__law_text cd__law_text ct__law_text : Value}
    {od__law_net an__law_net : Option Addr} {sl__law_net : Array (Option Value)} {oc__law_net kV__law_net dc__law_net pm__law_net cd__law_net ct__law_net : Value}
    {od__law_agrees an__law_agrees : Option Addr} {sl__law_agrees : Array (Option Value)} {oc__law_agrees kV__law_agrees dc__law_agrees pm__law_agrees cd__law_agrees ct__law_agrees : Value}
    {od__law_is_text_right an__law_is_text_right : Option Addr} {sl__law_is_text_right : Array (Option Value)} {oc__law_is_text_right kV__law_is_text_right dc__law_is_text_right pm__law_is_text_right cd__law_is_text_right ct__law_is_text_right : Value}
    {od__law_missing an__law_missing : Option Addr} {sl__law_missing : Array (Option Value)} {oc__law_missing kV__law_missing dc__law_missing pm__law_missing cd__law_missing ct__law_missing : Value}
    {od__law_right an__law_right : Option Addr} {sl__law_right : Array (Option Value)} {oc__law_right kV__law_right dc__law_right pm__law_right ct__law_right : Value}
    {od_law an_law : Option Addr} {sl_law : Array (Option Value)} {oc_law kV_law dc_law pm_law cd_law ct_law : Value}
    (g_DrawError : PySem.W.nsIn K mainGlobals "DrawError" = some (some (.ref a_DrawError)))
    (g_BadNet : PySem.W.nsIn K mainGlobals "BadNet" = some (some (.ref a_BadNet)))
    (g_NotTied : PySem.W.nsIn K mainGlobals "NotTied" = some (some (.ref a_NotTied)))
    (g_NoPlace : PySem.W.nsIn K mainGlobals "NoPlace" = some (some (.ref a_NoPlace)))
    (g_BadTie : PySem.W.nsIn K mainGlobals "BadTie" = some (some (.ref a_BadTie)))
    (g_Full : PySem.W.nsIn K mainGlobals "Full" = some (some (.ref a_Full)))
    (g_Few : PySem.W.nsIn K mainGlobals "Few" = some (some (.ref a_Few)))
    (g_Net : PySem.W.nsIn K mainGlobals "Net" = some (some (.ref a_Net)))
    (gI : PySem.W.findIn K (.ref a_DrawError) "__init__" = some (some (.ref fI)))
    (gN : PySem.W.findIn K (.ref a_Net) "__init__" = some (some (.ref fN)))
    (v_LETTERS : PySem.W.nsIn K mainGlobals "LETTERS" = some (some (.str "abcdefghijklmnopqrstuvwxyz" t_LETTERS)))
    (v_LONGEST_NAME : PySem.W.nsIn K mainGlobals "LONGEST_NAME" = some (some (.int 8 t_LONGEST_NAME)))
    (v_FEWEST_PLACES : PySem.W.nsIn K mainGlobals "FEWEST_PLACES" = some (some (.int 3 t_FEWEST_PLACES)))
    (v_MOST_PLACES : PySem.W.nsIn K mainGlobals "MOST_PLACES" = some (some (.int 16 t_MOST_PLACES)))
    (v_FEWEST_TIES : PySem.W.nsIn K mainGlobals "FEWEST_TIES" = some (some (.int 3 t_FEWEST_TIES)))
    (v_MOST_TIES : PySem.W.nsIn K mainGlobals "MOST_TIES" = some (some (.int 45 t_MOST_TIES)))
    (x_DrawError : K.lookup a_DrawError = some (excClassObj nm_DrawError q_DrawError a_DrawError N_DrawError bs_DrawError [.type "ValueError", .type "Exception", .type "BaseException", .type "object"] true sn_DrawError sub_DrawError ab_DrawError col_DrawError dd_DrawError u0_DrawError u1_DrawError u2_DrawError u3_DrawError u5_DrawError "ValueError.__new__"))
    (x_BadNet : K.lookup a_BadNet = some (excClassObj nm_BadNet q_BadNet a_BadNet N_BadNet bs_BadNet [.ref a_DrawError, .type "ValueError", .type "Exception", .type "BaseException", .type "object"] true sn_BadNet sub_BadNet ab_BadNet col_BadNet dd_BadNet u0_BadNet u1_BadNet u2_BadNet u3_BadNet u5_BadNet "ValueError.__new__"))
    (x_NotTied : K.lookup a_NotTied = some (excClassObj nm_NotTied q_NotTied a_NotTied N_NotTied bs_NotTied [.ref a_DrawError, .type "ValueError", .type "Exception", .type "BaseException", .type "object"] true sn_NotTied sub_NotTied ab_NotTied col_NotTied dd_NotTied u0_NotTied u1_NotTied u2_NotTied u3_NotTied u5_NotTied "ValueError.__new__"))
    (x_NoPlace : K.lookup a_NoPlace = some (excClassObj nm_NoPlace q_NoPlace a_NoPlace N_NoPlace bs_NoPlace [.ref a_DrawError, .type "ValueError", .type "Exception", .type "BaseException", .type "object"] true sn_NoPlace sub_NoPlace ab_NoPlace col_NoPlace dd_NoPlace u0_NoPlace u1_NoPlace u2_NoPlace u3_NoPlace u5_NoPlace "ValueError.__new__"))
    (x_BadTie : K.lookup a_BadTie = some (excClassObj nm_BadTie q_BadTie a_BadTie N_BadTie bs_BadTie [.ref a_DrawError, .type "ValueError", .type "Exception", .type "BaseException", .type "object"] true sn_BadTie sub_BadTie ab_BadTie col_BadTie dd_BadTie u0_BadTie u1_BadTie u2_BadTie u3_BadTie u5_BadTie "ValueError.__new__"))
    (x_Full : K.lookup a_Full = some (excClassObj nm_Full q_Full a_Full N_Full bs_Full [.ref a_DrawError, .type "ValueError", .type "Exception", .type "BaseException", .type "object"] true sn_Full sub_Full ab_Full col_Full dd_Full u0_Full u1_Full u2_Full u3_Full u5_Full "ValueError.__new__"))
    (x_Few : K.lookup a_Few = some (excClassObj nm_Few q_Few a_Few N_Few bs_Few [.ref a_DrawError, .type "ValueError", .type "Exception", .type "BaseException", .type "object"] true sn_Few sub_Few ab_Few col_Few dd_Few u0_Few u1_Few u2_Few u3_Few u5_Few "ValueError.__new__"))
    (e_DrawError : errOk K fI a_DrawError = true)
    (e_BadNet : errOk K fI a_BadNet = true)
    (e_NotTied : errOk K fI a_NotTied = true)
    (e_NoPlace : errOk K fI a_NoPlace = true)
    (e_BadTie : errOk K fI a_BadTie = true)
    (e_Full : errOk K fI a_Full = true)
    (e_Few : errOk K fI a_Few = true)
    (tI : PySem.W.typeIn K (.ref fI) = some (.type "function"))
    (eK : kitOk K a_DrawError a_NotTied a_Few = true)
    (gm___eq__ : PySem.W.findIn K (.ref a_Net) "__eq__" = some (some (.ref f_Net___eq__)))
    (gm___len__ : PySem.W.findIn K (.ref a_Net) "__len__" = some (some (.ref f_Net___len__)))
    (gm___contains__ : PySem.W.findIn K (.ref a_Net) "__contains__" = some (some (.ref f_Net___contains__)))
    (gm___getitem__ : PySem.W.findIn K (.ref a_Net) "__getitem__" = some (some (.ref f_Net___getitem__)))
    (gm_tied : PySem.W.findIn K (.ref a_Net) "tied" = some (some (.ref f_Net_tied)))
    (gm___add__ : PySem.W.findIn K (.ref a_Net) "__add__" = some (some (.ref f_Net___add__)))
    (gm___sub__ : PySem.W.findIn K (.ref a_Net) "__sub__" = some (some (.ref f_Net___sub__)))
    (gm_without : PySem.W.findIn K (.ref a_Net) "without" = some (some (.ref f_Net_without)))
    (eM2 : netP2Ok K a_Net f_Net___add__ f_Net___sub__ f_Net_without = true)
    (eM : netPOk K a_Net f_Net___eq__ f_Net___len__ f_Net___contains__ f_Net___getitem__ f_Net_tied = true)
    (eN : netOk K fN a_Net = true)
    (l_init : K.lookup fI = some ⟨oc_init, od_init, .func (PySem.W.fnOf "__init__" "DrawError.__init__" (defArgs s_DrawError___init__) (defBody s_DrawError___init__) (defScope s_DrawError___init__) .none kV_init dc_init pm_init an_init cd_init ct_init), sl_init⟩)
    (c_init : PySem.W.codeIn K cd_init "DrawError.__init__" = true)
    (k_init : PySem.W.keepIn K (.ref fI) = true)
    (l_net : K.lookup fN = some ⟨oc_net, od_net, .func (PySem.W.fnOf "__init__" "Net.__init__" (defArgs s_Net___init__) (defBody s_Net___init__) (defScope s_Net___init__) .none kV_net dc_net pm_net an_net cd_net ct_net), sl_net⟩)
    (c_net : PySem.W.codeIn K cd_net "Net.__init__" = true)
    (k_net : PySem.W.keepIn K (.ref fN) = true)
    (l_Net___eq__ : K.lookup f_Net___eq__ = some ⟨oc_Net___eq__, od_Net___eq__, .func (PySem.W.fnOf "__eq__" "Net.__eq__" (defArgs s_Net___eq__) (defBody s_Net___eq__) (defScope s_Net___eq__) .none kV_Net___eq__ dc_Net___eq__ pm_Net___eq__ an_Net___eq__ cd_Net___eq__ ct_Net___eq__), sl_Net___eq__⟩)
    (c_Net___eq__ : PySem.W.codeIn K cd_Net___eq__ "Net.__eq__" = true)
    (k_Net___eq__ : PySem.W.keepIn K (.ref f_Net___eq__) = true)
    (l_Net___len__ : K.lookup f_Net___len__ = some ⟨oc_Net___len__, od_Net___len__, .func (PySem.W.fnOf "__len__" "Net.__len__" (defArgs s_Net___len__) (defBody s_Net___len__) (defScope s_Net___len__) .none kV_Net___len__ dc_Net___len__ pm_Net___len__ an_Net___len__ cd_Net___len__ ct_Net___len__), sl_Net___len__⟩)
    (c_Net___len__ : PySem.W.codeIn K cd_Net___len__ "Net.__len__" = true)
    (k_Net___len__ : PySem.W.keepIn K (.ref f_Net___len__) = true)
    (l_Net___contains__ : K.lookup f_Net___contains__ = some ⟨oc_Net___contains__, od_Net___contains__, .func (PySem.W.fnOf "__contains__" "Net.__contains__" (defArgs s_Net___contains__) (defBody s_Net___contains__) (defScope s_Net___contains__) .none kV_Net___contains__ dc_Net___contains__ pm_Net___contains__ an_Net___contains__ cd_Net___contains__ ct_Net___contains__), sl_Net___contains__⟩)
    (c_Net___contains__ : PySem.W.codeIn K cd_Net___contains__ "Net.__contains__" = true)
    (k_Net___contains__ : PySem.W.keepIn K (.ref f_Net___contains__) = true)
    (l_Net___getitem__ : K.lookup f_Net___getitem__ = some ⟨oc_Net___getitem__, od_Net___getitem__, .func (PySem.W.fnOf "__getitem__" "Net.__getitem__" (defArgs s_Net___getitem__) (defBody s_Net___getitem__) (defScope s_Net___getitem__) .none kV_Net___getitem__ dc_Net___getitem__ pm_Net___getitem__ an_Net___getitem__ cd_Net___getitem__ ct_Net___getitem__), sl_Net___getitem__⟩)
    (c_Net___getitem__ : PySem.W.codeIn K cd_Net___getitem__ "Net.__getitem__" = true)
    (k_Net___getitem__ : PySem.W.keepIn K (.ref f_Net___getitem__) = true)
    (l_Net_tied : K.lookup f_Net_tied = some ⟨oc_Net_tied, od_Net_tied, .func (PySem.W.fnOf "tied" "Net.tied" (defArgs s_Net_tied) (defBody s_Net_tied) (defScope s_Net_tied) .none kV_Net_tied dc_Net_tied pm_Net_tied an_Net_tied cd_Net_tied ct_Net_tied), sl_Net_tied⟩)
    (c_Net_tied : PySem.W.codeIn K cd_Net_tied "Net.tied" = true)
    (k_Net_tied : PySem.W.keepIn K (.ref f_Net_tied) = true)
    (l_Net___add__ : K.lookup f_Net___add__ = some ⟨oc_Net___add__, od_Net___add__, .func (PySem.W.fnOf "__add__" "Net.__add__" (defArgs s_Net___add__) (defBody s_Net___add__) (defScope s_Net___add__) .none kV_Net___add__ dc_Net___add__ pm_Net___add__ an_Net___add__ cd_Net___add__ ct_Net___add__), sl_Net___add__⟩)
    (c_Net___add__ : PySem.W.codeIn K cd_Net___add__ "Net.__add__" = true)
    (k_Net___add__ : PySem.W.keepIn K (.ref f_Net___add__) = true)
    (l_Net___sub__ : K.lookup f_Net___sub__ = some ⟨oc_Net___sub__, od_Net___sub__, .func (PySem.W.fnOf "__sub__" "Net.__sub__" (defArgs s_Net___sub__) (defBody s_Net___sub__) (defScope s_Net___sub__) .none kV_Net___sub__ dc_Net___sub__ pm_Net___sub__ an_Net___sub__ cd_Net___sub__ ct_Net___sub__), sl_Net___sub__⟩)
    (c_Net___sub__ : PySem.W.codeIn K cd_Net___sub__ "Net.__sub__" = true)
    (k_Net___sub__ : PySem.W.keepIn K (.ref f_Net___sub__) = true)
    (l_Net_without : K.lookup f_Net_without = some ⟨oc_Net_without, od_Net_without, .func (PySem.W.fnOf "without" "Net.without" (defArgs s_Net_without) (defBody s_Net_without) (defScope s_Net_without) .none kV_Net_without dc_Net_without pm_Net_without an_Net_without cd_Net_without ct_Net_without), sl_Net_without⟩)
    (c_Net_without : PySem.W.codeIn K cd_Net_without "Net.without" = true)
    (k_Net_without : PySem.W.keepIn K (.ref f_Net_without) = true)
    (g_is_name : PySem.W.nsIn K mainGlobals "is_name" = some (some (.ref f_is_name)))
    (l_is_name : K.lookup f_is_name = some ⟨oc_is_name, od_is_name, .func (PySem.W.fnOf "is_name" "is_name" (defArgs s_is_name) (defBody s_is_name) (defScope s_is_name) .none kV_is_name dc_is_name pm_is_name an_is_name cd_is_name ct_is_name), sl_is_name⟩)
    (c_is_name : PySem.W.codeIn K cd_is_name "is_name" = true)
    (k_is_name : PySem.W.keepIn K (.ref f_is_name) = true)
    (g_reached : PySem.W.nsIn K mainGlobals "reached" = some (some (.ref f_reached)))
    (l_reached : K.lookup f_reached = some ⟨oc_reached, od_reached, .func (PySem.W.fnOf "reached" "reached" (defArgs s_reached) (defBody s_reached) (defScope s_reached) .none kV_reached dc_reached pm_reached an_reached cd_reached ct_reached), sl_reached⟩)
    (c_reached : PySem.W.codeIn K cd_reached "reached" = true)
    (k_reached : PySem.W.keepIn K (.ref f_reached) = true)
    (g_read_places : PySem.W.nsIn K mainGlobals "read_places" = some (some (.ref f_read_places)))
    (l_read_places : K.lookup f_read_places = some ⟨oc_read_places, od_read_places, .func (PySem.W.fnOf "read_places" "read_places" (defArgs s_read_places) (defBody s_read_places) (defScope s_read_places) .none kV_read_places dc_read_places pm_read_places an_read_places cd_read_places ct_read_places), sl_read_places⟩)
    (c_read_places : PySem.W.codeIn K cd_read_places "read_places" = true)
    (k_read_places : PySem.W.keepIn K (.ref f_read_places) = true)
    (g_read_tie : PySem.W.nsIn K mainGlobals "read_tie" = some (some (.ref f_read_tie)))
    (l_read_tie : K.lookup f_read_tie = some ⟨oc_read_tie, od_read_tie, .func (PySem.W.fnOf "read_tie" "read_tie" (defArgs s_read_tie) (defBody s_read_tie) (defScope s_read_tie) .none kV_read_tie dc_read_tie pm_read_tie an_read_tie cd_read_tie ct_read_tie), sl_read_tie⟩)
    (c_read_tie : PySem.W.codeIn K cd_read_tie "read_tie" = true)
    (k_read_tie : PySem.W.keepIn K (.ref f_read_tie) = true)
    (g_read_net : PySem.W.nsIn K mainGlobals "read_net" = some (some (.ref f_read_net)))
    (l_read_net : K.lookup f_read_net = some ⟨oc_read_net, od_read_net, .func (PySem.W.fnOf "read_net" "read_net" (defArgs s_read_net) (defBody s_read_net) (defScope s_read_net) .none kV_read_net dc_read_net pm_read_net an_read_net cd_read_net ct_read_net), sl_read_net⟩)
    (c_read_net : PySem.W.codeIn K cd_read_net "read_net" = true)
    (k_read_net : PySem.W.keepIn K (.ref f_read_net) = true)
    (g_ties_in_sequence : PySem.W.nsIn K mainGlobals "ties_in_sequence" = some (some (.ref f_ties_in_sequence)))
    (l_ties_in_sequence : K.lookup f_ties_in_sequence = some ⟨oc_ties_in_sequence, od_ties_in_sequence, .func (PySem.W.fnOf "ties_in_sequence" "ties_in_sequence" (defArgs s_ties_in_sequence) (defBody s_ties_in_sequence) (defScope s_ties_in_sequence) .none kV_ties_in_sequence dc_ties_in_sequence pm_ties_in_sequence an_ties_in_sequence cd_ties_in_sequence ct_ties_in_sequence), sl_ties_in_sequence⟩)
    (c_ties_in_sequence : PySem.W.codeIn K cd_ties_in_sequence "ties_in_sequence" = true)
    (k_ties_in_sequence : PySem.W.keepIn K (.ref f_ties_in_sequence) = true)
    (g_neighbours : PySem.W.nsIn K mainGlobals "neighbours" = some (some (.ref f_neighbours)))
    (l_neighbours : K.lookup f_neighbours = some ⟨oc_neighbours, od_neighbours, .func (PySem.W.fnOf "neighbours" "neighbours" (defArgs s_neighbours) (defBody s_neighbours) (defScope s_neighbours) .none kV_neighbours dc_neighbours pm_neighbours an_neighbours cd_neighbours ct_neighbours), sl_neighbours⟩)
    (c_neighbours : PySem.W.codeIn K cd_neighbours "neighbours" = true)
    (k_neighbours : PySem.W.keepIn K (.ref f_neighbours) = true)
    (g_check_well_tied : PySem.W.nsIn K mainGlobals "check_well_tied" = some (some (.ref f_check_well_tied)))
    (l_check_well_tied : K.lookup f_check_well_tied = some ⟨oc_check_well_tied, od_check_well_tied, .func (PySem.W.fnOf "check_well_tied" "check_well_tied" (defArgs s_check_well_tied) (defBody s_check_well_tied) (defScope s_check_well_tied) .none kV_check_well_tied dc_check_well_tied pm_check_well_tied an_check_well_tied cd_check_well_tied ct_check_well_tied), sl_check_well_tied⟩)
    (c_check_well_tied : PySem.W.codeIn K cd_check_well_tied "check_well_tied" = true)
    (k_check_well_tied : PySem.W.keepIn K (.ref f_check_well_tied) = true)
    (g_check_place : PySem.W.nsIn K mainGlobals "check_place" = some (some (.ref f_check_place)))
    (l_check_place : K.lookup f_check_place = some ⟨oc_check_place, od_check_place, .func (PySem.W.fnOf "check_place" "check_place" (defArgs s_check_place) (defBody s_check_place) (defScope s_check_place) .none kV_check_place dc_check_place pm_check_place an_check_place cd_check_place ct_check_place), sl_check_place⟩)
    (c_check_place : PySem.W.codeIn K cd_check_place "check_place" = true)
    (k_check_place : PySem.W.keepIn K (.ref f_check_place) = true)
    (g_net_of : PySem.W.nsIn K mainGlobals "net_of" = some (some (.ref f_net_of)))
    (l_net_of : K.lookup f_net_of = some ⟨oc_net_of, od_net_of, .func (PySem.W.fnOf "net_of" "net_of" (defArgs s_net_of) (defBody s_net_of) (defScope s_net_of) .none kV_net_of dc_net_of pm_net_of an_net_of cd_net_of ct_net_of), sl_net_of⟩)
    (c_net_of : PySem.W.codeIn K cd_net_of "net_of" = true)
    (k_net_of : PySem.W.keepIn K (.ref f_net_of) = true)
    (g_is_pair : PySem.W.nsIn K mainGlobals "is_pair" = some (some (.ref f_is_pair)))
    (l_is_pair : K.lookup f_is_pair = some ⟨oc_is_pair, od_is_pair, .func (PySem.W.fnOf "is_pair" "is_pair" (defArgs s_is_pair) (defBody s_is_pair) (defScope s_is_pair) .none kV_is_pair dc_is_pair pm_is_pair an_is_pair cd_is_pair ct_is_pair), sl_is_pair⟩)
    (c_is_pair : PySem.W.codeIn K cd_is_pair "is_pair" = true)
    (k_is_pair : PySem.W.keepIn K (.ref f_is_pair) = true)
    (g_is_tie : PySem.W.nsIn K mainGlobals "is_tie" = some (some (.ref f_is_tie)))
    (l_is_tie : K.lookup f_is_tie = some ⟨oc_is_tie, od_is_tie, .func (PySem.W.fnOf "is_tie" "is_tie" (defArgs s_is_tie) (defBody s_is_tie) (defScope s_is_tie) .none kV_is_tie dc_is_tie pm_is_tie an_is_tie cd_is_tie ct_is_tie), sl_is_tie⟩)
    (c_is_tie : PySem.W.codeIn K cd_is_tie "is_tie" = true)
    (k_is_tie : PySem.W.keepIn K (.ref f_is_tie) = true)
    (g_is_free : PySem.W.nsIn K mainGlobals "is_free" = some (some (.ref f_is_free)))
    (l_is_free : K.lookup f_is_free = some ⟨oc_is_free, od_is_free, .func (PySem.W.fnOf "is_free" "is_free" (defArgs s_is_free) (defBody s_is_free) (defScope s_is_free) .none kV_is_free dc_is_free pm_is_free an_is_free cd_is_free ct_is_free), sl_is_free⟩)
    (c_is_free : PySem.W.codeIn K cd_is_free "is_free" = true)
    (k_is_free : PySem.W.keepIn K (.ref f_is_free) = true)
    (g__law_pot : PySem.W.nsIn K mainGlobals "_law_pot" = some (some (.ref f__law_pot)))
    (l__law_pot : K.lookup f__law_pot = some ⟨oc__law_pot, od__law_pot, .func (PySem.W.fnOf "_law_pot" "_law_pot" (defArgs s__law_pot) (defBody s__law_pot) (defScope s__law_pot) .none kV__law_pot dc__law_pot pm__law_pot an__law_pot cd__law_pot ct__law_pot), sl__law_pot⟩)
    (c__law_pot : PySem.W.codeIn K cd__law_pot "_law_pot" = true)
    (k__law_pot : PySem.W.keepIn K (.ref f__law_pot) = true)
    (g__law_take : PySem.W.nsIn K mainGlobals "_law_take" = some (some (.ref f__law_take)))
    (l__law_take : K.lookup f__law_take = some ⟨oc__law_take, od__law_take, .func (PySem.W.fnOf "_law_take" "_law_take" (defArgs s__law_take) (defBody s__law_take) (defScope s__law_take) .none kV__law_take dc__law_take pm__law_take an__law_take cd__law_take ct__law_take), sl__law_take⟩)
    (c__law_take : PySem.W.codeIn K cd__law_take "_law_take" = true)
    (k__law_take : PySem.W.keepIn K (.ref f__law_take) = true)
    (g__law_of : PySem.W.nsIn K mainGlobals "_law_of" = some (some (.ref f__law_of)))
    (l__law_of : K.lookup f__law_of = some ⟨oc__law_of, od__law_of, .func (PySem.W.fnOf "_law_of" "_law_of" (defArgs s__law_of) (defBody s__law_of) (defScope s__law_of) .none kV__law_of dc__law_of pm__law_of an__law_of cd__law_of ct__law_of), sl__law_of⟩)
    (c__law_of : PySem.W.codeIn K cd__law_of "_law_of" = true)
    (k__law_of : PySem.W.keepIn K (.ref f__law_of) = true)
    (g__law_some : PySem.W.nsIn K mainGlobals "_law_some" = some (some (.ref f__law_some)))
    (l__law_some : K.lookup f__law_some = some ⟨oc__law_some, od__law_some, .func (PySem.W.fnOf "_law_some" "_law_some" (defArgs s__law_some) (defBody s__law_some) (defScope s__law_some) .none kV__law_some dc__law_some pm__law_some an__law_some cd__law_some ct__law_some), sl__law_some⟩)
    (c__law_some : PySem.W.codeIn K cd__law_some "_law_some" = true)
    (k__law_some : PySem.W.keepIn K (.ref f__law_some) = true)
    (g__law_cells : PySem.W.nsIn K mainGlobals "_law_cells" = some (some (.ref f__law_cells)))
    (l__law_cells : K.lookup f__law_cells = some ⟨oc__law_cells, od__law_cells, .func (PySem.W.fnOf "_law_cells" "_law_cells" (defArgs s__law_cells) (defBody s__law_cells) (defScope s__law_cells) .none kV__law_cells dc__law_cells pm__law_cells an__law_cells cd__law_cells ct__law_cells), sl__law_cells⟩)
    (c__law_cells : PySem.W.codeIn K cd__law_cells "_law_cells" = true)
    (k__law_cells : PySem.W.keepIn K (.ref f__law_cells) = true)
    (g__law_answer : PySem.W.nsIn K mainGlobals "_law_answer" = some (some (.ref f__law_answer)))
    (l__law_answer : K.lookup f__law_answer = some ⟨oc__law_answer, od__law_answer, .func (PySem.W.fnOf "_law_answer" "_law_answer" (defArgs s__law_answer) (defBody s__law_answer) (defScope s__law_answer) .none kV__law_answer dc__law_answer pm__law_answer an__law_answer cd__law_answer ct__law_answer), sl__law_answer⟩)
    (c__law_answer : PySem.W.codeIn K cd__law_answer "_law_answer" = true)
    (k__law_answer : PySem.W.keepIn K (.ref f__law_answer) = true)
    (g__law_names : PySem.W.nsIn K mainGlobals "_law_names" = some (some (.ref f__law_names)))
    (l__law_names : K.lookup f__law_names = some ⟨oc__law_names, od__law_names, .func (PySem.W.fnOf "_law_names" "_law_names" (defArgs s__law_names) (defBody s__law_names) (defScope s__law_names) .none kV__law_names dc__law_names pm__law_names an__law_names cd__law_names ct__law_names), sl__law_names⟩)
    (c__law_names : PySem.W.codeIn K cd__law_names "_law_names" = true)
    (k__law_names : PySem.W.keepIn K (.ref f__law_names) = true)
    (g__law_is_there : PySem.W.nsIn K mainGlobals "_law_is_there" = some (some (.ref f__law_is_there)))
    (l__law_is_there : K.lookup f__law_is_there = some ⟨oc__law_is_there, od__law_is_there, .func (PySem.W.fnOf "_law_is_there" "_law_is_there" (defArgs s__law_is_there) (defBody s__law_is_there) (defScope s__law_is_there) .none kV__law_is_there dc__law_is_there pm__law_is_there an__law_is_there cd__law_is_there ct__law_is_there), sl__law_is_there⟩)
    (c__law_is_there : PySem.W.codeIn K cd__law_is_there "_law_is_there" = true)
    (k__law_is_there : PySem.W.keepIn K (.ref f__law_is_there) = true)
    (g__law_lore : PySem.W.nsIn K mainGlobals "_law_lore" = some (some (.ref f__law_lore)))
    (l__law_lore : K.lookup f__law_lore = some ⟨oc__law_lore, od__law_lore, .func (PySem.W.fnOf "_law_lore" "_law_lore" (defArgs s__law_lore) (defBody s__law_lore) (defScope s__law_lore) .none kV__law_lore dc__law_lore pm__law_lore an__law_lore cd__law_lore ct__law_lore), sl__law_lore⟩)
    (c__law_lore : PySem.W.codeIn K cd__law_lore "_law_lore" = true)
    (k__law_lore : PySem.W.keepIn K (.ref f__law_lore) = true)
    (g__law_text : PySem.W.nsIn K mainGlobals "_law_text" = some (some (.ref f__law_text)))
    (l__law_text : K.lookup f__law_text = some ⟨oc__law_text, od__law_text, .func (PySem.W.fnOf "_law_text" "_law_text" (defArgs s__law_text) (defBody s__law_text) (defScope s__law_text) .none kV__law_text dc__law_text pm__law_text an__law_text cd__law_text ct__law_text), sl__law_text⟩)
    (c__law_text : PySem.W.codeIn K cd__law_text "_law_text" = true)
    (k__law_text : PySem.W.keepIn K (.ref f__law_text) = true)
    (g__law_net : PySem.W.nsIn K mainGlobals "_law_net" = some (some (.ref f__law_net)))
    (l__law_net : K.lookup f__law_net = some ⟨oc__law_net, od__law_net, .func (PySem.W.fnOf "_law_net" "_law_net" (defArgs s__law_net) (defBody s__law_net) (defScope s__law_net) .none kV__law_net dc__law_net pm__law_net an__law_net cd__law_net ct__law_net), sl__law_net⟩)
    (c__law_net : PySem.W.codeIn K cd__law_net "_law_net" = true)
    (k__law_net : PySem.W.keepIn K (.ref f__law_net) = true)
    (g__law_agrees : PySem.W.nsIn K mainGlobals "_law_agrees" = some (some (.ref f__law_agrees)))
    (l__law_agrees : K.lookup f__law_agrees = some ⟨oc__law_agrees, od__law_agrees, .func (PySem.W.fnOf "_law_agrees" "_law_agrees" (defArgs s__law_agrees) (defBody s__law_agrees) (defScope s__law_agrees) .none kV__law_agrees dc__law_agrees pm__law_agrees an__law_agrees cd__law_agrees ct__law_agrees), sl__law_agrees⟩)
    (c__law_agrees : PySem.W.codeIn K cd__law_agrees "_law_agrees" = true)
    (k__law_agrees : PySem.W.keepIn K (.ref f__law_agrees) = true)
    (g__law_is_text_right : PySem.W.nsIn K mainGlobals "_law_is_text_right" = some (some (.ref f__law_is_text_right)))
    (l__law_is_text_right : K.lookup f__law_is_text_right = some ⟨oc__law_is_text_right, od__law_is_text_right, .func (PySem.W.fnOf "_law_is_text_right" "_law_is_text_right" (defArgs s__law_is_text_right) (defBody s__law_is_text_right) (defScope s__law_is_text_right) .none kV__law_is_text_right dc__law_is_text_right pm__law_is_text_right an__law_is_text_right cd__law_is_text_right ct__law_is_text_right), sl__law_is_text_right⟩)
    (c__law_is_text_right : PySem.W.codeIn K cd__law_is_text_right "_law_is_text_right" = true)
    (k__law_is_text_right : PySem.W.keepIn K (.ref f__law_is_text_right) = true)
    (g__law_missing : PySem.W.nsIn K mainGlobals "_law_missing" = some (some (.ref f__law_missing)))
    (l__law_missing : K.lookup f__law_missing = some ⟨oc__law_missing, od__law_missing, .func (PySem.W.fnOf "_law_missing" "_law_missing" (defArgs s__law_missing) (defBody s__law_missing) (defScope s__law_missing) .none kV__law_missing dc__law_missing pm__law_missing an__law_missing cd__law_missing ct__law_missing), sl__law_missing⟩)
    (c__law_missing : PySem.W.codeIn K cd__law_missing "_law_missing" = true)
    (k__law_missing : PySem.W.keepIn K (.ref f__law_missing) = true)
    (g__law_right : PySem.W.nsIn K mainGlobals "_law_right" = some (some (.ref f__law_right)))
    (l__law_right : K.lookup f__law_right = some ⟨oc__law_right, od__law_right, .func (PySem.W.fnOf "_law_right" "_law_right" (defArgs s__law_right) (defBody s__law_right) (defScope s__law_right) .none kV__law_right dc__law_right pm__law_right an__law_right (.ref cJ) ct__law_right), sl__law_right⟩)
    (c__law_right : PySem.W.codeIn K (.ref cJ) "_law_right" = true)
    (k__law_right : PySem.W.keepIn K (.ref f__law_right) = true)
    (g_law : PySem.W.nsIn K mainGlobals "law" = some (some (.ref f_law)))
    (l_law : K.lookup f_law = some ⟨oc_law, od_law, .func (PySem.W.fnOf "law" "law" (defArgs s_law) (defBody s_law) (defScope s_law) .none kV_law dc_law pm_law an_law cd_law ct_law), sl_law⟩)
    (c_law : PySem.W.codeIn K cd_law "law" = true)
    (k_law : PySem.W.keepIn K (.ref f_law) = true)
    (z_isinstance : PySem.W.nsIn K mainGlobals "isinstance" = some none)
    (z_len : PySem.W.nsIn K mainGlobals "len" = some none)
    (z_all : PySem.W.nsIn K mainGlobals "all" = some none)
    (z_any : PySem.W.nsIn K mainGlobals "any" = some none)
    (z_set : PySem.W.nsIn K mainGlobals "set" = some none)
    (z_tuple : PySem.W.nsIn K mainGlobals "tuple" = some none)
    (z_enumerate : PySem.W.nsIn K mainGlobals "enumerate" = some none)
    (z_str : PySem.W.nsIn K mainGlobals "str" = some none)
    (z_ValueError : PySem.W.nsIn K mainGlobals "ValueError" = some none)
    (z_list : PySem.W.nsIn K mainGlobals "list" = some none)
    (z_range : PySem.W.nsIn K mainGlobals "range" = some none)
    (z_int : PySem.W.nsIn K mainGlobals "int" = some none)
    (z_abs : PySem.W.nsIn K mainGlobals "abs" = some none)
    (z_max : PySem.W.nsIn K mainGlobals "max" = some none)
    (z_min : PySem.W.nsIn K mainGlobals "min" = some none)
    (z_repr : PySem.W.nsIn K mainGlobals "repr" = some none)
    (z_zip : PySem.W.nsIn K mainGlobals "zip" = some none)
    (z_sorted : PySem.W.nsIn K mainGlobals "sorted" = some none)
    (tabE : decide (PySem.W.tabIn K "_law_right" = some (cJ, tabP K)) = true)
    (tabN : (K.lookup (tabP K)).isNone = true)
    : LawAtS l w K CX0 11 63 "_law_script" mg fa h := by
  cases hfa.symm.trans (PySem.W.mg_of X G g_law)
  obtain ⟨xT, xF⟩ := kit_mk eK
  have N := net_mk eN
  obtain ⟨CJ, hJ⟩ := hT _ _ (of_decide_eq_true tabE)
  have nJ : K.lookup (tabP K) = none := Option.isNone_iff_eq_none.mp tabN
  let ad : Adr := { fI := fI, f_is_name := f_is_name, f_reached := f_reached, f_read_places := f_read_places, f_read_tie := f_read_tie, f_read_net := f_read_net, f_ties_in_sequence := f_ties_in_sequence, f_neighbours := f_neighbours, f_check_well_tied := f_check_well_tied, f_check_place := f_check_place, f_net_of := f_net_of, f_is_pair := f_is_pair, f_is_tie := f_is_tie, f_is_free := f_is_free, f__law_pot := f__law_pot, f__law_take := f__law_take, f__law_of := f__law_of, f__law_some := f__law_some, f__law_cells := f__law_cells, f__law_answer := f__law_answer, f__law_names := f__law_names, f__law_is_there := f__law_is_there, f__law_lore := f__law_lore, f__law_text := f__law_text, f__law_net := f__law_net, f__law_agrees := f__law_agrees, f__law_is_text_right := f__law_is_text_right, f__law_missing := f__law_missing, f__law_right := f__law_right, f_Net___eq__ := f_Net___eq__, f_Net___len__ := f_Net___len__, f_Net___contains__ := f_Net___contains__, f_Net___getitem__ := f_Net___getitem__, f_Net_tied := f_Net_tied, f_Net___add__ := f_Net___add__, f_Net___sub__ := f_Net___sub__, f_Net_without := f_Net_without, f_Net___iter__ := 0, a_DrawError := a_DrawError, a_BadNet := a_BadNet, a_NotTied := a_NotTied, a_NoPlace := a_NoPlace, a_BadTie := a_BadTie, a_Full := a_Full, a_Few := a_Few, a_Net := a_Net }
  have T : Txt K mg ad := {
    n_isinstance := PySem.W.mg_none_of X G z_isinstance
    n_len := PySem.W.mg_none_of X G z_len
    n_all := PySem.W.mg_none_of X G z_all
    n_any := PySem.W.mg_none_of X G z_any
    n_set := PySem.W.mg_none_of X G z_set
    n_tuple := PySem.W.mg_none_of X G z_tuple
    n_enumerate := PySem.W.mg_none_of X G z_enumerate
    n_str := PySem.W.mg_none_of X G z_str
    n_ValueError := PySem.W.mg_none_of X G z_ValueError
    n_list := PySem.W.mg_none_of X G z_list
    n_range := PySem.W.mg_none_of X G z_range
    n_int := PySem.W.mg_none_of X G z_int
    n_abs := PySem.W.mg_none_of X G z_abs
    n_max := PySem.W.mg_none_of X G z_max
    n_min := PySem.W.mg_none_of X G z_min
    n_repr := PySem.W.mg_none_of X G z_repr
    n_zip := PySem.W.mg_none_of X G z_zip
    n_sorted := PySem.W.mg_none_of X G z_sorted
    m_LETTERS := ⟨_, PySem.W.mg_of X G v_LETTERS⟩
    m_LONGEST_NAME := ⟨_, PySem.W.mg_of X G v_LONGEST_NAME⟩
    m_FEWEST_PLACES := ⟨_, PySem.W.mg_of X G v_FEWEST_PLACES⟩
    m_MOST_PLACES := ⟨_, PySem.W.mg_of X G v_MOST_PLACES⟩
    m_FEWEST_TIES := ⟨_, PySem.W.mg_of X G v_FEWEST_TIES⟩
    m_MOST_TIES := ⟨_, PySem.W.mg_of X G v_MOST_TIES⟩
    m_is_name := PySem.W.mg_of X G g_is_name
    k_is_name := k_is_name
    m_reached := PySem.W.mg_of X G g_reached
    k_reached := k_reached
    m_read_places := PySem.W.mg_of X G g_read_places
    k_read_places := k_read_places
    m_read_tie := PySem.W.mg_of X G g_read_tie
    k_read_tie := k_read_tie
    m_read_net := PySem.W.mg_of X G g_read_net
    k_read_net := k_read_net
    m_ties_in_sequence := PySem.W.mg_of X G g_ties_in_sequence
    k_ties_in_sequence := k_ties_in_sequence
    m_neighbours := PySem.W.mg_of X G g_neighbours
    k_neighbours := k_neighbours
    m_check_well_tied := PySem.W.mg_of X G g_check_well_tied
    k_check_well_tied := k_check_well_tied
    m_check_place := PySem.W.mg_of X G g_check_place
    k_check_place := k_check_place
    m_net_of := PySem.W.mg_of X G g_net_of
    k_net_of := k_net_of
    m_is_pair := PySem.W.mg_of X G g_is_pair
    k_is_pair := k_is_pair
    m_is_tie := PySem.W.mg_of X G g_is_tie
    k_is_tie := k_is_tie
    m_is_free := PySem.W.mg_of X G g_is_free
    k_is_free := k_is_free
    m__law_pot := PySem.W.mg_of X G g__law_pot
    k__law_pot := k__law_pot
    m__law_take := PySem.W.mg_of X G g__law_take
    k__law_take := k__law_take
    m__law_of := PySem.W.mg_of X G g__law_of
    k__law_of := k__law_of
    m__law_some := PySem.W.mg_of X G g__law_some
    k__law_some := k__law_some
    m__law_cells := PySem.W.mg_of X G g__law_cells
    k__law_cells := k__law_cells
    m__law_answer := PySem.W.mg_of X G g__law_answer
    k__law_answer := k__law_answer
    m__law_names := PySem.W.mg_of X G g__law_names
    k__law_names := k__law_names
    m__law_is_there := PySem.W.mg_of X G g__law_is_there
    k__law_is_there := k__law_is_there
    m__law_lore := PySem.W.mg_of X G g__law_lore
    k__law_lore := k__law_lore
    m__law_text := PySem.W.mg_of X G g__law_text
    k__law_text := k__law_text
    m__law_net := PySem.W.mg_of X G g__law_net
    k__law_net := k__law_net
    m__law_agrees := PySem.W.mg_of X G g__law_agrees
    k__law_agrees := k__law_agrees
    m__law_is_text_right := PySem.W.mg_of X G g__law_is_text_right
    k__law_is_text_right := k__law_is_text_right
    m__law_missing := PySem.W.mg_of X G g__law_missing
    k__law_missing := k__law_missing
    m__law_right := PySem.W.mg_of X G g__law_right
    k__law_right := k__law_right
    m_DrawError := PySem.W.mg_of X G g_DrawError
    c_DrawError := err_mk x_DrawError rfl e_DrawError
    m_BadNet := PySem.W.mg_of X G g_BadNet
    c_BadNet := err_mk x_BadNet rfl e_BadNet
    m_NotTied := PySem.W.mg_of X G g_NotTied
    c_NotTied := err_mk x_NotTied rfl e_NotTied
    m_NoPlace := PySem.W.mg_of X G g_NoPlace
    c_NoPlace := err_mk x_NoPlace rfl e_NoPlace
    m_BadTie := PySem.W.mg_of X G g_BadTie
    c_BadTie := err_mk x_BadTie rfl e_BadTie
    m_Full := PySem.W.mg_of X G g_Full
    c_Full := err_mk x_Full rfl e_Full
    m_Few := PySem.W.mg_of X G g_Few
    c_Few := err_mk x_Few rfl e_Few
    m_Net := PySem.W.mg_of X G g_Net
    tI := tI }
  have F_init := fun_mk (st := s_DrawError___init__) l_init c_init k_init
  have b_init := F_init.binds (ps := ["self", "value"]) fun _ _ _ _ _ _ us hl => match us, hl with | [_, _], _ => rfl
  have F_net := fun_mk (st := s_Net___init__) l_net c_net k_net
  have b_net := F_net.binds (ps := ["self", "text"]) fun _ _ _ _ _ _ us hl => match us, hl with | [_, _], _ => rfl
  have F_Net___eq__ := fun_mk (st := s_Net___eq__) l_Net___eq__ c_Net___eq__ k_Net___eq__
  have b_Net___eq__ := F_Net___eq__.binds (ps := ["self", "other"]) fun _ _ _ _ _ _ us hl => match us, hl with | [_, _], _ => rfl
  have F_Net___len__ := fun_mk (st := s_Net___len__) l_Net___len__ c_Net___len__ k_Net___len__
  have b_Net___len__ := F_Net___len__.binds (ps := ["self"]) fun _ _ _ _ _ _ us hl => match us, hl with | [_], _ => rfl
  have F_Net___contains__ := fun_mk (st := s_Net___contains__) l_Net___contains__ c_Net___contains__ k_Net___contains__
  have b_Net___contains__ := F_Net___contains__.binds (ps := ["self", "x"]) fun _ _ _ _ _ _ us hl => match us, hl with | [_, _], _ => rfl
  have F_Net___getitem__ := fun_mk (st := s_Net___getitem__) l_Net___getitem__ c_Net___getitem__ k_Net___getitem__
  have b_Net___getitem__ := F_Net___getitem__.binds (ps := ["self", "at"]) fun _ _ _ _ _ _ us hl => match us, hl with | [_, _], _ => rfl
  have F_Net_tied := fun_mk (st := s_Net_tied) l_Net_tied c_Net_tied k_Net_tied
  have b_Net_tied := F_Net_tied.binds (ps := ["self", "one", "other"]) fun _ _ _ _ _ _ us hl => match us, hl with | [_, _, _], _ => rfl
  have F_Net___add__ := fun_mk (st := s_Net___add__) l_Net___add__ c_Net___add__ k_Net___add__
  have b_Net___add__ := F_Net___add__.binds (ps := ["self", "other"]) fun _ _ _ _ _ _ us hl => match us, hl with | [_, _], _ => rfl
  have F_Net___sub__ := fun_mk (st := s_Net___sub__) l_Net___sub__ c_Net___sub__ k_Net___sub__
  have b_Net___sub__ := F_Net___sub__.binds (ps := ["self", "other"]) fun _ _ _ _ _ _ us hl => match us, hl with | [_, _], _ => rfl
  have F_Net_without := fun_mk (st := s_Net_without) l_Net_without c_Net_without k_Net_without
  have b_Net_without := F_Net_without.binds (ps := ["self", "place"]) fun _ _ _ _ _ _ us hl => match us, hl with | [_, _], _ => rfl
  have F_is_name := fun_mk (st := s_is_name) l_is_name c_is_name k_is_name
  have b_is_name := F_is_name.binds (ps := ["value"]) fun _ _ _ _ _ _ us hl => match us, hl with | [_], _ => rfl
  have F_reached := fun_mk (st := s_reached) l_reached c_reached k_reached
  have b_reached := F_reached.binds (ps := ["near", "start", "some"]) fun _ _ _ _ _ _ us hl => match us, hl with | [_, _, _], _ => rfl
  have F_read_places := fun_mk (st := s_read_places) l_read_places c_read_places k_read_places
  have b_read_places := F_read_places.binds (ps := ["line"]) fun _ _ _ _ _ _ us hl => match us, hl with | [_], _ => rfl
  have F_read_tie := fun_mk (st := s_read_tie) l_read_tie c_read_tie k_read_tie
  have b_read_tie := F_read_tie.binds (ps := ["line", "places", "ties"]) fun _ _ _ _ _ _ us hl => match us, hl with | [_, _, _], _ => rfl
  have F_read_net := fun_mk (st := s_read_net) l_read_net c_read_net k_read_net
  have b_read_net := F_read_net.binds (ps := ["text"]) fun _ _ _ _ _ _ us hl => match us, hl with | [_], _ => rfl
  have F_ties_in_sequence := fun_mk (st := s_ties_in_sequence) l_ties_in_sequence c_ties_in_sequence k_ties_in_sequence
  have b_ties_in_sequence := F_ties_in_sequence.binds (ps := ["places", "ties"]) fun _ _ _ _ _ _ us hl => match us, hl with | [_, _], _ => rfl
  have F_neighbours := fun_mk (st := s_neighbours) l_neighbours c_neighbours k_neighbours
  have b_neighbours := F_neighbours.binds (ps := ["places", "ties"]) fun _ _ _ _ _ _ us hl => match us, hl with | [_, _], _ => rfl
  have F_check_well_tied := fun_mk (st := s_check_well_tied) l_check_well_tied c_check_well_tied k_check_well_tied
  have b_check_well_tied := F_check_well_tied.binds (ps := ["places", "near"]) fun _ _ _ _ _ _ us hl => match us, hl with | [_, _], _ => rfl
  have F_check_place := fun_mk (st := s_check_place) l_check_place c_check_place k_check_place
  have b_check_place := F_check_place.binds (ps := ["net", "value"]) fun _ _ _ _ _ _ us hl => match us, hl with | [_, _], _ => rfl
  have F_net_of := fun_mk (st := s_net_of) l_net_of c_net_of k_net_of
  have b_net_of := F_net_of.binds (ps := ["places", "ties"]) fun _ _ _ _ _ _ us hl => match us, hl with | [_, _], _ => rfl
  have F_is_pair := fun_mk (st := s_is_pair) l_is_pair c_is_pair k_is_pair
  have b_is_pair := F_is_pair.binds (ps := ["net", "value"]) fun _ _ _ _ _ _ us hl => match us, hl with | [_, _], _ => rfl
  have F_is_tie := fun_mk (st := s_is_tie) l_is_tie c_is_tie k_is_tie
  have b_is_tie := F_is_tie.binds (ps := ["net", "value"]) fun _ _ _ _ _ _ us hl => match us, hl with | [_, _], _ => rfl
  have F_is_free := fun_mk (st := s_is_free) l_is_free c_is_free k_is_free
  have b_is_free := F_is_free.binds (ps := ["net", "value"]) fun _ _ _ _ _ _ us hl => match us, hl with | [_, _], _ => rfl
  have F__law_pot := fun_mk (st := s__law_pot) l__law_pot c__law_pot k__law_pot
  have b__law_pot := F__law_pot.binds (ps := ["_law_script", "_law_place"]) fun _ _ _ _ _ _ us hl => match us, hl with | [_, _], _ => rfl
  have F__law_take := fun_mk (st := s__law_take) l__law_take c__law_take k__law_take
  have b__law_take := F__law_take.binds (ps := ["_law_pot_here", "_law_upto"]) fun _ _ _ _ _ _ us hl => match us, hl with | [_, _], _ => rfl
  have F__law_of := fun_mk (st := s__law_of) l__law_of c__law_of k__law_of
  have b__law_of := F__law_of.binds (ps := ["_law_pot_here", "_law_some_here"]) fun _ _ _ _ _ _ us hl => match us, hl with | [_, _], _ => rfl
  have F__law_some := fun_mk (st := s__law_some) l__law_some c__law_some k__law_some
  have b__law_some := F__law_some.binds (ps := ["_law_pot_here", "_law_pool", "_law_wanted"]) fun _ _ _ _ _ _ us hl => match us, hl with | [_, _, _], _ => rfl
  have F__law_cells := fun_mk (st := s__law_cells) l__law_cells c__law_cells k__law_cells
  have b__law_cells := F__law_cells.binds (ps := ["_law_script", "_law_most"]) fun _ _ _ _ _ _ us hl => match us, hl with | [_, _], _ => rfl
  have F__law_answer := fun_mk (st := s__law_answer) l__law_answer c__law_answer k__law_answer
  have b__law_answer := F__law_answer.binds (ps := ["_law_look"]) fun _ _ _ _ _ _ us hl => match us, hl with | [_], _ => rfl
  have F__law_names := fun_mk (st := s__law_names) l__law_names c__law_names k__law_names
  have b__law_names := F__law_names.binds (ps := ["_law_pot_here", "_law_amount"]) fun _ _ _ _ _ _ us hl => match us, hl with | [_, _], _ => rfl
  have F__law_is_there := fun_mk (st := s__law_is_there) l__law_is_there c__law_is_there k__law_is_there
  have b__law_is_there := F__law_is_there.binds (ps := ["_law_ties", "_law_one", "_law_other"]) fun _ _ _ _ _ _ us hl => match us, hl with | [_, _, _], _ => rfl
  have F__law_lore := fun_mk (st := s__law_lore) l__law_lore c__law_lore k__law_lore
  have b__law_lore := F__law_lore.binds (ps := ["_law_pot_here", "_law_most", "_law_laps"]) fun _ _ _ _ _ _ us hl => match us, hl with | [_, _, _], _ => rfl
  have F__law_text := fun_mk (st := s__law_text) l__law_text c__law_text k__law_text
  have b__law_text := F__law_text.binds (ps := ["_law_lore_here"]) fun _ _ _ _ _ _ us hl => match us, hl with | [_], _ => rfl
  have F__law_net := fun_mk (st := s__law_net) l__law_net c__law_net k__law_net
  have b__law_net := F__law_net.binds (ps := ["_law_lore_here"]) fun _ _ _ _ _ _ us hl => match us, hl with | [_], _ => rfl
  have F__law_agrees := fun_mk (st := s__law_agrees) l__law_agrees c__law_agrees k__law_agrees
  have b__law_agrees := F__law_agrees.binds (ps := ["_law_net_here"]) fun _ _ _ _ _ _ us hl => match us, hl with | [_], _ => rfl
  have F__law_is_text_right := fun_mk (st := s__law_is_text_right) l__law_is_text_right c__law_is_text_right k__law_is_text_right
  have b__law_is_text_right := F__law_is_text_right.binds (ps := ["_law_net_here"]) fun _ _ _ _ _ _ us hl => match us, hl with | [_], _ => rfl
  have F__law_missing := fun_mk (st := s__law_missing) l__law_missing c__law_missing k__law_missing
  have b__law_missing := F__law_missing.binds (ps := ["_law_net_here"]) fun _ _ _ _ _ _ us hl => match us, hl with | [_], _ => rfl
  have F__law_right := fun_mk (st := s__law_right) l__law_right c__law_right k__law_right
  have b__law_right := F__law_right.binds (ps := ["_law_pot_here"]) fun _ _ _ _ _ _ us hl => match us, hl with | [_], _ => rfl
  have F_law := fun_mk (st := s_law) l_law c_law k_law
  have b_law := F_law.binds (ps := ["_law_script"]) fun _ _ _ _ _ _ us hl => match us, hl with | [_], _ => rfl
  have M : NetP K ad := netP_mk eM
  have M2 : NetP2 K ad := netP2_mk eM2
  refine ⟨PySem.W.fnOf "law" "law" (defArgs s_law) (defBody s_law) (defScope s_law) .none kV_law dc_law pm_law an_law cd_law ct_law, [(cJ, tabP K)], spLaw K (tabP K), fun p hp => ?_, fun p hp => ?_, fun p hp => ?_, fun s v => .of_eq rfl, fun H a ns _ _ hH hS => ?_, fun base _ _ TBs => ?_⟩
  · rw [List.mem_singleton.mp hp]
    exact hJ
  · rw [List.mem_singleton.mp hp]
    exact nJ
  · rw [List.mem_singleton.mp hp]
    exact CJ
  · refine ⟨a, ns, rfl, hS, fun q hq => ?_, fun _ => rfl⟩
    rw [List.mem_singleton.mp hq]
    exact TabS.nil (hH _ (List.mem_singleton.mpr rfl))
  have TB := TBs _ (List.mem_singleton.mpr rfl)
  have G_init := ok_init (P := l.prog) (w := w) (mg := mg) (base := base) F_init
  have G_is_name := ok_is_name (P := l.prog) (w := w) (base := base) F_is_name T
  have G_reached := ok_reached (P := l.prog) (w := w) (base := base) F_reached T
  have G_ties_in_sequence := ok_ties_in_sequence (P := l.prog) (w := w) (base := base) F_ties_in_sequence T
  have G_neighbours := ok_neighbours (P := l.prog) (w := w) (base := base) F_neighbours T
  have G_read_tie := ok_read_tie (P := l.prog) (w := w) (base := base) F_read_tie T
  have G_check_well_tied := ok_check_well_tied F_check_well_tied T G_init b_init G_reached b_reached
  have G_read_places := ok_read_places F_read_places T G_is_name b_is_name
  have G_read_net := ok_read_net F_read_net T G_init b_init G_read_places b_read_places G_read_tie b_read_tie G_ties_in_sequence b_ties_in_sequence
  have G_net := ok_Net___init__ F_net T N G_read_net b_read_net G_neighbours b_neighbours G_check_well_tied b_check_well_tied
  have G_neighboursTL := ok_neighboursTL (P := l.prog) (w := w) (base := base) F_neighbours T
  have G_neighboursLL := ok_neighboursLL (P := l.prog) (w := w) (base := base) F_neighbours T
  have G_con := ok_Net___contains__ (P := l.prog) (w := w) (mg := mg) (base := base) (ad := ad) F_Net___contains__ N
  have G_get := ok_Net___getitem__ F_Net___getitem__ T N G_init b_init
  have G_pl := ok_check_place (fN := fN) F_check_place T M G_init b_init G_con b_Net___contains__
  have G_tied := ok_Net_tied F_Net_tied T N G_pl b_check_place
  have G_eq := ok_Net___eq__ (P := l.prog) (w := w) (base := base) F_Net___eq__ T N M
  have G_is_pair := ok_is_pair F_is_pair T N M G_con b_Net___contains__
  have G_is_tie := ok_is_tie F_is_tie T N M G_is_pair b_is_pair G_tied b_Net_tied
  have G_is_free := ok_is_free F_is_free T N M G_is_pair b_is_pair G_tied b_Net_tied
  have G_ofTT := ok_net_ofTT F_net_of T N G_net b_net G_neighbours b_neighbours G_check_well_tied b_check_well_tied
  have G_ofTL := ok_net_ofTL F_net_of T N G_net b_net G_neighboursTL b_neighbours G_check_well_tied b_check_well_tied
  have G_ofLL := ok_net_ofLL F_net_of T N G_net b_net G_neighboursLL b_neighbours G_check_well_tied b_check_well_tied
  have G_add := ok_Net_add F_Net___add__ T N G_init b_init G_is_free b_is_free G_ties_in_sequence b_ties_in_sequence G_ofTT b_net_of
  have G_sub := ok_Net_sub F_Net___sub__ T N G_init b_init G_is_tie b_is_tie G_ties_in_sequence b_ties_in_sequence G_ofTL b_net_of
  have G_without := ok_Net_without F_Net_without T N G_init b_init G_pl b_check_place G_ofLL b_net_of
  have G__law_pot := ok__law_pot (P := l.prog) (w := w) (base := base) F__law_pot T
  have G__law_take := ok__law_take (P := l.prog) (w := w) (base := base) F__law_take T
  have G__law_cells := ok__law_cells (P := l.prog) (w := w) (base := base) F__law_cells T
  have G__law_is_there := ok__law_is_there (P := l.prog) (w := w) (base := base) F__law_is_there T
  have G__law_text := ok__law_text (P := l.prog) (w := w) (base := base) F__law_text T
  have G__law_of := ok__law_of F__law_of T G__law_take b__law_take
  have G__law_some := ok__law_some F__law_some T G__law_take b__law_take
  have G__law_names := ok__law_names F__law_names T G__law_some b__law_some
  have G__law_lore := ok__law_lore F__law_lore T G__law_take b__law_take G__law_of b__law_of G__law_some b__law_some G__law_names b__law_names G__law_is_there b__law_is_there
  have G__law_net := ok__law_net F__law_net T N G_net b_net G__law_text b__law_text
  have G__law_agrees := ok__law_agrees F__law_agrees T N M G_get b_Net___getitem__ G_tied b_Net_tied
  have G__law_is_text_right := ok__law_is_text_right (P := l.prog) (w := w) (base := base) F__law_is_text_right T N
  have G__law_missing := ok__law_missing F__law_missing T N M G_tied b_Net_tied
  have G__law_right := ok__law_right l__law_right c__law_right l__law_answer c__law_answer b__law_answer T N M M2 TB G_net b_net G_eq b_Net___eq__ G_add b_Net___add__ G_sub b_Net___sub__ G_without b_Net_without G__law_take b__law_take G__law_of b__law_of G__law_some b__law_some G__law_lore b__law_lore G__law_net b__law_net G__law_agrees b__law_agrees G__law_is_text_right b__law_is_text_right G__law_missing b__law_missing xT xF
  exact ok_law F_law T G__law_right b__law_right G__law_pot b__law_pot G__law_cells b__law_cells
end K05
open PySem PySem.W PyProof.Rows in
set_option maxRecDepth 100000 in
set_option maxHeartbeats 0 in
theorem PySem.Challenge.cw_alldrawn_k05_whole_nets_grown_and_shrunk_holds : PySem.Challenge.rw_alldrawn_k05_whole_nets_grown_and_shrunk.Holds := by
  w_on; o_law; k_head; (case hw => w_witness2)
  k_fill
  refine K05.walk_ofJ (l := PySem.Challenge.rw_alldrawn_k05_whole_nets_grown_and_shrunk) (n := 63) (k := 11) (x := "_law_script") (J := "_law_right") (CX := fun _ => L2.CX0) rfl (by decide) rfl ⟨rfl, by decide, by decide⟩ (by decide +kernel) (fun w h Y => PySem.W.km_in_of Y) (fun _ _ _ _ _ h => h) ?F
  case F =>
    intro w mg fa h KX G hmg hT
    refine' K05.all_mk KX G hmg hT ?g_DrawError ?g_BadNet ?g_NotTied ?g_NoPlace ?g_BadTie ?g_Full ?g_Few ?g_Net ?gI ?gN ?v_LETTERS ?v_LONGEST_NAME ?v_FEWEST_PLACES ?v_MOST_PLACES ?v_FEWEST_TIES ?v_MOST_TIES ?x_DrawError ?x_BadNet ?x_NotTied ?x_NoPlace ?x_BadTie ?x_Full ?x_Few ?e_DrawError ?e_BadNet ?e_NotTied ?e_NoPlace ?e_BadTie ?e_Full ?e_Few ?tI ?eK ?gm___eq__ ?gm___len__ ?gm___contains__ ?gm___getitem__ ?gm_tied ?gm___add__ ?gm___sub__ ?gm_without ?eM2 ?eM ?eN ?l_init ?c_init ?k_init ?l_net ?c_net ?k_net ?l_Net___eq__ ?c_Net___eq__ ?k_Net___eq__ ?l_Net___len__ ?c_Net___len__ ?k_Net___len__ ?l_Net___contains__ ?c_Net___contains__ ?k_Net___contains__ ?l_Net___getitem__ ?c_Net___getitem__ ?k_Net___getitem__ ?l_Net_tied ?c_Net_tied ?k_Net_tied ?l_Net___add__ ?c_Net___add__ ?k_Net___add__ ?l_Net___sub__ ?c_Net___sub__ ?k_Net___sub__ ?l_Net_without ?c_Net_without ?k_Net_without ?g_is_name ?l_is_name ?c_is_name ?k_is_name ?g_reached ?l_reached ?c_reached ?k_reached ?g_read_places ?l_read_places ?c_read_places ?k_read_places ?g_read_tie ?l_read_tie ?c_read_tie ?k_read_tie ?g_read_net ?l_read_net ?c_read_net ?k_read_net ?g_ties_in_sequence ?l_ties_in_sequence ?c_ties_in_sequence ?k_ties_in_sequence ?g_neighbours ?l_neighbours ?c_neighbours ?k_neighbours ?g_check_well_tied ?l_check_well_tied ?c_check_well_tied ?k_check_well_tied ?g_check_place ?l_check_place ?c_check_place ?k_check_place ?g_net_of ?l_net_of ?c_net_of ?k_net_of ?g_is_pair ?l_is_pair ?c_is_pair ?k_is_pair ?g_is_tie ?l_is_tie ?c_is_tie ?k_is_tie ?g_is_free ?l_is_free ?c_is_free ?k_is_free ?g__law_pot ?l__law_pot ?c__law_pot ?k__law_pot ?g__law_take ?l__law_take ?c__law_take ?k__law_take ?g__law_of ?l__law_of ?c__law_of ?k__law_of ?g__law_some ?l__law_some ?c__law_some ?k__law_some ?g__law_cells ?l__law_cells ?c__law_cells ?k__law_cells ?g__law_answer ?l__law_answer ?c__law_answer ?k__law_answer ?g__law_names ?l__law_names ?c__law_names ?k__law_names ?g__law_is_there ?l__law_is_there ?c__law_is_there ?k__law_is_there ?g__law_lore ?l__law_lore ?c__law_lore ?k__law_lore ?g__law_text ?l__law_text ?c__law_text ?k__law_text ?g__law_net ?l__law_net ?c__law_net ?k__law_net ?g__law_agrees ?l__law_agrees ?c__law_agrees ?k__law_agrees ?g__law_is_text_right ?l__law_is_text_right ?c__law_is_text_right ?k__law_is_text_right ?g__law_missing ?l__law_missing ?c__law_missing ?k__law_missing ?g__law_right ?l__law_right ?c__law_right ?k__law_right ?g_law ?l_law ?c_law ?k_law ?z_isinstance ?z_len ?z_all ?z_any ?z_set ?z_tuple ?z_enumerate ?z_str ?z_ValueError ?z_list ?z_range ?z_int ?z_abs ?z_max ?z_min ?z_repr ?z_zip ?z_sorted ?tabE ?tabN
    (case g_DrawError => k_is)
    (case g_BadNet => k_is)
    (case g_NotTied => k_is)
    (case g_NoPlace => k_is)
    (case g_BadTie => k_is)
    (case g_Full => k_is)
    (case g_Few => k_is)
    (case g_Net => k_is)
    (case gI => k_is)
    (case gN => k_is)
    (case v_LETTERS => k_is)
    (case v_LONGEST_NAME => k_is)
    (case v_FEWEST_PLACES => k_is)
    (case v_MOST_PLACES => k_is)
    (case v_FEWEST_TIES => k_is)
    (case v_MOST_TIES => k_is)
    (case x_DrawError => k_is)
    (case x_BadNet => k_is)
    (case x_NotTied => k_is)
    (case x_NoPlace => k_is)
    (case x_BadTie => k_is)
    (case x_Full => k_is)
    (case x_Few => k_is)
    (case e_DrawError => kernel_rfl)
    (case e_BadNet => kernel_rfl)
    (case e_NotTied => kernel_rfl)
    (case e_NoPlace => kernel_rfl)
    (case e_BadTie => kernel_rfl)
    (case e_Full => kernel_rfl)
    (case e_Few => kernel_rfl)
    (case tI => k_is)
    (case eK => kernel_rfl)
    (case gm___eq__ => k_is)
    (case gm___len__ => k_is)
    (case gm___contains__ => k_is)
    (case gm___getitem__ => k_is)
    (case gm_tied => k_is)
    (case gm___add__ => k_is)
    (case gm___sub__ => k_is)
    (case gm_without => k_is)
    (case eM2 => kernel_rfl)
    (case eM => kernel_rfl)
    (case eN => kernel_rfl)
    (case l_init => k_is)
    (case c_init => k_is)
    (case k_init => k_is)
    (case l_net => k_is)
    (case c_net => k_is)
    (case k_net => k_is)
    (case l_Net___eq__ => k_is)
    (case c_Net___eq__ => k_is)
    (case k_Net___eq__ => k_is)
    (case l_Net___len__ => k_is)
    (case c_Net___len__ => k_is)
    (case k_Net___len__ => k_is)
    (case l_Net___contains__ => k_is)
    (case c_Net___contains__ => k_is)
    (case k_Net___contains__ => k_is)
    (case l_Net___getitem__ => k_is)
    (case c_Net___getitem__ => k_is)
    (case k_Net___getitem__ => k_is)
    (case l_Net_tied => k_is)
    (case c_Net_tied => k_is)
    (case k_Net_tied => k_is)
    (case l_Net___add__ => k_is)
    (case c_Net___add__ => k_is)
    (case k_Net___add__ => k_is)
    (case l_Net___sub__ => k_is)
    (case c_Net___sub__ => k_is)
    (case k_Net___sub__ => k_is)
    (case l_Net_without => k_is)
    (case c_Net_without => k_is)
    (case k_Net_without => k_is)
    (case g_is_name => k_is)
    (case l_is_name => k_is)
    (case c_is_name => k_is)
    (case k_is_name => k_is)
    (case g_reached => k_is)
    (case l_reached => k_is)
    (case c_reached => k_is)
    (case k_reached => k_is)
    (case g_read_places => k_is)
    (case l_read_places => k_is)
    (case c_read_places => k_is)
    (case k_read_places => k_is)
    (case g_read_tie => k_is)
    (case l_read_tie => k_is)
    (case c_read_tie => k_is)
    (case k_read_tie => k_is)
    (case g_read_net => k_is)
    (case l_read_net => k_is)
    (case c_read_net => k_is)
    (case k_read_net => k_is)
    (case g_ties_in_sequence => k_is)
    (case l_ties_in_sequence => k_is)
    (case c_ties_in_sequence => k_is)
    (case k_ties_in_sequence => k_is)
    (case g_neighbours => k_is)
    (case l_neighbours => k_is)
    (case c_neighbours => k_is)
    (case k_neighbours => k_is)
    (case g_check_well_tied => k_is)
    (case l_check_well_tied => k_is)
    (case c_check_well_tied => k_is)
    (case k_check_well_tied => k_is)
    (case g_check_place => k_is)
    (case l_check_place => k_is)
    (case c_check_place => k_is)
    (case k_check_place => k_is)
    (case g_net_of => k_is)
    (case l_net_of => k_is)
    (case c_net_of => k_is)
    (case k_net_of => k_is)
    (case g_is_pair => k_is)
    (case l_is_pair => k_is)
    (case c_is_pair => k_is)
    (case k_is_pair => k_is)
    (case g_is_tie => k_is)
    (case l_is_tie => k_is)
    (case c_is_tie => k_is)
    (case k_is_tie => k_is)
    (case g_is_free => k_is)
    (case l_is_free => k_is)
    (case c_is_free => k_is)
    (case k_is_free => k_is)
    (case g__law_pot => k_is)
    (case l__law_pot => k_is)
    (case c__law_pot => k_is)
    (case k__law_pot => k_is)
    (case g__law_take => k_is)
    (case l__law_take => k_is)
    (case c__law_take => k_is)
    (case k__law_take => k_is)
    (case g__law_of => k_is)
    (case l__law_of => k_is)
    (case c__law_of => k_is)
    (case k__law_of => k_is)
    (case g__law_some => k_is)
    (case l__law_some => k_is)
    (case c__law_some => k_is)
    (case k__law_some => k_is)
    (case g__law_cells => k_is)
    (case l__law_cells => k_is)
    (case c__law_cells => k_is)
    (case k__law_cells => k_is)
    (case g__law_answer => k_is)
    (case l__law_answer => k_is)
    (case c__law_answer => k_is)
    (case k__law_answer => k_is)
    (case g__law_names => k_is)
    (case l__law_names => k_is)
    (case c__law_names => k_is)
    (case k__law_names => k_is)
    (case g__law_is_there => k_is)
    (case l__law_is_there => k_is)
    (case c__law_is_there => k_is)
    (case k__law_is_there => k_is)
    (case g__law_lore => k_is)
    (case l__law_lore => k_is)
    (case c__law_lore => k_is)
    (case k__law_lore => k_is)
    (case g__law_text => k_is)
    (case l__law_text => k_is)
    (case c__law_text => k_is)
    (case k__law_text => k_is)
    (case g__law_net => k_is)
    (case l__law_net => k_is)
    (case c__law_net => k_is)
    (case k__law_net => k_is)
    (case g__law_agrees => k_is)
    (case l__law_agrees => k_is)
    (case c__law_agrees => k_is)
    (case k__law_agrees => k_is)
    (case g__law_is_text_right => k_is)
    (case l__law_is_text_right => k_is)
    (case c__law_is_text_right => k_is)
    (case k__law_is_text_right => k_is)
    (case g__law_missing => k_is)
    (case l__law_missing => k_is)
    (case c__law_missing => k_is)
    (case k__law_missing => k_is)
    (case g__law_right => k_is)
    (case l__law_right => k_is)
    (case c__law_right => k_is)
    (case k__law_right => k_is)
    (case g_law => k_is)
    (case l_law => k_is)
    (case c_law => k_is)
    (case k_law => k_is)
    (case z_isinstance => k_is)
    (case z_len => k_is)
    (case z_all => k_is)
    (case z_any => k_is)
    (case z_set => k_is)
    (case z_tuple => k_is)
    (case z_enumerate => k_is)
    (case z_str => k_is)
    (case z_ValueError => k_is)
    (case z_list => k_is)
    (case z_range => k_is)
    (case z_int => k_is)
    (case z_abs => k_is)
    (case z_max => k_is)
    (case z_min => k_is)
    (case z_repr => k_is)
    (case z_zip => k_is)
    (case z_sorted => k_is)
    (case tabE => kernel_rfl)
    (case tabN => kernel_rfl)
