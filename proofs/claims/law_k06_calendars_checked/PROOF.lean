import PyProof.Rows.All
import Wide.All
import OpenK.AllK
import Wide.FinOn
import HandS.ForMost
import HandS.Exc
import HandS.TryOnly
import HandS.ExcOwn
import HandS.WordsExc
import HandS.Defaults
import HandS.Property
import HandS.OwnEq
import HandS.ExcSuper
import HandS.ExcField
import HandS.IsInst
import HandS.TupAny
import HandS.Star
import HandS.ClsMeth
import HandS.Wide
import HandS.Zip
import HandS.Head0
import HandS.Head1
import HandS.Head2
import HandS.HeadEnd
import HandS.HeadHook1
import HandS.HeadHook2
import HandS.HeadHook3
import HandS.HeadHook4
import KE.KExcSuper
import HandS.ExcInit
import KE.GoesEnum
import KE.GoesOver
import HandS.MakeKw
import HandS.Style
import HandS.TupMul
import HandS.HeadNt
import HandS.Lambda
import HandS.Text
import KE.KIntText
import KE.LcSums
import KE.KEqNest
import HandS.MakeKwOnly
import HandS.DictComp
import HandS.Dict
import KE.GoesMore
import KE.GoesZip
import HandS.Conv
import HandS.FStr
import HandS.StrMore
import KE.IntTextLaws
import KE.GoesEnumKw
import KE.KExcIs
import HandS.GenCall
import HandS.GenList
import KE.KSuper
import HandS.Nested
import HandS.MethStar
import PyProof.Rows.IntBool
import PyProof.Rows.EqBoolInt
import PyProof.Rows.StrOr
import HandS.SortInts
import PySem.Challenge.RW_weekdaylegs_k06_calendars_checked
set_option Elab.async false
set_option linter.all false
set_option maxRecDepth 100000
set_option maxHeartbeats 4000000
/-! Words of our own over the hand layer: promises that know that nothing is being shown around them (guards), the text of a value, caught errors that are kept, the end of a law. -/
namespace WL
open PySem PySem.Spec PyProof.Rows L2

/-! ### promises of defs that show values: nothing is being shown around the call -/
structure GOk (P : Program) (w : World) (K : PySem.W.Frag) (mg : Str → Option Value) (base : Heap) (k : Nat) (f : Addr) (fd : FuncData) (ps : List Str) (sp : Sp) : Prop where
  size : ∀ vs H Q E, sp vs H Q E → vs.length = ps.length
  go : ∀ (A : Around) (up : List Env) (s : Shared) (H : Hp) (ar : Args) (us : List Value) (vs : List V) (Q : VK) (E : XK), A.guards = some [] → Room k A → Env0 P w K mg base A up s H →
    BindsTo s fd ar (ps.zip us) → Vals vs us → sp vs H Q E → codeAny (model P w) A (.call (.ref f) ar) (CR CX0 up P w H s Q E) s
theorem GOk.of {P : Program} {w : World} {K : PySem.W.Frag} {mg : Str → Option Value} {base : Heap} {k : Nat} {f : Addr} {fd : FuncData} {ps : List Str} {sp : Sp} (F : FnOk P w K mg base CX0 k f fd ps sp) : GOk P w K mg base k f fd ps sp :=
  ⟨F.len, fun A up s H ar us vs Q E _ hr he hb hv h => F.run A up s H ar us vs Q E hr he hb hv h⟩
theorem GOk.mono {P : Program} {w : World} {K : PySem.W.Frag} {mg : Str → Option Value} {base : Heap} {j k : Nat} {f : Addr} {fd : FuncData} {ps : List Str} {sp : Sp} (F : GOk P w K mg base j f fd ps sp) (h : j ≤ k) : GOk P w K mg base k f fd ps sp :=
  ⟨F.size, fun A up s H ar us vs Q E hg hr => F.go A up s H ar us vs Q E hg (hr.mono h)⟩

section
variable {P : Program} {w : World} {K : PySem.W.Frag} {mg : Str → Option Value} {base : Heap}
/-- a def by its body, where nothing is being shown -/
theorem gok_body {x qual : Str} {pr : Arguments} {bd : List Stmt} {sc : Scope} {dvs : List V} {kws : List (Str × V)} {f : Addr} {fd : FuncData} {N ps : List Str} {k : Nat} {sp : Sp}
    (F : FunD K x qual pr bd sc dvs kws f fd) (S : FnScope N ps sc) (size : ∀ vs H Q E, sp vs H Q E → vs.length = ps.length)
    (body : ∀ (cdv : Value) (A : Around) (up : List Env) (s : Shared) (H : Hp) (vs : List V) (Q : VK) (E : XK), A.guards = some [] → Room k (A.deeper (envOfC qual sc s.heap.objs.size f cdv)) → sp vs H Q E →
      ∃ t, PSs (cxOf CX0 P w K mg base N qual sc f cdv A up s H E).nox bd t ∧ t { nx := fun _ H' => Q .non H', rt := Q } (start N vs) H) : GOk P w K mg base (k + 1) f fd ps sp := by
  obtain ⟨oc, od, dV, kV, dc, pm, an, cdv, ct, osl, e, lk, hcd, _, _⟩ := F.ex
  subst e
  refine ⟨size, ?_⟩
  intro A up s H ar us vs Q E hg hr e0 hb rv hsp
  have kin : K.In s.heap := e0.mod.kin.keeps (fun b o q => (e0.bs b o q).1)
  have kinds : ∀ z ∈ ps.zip us, sc.names.lookup z.1 = some .local ∨ (sc.names.lookup z.1 = some .cell ∧ ((cellsFrom (s.heap.objs.size + 1) sc.names []).lookup z.1).isSome = true) := by
    intro z hz
    have hm : z.1 ∈ ps := (List.of_mem_zip (a := z.1) (b := z.2) hz).1
    cases S.par z.1 hm with
    | inl q => exact Or.inl q
    | inr q => exact Or.inr ⟨q, PySem.W.cellsFrom_some _ _ _ (Or.inl q)⟩
  refine codeAny_call_function hr.depth (kin _ _ lk) rfl S.co S.gen rfl (PySem.W.codeRec_of kin hcd) (hb _ _ _ _ ?_)
  refine wpAny_newFunctionEnv_cells S.kind kinds ?_
  intro env he s1 x1
  subst he
  have lim : s.heap.NoLimit := e0.mod.nolimit.keeps (fun b o q => (e0.bs b o q).1)
  refine And.intro (lim.keeps x1.toInCall.keep) (codeAny_func ?_)
  obtain ⟨t, ht, hq⟩ := body cdv A up s H vs Q E hg (hr.deeper _) hsp
  have J : Inv (cxOf CX0 P w K mg base N qual sc f cdv A up s H E) [] (start N vs) H s1 := inv_start S hr.hd e0 (size _ _ _ _ hsp) rv x1
  refine wpAny_mono (ht.nox.run [] s1 (start N vs) H _ J hq) ?_ (fun _ _ z => z)
  intro fl s2 hs
  have ends : ∀ {σ : L2.St} {H2 : Hp} {v : V} {u : Value}, Inv (cxOf CX0 P w K mg base N qual sc f cdv A up s H E) [] σ H2 s2 → RelV v u → Q v H2 → CE up P w H s Q u s2 :=
    fun I2 r2 q2 => ⟨_, _, I2.os, I2.bare, I2.base, I2.hok, r2, q2⟩
  match fl, hs with
  | .ret _, ⟨_, _, _, I2, r2, q2⟩ => exact ends I2 r2 q2
  | .next, ⟨_, _, I2, q2⟩ => exact ends (v := V.non) (u := Value.none) I2 rfl q2
  | .brk, ⟨_, _, _, q2⟩ => exact q2.elim
  | .cont, ⟨_, _, _, q2⟩ => exact q2.elim
end

section
variable {X : Cx} {k : Nat} {f : Addr} {fd : FuncData} {ps : List Str} {sp : Sp} {dvs : List V} {ds : List Value} {x : Str} {p pos : Pos} {e : Expr} {es : List Expr} {t : TA}
theorem gok_run {pins : List (Addr × Obj)} {σ : L2.St} {H : Hp} {s : Shared} {Q : VK} {us : List Value} {vs : List V} (F : GOk X.prog X.w X.K X.mg X.base k f fd ps sp) (hg : X.A.guards = some []) (hr : Room k X.A) (hb : Binds X.K fd ps ds) (hd : Vals dvs ds)
    (I : Inv X pins σ H s) (r : Vals vs us) (h : sp (vs ++ dvs) H Q E0) : wpAny (model X.prog X.w) X.A (call (.ref f) us) (EP X pins σ Q) X.xe s := by
  have rr : Vals (vs ++ dvs) (us ++ ds) := Vals.append r hd
  have el : (us ++ ds).length = ps.length := rr.length.symm.trans (F.size _ _ _ _ h)
  refine wpAny_call (codeAny_mono (F.go X.A X.stack s H ⟨us, []⟩ (us ++ ds) (vs ++ dvs) Q E0 hg hr I.env0 (hb s us I.kIn el) rr h) ?_)
  intro res s2 hq
  match res, hq with
  | .error _, z => exact False.elim z
  | .ok (.ret _), z => exact I.after z
  | .ok .next, z => exact False.elim z
  | .ok .brk, z => exact False.elim z
  | .ok .cont, z => exact False.elim z
theorem pe_gcall (F : GOk X.prog X.w X.K X.mg X.base k f fd ps sp) (hg : X.A.guards = some []) (hr : Room k X.A) (gl : Gl X x) (hm : X.mg x = some (.ref f)) (kp : PySem.W.keepIn X.K (.ref f) = true) (hb : Binds X.K fd ps ds) (hd : Vals dvs ds)
    (ha : PA X (e :: es) t) (hdb : (x == ("__debug__" : Str)) = false := by decide) (h1 : starEach (e :: es) X.env = (false, eval e X.env) :: starEach es X.env := by rfl) (h2 : (backTo pos (starEach es X.env)).any (·.1) = false := by rfl) :
    PE X (.Call (.Name x p) (e :: es) [] pos) (tCall sp dvs E0 t) := by
  constructor
  intro pins s σ H Q I h
  refine wpAny_Call_Name_kw (ld_glob I gl hm ?_ hdb)
  exact PySem.W.callWith_K (h₀ := X.base) I.ok.mod.kin kp (thn (ha.run pos pins s σ H _ I h) fun us s1 ⟨vs, H1, I1, r1, q1⟩ => ⟨I1.kIn, gok_run F hg hr hb hd I1 r1 q1⟩) h1 h2
end

/-! ### values as data, for showing and comparing -/
mutual
inductive Dq (H : Hp) : V → PyData → Prop
  | non : Dq H .non .none
  | bl (b : Bool) : Dq H (.bl b) (.bool b)
  | int (i : Int) : Dq H (.int i) (.int i)
  | str (x : Str) : Dq H (.str x) (.str x)
  | tup {a : Addr} {xs : List V} {ds : List PyData} : H a = some (.tup xs) → Dqs H xs ds → Dq H (.ref a) (.tuple ds)
  | lst {a : Addr} {xs : List V} {ds : List PyData} : H a = some (.lst xs) → a ≠ sysModules → Dqs H xs ds → Dq H (.ref a) (.list ds)
  | mtd {a : Addr} : H a = some (.dK []) → Dq H (.ref a) (.dict [])
inductive Dqs (H : Hp) : List V → List PyData → Prop
  | nil : Dqs H [] []
  | cons {v : V} {vs : List V} {d : PyData} {ds : List PyData} : Dq H v d → Dqs H vs ds → Dqs H (v :: vs) (d :: ds)
end
theorem Dqs.length {H : Hp} : ∀ {xs : List V} {ds : List PyData}, Dqs H xs ds → xs.length = ds.length
  | _, _, .nil => rfl
  | _, _, .cons _ h => congrArg Nat.succ h.length
section
variable {X : Cx} {pins : List (Addr × Obj)} {σ : L2.St} {H : Hp} {s : Shared}
mutual
theorem Dq.reads (I : Inv X pins σ H s) : ∀ {v : V} {d : PyData} {u : Value}, Dq H v d → RelV v u → ∃ as, Reads s.heap u d as ∧ sysModules ∉ as
  | _, _, _, .non, r => ⟨[], by cases r; exact .none, List.not_mem_nil⟩
  | _, _, _, .bl b, r => ⟨[], by cases r; exact .bool b, List.not_mem_nil⟩
  | _, _, _, .int i, r => ⟨[], by obtain ⟨t, q⟩ := r; subst q; exact .int i t, List.not_mem_nil⟩
  | _, _, _, .str x, r => ⟨[], by obtain ⟨t, q⟩ := r; subst q; exact .str x t, List.not_mem_nil⟩
  | _, _, _, .tup ha hs, r => by
    cases r
    obtain ⟨_, its, rv, ⟨o, eo, oc, n, od⟩⟩ := I.hok _ _ ha
    obtain ⟨as, q, hn⟩ := Dqs.reads I hs rv
    exact ⟨as, .tuple eo oc od (by simpa using q), hn⟩
  | _, _, _, .lst (a := a) ha hna hs, r => by
    cases r
    obtain ⟨_, its, n, rv, eo⟩ := I.hok _ _ ha
    obtain ⟨as, q, hn⟩ := Dqs.reads I hs rv
    exact ⟨a :: as, .list eo rfl rfl (by simpa using q), fun hm => (List.mem_cons.mp hm).elim (fun z => hna z.symm) hn⟩
  | _, _, _, .mtd (a := a) ha, r => by
    cases r
    obtain ⟨_, hsm, vs, kv, o, es, ep, eo, ex, od, _, pr, _⟩ := dk_of I.hok ha
    cases kv
    have e0 : es.toList = [] := List.eq_nil_of_length_eq_zero pr.length
    refine ⟨a :: [] ++ [], .dict (es := es) (kvs := []) eo ex.1 od (by rw [e0]; exact .nil) (by rw [e0]; exact .nil), fun hm => ?_⟩
    have hz : sysModules = a := by simpa using hm
    rw [← hz] at hsm
    exact absurd hsm (by decide)
theorem Dqs.reads (I : Inv X pins σ H s) : ∀ {vs : List V} {ds : List PyData} {us : List Value}, Dqs H vs ds → Vals vs us → ∃ as, ReadsAll s.heap us ds as ∧ sysModules ∉ as
  | _, _, _, .nil, r => ⟨[], by cases r; exact .nil, List.not_mem_nil⟩
  | _, _, _, .cons h hs, r => by
    cases r with
    | cons r1 r2 =>
      obtain ⟨as, q1, n1⟩ := Dq.reads I h r1
      obtain ⟨bs, q2, n2⟩ := Dqs.reads I hs r2
      exact ⟨as ++ bs, .cons q1 q2, fun hm => (List.mem_append.mp hm).elim n1 n2⟩
end
end
section
variable {X : Cx}
/-- repr(x) -/
def rShow : List V → Hp → VK → Prop := fun vs H Q => ∃ (a : Addr) (d : PyData), vs = [.ref a] ∧ Dq H (.ref a) d ∧ d.showable = true ∧ d.shown.length ≤ sizeLine ∧ d.depth ≤ 50 ∧ Q (.str d.shown) H
theorem call_show {k : Nat} (hg : X.A.guards = some []) (hr : Room k X.A) : CallR X (.builtin "repr") rShow := by
  intro pins s σ H vs us Q I r h
  obtain ⟨a, d, e, hd, hs, hz, hp, q⟩ := h
  subst e
  cases r with
  | cons r1 r2 =>
    cases r2
    cases r1
    obtain ⟨as, rd, hn⟩ := hd.reads I (u := .ref a) rfl
    have hu := hr.units
    exact repr_of_reads' rd hs (fun _ => hn) hg (by omega) (fun _ _ z => z) (fun h' u tk kp => ⟨.str d.shown, H, I.kept (t' := tk) kp, ⟨u, rfl⟩, q⟩) hz
end
end WL
set_option Elab.async false
set_option linter.all false
set_option maxRecDepth 100000
set_option maxHeartbeats 4000000
namespace WL
open PySem PySem.Spec PyProof.Rows L2
/-! ### the end of a law whose def shows values -/
section
variable {P : Program} {w : World} {K : PySem.W.Frag} {mg mb : Str → Option Value} {k : Nat} {fa a : Addr} {fd : FuncData} {x : Str} {sp : Sp} {s : Shared} {vs : List Value} {ns : List Int}
/-- the abstract heap at the law's entry: the script alone, unless it is the module's own -/
def atLaw (K : PySem.W.Frag) (a : Addr) (vs : List Value) (ns : List Int) : Hp := fun b =>
  if b = a ∧ K.lookup a = none then some (.frz { cls := .type "list", data := .seq vs.toArray } (.lst (ns.map V.int))) else none
theorem atLaw_some {b : Addr} {o : HO} (h : atLaw K a vs ns b = some o) : b = a ∧ K.lookup a = none ∧ o = .frz { cls := .type "list", data := .seq vs.toArray } (.lst (ns.map V.int)) := by
  unfold atLaw at h
  by_cases c : b = a ∧ K.lookup a = none
  · rw [if_pos c] at h
    exact ⟨c.1, c.2, (Option.some.inj h).symm⟩
  · rw [if_neg c] at h
    cases h
theorem law_g (kin : K.In s.heap) (gl : s.heap.Ns mainGlobals mg) (bl : s.heap.Ns builtinsNs mb) (bb : ∀ x : Str, x ≠ "__name__" → mb x = bootBuiltins x) (lim : s.heap.NoLimit) (gens : s.gens = #[])
    (ha : s.heap.get? a = some { cls := .type "list", data := .seq vs.toArray }) (hi : IntsAre vs ns) (hl : ns.length ≤ sizeLine) (hr : Room k callerA)
    (F : ∀ base : Heap, K.In base → base.Ns mainGlobals mg → GOk P w K mg base k fa fd [x] sp) (bind : ∀ (s : Shared) (u : Value), BindsTo s fd ⟨[u], []⟩ [(x, u)])
    (hsp : ∀ H : Hp, Only H → SqL K H a (ns.map V.int) → sp [.ref a] H (fun v _ => v = .bl true) fun _ _ _ => False) :
    codeAny (model P w) callerA (.call (.ref fa) ⟨[.ref a], []⟩) (fun r s' => r = .ok (.ret (.bool true)) ∧ PySem.OldK s.heap s'.heap ∧ s'.os = s.os ∧ AllBare s'.gens) s := by
  have hv := vals_ints hi
  have hok : HOk P w (atLaw K a vs ns) s.heap := by
    intro b o hb
    obtain ⟨rfl, _, rfl⟩ := atLaw_some hb
    exact ⟨ha, by rw [List.length_map]; exact hl, vs, _, hv, ha⟩
  have only : Only (atLaw K a vs ns) := fun b => by
    cases q : atLaw K a vs ns b with
    | none => exact .inl rfl
    | some o =>
      obtain ⟨_, _, rfl⟩ := atLaw_some q
      exact .inr ⟨_, _, rfl⟩
  have seen : SqL K (atLaw K a vs ns) a (ns.map V.int) := by
    cases q : K.lookup a with
    | none => exact .inl (.inr ⟨_, if_pos ⟨rfl, q⟩⟩)
    | some o =>
      have e := (kin a o q).symm.trans ha
      cases e
      exact .inr ⟨_, vs.toArray, _, q, rfl, rfl, rfl, by rw [List.size_toArray, hi.length]; exact hl, by simpa using hv⟩
  -- what is not the script is on the ground
  have ground : ∀ {b : Addr} {o : Obj}, s.heap.get? b = some o → (b = a → K.lookup a ≠ none) → (hidT s.heap (atLaw K a vs ns)).get? b = some o := fun {b o} e n => hidT_get e (by
    unfold atLaw
    exact if_neg fun c => n c.1 c.2)
  have noList : ∀ {b : Addr} {o : Obj} {es : Array DictEntry} {ep : Nat}, s.heap.get? b = some o → o.data = .dict es ep → b ≠ a := fun {b o es ep} e d z => by
    rw [z, ha] at e
    cases e
    cases d
  have nsG : ∀ {b : Addr} {m : Str → Option Value}, s.heap.Ns b m → (hidT s.heap (atLaw K a vs ns)).Ns b m := fun {b m} ⟨o, es, ep, e, d, r⟩ => ⟨o, es, ep, ground e fun z => absurd z (noList e d), d, r⟩
  have kin' : K.In (hidT s.heap (atLaw K a vs ns)) := fun b o e => ground (kin b o e) fun z n => by rw [z, n] at e; cases e
  obtain ⟨ml, l1, l2⟩ := lim
  have e0 : Env0 P w K mg (hidT s.heap (atLaw K a vs ns)) callerA [] s (atLaw K a vs ns) :=
    ⟨rfl, ⟨kin', nsG gl, ⟨mb, nsG bl, bb⟩, ⟨ml, nsG l1, l2⟩⟩, fun _ _ e => of_hidT e, Nat.le_of_eq (hidT_size _ _), trivial, fun b hb => absurd hb List.not_mem_nil, hok, .of_eq gens⟩
  refine codeAny_mono ((F _ kin' (nsG gl)).go callerA [] s _ ⟨[.ref a], []⟩ [.ref a] [.ref a] _ _ rfl hr e0 (bind s (.ref a)) (.cons rfl .nil) (hsp _ only seen)) ?_
  intro r s2 h
  match r, h with
  | .error _, z => exact False.elim z
  | .ok .next, z => exact False.elim z
  | .ok .brk, z => exact False.elim z
  | .ok .cont, z => exact False.elim z
  | .ok (.ret u), ⟨v, H2, os, bare, un, hok2, rv, q⟩ =>
    subst q
    cases rv
    refine ⟨rfl, PySem.OldK.of_keep fun b o e => ?_, os, bare⟩
    cases q : atLaw K a vs ns b with
    | none => exact un.keep b o e q List.not_mem_nil List.not_mem_nil
    | some u =>
      obtain ⟨rfl, _, rfl⟩ := atLaw_some q
      have z := (hok2 b _ (un.frzs b _ _ q)).1
      rw [ha] at e
      cases e
      exact z
end
theorem walk_g {l : PySem.W.OpenLaw} {n k : Nat} {q : Program} {loose : List Str} {XP : (Str → Option Value) → Heap → Prop} {YP : World → Heap → Prop} {d : DefRec} {x : Str}
    (hn : l.most = some n) (hn2 : n ≤ sizeLine) (hdf : d.params.defaults = []) (hr : Room k callerA)
    (F : ∀ (w : World) (mg : Str → Option Value) (fa : Addr) (h : Heap), YP w h → h.Ns mainGlobals mg → mg d.name = some (.ref fa) →
      ∃ (K : PySem.W.Frag) (fd : FuncData) (sp : Sp), K.In h ∧ (∀ (s : Shared) (u : Value), BindsTo s fd ⟨[u], []⟩ [(x, u)]) ∧
        (∀ (H : Hp) (a : Addr) (ns : List Int), ns.length ≤ n → Only H → SqL K H a (ns.map V.int) → sp [.ref a] H (fun v _ => v = .bl true) fun _ _ _ => False) ∧
        ∀ base : Heap, K.In base → base.Ns mainGlobals mg → GOk l.prog w K mg base k fa fd [x] sp) :
    PySem.W.WalkO q loose XP YP l.row.toRowW d [] (fun f vs => PySem.call f vs) := by
  refine Att.attach_call hn hdf ?_
  intro w s0 s1 mg mb fa o pm cd doc a vs ns G Y ho hd hcd hmg hobj hints hlen hg
  obtain ⟨K, fd, sp, kin, hb, hsp, hF⟩ := F w mg fa _ Y G.T.g hmg
  exact law_g kin G.T.g G.T.b G.T.builtins G.T.nolimit hg hobj hints (Nat.le_trans hlen hn2) hr hF hb fun H hO hS => hsp H a ns hlen hO hS
/-! ### facts of the top: where an object stands, what is looked at -/
inductive At where
  | g (x : Str)
  | m (C x : Str)
  | pr (C x : Str)
  | st (C x : Str)
  | cm (C x : Str)
def recAd (K : PySem.W.Frag) (p : Addr) (T : String) : Addr := match PySem.W.recIn K p T with
  | some (.ref g :: _) => g
  | _ => 0
def At.ad (K : PySem.W.Frag) : At → Addr
  | .g x => He.ga K x
  | .m C x => He.ma K (He.ga K C) x
  | .pr C x => recAd K (He.ma K (He.ga K C) x) "property"
  | .st C x => recAd K (He.ma K (He.ga K C) x) "staticmethod"
  | .cm C x => recAd K (He.ma K (He.ga K C) x) "classmethod"
def fnA (K : PySem.W.Frag) (a : Addr) : He.FnW := match K.lookup a with
  | some ⟨_, _, .func fd, _⟩ => some (fd.name, fd.qualname, fd.params, fd.body, fd.scope, fd.globals, fd.closure, fd.builtins)
  | _ => none
structure DefW where
  at_ : At
  name : Str
  qual : Str
  st : Stmt
  dfl : List He.Dv := []
  kwd : List (Str × He.Dv) := []
def DefW.val (d : DefW) : He.FnW := some (d.name, d.qual, defArgs d.st, .stmts (defBody d.st), defScope d.st, mainGlobals, [], builtinsNs)
def DefW.dvs (K : PySem.W.Frag) (d : DefW) : List V := d.dfl.map (He.Dv.v K)
def DefW.kws (K : PySem.W.Frag) (d : DefW) : List (Str × V) := d.kwd.map fun q => (q.1, q.2.v K)
def DefW.ok (K : PySem.W.Frag) (d : DefW) : Bool := PySem.W.keepIn K (.ref (d.at_.ad K)) && (match K.lookup (d.at_.ad K) with
  | some ⟨_, _, .func fd, _⟩ => PySem.W.codeIn K fd.code d.qual && (He.dflB K fd.defaults (d.dvs K) && He.kwdB K fd.kwdefaults (d.kws K))
  | _ => false)
theorem DefW.funD {K : PySem.W.Frag} {d : DefW} (e : fnA K (d.at_.ad K) = d.val) (c : d.ok K = true) : ∃ fd, FunD K d.name d.qual (defArgs d.st) (defBody d.st) (defScope d.st) (d.dvs K) (d.kws K) (d.at_.ad K) fd := by
  obtain ⟨c1, c2⟩ := He.ba c
  unfold fnA at e
  cases q : K.lookup (d.at_.ad K) with
  | none =>
    rw [q] at c2
    cases c2
  | some o =>
    obtain ⟨oc, od, dt, sl⟩ := o
    rw [q] at c2 e
    cases dt with
    | func z =>
      obtain ⟨a1, a2, a3, a4, a5, a6, a7, a8, a9, b1, b2, b3, b4, b5, b6⟩ := z
      have e2 : (some (a1, a2, a3, a4, a5, a6, a7, b6) : He.FnW) = some (d.name, d.qual, defArgs d.st, .stmts (defBody d.st), defScope d.st, mainGlobals, [], builtinsNs) := e
      simp only [Option.some.injEq, Prod.mk.injEq] at e2
      obtain ⟨h1, h2, h3, h4, h5, h6, h7, h8⟩ := e2
      subst h1 h2 h3 h4 h5 h6 h7 h8
      obtain ⟨k1, k2⟩ := He.ba (show (PySem.W.codeIn K b4 d.qual && (He.dflB K a8 (d.dvs K) && He.kwdB K a9 (d.kws K))) = true from c2)
      obtain ⟨k3, k4⟩ := He.ba k2
      exact ⟨_, ⟨oc, od, _, _, _, _, _, _, _, sl, rfl, q, k1, He.dflB_ok k3, He.kwdB_ok k4⟩, c1⟩
    | _ => cases c2
/-! ### what the run of the top shows -/
abbrev AlW : Type := Bool × List He.FnW
/-- the addresses of the fragment: what the module reaches, the table of modules, the model's statics -/
def asW (g : Addr → Option Obj) (n : Nat) : List Addr := sysModules :: cStatics :: He.asD g n
def obsW (n : Nat) (chk : PySem.W.Frag → Bool) (fn : List DefW) (g : Addr → Option Obj) : AlW := let K := He.frG g (asW g n); (chk K && fn.all fun d => d.ok K, fn.map fun d => fnA K (d.at_.ad K))
def valW (fn : List DefW) : AlW := (true, fn.map DefW.val)
structure SaysW (chk : PySem.W.Frag → Bool) (fn : List DefW) (K : PySem.W.Frag) : Prop where
  chk : chk K = true
  oks : ∀ d ∈ fn, d.ok K = true
  eqs : fn.map (fun d => fnA K (d.at_.ad K)) = fn.map DefW.val
theorem saysW_of {n : Nat} {chk : PySem.W.Frag → Bool} {fn : List DefW} {g : Addr → Option Obj} (e : obsW n chk fn g = valW fn) : SaysW chk fn (He.frG g (asW g n)) := by
  have e1 := congrArg Prod.fst e
  have e2 := congrArg Prod.snd e
  obtain ⟨h1, h2⟩ := He.ba (show (chk (He.frG g (asW g n)) && fn.all fun d => d.ok (He.frG g (asW g n))) = true from e1)
  exact ⟨h1, fun d hd => List.all_eq_true.mp h2 d hd, e2⟩
theorem SaysW.def_ {chk : PySem.W.Frag → Bool} {fn : List DefW} {K : PySem.W.Frag} (c : SaysW chk fn K) (i : Nat) {d : DefW} (h : fn[i]? = some d) :
    ∃ fd, FunD K d.name d.qual (defArgs d.st) (defBody d.st) (defScope d.st) (d.dvs K) (d.kws K) (d.at_.ad K) fd := by
  have z : (fn.map fun d => fnA K (d.at_.ad K))[i]? = (fn.map DefW.val)[i]? := by rw [c.eqs]
  rw [List.getElem?_map, List.getElem?_map, h] at z
  exact DefW.funD (Option.some.inj z) (c.oks d (List.mem_of_getElem? h))
def hookW (n : Nat) (chk : PySem.W.Frag → Bool) (fn : List DefW) : PySem.W.Hook where
  α := AlW
  obs := fun s => obsW n chk fn s.heap.get?
  val := fun _ => valW fn
  says := fun _ h => ∃ K : PySem.W.Frag, K.In h ∧ SaysW chk fn K
  of := fun _ _ e => ⟨_, He.frG_in, saysW_of e⟩
  keeps := fun _ _ _ ⟨K, hK, c⟩ k => ⟨K, PySem.W.Frag.In.keeps hK k, c⟩
theorem obsW_eq {n : Nat} {chk : PySem.W.Frag → Bool} {fn : List DefW} {g : Addr → Option Obj} {s : Shared} (h : ∀ a, g a = s.heap.get? a) : obsW n chk fn g = (hookW n chk fn).obs s := by
  have e : g = s.heap.get? := funext h
  rw [e]
  rfl
end WL
set_option Elab.async false
set_option linter.all false
set_option maxRecDepth 100000
set_option maxHeartbeats 4000000
namespace WL
open PySem PySem.Spec PyProof.Rows L2
/-! ### errors of the program's own whose __init__ says super().__init__("..") and stores its parameters -/
/-- super().__init__("..") as a statement -/
def supSt (msg : Str) (k : Nat) (q : Nat → Pos) : Stmt := .Expr (.Call (.Attribute (.Call (.Name "super" (q 0)) [] [] (q 1)) "__init__" (q 2)) [.Constant (.str msg) k (q 3)] [] (q 4)) (q 5)
/-- self.f = f -/
def fldSt (f : Str) (q : Nat → Pos) : Stmt := .Assign [.Attribute (.Name "self" (q 0)) f (q 1)] (.Name f (q 2)) (q 3)
def scOk (sc : Scope) (fs : List Str) : Bool := decide (sc.names.lookup ("self" : Str) = some .local) && (decide (sc.names.lookup ("super" : Str) = some .globalImplicit) && (decide (sc.names.lookup ("__class__" : Str) = some .free) &&
  ((fs.all fun f => decide (sc.names.lookup f = some .local)) && sc.names.all fun y => decide (y.2 ≠ .cell))))
structure ExT (P : Program) (K : PySem.W.Frag) (mg : Str → Option Value) (fs : List Str) (C fI : Addr) : Prop where
  cls : ∃ nm q N bs bm sn sub ab col dd k0 k1 k2 k3 k5, K.lookup C = some (excClassObj nm q C N bs bm true sn sub ab col dd k0 k1 k2 k3 k5 "ValueError.__new__") ∧ HandSPX.refsVE bm = true
  sup : PySem.W.ks_superIn K C C "__init__" = some (some (.builtin "ValueError.__init__"))
  opq : PySem.W.nsIn K cStatics "thirdparty.any" = some none
  slf : PySem.W.mroIn K C (.ref C) = some true
  vErr : PySem.W.subIn K (.ref C) (.type "ValueError") = some true
  sa : PySem.W.findIn K (.ref C) "__setattr__" = some (some (.builtin "object.__setattr__"))
  no : ∀ f ∈ fs, PySem.W.findIn K (.ref C) f = some none
  iC : PySem.W.findIn K (.ref C) "__init__" = some (some (.ref fI))
  tI : PySem.W.typeIn K (.ref fI) = some (.type "function")
  kC : PySem.W.keepIn K (.ref C) = true
  exC : PySem.W.subIn K (.ref C) (.type "BaseException") = some true
  tyC : PySem.W.typeIn K (.ref C) = some (.type "type")
  free : mg "super" = none
  top : (P.main.scope.names.lookup ("super" : Str)).isSome = false
/-- the __init__ of such a class -/
structure ExI (P : Program) (K : PySem.W.Frag) (fs : List Str) (C fI : Addr) (fd : FuncData) : Prop where
  at_ : ∃ oc od osl, K.lookup fI = some ⟨oc, od, .func fd, osl⟩
  clo : ∃ cc cl cld csl, fd.closure = [(("__class__" : Str), cc)] ∧ K.lookup cc = some ⟨cl, cld, .cell (some (.ref C)), csl⟩
  code : ∃ cda ccl cdd vs ccs file tf, fd.code = .ref cda ∧ K.lookup cda = some ⟨ccl, cdd, .fields vs, ccs⟩ ∧ vs[2]? = some (.str file tf) ∧ ((P.main.file : Str) == file) = true
  rec_ : PySem.W.codeIn K fd.code fd.qualname = true
  bltn : fd.builtins = builtinsNs
  glob : fd.globals = mainGlobals
  first : ∃ ar, (fd.params.posonlyargs ++ fd.params.args).head? = some ar ∧ ar.arg = ("self" : Str)
  kind : fd.scope.kind = .function
  co : fd.scope.isCoroutine = false
  gen : fd.scope.isGenerator = false
  ok : scOk fd.scope fs = true
  body : ∃ msg k q qs, fd.body = .stmts (supSt msg k q :: (fs.zip qs).map fun p => fldSt p.1 p.2) ∧ qs.length = fs.length ∧ ((q 2).endLine == (q 4).line) = true
section
variable {prog : Program} {w : World} {A : Around} {E : Value → Shared → Prop} {K : PySem.W.Frag} {mg : Str → Option Value} {fs : List Str} {C fI : Addr} {fd : FuncData} {h : Heap} {g : Array GenState} {d : Drawn} {t : Nat} {os : OsState}
/-- the built-in __init__, bound, called: the object's arguments are laid anew -/
theorem mw_call {u e t0 : Addr} {rest : List Value} {Q : Value → Shared → Prop} (T : ExT prog K mg fs C fI) (X : K.In h) (he : h.get? e = some (HandSPX.excO C t0)) (hu : h.get? u = some (PySem.W.kxs_mw "ValueError.__init__" e)) (hz : rest.length ≤ sizeLine)
    (hq : ∀ h' t1, (∀ b o, b ≠ e → h.get? b = some o → h'.get? b = some o) → h'.get? e = some (HandSPX.excO C t1) → Q .none ⟨h', g, d, t, os⟩) : wpAny (model prog w) A (call (.ref u) rest) Q E ⟨h, g, d, t, os⟩ := by
  obtain ⟨nm, q, N, bs, bm, sn, sub, ab, col, dd, k0, k1, k2, k3, k5, hC, _⟩ := T.cls
  have FB := F.excBase_ValueError
  refine wpAny_call (codeAny_of_tree (show wpAny (model prog w) A.in1 (callAny (.ref u) ⟨rest, []⟩) _ _ ⟨h, g, d, t, os⟩ from ?_))
  have c1 : (Value.type "method-wrapper" == Value.type "method" || Value.type "method-wrapper" == Value.type "builtin_function_or_method" || Value.type "method-wrapper" == Value.type "method-wrapper") = true := by decide
  simp only [callAny]
  refine wpAny_bind (wpAny_load hu ?_)
  simp only [PySem.W.kxs_mw, c1, if_true]
  refine PySem.W.KFB.if_so (by decide) ?_
  refine wpAny_bind (PySem.W.check_bound_init FB.toExcCallFacts (X _ _ hC) he rfl (wpAny_bind (wpAny_pure (wpAny_pure ?_))))
  refine ⟨plainId_quiet FB.init.plain _, codeAny_builtin FB.initEntry ?_⟩
  exact PySem.W.exc_init_tree (cls := .ref C) (t0 := t0) (dv := none) (c2 := .none) (c3 := .none) (b4 := .bool false) he hz fun h' k1 k2 _ => hq h' _ k1 k2
/-- the statement super().__init__("..") in such an __init__ -/
theorem sup_step {L x t0 : Addr} {m mb : Str → Option Value} {bd : List Stmt} {msg : Str} {k : Nat} {q : Nat → Pos} {Q : Flow → Shared → Prop} (T : ExT prog K mg fs C fI) (J : ExI prog K fs C fI fd) (X : K.In h) (G : h.Ns mainGlobals mg) (B : h.Ns builtinsNs mb) (bb : ∀ x : Str, x ≠ "__name__" → mb x = bootBuiltins x)
    (hpos : ((q 2).endLine == (q 4).line) = true) (hn : h.Ns L m) (hv : m "self" = some (.ref x)) (hx : h.get? x = some (HandSPX.excO C t0))
    (hq : ∀ h' t' t1, (∀ b o, b ≠ x → h.get? b = some o → h'.get? b = some o) → h'.get? x = some (HandSPX.excO C t1) → Q .next ⟨h', g, d, t', os⟩) :
    PySem.wpAt (model prog w) A (.func bd (callEnv fd L fI)) (exec (supSt msg k q) (callEnv fd L fI)) Q E ⟨h, g, d, t, os⟩ := by
  obtain ⟨oc, od, osl, lk⟩ := J.at_
  obtain ⟨cc, cl, cld, csl, hclo, hcell⟩ := J.clo
  obtain ⟨cda, ccl, cdd, vs, ccs, file, tf, hcode, hcd, hvs, hfile⟩ := J.code
  obtain ⟨ar, har, hself⟩ := J.first
  obtain ⟨nm, qn, N, bs, bm, sn, sub, ab, col, dd, k0, k1, k2, k3, k5, hC, hbm⟩ := T.cls
  have hok := J.ok
  unfold scOk at hok
  obtain ⟨o1, hok⟩ := He.ba hok
  obtain ⟨o2, hok⟩ := He.ba hok
  obtain ⟨o3, _⟩ := He.ba hok
  have ks : (callEnv fd L fI).kindOf "super" = some .globalImplicit := of_decide_eq_true o2
  have kc : (callEnv fd L fI).kindOf "__class__" = some .free := of_decide_eq_true o3
  have kself : (callEnv fd L fI).kindOf "self" = some .local := of_decide_eq_true o1
  have kf : (callEnv fd L fI).scope.kind = .function := J.kind
  have hcl : PySem.W.clsIn K C = some { name := nm, bases := bs, mro := .ref C :: bm, ns := N, qualname := qn, hasDict := true, slotNames := sn, subclasses := sub, abstract := ab, collection := col, hasDel := false } := by
    unfold PySem.W.clsIn
    rw [hC]
  have hsup := T.sup
  unfold PySem.W.ks_superIn at hsup
  rw [hcl] at hsup
  have I0 : PySem.W.InstAt h x (HandSPX.excO C t0) C none := ⟨hx, rfl, rfl, trivial⟩
  have hxC : x ≠ C := PySem.W.ks_ne X I0 hcl
  have oneArg : starEach [Expr.Constant (.str msg) k (q 3)] (callEnv fd L fI) = (false, eval (.Constant (.str msg) k (q 3)) (callEnv fd L fI)) :: starEach [] (callEnv fd L fI) := rfl
  refine PySem.ks_wpAt_Expr_any ?_ (by simp [interactive, kf]) rfl
  refine PySem.ks_wpAt_MethodCall (pl := do return (← importBound (.Call (.Name "super" (q 0)) [] [] (q 1)) (callEnv fd L fI)).getD true) ?_ ?he
  case he =>
    have few : methodCallForm ([Expr.Constant (.str msg) k (q 3)].length + ([] : List Keyword).length) (backTo (q 4) (starEach [Expr.Constant (.str msg) k (q 3)] (callEnv fd L fI))) (backToKw (q 4) (keywordEach [] (callEnv fd L fI))) = true := rfl
    show (attributeBase _ _ _ _ >>= fun ov => standAt _ >>= fun _ => methodCall _ _ _ _ _ ov _ _ _) = _
    unfold methodCall
    rw [few]
    unfold methodCallPos calleeOf
    simp only [Bool.not_true, Bool.false_or, hpos, if_true, pure_bind, bind_assoc]
    rfl
  refine PySem.ks_wpAt_super_base ks kc (by decide) rfl (X _ _ lk) rfl har hcode (X _ _ hcd) rfl hvs hfile T.top ?_
  refine PySem.W.ks_loadName_global kf ks (Calls.loadGlobal_builtin (by show Heap.Ns h fd.globals mg; rw [J.glob]; exact G) T.free (by show Heap.Ns h fd.builtins mb; rw [J.bltn]; exact B) ((bb _ (by decide +kernel)).trans PyProof.Rows.Boot.«super») ⟨rfl, ?_⟩)
  refine wpAny_loadName_free kf kc (by show fd.closure.lookup ("__class__" : Str) = some cc; rw [hclo]; rfl) ⟨_, X _ _ hcell, rfl⟩ ?_
  rw [hself]
  refine wpAny_loadName_local kf kself hn hv ?_
  refine PySem.ks_wpAny_isType_cls (X _ _ hC) rfl ⟨rfl, ?_⟩
  refine PySem.ks_wpAny_call_super (X _ _ hC) rfl hx rfl (fun c e => nomatch e) (PySem.W.looks_mroIn X T.slf) ?_
  intro h1 e1 k1'
  have X1 : K.In h1 := X.keeps k1'
  have hx1 := k1' _ _ hx
  have I1 : PySem.W.InstAt h1 x (HandSPX.excO C t0) C none := ⟨hx1, rfl, rfl, trivial⟩
  refine PySem.W.kxs_getMethod PySem.W.kxs_ValueError e1 (PySem.W.looks_opaque X1 T.opq) (l₀ := .ref C :: bm) (fun A Q E s kp z => wpAny_bind ((PySem.W.looks_clsIn X1 hcl) A _ E s kp (wpAny_pure z))) rfl X1 hsup (I1.type.andThen (PySem.W.looks_subIn X1 T.vErr)) hxC (by decide) ?_
  have keep2 : ∀ b o, h1.get? b = some o → (h1.push (PySem.W.kxs_mw "ValueError.__init__" x)).get? b = some o := fun b o z => Heap.get?_push_of_some _ z
  have hu : (h1.push (PySem.W.kxs_mw "ValueError.__init__" x)).get? h1.objs.size = some (PySem.W.kxs_mw "ValueError.__init__" x) := Heap.get?_push_at rfl rfl
  refine PySem.W.kxs_callWith (i := "ValueError.__init__") (x := x) rfl ?_
  refine Calls.evalArgs_plain ?_
  refine Calls.spliced_cons (Calls.Constant_str (x := msg) (k := k) (pos := q 3) (Calls.spliced_nil ⟨hu, ?_⟩))
  refine mw_call T (X1.keeps keep2) (keep2 _ _ hx1) hu (show 1 ≤ sizeLine by decide) ?_
  intro h3 t3 k3' hx3
  refine hq h3 _ t3 (fun b o hb z => k3' b o hb (keep2 _ _ (k1' _ _ z))) hx3

/-- an error with fields: where it stands, its dict -/
structure ExAt (h : Heap) (x C dx : Addr) (mA : Str → Option Value) : Prop where
  ob : ∃ t1 : Addr, h.get? x = some { cls := .ref C, dict := some dx, data := .fields #[.ref t1, .none, .none, .none, .bool false, .none] }
  ns : h.Ns1 dx mA
theorem fld_first {L x t0 : Addr} {m : Str → Option Value} {f : Str} {v : Value} {q : Nat → Pos} {Q : Flow → Shared → Prop} (T : ExT prog K mg fs C fI) (hf : f ∈ fs) (X : K.In h) (kf : fd.scope.kind = .function) (ls : fd.scope.names.lookup ("self" : Str) = some .local) (lf : fd.scope.names.lookup f = some .local) (nd : (f == ("__debug__" : Str)) = false)
    (hn : h.Ns L m) (hv : m "self" = some (.ref x)) (hw : m f = some v) (hx : h.get? x = some (HandSPX.excO C t0))
    (hq : ∀ h' t' dx, (∀ b o, b ≠ x → h.get? b = some o → h'.get? b = some o) → h.objs.size ≤ dx → dx ≠ x → ExAt h' x C dx (fun y => if y = f then some v else none) → Q .next ⟨h', g, d, t', os⟩) :
    wpAny (model prog w) A (exec (fldSt f q) (callEnv fd L fI)) Q E ⟨h, g, d, t, os⟩ := by
  obtain ⟨nm, qn, N, bs, bm, sn, sub, ab, col, dd, k0, k1, k2, k3, k5, hC, hbm⟩ := T.cls
  have hcl : PySem.W.clsIn K C = some { name := nm, bases := bs, mro := .ref C :: bm, ns := N, qualname := qn, hasDict := true, slotNames := sn, subclasses := sub, abstract := ab, collection := col, hasDel := false } := by
    unfold PySem.W.clsIn
    rw [hC]
  refine plainObj_wpAny_Assign_Attribute (wpAny_Name (wpAny_loadName_local kf lf hn hw ?_) nd)
  refine wpAny_Name (wpAny_loadName_local kf ls hn hv ?_)
  refine PySem.W.set_plain X (ox := HandSPX.excO C t0) (od := none) ⟨hx, rfl, rfl, trivial⟩ T.sa ?_
  refine HandSPX.exc_osa X hx hcl (show HandSPX.refsVE (.ref C :: bm) = true from hbm) rfl (T.no f hf) ?_
  intro h' t' dx k dn dne hx' hn'
  exact hq h' t' dx k dn dne ⟨⟨t0, hx'⟩, hn'⟩
theorem fld_next {L x dx : Addr} {m m0 : Str → Option Value} {f : Str} {v : Value} {nl : List Str} {q : Nat → Pos} {Q : Flow → Shared → Prop} (T : ExT prog K mg fs C fI) (hf : f ∈ fs) (X : K.In h) (kf : fd.scope.kind = .function) (ls : fd.scope.names.lookup ("self" : Str) = some .local) (lf : fd.scope.names.lookup f = some .local) (nd : (f == ("__debug__" : Str)) = false)
    (hn : h.Ns L m) (hv : m "self" = some (.ref x)) (hw : m f = some v) (hx : ExAt h x C dx m0) (hwi : Within m0 nl) (hl : nl.length ≤ 1000)
    (hq : ∀ h' t', (∀ b o, b ≠ dx → h.get? b = some o → h'.get? b = some o) → ExAt h' x C dx (fun y => if y = f then some v else m0 y) → Q .next ⟨h', g, d, t', os⟩) :
    wpAny (model prog w) A (exec (fldSt f q) (callEnv fd L fI)) Q E ⟨h, g, d, t, os⟩ := by
  obtain ⟨nm, qn, N, bs, bm, sn, sub, ab, col, dd, k0, k1, k2, k3, k5, hC, hbm⟩ := T.cls
  have hcl : PySem.W.clsIn K C = some { name := nm, bases := bs, mro := .ref C :: bm, ns := N, qualname := qn, hasDict := true, slotNames := sn, subclasses := sub, abstract := ab, collection := col, hasDel := false } := by
    unfold PySem.W.clsIn
    rw [hC]
  obtain ⟨⟨t1, ho⟩, hns⟩ := hx
  obtain ⟨oD, es, ep, hoD, r1, r2⟩ := id hns
  have dxx : dx ≠ x := fun z => by
    rw [z, ho] at hoD
    cases hoD
    cases r1
  refine plainObj_wpAny_Assign_Attribute (wpAny_Name (wpAny_loadName_local kf lf hn hw ?_) nd)
  refine wpAny_Name (wpAny_loadName_local kf ls hn hv ?_)
  refine PySem.W.set_plain X (ox := { cls := .ref C, dict := some dx, data := .fields #[.ref t1, .none, .none, .none, .bool false, .none] }) (od := some oD) ⟨ho, rfl, rfl, hoD⟩ T.sa ?_
  refine OEX.osa_old X ho hns hwi hl hcl (show HandSPX.refsVE (.ref C :: bm) = true from hbm) rfl (T.no f hf) ?_
  intro h' t' k hn'
  exact hq h' t' k ⟨⟨t1, k x _ (Ne.symm dxx) ho⟩, hn'⟩
theorem look2 {f : Str} {a b : Value} (ns : f ≠ ("self" : Str)) : ([(("self" : Str), a), (f, b)].reverse.lookup ("self" : Str) = some a) ∧ ([(("self" : Str), a), (f, b)].reverse.lookup f = some b) := by
  have e1 : (("self" : Str) == f) = false := beq_eq_false_iff_ne.mpr ns.symm
  constructor
  · show List.lookup ("self" : Str) [(f, b), (("self" : Str), a)] = some a
    rw [List.lookup_cons, e1]
    simp [List.lookup]
  · show List.lookup f [(f, b), (("self" : Str), a)] = some b
    rw [List.lookup_cons, beq_self_eq_true]
/-- the names of one, of two fields -/
def exMap : List Str → List Value → Str → Option Value
  | f :: fs, v :: vs, y => match exMap fs vs y with
    | some u => some u
    | none => if y = f then some v else none
  | _, _, _ => none
theorem ex_init {x t0 : Addr} {v1 : Value} {f1 : Str} {mb : Str → Option Value} {R : Result → Shared → Prop} (T : ExT prog K mg [f1] C fI) (J : ExI prog K [f1] C fI fd) (X : K.In h) (G : h.Ns mainGlobals mg) (B : h.Ns builtinsNs mb) (bb : ∀ x : Str, x ≠ "__name__" → mb x = bootBuiltins x)
    (lim : h.NoLimit) (room : A.depth < recursionLimit) (hx : h.get? x = some (HandSPX.excO C t0)) (hxK : K.lookup x = none) (nd : (f1 == ("__debug__" : Str)) = false) (ns : f1 ≠ ("self" : Str)) (hb : ∀ s : Shared, K.In s.heap → BindsTo s fd ⟨[.ref x, v1], []⟩ [("self", .ref x), (f1, v1)])
    (hq : ∀ h' t' dx, (∀ b o, b ≠ x → h.get? b = some o → h'.get? b = some o) → h.objs.size ≤ dx → dx ≠ x → ExAt h' x C dx (fun y => if y = f1 then some v1 else none) → R (.ok (.ret .none)) ⟨h', g, d, t', os⟩) :
    codeAny (model prog w) A (.call (.ref fI) ⟨[.ref x, v1], []⟩) R ⟨h, g, d, t, os⟩ := by
  obtain ⟨oc, od, osl, lk⟩ := J.at_
  obtain ⟨msg, k, q, qs, hbody, hlen, hpos⟩ := J.body
  have hok := J.ok
  unfold scOk at hok
  obtain ⟨o1, hok⟩ := He.ba hok
  obtain ⟨_, hok⟩ := He.ba hok
  obtain ⟨_, hok⟩ := He.ba hok
  obtain ⟨o4, o5⟩ := He.ba hok
  have ls : fd.scope.names.lookup ("self" : Str) = some .local := of_decide_eq_true o1
  have lf : fd.scope.names.lookup f1 = some .local := of_decide_eq_true (List.all_eq_true.mp o4 f1 List.mem_cons_self)
  match qs, hlen with
  | [q1], _ =>
    refine ks_codeAny_call_defAt (binds := [("self", .ref x), (f1, v1)]) room (X _ _ lk) rfl lim (PySem.W.codeRec_of X J.rec_) hbody (hb _ X) (fun y hy => of_decide_eq_true (List.all_eq_true.mp o5 y hy)) (fun y hy => ?_) ?_ J.co J.gen J.kind
    · rcases List.mem_cons.mp hy with e | hy
      · rw [e]; exact ls
      · rw [List.mem_singleton.mp hy]; exact lf
    · intro h0 hn0 k0
      have Lx : h.objs.size ≠ x := Nat.ne_of_gt (Heap.lt_size hx)
      refine ks_wpAt_execs_cons (sup_step T J (X.keeps k0) (G.keeps k0) (B.keeps k0) bb hpos hn0 (look2 ns).1 (k0 _ _ hx) ?_)
      intro h1 t1 tt k1 hx1
      have k1K : ∀ b o, K.lookup b = some o → b ≠ x := fun b o e z => by rw [z, hxK] at e; cases e
      have X1 : K.In h1 := fun b o e => k1 b o (k1K b o e) (k0 _ _ (X b o e))
      obtain ⟨oL, es, ep, hoL, r1, r2⟩ := hn0
      have hn1 : h1.Ns h.objs.size _ := ⟨oL, es, ep, k1 _ _ Lx hoL, r1, r2⟩
      refine wpAt_of_wpAny (wpAny_execs_cons (fld_first T List.mem_cons_self X1 J.kind ls lf nd hn1 (look2 ns).1 (look2 ns).2 hx1 ?_))
      intro h2 t2 dx k2 dn dne ex
      have hsz : h.objs.size ≤ h1.objs.size := Nat.le_of_lt (Heap.lt_size (k1 _ _ Lx hoL))
      exact wpAny_execs_nil (hq h2 t2 dx (fun b o hb e => k2 b o hb (k1 b o hb (k0 b o e))) (Nat.le_trans hsz dn) dne ex)
end
end WL
set_option Elab.async false
set_option linter.all false
set_option maxRecDepth 100000
set_option maxHeartbeats 4000000
namespace WL
open PySem PySem.Spec PyProof.Rows L2
/-! ### raise X(e), X such a class of one field -/
section
variable {X : Cx} {f : Str} {C fI : Addr} {fd : FuncData}
def tMkEx (C : Addr) (f : Str) (ta : TA) : L2.St → Hp → XK → Prop := fun σ H Q => ta σ H fun vs H1 => ∃ v, vs = [v] ∧ ∀ d, H1 d = none → Q (.ref C) (some d) (upd H1 d (.xd [(f, v)]))
theorem relO_one {f : Str} {v : V} {u : Value} (r : RelV v u) (y : Str) : RelO ([(f, v)].lookup y) (if y = f then some u else none) := by
  rw [lookup_put]
  by_cases e : y = f
  · rw [if_pos e, if_pos e]
    exact r
  · rw [if_neg e, if_neg e]
    exact True.intro
theorem pmk_ex {x : Str} {a : Expr} {ta : TA} {p pos : Pos} {k : Nat} (T : ExT X.prog X.K X.mg [f] C fI) (J : ExI X.prog X.K [f] C fI fd) (hr : Room k X.A) (gC : X.mg x = some (.ref C)) (nd : (f == ("__debug__" : Str)) = false) (ns : f ≠ ("self" : Str))
    (hb : ∀ (s : Shared) (u v : Value), X.K.In s.heap → BindsTo s fd ⟨[u, v], []⟩ [(("self" : Str), u), (f, v)]) (ha : PA X [a] ta) (hg : Gl X x := by rfl) (hd : (x == ("__debug__" : Str)) = false := by decide)
    (h1 : starEach (a :: []) X.env = (false, eval a X.env) :: starEach [] X.env := by rfl) (h2 : (backTo pos (starEach [] X.env)).any (·.1) = false := by rfl) :
    PMk X (.Call (.Name x p) [a] [] pos) (tMkEx C f ta) := by
  intro pins s σ H Q I h
  refine wpAny_Call_Name_kw (ld_glob I hg gC ?_ hd)
  refine PySem.W.callWith_K (h₀ := X.base) I.ok.mod.kin T.kC (thn (ha.run pos pins s σ H _ I h) ?_) h1 h2
  rintro us s1 ⟨vs, H1, I1, r1, v, ev, q1⟩
  subst ev
  refine ⟨I1.kIn, ?_⟩
  obtain ⟨u, rfl, ru⟩ := Vals.one r1
  obtain ⟨nm, qn, N, bs, bm, sn, sub, ab, col, dd, k0, k1, k2, k3, k5, hC, hbm⟩ := T.cls
  have lim := I1.nolimit
  have glo := I1.ok.mod.glob.keeps I1.bk
  obtain ⟨mb, bl, bb⟩ := I1.ok.mod.blt
  have bl' := bl.keeps I1.bk
  have XK := I1.kIn
  have fresh : ∀ b : Addr, s1.heap.objs.size ≤ b → H1 b = none := fun b hb => I1.hok.fresh hb
  obtain ⟨hp, g, dr, tk, os⟩ := s1
  show wpAny _ _ (call (.ref C) [u]) _ _ _
  have up : ∀ b o, hp.get? b = some o → ((hp.push (PySem.W.kdv_tup [u])).push (HandSPX.excO C hp.objs.size)).get? b = some o := fun b o e => Heap.get?_push_of_some _ (Heap.get?_push_of_some _ e)
  have at1 : ((hp.push (PySem.W.kdv_tup [u])).push (HandSPX.excO C hp.objs.size)).get? (hp.objs.size + 1) = some (HandSPX.excO C hp.objs.size) := by heap_get
  have nK : X.K.lookup (hp.objs.size + 1) = none := by
    cases e : X.K.lookup (hp.objs.size + 1) with
    | none => rfl
    | some o => exact absurd (Nat.lt_of_succ_lt (Heap.lt_size (XK _ _ e))) (Nat.lt_irrefl _)
  refine wpAny_call (HandSPX.call_own F.excBase_ValueError (fun Y => HandSPX.refsVE_contains Y bm hbm) (XK _ _ hC) (PySem.W.looks_findIn XK T.iC) (fun self => PySem.W.bind_fn XK self T.tI) (show 1 ≤ sizeLine by decide) ?_)
  refine ex_init T J (XK.keeps up) (glo.keeps up) (bl'.keeps up) bb (lim.keeps up) ?_ at1 nK nd ns (fun s hs => hb s _ _ hs) ?_
  · have := hr.dp
    rw [make_depth]
    omega
  intro h' t' dx kp dn dne ex
  refine ⟨rfl, ?_⟩
  show MkP X pins σ Q (.ref (hp.objs.size + 1)) _
  obtain ⟨⟨t1, he⟩, hns⟩ := ex
  obtain ⟨G', g1, g2⟩ := restrict h' fun b => decide (b ≠ hp.objs.size + 1)
  have gk : ∀ b, b ≠ hp.objs.size + 1 → G'.get? b = h'.get? b := fun b hb => g1 b (decide_eq_true hb)
  have ge : G'.get? (hp.objs.size + 1) = none := g2 _ (by simp)
  have old : ∀ b o, hp.get? b = some o → G'.get? b = some o := fun b o e => by
    have nb : b ≠ hp.objs.size + 1 := Nat.ne_of_lt (Nat.lt_succ_of_lt (Heap.lt_size e))
    rw [gk b nb]
    exact kp b o nb (up b o e)
  have dsz : hp.objs.size ≤ dx := by
    have e : hp.objs.size + 1 + 1 ≤ dx := by
      have z := dn
      rw [Heap.size_push, Heap.size_push] at z
      exact z
    exact Nat.le_trans (Nat.le_trans (Nat.le_succ _) (Nat.le_succ _)) e
  have ob : ObjOk X.prog X.w (upd H1 dx (.xd [(f, v)])) G' dx (.xd [(f, v)]) := ⟨_, hns.at (fun o e => (gk dx dne).trans e), fun y => relO_one ru y⟩
  have Jv : Inv X pins σ (upd H1 dx (.xd [(f, v)])) ⟨G', g, dr, t', os⟩ := I1.laid (t' := t') old dsz ob
  refine ⟨hp.objs.size + 1, _, _, ⟨G', g, dr, t', os⟩, _, .ref C, some dx, rfl, Jv, fun b o e => ?_, ge, he, ⟨rfl, rfl⟩, rfl, rfl, ?_, rfl, Jv.bare, raises_own T.exC T.tyC, q1 dx (fresh dx dsz)⟩
  · by_cases hb : b = hp.objs.size + 1
    · have e' : G'.get? b = some o := e
      rw [hb, ge] at e'
      cases e'
    · exact (gk b hb).symm.trans e
  · rw [upd_ne (Ne.symm dne)]
    exact fresh _ (Nat.le_succ _)
end
/-! ### try: body except X as n: suite, the error kept behind it -/
/-- an error that is held: its class, its own dict -/
def held (a : Addr) (cls : Value) (d : Option Addr) : Heap → Prop := fun h => ∃ (o : Obj) (vs : Array Value), h.get? a = some o ∧ o.cls = cls ∧ o.dict = d ∧ o.data = .fields vs
def Err (a : Addr) (cls : Value) (d : Option Addr) : HO := .ext (held a cls d)
theorem err_ok {P : Program} {w : World} {H : Hp} {h : Heap} {a : Addr} {cls : Value} {d : Option Addr} {o : Obj} {vs : Array Value} (e : h.get? a = some o) (z : Zc cls d o) (f : o.data = .fields vs) : ObjOk P w H h a (Err a cls d) :=
  ⟨⟨o, vs, e, z.1, z.2, f⟩, ⟨o, e⟩, fun _ _ ⟨o, vs, e, r⟩ k => ⟨o, vs, k _ e, r⟩⟩
theorem err_at {P : Program} {w : World} {H : Hp} {h : Heap} {a : Addr} {cls : Value} {d : Option Addr} (hok : HOk P w H h) (e : H a = some (Err a cls d)) : held a cls d h := by
  have x : ObjOk P w H h a (.ext (held a cls d)) := hok a _ e
  exact x.1
section
variable {X : Cx} {pins : List (Addr × Obj)} {σ : L2.St} {H : Hp} {s : Shared}
/-- an error that was new and is pinned may be tracked -/
theorem inv_keepErr {a : Addr} {oe : Obj} {vs : Array Value} {cls : Value} {d : Option Addr} (I : Inv X ((a, oe) :: pins) σ H s) (z : Zc cls d oe) (f : oe.data = .fields vs) (h0 : X.s_0.heap.get? a = none) (hp : ∀ p ∈ X.pn ++ pins, p.1 ≠ a) :
    Inv X pins σ (upd H a (Err a cls d)) s := by
  obtain ⟨e, n, nL, nF, nc⟩ := I.pin (a, oe) (List.mem_append_right _ List.mem_cons_self)
  have ne0 : ∀ {b : Addr} {o : Obj}, X.s_0.heap.get? b = some o → b ≠ a := fun {b o} q z => by rw [z, h0] at q; cases q
  have nes : ∀ {b : Addr} {o : HO}, H b = some o → b ≠ a := fun {b o} q => ne_of_none q n
  refine ⟨I.ok, I.os, I.bare, ⟨I.base.keep, I.base.slot, fun b o q n' hx => ?_, I.base.there, fun b xs q => ?_, fun b o u q => ?_, fun b ps q => ?_⟩, I.loc, I.cell, ?_, fun x c hc => ?_, fun p hp' => ?_, fun b u q => ?_, I.len⟩
  · rw [upd_ne (ne0 q)]
    exact I.base.free b o q n' hx
  · have z := I.base.tups b xs q
    rw [upd_ne (nes z)]
    exact z
  · have z := I.base.frzs b o u q
    rw [upd_ne (nes z)]
    exact z
  · obtain ⟨m, z⟩ := I.base.tbls b ps q
    exact ⟨m, by rw [upd_ne (nes z)]; exact z⟩
  · rw [upd_ne (Ne.symm nL)]
    exact I.free
  · have hca : c ≠ a := fun z => by
      obtain ⟨v, o, q1, q2⟩ := I.cell x c hc
      rw [z, e] at q1
      cases q1
      exact nc v q2
    rw [upd_ne hca]
    exact I.freeC x c hc
  · have hm : p ∈ X.pn ++ ((a, oe) :: pins) := (List.mem_append.mp hp').elim (fun z => List.mem_append_left _ z) fun z => List.mem_append_right _ (List.mem_cons_of_mem _ z)
    obtain ⟨q1, q2, q3⟩ := I.pin p hm
    exact ⟨q1, by rw [upd_ne (hp p hp')]; exact q2, q3⟩
  · by_cases hb : b = a
    · subst hb
      rw [upd_same] at q
      cases q
      exact err_ok e z f
    · rw [upd_ne hb] at q
      exact (I.hok b u q).stay (fun _ _ _ y => y) (fun c y => by rw [upd_ne (nes y)]; exact y) fun c xs y => by rw [upd_ne (nes y)]; exact y
end
/-- what the clause wishes: it takes every error of the body; behind the suite the error is tracked -/
def wKept (K : PySem.W.Frag) (c : Value) (i : Nat) (ts : Addr → Value → Option Addr → TS) (D : Ends) : WX := fun cls d σ H =>
  PySem.W.exmOne K cls c = some true ∧ ∀ a, H a = none → ts a cls d { nx := fun σ' H' => H' a = none → D.nx (σ'.set i none) (upd H' a (Err a cls d)), rt := fun _ _ => False } (σ.set i (some (.ref a))) H
section
variable {X : Cx} {x n : Str} {c : Value} {i : Nat} {body suite : List Stmt} {np pos pos' : Pos} {tb : WX → TS} {ts : Addr → Value → Option Addr → TS} {b0 : Stmt}
theorem ps_try_kept (hs : X.stack = X.env :: X.outer) (hf : X.env.frame = some X.env.locals) (hex : X.ex = []) (hN : X.N.Nodup) (hi : X.N[i]? = some n) (hln : X.env.kindOf n = some .local) (hc : Names X x c)
    (hb : ∀ (W : WX) (pn : List (Addr × Obj)) (xe : Value → Shared → Prop), Takes (X.tr pn xe) W → PassesOwn (model X.prog X.w) X.A X.env xe → PSs (X.tr pn xe) body (tb W))
    (hsu : ∀ (a : Addr) (oe : Obj) (cls : Value) (d : Option Addr) (pn : List (Addr × Obj)), Zc cls d oe → (∃ vs, oe.data = .fields vs) → PSs (X.suite a ((a, oe) :: pn)) (b0 :: suite) (ts a cls d)) :
    PS X (.Try body [.ExceptHandler (some (.Name x np)) (some n) (b0 :: suite) pos'] [] [] pos) (fun D σ H => tb (wKept X.K c i ts D) D σ H) := by
  constructor
  intro pins s σ H D I h
  have ok := I.ok
  have fr : X.A.frames = some (X.env :: X.outer) := ok.frames.trans (congrArg some hs)
  refine wpAny_Try_except (wpAny_mono ((hb (wKept X.K c i ts D) (X.pn ++ pins) _ ?_ PassesOwn.looking).run [] s σ H D (I.toTry _) h) ?_ fun _ _ z => z)
  rotate_left
  · -- nothing was raised
    intro f s1 hsp
    match f, hsp with
    | .next, ⟨_, _, J, q⟩ => exact wpAny_execs_nil ⟨_, _, J.ofTry ok, q⟩
    | .brk, ⟨_, _, J, q⟩ => exact ⟨_, _, J.ofTry ok, q⟩
    | .cont, ⟨_, _, J, q⟩ => exact ⟨_, _, J.ofTry ok, q⟩
    | .ret _, ⟨_, _, _, J, r, q⟩ => exact ⟨_, _, _, J.ofTry ok, r, q⟩
  -- an error came
  rintro u s' ⟨a, B, sI, pl, σ', H', cls, d, rfl, J', nb, up, sky, na, os, ag, hm, hyes⟩
  have J : Inv X pins σ' H' sI := J'.ofTry ok
  rw [show (X.tr (X.pn ++ pins) _).stack = X.env :: X.outer from hs] at sky
  refine Sky.land Zc.steady fr hf sky ?_
  intro h3 fl3 up3
  have J3 : Inv X pins σ' H' { s' with heap := h3 } := J.landed nb fl3.1 (up.trans up3) os ag
  obtain ⟨o3, v3, e3, z3, d3⟩ := fl3.there
  have out : a ∉ frs (X.env :: X.outer) := fun hm => by
    obtain ⟨_, o', e', hnf⟩ := fl3.2.2.1.mem hm
    rw [e3] at e'
    cases e'
    exact hnf _ d3
  have nL : a ≠ X.env.locals := fun z => out (List.mem_filterMap.mpr ⟨X.env, List.mem_cons_self, by rw [hf, z]⟩)
  have nF : a ∉ X.fs := fun hm => by
    obtain ⟨en, he, q⟩ := List.mem_filterMap.mp hm
    exact out (List.mem_filterMap.mpr ⟨en, List.mem_cons_of_mem _ he, q⟩)
  -- it is new
  have newI : sI.heap.get? a = none := by
    cases q : sI.heap.get? a with
    | none => rfl
    | some o =>
      have z := nb a o q (by rw [show (X.tr (X.pn ++ pins) _).stack = X.env :: X.outer from hs]; exact out)
      rw [fl3.2.1] at z
      cases z
  have new0 : X.s_0.heap.get? a = none := by
    cases q : X.s_0.heap.get? a with
    | none => rfl
    | some o =>
      obtain ⟨o', z⟩ := J.base.there a o q (by rw [hex]; exact List.not_mem_nil)
      rw [newI] at z
      cases z
  have newP : ∀ p ∈ X.pn ++ pins, p.1 ≠ a := fun p hp z => by
    have y := (J.pin p hp).1
    rw [z, newI] at y
    cases y
  have S3 := J3.suite e3 d3 na nL nF
  refine wpAny_handleBy_cons (codeAny_handlers_test ?_) (fun q => nomatch q)
  have look : PySem.W.Looks (model X.prog X.w) h3 (typeOf (.ref a)) cls := fun A Q E s k q => wpAny_typeOf_ref (k _ _ e3) (by rw [z3.1]; exact q)
  have lm := PySem.W.exm_one (M := model X.prog X.w) J3.kIn look hm
  have tst : ∀ {Q : Value → Shared → Prop} {E : Value → Shared → Prop}, Q c { s' with heap := h3 } → wpAny (model X.prog X.w) (X.A.mark (some (.ref a))) (eval (.Name x np) X.env) Q E { s' with heap := h3 } := by
    intro Q E q
    obtain ⟨hg, hdbg, hm | ⟨hm, hv, hnn⟩⟩ := hc
    · exact ld_glob (X := X.suite a ((a, o3) :: (X.pn ++ pins))) S3 hg hm q hdbg
    · exact ld_blt (X := X.suite a ((a, o3) :: (X.pn ++ pins))) S3 hg hm hv q hnn hdbg
  refine tst (lm.here (codeAny_handlers_suite_as (HandSPX.lands_againZ fl3 ?_)))
  intro h4 fl4 up4
  have J4 : Inv X pins σ' H' { s' with heap := h4 } := J.landed nb fl4.1 ((up.trans up3).trans up4) os ag
  obtain ⟨o4, v4, e4, z4, d4⟩ := fl4.there
  refine store_ok (X := X.suite a ((a, o4) :: (X.pn ++ pins))) (v := .ref a) (J4.suite e4 d4 na nL nF) hN hi (.inl hln) rfl ?_ (.inr hln)
  intro s5 S5
  refine wpAny_mono ((hsu a o4 cls d (X.pn ++ pins) z4 ⟨_, d4⟩).run [] s5 _ H' _ S5 (hyes a na)) ?_ fun _ _ z => z.elim
  intro f s6 hsp
  match f, hsp with
  | .brk, ⟨_, _, _, q⟩ => exact q.elim
  | .cont, ⟨_, _, _, q⟩ => exact q.elim
  | .ret _, ⟨_, _, _, _, _, q⟩ => exact q.elim
  | .next, ⟨σ6, H6, S6, q6⟩ =>
    have P6 : Inv X ((a, o4) :: pins) σ6 H6 s6 :=
      ⟨ok, S6.os, S6.bare, S6.base, S6.loc, S6.cell, S6.free, S6.freeC, fun p hp => S6.pin p (by
        refine List.mem_append_left _ ?_
        rcases List.mem_append.mp hp with hp | hp
        · exact List.mem_cons_of_mem _ (List.mem_append_left _ hp)
        · rcases List.mem_cons.mp hp with hp | hp
          · rw [hp]; exact List.mem_cons_self
          · exact List.mem_cons_of_mem _ (List.mem_append_right _ hp)), S6.hok, S6.len⟩
    have n6 : H6 a = none := (S6.pin (a, o4) (List.mem_append_left _ List.mem_cons_self)).2.1
    refine gone_ok P6 hN hi hln ?_
    intro s7 J7
    exact ⟨_, _, inv_keepErr J7 z4 d4 new0 newP, q6 n6⟩
end
/-- error.f, error a held one -/
def tErrF (C : Addr) (f : Str) (te : TE) : TE := fun σ H Q => te σ H fun x H1 => ∃ a d fs v, x = .ref a ∧ H1 a = some (Err a (.ref C) (some d)) ∧ H1 d = some (.xd fs) ∧ fs.lookup f = some v ∧ Q v H1
theorem pe_errf {X : Cx} {C : Addr} {e : Expr} {te : TE} {pos : Pos} {f : Str} (T : XfC X.K C) (no : PySem.W.findIn X.K (.ref C) f = some none) (he : PE X e te) (hb : attributeBase e f X.env (eval e X.env) = eval e X.env := by rfl) :
    PE X (.Attribute e f pos) (tErrF C f te) := by
  constructor
  intro pins s σ H Q I h
  refine attr_of hb (thn (he.run pins s σ H _ I h) ?_)
  rintro u s1 ⟨x, H1, I1, rx, a, d, fs, v, ex, ea, ed, l, q⟩
  subst ex
  cases rx
  obtain ⟨o, vs, eo, oc, od, of⟩ := err_at I1.hok ea
  obtain ⟨mA, hns, hr⟩ := (I1.hok d _ ed : ObjOk X.prog X.w H1 s1.heap d (.xd fs))
  obtain ⟨oD, hoD, hl⟩ := lookIn_ns hns
  obtain ⟨u, hu, ru⟩ := RelO.some_of (v := v) (o := mA f) (by rw [← l]; exact hr f)
  have Ji : PySem.W.InstAt s1.heap a o C (some oD) := ⟨eo, oc, by unfold PySem.W.notCls; rw [of], by rw [od]; exact hoD⟩
  exact HandSPX.exc_get I1.kIn Ji T.ga T.gg T.exC (PySem.W.findObj_own T.hdC no rfl (by rw [hl, hu])) (handed_of ru) ⟨v, H1, I1.tok _, ru, q⟩
end WL
set_option Elab.async false
set_option linter.all false
set_option maxRecDepth 100000
set_option maxHeartbeats 4000000
namespace WL
open PySem PySem.Spec PyProof.Rows L2
/-! ### what kind of thing a value is -/
def Ty (H : Hp) : V → Value → Prop
  | .non, t => t = .type "NoneType"
  | .bl _, t => t = .type "bool"
  | .int _, t => t = .type "int"
  | .str _, t => t = .type "str"
  | .ref p, t => (t = .type "list" ∧ ∃ xs, H p = some (.lst xs)) ∨ (t = .type "tuple" ∧ ∃ xs, H p = some (.tup xs)) ∨ (t = .type "dict" ∧ ∃ kvs, H p = some (.dK kvs)) ∨ ∃ C dx fs, t = .ref C ∧ H p = some (.ins C dx fs)
  | _, _ => False
section
variable {X : Cx} {pins : List (Addr × Obj)} {σ : L2.St} {H : Hp} {s : Shared}
theorem ty_looks {x : V} {u t : Value} (I : Inv X pins σ H s) (r : RelV x u) (ty : Ty H x t) : PySem.W.Looks (model X.prog X.w) s.heap (typeOf u) t := by
  cases x with
  | non =>
    cases r
    cases (show t = .type "NoneType" from ty)
    exact .now
  | bl b =>
    cases r
    cases (show t = .type "bool" from ty)
    exact .now
  | int i =>
    obtain ⟨tk, rfl⟩ := r
    cases (show t = .type "int" from ty)
    exact .now
  | str z =>
    obtain ⟨tk, rfl⟩ := r
    cases (show t = .type "str" from ty)
    exact .now
  | ref p =>
    cases r
    rcases ty with ⟨rfl, xs, h⟩ | ⟨rfl, xs, h⟩ | ⟨rfl, kvs, h⟩ | ⟨C, dx, fs, rfl, h⟩
    · obtain ⟨_, its, n, _, e⟩ := I.hok p _ h
      exact fun A Q E s k q => wpAny_typeOf_ref (k _ _ e) q
    · obtain ⟨_, its, _, ⟨o, e, c, n, d⟩⟩ := I.hok p _ h
      exact fun A Q E s k q => wpAny_typeOf_ref (k _ _ e) (by rw [c]; exact q)
    · obtain ⟨_, _, _, _, o, _, _, e, ex, _⟩ := I.hok p _ h
      exact fun A Q E s k q => wpAny_typeOf_ref (k _ _ e) (by rw [ex.1]; exact q)
    · obtain ⟨_, J, _⟩ := ins_get I.hok h
      obtain ⟨_, J, _⟩ := J.look
      exact J.type
  | byt b => exact (show False from ty).elim
  | flt b => exact (show False from ty).elim
  | ty n => exact (show False from ty).elim
end
/-! ### == and != by a class's own __eq__ -/
section
variable {X : Cx} {C g : Addr} {fd : FuncData} {ps : List Str} {sp : Sp} {k : Nat}
/-- the own __eq__ gives a truth value -/
def rOwnEq (K : PySem.W.Frag) (C : Addr) (sp : Sp) (f : Bool → Bool) : R2 := fun x y H Q => ∃ a dx fs t, x = .ref a ∧ H a = some (.ins C dx fs) ∧ Ty H y t ∧ PySem.W.notFirst K C t = true ∧ sp [x, y] H (fun z H' => ∃ b, z = .bl b ∧ Q (.bl (f b)) H') E0
theorem eq_run {pins : List (Addr × Obj)} {σ : L2.St} {H : Hp} {s : Shared} {A : Around} {a : Addr} {y : V} {u : Value} {Q : VK} {R : Value → Shared → Prop} (F : FnOk X.prog X.w X.K X.mg X.base CX0 k g fd ps sp) (hb : Binds X.K fd ps []) (hr : Room k A) (hf : A.frames = X.A.frames)
    (I : Inv X pins σ H s) (ry : RelV y u) (h : sp [.ref a, y] H Q E0) (hq : ∀ v s', EP X pins σ Q v s' → R v s') : wpAny (model X.prog X.w) A (call (.ref g) [.ref a, u]) R X.xe s := by
  have e1 := I.env0
  have e0 : Env0 X.prog X.w X.K X.mg X.base A X.stack s H := ⟨hf.trans e1.frames, e1.mod, e1.bs, e1.bsz, e1.funs, e1.frf, e1.hok, e1.bare⟩
  have el : 2 = ps.length := F.len _ _ _ _ h
  refine wpAny_call (codeAny_mono (F.run A X.stack s H ⟨[.ref a, u], []⟩ [.ref a, u] [.ref a, y] Q E0 hr e0 (by simpa using hb s [.ref a, u] I.kIn (by simpa using el)) (.cons rfl (.cons ry .nil)) h) ?_)
  intro r s' z
  match r, z with
  | .error _, z => exact False.elim z
  | .ok (.ret v), z => exact hq v s' (I.after z)
  | .ok .next, z => exact False.elim z
  | .ok .brk, z => exact False.elim z
  | .ok .cont, z => exact False.elim z
theorem op_ownEq (F : FnOk X.prog X.w X.K X.mg X.base CX0 k g fd ps sp) (hb : Binds X.K fd ps []) (hr : Room k X.A) (he : PySem.W.findIn X.K (.ref C) "__eq__" = some (some (.ref g))) (hfn : PySem.W.isFn X.K (.ref g) = true) : OpR X (compareOp .Eq) (rOwnEq X.K C sp id) := by
  intro pins s σ H x y v u Q I rx ry h
  obtain ⟨a, dx, fs, t, ex, ea, ty, hn, q⟩ := h
  subst ex
  cases rx
  obtain ⟨_, J, _⟩ := ins_get I.hok ea
  obtain ⟨_, J, _⟩ := J.look
  obtain ⟨m, fr⟩ := I.fr
  refine PySem.W.cmp_K (op := .Eq) hr.units0 fr I.ok.mod.kin J (ty_looks I ry ty) hn he hfn ?_
  refine eq_run F hb hr rfl I ry q ?_
  rintro w s' ⟨z, H', I', rz, b, ez, qz⟩
  subst ez
  cases rz
  exact ⟨.bl b, H', I', rfl, qz⟩
theorem op_ownNe (Fe : FnOk X.prog X.w X.K X.mg X.base CX0 k g fd ps sp) (hb : Binds X.K fd ps []) (hr : Room (k + 1) X.A) (he : PySem.W.findIn X.K (.ref C) "__eq__" = some (some (.ref g))) (hfn : PySem.W.isFn X.K (.ref g) = true)
    (hne : PySem.W.findIn X.K (.ref C) "__ne__" = some (some (.builtin "object.__ne__"))) (hob : PySem.W.subIn X.K (.ref C) (.type "object") = some true) : OpR X (compareOp .NotEq) (rOwnEq X.K C sp not) := by
  intro pins s σ H x y v u Q I rx ry h
  obtain ⟨a, dx, fs, t, ex, ea, ty, hn, q⟩ := h
  subst ex
  cases rx
  obtain ⟨_, J, _⟩ := ins_get I.hok ea
  obtain ⟨_, J, _⟩ := J.look
  have XK := I.kIn
  have hu := hr.units
  -- the built-in's body: the own __eq__, turned
  have body : wpAny (model X.prog X.w) X.A.in1 (Builtin.«object.__ne__» ⟨[.ref a, u], []⟩) (fun fin s' => ∃ b, fin = .done (.ret (.bool b)) ∧ EP X pins σ Q (.bool b) s') X.xe s := by
    unfold Builtin.«object.__ne__»
    refine wpAny_bind (wpAny_pure ?_)
    refine wpAny_bind (wpAny_cRoomFor (by show X.A.units + 1 < cLine; omega) ?_)
    refine wpAny_bind (PySem.W.ifBound_K XK J he hfn (eq_run Fe hb hr.in1 rfl I ry q ?_))
    rintro w s' ⟨z, H', I', rz, b, ez, qz⟩
    subst ez
    cases rz
    show wpAny _ _ (do ret (.bool (!(← truthy (.bool b))))) _ _ _
    refine wpAny_bind (wpAny_truthy_bool (wpAny_pure ⟨!b, rfl, .bl (!b), H', I', rfl, qz⟩))
  have one : wpAny (model X.prog X.w) X.A (tryCompare (.ref a) "__ne__" u) (fun r s' => ∃ w, r = some w ∧ EP X pins σ Q w s') X.xe s := by
    unfold tryCompare
    refine wpAny_bind ?_
    simp only [callSpecialIfBound?, bindSpecialIfBound?]
    refine wpAny_holding (wpAny_bind (wpAny_bind (wpAny_bind (J.type.here ((PySem.W.looks_findIn XK hne).here ?_)))))
    have fin : wpAny (model X.prog X.w) X.A (call (.builtin "object.__ne__") ([.ref a] ++ [u]) >>= fun v => pure (some v)) (fun r s' => wpAny (model X.prog X.w) X.A (match r with | some .notImplemented | none => pure none | some v => pure (some v)) (fun r s' => ∃ w, r = some w ∧ EP X pins σ Q w s') X.xe s') X.xe s := by
      refine wpAny_bind (wpAny_call (codeAny_call_builtin F.cmp_object.ne.plain F.cmpEntry_ne (PySem.W.check_slot F.cmpKind_ne F.cmpSplit_ne (J.type.andThen (PySem.W.looks_subIn XK hob)) (F.cmpArgs_ne _ _) (wpAny_mono body ?_ fun _ _ z => z))))
      rintro fin s' ⟨b, rfl, z⟩
      exact wpAny_pure (wpAny_pure ⟨_, rfl, z⟩)
    have bd : bindSpecial (.builtin "object.__ne__") (.ref a) = pure (.builtin "object.__ne__", [.ref a]) := F.cmp_object.ne.bind _
    refine wpAny_bind (wpAny_askSetting (wpAny_ite ?_))
    split
    · exact wpAny_bind (wpAny_of_eq bd (wpAny_pure fin))
    · exact wpAny_tryCatch (wpAny_bind (wpAny_of_eq bd (wpAny_pure fin)))
  show wpAny _ _ (richCompare .NotEq (.ref a) u) _ _ _
  unfold richCompare
  simp only [oneThing_ref]
  refine wpAny_holding (wpAny_bind (wpAny_cRoomFor (by omega) ?_))
  refine wpAny_bind (J.type.here (wpAny_bind ((ty_looks I ry ty).here ?_)))
  split
  · rename_i c
    have e : PySem.W.subIn X.K t (.ref C) = some false := by
      rcases Bool.or_eq_true_iff.mp hn with e | e
      · rw [beq_iff_eq.mp e] at c
        simp at c
      · exact beq_iff_eq.mp e
    refine wpAny_bind ((PySem.W.looks_subIn XK e).here ?_)
    simp only [Bool.false_eq_true, if_false]
    refine wpAny_bind (wpAny_mono one ?_ fun _ _ z => z)
    rintro r s' ⟨w, rfl, z⟩
    exact wpAny_pure z
  · refine wpAny_bind (wpAny_pure ?_)
    simp only [Bool.false_eq_true, if_false]
    refine wpAny_bind (wpAny_mono one ?_ fun _ _ z => z)
    rintro r s' ⟨w, rfl, z⟩
    exact wpAny_pure z
end
end WL
set_option Elab.async false
set_option linter.all false
set_option maxRecDepth 100000
set_option maxHeartbeats 4000000
namespace WL
open PySem PySem.Spec PyProof.Rows L2
section
variable {X : Cx} {CX : CXT} {k : Nat} {f C : Addr} {fd : FuncData} {ps : List Str} {sp : Sp} {m : Str} {e o : Expr} {es : List Expr} {ta : TE} {t : TA} {pos apos : Pos}
/-- len(o), o of a class with its own __len__ -/
def rLenOwn (C : Addr) (sp : Sp) : List V → Hp → VK → Prop := fun vs H Q => ∃ a dx fs, vs = [.ref a] ∧ H a = some (.ins C dx fs) ∧ sp [.ref a] H (fun z H' => ∃ n : Int, z = .int n ∧ (0 ≤ n ∧ n < 2 ^ 63) ∧ Q (.int n) H') E0
theorem call_lenOwn (Fl : FnOk X.prog X.w X.K X.mg X.base CX0 k f fd ps sp) (hb : Binds X.K fd ps []) (hr : Room (k + 1) X.A) (hl : PySem.W.findIn X.K (.ref C) "__len__" = some (some (.ref f))) (hfn : PySem.W.isFn X.K (.ref f) = true) : CallR X (.builtin "len") (rLenOwn C sp) := by
  intro pins s σ H vs us Q I r h
  obtain ⟨a, dx, fs, e, ea, q⟩ := h
  subst e
  obtain ⟨u, rfl, ru⟩ := Vals.one r
  cases ru
  obtain ⟨_, J, _⟩ := ins_get I.hok ea
  obtain ⟨_, J, _⟩ := J.look
  obtain ⟨m, fr⟩ := I.fr
  have e1 := I.env0
  have e0 : Env0 X.prog X.w X.K X.mg X.base X.A.in1 X.stack s H := e1.in1
  have el : 1 = ps.length := Fl.len _ _ _ _ q
  refine PySem.W.len_K fr I.ok.mod.kin J hl hfn ?_
  refine wpAny_call (codeAny_mono (Fl.run X.A.in1 X.stack s H ⟨[.ref a], []⟩ [.ref a] [.ref a] _ E0 hr.in1 e0 (by simpa using hb s [.ref a] I.kIn (by simpa using el)) (.cons rfl .nil) q) ?_)
  intro res s' z
  match res, z with
  | .error _, z => exact False.elim z
  | .ok .next, z => exact False.elim z
  | .ok .brk, z => exact False.elim z
  | .ok .cont, z => exact False.elim z
  | .ok (.ret v), z =>
    obtain ⟨y, H', I', ry, n, ey, hn, qn⟩ := I.after z
    subst ey
    obtain ⟨tk, rfl⟩ := ry
    exact ⟨hn, .int n, H', I'.tok _, ⟨_, rfl⟩, qn⟩
/-- o.m(e, ..) in a try's body: the wish of errors may speak of the slots -/
def tMethS (C : Addr) (m : Str) (sp : Sp) (E : L2.St → XK) (ta : TE) (t : TA) : TE := fun σ H Q => ta σ H fun x H1 => ∃ a dx fs, x = .ref a ∧ H1 a = some (.ins C dx fs) ∧ fs.lookup m = none ∧ t σ H1 fun vs H2 => sp (x :: vs) H2 Q (E σ)
theorem pe_methS {E : L2.St → XK} {pl : Sem Bool} (he : PE X o ta) (c : Cls X.K C) (hm : Meth X.K C m f) (Fm : FnOk X.prog X.w X.K X.mg X.base CX k f fd ps sp) (hr : Room k X.A) (hb : Binds X.K fd ps []) (hx : ∀ σ, PassesAt CX X σ (E σ)) (ha : PA X (e :: es) t)
    (h1 : starEach (e :: es) X.env = (false, eval e X.env) :: starEach es X.env := by rfl) (h2 : (backTo pos (starEach es X.env)).any (·.1) = false := by rfl)
    (ht : eval (.Call (.Attribute o m apos) (e :: es) [] pos) X.env = (do
      let ov ← eval o X.env
      standAt apos.atName
      let (f, first) ← holding [ov] (getMethod ov m pl)
      callWith pos f first (backTo pos (starEach (e :: es) X.env)) (backToKw pos (keywordEach [] X.env))) := by rfl) :
    PE X (.Call (.Attribute o m apos) (e :: es) [] pos) (tMethS C m sp E ta t) := by
  constructor
  intro pins s σ H Q I h
  refine PySem.W.methodCall_KW (pl := pl) (thn (he.run pins s σ H _ I h) ?_) ht
  rintro u s1 ⟨x, H1, I1, rx, a, dx, fs, ex, ea, l, q⟩
  subst ex
  cases rx
  refine getmeth_ok I1 ea c hm l (PySem.W.callWith_K (first := [.ref a]) (h₀ := X.base) I.ok.mod.kin hm.kp (thn (ha.run pos pins s1 σ H1 _ I1 q) ?_) h1 h2)
  rintro us s2 ⟨vs, H2, I2, r, q2⟩
  exact ⟨I2.kIn, run_fnS (us := .ref a :: us) (vs := .ref a :: vs) Fm hr hb (hx σ) I2 (.cons rfl r) q2⟩
/-- o.m(k = v, ..) -/
def tMethK0 (C : Addr) (m : Str) (n : Nat) (sp : Sp) (gV : List V → List V → List V) (E : XK) (ta : TE) (tk : TA) : TE := fun σ H Q => ta σ H fun x H1 => ∃ a dx fs, x = .ref a ∧ H1 a = some (.ins C dx fs) ∧ fs.lookup m = none ∧
  tk σ H1 fun zs H2 => zs.length = n ∧ sp (gV [x] zs) H2 Q E
theorem pe_methK0 {E : XK} {pl : Sem Bool} {kws : List Keyword} {ks : List Str} {tk : TA} {g : List Value → List Value → List Value} {gV : List V → List V → List V} (he : PE X o ta) (c : Cls X.K C) (hm : Meth X.K C m f) (Fm : FnOk X.prog X.w X.K X.mg X.base CX k f fd ps sp) (hr : Room k X.A)
    (hb : KBn X.K fd ps 1 ks g gV) (hx : Passes CX X E) (hkw : PK X kws tk) (hall : (backToKw pos (keywordEach kws X.env)).all (·.1.isSome) = true := by rfl) (hks : (backToKw pos (keywordEach kws X.env)).filterMap (·.1) = ks := by rfl)
    (hpl : ((backTo pos (starEach [] X.env)).any (·.1) || (backToKw pos (keywordEach kws X.env)).any (·.1.isNone)) = false := by rfl)
    (ht : eval (.Call (.Attribute o m apos) [] kws pos) X.env = (do
      let ov ← eval o X.env
      standAt apos.atName
      let (f, first) ← holding [ov] (getMethod ov m pl)
      callWith pos f first (backTo pos (starEach [] X.env)) (backToKw pos (keywordEach kws X.env))) := by rfl) :
    PE X (.Call (.Attribute o m apos) [] kws pos) (tMethK0 C m ks.length sp gV E ta tk) := by
  constructor
  intro pins s σ H Q I h
  refine PySem.W.methodCall_KW (pl := pl) (thn (he.run pins s σ H _ I h) ?_) ht
  rintro u s1 ⟨x, H1, I1, rx, a, dx, fs, ex, ea, l, q⟩
  subst ex
  cases rx
  refine getmeth_ok I1 ea c hm l (PySem.W.callWith_KW0 (first := [.ref a]) (h₀ := X.base) I.ok.mod.kin hm.kp hall (thn (hkw.run pos pins s1 σ H1 _ I1 q) ?_) hpl)
  rintro ws s2 ⟨zs, H2, I2, rz, l2, q2⟩
  refine ⟨I2.kIn, ?_⟩
  rw [hks]
  exact run_fnN (us := [.ref a]) (vs := [.ref a]) Fm hr hb hx I2 (.cons rfl .nil) rz rfl l2 q2
end
/-! ### a new list whose place is not that of the modules' table -/
def tLstS (t : TA) : TE := fun σ H Q => t σ H fun xs H1 => xs.length ≤ sizeLine ∧ ∀ p, H1 p = none → p ≠ sysModules → Q (.ref p) (upd H1 p (.lst xs))
section
variable {X : Cx} {es : List Expr} {t : TA} {pos : Pos}
theorem pe_lstS (h : PA X es t) : PE X (.List es pos) (tLstS t) := by
  constructor
  intro pins s σ H Q I hq
  refine wpAny_List_spliced (thn (h.run pos pins s σ H _ I hq) ?_)
  rintro us s1 ⟨xs, H1, I1, r, z, q⟩
  refine ⟨by rw [← r.length]; exact z, ?_⟩
  have hf : H1 s1.heap.objs.size = none := I1.hok.fresh (Nat.le_refl _)
  exact ⟨.ref s1.heap.objs.size, upd H1 s1.heap.objs.size (.lst xs), I1.laid (t' := s1.toks) (fun b u e => Heap.get?_push_of_some _ e) (Nat.le_refl _) ⟨z, us, 0, r, Heap.get?_push_size _ rfl⟩, rfl, q _ hf (Nat.ne_of_gt I1.big)⟩
end
end WL
set_option Elab.async false
set_option linter.all false
set_option maxRecDepth 100000
set_option maxHeartbeats 4000000
namespace WL
open PySem PySem.Spec PyProof.Rows L2
/-! ### a def of the module, by its name -/
structure Has (P : Program) (w : World) (K : PySem.W.Frag) (mg : Str → Option Value) (base : Heap) (k : Nat) (x : Str) (ps : List Str) (sp : Sp) : Prop where
  ex : ∃ fa fd, mg x = some (.ref fa) ∧ PySem.W.keepIn K (.ref fa) = true ∧ Binds K fd ps [] ∧ FnOk P w K mg base CX0 k fa fd ps sp
structure HasG (P : Program) (w : World) (K : PySem.W.Frag) (mg : Str → Option Value) (base : Heap) (k : Nat) (x : Str) (ps : List Str) (sp : Sp) : Prop where
  ex : ∃ fa fd, mg x = some (.ref fa) ∧ PySem.W.keepIn K (.ref fa) = true ∧ Binds K fd ps [] ∧ GOk P w K mg base k fa fd ps sp
theorem HasG.of {P : Program} {w : World} {K : PySem.W.Frag} {mg : Str → Option Value} {base : Heap} {k : Nat} {x : Str} {ps : List Str} {sp : Sp} (h : Has P w K mg base k x ps sp) : HasG P w K mg base k x ps sp := by
  obtain ⟨fa, fd, h1, h2, h3, h4⟩ := h.ex
  exact ⟨fa, fd, h1, h2, h3, GOk.of h4⟩
section
variable {X : Cx} {k j : Nat} {x : Str} {ps : List Str} {sp : Sp} {e : Expr} {es : List Expr} {t : TA} {p pos : Pos}
theorem pe_has (h : Has X.prog X.w X.K X.mg X.base k x ps sp) (hr : Room j X.A) (hk : k ≤ j) (ha : PA X (e :: es) t) (gl : Gl X x := by rfl) (hdb : (x == ("__debug__" : Str)) = false := by decide)
    (h1 : starEach (e :: es) X.env = (false, eval e X.env) :: starEach es X.env := by rfl) (h2 : (backTo pos (starEach es X.env)).any (·.1) = false := by rfl) : PE X (.Call (.Name x p) (e :: es) [] pos) (tCall sp [] E0 t) := by
  obtain ⟨fa, fd, m, kp, b, F⟩ := h.ex
  exact pe_call F (hr.mono hk) gl m kp b .nil pass0 ha hdb h1 h2
theorem pe_hasG (h : HasG X.prog X.w X.K X.mg X.base k x ps sp) (hg : X.A.guards = some []) (hr : Room j X.A) (hk : k ≤ j) (ha : PA X (e :: es) t) (gl : Gl X x := by rfl) (hdb : (x == ("__debug__" : Str)) = false := by decide)
    (h1 : starEach (e :: es) X.env = (false, eval e X.env) :: starEach es X.env := by rfl) (h2 : (backTo pos (starEach es X.env)).any (·.1) = false := by rfl) : PE X (.Call (.Name x p) (e :: es) [] pos) (tCall sp [] E0 t) := by
  obtain ⟨fa, fd, m, kp, b, F⟩ := h.ex
  exact pe_gcall F hg (hr.mono hk) gl m kp b .nil ha hdb h1 h2
end
/-- the built-ins that the texts use -/
structure Blt (mg : Str → Option Value) : Prop where
  range : mg "range" = none
  len : mg "len" = none
  tuple : mg "tuple" = none
  list : mg "list" = none
  enumerate : mg "enumerate" = none
  zip : mg "zip" = none
  repr : mg "repr" = none
  min : mg "min" = none
  isinstance : mg "isinstance" = none
  int : mg "int" = none
  bool : mg "bool" = none
/-! ### reading, step by step -/
section
variable {σ : L2.St} {H : Hp} {Q : VK} {D : Ends}
theorem g_seq {t u : TS} (h : t { D with nx := u D } σ H) : tSeq t u D σ H := h
theorem g_asgN {te : TE} {i : Nat} (h : te σ H fun x H1 => D.nx (σ.set i (some x)) H1) : tAsg te (gName i) D σ H := h
theorem g_ret {te : TE} (h : te σ H D.rt) : tRet te D σ H := h
theorem g_drop {te : TE} (h : te σ H fun _ H1 => D.nx σ H1) : tDrop te D σ H := h
theorem g_ifS {c : TT} {t u : TS} (h : c σ H fun b H1 => if b = true then t D σ H1 else u D σ H1) : tIfS c t u D σ H := h
theorem g_next (h : D.nx σ H) : tNext D σ H := h
theorem g_var {i : Nat} {v : V} (e : σ[i]? = some (some v)) (h : Q v H) : tVar i σ H Q := ⟨v, e, h⟩
theorem g_c {v : V} (h : Q v H) : tC v σ H Q := h
theorem g_op {r : R2} {ta tb : TE} (h : ta σ H fun x H1 => tb σ H1 fun y H2 => r x y H2 Q) : tOp r ta tb σ H Q := h
theorem g_un {r : V → Hp → VK → Prop} {ta : TE} (h : ta σ H fun x H1 => r x H1 Q) : tUn r ta σ H Q := h
theorem g_rI0 {g : Int → Int → V} {i j : Int} (h : Q (g i j) H) : rI0 g (.int i) (.int j) H Q := ⟨i, j, rfl, rfl, h⟩
theorem g_rI {C : Int → Int → Prop} {g : Int → Int → V} {i j : Int} (c : C i j) (h : Q (g i j) H) : rI C g (.int i) (.int j) H Q := ⟨i, j, rfl, rfl, c, h⟩
theorem g_test {t : TE} {Q : Bool → Hp → Prop} (h : t σ H fun x H' => ∃ k, x = .bl k ∧ Q k H') : tTest t σ H Q := h
theorem g_bl {k : Bool} {P : Bool → Prop} (h : P k) : ∃ k', V.bl k = V.bl k' ∧ P k' := ⟨k, rfl, h⟩
theorem g_nil {Q : List V → Hp → Prop} (h : Q [] H) : tNil σ H Q := h
theorem g_cons {ta : TE} {tr : TA} {Q : List V → Hp → Prop} (h : ta σ H fun x H1 => tr σ H1 fun xs H2 => Q (x :: xs) H2) : tCons ta tr σ H Q := h
theorem g_call {sp : Sp} {t : TA} {E : XK} (h : t σ H fun vs H1 => sp vs H1 Q E) : tCall sp [] E t σ H Q := by
  show t σ H fun vs H1 => sp (vs ++ []) H1 Q E
  simpa using h
theorem g_tup {t : TA} (h : t σ H fun xs H1 => xs.length ≤ sizeLine ∧ ∀ p, H1 p = none → Q (.ref p) (upd H1 p (.tup xs))) : tTup t σ H Q := h
theorem g_lst {t : TA} (h : t σ H fun xs H1 => xs.length ≤ sizeLine ∧ ∀ p, H1 p = none → Q (.ref p) (upd H1 p (.lst xs))) : tLst t σ H Q := h
theorem g_cb {r : List V → Hp → VK → Prop} {t : TA} (h : t σ H fun vs H1 => r vs H1 Q) : tCB r t σ H Q := h
theorem g_if {t : TT} {ta tb : TE} (h : t σ H fun c H1 => if c = true then ta σ H1 Q else tb σ H1 Q) : tIf t ta tb σ H Q := h
theorem g_par {i j : Nat} {ta : TA} (h : ta σ H fun vs H1 => ∃ v w, vs = [v, w] ∧ D.nx ((σ.set i (some v)).set j (some w)) H1) : tPar i j ta D σ H := h
theorem g_two {v w : V} {P : V → V → Prop} (h : P v w) : ∃ v' w', [v, w] = [v', w'] ∧ P v' w' := ⟨v, w, rfl, h⟩
theorem g_isN {y : V} (h : Q (.bl (decide (y = .non))) H) : (V.non = .non ∧ Q (.bl (decide (y = .non))) H) := ⟨rfl, h⟩
end
/-! ### drawn numbers -/
def spMixed : Sp := fun vs H Q _ => ∃ c n : Int, vs = [.int c, .int n] ∧ (0 ≤ c ∧ c < 2 ^ 40) ∧ (0 ≤ n ∧ n < 2 ^ 40) ∧ ∀ r : Int, 0 ≤ r → r < 2 ^ 31 → Q (.int r) H
/-- a list of 64 numbers -/
def Cells (l : List Int) : Prop := l.length = 64 ∧ ∀ c ∈ l, 0 ≤ c ∧ c < 2147483647
def spFolded (K : PySem.W.Frag) : Sp := fun vs H Q _ => ∃ (a : Addr) (ns : List Int), vs = [.ref a] ∧ SqL K H a (ns.map V.int) ∧ ns.length ≤ 63 ∧ ∀ (p : Addr) (l : List Int) (H' : Hp), Cells l → H p = none → H' p = some (.lst (l.map V.int)) → (∀ b, b ≠ p → ∀ o, H b = some o → H' b = some o) → Q (.ref p) H'
/-- the state from which numbers are drawn: at m, its cells at c, its great cells at g, n numbers drawn -/
structure Dr (H : Hp) (m c g : Addr) (n : Int) : Prop where
  dict : H m = some (.dK [(Sum.inr "cells", .ref c), (Sum.inr "great", .ref g), (Sum.inr "spot", .int n)])
  cells : ∃ l, Cells l ∧ H c = some (.lst (l.map V.int))
  great : ∃ l : List Int, l.length ≤ 63 ∧ H g = some (.lst (l.map V.int))
  ne : c ≠ g
  pos : 0 ≤ n
/-- all but m and g is as it was -/
def But (m g : Addr) (H H' : Hp) : Prop := ∀ b o, b ≠ m → b ≠ g → H b = some o → H' b = some o
theorem But.refl {m g : Addr} {H : Hp} : But m g H H := fun _ _ _ _ h => h
theorem But.trans {m g : Addr} {H H1 H2 : Hp} (a : But m g H H1) (b : But m g H1 H2) : But m g H H2 := fun c o h1 h2 h => b c o h1 h2 (a c o h1 h2 h)
theorem But.same {m g : Addr} {H H1 H2 : Hp} (a : But m g H H1) (b : ∀ b o, H1 b = some o → H2 b = some o) : But m g H H2 := fun c o h1 h2 h => b c o (a c o h1 h2 h)
theorem But.of_same {m g : Addr} {H H1 : Hp} (a : ∀ b o, H b = some o → H1 b = some o) : But m g H H1 := fun c o _ _ h => a c o h
/-- what is free afterwards was free -/
def Old (H H' : Hp) : Prop := ∀ b, H' b = none → H b = none
def spDraw : Sp := fun vs H Q _ => ∃ (m c g : Addr) (n top : Int), vs = [.ref m, .int top] ∧ Dr H m c g n ∧ n < 2 ^ 30 ∧ (0 < top ∧ top < 1073741824) ∧
  ∀ (k : Int) (H' : Hp), 0 ≤ k → k < top → Dr H' m c g (n + 1) → But m g H H' → Old H H' → Q (.int k) H'
end WL
set_option Elab.async false
set_option linter.all false
set_option maxRecDepth 100000
set_option maxHeartbeats 4000000
namespace WL
open PySem PySem.Spec PyProof.Rows L2
/-! ### tuples stay what they are -/
def Tk (H H' : Hp) : Prop := ∀ b xs, H b = some (.tup xs) → H' b = some (.tup xs)
theorem Tk.refl {H : Hp} : Tk H H := fun _ _ h => h
theorem Tk.trans {H H1 H2 : Hp} (a : Tk H H1) (b : Tk H1 H2) : Tk H H2 := fun c o h => b c o (a c o h)
theorem Tk.new {H : Hp} {p : Addr} {o : HO} (n : H p = none) : Tk H (upd H p o) := fun b xs h => by
  unfold upd
  by_cases e : b = p
  · subst e; rw [n] at h; exact absurd h (by simp)
  · simpa [e] using h
theorem Tk.same {H H' : Hp} (a : ∀ b o, H b = some o → H' b = some o) : Tk H H' := fun b xs h => a b _ h
theorem Tk.upd {H : Hp} {p : Addr} {o : HO} {u : HO} (q : H p = some u) (n : ∀ xs, u ≠ .tup xs) : Tk H (upd H p o) := fun b xs h => by
  unfold L2.upd
  by_cases e : b = p
  · subst e; rw [q] at h; exact absurd (Option.some.inj h) (n xs)
  · simpa [e] using h
mutual
/-- data of tuples and plain values -/
inductive Fz (H : Hp) : V → PyData → Prop
  | non : Fz H .non .none
  | bl (b : Bool) : Fz H (.bl b) (.bool b)
  | int (i : Int) : Fz H (.int i) (.int i)
  | str (x : Str) : Fz H (.str x) (.str x)
  | tup {a : Addr} {xs : List V} {ds : List PyData} : H a = some (.tup xs) → Fzs H xs ds → Fz H (.ref a) (.tuple ds)
inductive Fzs (H : Hp) : List V → List PyData → Prop
  | nil : Fzs H [] []
  | cons {v : V} {vs : List V} {d : PyData} {ds : List PyData} : Fz H v d → Fzs H vs ds → Fzs H (v :: vs) (d :: ds)
end
section
variable {H H' : Hp}
mutual
theorem Fz.tk (k : Tk H H') : ∀ {v : V} {d : PyData}, Fz H v d → Fz H' v d
  | _, _, .non => .non
  | _, _, .bl b => .bl b
  | _, _, .int i => .int i
  | _, _, .str x => .str x
  | _, _, .tup h q => .tup (k _ _ h) (q.tk k)
theorem Fzs.tk (k : Tk H H') : ∀ {vs : List V} {ds : List PyData}, Fzs H vs ds → Fzs H' vs ds
  | _, _, .nil => .nil
  | _, _, .cons h q => .cons (h.tk k) (q.tk k)
end
mutual
theorem Fz.dq : ∀ {v : V} {d : PyData}, Fz H v d → Dq H v d
  | _, _, .non => .non
  | _, _, .bl b => .bl b
  | _, _, .int i => .int i
  | _, _, .str x => .str x
  | _, _, .tup h q => .tup h q.dqs
theorem Fzs.dqs : ∀ {vs : List V} {ds : List PyData}, Fzs H vs ds → Dqs H vs ds
  | _, _, .nil => .nil
  | _, _, .cons h q => .cons h.dq q.dqs
end
mutual
theorem Fz.dp {K : PySem.W.Frag} : ∀ {v : V} {d : PyData}, Fz H v d → Dp K H v d
  | _, _, .non => .non
  | _, _, .bl b => .bl b
  | _, _, .int i => .int i
  | _, _, .str x => .str x
  | _, _, .tup h q => .tup (SqT.of h) q.dps
theorem Fzs.dps {K : PySem.W.Frag} : ∀ {vs : List V} {ds : List PyData}, Fzs H vs ds → DpAll K H vs ds
  | _, _, .nil => .nil
  | _, _, .cons h q => .cons h.dp q.dps
end
theorem Fzs.length : ∀ {vs : List V} {ds : List PyData}, Fzs H vs ds → vs.length = ds.length
  | _, _, .nil => rfl
  | _, _, .cons _ h => congrArg Nat.succ h.length
theorem Fzs.get : ∀ {vs : List V} {ds : List PyData}, Fzs H vs ds → ∀ {i : Nat} {v : V}, vs[i]? = some v → ∃ d, ds[i]? = some d ∧ Fz H v d
  | _, _, .nil, _, _, e => by simp at e
  | _, _, .cons h q, 0, v, e => ⟨_, rfl, by simp at e; subst e; exact h⟩
  | _, _, .cons h q, i + 1, v, e => by
    obtain ⟨d, e1, f⟩ := q.get (i := i) (v := v) (by simpa using e)
    exact ⟨d, by simpa using e1, f⟩
theorem Fzs.append : ∀ {vs us : List V} {ds es : List PyData}, Fzs H vs ds → Fzs H us es → Fzs H (vs ++ us) (ds ++ es)
  | _, _, _, _, .nil, h => h
  | _, _, _, _, .cons a b, h => .cons a (b.append h)
theorem Fzs.take : ∀ {vs : List V} {ds : List PyData}, Fzs H vs ds → ∀ n, Fzs H (vs.take n) (ds.take n)
  | _, _, _, 0 => by simpa using Fzs.nil
  | _, _, .nil, n + 1 => by simpa using Fzs.nil
  | _, _, .cons a b, n + 1 => by simpa using Fzs.cons a (b.take n)
theorem Fzs.drop : ∀ {vs : List V} {ds : List PyData}, Fzs H vs ds → ∀ n, Fzs H (vs.drop n) (ds.drop n)
  | _, _, h, 0 => by simpa using h
  | _, _, .nil, n + 1 => by simpa using Fzs.nil
  | _, _, .cons a b, n + 1 => by simpa using b.drop n
theorem Fzs.reverse : ∀ {vs : List V} {ds : List PyData}, Fzs H vs ds → Fzs H vs.reverse ds.reverse
  | _, _, .nil => by simpa using Fzs.nil
  | _, _, .cons a b => by simpa using b.reverse.append (.cons a .nil)
theorem Fz.tup_inv {v : V} {ds : List PyData} (h : Fz H v (.tuple ds)) : ∃ a xs, v = .ref a ∧ H a = some (.tup xs) ∧ Fzs H xs ds := by
  cases h with
  | tup a b => exact ⟨_, _, rfl, a, b⟩
theorem Fz.int_inv {v : V} {i : Int} (h : Fz H v (.int i)) : v = .int i := by cases h; rfl
theorem Fz.non_inv {v : V} (h : Fz H v .none) : v = .non := by cases h; rfl
theorem Fzs.get_d : ∀ {vs : List V} {ds : List PyData}, Fzs H vs ds → ∀ {i : Nat} {d : PyData}, ds[i]? = some d → ∃ v, vs[i]? = some v ∧ Fz H v d
  | _, _, .nil, _, _, e => by simp at e
  | _, _, .cons h q, 0, d, e => ⟨_, rfl, by simp at e; subst e; exact h⟩
  | _, _, .cons h q, i + 1, d, e => by
    obtain ⟨v, e1, f⟩ := q.get_d (i := i) (d := d) (by simpa using e)
    exact ⟨v, by simpa using e1, f⟩
theorem Fzs.ints : ∀ {vs : List V} {is : List Int}, Fzs H vs (is.map PyData.int) → vs = is.map V.int
  | _, [], h => by cases h; rfl
  | _, i :: is, h => by
    cases h with
    | cons a b => rw [a.int_inv, b.ints]; rfl
theorem Fzs.of_ints : ∀ (is : List Int), Fzs H (is.map V.int) (is.map PyData.int)
  | [] => .nil
  | i :: is => .cons (.int i) (Fzs.of_ints is)
end
/-! ### drawing goes on: all but the drawn state is as it was, and so many numbers were drawn at most -/
structure Pr (m c g : Addr) (H0 H : Hp) (B : Int) : Prop where
  dr : ∃ n, n ≤ B ∧ Dr H m c g n
  but : But m g H0 H
section
variable {m c g : Addr} {H0 H H1 H2 : Hp} {B B' : Int}
theorem Pr.old (p : Pr m c g H0 H B) {b : Addr} (n : H b = none) : H0 b = none := by
  obtain ⟨k, _, d⟩ := p.dr
  obtain ⟨l, _, hg⟩ := d.great
  have hm := d.dict
  cases h : H0 b with
  | none => rfl
  | some o =>
    have nm : b ≠ m := fun e => by subst e; rw [n] at hm; exact absurd hm (by simp)
    have ng : b ≠ g := fun e => by subst e; rw [n] at hg; exact absurd hg (by simp)
    exact absurd (p.but _ _ nm ng h) (by rw [n]; simp)
theorem Dr.upd {n : Int} {p : Addr} {o : HO} (d : Dr H m c g n) (h1 : p ≠ m) (h2 : p ≠ c) (h3 : p ≠ g) : Dr (upd H p o) m c g n := by
  obtain ⟨d1, ⟨l, hl, d2⟩, ⟨l', hl', d3⟩, d4, d5⟩ := d
  refine ⟨?_, ⟨l, hl, ?_⟩, ⟨l', hl', ?_⟩, d4, d5⟩
  · rw [upd_ne (Ne.symm h1)]; exact d1
  · rw [upd_ne (Ne.symm h2)]; exact d2
  · rw [upd_ne (Ne.symm h3)]; exact d3
theorem Dr.off {n : Int} {p : Addr} (d : Dr H m c g n) (h : H p = none) : p ≠ m ∧ p ≠ c ∧ p ≠ g := by
  obtain ⟨d1, ⟨l, hl, d2⟩, ⟨l', hl', d3⟩, d4, d5⟩ := d
  refine ⟨fun e => ?_, fun e => ?_, fun e => ?_⟩
  · subst e; rw [h] at d1; exact absurd d1 (by simp)
  · subst e; rw [h] at d2; exact absurd d2 (by simp)
  · subst e; rw [h] at d3; exact absurd d3 (by simp)
theorem Pr.refl {n : Int} (d : Dr H m c g n) (h : n ≤ B) : Pr m c g H H B := ⟨⟨n, h, d⟩, But.refl⟩
/-- something new, or something made since, is written -/
theorem Pr.put (p : Pr m c g H0 H B) {b : Addr} {o : HO} (n : H0 b = none) (h1 : b ≠ m) (h2 : b ≠ c) (h3 : b ≠ g) : Pr m c g H0 (upd H b o) B := by
  obtain ⟨⟨k, hk, d⟩, q⟩ := p
  refine ⟨⟨k, hk, d.upd h1 h2 h3⟩, fun a u n1 n2 h => ?_⟩
  have : a ≠ b := fun e => by subst e; rw [n] at h; exact absurd h (by simp)
  rw [upd_ne this]; exact q _ _ n1 n2 h
theorem Pr.new (p : Pr m c g H0 H B) {b : Addr} {o : HO} (n : H b = none) : Pr m c g H0 (upd H b o) B := by
  obtain ⟨k, _, d⟩ := p.dr
  obtain ⟨h1, h2, h3⟩ := d.off n
  exact p.put (p.old n) h1 h2 h3
theorem Pr.trans (p : Pr m c g H0 H B) (q : Pr m c g H H1 B') : Pr m c g H0 H1 B' := ⟨q.dr, p.but.trans q.but⟩
theorem Pr.le (p : Pr m c g H0 H B) (h : B ≤ B') : Pr m c g H0 H B' := by
  obtain ⟨⟨k, hk, d⟩, q⟩ := p
  exact ⟨⟨k, by omega, d⟩, q⟩
theorem Pr.self (p : Pr m c g H0 H B) : Pr m c g H H B := ⟨p.dr, But.refl⟩
theorem Pr.keep (p : Pr m c g H0 H B) {b : Addr} {o : HO} (h : H0 b = some o) (n1 : b ≠ m) (n2 : b ≠ g) : H b = some o := p.but _ _ n1 n2 h
theorem Pr.tk (p : Pr m c g H0 H B) (q : Pr m c g H0 H0 B') : Tk H0 H := fun b xs h => by
  obtain ⟨k, _, d⟩ := q.dr
  obtain ⟨l, _, hg⟩ := d.great
  have hm := d.dict
  refine p.but _ _ (fun e => ?_) (fun e => ?_) h
  · subst e; rw [h] at hm; exact absurd hm (by simp)
  · subst e; rw [h] at hg; exact absurd hg (by simp)
theorem Pr.ne (p : Pr m c g H0 H B) {b : Addr} (n : H0 b = none) {B' : Int} (q : Pr m c g H0 H0 B') : b ≠ m ∧ b ≠ c ∧ b ≠ g := by
  obtain ⟨k, _, d⟩ := q.dr
  exact d.off n
end
/-- a number is drawn -/
def spDraw' : Sp := fun vs H Q _ => ∃ (m c g : Addr) (B top : Int), vs = [.ref m, .int top] ∧ Pr m c g H H B ∧ B < 2 ^ 29 ∧ (0 < top ∧ top < 1073741824) ∧
  ∀ (k : Int) (H' : Hp), 0 ≤ k → k < top → Pr m c g H H' (B + 1) → Q (.int k) H'
end WL
set_option Elab.async false
set_option linter.all false
set_option maxRecDepth 100000
set_option maxHeartbeats 4000000
namespace WL
open PySem PySem.Spec PyProof.Rows L2
/-- for n, x in enumerate(xs) -/
theorem for_enum {K : PySem.W.Frag} {a : Addr} {xs : List V} {g : TG} {tb : TS} {D : Ends} {σ : L2.St} {H : Hp} (Pv : Nat → L2.St → Hp → Prop) (h0 : Pv 0 σ H) (hl : ∀ i σ H, i ≤ xs.length → Pv i σ H → SqL K H a xs)
    (hs : ∀ (i : Nat) (x : V) (T : Addr) (σ : L2.St) (H : Hp), xs[i]? = some x → Pv i σ H → H T = none → g (.ref T) σ (upd H T (.tup [.int (i : Nat), x])) fun σ2 H2 => tb { D with nx := Pv (i + 1), ct := Pv (i + 1), bk := D.nx } σ2 H2) (hd : ∀ σ H, Pv xs.length σ H → D.nx σ H) :
    ∃ W : Nat → Nat → L2.St → Hp → Prop, (∃ m, W 0 m σ H) ∧ ∀ i m σ H, W i m σ H → ((Ite K a).stop i H ∧ D.nx σ H) ∨ ((Ite K a).go i H ∧ ∃ N : L2.St → Hp → Prop, (∀ σ' H', N σ' H' → ∃ m', m' < m ∧ W (i + 1) m' σ' H') ∧
      ∀ x H', (Ite K a).yld i H x H' → g x σ H' fun σ2 H2 => tb { D with nx := N, ct := N, bk := D.nx } σ2 H2) := by
  refine ⟨fun i m σ H => i ≤ xs.length ∧ m = xs.length - i ∧ Pv i σ H, ⟨_, Nat.zero_le _, rfl, h0⟩, ?_⟩
  intro i m σ H ⟨hi, hm, hp⟩
  have hS := hl i σ H hi hp
  by_cases e : i = xs.length
  · subst e
    exact Or.inl ⟨⟨xs, hS, Nat.le_refl _⟩, hd _ _ hp⟩
  · have hlt : i < xs.length := by omega
    refine Or.inr ⟨⟨xs, xs[i], hS, by simp [hlt]⟩, Pv (i + 1), fun σ' H' h => ⟨xs.length - (i + 1), by omega, by omega, rfl, h⟩, ?_⟩
    intro v H' hy
    obtain ⟨T, x, e1, hT, e2, hx⟩ := hy
    subst e1; subst e2
    exact hs i x T σ H (hx xs hS) hp hT
/-! ### places -/
theorem ixN_at {n : Nat} {i : Int} (h0 : 0 ≤ i) (h : i < n) : ixN n i = some i.toNat := by
  unfold ixN
  rw [if_pos h0, if_pos h]
theorem atI_at {α : Type} {xs : List α} {i : Int} {v : α} (h0 : 0 ≤ i) (h : xs[i.toNat]? = some v) : atI xs i = some v := by
  have hl : i.toNat < xs.length := by
    rcases Nat.lt_or_ge i.toNat xs.length with q | q
    · exact q
    · rw [List.getElem?_eq_none q] at h; exact absurd h (by simp)
  unfold atI
  rw [ixN_at h0 (by omega)]
  exact h
theorem atI_nat {α : Type} {xs : List α} {i : Nat} {v : α} (h : xs[i]? = some v) : atI xs (i : Int) = some v := atI_at (by omega) (by simpa using h)
section
variable {σ : L2.St} {H : Hp} {Q : VK} {D : Ends} {K : PySem.W.Frag}
theorem g_asg {te : TE} {g : TG} (h : te σ H fun x H1 => g x σ H1 D.nx) : tAsg te g D σ H := h
theorem g_name {i : Nat} {v : V} {Q : L2.St → Hp → Prop} (h : Q (σ.set i (some v)) H) : gName i v σ H Q := h
theorem g_sub {to ti : TE} {t : TSet} {v : V} {Q : L2.St → Hp → Prop} (h : to σ H fun o H1 => ti σ H1 fun i H2 => t o i v H2 fun H3 => Q σ H3) : gSub to ti t v σ H Q := h
theorem g_tupg {n : Nat} {t : TGs} {a : Addr} {xs : List V} {Q : L2.St → Hp → Prop} (h1 : SqT K H a xs) (h2 : xs.length = n) (h3 : t xs σ H Q) : gTup K n t (.ref a) σ H Q := ⟨a, xs, rfl, h1, h2, h3⟩
theorem g_ixL {p : Addr} {xs : List V} {i : Int} {v : V} (h1 : SqL K H p xs) (h2 : atI xs i = some v) (h : Q v H) : rIxL K (.ref p) (.int i) H Q := ⟨p, xs, i, v, rfl, rfl, h1, h2, h⟩
theorem g_ixT {p : Addr} {xs : List V} {i : Int} {v : V} (h1 : SqT K H p xs) (h2 : atI xs i = some v) (h : Q v H) : rIxT K (.ref p) (.int i) H Q := ⟨p, xs, i, v, rfl, rfl, h1, h2, h⟩
theorem g_setL {p : Addr} {xs : List V} {i : Int} {v : V} {Q : Hp → Prop} (h1 : H p = some (.lst xs)) (h0 : 0 ≤ i) (h2 : i < xs.length) (h : Q (upd H p (.lst (xs.set i.toNat v)))) : rSetL (.ref p) (.int i) v H Q := ⟨p, xs, i, i.toNat, rfl, rfl, h1, ixN_at h0 h2, h⟩
theorem g_app {p : Addr} {xs : List V} {v : V} (h1 : H p = some (.lst xs)) (h2 : xs.length < sizeLine) (h : Q .non (upd H p (.lst (xs ++ [v])))) : rAppend (.ref p) [v] H Q := ⟨p, xs, v, rfl, rfl, h1, h2, h⟩
theorem g_eqD {x y : V} {d e : PyData} (h1 : Dp K H x d) (h2 : Dp K H y e) (s1 : SeqAt.shaped d = true) (s2 : SeqAt.shaped e = true) (h : Q (.bl (d.eqv e)) H) : rEqD K x y H Q := ⟨d, e, h1, h2, s1, s2, h⟩
theorem g_neD {x y : V} {d e : PyData} (h1 : Dp K H x d) (h2 : Dp K H y e) (s1 : SeqAt.shaped d = true) (s2 : SeqAt.shaped e = true) (h : Q (.bl (!d.eqv e)) H) : rNeD K x y H Q := ⟨d, e, h1, h2, s1, s2, h⟩
theorem g_isNon {x : V} (h : Q (.bl (decide (x = .non))) H) : (V.non = .non ∧ Q (.bl (decide (x = .non))) H) := ⟨rfl, h⟩
theorem g_notNon {x : V} (h : Q (.bl (!decide (x = .non))) H) : (V.non = .non ∧ Q (.bl (!decide (x = .non))) H) := ⟨rfl, h⟩
theorem g_rng1 {ta : TA} {R : It → Hp → Prop} (h : ta σ H fun vs H1 => ∃ j, vs = [V.int j] ∧ -2 ^ 62 ≤ j ∧ j < 2 ^ 62 ∧ R (Itr 0 j.toNat) H1) : iRng1 ta σ H R := h
theorem g_rng2 {ta : TA} {R : It → Hp → Prop} (h : ta σ H fun vs H1 => ∃ i j, vs = [V.int i, V.int j] ∧ (-2 ^ 62 ≤ i ∧ i < 2 ^ 62 ∧ -2 ^ 62 ≤ j ∧ j < 2 ^ 62) ∧ R (Itr i (j - i).toNat) H1) : iRng2 ta σ H R := h
theorem g_one {j : Int} {P : Int → Prop} (h1 : -2 ^ 62 ≤ j ∧ j < 2 ^ 62) (h : P j) : ∃ k, [V.int j] = [V.int k] ∧ -2 ^ 62 ≤ k ∧ k < 2 ^ 62 ∧ P k := ⟨j, rfl, h1.1, h1.2, h⟩
theorem g_twoI {i j : Int} {P : Int → Int → Prop} (h1 : -2 ^ 62 ≤ i ∧ i < 2 ^ 62 ∧ -2 ^ 62 ≤ j ∧ j < 2 ^ 62) (h : P i j) : ∃ k l, [V.int i, V.int j] = [V.int k, V.int l] ∧ (-2 ^ 62 ≤ k ∧ k < 2 ^ 62 ∧ -2 ^ 62 ≤ l ∧ l < 2 ^ 62) ∧ P k l := ⟨i, j, rfl, h1, h⟩
theorem g_dget {td ty : TE} (h : td σ H fun x H1 => ty σ H1 fun y H2 => ∃ a v, x = V.ref a ∧ DGet H2 a y (some v) ∧ Q v H2) : tDGet td ty σ H Q := h
theorem g_dg {a : Addr} {x : Str} {v : V} {kvs : List (Key × V)} (h1 : H a = some (.dK kvs)) (h2 : valV kvs (Sum.inr x) = some v) {P : V → Prop} (h : P v) : ∃ a' v', V.ref a = V.ref a' ∧ DGet H a' (.str x) (some v') ∧ P v' :=
  ⟨a, v, rfl, Or.inl ⟨kvs, Sum.inr x, Or.inl h1, rfl, h2.symm⟩, h⟩
theorem g_dput {td ty tv : TE} (h : tv σ H fun v H1 => td σ H1 fun x H2 => ty σ H2 fun y H3 => ∃ a H4, x = V.ref a ∧ DPut H3 a y v H4 ∧ D.nx σ H4) : sDPut td ty tv D σ H := h
theorem g_dp {a : Addr} {x : Str} {v : V} {kvs : List (Key × V)} (h1 : H a = some (.dK kvs)) (h2 : kvs.length < sizeLine) {P : Hp → Prop} (h : P (upd H a (.dK (putK kvs (Sum.inr x) v)))) : ∃ a' H', V.ref a = V.ref a' ∧ DPut H a' (.str x) v H' ∧ P H' :=
  ⟨a, _, rfl, Or.inl ⟨kvs, Sum.inr x, h1, rfl, h2, rfl⟩, h⟩
theorem g_len {p : Addr} {xs : List V} {P : Addr → List V → Prop} (h1 : SqL K H p xs ∨ SqT K H p xs) (h : P p xs) : ∃ p' ys, [V.ref p] = [V.ref p'] ∧ (SqL K H p' ys ∨ SqT K H p' ys) ∧ P p' ys := ⟨p, xs, rfl, h1, h⟩
theorem g_tupOfL {p : Addr} {xs : List V} {P : Addr → List V → Prop} {R : Addr → Prop} (h1 : SqL K H p xs) (h : P p xs) : ∃ p' ys, [V.ref p] = [V.ref p'] ∧ ((SqL K H p' ys ∧ P p' ys) ∨ SqT K H p' ys ∧ R p') := ⟨p, xs, rfl, Or.inl ⟨h1, h⟩⟩
theorem g_tupOfT {p : Addr} {xs : List V} {P : Addr → List V → Prop} {R : Addr → Prop} (h1 : SqT K H p xs) (h : R p) : ∃ p' ys, [V.ref p] = [V.ref p'] ∧ ((SqL K H p' ys ∧ P p' ys) ∨ SqT K H p' ys ∧ R p') := ⟨p, xs, rfl, Or.inr ⟨h1, h⟩⟩
theorem g_lstOf {p : Addr} {xs : List V} {P : Addr → List V → Prop} (h1 : SqL K H p xs ∨ SqT K H p xs) (h : P p xs) : ∃ p' ys, [V.ref p] = [V.ref p'] ∧ (SqL K H p' ys ∨ SqT K H p' ys) ∧ P p' ys := ⟨p, xs, rfl, h1, h⟩
theorem g_yes {Q : Bool → Hp → Prop} (h : Q true H) : tYes σ H Q := h
theorem g_gnil {Q : L2.St → Hp → Prop} (h : Q σ H) : gNil [] σ H Q := ⟨rfl, h⟩
theorem g_gcons {t : TG} {u : TGs} {v : V} {vs : List V} {Q : L2.St → Hp → Prop} (h : t v σ H fun σ' H' => u vs σ' H' Q) : gCons t u (v :: vs) σ H Q := ⟨v, vs, rfl, h⟩
end
/-! ### loops, from what is walked on -/
def LcQ (g : TG) (tt : TT) (te : TE) (vs : List Nat) (σ : L2.St) (Q : VK) (J : It) (H1 : Hp) : Prop :=
  ∀ D : Addr, H1 D = none → ∃ W : Nat → Nat → Hp → Prop, (∃ m, W 0 m (upd H1 D (.lst []))) ∧ ∀ i m H, W i m H → (J.stop i H ∧ Q (.ref D) H) ∨ (J.go i H ∧ ∃ Nx : Hp → Prop, (∀ H', Nx H' → ∃ m', m' < m ∧ W (i + 1) m' H') ∧
    ∀ x H', J.yld i H x H' → g x (wipe σ vs) H' fun σ2 H2 => wipe σ2 vs = wipe σ vs ∧ tt σ2 H2 fun b H3 => if b = true then te σ2 H3 fun y H4 => ∃ acc, H4 D = some (.lst acc) ∧ acc.length < sizeLine ∧ Nx (upd H4 D (.lst (acc ++ [y]))) else Nx H3)
def ForQ (g : TG) (tb : TS) (D : Ends) (σ : L2.St) (J : It) (H1 : Hp) : Prop :=
  ∃ W : Nat → Nat → L2.St → Hp → Prop, (∃ m, W 0 m σ H1) ∧ ∀ i m σ H, W i m σ H → (J.stop i H ∧ D.nx σ H) ∨ (J.go i H ∧ ∃ N : L2.St → Hp → Prop, (∀ σ' H', N σ' H' → ∃ m', m' < m ∧ W (i + 1) m' σ' H') ∧
    ∀ x H', J.yld i H x H' → g x σ H' fun σ2 H2 => tb { D with nx := N, ct := N, bk := D.nx } σ2 H2)
section
variable {σ : L2.St} {H H1 : Hp} {Q : VK} {D : Ends} {K : PySem.W.Frag} {g : TG} {tt : TT} {te : TE} {vs : List Nat} {tb : TS} {wi : TI}
theorem g_lc (h : wi σ H (LcQ g tt te vs σ Q)) : tLc wi g tt te vs σ H Q := h
theorem g_for (h : wi σ H (ForQ g tb D σ)) : tFor wi g tb D σ H := h
theorem g_and {α : Type} {a : α} {P : Prop} (h : P) : a = a ∧ P := ⟨rfl, h⟩
theorem g_ift {A B : Prop} (h : A) : if true = true then A else B := by rw [if_pos rfl]; exact h
theorem g_iff {A B : Prop} (h : B) : if false = true then A else B := by rw [if_neg (by decide)]; exact h
theorem g_tt {A B : Prop} (h : A) : if (true : Bool) = true then A else B := by rw [if_pos rfl]; exact h
theorem LcQ.range {lo : Int} {n : Nat} (I : Addr → Nat → Hp → Prop) (h0 : ∀ D, H1 D = none → I D 0 (upd H1 D (.lst [])))
    (hs : ∀ D, H1 D = none → ∀ i H, i < n → I D i H → g (.int (lo + (i : Nat))) (wipe σ vs) H fun σ2 H2 => wipe σ2 vs = wipe σ vs ∧ tt σ2 H2 fun b H3 => if b = true then te σ2 H3 fun y H4 => ∃ acc, H4 D = some (.lst acc) ∧ acc.length < sizeLine ∧ I D (i + 1) (upd H4 D (.lst (acc ++ [y]))) else I D (i + 1) H3)
    (hd : ∀ D, H1 D = none → ∀ H, I D n H → Q (.ref D) H) : LcQ g tt te vs σ Q (Itr lo n) H1 :=
  fun D nD => lc_range (I D) (h0 D nD) (hs D nD) (hd D nD)
theorem LcQ.list {a : Addr} {xs : List V} (I : Addr → Nat → Hp → Prop) (h0 : ∀ D, H1 D = none → I D 0 (upd H1 D (.lst [])))
    (hl : ∀ D, H1 D = none → ∀ i H, i ≤ xs.length → I D i H → SqL K H a xs)
    (hs : ∀ D, H1 D = none → ∀ (i : Nat) x H, xs[i]? = some x → I D i H → g x (wipe σ vs) H fun σ2 H2 => wipe σ2 vs = wipe σ vs ∧ tt σ2 H2 fun b H3 => if b = true then te σ2 H3 fun y H4 => ∃ acc, H4 D = some (.lst acc) ∧ acc.length < sizeLine ∧ I D (i + 1) (upd H4 D (.lst (acc ++ [y]))) else I D (i + 1) H3)
    (hd : ∀ D, H1 D = none → ∀ H, I D xs.length H → Q (.ref D) H) : LcQ g tt te vs σ Q (Itl K a) H1 :=
  fun D nD => lc_list (I D) (h0 D nD) (hl D nD) (hs D nD) (hd D nD)
theorem ForQ.range {lo : Int} {n : Nat} (I : Nat → L2.St → Hp → Prop) (h0 : I 0 σ H1)
    (hs : ∀ i σ H, i < n → I i σ H → g (.int (lo + (i : Nat))) σ H fun σ2 H2 => tb { D with nx := I (i + 1), ct := I (i + 1), bk := D.nx } σ2 H2) (hd : ∀ σ H, I n σ H → D.nx σ H) : ForQ g tb D σ (Itr lo n) H1 := for_range I h0 hs hd
theorem ForQ.list {a : Addr} {xs : List V} (I : Nat → L2.St → Hp → Prop) (h0 : I 0 σ H1) (hl : ∀ i σ H, i ≤ xs.length → I i σ H → SqL K H a xs)
    (hs : ∀ (i : Nat) x σ H, xs[i]? = some x → I i σ H → g x σ H fun σ2 H2 => tb { D with nx := I (i + 1), ct := I (i + 1), bk := D.nx } σ2 H2) (hd : ∀ σ H, I xs.length σ H → D.nx σ H) : ForQ g tb D σ (Itl K a) H1 := for_list I h0 hl hs hd
theorem ForQ.tup {a : Addr} {xs : List V} (I : Nat → L2.St → Hp → Prop) (h0 : I 0 σ H1) (hl : ∀ i σ H, i ≤ xs.length → I i σ H → SqT K H a xs)
    (hs : ∀ (i : Nat) x σ H, xs[i]? = some x → I i σ H → g x σ H fun σ2 H2 => tb { D with nx := I (i + 1), ct := I (i + 1), bk := D.nx } σ2 H2) (hd : ∀ σ H, I xs.length σ H → D.nx σ H) : ForQ g tb D σ (Itt K a) H1 := for_tup I h0 hl hs hd
theorem ForQ.enum {a : Addr} {xs : List V} (I : Nat → L2.St → Hp → Prop) (h0 : I 0 σ H1) (hl : ∀ i σ H, i ≤ xs.length → I i σ H → SqL K H a xs)
    (hs : ∀ (i : Nat) (x : V) (T : Addr) (σ : L2.St) (H : Hp), xs[i]? = some x → I i σ H → H T = none → g (.ref T) σ (upd H T (.tup [.int (i : Nat), x])) fun σ2 H2 => tb { D with nx := I (i + 1), ct := I (i + 1), bk := D.nx } σ2 H2) (hd : ∀ σ H, I xs.length σ H → D.nx σ H) : ForQ g tb D σ (Ite K a) H1 := for_enum I h0 hl hs hd
theorem g_enum {ta : TA} {R : It → Hp → Prop} (h : ta σ H fun vs H1 => ∃ a xs, vs = [.ref a] ∧ SqL K H1 a xs ∧ R (Ite K a) H1) : iEnum K ta σ H R := h
theorem g_list {tl : TE} {R : It → Hp → Prop} (h : tl σ H fun x H1 => ∃ a, x = V.ref a ∧ (∃ xs, SqL K H1 a xs) ∧ R (Itl K a) H1) : iList K tl σ H R := h
theorem g_lq {a : Addr} {xs : List V} {P : Addr → Prop} (h1 : SqL K H a xs) (h : P a) : ∃ a', V.ref a = V.ref a' ∧ (∃ xs, SqL K H a' xs) ∧ P a' := ⟨a, rfl, ⟨xs, h1⟩, h⟩
theorem g_oneL {a : Addr} {xs : List V} {P : Addr → Prop} (h1 : SqL K H a xs) (h : P a) : ∃ a' xs', [V.ref a] = [V.ref a'] ∧ SqL K H a' xs' ∧ P a' := ⟨a, xs, rfl, h1, h⟩
end
theorem SqL.same {K : PySem.W.Frag} {H H' : Hp} {a : Addr} {xs : List V} (h : SqL K H a xs) (s : ∀ b o, H b = some o → H' b = some o) : SqL K H' a xs := by
  rcases h with (h | ⟨o, h⟩) | h
  · exact Or.inl (Or.inl (s _ _ h))
  · exact Or.inl (Or.inr ⟨o, s _ _ h⟩)
  · exact Or.inr h
theorem SqT.same {K : PySem.W.Frag} {H H' : Hp} {a : Addr} {xs : List V} (h : SqT K H a xs) (s : ∀ b o, H b = some o → H' b = some o) : SqT K H' a xs := by
  rcases h with (h | ⟨o, h⟩) | h
  · exact Or.inl (Or.inl (s _ _ h))
  · exact Or.inl (Or.inr ⟨o, s _ _ h⟩)
  · exact Or.inr h
theorem g_one' {K : PySem.W.Frag} {a : Addr} {xs : List V} {H : Hp} {P : Addr → Prop} (h1 : SqL K H a xs) (h : P a) : ∃ a' xs', [V.ref a] = [V.ref a'] ∧ SqL K H a' xs' ∧ P a' := ⟨a, xs, rfl, h1, h⟩
theorem Cells.get {l : List Int} (h : Cells l) {i : Nat} (hi : i < 64) : ∃ c, l[i]? = some c ∧ 0 ≤ c ∧ c < 2147483647 := by
  have hl : i < l.length := by rw [h.1]; exact hi
  exact ⟨l[i], by simp [hl], h.2 _ (List.getElem_mem hl)⟩
theorem Cells.set {l : List Int} (h : Cells l) (i : Nat) {c : Int} (h0 : 0 ≤ c) (h1 : c < 2147483647) : Cells (l.set i c) := by
  refine ⟨by rw [List.length_set]; exact h.1, fun x hx => ?_⟩
  rcases List.mem_or_eq_of_mem_set hx with q | q
  · exact h.2 _ q
  · subst q; exact ⟨h0, h1⟩
theorem map_set_int (l : List Int) (i : Nat) (c : Int) : (l.map V.int).set i (.int c) = (l.set i c).map V.int := by rw [List.map_set]
theorem map_get_int {l : List Int} {i : Nat} {c : Int} (h : l[i]? = some c) : (l.map V.int)[i]? = some (.int c) := by rw [List.getElem?_map, h]; rfl
theorem Dr.spot {H : Hp} {m c g : Addr} {n : Int} (d : Dr H m c g n) : H m = some (.dK [(Sum.inr "cells", .ref c), (Sum.inr "great", .ref g), (Sum.inr "spot", .int n)]) := d.dict
end WL
set_option Elab.async false
set_option linter.all false
set_option maxRecDepth 100000
set_option maxHeartbeats 4000000
namespace WL
open PySem PySem.Spec PyProof.Rows L2
/-! ### plain data: None, whole numbers, and lists and tuples of such, so many levels deep -/
def pl : Nat → PyData → Prop
  | _, .none => True
  | _, .int _ => True
  | n + 1, .list ds => ∀ d ∈ ds, pl n d
  | n + 1, .tuple ds => ∀ d ∈ ds, pl n d
  | _, _ => False
theorem pl_mono : ∀ {n : Nat} {d : PyData}, pl n d → pl (n + 1) d := by
  intro n
  induction n with
  | zero => intro d h; cases d <;> simp_all [pl]
  | succ n ih =>
    intro d h
    cases d with
    | none => simp [pl]
    | int i => simp [pl]
    | bool b => simp [pl] at h
    | str x => simp [pl] at h
    | dict kvs => simp [pl] at h
    | list ds => simp only [pl] at h ⊢; exact fun d hd => ih (h d hd)
    | tuple ds => simp only [pl] at h ⊢; exact fun d hd => ih (h d hd)
theorem all_lay : ∀ (ds : List PyData), (∀ d ∈ ds, d.canLay0 = true) → PyData.canLayAll0 ds = true
  | [], _ => rfl
  | d :: ds, h => by
    show (PyData.canLay0 d && PyData.canLayAll0 ds) = true
    rw [h d (by simp), all_lay ds (fun e he => h e (by simp [he]))]; rfl
theorem all_depth {n : Nat} : ∀ (ds : List PyData), (∀ d ∈ ds, d.depth ≤ n) → PyData.depthAll ds ≤ n
  | [], _ => by rw [PyData.depthAll.eq_1]; omega
  | d :: ds, h => by
    rw [PyData.depthAll.eq_2]
    have h1 := h d (by simp)
    have h2 := all_depth ds (fun e he => h e (by simp [he]))
    omega
theorem pl_lay : ∀ {n : Nat} {d : PyData}, pl n d → d.canLay0 = true ∧ d.depth ≤ n := by
  intro n
  induction n with
  | zero => 
    intro d h
    cases d <;> simp [pl] at h
    · exact ⟨rfl, by rw [PyData.depth.eq_4] <;> simp⟩
    · exact ⟨rfl, by rw [PyData.depth.eq_6]; omega⟩
  | succ n ih =>
    intro d h
    cases d with
    | none => exact ⟨rfl, by rw [PyData.depth.eq_4]; omega⟩
    | int i => exact ⟨rfl, by rw [PyData.depth.eq_6]; omega⟩
    | bool b => simp [pl] at h
    | str x => simp [pl] at h
    | dict kvs => simp [pl] at h
    | list ds =>
      simp only [pl] at h
      refine ⟨all_lay ds (fun e he => (ih (h e he)).1), ?_⟩
      have := all_depth ds (fun e he => (ih (h e he)).2)
      rw [PyData.depth.eq_1]; omega
    | tuple ds =>
      simp only [pl] at h
      refine ⟨all_lay ds (fun e he => (ih (h e he)).1), ?_⟩
      have := all_depth ds (fun e he => (ih (h e he)).2)
      rw [PyData.depth.eq_2]; omega
theorem pl_shaped {n : Nat} {d : PyData} (h : pl n d) (hn : n ≤ 64) : SeqAt.shaped d = true := by
  obtain ⟨a, b⟩ := pl_lay h
  unfold SeqAt.shaped
  rw [a, Bool.true_and]
  exact decide_eq_true (by omega)
theorem eqvAll_iff : ∀ (ds es : List PyData), (∀ d ∈ ds, ∀ e ∈ es, (d.eqv e = true ↔ d = e)) → (PyData.eqvAll ds es = true ↔ ds = es)
  | [], [], _ => by simp [PyData.eqvAll.eq_1]
  | [], e :: es, _ => by simp [PyData.eqvAll.eq_3]
  | d :: ds, [], _ => by
    have : PyData.eqvAll (d :: ds) [] = false := rfl
    simp [this]
  | d :: ds, e :: es, h => by
    rw [PyData.eqvAll.eq_2, Bool.and_eq_true, h d (by simp) e (by simp), eqvAll_iff ds es (fun a ha b hb => h a (by simp [ha]) b (by simp [hb]))]
    simp
theorem pl_eqv : ∀ {n : Nat} {d e : PyData}, pl n d → pl n e → (d.eqv e = true ↔ d = e) := by
  intro n
  induction n with
  | zero =>
    intro d e h1 h2
    cases d <;> simp [pl] at h1 <;> cases e <;> simp [pl] at h2
    · simp [PyData.eqv.eq_1]
    · have : ∀ i : Int, PyData.none.eqv (.int i) = false := fun _ => rfl
      simp [this]
    · have : ∀ i : Int, (PyData.int i).eqv .none = false := fun _ => rfl
      simp [this]
    · simp [PyData.eqv.eq_5]
  | succ n ih =>
    intro d e h1 h2
    cases d with
    | bool b => simp [pl] at h1
    | str x => simp [pl] at h1
    | dict kvs => simp [pl] at h1
    | none => cases e <;> first | (simp [pl] at h2; done) | (simp [PyData.eqv.eq_1]; done) | (exact ⟨fun h => absurd (show false = true from h) (by decide), fun h => by cases h⟩)
    | int i => cases e <;> first | (simp [pl] at h2; done) | (simp [PyData.eqv.eq_5]; done) | (exact ⟨fun h => absurd (show false = true from h) (by decide), fun h => by cases h⟩)
    | list ds =>
      simp only [pl] at h1
      cases e with
      | list es =>
        simp only [pl] at h2
        rw [PyData.eqv.eq_7, eqvAll_iff ds es (fun a ha b hb => ih (h1 a ha) (h2 b hb))]
        simp
      | _ => first | (simp [pl] at h2; done) | (exact ⟨fun h => absurd (show false = true from h) (by decide), fun h => by cases h⟩)
    | tuple ds =>
      simp only [pl] at h1
      cases e with
      | tuple es =>
        simp only [pl] at h2
        rw [PyData.eqv.eq_8, eqvAll_iff ds es (fun a ha b hb => ih (h1 a ha) (h2 b hb))]
        simp
      | _ => first | (simp [pl] at h2; done) | (exact ⟨fun h => absurd (show false = true from h) (by decide), fun h => by cases h⟩)
theorem pl_ints (l : List Int) : pl 1 (.list (l.map PyData.int)) := by
  simp only [pl]
  intro d hd
  obtain ⟨i, _, rfl⟩ := List.mem_map.mp hd
  simp [pl]
theorem pl_intsT (l : List Int) : pl 1 (.tuple (l.map PyData.int)) := by
  simp only [pl]
  intro d hd
  obtain ⟨i, _, rfl⟩ := List.mem_map.mp hd
  simp [pl]
section
variable {K : PySem.W.Frag} {H : Hp}
theorem dps_ints : ∀ (l : List Int), DpAll K H (l.map V.int) (l.map PyData.int)
  | [] => .nil
  | i :: l => .cons (.int i) (dps_ints l)
theorem dp_ints {a : Addr} {l : List Int} (h : SqL K H a (l.map V.int)) : Dp K H (.ref a) (.list (l.map PyData.int)) := .lst h (dps_ints l)
theorem dp_nilL {a : Addr} (h : SqL K H a []) : Dp K H (.ref a) (.list []) := .lst h .nil
theorem dp_nilT {a : Addr} (h : SqT K H a []) : Dp K H (.ref a) (.tuple []) := .tup h .nil
end
theorem room1 {k : Nat} {A : Around} (h : Room k A) : A.units + 1 < cLine := by have := h.units; omega
/-- the state after a put at "spot" -/
theorem g_spot {H : Hp} {m c g : Addr} {n : Int} {k : Int} (d : Dr H m c g n) {P : Hp → Prop} (h : ∀ H1, H1 = upd H m (.dK [(Sum.inr "cells", .ref c), (Sum.inr "great", .ref g), (Sum.inr "spot", .int k)]) → P H1) :
    ∃ a' H', V.ref m = V.ref a' ∧ DPut H a' (.str "spot") (.int k) H' ∧ P H' :=
  ⟨m, _, rfl, Or.inl ⟨_, Sum.inr "spot", d.dict, rfl, by show (3 : Nat) < sizeLine; decide, rfl⟩, h _ rfl⟩
theorem pl_nilL : pl 1 (.list []) := by simp [pl]
theorem pl_nilT : pl 1 (.tuple []) := by simp [pl]
section
variable {σ : L2.St} {H : Hp}
theorem g_disp {trs : List (TE × TE)} {Q : VK} (h : ∀ p, H p = none → tPairs trs σ (upd H p (.dK [])) fun ps H2 => H2 p = some (.dK []) ∧ ∃ kvs, ps = List.map (fun kv => (kV kv.fst, kv.snd)) kvs ∧ kvs.length ≤ 15 ∧ Q (.ref p) (upd H2 p (.dK (mergeK [] kvs)))) : tDisp trs σ H Q := h
theorem g_pcons {tk tv : TE} {r : List (TE × TE)} {Q : List (V × V) → Hp → Prop} (h : tk σ H fun x H1 => tv σ H1 fun y H2 => tPairs r σ H2 fun ps H3 => Q ((x, y) :: ps) H3) : tPairs ((tk, tv) :: r) σ H Q := h
theorem g_pnil {Q : List (V × V) → Hp → Prop} (h : Q [] H) : tPairs [] σ H Q := h
theorem g_lst' {t : TA} {Q : VK} (h : t σ H fun xs H1 => xs.length ≤ sizeLine ∧ ∀ p, H1 p = none → Q (.ref p) (upd H1 p (.lst xs))) : tLst t σ H Q := h
end
abbrev drK (c g : Addr) (n : Int) : List (Key × V) := [(Sum.inr "cells", .ref c), (Sum.inr "great", .ref g), (Sum.inr "spot", .int n)]
theorem merge_dr (c g : Addr) (n : Int) : mergeK [] (drK c g n) = drK c g n := rfl
theorem len_dr (c g : Addr) (n : Int) : (drK c g n).length ≤ 15 := by show 3 ≤ 15; decide
def spBegun (K : PySem.W.Frag) : Sp := fun vs H Q _ => ∃ (a : Addr) (ns : List Int), vs = [.ref a] ∧ SqL K H a (ns.map V.int) ∧ ns.length ≤ 63 ∧
  ∀ (m c g : Addr) (H' : Hp), Dr H' m c g 0 → (∀ b o, H b = some o → H' b = some o) → Q (.ref m) H'
end WL
set_option Elab.async false
set_option linter.all false
set_option maxRecDepth 100000
set_option maxHeartbeats 4000000
namespace WL
open PySem PySem.Spec PyProof.Rows L2
theorem sz {n : Nat} (h : n ≤ 100000) : n ≤ sizeLine := Nat.le_trans h (by decide)
theorem szl {n : Nat} (h : n ≤ 100000) : n < sizeLine := Nat.lt_of_le_of_lt h (by decide)
theorem g_tup' {σ : L2.St} {H : Hp} {t : TA} {Q : VK} (h : t σ H fun xs H1 => xs.length ≤ sizeLine ∧ ∀ p, H1 p = none → Q (.ref p) (upd H1 p (.tup xs))) : tTup t σ H Q := h
theorem g_bmL {K : PySem.W.Frag} {σ : L2.St} {H : Hp} {t : TA} {Q : VK} {p : Addr} {i : Nat} {xs : List V} {r : V → List V → Hp → VK → Prop} (e : σ[i]? = some (some (.ref p))) (h1 : H p = some (.lst xs)) (h : t σ H fun ys H2 => r (.ref p) ys H2 Q) : tBM K "list" r (tVar i) t σ H Q :=
  ⟨_, e, Or.inl ⟨rfl, xs, SqL.of h1⟩, h⟩
theorem g_ixPick {K : PySem.W.Frag} {H : Hp} {Q : VK} {p : Addr} {xs : List V} {i : Int} (h1 : SqL K H p xs) (h0 : 0 ≤ i) (h2 : i < xs.length) (h : ∀ v ∈ xs, Q v H) : rIxL K (.ref p) (.int i) H Q := by
  have hl : i.toNat < xs.length := by omega
  exact g_ixL h1 (atI_at (v := xs[i.toNat]) h0 (by simp [hl])) (h _ (List.getElem_mem hl))
/-! ### nothing new but tuples -/
inductive Nt (H : Hp) : Hp → Prop
  | refl : Nt H H
  | new {H' : Hp} {p : Addr} {xs : List V} : Nt H H' → H' p = none → Nt H (upd H' p (.tup xs))
theorem Nt.same {H H' : Hp} (h : Nt H H') : ∀ b o, H b = some o → H' b = some o := by
  induction h with
  | refl => exact fun _ _ h => h
  | new _ n ih => intro b o h; rw [upd_ne (ne_of_none (ih b o h) n)]; exact ih b o h
theorem Nt.tk {H H' : Hp} (h : Nt H H') : Tk H H' := Tk.same h.same
theorem Nt.trans {H H1 H2 : Hp} (a : Nt H H1) (b : Nt H1 H2) : Nt H H2 := by
  induction b with
  | refl => exact a
  | new _ n ih => exact .new ih n
theorem Nt.pr {m c g : Addr} {H0 H H' : Hp} {B : Int} (p : Pr m c g H0 H B) (h : Nt H H') : Pr m c g H0 H' B := by
  induction h with
  | refl => exact p
  | new _ n ih => exact ih.new n
theorem g_slA {K : PySem.W.Frag} {H : Hp} {Q : VK} {a : Addr} {xs : List V} {lo hi : Option Int} (h : H a = some (.tup xs)) (q : ∀ a' H', Nt H H' → H' a' = some (.tup (cutV xs lo hi)) → Q (.ref a') H') : rSlA K (.ref a) lo hi H Q := by
  refine ⟨a, xs, rfl, SqT.of h, fun e => q a H .refl ?_, fun _ p np => q p _ (.new .refl np) upd_same⟩
  rw [h]
  unfold cutV
  rw [e.1, e.2]
  simp
theorem g_catA {K : PySem.W.Frag} {H : Hp} {Q : VK} {a b : Addr} {xs ys : List V} (h1 : H a = some (.tup xs)) (h2 : H b = some (.tup ys)) (hl : xs.length + ys.length ≤ 100000) (q : ∀ a' H', Nt H H' → H' a' = some (.tup (xs ++ ys)) → Q (.ref a') H') : rCatA K (.ref a) (.ref b) H Q := by
  refine ⟨a, b, xs, ys, rfl, rfl, SqT.of h1, SqT.of h2, sz hl, fun e => q b H .refl ?_, fun _ e => q a H .refl ?_, fun _ _ p np => q p _ (.new .refl np) upd_same⟩
  · rw [h2, e]; rfl
  · rw [h1, e, List.append_nil]
theorem g_tupN {σ : L2.St} {H : Hp} {t : TA} {Q : VK} (h : t σ H fun xs H1 => xs.length ≤ 100000 ∧ ∀ p H', Nt H1 H' → H' p = some (.tup xs) → Q (.ref p) H') (mt : ∀ (P P' : List V → Hp → Prop), (∀ xs H, P xs H → P' xs H) → t σ H P → t σ H P') : tTup t σ H Q :=
  mt _ _ (fun xs H1 ⟨h1, h2⟩ => ⟨sz h1, fun p np => h2 p _ (.new .refl np) upd_same⟩) h
theorem cut_take (xs : List V) {i : Int} (h0 : 0 ≤ i) : cutV xs none (some i) = xs.take i.toNat := by
  unfold cutV HT.sIx
  simp only [Nat.sub_zero, List.drop_zero]
  rw [if_neg (by omega)]
  rcases Nat.le_total i.toNat xs.length with q | q
  · rw [Nat.min_eq_left q]
  · rw [Nat.min_eq_right q, List.take_length, List.take_of_length_le q]
theorem cut_drop (xs : List V) {i : Int} (h0 : 0 ≤ i) : cutV xs (some i) none = xs.drop i.toNat := by
  unfold cutV HT.sIx
  simp only
  rw [if_neg (by omega)]
  rcases Nat.le_total i.toNat xs.length with q | q
  · rw [Nat.min_eq_left q, List.take_of_length_le (by simp)]
  · rw [Nat.min_eq_right q]; simp [q]
theorem g_andT {t u : TT} {σ : L2.St} {H : Hp} {Q : Bool → Hp → Prop} (h : t σ H fun c H1 => if c = true then u σ H1 Q else Q false H1) : tAnd t u σ H Q := h
theorem g_orT {t u : TT} {σ : L2.St} {H : Hp} {Q : Bool → Hp → Prop} (h : t σ H fun c H1 => if c = true then Q true H1 else u σ H1 Q) : tOr t u σ H Q := h
theorem g_notT {t : TT} {σ : L2.St} {H : Hp} {Q : Bool → Hp → Prop} (h : t σ H fun c H1 => Q (!c) H1) : tNot t σ H Q := h
theorem g_sl {r : V → Option Int → Option Int → Hp → VK → Prop} {te : TE} {tl th : TO} {σ : L2.St} {H : Hp} {Q : VK} (h : te σ H fun x H1 => tl σ H1 fun l H2 => th σ H2 fun u H3 => r x l u H3 Q) : tSl r te tl th σ H Q := h
theorem g_part {t : TE} {σ : L2.St} {H : Hp} {Q : Option Int → Hp → Prop} (h : t σ H fun x H1 => ∃ i, x = V.int i ∧ Q (some i) H1) : tPart t σ H Q := h
theorem g_parI {i : Int} {P : Int → Prop} (h : P i) : ∃ j, V.int i = V.int j ∧ P j := ⟨i, rfl, h⟩
theorem g_noPart {σ : L2.St} {H : Hp} {Q : Option Int → Hp → Prop} (h : Q none H) : tNoPart σ H Q := h
theorem g_ifR {c : TT} {t u : TS} {D : Ends} {σ : L2.St} {H : Hp} (R : Bool → Hp → Prop) (h : ∀ Q : Bool → Hp → Prop, (∀ b H', R b H' → Q b H') → c σ H Q) (h2 : ∀ b H', R b H' → if b = true then t D σ H' else u D σ H') : tIfS c t u D σ H := h _ h2
theorem g_join {t u : TS} {D : Ends} {σ : L2.St} {H : Hp} (R : L2.St → Hp → Prop) (h : ∀ D' : Ends, (∀ σ' H', R σ' H' → D'.nx σ' H') → D'.rt = D.rt → D'.bk = D.bk → D'.ct = D.ct → t D' σ H) (h2 : ∀ σ' H', R σ' H' → u D σ' H') : tSeq t u D σ H := h { D with nx := u D } h2 rfl rfl rfl
theorem g_teR {te : TE} {σ : L2.St} {H : Hp} {Q : VK} (R : V → Hp → Prop) (h : ∀ Q : VK, (∀ v H', R v H' → Q v H') → te σ H Q) (h2 : ∀ v H', R v H' → Q v H') : te σ H Q := h _ h2
section
variable {u : TS} {D : Ends} {σ : L2.St} {H : Hp}
theorem g_proj {nx : L2.St → Hp → Prop} {rt : VK} {bk ct : L2.St → Hp → Prop} (h : nx σ H) : (Ends.mk nx rt bk ct).nx σ H := h
theorem g_seqAsg {te : TE} {g : TG} (h : tAsg te g { D with nx := u D } σ H) : tSeq (tAsg te g) u D σ H := h
theorem g_seqDrop {te : TE} (h : tDrop te { D with nx := u D } σ H) : tSeq (tDrop te) u D σ H := h
theorem g_seqPut {a b c : TE} (h : sDPut a b c { D with nx := u D } σ H) : tSeq (sDPut a b c) u D σ H := h
theorem g_seqPar {i j : Nat} {ta : TA} (h : tPar i j ta { D with nx := u D } σ H) : tSeq (tPar i j ta) u D σ H := h
end
/-! ### what a diary is made of, and perhaps one of its calendars -/
structure Book where
  c : Int
  notes : List (Option Int)
  lines : List (Int × Int × Int)
  dates : Option (List Int)
def noteV : Option Int → V
  | none => .non
  | some i => .int i
def noteD : Option Int → PyData
  | none => .none
  | some i => .int i
def lineD (l : Int × Int × Int) : PyData := .tuple [.int l.1, .int l.2.1, .int l.2.2]
def datesD : Option (List Int) → PyData
  | none => .none
  | some xs => .tuple (xs.map .int)
def notesD (ns : List (Option Int)) : PyData := .tuple (ns.map noteD)
def linesD (ls : List (Int × Int × Int)) : PyData := .tuple (ls.map lineD)
def Book.d (b : Book) : PyData := .tuple [.int b.c, notesD b.notes, linesD b.lines, datesD b.dates]
/-- the days are a calendar -/
structure Cal (c : Int) (notes : List (Option Int)) (lines : List (Int × Int × Int)) (xs : List Int) : Prop where
  len : xs.length = notes.length
  days : ∀ (n : Nat) (i x : Int), notes[n]? = some (some i) → xs[n]? = some x → x % c = i
  gaps : ∀ l ∈ lines, ∀ x y : Int, xs[l.1.toNat]? = some x → xs[l.2.1.toNat]? = some y → y - x ≤ l.2.2
/-- values of a diary -/
structure DOK (c : Int) (notes : List (Option Int)) (lines : List (Int × Int × Int)) (w : Int) : Prop where
  c2 : 2 ≤ c
  c100 : c ≤ 100
  n1 : 1 ≤ notes.length
  n16 : notes.length ≤ 16
  note : ∀ i : Int, some i ∈ notes → 0 ≤ i ∧ i < c
  line : ∀ l ∈ lines, (0 ≤ l.1 ∧ l.1 < notes.length) ∧ (0 ≤ l.2.1 ∧ l.2.1 < notes.length) ∧ -w ≤ l.2.2 ∧ l.2.2 ≤ w
structure Book.OK (b : Book) (w : Int) (most : Nat) : Prop where
  dok : DOK b.c b.notes b.lines w
  many : b.lines.length ≤ most
  cal : ∀ xs, b.dates = some xs → Cal b.c b.notes b.lines xs
theorem Book.OK.le {b : Book} {w w' : Int} {q q' : Nat} (h : b.OK w q) (h1 : w ≤ w') (h2 : q ≤ q') : b.OK w' q' := by
  obtain ⟨⟨a1, a2, a3, a4, a5, a6⟩, h3, h4⟩ := h
  refine ⟨⟨a1, a2, a3, a4, a5, fun l hl => ?_⟩, by omega, h4⟩
  obtain ⟨x, y, z, u⟩ := a6 l hl
  exact ⟨x, y, by omega, by omega⟩
section
variable {H : Hp}
theorem fz_note : ∀ n : Option Int, Fz H (noteV n) (noteD n)
  | none => .non
  | some i => .int i
theorem fzs_notes : ∀ ns : List (Option Int), Fzs H (ns.map noteV) (ns.map noteD)
  | [] => .nil
  | n :: ns => .cons (fz_note n) (fzs_notes ns)
theorem fzs_notes_inv : ∀ {ns : List (Option Int)} {vs : List V}, Fzs H vs (ns.map noteD) → vs = ns.map noteV
  | [], _, h => by cases h; rfl
  | none :: ns, _, h => by
    cases h with
    | cons a b => rw [a.non_inv, fzs_notes_inv b]; rfl
  | some i :: ns, _, h => by
    cases h with
    | cons a b => rw [a.int_inv, fzs_notes_inv b]; rfl
theorem fz_line_inv {v : V} {l : Int × Int × Int} (h : Fz H v (lineD l)) : ∃ a, v = .ref a ∧ H a = some (.tup [.int l.1, .int l.2.1, .int l.2.2]) := by
  obtain ⟨a, xs, rfl, h1, h2⟩ := Fz.tup_inv h
  have e : xs = [V.int l.1, .int l.2.1, .int l.2.2] := Fzs.ints (is := [l.1, l.2.1, l.2.2]) h2
  exact ⟨a, rfl, by rw [h1, e]⟩
theorem fz_line {a : Addr} {o f h : Int} (e : H a = some (.tup [.int o, .int f, .int h])) : Fz H (.ref a) (lineD (o, f, h)) := .tup e (Fzs.of_ints [o, f, h])
theorem fz_notes_inv {v : V} {ns : List (Option Int)} (h : Fz H v (notesD ns)) : ∃ a, v = .ref a ∧ H a = some (.tup (ns.map noteV)) := by
  obtain ⟨a, xs, rfl, h1, h2⟩ := Fz.tup_inv h
  exact ⟨a, rfl, by rw [h1, fzs_notes_inv h2]⟩
theorem fz_notes {a : Addr} {ns : List (Option Int)} (e : H a = some (.tup (ns.map noteV))) : Fz H (.ref a) (notesD ns) := .tup e (fzs_notes ns)
theorem book_inv {v : V} {b : Book} (h : Fz H v b.d) : ∃ a na la dv, v = .ref a ∧ H a = some (.tup [.int b.c, .ref na, .ref la, dv]) ∧ H na = some (.tup (b.notes.map noteV)) ∧ (∃ rows, H la = some (.tup rows) ∧ Fzs H rows (b.lines.map lineD)) ∧ Fz H dv (datesD b.dates) := by
  obtain ⟨a, xs, rfl, h1, h2⟩ := Fz.tup_inv h
  cases h2 with
  | cons c1 h2 => cases h2 with
    | cons c2 h2 => cases h2 with
      | cons c3 h2 => cases h2 with
        | cons c4 h2 =>
          cases h2
          obtain ⟨na, rfl, hn⟩ := fz_notes_inv c2
          obtain ⟨la, rows, rfl, hl, hr⟩ := Fz.tup_inv c3
          rw [c1.int_inv] at h1
          exact ⟨a, na, la, _, rfl, h1, hn, ⟨rows, hl, hr⟩, c4⟩
theorem book_mk {a : Addr} {c : Int} {n l d : V} {ns : List (Option Int)} {ls : List (Int × Int × Int)} {ds : Option (List Int)} (h : H a = some (.tup [.int c, n, l, d])) (hn : Fz H n (notesD ns)) (hl : Fz H l (linesD ls)) (hd : Fz H d (datesD ds)) : Fz H (.ref a) (Book.d ⟨c, ns, ls, ds⟩) :=
  .tup h (.cons (.int c) (.cons hn (.cons hl (.cons hd .nil))))
end
theorem pl_mono' {n k : Nat} {d : PyData} (h : pl n d) (hk : n ≤ k) : pl k d := by
  induction hk with
  | refl => exact h
  | step _ ih => exact pl_mono ih
theorem pl_notes (ns : List (Option Int)) : pl 1 (notesD ns) := by
  show ∀ d ∈ ns.map noteD, pl 0 d
  intro d hd
  obtain ⟨n, _, rfl⟩ := List.mem_map.mp hd
  cases n <;> simp [noteD, pl]
theorem pl_line (l : Int × Int × Int) : pl 1 (lineD l) := by simp [lineD, pl]
theorem pl_lines (ls : List (Int × Int × Int)) : pl 2 (linesD ls) := by
  show ∀ d ∈ ls.map lineD, pl 1 d
  intro d hd
  obtain ⟨l, _, rfl⟩ := List.mem_map.mp hd
  exact pl_line l
theorem fzs_row {H : Hp} {rows : List V} {ls : List (Int × Int × Int)} (h : Fzs H rows (ls.map lineD)) {i : Nat} (hi : i < ls.length) : ∃ r, rows[i]? = some (.ref r) ∧ H r = some (.tup [.int ls[i].1, .int ls[i].2.1, .int ls[i].2.2]) := by
  obtain ⟨v, h1, h2⟩ := h.get_d (i := i) (d := lineD ls[i]) (by simp [hi])
  obtain ⟨r, rfl, h3⟩ := fz_line_inv h2
  exact ⟨r, h1, h3⟩
theorem dok_lines {c w w' : Int} {ns : List (Option Int)} {ls ls' : List (Int × Int × Int)} (h : DOK c ns ls w) (q : ∀ l ∈ ls', (l ∈ ls ∧ w ≤ w') ∨ ((0 ≤ l.1 ∧ l.1 < ns.length) ∧ (0 ≤ l.2.1 ∧ l.2.1 < ns.length) ∧ -w' ≤ l.2.2 ∧ l.2.2 ≤ w')) : DOK c ns ls' w' := by
  obtain ⟨a1, a2, a3, a4, a5, a6⟩ := h
  refine ⟨a1, a2, a3, a4, a5, fun l hl => ?_⟩
  rcases q l hl with ⟨h, hw⟩ | h
  · obtain ⟨x, y, z, u⟩ := a6 l h
    exact ⟨x, y, by omega, by omega⟩
  · exact h
theorem dok_notes {c w w' : Int} {ns ns' : List (Option Int)} {ls : List (Int × Int × Int)} (h : DOK c ns ls w) (hw : w ≤ w') (hl : ns'.length = ns.length) (q : ∀ i : Int, some i ∈ ns' → some i ∈ ns ∨ (0 ≤ i ∧ i < c)) : DOK c ns' ls w' := by
  obtain ⟨a1, a2, a3, a4, a5, a6⟩ := h
  refine ⟨a1, a2, by omega, by omega, fun i hi => ?_, fun l h => ?_⟩
  · rcases q i hi with h | h
    · exact a5 i h
    · exact h
  · obtain ⟨x, y, z, u⟩ := a6 l h
    rw [hl]
    exact ⟨x, y, by omega, by omega⟩
theorem cut_len {α : Type} (xs : List α) (i : Nat) (x : α) (h : i < xs.length) : (xs.take i ++ [x] ++ xs.drop (i + 1)).length = xs.length := by
  simp only [List.length_append, List.length_take, List.length_cons, List.length_nil, List.length_drop]
  omega
theorem cut_mem {α : Type} {xs : List α} {i : Nat} {x y : α} (h : y ∈ xs.take i ++ [x] ++ xs.drop (i + 1)) : y ∈ xs ∨ y = x := by
  simp only [List.mem_append, List.mem_cons, List.not_mem_nil, or_false] at h
  rcases h with (h | h) | h
  · exact Or.inl (List.mem_of_mem_take h)
  · exact Or.inr h
  · exact Or.inl (List.mem_of_mem_drop h)
/-! ### promises -/
def spSlack : Sp := fun vs H Q _ => ∃ (m c g : Addr) (B cy : Int), vs = [.ref m, .int cy] ∧ Pr m c g H H B ∧ B < 2 ^ 28 ∧ (2 ≤ cy ∧ cy ≤ 100) ∧ ∀ (k : Int) (H' : Hp), 0 ≤ k → k < 5 * cy → Pr m c g H H' (B + 4) → Q (.int k) H'
def spBook : Sp := fun vs H Q _ => ∃ (m c g : Addr) (B cy cr lm : Int), vs = [.ref m, .int cy, .int cr, .int lm] ∧ Pr m c g H H B ∧ B < 2 ^ 27 ∧ (2 ≤ cy ∧ cy ≤ 100) ∧ (1 ≤ cr ∧ cr ≤ 16) ∧ (0 ≤ lm ∧ lm ≤ 60) ∧
  ∀ (v : V) (b : Book) (H' : Hp), Fz H' v b.d → b.c = cy → b.notes.length = cr.toNat → b.OK 1000 lm.toNat → b.dates.isSome = true → Pr m c g H H' (B + 400) → Q v H'
def spBent : Sp := fun vs H Q _ => ∃ (m c g : Addr) (B : Int) (v : V) (b : Book) (wd : Int) (most : Nat), vs = [.ref m, v] ∧ Pr m c g H H B ∧ B < 2 ^ 27 ∧ Fz H v b.d ∧ b.OK wd most ∧ most ≤ 1000 ∧ wd < 2 ^ 40 ∧
  ∀ (v' : V) (b' : Book) (H' : Hp), Fz H' v' b'.d → b'.c = b.c → b'.notes.length = b.notes.length → b'.OK (wd + 201) most → b'.dates = none → Pr m c g H H' (B + 3) → Q v' H'
def spAnyBook : Sp := fun vs H Q _ => ∃ (m c g : Addr) (B peak : Int), vs = [.ref m, .int peak] ∧ Pr m c g H H B ∧ B < 2 ^ 26 ∧ (2 ≤ peak ∧ peak ≤ 16) ∧
  ∀ (v : V) (b : Book) (H' : Hp), Fz H' v b.d → 2 ≤ b.notes.length → b.OK 2000 48 → Pr m c g H H' (B + 500) → Q v H'
theorem Fzs.snoc {H : Hp} {vs : List V} {ds : List PyData} {v : V} {d : PyData} (h : Fzs H vs ds) (q : Fz H v d) : Fzs H (vs ++ [v]) (ds ++ [d]) := h.append (.cons q .nil)
end WL
set_option Elab.async false
set_option linter.all false
set_option maxRecDepth 100000
set_option maxHeartbeats 4000000
namespace WL
open PySem PySem.Spec PyProof.Rows L2
/-! ### enumerate over whatever begins a walk (a tuple too), without a start -/
theorem meets_enum1 {v : Value} {o : Obj} {Hb : Heap → Prop} (b : Begins v o Hb) : Meets (Builtin.«enumerate.__new__» { pos := [.type "enumerate", v] }) fun x R s => Hb s.heap ∧
    R (.ok (.ret (.ref (s.heap.push o).objs.size))) { heap := (s.heap.push o).push { cls := .type "enumerate", data := .fields #[.none, .bool false, .ref s.heap.objs.size, rawInt 0, .none, .none] }, gens := s.gens, drawn := s.drawn, toks := s.toks, os := s.os } := by
  refine Meets.of_wp fun prog w A R s h => ?_
  obtain ⟨hl, h⟩ := h
  refine wpAny_bind (id (wpAny_bind (id (wpAny_pure (wpAny_ite_false rfl (wpAny_bind (wpAny_of_eq sub_enumerate (wpAny_ite_false rfl (wpAny_pure (wpAny_ite_true rfl (wpAny_bind (id (wpAny_bind (wpAny_stack_any fun st => wpAny_pure ?_))))))))))))))
  have fin : wpAny (model prog w) A.in1 (pyIter v >>= fun it => Builtin.SmallTypes.newRecord (Value.type "enumerate") (Builtin.SmallTypes.ownedTupleFields ++ [it, rawInt 0, Value.none, Value.none]) >>= fun r => ret r) (fun fin s' => ∃ v, fin = Fin.done (Flow.ret v) ∧ R (Except.ok (Flow.ret v)) s') (fun e s' => R (Except.error e) s') s := by
    refine wpAny_bind (b.iter _ _ _ _ _ _ hl ?_)
    refine wpAny_bind ?_
    unfold Builtin.SmallTypes.newRecord
    show wpAny _ _ (newObj _ _) _ _ _
    unfold newObj
    show wpAny _ _ (if (Builtin.SmallTypes.ownedTupleFields ++ [Value.ref s.heap.objs.size, rawInt 0, Value.none, Value.none]).toArray.size > sizeLine + 2 then _ else newObjAsIs (.type "enumerate") (.fields (Builtin.SmallTypes.ownedTupleFields ++ [Value.ref s.heap.objs.size, rawInt 0, Value.none, Value.none]).toArray)) _ _ _
    refine wpAny_ite_false rfl ?_
    refine wpAny_bind (wpAny_alloc' (wpAny_pure ?_))
    exact wpAny_pure ⟨_, rfl, h⟩
  split
  · next c tl kw snd t2 _ =>
    cases hc : (c == Value.type "enumerate") with
    | false =>
      refine wpAny_ite_false rfl (wpAny_bind ?_)
      show wpAny _ _ (pure (v, none)) _ _ _
      exact wpAny_pure fin
    | true =>
      refine wpAny_ite_true rfl (wpAny_bind ?_)
      exact wpAny_pure fin
  · refine wpAny_ite_false rfl (wpAny_bind ?_)
    show wpAny _ _ (pure (v, none)) _ _ _
    exact wpAny_pure fin
theorem call_enum1 {prog : Program} {w : World} {A : Around} {E : Value → Shared → Prop} {s : Shared} {v : Value} {o : Obj} {Hb : Heap → Prop} {Q : Value → Shared → Prop} (b : Begins v o Hb) (hH : Hb s.heap)
    (h : ∀ h' : Heap, IsEnum h' (s.heap.objs.size + 1) s.heap.objs.size 0 .none → h'.get? s.heap.objs.size = some o → (∀ (b : Addr) (u : Obj), s.heap.get? b = some u → h'.get? b = some u) → Q (.ref (s.heap.objs.size + 1)) { heap := h', gens := s.gens, drawn := s.drawn, toks := s.toks, os := s.os }) :
    wpAny (model prog w) A (call (.type "enumerate") [v]) Q E s := by
  refine callType_new F.called_enumerate (of_decide_eq_true (id (Eq.refl true))) (F.typeCall_enumerate_1 v) (F.newCall_enumerate_1 v) (fun obj => F.args_object_init_2 obj v) F.entry_enumerate_new (meets_enum1 b) ⟨hH, ?_⟩
  have hz := Heap.size_push s.heap o
  have he := Heap.get?_push_size (s.heap.push o) (o := { cls := .type "enumerate", data := .fields #[.none, .bool false, .ref s.heap.objs.size, rawInt 0, .none, .none] }) rfl
  rw [hz] at he ⊢
  refine ⟨⟨_, he, rfl⟩, h _ he ?_ ?_⟩
  · rw [Heap.get?_push_ne _ _ _ (by rw [hz]; exact Nat.ne_of_lt (Nat.lt_succ_self _))]
    exact Heap.get?_push_size s.heap b.free
  · intro c u hc
    exact Heap.get?_push_of_some _ (Heap.get?_push_of_some _ hc)
/-- what enumerate of the tuple at a gives -/
def IteT (K : PySem.W.Frag) (a : Addr) (xs : List V) : It where
  go := fun i H => SqT K H a xs ∧ i < xs.length
  yld := fun i H v H' => ∃ T x, v = .ref T ∧ H T = none ∧ H' = upd H T (.tup [.int (i : Nat), x]) ∧ xs[i]? = some x
  stop := fun i H => SqT K H a xs ∧ i = xs.length
def iEnumT (K : PySem.W.Frag) (ta : TA) : TI := fun σ H R => ta σ H fun vs H1 => ∃ a xs, vs = [.ref a] ∧ SqT K H1 a xs ∧ R (IteT K a xs) H1
theorem turn_enumT {P : Program} {w : World} {K : PySem.W.Frag} {elts : List Expr} {kk : Nat} {tpos : Pos} (a e it : Addr) (xs : List V) :
    Turn P w K (.Tuple elts kk tpos) (IteT K a xs) [e, it] e fun i h => (∃ old, IsEnum h e it (i : Nat) old) ∧ h.IsTupleIter it a i ∧ e ≠ it ∧ a ≠ it ∧ a ≠ e where
  mem := by simp
  obj := by
    rintro i h ⟨⟨old, he⟩, ⟨o, ho, hc, hd⟩, _⟩ b hb
    simp only [List.mem_cons, List.not_mem_nil, or_false] at hb
    rcases hb with rfl | rfl
    · exact ⟨_, he, fun v q => by cases q⟩
    · exact ⟨_, ho, fun v q => by rw [hd] at q; cases q⟩
  keep := by
    rintro i h h' ⟨⟨old, he⟩, hi, hne⟩ k
    exact ⟨⟨old, k e (by simp) _ he⟩, Heap.IsTupleIter.at hi (fun o q => k it (by simp) o q), hne⟩
  item := by
    intro X hP hw hK hc i pins s σ H E I hf st hg
    subst hP; subst hw; subst hK
    obtain ⟨⟨old, he⟩, hit, hne, h1, h2⟩ := st
    obtain ⟨hq, hlt⟩ := hg
    obtain ⟨its, rv, ht, hz⟩ := Inv.tuple I hq
    obtain ⟨u, hu, ru⟩ := Vals.get rv (i := i) (x := xs[i]) (by simp [hlt])
    have hel := Heap.lt_size he
    have hil : it < s.heap.objs.size := by obtain ⟨o, ho, _⟩ := hit; exact Heap.lt_size ho
    have hln := rv.length
    have htt : s.heap.IsTuple a its.toArray := ht
    refine wpAny_pyNext_enum_itemD (Draws.tuple (A := X.A.in1) (show X.A.in1.handled = none from I.ok.hd hc) it a h1 its.toArray) he ⟨hit, htt⟩ (by simp only [List.size_toArray]; omega) hne (by simp [hne, Ne.symm h2]) fun x h' tk hx ho hst hT hsz hk => ?_
    have ex : x = u := by
      have : its[i]? = some x := by simpa using hx
      rw [hu] at this
      exact (Option.some.inj this).symm
    subst ex
    refine ⟨_, rfl, wpAny_letOwnedTupleGo_enum ho fun h'' he' sb => ?_⟩
    have hT2 := (sb.2 s.heap.objs.size (Nat.ne_of_gt hel)).trans hT
    have I1 := Inv.turnedNew (h' := h'') (ch := [e, it]) (T := s.heap.objs.size) (ob := .tup [.int (i : Nat), xs[i]]) (t' := tk + 1) I
      (fun b ob hb q => (sb.2 b (fun z => hb (by simp [z]))).trans (hk b ob (fun z => hb (by simp [z])) (fun z => hb (by simp [z])) q)) hf (Nat.le_refl _)
      ⟨sz (by simp), [.int (i : Nat) tk, x], .cons ⟨tk, rfl⟩ (.cons ru .nil), _, hT2, rfl, 0, rfl⟩
    refine ⟨.ref s.heap.objs.size, _, I1, rfl, ⟨_, _, rfl, HOk.fresh I.hok (Nat.le_refl _), rfl, by simp [hlt]⟩, ⟨⟨x, he'⟩, ?_, hne, h1, h2⟩, fun b hb => ?_⟩
    · exact Heap.IsTupleIter.at hst.1 (fun o q => (sb.2 it (Ne.symm hne)).trans q)
    · have hb' : b < s.heap.objs.size := by
        simp only [List.mem_cons, List.not_mem_nil, or_false] at hb
        rcases hb with rfl | rfl
        · exact hel
        · exact hil
      rw [upd_ne (Nat.ne_of_lt hb')]
      exact (hf b hb).1
  done := by
    intro X hP hw hK hc i pins s σ H E I hf st hg
    subst hP; subst hw; subst hK
    obtain ⟨⟨old, he⟩, hit, hne, h1, h2⟩ := st
    obtain ⟨hq, hle⟩ := hg
    obtain ⟨its, rv, ht, hz⟩ := Inv.tuple I hq
    have hln := rv.length
    obtain ⟨f0, f1, f2, f3, f4, f5⟩ := hf it (by simp)
    have hi : i = its.toArray.size := by simp only [List.size_toArray]; omega
    subst hi
    refine wpAny_pyNext_enum_endD (Draws.tuple (A := X.A.in1) (show X.A.in1.handled = none from I.ok.hd hc) it a h1 its.toArray) he ⟨hit, ht⟩ fun h' eb => ⟨rfl, ?_⟩
    exact Inv.turned I (fun b o hb q => eb b o hb q) f0 f1 f3 f4 f5
  self := by
    rintro A i s Q E ⟨⟨old, he⟩, _⟩ h
    exact wpAny_pyIter_enum he h
theorem pi_enumT {X : Cx} {e : Expr} {ta : TA} {p pos tpos : Pos} {elts : List Expr} {kk : Nat} (hg : Gl X "enumerate") (hm : X.mg "enumerate" = none) (ha : PA X [e] ta) (hs : starEach [e] X.env = [(false, eval e X.env)] := by rfl) :
    PI X (.Tuple elts kk tpos) (.Call (.Name "enumerate" p) [e] [] pos) (iEnumT X.K ta) := by
  constructor
  intro pins s σ H R I h
  refine PyProof.Rows.Call_ (ld_blt I hg hm PyProof.Rows.boot_enumerate (PyProof.Rows.callWith_type1 (thn (ha.run pos pins s σ H _ I h) ?_) hs rfl))
  rintro us s1 ⟨vs, H1, I1, r1, a, xs, rfl, hq, q⟩
  cases r1 with
  | cons r rr =>
    cases rr
    cases r
    obtain ⟨its, rv, ht, hz⟩ := Inv.tuple I1 hq
    have hlt : a < s1.heap.objs.size := by obtain ⟨o, ho, _⟩ := ht; exact Heap.lt_size ho
    refine call_enum1 (begins_tuple a its.toArray) ht fun h' he hit hk => ?_
    refine wpAny_pyIter_enum he ?_
    have I2 := Inv.kept (t' := s1.toks) I1 hk
    refine ⟨_, [s1.heap.objs.size + 1, s1.heap.objs.size], _, IteT X.K a xs, H1, rfl, I2, turn_enumT a (s1.heap.objs.size + 1) s1.heap.objs.size xs, ⟨⟨_, he⟩, ⟨_, hit, rfl, rfl⟩, Nat.succ_ne_self _, Nat.ne_of_lt hlt, Nat.ne_of_lt (Nat.lt_succ_of_lt hlt)⟩, fun b hb => ?_, q⟩
    have hle : s1.heap.objs.size ≤ b := by
      simp only [List.mem_cons, List.not_mem_nil, or_false] at hb
      rcases hb with rfl | rfl
      · exact Nat.le_succ _
      · exact Nat.le_refl _
    exact Inv.fpOk I1 hle (HOk.fresh I1.hok hle)
theorem g_enumT {K : PySem.W.Frag} {σ : L2.St} {H : Hp} {ta : TA} {R : It → Hp → Prop} (h : ta σ H fun vs H1 => ∃ a xs, vs = [.ref a] ∧ SqT K H1 a xs ∧ R (IteT K a xs) H1) : iEnumT K ta σ H R := h
theorem g_one'T {K : PySem.W.Frag} {a : Addr} {xs : List V} {H : Hp} {P : Addr → List V → Prop} (h1 : SqT K H a xs) (h : P a xs) : ∃ a' xs', [V.ref a] = [V.ref a'] ∧ SqT K H a' xs' ∧ P a' xs' := ⟨a, xs, rfl, h1, h⟩
theorem ForQ.enumT {K : PySem.W.Frag} {g : TG} {tb : TS} {D : Ends} {σ : L2.St} {H1 : Hp} {a : Addr} {xs : List V} (I : Nat → L2.St → Hp → Prop) (h0 : I 0 σ H1) (hl : ∀ i σ H, i ≤ xs.length → I i σ H → SqT K H a xs)
    (hs : ∀ (i : Nat) (x : V) (T : Addr) (σ : L2.St) (H : Hp), xs[i]? = some x → I i σ H → H T = none → g (.ref T) σ (upd H T (.tup [.int (i : Nat), x])) fun σ2 H2 => tb { D with nx := I (i + 1), ct := I (i + 1), bk := D.nx } σ2 H2) (hd : ∀ σ H, I xs.length σ H → D.nx σ H) : ForQ g tb D σ (IteT K a xs) H1 := by
  refine ⟨fun i m σ H => i ≤ xs.length ∧ m = xs.length - i ∧ I i σ H, ⟨_, Nat.zero_le _, rfl, h0⟩, ?_⟩
  intro i m σ H ⟨hi, hm, hp⟩
  have hS := hl i σ H hi hp
  by_cases e : i = xs.length
  · subst e
    exact Or.inl ⟨⟨hS, rfl⟩, hd _ _ hp⟩
  · have hlt : i < xs.length := by omega
    refine Or.inr ⟨⟨hS, hlt⟩, I (i + 1), fun σ' H' h => ⟨xs.length - (i + 1), by omega, by omega, rfl, h⟩, ?_⟩
    intro v H' hy
    obtain ⟨T, x, e1, hT, e2, hx⟩ := hy
    subst e1; subst e2
    exact hs i x T σ H hx hp hT
end WL
set_option Elab.async false
set_option linter.all false
set_option maxRecDepth 100000
set_option maxHeartbeats 4000000
namespace WL
open PySem PySem.Spec PyProof.Rows L2
/-! ### any value, by its shape -/
inductive Sh where
  | non | bl | str | lst | dct
  | int (i : Int)
  | tup (ss : List Sh)
def Sh.isInt : Sh → Bool
  | .int _ => true
  | _ => false
def Sh.isNon : Sh → Bool
  | .non => true
  | _ => false
def Sh.within (lo hi : Int) : Sh → Bool
  | .int i => decide (lo ≤ i) && decide (i ≤ hi)
  | _ => false
def Sh.sized (lo hi : Int) : Sh → Bool
  | .tup ss => decide (lo ≤ (ss.length : Int)) && decide ((ss.length : Int) ≤ hi)
  | _ => false
mutual
inductive AnS (K : PySem.W.Frag) (H : Hp) : V → Sh → Prop
  | non : AnS K H .non .non
  | bl (b : Bool) : AnS K H (.bl b) .bl
  | int (i : Int) : AnS K H (.int i) (.int i)
  | str (x : Str) : AnS K H (.str x) .str
  | lst {a : Addr} {xs : List V} : SqL K H a xs → AnS K H (.ref a) .lst
  | dct {a : Addr} {kvs : List (Key × V)} : H a = some (.dK kvs) → AnS K H (.ref a) .dct
  | tup {a : Addr} {xs : List V} {ss : List Sh} : SqT K H a xs → AnSs K H xs ss → AnS K H (.ref a) (.tup ss)
inductive AnSs (K : PySem.W.Frag) (H : Hp) : List V → List Sh → Prop
  | nil : AnSs K H [] []
  | cons {v : V} {s : Sh} {vs : List V} {ss : List Sh} : AnS K H v s → AnSs K H vs ss → AnSs K H (v :: vs) (s :: ss)
end
section
variable {K : PySem.W.Frag} {H H' : Hp}
mutual
theorem AnS.same (k : ∀ b o, H b = some o → H' b = some o) : ∀ {v : V} {s : Sh}, AnS K H v s → AnS K H' v s
  | _, _, .non => .non
  | _, _, .bl b => .bl b
  | _, _, .int i => .int i
  | _, _, .str x => .str x
  | _, _, .lst h => .lst (SqL.same h k)
  | _, _, .dct h => .dct (k _ _ h)
  | _, _, .tup h q => .tup (SqT.same h k) (q.same k)
theorem AnSs.same (k : ∀ b o, H b = some o → H' b = some o) : ∀ {vs : List V} {ss : List Sh}, AnSs K H vs ss → AnSs K H' vs ss
  | _, _, .nil => .nil
  | _, _, .cons h q => .cons (h.same k) (q.same k)
end
theorem AnSs.length : ∀ {vs : List V} {ss : List Sh}, AnSs K H vs ss → vs.length = ss.length
  | _, _, .nil => rfl
  | _, _, .cons _ h => congrArg Nat.succ h.length
theorem AnSs.get : ∀ {vs : List V} {ss : List Sh}, AnSs K H vs ss → ∀ {i : Nat} {v : V}, vs[i]? = some v → ∃ s, ss[i]? = some s ∧ AnS K H v s
  | _, _, .nil, _, _, e => by simp at e
  | _, _, .cons h q, 0, v, e => ⟨_, rfl, by simp at e; subst e; exact h⟩
  | _, _, .cons h q, i + 1, v, e => by
    obtain ⟨s, e1, f⟩ := q.get (i := i) (v := v) (by simpa using e)
    exact ⟨s, by simpa using e1, f⟩
/-- the class of a value, by its shape -/
def Sh.ty : Sh → String
  | .non => "NoneType"
  | .bl => "bool"
  | .str => "str"
  | .lst => "list"
  | .dct => "dict"
  | .int _ => "int"
  | .tup _ => "tuple"
theorem AnS.ty : ∀ {v : V} {s : Sh}, AnS K H v s → TyX K H v (.type s.ty)
  | _, _, .non => .base .non
  | _, _, .bl b => .base (.bl b)
  | _, _, .int i => .base (.int i)
  | _, _, .str x => .base (.str x)
  | _, _, .lst (.inl (.inl h)) => .base (.lst h)
  | _, _, .lst (.inl (.inr ⟨_, h⟩)) => .base (.frz h)
  | _, _, .lst (.inr ⟨o, _, _, h, c, _⟩) => .kList h c
  | _, _, .dct h => .base (.dK h)
  | _, _, .tup (.inl (.inl h)) _ => .base (.tup h)
  | _, _, .tup (.inl (.inr ⟨_, h⟩)) _ => .fTuple h
  | _, _, .tup (.inr ⟨o, _, _, h, c, _⟩) _ => .kTuple h c
theorem isi_int (K : PySem.W.Frag) : ∀ s : Sh, PySem.W.kitOne K (.type s.ty) (.type "int") = some (s.isInt || s.ty == "bool")
  | .non => rfl
  | .bl => rfl
  | .str => rfl
  | .lst => rfl
  | .dct => rfl
  | .int _ => rfl
  | .tup _ => rfl
theorem isi_bool (K : PySem.W.Frag) : ∀ s : Sh, PySem.W.kitOne K (.type s.ty) (.type "bool") = some (s.ty == "bool")
  | .non => rfl
  | .bl => rfl
  | .str => rfl
  | .lst => rfl
  | .dct => rfl
  | .int _ => rfl
  | .tup _ => rfl
theorem isi_tup (K : PySem.W.Frag) : ∀ s : Sh, PySem.W.kitOne K (.type s.ty) (.type "tuple") = some (s.ty == "tuple")
  | .non => rfl
  | .bl => rfl
  | .str => rfl
  | .lst => rfl
  | .dct => rfl
  | .int _ => rfl
  | .tup _ => rfl
end
section
variable {K : PySem.W.Frag} {σ : L2.St} {H : Hp} {Q : VK}
theorem g_isi {x : V} {s : Sh} {T : String} {b : Bool} (h : AnS K H x s) (e : PySem.W.kitOne K (.type s.ty) (.type T) = some b) (q : Q (.bl b) H) : rIsi K [x, .ty T] H Q := ⟨x, .ty T, _, _, b, rfl, .ty T, h.ty, e, q⟩
theorem g_andV {ta tb : TE} (h : ta σ H fun x H1 => ∃ c, x = V.bl c ∧ if c = true then tb σ H1 Q else Q (.bl false) H1) : tAndV ta tb σ H Q := h
theorem g_orV {ta tb : TE} (h : ta σ H fun x H1 => ∃ c, x = V.bl c ∧ if c = true then Q (.bl true) H1 else tb σ H1 Q) : tOrV ta tb σ H Q := h
theorem g_notV {ta : TE} (h : ta σ H fun x H1 => ∃ c, x = V.bl c ∧ Q (.bl !c) H1) : tNotV ta σ H Q := h
theorem g_tB {t : TE} {Q : Bool → Hp → Prop} (h : t σ H fun x H1 => ∃ c, x = V.bl c ∧ Q c H1) : tB t σ H Q := h
theorem g_chain {r r' : R2} {ta tb tc : TE} (h : ta σ H fun x H1 => tb σ H1 fun y H2 => r x y H2 fun z H3 => ∃ k, z = V.bl k ∧ if k = true then tc σ H3 fun w' H4 => r' y w' H4 Q else Q (V.bl false) H3) : tChain r r' ta tb tc σ H Q := h
theorem g_neg {i : Int} {g : Int → V} (h : Q (g i) H) : rU g (.int i) H Q := ⟨i, rfl, h⟩
theorem g_cval {K : PySem.W.Frag} {ta : TE} {f : Str} (h : ta σ H fun x H1 => ∃ C mc v u, x = .ref C ∧ ClX.CRead K C mc ∧ ClX.CVal K C mc f v u ∧ Q v H1) : ClX.tCVal K ta f σ H Q := h
end
theorem g_iftn {A B : Prop} (h : A) : if (!false) = true then A else B := h
theorem g_iffn {A B : Prop} (h : B) : if (!true) = true then A else B := h
theorem ps_no {X : Cx} {s : Stmt} : PS X s (fun _ _ _ => False) := by
  constructor
  intros
  contradiction
theorem pe_ref {X : Cx} {x : Str} {a : Addr} {pos : Pos} (hm : X.mg x = some (.ref a)) (hg : Gl X x := by rfl) (h1 : x ≠ "__name__" := by decide) (h2 : (x == ("__debug__" : Str)) = false := by decide) : PE X (.Name x pos) (tC (.ref a)) := by first | exact pe_glob hg hm rfl h1 h2 | exact pe_glob hg hm rfl h2
/-- the class Diary: where it stands, its class values -/
structure Dia (K : PySem.W.Frag) (mg : Str → Option Value) (DC : Addr) : Prop where
  at_ : mg "Diary" = some (.ref DC)
  rd : ∃ mc, ClX.CRead K DC mc ∧ (∃ u, ClX.CVal K DC mc "MAX_MODULUS" (.int 100) u) ∧ (∃ u, ClX.CVal K DC mc "MAX_EVENTS" (.int 16) u) ∧ (∃ u, ClX.CVal K DC mc "MAX_BOUNDS" (.int 60) u) ∧ ∃ u, ClX.CVal K DC mc "MAX_DAYS" (.int 1000000000) u
section
variable {K : PySem.W.Frag} {mg : Str → Option Value} {DC : Addr} (h : Dia K mg DC) {P : V → Prop}
include h
theorem Dia.modulus (q : P (.int 100)) : ∃ C mc v u, V.ref DC = .ref C ∧ ClX.CRead K C mc ∧ ClX.CVal K C mc "MAX_MODULUS" v u ∧ P v := by
  obtain ⟨mc, r, ⟨u, c⟩, _⟩ := h.rd
  exact ⟨DC, mc, _, u, rfl, r, c, q⟩
theorem Dia.events (q : P (.int 16)) : ∃ C mc v u, V.ref DC = .ref C ∧ ClX.CRead K C mc ∧ ClX.CVal K C mc "MAX_EVENTS" v u ∧ P v := by
  obtain ⟨mc, r, _, ⟨u, c⟩, _⟩ := h.rd
  exact ⟨DC, mc, _, u, rfl, r, c, q⟩
theorem Dia.bounds (q : P (.int 60)) : ∃ C mc v u, V.ref DC = .ref C ∧ ClX.CRead K C mc ∧ ClX.CVal K C mc "MAX_BOUNDS" v u ∧ P v := by
  obtain ⟨mc, r, _, _, ⟨u, c⟩, _⟩ := h.rd
  exact ⟨DC, mc, _, u, rfl, r, c, q⟩
theorem Dia.days (q : P (.int 1000000000)) : ∃ C mc v u, V.ref DC = .ref C ∧ ClX.CRead K C mc ∧ ClX.CVal K C mc "MAX_DAYS" v u ∧ P v := by
  obtain ⟨mc, r, _, _, _, u, c⟩ := h.rd
  exact ⟨DC, mc, _, u, rfl, r, c, q⟩
end
/-! ### what is wrong with a diary's values, by their shapes -/
def Sh.bound (many : Int) : Sh → Bool
  | .tup [a, b, c] => a.within 0 (many - 1) && b.within 0 (many - 1) && c.within (-1000000000) 1000000000
  | _ => false
def Sh.note (c : Int) (s : Sh) : Bool := s.isNon || s.within 0 (c - 1)
def firstNot (p : Sh → Bool) (ss : List Sh) : Option Nat := ss.findIdx? fun s => !p s
/-- none: nothing is wrong; some none: the whole; some (some i): item i -/
def rowFault (lo hi : Int) (p : Sh → Bool) (s : Sh) : Option (Option Nat) :=
  if s.sized lo hi then
    match s with
    | .tup ss => (firstNot p ss).map some
    | _ => some none
  else some none
theorem firstNot_some {p : Sh → Bool} {ss : List Sh} {i : Nat} {s : Sh} (h : ss[i]? = some s) (hp : p s = false) (ha : ∀ j s', j < i → ss[j]? = some s' → p s' = true) : firstNot p ss = some i := by
  have hi : i < ss.length := by
    rcases Nat.lt_or_ge i ss.length with q | q
    · exact q
    · rw [List.getElem?_eq_none q] at h; exact absurd h (by simp)
  have e : ss[i] = s := by rw [List.getElem?_eq_getElem hi] at h; exact Option.some.inj h
  refine List.findIdx?_eq_some_iff_getElem.mpr ⟨hi, by rw [e, hp]; rfl, fun j hj => ?_⟩
  rw [ha j ss[j] hj (by simp)]
  decide
theorem firstNot_none {p : Sh → Bool} {ss : List Sh} (ha : ∀ (j : Nat) s', ss[j]? = some s' → p s' = true) : firstNot p ss = none := by
  refine List.findIdx?_eq_none_iff.mpr fun s hs => ?_
  obtain ⟨j, hj, e⟩ := List.getElem_of_mem hs
  rw [ha j s (by rw [List.getElem?_eq_getElem hj, e])]
  decide
theorem firstNot_inv {p : Sh → Bool} {ss : List Sh} (h : firstNot p ss = none) {s : Sh} (hs : s ∈ ss) : p s = true := by
  have := List.findIdx?_eq_none_iff.mp h s hs
  cases hp : p s with
  | true => rfl
  | false => rw [hp] at this; exact absurd this (by decide)
def itemV : Option Nat → V
  | none => .non
  | some i => .int (i : Nat)
def spNum (K : PySem.W.Frag) : Sp := fun vs H Q _ => ∃ (x : V) (s : Sh), vs = [x] ∧ AnS K H x s ∧ Q (.bl s.isInt) H
def spWithin (K : PySem.W.Frag) : Sp := fun vs H Q _ => ∃ (x : V) (s : Sh) (lo hi : Int), vs = [x, .int lo, .int hi] ∧ AnS K H x s ∧ Q (.bl (s.within lo hi)) H
def spTupOf (K : PySem.W.Frag) : Sp := fun vs H Q _ => ∃ (x : V) (s : Sh) (lo hi : Int), vs = [x, .int lo, .int hi] ∧ AnS K H x s ∧ Q (.bl (s.sized lo hi)) H
def spBound (K : PySem.W.Frag) : Sp := fun vs H Q _ => ∃ (x : V) (s : Sh) (many : Int), vs = [x, .int many] ∧ AnS K H x s ∧ Q (.bl (s.bound many)) H
def spRowF (K : PySem.W.Frag) (first : V → V → List V) (word : Str) (lo hi : Int) (p : Int → Sh → Bool) : Sp := fun vs H Q _ => ∃ (x : V) (s : Sh) (c : Int), vs = first x (.int c) ∧ AnS K H x s ∧
  (rowFault lo hi (p c) s = none → ∀ H', Nt H H' → Q .non H') ∧ (∀ it, rowFault lo hi (p c) s = some it → ∀ a H', Nt H H' → H' a = some (.tup [.str word, itemV it]) → Q (.ref a) H')
def restFault (w b : Sh) : Option (Str × Option Nat) := match w with
  | .tup ss => (rowFault 0 60 (Sh.bound ss.length) b).map fun it => ("bounds", it)
  | _ => some ("weekdays", none)
def wordFault (c : Int) (w b : Sh) : Option (Str × Option Nat) := match rowFault 1 16 (Sh.note c) w with
  | some it => some ("weekdays", it)
  | none => restFault w b
/-- the word and the item of what is wrong first -/
def diaryFault (m w b : Sh) : Option (Str × Option Nat) :=
  if m.within 2 100 then
    match m with
    | .int c => wordFault c w b
    | _ => some ("modulus", none)
  else some ("modulus", none)
theorem diaryFault_int {c : Int} {w b : Sh} (h : Sh.within 2 100 (.int c) = true) : diaryFault (.int c) w b = wordFault c w b := by
  unfold diaryFault
  rw [if_pos h]
theorem wordFault_some {c : Int} {w b : Sh} {it : Option Nat} (h : rowFault 1 16 (Sh.note c) w = some it) : wordFault c w b = some (("weekdays" : Str), it) := by
  unfold wordFault
  rw [h]
theorem wordFault_tup {c : Int} {ss : List Sh} {b : Sh} (h : rowFault 1 16 (Sh.note c) (.tup ss) = none) : wordFault c (.tup ss) b = (rowFault 0 60 (Sh.bound ss.length) b).map fun it => (("bounds" : Str), it) := by
  unfold wordFault
  rw [h]
  rfl
def spDiaryF (K : PySem.W.Frag) : Sp := fun vs H Q _ => ∃ (x y z : V) (m w b : Sh), vs = [x, y, z] ∧ AnS K H x m ∧ AnS K H y w ∧ AnS K H z b ∧
  (diaryFault m w b = none → ∀ H', Nt H H' → Q .non H') ∧ (∀ word it, diaryFault m w b = some (word, it) → ∀ a H', Nt H H' → H' a = some (.tup [.str word, itemV it]) → Q (.ref a) H')
end WL
set_option Elab.async false
set_option linter.all false
set_option maxRecDepth 100000
set_option maxHeartbeats 4000000
namespace WL
open PySem PySem.Spec PyProof.Rows L2
/-! ### objects of the class Diary -/
/-- what the model's facts say of the class -/
structure DiaO (K : PySem.W.Frag) (DC : Addr) : Prop where
  cls : Cls K DC
  n1 : NoAttr K DC "_modulus"
  n2 : NoAttr K DC "_weekdays"
  n3 : NoAttr K DC "_bounds"
  same : PySem.W.kitOne K (.ref DC) (.ref DC) = some true
  other : ∀ s : Sh, PySem.W.kitOne K (.type s.ty) (.ref DC) = some false
  g1 : PySem.W.findIn K (.ref DC) "__class__" = some (some (.builtin "object.__class__"))
  g2 : PySem.W.specialIn K (.builtin "object.__class__") "__get__" = some (some (.builtin "getset_descriptor.__get__"))
  g3 : PySem.W.takesIn K (.builtin "object.__class__") = some true
  g4 : PySem.W.mroIn K DC (.type "object") = some true
theorem DiaO.ty {K : PySem.W.Frag} {DC a dx : Addr} {fs : List (Str × V)} {H : Hp} (D : DiaO K DC) (h : H a = some (.ins DC dx fs)) : TyX K H (.ref a) (.ref DC) := .base (.ins h D.cls D.g1 D.g2 D.g3 D.g4)
/-- the fields of a diary -/
def dFs (x y z : V) : List (Str × V) := [("_modulus", x), ("_weekdays", y), ("_bounds", z)]
/-- objects stay what they are -/
def Ik (H H' : Hp) : Prop := ∀ b C dx fs, H b = some (.ins C dx fs) → H' b = some (.ins C dx fs)
theorem Ik.refl {H : Hp} : Ik H H := fun _ _ _ _ h => h
theorem Ik.trans {H H1 H2 : Hp} (a : Ik H H1) (b : Ik H1 H2) : Ik H H2 := fun _ _ _ _ h => b _ _ _ _ (a _ _ _ _ h)
theorem Ik.same {H H' : Hp} (a : ∀ b o, H b = some o → H' b = some o) : Ik H H' := fun b _ _ _ h => a b _ h
theorem Ik.new {H : Hp} {p : Addr} {o : HO} (n : H p = none) : Ik H (upd H p o) := fun b _ _ _ h => by
  rw [upd_ne (ne_of_none h n)]; exact h
theorem Pr.ik {m c g : Addr} {H0 H : Hp} {B B' : Int} (p : Pr m c g H0 H B) (q : Pr m c g H0 H0 B') : Ik H0 H := fun b C dx fs h => by
  obtain ⟨k, _, d⟩ := q.dr
  obtain ⟨l, _, hg⟩ := d.great
  have hm := d.dict
  refine p.but _ _ (fun e => ?_) (fun e => ?_) h
  · subst e; rw [h] at hm; exact absurd hm (by simp)
  · subst e; rw [h] at hg; exact absurd hg (by simp)
def spDInit (K : PySem.W.Frag) (DC : Addr) : Sp := fun vs H Q _ => ∃ (a dx : Addr) (x y z : V) (m w b : Sh), vs = [.ref a, x, y, z] ∧ H a = some (.ins DC dx []) ∧ AnS K H x m ∧ AnS K H y w ∧ AnS K H z b ∧ diaryFault m w b = none ∧
  ∀ H', H' a = some (.ins DC dx (dFs x y z)) → (∀ b o, b ≠ a → H b = some o → H' b = some o) → Q .non H'
def spGetF (DC : Addr) (f : Str) : Sp := fun vs H Q _ => ∃ (a dx : Addr) (fs : List (Str × V)) (v : V), vs = [.ref a] ∧ H a = some (.ins DC dx fs) ∧ fs.lookup f = some v ∧ Q v H
/-- a diary of these values at v -/
def DiaAt (DC : Addr) (H : Hp) (v : V) (c : Int) (ns : List (Option Int)) (ls : List (Int × Int × Int)) : Prop := ∃ a dx wv bv, v = .ref a ∧ H a = some (.ins DC dx (dFs (.int c) wv bv)) ∧ Fz H wv (notesD ns) ∧ Fz H bv (linesD ls)
theorem DiaAt.keep {DC : Addr} {H H' : Hp} {v : V} {c : Int} {ns : List (Option Int)} {ls : List (Int × Int × Int)} (h : DiaAt DC H v c ns ls) (t : Tk H H') (i : Ik H H') : DiaAt DC H' v c ns ls := by
  obtain ⟨a, dx, wv, bv, e, h1, h2, h3⟩ := h
  exact ⟨a, dx, wv, bv, e, i _ _ _ _ h1, h2.tk t, h3.tk t⟩
section
variable {K : PySem.W.Frag} {σ : L2.St} {H : Hp} {Q : VK} {D : Ends}
theorem g_fld {ta : TE} {f : Str} (h : ta σ H fun x H1 => ∃ a C dx fs v, x = .ref a ∧ H1 a = some (.ins C dx fs) ∧ Cls K C ∧ NoAttr K C f ∧ fs.lookup f = some v ∧ Q v H1) : tFld K ta f σ H Q := h
theorem g_f1 {DC a dx : Addr} {x y z : V} {P : V → Prop} (d : DiaO K DC) (h : H a = some (.ins DC dx (dFs x y z))) (q : P x) : ∃ a' C dx' fs v, V.ref a = .ref a' ∧ H a' = some (.ins C dx' fs) ∧ Cls K C ∧ NoAttr K C "_modulus" ∧ fs.lookup ("_modulus" : Str) = some v ∧ P v := ⟨a, DC, dx, _, x, rfl, h, d.cls, d.n1, rfl, q⟩
theorem g_f2 {DC a dx : Addr} {x y z : V} {P : V → Prop} (d : DiaO K DC) (h : H a = some (.ins DC dx (dFs x y z))) (q : P y) : ∃ a' C dx' fs v, V.ref a = .ref a' ∧ H a' = some (.ins C dx' fs) ∧ Cls K C ∧ NoAttr K C "_weekdays" ∧ fs.lookup ("_weekdays" : Str) = some v ∧ P v := ⟨a, DC, dx, _, y, rfl, h, d.cls, d.n2, rfl, q⟩
theorem g_f3 {DC a dx : Addr} {x y z : V} {P : V → Prop} (d : DiaO K DC) (h : H a = some (.ins DC dx (dFs x y z))) (q : P z) : ∃ a' C dx' fs v, V.ref a = .ref a' ∧ H a' = some (.ins C dx' fs) ∧ Cls K C ∧ NoAttr K C "_bounds" ∧ fs.lookup ("_bounds" : Str) = some v ∧ P v := ⟨a, DC, dx, _, z, rfl, h, d.cls, d.n3, rfl, q⟩
theorem g_sfld {ta tv : TE} {f : Str} (h : tv σ H fun y H1 => ta σ H1 fun x H2 => ∃ a C dx fs, x = .ref a ∧ H2 a = some (.ins C dx fs) ∧ Cls K C ∧ NoAttr K C f ∧ fs.length < 1000 ∧ D.nx σ (upd H2 a (.ins C dx (putF f y fs)))) : sFld K ta tv f D σ H := h
theorem g_seqFld {ta tv : TE} {f : Str} {u : TS} (h : sFld K ta tv f { D with nx := u D } σ H) : tSeq (sFld K ta tv f) u D σ H := h
theorem g_put {C a dx : Addr} {f : Str} {fs : List (Str × V)} {P : Hp → Prop} {y : V} (c : Cls K C) (n : NoAttr K C f) (h : H a = some (.ins C dx fs)) (hl : fs.length < 1000) (q : P (upd H a (.ins C dx (putF f y fs)))) : ∃ a' C' dx' fs', V.ref a = .ref a' ∧ H a' = some (.ins C' dx' fs') ∧ Cls K C' ∧ NoAttr K C' f ∧ fs'.length < 1000 ∧ P (upd H a' (.ins C' dx' (putF f y fs'))) := ⟨a, C, dx, fs, rfl, h, c, n, hl, q⟩
end
def spDLen (DC : Addr) (K : PySem.W.Frag) : Sp := fun vs H Q _ => ∃ (a dx : Addr) (x z : V) (wa : Addr) (ws : List V), vs = [.ref a] ∧ H a = some (.ins DC dx (dFs x (.ref wa) z)) ∧ SqT K H wa ws ∧ Q (.int ws.length) H
theorem noteD_inj {a b : Option Int} (h : noteD a = noteD b) : a = b := by
  cases a <;> cases b <;> simp_all [noteD]
theorem lineD_inj {a b : Int × Int × Int} (h : lineD a = lineD b) : a = b := by
  obtain ⟨a1, a2, a3⟩ := a
  obtain ⟨b1, b2, b3⟩ := b
  simp [lineD] at h
  simp [h]
theorem map_inj {α β : Type} {f : α → β} (hf : ∀ a b, f a = f b → a = b) : ∀ {xs ys : List α}, xs.map f = ys.map f → xs = ys
  | [], [], _ => rfl
  | [], y :: ys, h => by simp at h
  | x :: xs, [], h => by simp at h
  | x :: xs, y :: ys, h => by
    simp only [List.map_cons, List.cons.injEq] at h
    rw [hf _ _ h.1, map_inj hf h.2]
theorem notesD_inj {a b : List (Option Int)} (h : notesD a = notesD b) : a = b := map_inj (fun _ _ => noteD_inj) (PyData.tuple.inj h)
theorem linesD_inj {a b : List (Int × Int × Int)} (h : linesD a = linesD b) : a = b := map_inj (fun _ _ => lineD_inj) (PyData.tuple.inj h)
def spDEq (K : PySem.W.Frag) (DC : Addr) : Sp := fun vs H Q _ => ∃ (v x : V) (c : Int) (ns : List (Option Int)) (ls : List (Int × Int × Int)), vs = [v, x] ∧ DiaAt DC H v c ns ls ∧
  ((∃ (c2 : Int) (ns2 : List (Option Int)) (ls2 : List (Int × Int × Int)), DiaAt DC H x c2 ns2 ls2 ∧ ∀ r : Bool, (r = true ↔ (c = c2 ∧ ns = ns2 ∧ ls = ls2)) → Q (.bl r) H) ∨ (∃ s, AnS K H x s ∧ Q (.bl false) H))
/-- the class InvalidEvent -/
structure EvX (P : Program) (K : PySem.W.Frag) (mg : Str → Option Value) (IE : Addr) : Prop where
  at_ : mg "InvalidEvent" = some (.ref IE)
  ex : ∃ fI fd, ExT P K mg ["value"] IE fI ∧ ExI P K ["value"] IE fI fd ∧ ∀ (s : Shared) (u v : Value), K.In s.heap → BindsTo s fd ⟨[u, v], []⟩ [("self", u), ("value", v)]
def spNeed (K : PySem.W.Frag) (DC IE : Addr) : Sp := fun vs H Q E => ∃ (a dx : Addr) (x z y : V) (wa : Addr) (ws : List V) (s : Sh), vs = [.ref a, y] ∧ H a = some (.ins DC dx (dFs x (.ref wa) z)) ∧ SqT K H wa ws ∧ AnS K H y s ∧
  (s.within 0 ((ws.length : Int) - 1) = true → Q .non H) ∧ (s.within 0 ((ws.length : Int) - 1) = false → ∀ d, H d = none → E (.ref IE) (some d) (upd H d (.xd [("value", y)])))
theorem g_mkex {C : Addr} {f : Str} {ta : TA} {σ : L2.St} {H : Hp} {Q : XK} (h : ta σ H fun vs H1 => ∃ v, vs = [v] ∧ ∀ (d : Addr), H1 d = none → Q (.ref C) (some d) (upd H1 d (.xd [(f, v)]))) : tMkEx C f ta σ H Q := h
end WL
set_option Elab.async false
set_option linter.all false
set_option maxRecDepth 100000
set_option maxHeartbeats 4000000
namespace WL
open PySem PySem.Spec PyProof.Rows L2
/-! ### the class Diary for its callers -/
structure PropF (P : Program) (w : World) (K : PySem.W.Frag) (mg : Str → Option Value) (base : Heap) (DC : Addr) (n f : Str) : Prop where
  ex : ∃ p g fd, PropOf K DC n p g ∧ Binds K fd ["self"] [] ∧ FnOk P w K mg base CX0 1 g fd ["self"] (spGetF DC f)
structure DiaF (P : Program) (w : World) (K : PySem.W.Frag) (mg : Str → Option Value) (base : Heap) (DC IE : Addr) : Prop where
  at_ : Dia K mg DC
  obj : DiaO K DC
  make : ∃ f fd, Mk K DC f ∧ Binds K fd ["self", "modulus", "weekdays", "bounds"] [] ∧ FnOk P w K mg base CX0 6 f fd ["self", "modulus", "weekdays", "bounds"] (spDInit K DC)
  pm : PropF P w K mg base DC "modulus" "_modulus"
  pw : PropF P w K mg base DC "weekdays" "_weekdays"
  pb : PropF P w K mg base DC "bounds" "_bounds"
  len : ∃ f fd, PySem.W.findIn K (.ref DC) "__len__" = some (some (.ref f)) ∧ PySem.W.isFn K (.ref f) = true ∧ Binds K fd ["self"] [] ∧ FnOk P w K mg base CX0 1 f fd ["self"] (spDLen DC K)
  eq : ∃ g fd, PySem.W.findIn K (.ref DC) "__eq__" = some (some (.ref g)) ∧ PySem.W.isFn K (.ref g) = true ∧ Binds K fd ["self", "other"] [] ∧ FnOk P w K mg base CX0 1 g fd ["self", "other"] (spDEq K DC)
  ne : PySem.W.findIn K (.ref DC) "__ne__" = some (some (.builtin "object.__ne__"))
  ob : PySem.W.subIn K (.ref DC) (.type "object") = some true
  nf : ∀ s : Sh, PySem.W.notFirst K DC (.type s.ty) = true
  nfD : PySem.W.notFirst K DC (.ref DC) = true
  need : ∃ f fd, Meth K DC "need_event" f ∧ Binds K fd ["self", "event"] [] ∧ FnOk P w K mg base (CX P w) 3 f fd ["self", "event"] (spNeed K DC IE) ∧ KBn K fd ["self", "event"] 1 ["event"] (fun us ws => us ++ ws) (fun vs zs => vs ++ zs)
  cm : ∃ u, Con K DC "MAX_MODULUS" (.int 100) u
  ce : ∃ u, Con K DC "MAX_EVENTS" (.int 16) u
  cb : ∃ u, Con K DC "MAX_BOUNDS" (.int 60) u
  cd : ∃ u, Con K DC "MAX_DAYS" (.int 1000000000) u
/-! ### right values have no fault -/
def noteSh : Option Int → Sh
  | none => .non
  | some i => .int i
def lineSh (l : Int × Int × Int) : Sh := .tup [.int l.1, .int l.2.1, .int l.2.2]
section
variable {K : PySem.W.Frag} {H : Hp}
theorem ans_note : ∀ n : Option Int, AnS K H (noteV n) (noteSh n)
  | none => .non
  | some i => .int i
theorem anss_notes : ∀ ns : List (Option Int), AnSs K H (ns.map noteV) (ns.map noteSh)
  | [] => .nil
  | n :: ns => .cons (ans_note n) (anss_notes ns)
theorem ans_notes {v : V} {ns : List (Option Int)} (h : Fz H v (notesD ns)) : AnS K H v (.tup (ns.map noteSh)) := by
  obtain ⟨a, rfl, ha⟩ := fz_notes_inv h
  exact .tup (SqT.of ha) (anss_notes ns)
theorem anss_lines : ∀ {ls : List (Int × Int × Int)} {rows : List V}, Fzs H rows (ls.map lineD) → AnSs K H rows (ls.map lineSh)
  | [], _, h => by cases h; exact .nil
  | l :: ls, _, h => by
    cases h with
    | cons a b =>
      obtain ⟨r, rfl, hr⟩ := fz_line_inv a
      exact .cons (.tup (SqT.of hr) (.cons (.int _) (.cons (.int _) (.cons (.int _) .nil)))) (anss_lines b)
theorem ans_lines {v : V} {ls : List (Int × Int × Int)} (h : Fz H v (linesD ls)) : AnS K H v (.tup (ls.map lineSh)) := by
  obtain ⟨a, rows, rfl, ha, hr⟩ := Fz.tup_inv h
  exact .tup (SqT.of ha) (anss_lines hr)
end
theorem and2 {a b : Bool} (h : a = true) (k : b = true) : (a && b) = true := by rw [h, k]; rfl
theorem within_int {lo hi i : Int} (h : lo ≤ i ∧ i ≤ hi) : Sh.within lo hi (.int i) = true := and2 (decide_eq_true h.1) (decide_eq_true h.2)
theorem sized_tup {lo hi : Int} {ss : List Sh} (h : lo ≤ (ss.length : Int) ∧ (ss.length : Int) ≤ hi) : Sh.sized lo hi (.tup ss) = true := by
  show (decide (lo ≤ (ss.length : Int)) && decide ((ss.length : Int) ≤ hi)) = true
  rw [decide_eq_true h.1, decide_eq_true h.2]; rfl
theorem no_fault {c : Int} {ns : List (Option Int)} {ls : List (Int × Int × Int)} {w : Int} (h : DOK c ns ls w) (hw : w ≤ 1000000000) (hl : ls.length ≤ 60) : diaryFault (.int c) (.tup (ns.map noteSh)) (.tup (ls.map lineSh)) = none := by
  obtain ⟨a1, a2, a3, a4, a5, a6⟩ := h
  rw [diaryFault_int (within_int ⟨a1, a2⟩)]
  have e1 : rowFault 1 16 (Sh.note c) (.tup (ns.map noteSh)) = none := by
    unfold rowFault
    rw [if_pos (show Sh.sized 1 16 (.tup (ns.map noteSh)) = true from sized_tup ⟨by rw [List.length_map]; omega, by rw [List.length_map]; omega⟩)]
    show (firstNot (Sh.note c) (ns.map noteSh)).map some = none
    rw [firstNot_none fun j s' e => ?_]
    · rfl
    · rw [List.getElem?_map] at e
      cases hn : ns[j]? with
      | none => rw [hn] at e; exact absurd e (by simp)
      | some n =>
        rw [hn] at e
        have e' := Option.some.inj e
        subst e'
        cases n with
        | none => rfl
        | some i =>
          have := a5 i (List.mem_of_getElem? hn)
          show (Sh.isNon (.int i) || Sh.within 0 (c - 1) (.int i)) = true
          rw [within_int ⟨this.1, by omega⟩]
          rfl
  rw [wordFault_tup e1]
  have e2 : rowFault 0 60 (Sh.bound (ns.map noteSh).length) (.tup (ls.map lineSh)) = none := by
    unfold rowFault
    rw [if_pos (show Sh.sized 0 60 (.tup (ls.map lineSh)) = true from sized_tup ⟨by rw [List.length_map]; omega, by rw [List.length_map]; omega⟩)]
    show (firstNot (Sh.bound (ns.map noteSh).length) (ls.map lineSh)).map some = none
    rw [firstNot_none fun j s' e => ?_]
    · rfl
    · rw [List.getElem?_map] at e
      cases hn : ls[j]? with
      | none => rw [hn] at e; exact absurd e (by simp)
      | some l =>
        rw [hn] at e
        have e' := Option.some.inj e
        subst e'
        obtain ⟨g1, g2, g3⟩ := a6 l (List.mem_of_getElem? hn)
        rw [List.length_map]
        exact and2 (and2 (within_int ⟨g1.1, by omega⟩) (within_int ⟨g2.1, by omega⟩)) (within_int ⟨by omega, by omega⟩)
  rw [e2]
  rfl
section
variable {K : PySem.W.Frag} {σ : L2.St} {H : Hp} {Q : VK} {DC : Addr}
theorem g_make {C : Addr} {sp : Sp} {dvs : List V} {E : XK} {t : TA} (h : t σ H fun vs H1 => ∀ (x dx : Addr), H1 x = none → H1 dx = none → dx ≠ x → sp (.ref x :: (vs ++ dvs)) (upd (upd H1 dx (.own x)) x (.ins C dx [])) (fun v H2 => v = .non ∧ Q (.ref x) H2) E) : tMake C sp dvs E t σ H Q := h
/-- a diary of right values is made -/
theorem g_makeD {wv bv : V} {c w : Int} {ns : List (Option Int)} {ls : List (Int × Int × Int)} {E : XK} {R : Addr → Hp → Prop} (hn : Fz H wv (notesD ns)) (hl : Fz H bv (linesD ls)) (ok : DOK c ns ls w) (hw : w ≤ 1000000000) (h60 : ls.length ≤ 60)
    (q : ∀ (x : Addr) (H' : Hp), H x = none → DiaAt DC H' (.ref x) c ns ls → (∀ b o, H b = some o → H' b = some o) → R x H') :
    ∀ (x dx : Addr), H x = none → H dx = none → dx ≠ x → spDInit K DC (.ref x :: ([.int c, wv, bv] ++ [])) (upd (upd H dx (.own x)) x (.ins DC dx [])) (fun v H2 => v = .non ∧ R x H2) E := by
  intro x dx nx ndx ne
  have s1 : ∀ b o, H b = some o → upd (upd H dx (.own x)) x (.ins DC dx []) b = some o := fun b o h => by
    rw [upd_ne (ne_of_none h nx), upd_ne (ne_of_none h ndx)]; exact h
  refine ⟨x, dx, .int c, wv, bv, .int c, _, _, rfl, upd_same, .int c, (ans_notes hn).same s1, (ans_lines hl).same s1, no_fault ok hw h60, fun H' h1 h2 => ⟨rfl, ?_⟩⟩
  have s2 : ∀ b o, H b = some o → H' b = some o := fun b o h => h2 b o (ne_of_none h nx) (s1 b o h)
  exact q x H' nx ⟨x, dx, wv, bv, rfl, h1, hn.tk (Tk.same s2), hl.tk (Tk.same s2)⟩ s2
theorem g_prop {C : Addr} {sp : Sp} {dvs : List V} {E : XK} {ta : TE} (h : ta σ H fun x H1 => ∃ a dx fs, x = .ref a ∧ H1 a = some (.ins C dx fs) ∧ sp (.ref a :: dvs) H1 Q E) : tProp C sp dvs E ta σ H Q := h
theorem g_p1 {a dx : Addr} {x y z : V} {E : XK} {Q : VK} (h : H a = some (.ins DC dx (dFs x y z))) (q : Q x H) : ∃ a' dx' fs, V.ref a = .ref a' ∧ H a' = some (.ins DC dx' fs) ∧ spGetF DC "_modulus" (.ref a' :: []) H Q E := ⟨a, dx, _, rfl, h, a, dx, _, x, rfl, h, rfl, q⟩
theorem g_p2 {a dx : Addr} {x y z : V} {E : XK} {Q : VK} (h : H a = some (.ins DC dx (dFs x y z))) (q : Q y H) : ∃ a' dx' fs, V.ref a = .ref a' ∧ H a' = some (.ins DC dx' fs) ∧ spGetF DC "_weekdays" (.ref a' :: []) H Q E := ⟨a, dx, _, rfl, h, a, dx, _, y, rfl, h, rfl, q⟩
theorem g_p3 {a dx : Addr} {x y z : V} {E : XK} {Q : VK} (h : H a = some (.ins DC dx (dFs x y z))) (q : Q z H) : ∃ a' dx' fs, V.ref a = .ref a' ∧ H a' = some (.ins DC dx' fs) ∧ spGetF DC "_bounds" (.ref a' :: []) H Q E := ⟨a, dx, _, rfl, h, a, dx, _, z, rfl, h, rfl, q⟩
theorem g_lenO {a dx : Addr} {x z : V} {wa : Addr} {ws : List V} (h : H a = some (.ins DC dx (dFs x (.ref wa) z))) (hw : SqT K H wa ws) (hl : ws.length ≤ 100000) (q : Q (.int ws.length) H) : rLenOwn DC (spDLen DC K) [.ref a] H Q :=
  ⟨a, dx, _, rfl, h, a, dx, x, z, wa, ws, rfl, h, hw, _, rfl, ⟨by omega, by omega⟩, q⟩
theorem g_con {ta : TE} {f : Str} (h : ta σ H fun x H1 => ∃ a C dx fs v u, x = .ref a ∧ H1 a = some (.ins C dx fs) ∧ Cls K C ∧ Con K C f v u ∧ fs.lookup f = none ∧ Q v H1) : tCon K ta f σ H Q := h
theorem g_c1 {a dx : Addr} {f : Str} {fs : List (Str × V)} {v : V} {P : V → Prop} (O : DiaO K DC) (h : H a = some (.ins DC dx fs)) (c : ∃ u, Con K DC f v u) (n : fs.lookup f = none) (q : P v) : ∃ a' C dx' fs' v' u, V.ref a = .ref a' ∧ H a' = some (.ins C dx' fs') ∧ Cls K C ∧ Con K C f v' u ∧ fs'.lookup f = none ∧ P v' := by
  obtain ⟨u, c⟩ := c
  exact ⟨a, DC, dx, fs, v, u, rfl, h, O.cls, c, n, q⟩
theorem g_ownEq {a : Addr} {y : V} {f : Bool → Bool} {c : Int} {ns : List (Option Int)} {ls : List (Int × Int × Int)} {t : Value} (d : DiaAt DC H (.ref a) c ns ls) (ht : WL.Ty H y t) (nf : PySem.W.notFirst K DC t = true)
    (q : spDEq K DC [.ref a, y] H (fun z H' => ∃ b, z = V.bl b ∧ Q (.bl (f b)) H') E0) : rOwnEq K DC (spDEq K DC) f (.ref a) y H Q := by
  obtain ⟨a', dx, wv, bv, e, h1, _, _⟩ := d
  cases e
  exact ⟨a, dx, _, t, rfl, h1, ht, nf, q⟩
end
section
variable {X : Cx} {DC IE : Addr} {k : Nat} {n f : Str} {e : Expr} {te : TE} {pos : Pos}
theorem pe_pm (F : PropF X.prog X.w X.K X.mg X.base DC n f) (O : DiaO X.K DC) (hr : Room k X.A) (hk : 2 ≤ k) (he : PE X e te) (hab : attributeBase e n X.env (eval e X.env) = eval e X.env := by rfl) : PE X (.Attribute e n pos) (tProp DC (spGetF DC f) [] E0 te) := by
  obtain ⟨p, g, fd, h1, h2, h3⟩ := F.ex
  exact pe_prop he O.cls h1 h3 (hr.mono hk) h2 .nil pass0 hab
theorem call_lenD (F : DiaF X.prog X.w X.K X.mg X.base DC IE) (hr : Room k X.A) (hk : 2 ≤ k) : CallR X (.builtin "len") (rLenOwn DC (spDLen DC X.K)) := by
  obtain ⟨f, fd, h1, h2, h3, h4⟩ := F.len
  exact call_lenOwn h4 h3 (hr.mono hk) h1 h2
theorem op_dEq (F : DiaF X.prog X.w X.K X.mg X.base DC IE) (hr : Room k X.A) (hk : 1 ≤ k) : OpR X (compareOp .Eq) (rOwnEq X.K DC (spDEq X.K DC) id) := by
  obtain ⟨f, fd, h1, h2, h3, h4⟩ := F.eq
  exact op_ownEq h4 h3 (hr.mono hk) h1 h2
theorem op_dNe (F : DiaF X.prog X.w X.K X.mg X.base DC IE) (hr : Room k X.A) (hk : 2 ≤ k) : OpR X (compareOp .NotEq) (rOwnEq X.K DC (spDEq X.K DC) not) := by
  obtain ⟨f, fd, h1, h2, h3, h4⟩ := F.eq
  exact op_ownNe h4 h3 (hr.mono hk) h1 h2 F.ne F.ob
theorem pe_mkD (F : DiaF X.prog X.w X.K X.mg X.base DC IE) (hr : Room k X.A) (hk : 7 ≤ k) {es : List Expr} {t : TA} {p : Pos} (ha : PA X (e :: es) t) (hg : Gl X "Diary" := by rfl)
    (h1 : starEach (e :: es) X.env = (false, eval e X.env) :: starEach es X.env := by rfl) (h2 : (backTo pos (starEach es X.env)).any (·.1) = false := by rfl) : PE X (.Call (.Name "Diary" p) (e :: es) [] pos) (tMake DC (spDInit X.K DC) [] E0 t) := by
  obtain ⟨f, fd, m, b, Fn⟩ := F.make
  exact pe_make m Fn (hr.mono hk) hg F.at_.at_ b .nil pass0 ha (by decide) h1 h2
end
/-! ### promises of the law's own defs -/
def readV (c : Int) (wv bv : V) (n : Nat) : List V := [.int c, wv, bv, .int n, .int 100, .int 16, .int 60]
def spRead (DC : Addr) : Sp := fun vs H Q _ => ∃ (v : V) (c : Int) (ns : List (Option Int)) (ls : List (Int × Int × Int)), vs = [v] ∧ DiaAt DC H v c ns ls ∧ ns.length ≤ 100 ∧
  ∀ (p : Addr) (wv bv : V), H p = none → Fz H wv (notesD ns) → Fz H bv (linesD ls) → Q (.ref p) (upd H p (.lst (readV c wv bv ns.length)))
def spShown : Sp := fun vs H Q _ => ∃ (v : V) (b : Book), vs = [v] ∧ Fz H v b.d ∧
  ∀ (p : Addr) (wv bv : V), H p = none → Fz H wv (notesD b.notes) → Fz H bv (linesD b.lines) → Q (.ref p) (upd H p (.lst (readV b.c wv bv b.notes.length)))
def spValue (K : PySem.W.Frag) (DC : Addr) : Sp := fun vs H Q _ => ∃ (v y : V) (c : Int) (ns : List (Option Int)) (ls : List (Int × Int × Int)) (s : Sh), vs = [v, y] ∧ DiaAt DC H v c ns ls ∧ AnS K H y s ∧ ns.length ≤ 100 ∧
  ∀ (p : Addr) (H' : Hp), H p = none → (∀ b o, H b = some o → H' b = some o) → H' p = some (.lst (if s.within 0 ((ns.length : Int) - 1) then [] else [y])) → Q (.ref p) H'
section
variable {K : PySem.W.Frag} {σ : L2.St} {H : Hp} {Q : VK}
theorem g_methS {C : Addr} {m : Str} {sp : Sp} {E : L2.St → XK} {ta : TE} {t : TA} (h : ta σ H fun x H1 => ∃ a dx fs, x = .ref a ∧ H1 a = some (.ins C dx fs) ∧ fs.lookup m = none ∧ t σ H1 fun vs H2 => sp (x :: vs) H2 Q (E σ)) : WL.tMethS C m sp E ta t σ H Q := h
theorem g_errF {C : Addr} {f : Str} {te : TE} (h : te σ H fun x H1 => ∃ a d fs v, x = .ref a ∧ H1 a = some (Err a (.ref C) (some d)) ∧ H1 d = some (.xd fs) ∧ fs.lookup f = some v ∧ Q v H1) : tErrF C f te σ H Q := h
theorem none_up {H1 : Hp} {p : Addr} (n : H1 p = none) (h : ∀ b o, H b = some o → H1 b = some o) : H p = none := by
  cases e : H p with
  | none => rfl
  | some o => rw [h _ _ e] at n; exact absurd n (by simp)
theorem same_up {H1 : Hp} {p : Addr} {o : HO} (n : H1 p = none) (h : ∀ b o, H b = some o → H1 b = some o) : ∀ b u, H b = some u → upd H1 p o b = some u := fun b u hb => by rw [upd_ne (ne_of_none (h _ _ hb) n)]; exact h _ _ hb
end
theorem g_methK0 {C : Addr} {m : Str} {n : Nat} {sp : Sp} {gV : List V → List V → List V} {E : XK} {ta : TE} {tk : TA} {σ : L2.St} {H : Hp} {Q : VK} (h : ta σ H fun x H1 => ∃ a dx fs, x = .ref a ∧ H1 a = some (.ins C dx fs) ∧ fs.lookup m = none ∧ tk σ H1 fun zs H2 => zs.length = n ∧ sp (gV [x] zs) H2 Q E) : tMethK0 C m n sp gV E ta tk σ H Q := h
end WL
set_option Elab.async false
set_option linter.all false
set_option maxRecDepth 100000
set_option maxHeartbeats 4000000
namespace WL
open PySem PySem.Spec PyProof.Rows L2
/-! ### the class facts, asked of the model's fragment -/
def crB (K : PySem.W.Frag) (C : Addr) : Bool := PySem.W.readsIn K C (.type "type") && He.eqO (PySem.W.specialIn K (.ref C) "__getattribute__") (some (some (.builtin "type.__getattribute__")))
def cvB (K : PySem.W.Frag) (C : Addr) (f : Str) (i : Int) : Bool := match PySem.W.findCls K (.ref C) (.type "type") f with
  | some (.val (.int j _)) => decide (j = i)
  | _ => false
def conB (K : PySem.W.Frag) (C : Addr) (f : Str) (i : Int) : Bool := match PySem.W.findIn K (.ref C) f with
  | some (some (.int j t)) => decide (j = i) && (He.eqO (PySem.W.specialIn K (.int j t) "__get__") (some none) && !(PySem.W.copiedNames.contains f))
  | _ => false
def shTys : List String := ["NoneType", "bool", "str", "list", "dict", "int", "tuple"]
def isB (K : PySem.W.Frag) (t c : Value) (b : Bool) : Bool := match PySem.W.kitOne K t c with
  | some true => b
  | some false => !b
  | none => false
def othB (K : PySem.W.Frag) (C : Addr) : Bool := shTys.all fun T => isB K (.type T) (.ref C) false && PySem.W.notFirst K C (.type T)
def tkB (K : PySem.W.Frag) (v : Value) : Bool := match PySem.W.takesIn K v with
  | some true => true
  | _ => false
def sbB (K : PySem.W.Frag) (v c : Value) : Bool := match PySem.W.subIn K v c with
  | some true => true
  | _ => false
def mrB (K : PySem.W.Frag) (C : Addr) (c : Value) : Bool := match PySem.W.mroIn K C c with
  | some true => true
  | _ => false
def propB (K : PySem.W.Frag) (C : Addr) (n : Str) : Bool := He.eqO (PySem.W.findIn K (.ref C) n) (some (some (.ref (He.ma K C n)))) && (He.eqO (PySem.W.specialIn K (.ref (He.ma K C n)) "__get__") (some (some (.builtin "property.__get__"))) && (tkB K (.ref (He.ma K C n)) && (match PySem.W.recIn K (He.ma K C n) "property" with
  | some (.ref _ :: _) => true
  | _ => false)))
def diaB (K : PySem.W.Frag) (C : Addr) : Bool :=
  crB K C && (cvB K C "MAX_MODULUS" 100 && (cvB K C "MAX_EVENTS" 16 && (cvB K C "MAX_BOUNDS" 60 && cvB K C "MAX_DAYS" 1000000000)))
def diaOB (K : PySem.W.Frag) (C : Addr) : Bool :=
  isB K (.ref C) (.ref C) true && (othB K C && (He.eqO (PySem.W.findIn K (.ref C) "__class__") (some (some (.builtin "object.__class__"))) && (He.eqO (PySem.W.specialIn K (.builtin "object.__class__") "__get__") (some (some (.builtin "getset_descriptor.__get__"))) && (tkB K (.builtin "object.__class__") && mrB K C (.type "object")))))
def diaFB (K : PySem.W.Frag) (C : Addr) : Bool :=
  propB K C "modulus" && (propB K C "weekdays" && (propB K C "bounds" && (He.eqO (PySem.W.findIn K (.ref C) "__ne__") (some (some (.builtin "object.__ne__"))) && (sbB K (.ref C) (.type "object") && (PySem.W.notFirst K C (.ref C) && (conB K C "MAX_MODULUS" 100 && (conB K C "MAX_EVENTS" 16 && (conB K C "MAX_BOUNDS" 60 && conB K C "MAX_DAYS" 1000000000))))))))
/-- an exception class with fields and an __init__ of its own -/
def exB (K : PySem.W.Frag) (C : Addr) : Bool := match K.lookup C with
  | some ⟨.type T, _, .cls cd, sl⟩ => decide (T = "type") && (match cd.mro, sl.toList with
    | .ref C' :: bm, [_, _, _, _, some (.builtin n), _] => decide (C' = C) && (decide (n = "ValueError.__new__") && (!cd.hasDel && (cd.hasDict && HandSPX.refsVE bm)))
    | _, _ => false)
  | _ => false
def tyB (K : PySem.W.Frag) (v : Value) (t : String) : Bool := match PySem.W.typeIn K v with
  | some (.type T) => decide (T = t)
  | _ => false
def exTB (K : PySem.W.Frag) (fs : List Str) (C fI : Addr) : Bool :=
  exB K C && (He.eqO (PySem.W.ks_superIn K C C "__init__") (some (some (.builtin "ValueError.__init__"))) && (He.eqO (PySem.W.nsIn K cStatics "thirdparty.any") (some none) && (mrB K C (.ref C) && (sbB K (.ref C) (.type "ValueError") && (He.eqO (PySem.W.findIn K (.ref C) "__setattr__") (some (some (.builtin "object.__setattr__"))) && ((fs.all fun f => He.eqO (PySem.W.findIn K (.ref C) f) (some none)) &&
  (He.eqO (PySem.W.findIn K (.ref C) "__init__") (some (some (.ref fI))) && (tyB K (.ref fI) "function" && (PySem.W.keepIn K (.ref C) && (sbB K (.ref C) (.type "BaseException") && tyB K (.ref C) "type"))))))))))
def xfacB (K : PySem.W.Frag) (C : Addr) : Bool := He.eqO (PySem.W.findIn K (.ref C) "__getattribute__") (some (some (.builtin "BaseException.__getattribute__"))) && (He.eqO (PySem.W.findIn K (.ref C) "__getattr__") (some none) && (sbB K (.ref C) (.type "BaseException") && PySem.W.hasDictIn K C))
def emB (K : PySem.W.Frag) (a b : Value) : Bool := match PySem.W.exmOne K a b with
  | some true => true
  | _ => false
section
variable {K : PySem.W.Frag} {C : Addr}
theorem crB_ok (h : crB K C = true) : ClX.CRead K C (.type "type") := by
  obtain ⟨a, b⟩ := He.ba h
  exact ⟨a, He.eqO_ok b⟩
theorem cvB_ok {f : Str} {i : Int} (h : cvB K C f i = true) : ∃ u, ClX.CVal K C (.type "type") f (.int i) u := by
  unfold cvB at h
  split at h
  · next j t e => exact ⟨_, e, t, by rw [of_decide_eq_true h]⟩
  · cases h
theorem conB_ok {f : Str} {i : Int} (h : conB K C f i = true) : ∃ u, Con K C f (.int i) u := by
  unfold conB at h
  split at h
  · next j t e =>
    obtain ⟨a, h⟩ := He.ba h
    obtain ⟨b, c⟩ := He.ba h
    have e1 := of_decide_eq_true a
    subst e1
    exact ⟨_, e, ⟨t, rfl⟩, He.eqO_ok b, by simpa using c⟩
  · cases h
theorem isB_ok {t c : Value} {b : Bool} (h : isB K t c b = true) : PySem.W.kitOne K t c = some b := by
  unfold isB at h
  split at h
  · next e => rw [e, h]
  · next e => rw [e]; cases b <;> simp_all
  · cases h
theorem othB_ok (h : othB K C = true) : ∀ s : Sh, PySem.W.kitOne K (.type s.ty) (.ref C) = some false ∧ PySem.W.notFirst K C (.type s.ty) = true := by
  intro s
  have hs : s.ty ∈ shTys := by cases s <;> simp [Sh.ty, shTys]
  obtain ⟨a, b⟩ := He.ba (List.all_eq_true.mp h _ hs)
  exact ⟨isB_ok a, b⟩
theorem tkB_ok {v : Value} (h : tkB K v = true) : PySem.W.takesIn K v = some true := by
  unfold tkB at h
  split at h
  · next e => exact e
  · cases h
theorem sbB_ok {v c : Value} (h : sbB K v c = true) : PySem.W.subIn K v c = some true := by
  unfold sbB at h
  split at h
  · next e => exact e
  · cases h
theorem mrB_ok {c : Value} (h : mrB K C c = true) : PySem.W.mroIn K C c = some true := by
  unfold mrB at h
  split at h
  · next e => exact e
  · cases h
theorem emB_ok {a b : Value} (h : emB K a b = true) : PySem.W.exmOne K a b = some true := by
  unfold emB at h
  split at h
  · next e => exact e
  · cases h
theorem tyB_ok {v : Value} {t : String} (h : tyB K v t = true) : PySem.W.typeIn K v = some (.type t) := by
  unfold tyB at h
  split at h
  · next T e => rw [e, of_decide_eq_true h]
  · cases h
theorem propB_ok {n : Str} (h : propB K C n = true) : PropOf K C n (He.ma K C n) (recAd K (He.ma K C n) "property") := by
  obtain ⟨a, h⟩ := He.ba h
  obtain ⟨b, h⟩ := He.ba h
  obtain ⟨c, d⟩ := He.ba h
  refine ⟨He.eqO_ok a, He.eqO_ok b, tkB_ok c, ?_⟩
  unfold recAd
  split at d
  · next g r e => rw [e]; exact ⟨r, rfl⟩
  · cases d
theorem diaB_ok {mg : Str → Option Value} (m : mg "Diary" = some (.ref C)) (h : diaB K C = true) : Dia K mg C := by
  obtain ⟨a, h⟩ := He.ba h
  obtain ⟨b, h⟩ := He.ba h
  obtain ⟨c, h⟩ := He.ba h
  obtain ⟨d, e⟩ := He.ba h
  exact ⟨m, _, crB_ok a, cvB_ok b, cvB_ok c, cvB_ok d, cvB_ok e⟩
theorem diaOB_ok (c : Cls K C) (n1 : NoAttr K C "_modulus") (n2 : NoAttr K C "_weekdays") (n3 : NoAttr K C "_bounds") (h : diaOB K C = true) : DiaO K C := by
  obtain ⟨a, h⟩ := He.ba h
  obtain ⟨b, h⟩ := He.ba h
  obtain ⟨c1, h⟩ := He.ba h
  obtain ⟨c2, h⟩ := He.ba h
  obtain ⟨c3, c4⟩ := He.ba h
  exact ⟨c, n1, n2, n3, isB_ok a, fun s => (othB_ok b s).1, He.eqO_ok c1, He.eqO_ok c2, tkB_ok c3, mrB_ok c4⟩
theorem exB_ok (h : exB K C = true) : ∃ nm q N bs bm sn sub ab col dd k0 k1 k2 k3 k5, K.lookup C = some (excClassObj nm q C N bs bm true sn sub ab col dd k0 k1 k2 k3 k5 "ValueError.__new__") ∧ HandSPX.refsVE bm = true := by
  unfold exB at h
  split at h
  · next T dd cd sl e =>
    obtain ⟨a, h⟩ := He.ba h
    split at h
    · next C' bm k0 k1 k2 k3 n k5 em es =>
      obtain ⟨b, h⟩ := He.ba h
      obtain ⟨c, h⟩ := He.ba h
      obtain ⟨d, h⟩ := He.ba h
      obtain ⟨f, g⟩ := He.ba h
      have e1 := of_decide_eq_true a
      have e2 := of_decide_eq_true b
      have e3 := of_decide_eq_true c
      subst e1 e2 e3
      obtain ⟨nm, bs, mro, N, q, hd, sn, sub, ab, col, del⟩ := cd
      simp only at em d f
      have d' : del = false := by simpa using d
      subst em d' f
      have e4 : sl = #[k0, k1, k2, k3, some (.builtin "ValueError.__new__"), k5] := by
        rw [← Array.toList_inj]; exact es
      subst e4
      exact ⟨nm, q, N, bs, bm, sn, sub, ab, col, dd, k0, k1, k2, k3, k5, e, g⟩
    · cases h
  · cases h
theorem exTB_ok {P : Program} {mg : Str → Option Value} {fs : List Str} {fI : Addr} (free : mg "super" = none) (top : (List.lookup ("super" : Str) P.main.scope.names).isSome = false) (h : exTB K fs C fI = true) : ExT P K mg fs C fI := by
  obtain ⟨a1, h⟩ := He.ba h
  obtain ⟨a2, h⟩ := He.ba h
  obtain ⟨a3, h⟩ := He.ba h
  obtain ⟨a4, h⟩ := He.ba h
  obtain ⟨a5, h⟩ := He.ba h
  obtain ⟨a6, h⟩ := He.ba h
  obtain ⟨a7, h⟩ := He.ba h
  obtain ⟨a8, h⟩ := He.ba h
  obtain ⟨a9, h⟩ := He.ba h
  obtain ⟨b1, h⟩ := He.ba h
  obtain ⟨b2, b3⟩ := He.ba h
  exact ⟨exB_ok a1, He.eqO_ok a2, He.eqO_ok a3, mrB_ok a4, sbB_ok a5, He.eqO_ok a6, fun f hf => He.eqO_ok (List.all_eq_true.mp a7 f hf), He.eqO_ok a8, tyB_ok a9, b1, sbB_ok b2, tyB_ok b3, free, top⟩
theorem xfacB_ok (h : xfacB K C = true) : XfC K C := by
  obtain ⟨a1, h⟩ := He.ba h
  obtain ⟨a2, h⟩ := He.ba h
  obtain ⟨a3, a4⟩ := He.ba h
  exact ⟨He.eqO_ok a1, He.eqO_ok a2, sbB_ok a3, a4⟩
end
end WL
set_option Elab.async false
set_option linter.all false
set_option maxRecDepth 100000
set_option maxHeartbeats 4000000
namespace WL
open PySem PySem.Spec PyProof.Rows L2
/-! ### defs of exception classes: __init__ with super() -/
abbrev XnW : Type := Option (Arguments × FuncBody × Scope × Addr × Addr × Bool)
def noDfl (fd : FuncData) : Bool := match fd.defaults, fd.kwdefaults with
  | .none, .none => true
  | _, _ => false
structure DefX where
  cls : Str
  st : Stmt
  nd : Bool := true
def DefX.C (K : PySem.W.Frag) (d : DefX) : Addr := He.ga K d.cls
def DefX.ad (K : PySem.W.Frag) (d : DefX) : Addr := He.ma K (He.ga K d.cls) "__init__"
def DefX.val (d : DefX) : XnW := some (defArgs d.st, .stmts (defBody d.st), defScope d.st, mainGlobals, builtinsNs, d.nd)
def fnX (K : PySem.W.Frag) (a : Addr) : XnW := match K.lookup a with
  | some ⟨_, _, .func fd, _⟩ => some (fd.params, fd.body, fd.scope, fd.globals, fd.builtins, noDfl fd)
  | _ => none
def exIB (K : PySem.W.Frag) (file : Str) (C fI : Addr) : Bool := match K.lookup fI with
  | some ⟨_, _, .func fd, _⟩ => (match fd.closure with
      | [(x, cc)] => decide (x = ("__class__" : Str)) && (match K.lookup cc with
        | some ⟨_, _, .cell (some (.ref C')), _⟩ => decide (C' = C)
        | _ => false)
      | _ => false) && ((match fd.code with
      | .ref cda => (match K.lookup cda with
        | some ⟨_, _, .fields vs, _⟩ => (match (vs[2]? : Option Value) with
          | some (.str fl _) => file == fl
          | _ => false)
        | _ => false)
      | _ => false) && PySem.W.codeIn K fd.code fd.qualname)
  | _ => false
theorem exI_ok {P : Program} {K : PySem.W.Frag} {fs : List Str} {C : Addr} {d : DefX} (hC : d.C K = C) (h : exIB K P.main.file C (d.ad K) = true) (e : fnX K (d.ad K) = d.val)
    (first : ∃ ar, ((defArgs d.st).posonlyargs ++ (defArgs d.st).args).head? = some ar ∧ ar.arg = ("self" : Str)) (kind : (defScope d.st).kind = .function) (co : (defScope d.st).isCoroutine = false) (gen : (defScope d.st).isGenerator = false) (ok : scOk (defScope d.st) fs = true)
    (body : ∃ msg k q qs, defBody d.st = supSt msg k q :: List.map (fun p => fldSt p.1 p.2) (fs.zip qs) ∧ qs.length = fs.length ∧ ((q 2).endLine == (q 4).line) = true) :
    ∃ fd, ExI P K fs C (d.ad K) fd ∧ fd.params = defArgs d.st ∧ noDfl fd = d.nd := by
  unfold exIB at h
  unfold fnX at e
  split at h
  · next oc od fd osl lk =>
    rw [lk] at e
    simp only [DefX.val, Option.some.injEq, Prod.mk.injEq] at e
    obtain ⟨e1, e2, e3, e4, e5, e6⟩ := e
    obtain ⟨h1, h⟩ := He.ba h
    obtain ⟨h2, h3⟩ := He.ba h
    refine ⟨fd, ⟨⟨oc, od, osl, lk⟩, ?_, ?_, h3, e5, e4, by rw [e1]; exact first, by rw [e3]; exact kind, by rw [e3]; exact co, by rw [e3]; exact gen, by rw [e3]; exact ok, ?_⟩, e1, e6⟩
    · split at h1
      · next x cc ec =>
        obtain ⟨a, b⟩ := He.ba h1
        split at b
        · next cl cld C' csl el =>
          rw [of_decide_eq_true a] at ec
          rw [of_decide_eq_true b] at el
          exact ⟨cc, cl, cld, csl, ec, el⟩
        · cases b
      · cases h1
    · split at h2
      · next cda ec =>
        split at h2
        · next ccl cdd vs ccs el =>
          split at h2
          · next fl tf ev => exact ⟨cda, ccl, cdd, vs, ccs, fl, tf, ec, el, ev, h2⟩
          · cases h2
        · cases h2
      · cases h2
    · obtain ⟨msg, k, q, qs, b1, b2, b3⟩ := body
      exact ⟨msg, k, q, qs, by rw [e2, b1], b2, b3⟩
  · cases h
/-! ### the hook with both kinds of defs -/
abbrev AlX : Type := AlW × List XnW
def obsX (n : Nat) (chk : PySem.W.Frag → Bool) (fn : List DefW) (xs : List DefX) (g : Addr → Option Obj) : AlX := (obsW n chk fn g, let K := He.frG g (asW g n); xs.map fun d => fnX K (d.ad K))
def valX (fn : List DefW) (xs : List DefX) : AlX := (valW fn, xs.map DefX.val)
structure SaysX (chk : PySem.W.Frag → Bool) (fn : List DefW) (xs : List DefX) (K : PySem.W.Frag) : Prop where
  w : SaysW chk fn K
  eqs : xs.map (fun d => fnX K (d.ad K)) = xs.map DefX.val
theorem SaysX.ex {chk : PySem.W.Frag → Bool} {fn : List DefW} {xs : List DefX} {K : PySem.W.Frag} (c : SaysX chk fn xs K) (i : Nat) {d : DefX} (h : xs[i]? = some d) : fnX K (d.ad K) = d.val := by
  have z : (xs.map fun d => fnX K (d.ad K))[i]? = (xs.map DefX.val)[i]? := by rw [c.eqs]
  rw [List.getElem?_map, List.getElem?_map, h] at z
  exact Option.some.inj z
def hookX (n : Nat) (chk : PySem.W.Frag → Bool) (fn : List DefW) (xs : List DefX) : PySem.W.Hook where
  α := AlX
  obs := fun s => obsX n chk fn xs s.heap.get?
  val := fun _ => valX fn xs
  says := fun _ h => ∃ K : PySem.W.Frag, K.In h ∧ SaysX chk fn xs K
  of := fun _ _ e => ⟨_, He.frG_in, saysW_of (congrArg Prod.fst e), congrArg Prod.snd e⟩
  keeps := fun _ _ _ ⟨K, hK, c⟩ k => ⟨K, PySem.W.Frag.In.keeps hK k, c⟩
theorem obsX_eq {n : Nat} {chk : PySem.W.Frag → Bool} {fn : List DefW} {xs : List DefX} {g : Addr → Option Obj} {s : Shared} (h : ∀ a, g a = s.heap.get? a) : obsX n chk fn xs g = (hookX n chk fn xs).obs s := by
  have e : g = s.heap.get? := funext h
  rw [e]
  rfl
end WL
set_option Elab.async false
set_option linter.all false
set_option maxRecDepth 100000
set_option maxHeartbeats 4000000
namespace WL
open PySem PySem.Spec PyProof.Rows L2
/-- list(xs): the new list is not the module table -/
def rListS (K : PySem.W.Frag) : List V → Hp → VK → Prop := fun xs H Q => ∃ p ys, xs = [V.ref p] ∧ (SqL K H p ys ∨ SqT K H p ys) ∧ ∀ l, H l = none → l ≠ sysModules → Q (.ref l) (upd H l (.lst ys))
theorem call_list_ofS {X : Cx} : CallR X (.type "list") (rListS X.K) := by
  intro pins s σ H xs us Q I r h
  obtain ⟨p, ys, rfl, hq, q⟩ := h
  cases r with
  | cons r rr =>
    cases rr
    cases r
    have fin : ∀ (its : List Value), Vals ys its → ys.length ≤ sizeLine → ∀ (h' : Heap) (c' : Nat), (∀ (b : Addr) (o' : Obj), s.heap.get? b = some o' → h'.get? b = some o') → h'.get? s.heap.objs.size = some { cls := .type "list", data := .seq its.toArray c' } →
        EP X pins σ Q (.ref s.heap.objs.size) { heap := h', gens := s.gens, drawn := s.drawn, toks := s.toks, os := s.os } := fun its r' hz h' c' kp e =>
      ⟨.ref s.heap.objs.size, upd H s.heap.objs.size (.lst ys), I.laid kp (Nat.le_refl _) ⟨hz, its, c', r', e⟩, rfl, q _ (I.hok.fresh (Nat.le_refl _)) (Nat.ne_of_gt I.big)⟩
    rcases hq with hq | hq
    · obtain ⟨its, r', pl, hz⟩ := Inv.list I hq
      have hlen := r'.length
      obtain ⟨o, ho, hc, n, hd⟩ := PlainL.isList pl
      exact call_list_seq p (.inl rfl) ho hc hd (fun h' c' kp e => fin its r' hz h' c' kp e) (by rw [List.size_toArray]; omega)
    · obtain ⟨its, r', pl, hz⟩ := Inv.tuple I hq
      have hlen := r'.length
      obtain ⟨o, ho, hc, n, hd⟩ := pl
      exact call_list_seq p (.inr rfl) ho hc hd (fun h' c' kp e => fin its r' hz h' c' kp e) (by rw [List.size_toArray]; omega)
/-! ### data for showing, without a word on where lists stand -/
mutual
inductive DqB (H : Hp) : V → PyData → Prop
  | non : DqB H .non .none
  | bl (b : Bool) : DqB H (.bl b) (.bool b)
  | int (i : Int) : DqB H (.int i) (.int i)
  | str (x : Str) : DqB H (.str x) (.str x)
  | tup {a : Addr} {xs : List V} {ds : List PyData} : H a = some (.tup xs) → DqBs H xs ds → DqB H (.ref a) (.tuple ds)
  | lst {a : Addr} {xs : List V} {ds : List PyData} : H a = some (.lst xs) → DqBs H xs ds → DqB H (.ref a) (.list ds)
  | mtd {a : Addr} : H a = some (.dK []) → DqB H (.ref a) (.dict [])
inductive DqBs (H : Hp) : List V → List PyData → Prop
  | nil : DqBs H [] []
  | cons {v : V} {vs : List V} {d : PyData} {ds : List PyData} : DqB H v d → DqBs H vs ds → DqBs H (v :: vs) (d :: ds)
end
section
variable {H : Hp}
mutual
theorem DqB.dq (h : ∀ xs, H sysModules ≠ some (.lst xs)) : ∀ {v : V} {d : PyData}, DqB H v d → Dq H v d
  | _, _, .non => .non
  | _, _, .bl b => .bl b
  | _, _, .int i => .int i
  | _, _, .str x => .str x
  | _, _, .tup a b => .tup a (b.dqs h)
  | _, _, .lst (xs := xs) a b => .lst a (fun e => h xs (by rw [← e]; exact a)) (b.dqs h)
  | _, _, .mtd a => .mtd a
theorem DqBs.dqs (h : ∀ xs, H sysModules ≠ some (.lst xs)) : ∀ {vs : List V} {ds : List PyData}, DqBs H vs ds → Dqs H vs ds
  | _, _, .nil => .nil
  | _, _, .cons a b => .cons (a.dq h) (b.dqs h)
end
mutual
theorem Fz.dqB : ∀ {v : V} {d : PyData}, Fz H v d → DqB H v d
  | _, _, .non => .non
  | _, _, .bl b => .bl b
  | _, _, .int i => .int i
  | _, _, .str x => .str x
  | _, _, .tup h q => .tup h q.dqBs
theorem Fzs.dqBs : ∀ {vs : List V} {ds : List PyData}, Fzs H vs ds → DqBs H vs ds
  | _, _, .nil => .nil
  | _, _, .cons h q => .cons h.dqB q.dqBs
end
end
/-- the table of modules is a thing of the model's own, and no list -/
def SysB (K : PySem.W.Frag) : Prop := ∃ o, K.lookup sysModules = some o ∧ (o.cls == .type "list") = false
def rShowB : List V → Hp → VK → Prop := fun vs H Q => ∃ a d, vs = [V.ref a] ∧ DqB H (V.ref a) d ∧ d.showable = true ∧ d.shown.length ≤ sizeLine ∧ d.depth ≤ 50 ∧ Q (V.str d.shown) H
theorem call_showB {X : Cx} {k : Nat} (hs : SysB X.K) (hg : X.A.guards = some []) (hr : Room k X.A) : CallR X (.builtin "repr") rShowB := by
  intro pins s σ H xs us Q I r h
  obtain ⟨a, d, e, hd, h1, h2, h3, q⟩ := h
  refine call_show hg hr pins s σ H xs us Q I r ⟨a, d, e, hd.dq fun ys hy => ?_, h1, h2, h3, q⟩
  obtain ⟨o, ho, hc⟩ := hs
  obtain ⟨_, its, n, _, _, eo⟩ := Inv.lstM I hy
  have e2 := Option.some.inj ((I.kIn _ _ ho).symm.trans eo)
  subst e2
  exact absurd (show true = false from hc) (by decide)
def sysB (K : PySem.W.Frag) : Bool := match K.lookup sysModules with
  | some o => !(o.cls == .type "list")
  | none => false
theorem sysB_ok {K : PySem.W.Frag} (h : sysB K = true) : SysB K := by
  unfold sysB at h
  split at h
  · next o e => exact ⟨o, e, by simpa using h⟩
  · cases h
section
variable {H H' : Hp}
mutual
theorem DqB.same (k : ∀ b o, H b = some o → H' b = some o) : ∀ {v : V} {d : PyData}, DqB H v d → DqB H' v d
  | _, _, .non => .non
  | _, _, .bl b => .bl b
  | _, _, .int i => .int i
  | _, _, .str x => .str x
  | _, _, .tup a b => .tup (k _ _ a) (b.same k)
  | _, _, .lst a b => .lst (k _ _ a) (b.same k)
  | _, _, .mtd a => .mtd (k _ _ a)
theorem DqBs.same (k : ∀ b o, H b = some o → H' b = some o) : ∀ {vs : List V} {ds : List PyData}, DqBs H vs ds → DqBs H' vs ds
  | _, _, .nil => .nil
  | _, _, .cons a b => .cons (a.same k) (b.same k)
end
end
/-- a value that is no event of so many, and can be shown in a list -/
structure Odd (K : PySem.W.Frag) (H : Hp) (n : Int) (x : V) : Prop where
  ex : ∃ s d, AnS K H x s ∧ s.within 0 (n - 1) = false ∧ DqB H x d ∧ (PyData.list [d]).showable = true ∧ (PyData.list [d]).shown.length ≤ sizeLine ∧ (PyData.list [d]).depth ≤ 50
theorem Odd.same {K : PySem.W.Frag} {H H' : Hp} {n : Int} {x : V} (k : ∀ b o, H b = some o → H' b = some o) (h : Odd K H n x) : Odd K H' n x := by
  obtain ⟨s, d, h1, h2, h3, h4⟩ := h.ex
  exact ⟨s, d, h1.same k, h2, h3.same k, h4⟩
theorem g_showB {H : Hp} {Q : VK} {a : Addr} {d : PyData} (h : DqB H (.ref a) d) (h1 : d.showable = true) (h2 : d.shown.length ≤ sizeLine) (h3 : d.depth ≤ 50) (q : Q (.str d.shown) H) : rShowB [.ref a] H Q := ⟨a, d, rfl, h, h1, h2, h3, q⟩
def spEvents (K : PySem.W.Frag) (DC : Addr) : Sp := fun vs H Q _ => ∃ (v : V) (c : Int) (ns : List (Option Int)) (ls : List (Int × Int × Int)), vs = [v] ∧ DiaAt DC H v c ns ls ∧ 1 ≤ ns.length ∧ ns.length ≤ 16 ∧ ∀ H', (∀ b o, H b = some o → H' b = some o) → Q (.bl true) H'
theorem DiaAt.same {DC : Addr} {H H' : Hp} {v : V} {c : Int} {ns : List (Option Int)} {ls : List (Int × Int × Int)} (h : DiaAt DC H v c ns ls) (k : ∀ b o, H b = some o → H' b = some o) : DiaAt DC H' v c ns ls := h.keep (Tk.same k) (Ik.same k)
theorem show_int16 {n : Nat} (h : n ≤ 16) : (PyData.list [.int n]).showable = true ∧ (PyData.list [.int n]).shown.length ≤ sizeLine ∧ (PyData.list [.int n]).depth ≤ 50 := by
  have : n = 0 ∨ n = 1 ∨ n = 2 ∨ n = 3 ∨ n = 4 ∨ n = 5 ∨ n = 6 ∨ n = 7 ∨ n = 8 ∨ n = 9 ∨ n = 10 ∨ n = 11 ∨ n = 12 ∨ n = 13 ∨ n = 14 ∨ n = 15 ∨ n = 16 := by omega
  rcases this with rfl | rfl | rfl | rfl | rfl | rfl | rfl | rfl | rfl | rfl | rfl | rfl | rfl | rfl | rfl | rfl | rfl <;> refine ⟨?_, ?_, ?_⟩ <;> decide +kernel
def rLenS (K : PySem.W.Frag) : List V → Hp → VK → Prop := fun xs H Q => ∃ p ys, xs = [V.ref p] ∧ (SqL K H p ys ∨ SqT K H p ys) ∧ Q (V.int ys.length) H
theorem call_lenS {X : Cx} : CallR X (.builtin "len") (rLenS X.K) := call_len_seq
theorem neD_nil {K : PySem.W.Frag} {H : Hp} {Q : VK} {a b : Addr} (h1 : H a = some (.lst [])) (h2 : H b = some (.lst [])) (q : Q (.bl false) H) : rNeD K (.ref a) (.ref b) H Q :=
  g_neD (K := K) (dp_nilL (SqL.of h1)) (dp_nilL (SqL.of h2)) (pl_shaped pl_nilL (by decide)) (pl_shaped pl_nilL (by decide)) q
theorem g_itup {K : PySem.W.Frag} {σ : L2.St} {H : Hp} {tl : TE} {R : It → Hp → Prop} (h : tl σ H fun x H1 => ∃ a, x = V.ref a ∧ (∃ xs, SqT K H1 a xs) ∧ R (Itt K a) H1) : iTup K tl σ H R := h
theorem g_tq {K : PySem.W.Frag} {H : Hp} {a : Addr} {xs : List V} {P : Addr → Prop} (h1 : SqT K H a xs) (h : P a) : ∃ a', V.ref a = V.ref a' ∧ (∃ xs, SqT K H a' xs) ∧ P a' := ⟨a, rfl, ⟨xs, h1⟩, h⟩
theorem g_dnew {σ : L2.St} {H : Hp} {Q : VK} (h : ∀ p, H p = none → Q (.ref p) (upd H p (.dK []))) : tDNewK σ H Q := h
theorem ne_same {H : Hp} {Q : VK} {x : Str} (q : Q (.bl false) H) : rNe (.str x) (.str x) H Q := ⟨rfl, by rw [decide_eq_true rfl]; exact q⟩
theorem odd_int {K : PySem.W.Frag} {H : Hp} {n i : Int} (h : i < 0 ∨ n ≤ i) (h1 : (PyData.list [.int i]).showable = true ∧ (PyData.list [.int i]).shown.length ≤ sizeLine ∧ (PyData.list [.int i]).depth ≤ 50) : Odd K H n (.int i) := by
  refine ⟨.int i, .int i, .int i, ?_, .int i, h1⟩
  show (decide (0 ≤ i) && decide (i ≤ n - 1)) = false
  rcases h with h | h
  · rw [decide_eq_false (show ¬ 0 ≤ i by omega)]; rfl
  · rw [decide_eq_false (show ¬ i ≤ n - 1 by omega), Bool.and_false]
theorem kp {H : Hp} {p q : Addr} {o o' : HO} (n : H q = none) (h : H p = some o) : upd H q o' p = some o := by rw [upd_ne (ne_of_none h n)]; exact h
end WL
set_option Elab.async false
set_option linter.all false
set_option maxRecDepth 100000
set_option maxHeartbeats 4000000
namespace WL
open PySem PySem.Spec PyProof.Rows L2
/-! ### what the data of a diary may be shown as: small numbers, few parts -/
def smI (i : Int) : Prop := -999999999999 ≤ i ∧ i ≤ 999999999999
structure Sm (d : PyData) : Prop where
  short : PyData.leavesShort 13 d = true
  show_ : d.showable = true
theorem sm_int {i : Int} (h : smI i) : Sm (.int i) := by
  have hl := PyData.shown_int_le2 h.1 h.2
  refine ⟨?_, ?_⟩
  · first
      | exact decide_eq_true hl
      | (show decide _ = true; exact decide_eq_true hl)
  · rw [PyData.showable.eq_4]
    refine decide_eq_true ?_
    by_cases z : i.natAbs = 0
    · rw [z]; decide
    · have : i.natAbs < 2 ^ 1920 := Nat.lt_of_lt_of_le (show i.natAbs < 2 ^ 40 by have := h.1; have := h.2; omega) (Nat.pow_le_pow_right (by decide) (by decide))
      exact (Nat.log2_lt z).mpr this
theorem sm_non : Sm .none := ⟨rfl, rfl⟩
theorem sm_all {ds : List PyData} (h : ∀ d ∈ ds, Sm d) : PyData.leavesShortAll 13 ds = true ∧ PyData.showableAll ds = true := by
  induction ds with
  | nil => exact ⟨rfl, rfl⟩
  | cons d ds ih =>
    obtain ⟨a, b⟩ := ih (fun e he => h e (by simp [he]))
    have hd := h d (by simp)
    refine ⟨?_, ?_⟩
    · rw [PyData.leavesShortAll.eq_2, hd.short, a]; rfl
    · rw [PyData.showableAll.eq_2, hd.show_, b]; rfl
theorem sm_tup {ds : List PyData} (h : ∀ d ∈ ds, Sm d) : Sm (.tuple ds) := ⟨(sm_all h).1, by rw [PyData.showable.eq_6]; exact (sm_all h).2⟩
theorem sm_lst {ds : List PyData} (h : ∀ d ∈ ds, Sm d) : Sm (.list ds) := ⟨(sm_all h).1, by rw [PyData.showable.eq_5]; exact (sm_all h).2⟩
theorem sm_fits {d : PyData} (h : Sm d) (hb : d.bulk ≤ 100000) : d.shown.length ≤ sizeLine := by
  have := PyData.shown_le_bulk 13 (by decide) d h.short
  exact sz' (Nat.le_trans this (by omega))
where sz' {n : Nat} (h : n ≤ 1600000) : n ≤ sizeLine := Nat.le_trans h (by decide)
theorem bulk_all0 {α : Type} (f : α → PyData) (k : Nat) (hf : ∀ a, (f a).bulk = k) : ∀ xs : List α, PyData.bulkAll (xs.map f) = (k + 1) * xs.length
  | [] => by simp [PyData.bulkAll.eq_1]
  | x :: xs => by
    rw [List.map_cons, PyData.bulkAll.eq_2, hf, bulk_all0 f k hf xs, List.length_cons, Nat.mul_add]
    omega
theorem bulk_notes (ns : List (Option Int)) : (notesD ns).bulk = ns.length := by
  show (PyData.tuple (ns.map noteD)).bulk = _
  rw [PyData.bulk.eq_3, bulk_all0 noteD 0 (fun a => by cases a <;> rfl)]
  omega
theorem bulk_lines (ls : List (Int × Int × Int)) : (linesD ls).bulk = 4 * ls.length := by
  show (PyData.tuple (ls.map lineD)).bulk = _
  rw [PyData.bulk.eq_3, bulk_all0 lineD 3 (fun a => rfl)]
theorem sm_notes {c : Int} {ns : List (Option Int)} {ls : List (Int × Int × Int)} {w : Int} (h : DOK c ns ls w) : Sm (notesD ns) := by
  refine sm_tup fun d hd => ?_
  obtain ⟨n, hn, rfl⟩ := List.mem_map.mp hd
  cases n with
  | none => exact sm_non
  | some i =>
    obtain ⟨a, b⟩ := h.note i hn
    have := h.c100
    exact sm_int ⟨by omega, by omega⟩
theorem sm_lines {c : Int} {ns : List (Option Int)} {ls : List (Int × Int × Int)} {w : Int} (h : DOK c ns ls w) (hw : w ≤ 999999999999) : Sm (linesD ls) := by
  refine sm_tup fun d hd => ?_
  obtain ⟨l, hl, rfl⟩ := List.mem_map.mp hd
  obtain ⟨⟨a1, a2⟩, ⟨b1, b2⟩, c1, c2⟩ := h.line l hl
  have := h.n16
  refine sm_tup fun d hd => ?_
  simp only [List.mem_cons, List.not_mem_nil, or_false] at hd
  rcases hd with rfl | rfl | rfl
  · exact sm_int ⟨by omega, by omega⟩
  · exact sm_int ⟨by omega, by omega⟩
  · exact sm_int ⟨by omega, by omega⟩
/-- what a diary is read as -/
def readD (c : Int) (ns : List (Option Int)) (ls : List (Int × Int × Int)) : PyData := .list [.int c, notesD ns, linesD ls, .int ns.length, .int 100, .int 16, .int 60]
def rowD (c : Int) (ns : List (Option Int)) (ls : List (Int × Int × Int)) : List PyData := [.int c, notesD ns, linesD ls]
theorem dok_c {c : Int} {ns : List (Option Int)} {ls : List (Int × Int × Int)} {w : Int} (h : DOK c ns ls w) : Sm (.int c) := sm_int ⟨by have := h.c2; omega, by have := h.c100; omega⟩
theorem sm_read {c : Int} {ns : List (Option Int)} {ls : List (Int × Int × Int)} {w : Int} (h : DOK c ns ls w) (hw : w ≤ 999999999999) : Sm (readD c ns ls) := by
  refine sm_lst fun d hd => ?_
  have := h.n16
  simp only [List.mem_cons, List.not_mem_nil, or_false] at hd
  rcases hd with rfl | rfl | rfl | rfl | rfl | rfl | rfl
  · exact dok_c h
  · exact sm_notes h
  · exact sm_lines h hw
  · exact sm_int ⟨by omega, by omega⟩
  · exact sm_int ⟨by omega, by omega⟩
  · exact sm_int ⟨by omega, by omega⟩
  · exact sm_int ⟨by omega, by omega⟩
theorem bulk_read {c : Int} {ns : List (Option Int)} {ls : List (Int × Int × Int)} : (readD c ns ls).bulk = 7 + ns.length + 4 * ls.length := by
  show (PyData.list _).bulk = _
  rw [PyData.bulk.eq_2]
  simp only [PyData.bulkAll.eq_2, PyData.bulkAll.eq_1, PyData.bulk.eq_7, bulk_notes, bulk_lines]
  omega
theorem sm_row {c : Int} {ns : List (Option Int)} {ls : List (Int × Int × Int)} {w : Int} (h : DOK c ns ls w) (hw : w ≤ 999999999999) : Sm (.list (rowD c ns ls)) := by
  refine sm_lst fun d hd => ?_
  simp only [rowD, List.mem_cons, List.not_mem_nil, or_false] at hd
  rcases hd with rfl | rfl | rfl
  · exact dok_c h
  · exact sm_notes h
  · exact sm_lines h hw
theorem bulk_row {c : Int} {ns : List (Option Int)} {ls : List (Int × Int × Int)} : (PyData.list (rowD c ns ls)).bulk = 3 + ns.length + 4 * ls.length := by
  rw [PyData.bulk.eq_2]
  simp only [rowD, PyData.bulkAll.eq_2, PyData.bulkAll.eq_1, PyData.bulk.eq_7, bulk_notes, bulk_lines]
  omega
theorem pl_read (c : Int) (ns : List (Option Int)) (ls : List (Int × Int × Int)) : pl 3 (readD c ns ls) := by
  intro d hd
  simp only [List.mem_cons, List.not_mem_nil, or_false] at hd
  rcases hd with rfl | rfl | rfl | rfl | rfl | rfl | rfl
  · simp [pl]
  · exact pl_mono' (pl_notes ns) (by decide)
  · exact pl_lines ls
  · simp [pl]
  · simp [pl]
  · simp [pl]
  · simp [pl]
theorem pl_row (c : Int) (ns : List (Option Int)) (ls : List (Int × Int × Int)) : pl 3 (.list (rowD c ns ls)) := by
  intro d hd
  simp only [rowD, List.mem_cons, List.not_mem_nil, or_false] at hd
  rcases hd with rfl | rfl | rfl
  · simp [pl]
  · exact pl_mono' (pl_notes ns) (by decide)
  · exact pl_lines ls
/-- all that repr asks of what is read -/
theorem show_read {c : Int} {ns : List (Option Int)} {ls : List (Int × Int × Int)} {w : Int} (h : DOK c ns ls w) (hw : w ≤ 999999999999) (hl : ls.length ≤ 1000) : (readD c ns ls).showable = true ∧ (readD c ns ls).shown.length ≤ sizeLine ∧ (readD c ns ls).depth ≤ 50 :=
  ⟨(sm_read h hw).show_, sm_fits (sm_read h hw) (by rw [bulk_read]; have := h.n16; omega), Nat.le_trans (pl_lay (pl_read c ns ls)).2 (by decide)⟩
theorem show_row {c : Int} {ns : List (Option Int)} {ls : List (Int × Int × Int)} {w : Int} (h : DOK c ns ls w) (hw : w ≤ 999999999999) (hl : ls.length ≤ 1000) : (PyData.list (rowD c ns ls)).showable = true ∧ (PyData.list (rowD c ns ls)).shown.length ≤ sizeLine ∧ (PyData.list (rowD c ns ls)).depth ≤ 50 :=
  ⟨(sm_row h hw).show_, sm_fits (sm_row h hw) (by rw [bulk_row]; have := h.n16; omega), Nat.le_trans (pl_lay (pl_row c ns ls)).2 (by decide)⟩
end WL
set_option Elab.async false
set_option linter.all false
set_option maxRecDepth 100000
set_option maxHeartbeats 4000000
namespace WL
open PySem PySem.Spec PyProof.Rows L2
/-! ### a diary beside another value -/
structure OddE (K : PySem.W.Frag) (H : Hp) (x : V) : Prop where
  ex : ∃ s, AnS K H x s ∧ WL.Ty H x (.type s.ty)
section
variable {P : Program} {w : World} {K : PySem.W.Frag} {mg : Str → Option Value} {base : Heap} {DC IE : Addr} {H : Hp} {Q : VK} {f : Bool → Bool} {a : Addr} {c : Int} {ns : List (Option Int)} {ls : List (Int × Int × Int)}
theorem g_eqOdd {x : V} (D : DiaF P w K mg base DC IE) (d : DiaAt DC H (.ref a) c ns ls) (o : OddE K H x) (q : Q (.bl (f false)) H) : rOwnEq K DC (spDEq K DC) f (.ref a) x H Q := by
  obtain ⟨s, h1, h2⟩ := o.ex
  exact g_ownEq d h2 (D.nf s) ⟨_, x, c, ns, ls, rfl, d, .inr ⟨s, h1, false, rfl, q⟩⟩
theorem g_eqDia {b : Addr} {c2 : Int} {ns2 : List (Option Int)} {ls2 : List (Int × Int × Int)} (D : DiaF P w K mg base DC IE) (d : DiaAt DC H (.ref a) c ns ls) (e : DiaAt DC H (.ref b) c2 ns2 ls2)
    (q : ∀ r : Bool, (r = true ↔ (c = c2 ∧ ns = ns2 ∧ ls = ls2)) → Q (.bl (f r)) H) : rOwnEq K DC (spDEq K DC) f (.ref a) (.ref b) H Q := by
  obtain ⟨b', dx, wv, bv, eb, hb, _⟩ := e
  cases eb
  refine g_ownEq d (t := .ref DC) (Or.inr (Or.inr (Or.inr ⟨DC, dx, _, rfl, hb⟩))) D.nfD ⟨_, .ref b, c, ns, ls, rfl, d, .inl ⟨c2, ns2, ls2, ⟨b, dx, wv, bv, rfl, hb, ‹_›⟩, fun r hr => ⟨r, rfl, q r hr⟩⟩⟩
end
/-- the row of another diary's values -/
structure RowAt (H : Hp) (v : V) : Prop where
  ex : ∃ c ns ls, Fz H v (.tuple (rowD c ns ls)) ∧ DOK c ns ls 4000 ∧ ls.length ≤ 60
theorem RowAt.tk {H H' : Hp} {v : V} (k : Tk H H') (h : RowAt H v) : RowAt H' v := by
  obtain ⟨c, ns, ls, a, b⟩ := h.ex
  exact ⟨c, ns, ls, a.tk k, b⟩
def spOthers : Sp := fun vs H Q _ => ∃ (m c g : Addr) (B : Int) (v : V) (b : Book), vs = [.ref m, v] ∧ Pr m c g H H B ∧ B < 2 ^ 25 ∧ Fz H v b.d ∧ b.OK 3000 48 ∧ 2 ≤ b.notes.length ∧
  ∀ (p : Addr) (rows : List V) (H' : Hp), H p = none → Pr m c g H H' (B + 2) → H' p = some (.lst rows) → rows.length ≤ 100 → (∀ r ∈ rows, RowAt H' r) → Q (.ref p) H'
def spEqual (K : PySem.W.Frag) (DC : Addr) : Sp := fun vs H Q _ => ∃ (m cc g : Addr) (B : Int) (v d : V) (b : Book), vs = [.ref m, v, d] ∧ Pr m cc g H H B ∧ B < 2 ^ 24 ∧ Fz H v b.d ∧ b.OK 3000 48 ∧ 2 ≤ b.notes.length ∧ DiaAt DC H d b.c b.notes b.lines ∧
  ∀ H', Pr m cc g H H' (B + 2) → Q (.bl true) H'
theorem row_inv {H : Hp} {v : V} {c : Int} {ns : List (Option Int)} {ls : List (Int × Int × Int)} (h : Fz H v (.tuple (rowD c ns ls))) : ∃ a wv bv, v = .ref a ∧ H a = some (.tup [.int c, wv, bv]) ∧ Fz H wv (notesD ns) ∧ Fz H bv (linesD ls) := by
  obtain ⟨a, xs, rfl, h1, h2⟩ := Fz.tup_inv h
  cases h2 with
  | cons c1 h2 => cases h2 with
    | cons c2 h2 => cases h2 with
      | cons c3 h2 =>
        cases h2
        rw [c1.int_inv] at h1
        exact ⟨a, _, _, rfl, h1, c2, c3⟩
def rTupS (K : PySem.W.Frag) : List V → Hp → VK → Prop := fun xs H Q => ∃ p ys, xs = [V.ref p] ∧ ((SqL K H p ys ∧ ∀ l, H l = none → Q (.ref l) (upd H l (.tup ys))) ∨ SqT K H p ys ∧ Q (.ref p) H)
theorem call_tuple_ofS {X : Cx} : CallR X (.type "tuple") (rTupS X.K) := call_tuple_of
theorem LcQ.tup {K : PySem.W.Frag} {g : TG} {tt : TT} {te : TE} {vs : List Nat} {σ : L2.St} {Q : VK} {H1 : Hp} {a : Addr} {xs : List V} (I : Addr → Nat → Hp → Prop) (h0 : ∀ D, H1 D = none → I D 0 (upd H1 D (.lst [])))
    (hl : ∀ D, H1 D = none → ∀ i H, i ≤ xs.length → I D i H → SqT K H a xs)
    (hs : ∀ D, H1 D = none → ∀ (i : Nat) x H, xs[i]? = some x → I D i H → g x (wipe σ vs) H fun σ2 H2 => wipe σ2 vs = wipe σ vs ∧ tt σ2 H2 fun b H3 => if b = true then te σ2 H3 fun y H4 => ∃ acc, H4 D = some (.lst acc) ∧ acc.length < sizeLine ∧ I D (i + 1) (upd H4 D (.lst (acc ++ [y]))) else I D (i + 1) H3)
    (hd : ∀ D, H1 D = none → ∀ H, I D xs.length H → Q (.ref D) H) : LcQ g tt te vs σ Q (Itt K a) H1 :=
  fun D nD => lc_tup (I D) (h0 D nD) (hl D nD) (hs D nD) (hd D nD)
section
variable {K : PySem.W.Frag} {H : Hp}
theorem odde_non : OddE K H .non := ⟨.non, .non, rfl⟩
theorem odde_int (i : Int) : OddE K H (.int i) := ⟨.int i, .int i, rfl⟩
theorem odde_str (x : Str) : OddE K H (.str x) := ⟨.str, .str x, rfl⟩
theorem odde_lst {a : Addr} {xs : List V} (h : H a = some (.lst xs)) : OddE K H (.ref a) := ⟨.lst, .lst (SqL.of h), Or.inl ⟨rfl, _, h⟩⟩
theorem odde_dct {a : Addr} {kvs : List (Key × V)} (h : H a = some (.dK kvs)) : OddE K H (.ref a) := ⟨.dct, .dct h, Or.inr (Or.inr (Or.inl ⟨rfl, _, h⟩))⟩
theorem odde_tup {a : Addr} {xs : List V} {ss : List Sh} (h : H a = some (.tup xs)) (q : AnSs K H xs ss) : OddE K H (.ref a) := ⟨.tup ss, .tup (SqT.of h) q, Or.inr (Or.inl ⟨rfl, _, h⟩)⟩
mutual
theorem Fz.ans : ∀ {v : V} {d : PyData}, Fz H v d → ∃ s, AnS K H v s
  | _, _, .non => ⟨_, .non⟩
  | _, _, .bl b => ⟨_, .bl b⟩
  | _, _, .int i => ⟨_, .int i⟩
  | _, _, .str x => ⟨_, .str x⟩
  | _, _, .tup h q => by
    obtain ⟨ss, z⟩ := q.anss
    exact ⟨_, .tup (SqT.of h) z⟩
theorem Fzs.anss : ∀ {vs : List V} {ds : List PyData}, Fzs H vs ds → ∃ ss, AnSs K H vs ss
  | _, _, .nil => ⟨_, .nil⟩
  | _, _, .cons h q => by
    obtain ⟨s, y⟩ := h.ans
    obtain ⟨ss, z⟩ := q.anss
    exact ⟨_, .cons y z⟩
end
theorem odde_fz {a : Addr} {ds : List PyData} (h : Fz H (.ref a) (.tuple ds)) : OddE K H (.ref a) := by
  obtain ⟨a', xs, e, h1, h2⟩ := Fz.tup_inv h
  cases e
  obtain ⟨ss, z⟩ := h2.anss (K := K)
  exact odde_tup h1 z
theorem g_notBl {a b : Bool} {Q : VK} (q : Q (.bl (!decide (a = b))) H) : rNotB (.bl a) (.bl b) H Q := ⟨a, b, rfl, rfl, q⟩
end
theorem OddE.same {K : PySem.W.Frag} {H H' : Hp} {x : V} (k : ∀ b o, H b = some o → H' b = some o) (h : OddE K H x) : OddE K H' x := by
  obtain ⟨s, a, b⟩ := h.ex
  refine ⟨s, a.same k, ?_⟩
  cases x with
  | ref p =>
    rcases b with ⟨e, xs, z⟩ | ⟨e, xs, z⟩ | ⟨e, xs, z⟩ | ⟨C, dx, fs, e, z⟩
    · exact Or.inl ⟨e, xs, k _ _ z⟩
    · exact Or.inr (Or.inl ⟨e, xs, k _ _ z⟩)
    · exact Or.inr (Or.inr (Or.inl ⟨e, xs, k _ _ z⟩))
    · exact Or.inr (Or.inr (Or.inr ⟨C, dx, fs, e, k _ _ z⟩))
  | _ => exact b
theorem Pr.of_same {m c g : Addr} {H H' : Hp} {B : Int} (p : Pr m c g H H B) (k : ∀ b o, H b = some o → H' b = some o) : Pr m c g H H' B := by
  obtain ⟨⟨n, hn, d1, ⟨l, hl, d2⟩, ⟨l', hl', d3⟩, d4, d5⟩, _⟩ := p
  exact ⟨⟨n, hn, k _ _ d1, ⟨l, hl, k _ _ d2⟩, ⟨l', hl', k _ _ d3⟩, d4, d5⟩, fun b o _ _ h => k b o h⟩
theorem row_eqv {c c2 : Int} {ns ns2 : List (Option Int)} {ls ls2 : List (Int × Int × Int)} : (PyData.tuple (rowD c ns ls)).eqv (.tuple (rowD c2 ns2 ls2)) = true ↔ (c = c2 ∧ ns = ns2 ∧ ls = ls2) := by
  have p1 : pl 3 (.tuple (rowD c ns ls)) := pl_row c ns ls
  have p2 : pl 3 (.tuple (rowD c2 ns2 ls2)) := pl_row c2 ns2 ls2
  rw [pl_eqv p1 p2]
  constructor
  · intro h
    simp only [rowD, PyData.tuple.injEq, List.cons.injEq, PyData.int.injEq, and_true] at h
    exact ⟨h.1, notesD_inj h.2.1, linesD_inj h.2.2⟩
  · rintro ⟨rfl, rfl, rfl⟩; rfl
theorem b_ext {a b : Bool} {P : Prop} (h : a = true ↔ P) (k : b = true ↔ P) : a = b := by
  cases a <;> cases b <;> simp_all
theorem neD_bools {K : PySem.W.Frag} {H : Hp} {Q : VK} {p q : Addr} {r : Bool} (h1 : H p = some (.lst [.bl r, .bl r, .bl (!r)])) (h2 : H q = some (.lst [.bl r, .bl r, .bl (!r)])) (k : Q (.bl false) H) : rNeD K (.ref p) (.ref q) H Q := by
  refine g_neD (K := K) (d := .list [.bool r, .bool r, .bool (!r)]) (e := .list [.bool r, .bool r, .bool (!r)]) (.lst (SqL.of h1) (.cons (.bl _) (.cons (.bl _) (.cons (.bl _) .nil)))) (.lst (SqL.of h2) (.cons (.bl _) (.cons (.bl _) (.cons (.bl _) .nil)))) (by cases r <;> decide +kernel) (by cases r <;> decide +kernel) ?_
  rw [show (PyData.list [.bool r, .bool r, .bool (!r)]).eqv (.list [.bool r, .bool r, .bool (!r)]) = true by cases r <;> decide +kernel]
  exact k
end WL
set_option Elab.async false
set_option linter.all false
set_option maxRecDepth 100000
set_option maxHeartbeats 4000000
namespace WL
open PySem PySem.Spec PyProof.Rows L2
theorem places_rev (n : Nat) : Builtin.Slice.slicePlaces ((n : Int) - 1) (-1) (-1) = n := by
  unfold Builtin.Slice.slicePlaces
  rw [if_neg (by decide)]
  by_cases h : (n : Int) - 1 > -1
  · rw [if_pos h]; simp
  · rw [if_neg h]
    have : n = 0 := by omega
    subst this; rfl
theorem pick_self {α : Type} : ∀ l : List α, (List.range l.length).filterMap (fun k => l[k]?) = l
  | [] => rfl
  | a :: t => by
    rw [List.length_cons, List.range_succ_eq_map, List.filterMap_cons, List.filterMap_map]
    show a :: (List.range t.length).filterMap (fun k => (a :: t)[k + 1]?) = a :: t
    have := pick_self t
    simp only [List.getElem?_cons_succ]
    rw [this]
theorem fm_congr {α β : Type} {f g : α → Option β} : ∀ {l : List α}, (∀ x ∈ l, f x = g x) → l.filterMap f = l.filterMap g
  | [], _ => rfl
  | x :: l, h => by
    rw [List.filterMap_cons, List.filterMap_cons, h x (by simp), fm_congr (l := l) fun y hy => h y (by simp [hy])]
theorem pick_rev {α : Type} (xs : Array α) : ((List.range xs.size).filterMap fun (k : Nat) => xs[((xs.size : Int) - 1 + (k : Int) * -1).toNat]?).toArray = xs.toList.reverse.toArray := by
  congr 1
  have h := pick_self xs.toList.reverse
  rw [List.length_reverse, Array.length_toList] at h
  refine Eq.trans (fm_congr fun k hk => ?_) h
  have hk' : k < xs.size := List.mem_range.mp hk
  rw [List.getElem?_reverse (by simpa using hk'), show ((xs.size : Int) - 1 + (k : Int) * -1).toNat = xs.toList.length - 1 - k by rw [Array.length_toList]; omega]
  simp
theorem slice_rev {prog : Program} {w : World} {A : Around} {E : Value → Shared → Prop} {s : Shared} {sl : Addr} {vl vu vs : Value} {n : Nat} {Q : Int × Int × Nat → Shared → Prop} (hs : s.heap.IsSliceOf sl vl vu vs) (pl : IsPart vl none) (pu : IsPart vu none) (ps : IsPart vs (some (-1))) (h : Q ((n : Int) - 1, -1, n) s) :
    wpAny (model prog w) A (Builtin.Slice.sliceApplied (.ref sl) (pure (n : Int))) Q E s := by
  obtain ⟨o, ho, hc, hd⟩ := hs
  unfold Builtin.Slice.sliceApplied
  refine wpAny_bind ?_
  unfold Builtin.Slice.sliceFields
  refine wpAny_bind (wpAny_field ho hd rfl (wpAny_bind (wpAny_field ho hd rfl (wpAny_bind (wpAny_field ho hd rfl (wpAny_pure ?_))))))
  refine wpAny_bind (HT.slicePart_ ps ?_)
  refine wpAny_ite_false (by rfl) ?_
  refine wpAny_bind (HT.slicePart_ pl (wpAny_bind (HT.slicePart_ pu (wpAny_bind (wpAny_pure ?_)))))
  show wpAny _ _ (pure ((n : Int) - 1, -1, Builtin.Slice.slicePlaces ((n : Int) - 1) (-1) (-1))) Q E s
  rw [places_rev]
  exact wpAny_pure h
theorem getItem_tuple_rev {prog : Program} {w : World} {A : Around} {E : Value → Shared → Prop} {s : Shared} {t sl : Addr} {items : Array Value} {vl vu vs : Value} {Q : Value → Shared → Prop} (ht : PyProof.Rows.IsTup s.heap t items) (hs : s.heap.IsSliceOf sl vl vu vs) (pl : IsPart vl none) (pu : IsPart vu none) (ps : IsPart vs (some (-1))) (hsz : items.size ≤ sizeLine)
    (h : Q (.ref s.heap.objs.size) { heap := s.heap.push { cls := .type "tuple", data := .seq items.toList.reverse.toArray }, gens := s.gens, drawn := s.drawn, toks := s.toks, os := s.os }) : wpAny (model prog w) A (getItem (.ref t) (.ref sl)) Q E s := by
  have hs0 := hs
  obtain ⟨os, hos, hcs, hds⟩ := hs0
  have hTs : s.TypeIs (.ref sl) "slice" := ⟨os, hos, hcs⟩
  refine id (wpAny_holding (wpAny_bind (wpAny_sequenceKey (IsTup.typeIs ht) (by decide) (wpAny_bind (wpAny_callSpecial?_slot (IsTup.typeIs ht) slot_tuple_getitem (wpAny_call_entry slot_tuple_getitem (IsTup.typeIs ht) entry_tuple_getitem ?_))))))
  refine wpAny_bind ?_
  show wpAny _ _ (pure (Value.ref t, [Value.ref sl])) _ _ _
  refine wpAny_pure ?_
  refine wpAny_bind (tupleItemsOf_ ht (wpAny_bind (wpAny_typeOf hTs ?_)))
  refine wpAny_ite_true (by rfl) ?_
  refine wpAny_bind (slice_rev hs pl pu ps ?_)
  refine wpAny_ite_false ?_ ?_
  · show decide (((items.size : Int) - 1 == 0 && (-1 : Int) == 1 && items.size == items.size) = true) = false
    refine decide_eq_false ?_
    simp
  · rw [pick_rev]
    unfold Builtin.Tuple.tupleExact
    refine wpAny_bind (wpAny_newObj_type ?_ ?_)
    · exact wpAny_pure ⟨_, rfl, wpAny_pure h⟩
    · show items.toList.reverse.toArray.size ≤ sizeLine
      simpa using hsz
/-- xs[::-1] of a tuple -/
def tRevT (K : PySem.W.Frag) (te : TE) : TE := fun σ H Q => te σ H fun x H1 => ∃ a xs, x = V.ref a ∧ SqT K H1 a xs ∧ ∀ p, H1 p = none → Q (V.ref p) (upd H1 p (.tup xs.reverse))
theorem pe_revT {X : Cx} {e : Expr} {te : TE} {k : Nat} {p1 p2 p3 pos : Pos} (he : PE X e te) : PE X (e.Subscript (Expr.Slice none none (some (Expr.UnaryOp UnaryOp.USub (Expr.Constant (Const.int 1) k p1) p2)) p3) pos) (tRevT X.K te) := by
  constructor
  intro pins s σ H Q I h
  refine PyProof.Rows.Subscript_ (thn (he.run pins s σ H _ I h) ?_)
  rintro v s1 ⟨x, H1, I1, r1, a, xs, rfl, hx, q⟩
  cases r1
  have hst : PO X (some (Expr.UnaryOp UnaryOp.USub (Expr.Constant (Const.int 1) k p1) p2)) _ := po_some (pe_un un_neg pe_int)
  refine wpAny_Slice (thn (po_none.run pins s1 σ H1 (fun o H2 => o = none ∧ H2 = H1) I1 ⟨rfl, rfl⟩) ?_)
  rintro vl s2 ⟨l, H2, I2, pl, rfl, e2⟩
  subst e2
  refine thn (po_none.run pins s2 σ H2 (fun o H3 => o = none ∧ H3 = H2) I2 ⟨rfl, rfl⟩) ?_
  rintro vu s3 ⟨u, H3, I3, pu, rfl, e3⟩
  subst e3
  refine thn (hst.run pins s3 σ H3 (fun o H4 => o = some (-1) ∧ H4 = H3) I3 ⟨1, rfl, -1, rfl, rfl, rfl⟩) ?_
  rintro vs s4 ⟨o, H4, I4, ps, rfl, e4⟩
  subst e4
  have I5 := Inv.kept (t' := s4.toks) (h' := s4.heap.push { cls := .type "slice", data := .fields #[vl, vu, vs] }) I4 fun b ob q => Heap.get?_push_of_some _ q
  obtain ⟨its, r, ht, hz⟩ := Inv.tuple I5 hx
  have hlen := r.length
  refine tail_any (IsTup.typeIs ht) slot_tuple_getitem.lookup (getItem_tuple_rev ht (Heap.IsSliceOf.new s4.heap vl vu vs) pl pu ps (by rw [List.size_toArray]; omega) ?_) rfl
  refine ⟨.ref (s4.heap.push { cls := .type "slice", data := .fields #[vl, vu, vs] }).objs.size, upd H4 (s4.heap.push { cls := .type "slice", data := .fields #[vl, vu, vs] }).objs.size (.tup xs.reverse), Inv.laid I5 (fun b ob q => Heap.get?_push_of_some _ q) (Nat.le_refl _) ⟨by rw [List.length_reverse]; exact hz, its.reverse, Vals.reverse r, _, Heap.get?_push_size _ rfl, rfl, 0, rfl⟩, rfl, q _ (I5.hok.fresh (Nat.le_refl _))⟩
theorem g_revT {K : PySem.W.Frag} {te : TE} {σ : L2.St} {H : Hp} {Q : VK} (h : te σ H fun x H1 => ∃ a xs, x = V.ref a ∧ SqT K H1 a xs ∧ ∀ p, H1 p = none → Q (V.ref p) (upd H1 p (.tup xs.reverse))) : tRevT K te σ H Q := h
/-! ### rows of values before those too great are left out -/
structure RowC (c : Int) (ns : List (Option Int)) (ls : List (Int × Int × Int)) : Prop where
  c2 : 2 ≤ c
  c101 : c ≤ 1000
  n1 : 1 ≤ ns.length
  note : ∀ i : Int, some i ∈ ns → 0 ≤ i ∧ i < c
  line : ∀ l ∈ ls, (0 ≤ l.1 ∧ l.1 < ns.length) ∧ (0 ≤ l.2.1 ∧ l.2.1 < ns.length) ∧ -4000 ≤ l.2.2 ∧ l.2.2 ≤ 4000
structure RowB (H : Hp) (v : V) : Prop where
  ex : ∃ c ns ls, Fz H v (.tuple (rowD c ns ls)) ∧ RowC c ns ls
theorem RowB.tk {H H' : Hp} {v : V} (k : Tk H H') (h : RowB H v) : RowB H' v := by
  obtain ⟨c, ns, ls, a, b⟩ := h.ex
  exact ⟨c, ns, ls, a.tk k, b⟩
theorem rowC_of {b : Book} (h : b.OK 3000 48) : RowC b.c b.notes b.lines := by
  obtain ⟨⟨a1, a2, a3, a4, a5, a6⟩, _, _⟩ := h
  refine ⟨a1, by omega, a3, a5, fun l hl => ?_⟩
  obtain ⟨x, y, z, u⟩ := a6 l hl
  exact ⟨x, y, by omega, by omega⟩
theorem mk_row {H : Hp} {a : Addr} {c : Int} {n l : V} {ns : List (Option Int)} {ls : List (Int × Int × Int)} (h : H a = some (.tup [.int c, n, l])) (hn : Fz H n (notesD ns)) (hl : Fz H l (linesD ls)) (r : RowC c ns ls) : RowB H (.ref a) := ⟨c, ns, ls, .tup h (.cons (.int c) (.cons hn (.cons hl .nil))), r⟩
theorem RowC.notes {c : Int} {ns ns' : List (Option Int)} {ls : List (Int × Int × Int)} (r : RowC c ns ls) (hl : ns.length ≤ ns'.length) (h : ∀ i : Int, some i ∈ ns' → some i ∈ ns ∨ (0 ≤ i ∧ i < c)) : RowC c ns' ls := by
  obtain ⟨a1, a2, a3, a4, a5⟩ := r
  refine ⟨a1, a2, by omega, fun i hi => (h i hi).elim (a4 i) id, fun l hl' => ?_⟩
  obtain ⟨x, y, z⟩ := a5 l hl'
  exact ⟨⟨x.1, by omega⟩, ⟨y.1, by omega⟩, z⟩
theorem RowC.lines {c : Int} {ns : List (Option Int)} {ls ls' : List (Int × Int × Int)} (r : RowC c ns ls) (h : ∀ l ∈ ls', l ∈ ls ∨ ((0 ≤ l.1 ∧ l.1 < ns.length) ∧ (0 ≤ l.2.1 ∧ l.2.1 < ns.length) ∧ -4000 ≤ l.2.2 ∧ l.2.2 ≤ 4000)) : RowC c ns ls' := by
  obtain ⟨a1, a2, a3, a4, a5⟩ := r
  exact ⟨a1, a2, a3, a4, fun l hl => (h l hl).elim (a5 l) id⟩
theorem RowC.up {c : Int} {ns : List (Option Int)} {ls : List (Int × Int × Int)} (r : RowC c ns ls) (h : c < 1000) : RowC (c + 1) ns ls := by
  obtain ⟨a1, a2, a3, a4, a5⟩ := r
  exact ⟨by omega, by omega, a3, fun i hi => by have := a4 i hi; omega, a5⟩
theorem RowB.at_ {H : Hp} {c : Int} {ns : List (Option Int)} {ls : List (Int × Int × Int)} (r : RowC c ns ls) (h1 : c < 101) (h2 : ns.length < 17) (h3 : ls.length < 61) : DOK c ns ls 4000 ∧ ls.length ≤ 60 := by
  obtain ⟨a1, a2, a3, a4, a5⟩ := r
  exact ⟨⟨a1, by omega, a3, by omega, a4, a5⟩, by omega⟩
theorem notes_rev (ns : List (Option Int)) : (ns.map noteV).reverse = ns.reverse.map noteV := by rw [List.map_reverse]
def spLaw (K : PySem.W.Frag) : Sp := fun vs H Q _ => ∃ (a : Addr) (ns : List Int), vs = [.ref a] ∧ SqL K H a (ns.map V.int) ∧ ns.length ≤ 63 ∧ ∀ H', Q (.bl true) H'
/-- Diary.of(2, 1) -/
def spOf (DC : Addr) : Sp := fun vs H Q _ => ∃ i j : Int, vs = [.ref DC, .int i, .int j] ∧ (2 ≤ i ∧ i ≤ 100) ∧ (0 ≤ j ∧ j < i) ∧ ∀ (x : Addr) (H' : Hp), H x = none → DiaAt DC H' (.ref x) i [some j] [] → (∀ b o, H b = some o → H' b = some o) → Q (.ref x) H'
end WL
set_option Elab.async false
set_option linter.all false
set_option maxRecDepth 100000
set_option maxHeartbeats 4000000
namespace WL
open PySem PySem.Spec PyProof.Rows L2
/-! ### zip of two lists -/
section
variable {σ : L2.St} {H H1 : Hp} {Q : VK} {D : Ends} {K : PySem.W.Frag} {g : TG} {tt : TT} {te : TE} {vs : List Nat} {tb : TS}
theorem g_zip {ta : TA} {R : It → Hp → Prop} (h : ta σ H fun vs H1 => ∃ a b xs ys, vs = [.ref a, .ref b] ∧ SqL K H1 a xs ∧ SqL K H1 b ys ∧ R (Itz K a b) H1) : iZip K ta σ H R := h
theorem g_zq {a b : Addr} {xs ys : List V} {P : Addr → Addr → Prop} (h1 : SqL K H a xs) (h2 : SqL K H b ys) (h : P a b) : ∃ a' b' xs' ys', [V.ref a, V.ref b] = [V.ref a', V.ref b'] ∧ SqL K H a' xs' ∧ SqL K H b' ys' ∧ P a' b' := ⟨a, b, xs, ys, rfl, h1, h2, h⟩
theorem ForQ.zip {a b : Addr} {xs ys : List V} (hl : xs.length = ys.length) (I : Nat → L2.St → Hp → Prop) (h0 : I 0 σ H1) (hq : ∀ i σ H, I i σ H → SqL K H a xs ∧ SqL K H b ys)
    (hs : ∀ (i : Nat) (x y : V) (T : Addr) (σ : L2.St) (H : Hp), xs[i]? = some x → ys[i]? = some y → I i σ H → H T = none → g (.ref T) σ (upd H T (.tup [x, y])) fun σ2 H2 => tb { D with nx := I (i + 1), ct := I (i + 1), bk := D.nx } σ2 H2) (hd : ∀ σ H, I xs.length σ H → D.nx σ H) : ForQ g tb D σ (Itz K a b) H1 := RZ.for_zipL hl I h0 hq hs hd
theorem LcQ.zip {a b : Addr} {xs ys : List V} (hl : xs.length = ys.length) (I : Addr → Nat → Hp → Prop) (h0 : ∀ D, H1 D = none → I D 0 (upd H1 D (.lst [])))
    (hq : ∀ D, H1 D = none → ∀ i H, I D i H → SqL K H a xs ∧ SqL K H b ys)
    (hs : ∀ D, H1 D = none → ∀ (i : Nat) (x y : V) (T : Addr) (H : Hp), xs[i]? = some x → ys[i]? = some y → I D i H → H T = none → g (.ref T) (wipe σ vs) (upd H T (.tup [x, y])) fun σ2 H2 => wipe σ2 vs = wipe σ vs ∧ tt σ2 H2 fun b H3 => if b = true then te σ2 H3 fun y H4 => ∃ acc, H4 D = some (.lst acc) ∧ acc.length < sizeLine ∧ I D (i + 1) (upd H4 D (.lst (acc ++ [y]))) else I D (i + 1) H3)
    (hd : ∀ D, H1 D = none → ∀ H, I D xs.length H → Q (.ref D) H) : LcQ g tt te vs σ Q (Itz K a b) H1 := by
  intro D nD
  refine ⟨fun i m H => m = xs.length - i ∧ i ≤ xs.length ∧ I D i H, ⟨xs.length, rfl, Nat.zero_le _, h0 D nD⟩, ?_⟩
  rintro i m H ⟨rfl, hi, p⟩
  obtain ⟨qx, qy⟩ := hq D nD i H p
  by_cases hlt : i < xs.length
  · have hx : xs[i]? = some xs[i] := List.getElem?_eq_getElem hlt
    have hlt2 : i < ys.length := by omega
    have hy : ys[i]? = some ys[i] := List.getElem?_eq_getElem hlt2
    refine .inr ⟨⟨xs, ys, _, _, qx, qy, hx, hy⟩, I D (i + 1), fun H' p' => ⟨xs.length - (i + 1), by omega, rfl, hlt, p'⟩, fun v H' y => ?_⟩
    obtain ⟨T, x', y', rfl, hT, rfl, f1, f2⟩ := y
    exact hs D nD i x' y' T H (f1 xs qx) (f2 ys qy) p hT
  · have e : i = xs.length := by omega
    subst e
    exact .inl ⟨⟨xs, ys, qx, qy, Or.inl (Nat.le_refl _)⟩, hd D nD H p⟩
theorem g_cmeth {C : Addr} {sp : Sp} {E : XK} {ta : TE} {t : TA} (h : ta σ H fun x H1 => x = .ref C ∧ t σ H1 fun vs H2 => sp (.ref C :: vs) H2 Q E) : ClX.tCMeth C sp E ta t σ H Q := h
theorem g_rep {l : Addr} {k : Int} {xs : List V} (h : H l = some (.lst xs)) (h1 : 0 ≤ k) (h2 : k ≤ 1000) (h3 : xs.length ≤ 100) (q : ∀ p, H p = none → Q (.ref p) (upd H p (.lst (List.replicate k.toNat xs).flatten))) : rRep (.ref l) (.int k) H Q := by
  refine ⟨l, k, xs, rfl, rfl, h, by omega, by omega, ?_, q⟩
  have e : xs.length * k.toNat ≤ 100 * 1000 := Nat.mul_le_mul h3 (by omega)
  exact Nat.le_trans e (by decide)
theorem g_repT {l : Addr} {k : Int} {xs : List V} (h : SqT K H l xs) (h0 : xs ≠ []) (h1 : 2 ≤ k) (h2 : k ≤ 1000) (h3 : xs.length ≤ 1000) (q : ∀ p, H p = none → Q (.ref p) (upd H p (.tup (List.replicate k.toNat xs).flatten))) : rRepT K (.ref l) (.int k) H Q := ⟨l, k, xs, rfl, rfl, h, h0, h1, h2, h3, q⟩
end
/-! ### books and their diaries -/
structure BkAt (H : Hp) (v : V) : Prop where
  ex : ∃ b : Book, Fz H v b.d ∧ 2 ≤ b.notes.length ∧ b.OK 3000 48
theorem BkAt.tk {H H' : Hp} {v : V} (k : Tk H H') (h : BkAt H v) : BkAt H' v := by
  obtain ⟨b, f, n, o⟩ := h.ex
  exact ⟨b, f.tk k, n, o⟩
structure PairAt (DC : Addr) (H : Hp) (x y : V) : Prop where
  ex : ∃ b : Book, Fz H x b.d ∧ 2 ≤ b.notes.length ∧ b.OK 3000 48 ∧ DiaAt DC H y b.c b.notes b.lines
theorem PairAt.keep {DC : Addr} {H H' : Hp} {x y : V} (t : Tk H H') (i : Ik H H') (h : PairAt DC H x y) : PairAt DC H' x y := by
  obtain ⟨b, f, n, o, d⟩ := h.ex
  exact ⟨b, f.tk t, n, o, d.keep t i⟩
theorem Ik.updL {H : Hp} {p : Addr} {o : HO} {xs : List V} (q : H p = some (.lst xs)) : Ik H (upd H p o) := fun b C dx fs h => by
  rw [upd_ne (fun e => by subst e; rw [q] at h; cases h)]; exact h
theorem fzs_rep {H : Hp} {v : V} {d : PyData} (h : Fz H v d) : ∀ n : Nat, Fzs H (List.replicate n v) (List.replicate n d)
  | 0 => .nil
  | n + 1 => .cons h (fzs_rep h n)
theorem bulk_two (d : PyData) : (PyData.list [d, d]).bulk = 2 + 2 * d.bulk := by
  rw [PyData.bulk.eq_2]
  simp only [PyData.bulkAll.eq_2, PyData.bulkAll.eq_1]
  omega
theorem show_two {c : Int} {ns : List (Option Int)} {ls : List (Int × Int × Int)} {w : Int} (h : DOK c ns ls w) (hw : w ≤ 999999999999) (hl : ls.length ≤ 1000) : (PyData.list [readD c ns ls, readD c ns ls]).showable = true ∧ (PyData.list [readD c ns ls, readD c ns ls]).shown.length ≤ sizeLine ∧ (PyData.list [readD c ns ls, readD c ns ls]).depth ≤ 50 := by
  have s : Sm (.list [readD c ns ls, readD c ns ls]) := sm_lst fun d hd => by
    simp only [List.mem_cons, List.not_mem_nil, or_false, or_self] at hd
    subst hd
    exact sm_read h hw
  have p : pl 4 (.list [readD c ns ls, readD c ns ls]) := fun d hd => by
    simp only [List.mem_cons, List.not_mem_nil, or_false, or_self] at hd
    subst hd
    exact pl_read c ns ls
  exact ⟨s.show_, sm_fits s (by rw [bulk_two, bulk_read]; have := h.n16; omega), Nat.le_trans (pl_lay p).2 (by decide)⟩
/-! ### a class held by a local name is called -/
def tMakeL (i : Nat) (C : Addr) (sp : Sp) (dvs : List V) (E : XK) (t : TA) : TE := fun σ H Q => σ[i]? = some (some (.ref C)) ∧ tMake C sp dvs E t σ H Q
theorem g_makeL {i : Nat} {C : Addr} {sp : Sp} {dvs : List V} {E : XK} {t : TA} {σ : L2.St} {H : Hp} {Q : VK} (h1 : σ[i]? = some (some (.ref C))) (h : tMake C sp dvs E t σ H Q) : tMakeL i C sp dvs E t σ H Q := ⟨h1, h⟩
theorem pe_makeL {X : Cx} {CX : CXT} {k i : Nat} {f C : Addr} {fd : FuncData} {ps : List Str} {sp : Sp} {dvs : List V} {ds : List Value} {E : XK} {x : Str} {p pos : Pos} {e : Expr} {es : List Expr} {t : TA} (M : Mk X.K C f) (F : FnOk X.prog X.w X.K X.mg X.base CX k f fd ps sp) (hr : Room (k + 1) X.A) (hN : X.N[i]? = some x) (hv : Vis X.env.scope x)
    (hb : Binds X.K fd ps ds) (hd : Vals dvs ds) (hx : Passes CX X E) (ha : PA X (e :: es) t) (hdb : (x == ("__debug__" : Str)) = false := by decide) (hcd : (x == ("__classdict__" : Str)) = false := by decide)
    (he : starEach (e :: es) X.env = (false, eval e X.env) :: starEach es X.env := by rfl) (hpl : (backTo pos (starEach es X.env)).any (·.1) = false := by rfl) : PE X (.Call (.Name x p) (e :: es) [] pos) (tMakeL i C sp dvs E t) := by
  refine ⟨fun pins s σ H Q I h => ?_⟩
  obtain ⟨hs, ht⟩ := h
  refine wpAny_Call_Name_kw (thn ((pe_var (pos := p) hN hv hdb hcd).run pins s σ H (fun v H1 => v = .ref C ∧ H1 = H) I ⟨.ref C, hs, rfl, rfl⟩) fun u s1 ⟨v, H1, I1, r1, q1⟩ => ?_)
  obtain ⟨rfl, rfl⟩ := q1
  cases r1
  refine PySem.W.callWith_K (h₀ := X.base) I.ok.mod.kin M.kp (thn (ha.run pos pins s1 σ _ _ I1 ht) fun us s2 ⟨vs, H2, I2, r, q⟩ => ⟨I2.kIn, ?_⟩) he hpl
  exact run_make M F hr hb hd hx I2 r q
/-- Diary.of(2, 1), what is behind the first two in a tuple -/
def spOfT (DC : Addr) : Sp := fun vs H Q _ => ∃ (i j : Int) (p : Addr), vs = [.ref DC, .int i, .ref p] ∧ H p = some (.tup [.int j]) ∧ (2 ≤ i ∧ i ≤ 100) ∧ (0 ≤ j ∧ j < i) ∧ ∀ (x : Addr) (H' : Hp), H x = none → DiaAt DC H' (.ref x) i [some j] [] → (∀ b o, H b = some o → H' b = some o) → Q (.ref x) H'
theorem of_star {DC : Addr} : ∀ vs H Q E, spOf DC vs H Q E → ∃ ws rest, vs = ws ++ rest ∧ ws.length = (["cls", "modulus"] : List Str).length ∧ rest.length ≤ sizeLine ∧ ∀ p, H p = Option.none → spOfT DC (ws ++ [V.ref p]) (upd H p (.tup rest)) Q E := by
  rintro vs H Q E ⟨i, j, rfl, hi, hj, q⟩
  refine ⟨[.ref DC, .int i], [.int j], rfl, rfl, by simp [sizeLine_eq], fun p np => ⟨i, j, p, rfl, upd_same, hi, hj, fun x H' nx d s => ?_⟩⟩
  have u := same_up (o := .tup [.int j]) np (H := H) (fun _ _ h => h)
  exact q x H' (none_up nx u) d fun b o h => s _ _ (u _ _ h)
/-- a class method as the head sees it -/
def cmB (K : PySem.W.Frag) (C : Addr) (m : Str) : Bool := He5.wrapB K C "classmethod" "classmethod.__get__" m && PySem.W.fnIn K (He5.wf K C "classmethod" m)
theorem cmB_ok {K : PySem.W.Frag} {C : Addr} {m : Str} (h : cmB K C m = true) : ClX.CMet K C (.type "type") m (He.ma K C m) (He5.wf K C "classmethod" m) := by
  obtain ⟨a, b⟩ := He.ba h
  exact He5.cmet_of a b
theorem wf_rec {K : PySem.W.Frag} {C : Addr} {T : String} {m : Str} : He5.wf K C T m = recAd K (He.ma K C m) T := by
  unfold He5.wf recAd
  rfl
end WL
set_option Elab.async false
set_option linter.all false
set_option maxRecDepth 100000
set_option maxHeartbeats 4000000
namespace WL
open PySem PySem.Spec PyProof.Rows L2
/-! ### the end of a law that shows values and makes lambdas -/
/-- the module that the builtins stand in -/
def BmW (mg : Str → Option Value) (h : Heap) : Prop := ∃ (b : Addr) (o : Obj), mg "__builtins__" = some (.ref b) ∧ b ≠ builtinsNs ∧ h.get? b = some o ∧ o.cls = .type "module" ∧ o.dict = some builtinsNs ∧ o.data = .plain
section
variable {P : Program} {w : World} {K : PySem.W.Frag} {mg mb : Str → Option Value} {k : Nat} {fa a : Addr} {fd : FuncData} {x : Str} {sp : Sp} {s : Shared} {vs : List Value} {ns : List Int} {cs : List (Addr × Addr)}
/-- the script and the empty tables -/
def atLawT (K : PySem.W.Frag) (cs : List (Addr × Addr)) (a : Addr) (vs : List Value) (ns : List Int) : Hp := fun b => if b ∈ cs.map Prod.snd then some (.tbl #[]) else atLaw K a vs ns b
theorem law_gT (kin : K.In s.heap) (gl : s.heap.Ns mainGlobals mg) (bl : s.heap.Ns builtinsNs mb) (bb : ∀ x : Str, x ≠ "__name__" → mb x = bootBuiltins x) (lim : s.heap.NoLimit) (gens : s.gens = #[]) (bm : BmW mg s.heap)
    (tE : ∀ p ∈ cs, s.heap.get? p.2 = some (PySem.W.tabObj #[])) (tK : ∀ p ∈ cs, K.lookup p.2 = none) (tC : ∀ p ∈ cs, PySem.W.CodeHd s.heap p.1 p.2)
    (ha : s.heap.get? a = some { cls := .type "list", data := .seq vs.toArray }) (hi : IntsAre vs ns) (hl : ns.length ≤ sizeLine) (hr : Room k callerA)
    (F : ∀ base : Heap, K.In base → base.Ns mainGlobals mg → (∀ p ∈ cs, LamX.TabB base mg p.1 p.2) → GOk P w K mg base k fa fd [x] sp) (bind : ∀ (s : Shared) (u : Value), BindsTo s fd ⟨[u], []⟩ [(x, u)])
    (hsp : ∀ H : Hp, (∀ p ∈ cs, H p.2 = some (.tbl #[])) → SqL K H a (ns.map V.int) → sp [.ref a] H (fun v _ => v = .bl true) fun _ _ _ => False) :
    codeAny (model P w) callerA (.call (.ref fa) ⟨[.ref a], []⟩) (fun r s' => r = .ok (.ret (.bool true)) ∧ PySem.OldK s.heap s'.heap ∧ s'.os = s.os ∧ AllBare s'.gens) s := by
  have hv := vals_ints hi
  have isTab : ∀ {b : Addr}, b ∈ cs.map Prod.snd → s.heap.get? b = some (PySem.W.tabObj #[]) := fun {b} m => by
    obtain ⟨p, hp, rfl⟩ := List.mem_map.mp m
    exact tE p hp
  have notTab : ∀ {b : Addr} {o : Obj}, s.heap.get? b = some o → o.data ≠ .fields #[] → b ∉ cs.map Prod.snd := fun {b o} e d m => by
    rw [isTab m] at e
    cases e
    exact d rfl
  have aNo : a ∉ cs.map Prod.snd := notTab ha (fun z => nomatch z)
  have atA : ∀ {b : Addr}, b ∉ cs.map Prod.snd → atLawT K cs a vs ns b = atLaw K a vs ns b := fun m => if_neg m
  have atT : ∀ {b : Addr}, b ∈ cs.map Prod.snd → atLawT K cs a vs ns b = some (.tbl #[]) := fun m => if_pos m
  have hok : HOk P w (atLawT K cs a vs ns) s.heap := by
    intro b o hb
    by_cases m : b ∈ cs.map Prod.snd
    · rw [atT m] at hb
      cases hb
      exact isTab m
    · rw [atA m] at hb
      obtain ⟨rfl, _, rfl⟩ := atLaw_some hb
      exact ⟨ha, by rw [List.length_map]; exact hl, vs, _, hv, ha⟩
  have seen : SqL K (atLawT K cs a vs ns) a (ns.map V.int) := by
    cases q : K.lookup a with
    | none => exact .inl (.inr ⟨_, (atA aNo).trans (if_pos ⟨rfl, q⟩)⟩)
    | some o =>
      have e := (kin a o q).symm.trans ha
      cases e
      exact .inr ⟨_, vs.toArray, _, q, rfl, rfl, rfl, by rw [List.size_toArray, hi.length]; exact hl, by simpa using hv⟩
  have ground : ∀ {b : Addr} {o : Obj}, s.heap.get? b = some o → (b = a → K.lookup a ≠ none) → b ∉ cs.map Prod.snd → (hidT s.heap (atLawT K cs a vs ns)).get? b = some o := fun {b o} e n m => hidT_get e (by
    rw [atA m]
    exact if_neg fun c => n c.1 c.2)
  have notA : ∀ {b : Addr} {o : Obj}, s.heap.get? b = some o → (∀ ys n, o.data ≠ .seq ys n) → b ≠ a := fun {b o} e d z => by
    rw [z, ha] at e
    cases e
    exact d _ _ rfl
  have nsG : ∀ {b : Addr} {m : Str → Option Value}, s.heap.Ns b m → (hidT s.heap (atLawT K cs a vs ns)).Ns b m := fun {b m} ⟨o, es, ep, e, d, r⟩ =>
    ⟨o, es, ep, ground e (fun z => absurd z (notA e (by rw [d]; exact fun _ _ z => nomatch z))) (notTab e (by rw [d]; exact fun z => nomatch z)), d, r⟩
  have kin' : K.In (hidT s.heap (atLawT K cs a vs ns)) := fun b o e => ground (kin b o e) (fun z n => by rw [z, n] at e; cases e) (fun m => by
    obtain ⟨p, hp, rfl⟩ := List.mem_map.mp m
    rw [tK p hp] at e
    cases e)
  have tb : ∀ p ∈ cs, LamX.TabB (hidT s.heap (atLawT K cs a vs ns)) mg p.1 p.2 := fun p hp => by
    have eP := tE p hp
    constructor
    · obtain ⟨o, us, file, tf, flags, tg, inF, text, tt, e1, r1, r2, r3, rest⟩ := tC p hp
      refine ⟨o, us, file, tf, flags, tg, inF, text, tt, ground e1 (fun z => absurd z (notA e1 (by rw [r2]; exact fun _ _ z => nomatch z))) (notTab e1 (by
        rw [r2]
        intro z
        cases z
        simp at r3)), r1, r2, r3, rest⟩
    · obtain ⟨b, o, b1, b2, b3, b4, b5, b6⟩ := bm
      have n1 : b ≠ mainGlobals := fun z => by
        obtain ⟨og, es, ep, e, d, _⟩ := gl
        rw [z, e] at b3
        cases b3
        rw [d] at b6
        cases b6
      have n2 : b ≠ p.2 := fun z => by
        rw [z, eP] at b3
        cases b3
        cases b6
      exact ⟨b, o, b1, b2, n1, n2, ground b3 (fun z => absurd z (notA b3 (by rw [b6]; exact fun _ _ z => nomatch z))) (notTab b3 (by rw [b6]; exact fun z => nomatch z)), b4, b5, b6⟩
    · intro z
      obtain ⟨og, es, ep, e, d, _⟩ := gl
      rw [z, eP] at e
      cases e
      cases d
  obtain ⟨ml, l1, l2⟩ := lim
  have e0 : Env0 P w K mg (hidT s.heap (atLawT K cs a vs ns)) callerA [] s (atLawT K cs a vs ns) :=
    ⟨rfl, ⟨kin', nsG gl, ⟨mb, nsG bl, bb⟩, ⟨ml, nsG l1, l2⟩⟩, fun _ _ e => of_hidT e, Nat.le_of_eq (hidT_size _ _), trivial, fun b hb => absurd hb List.not_mem_nil, hok, .of_eq gens⟩
  have fin := (F _ kin' (nsG gl) tb).go callerA [] s _ ⟨[.ref a], []⟩ [.ref a] [.ref a] _ _ rfl hr e0 (bind s (.ref a)) (.cons rfl .nil) (hsp _ (fun p hp => atT (List.mem_map.mpr ⟨p, hp, rfl⟩)) seen)
  refine codeAny_mono fin ?_
  intro r s2 h
  match r, h with
  | .error _, z => exact False.elim z
  | .ok .next, z => exact False.elim z
  | .ok .brk, z => exact False.elim z
  | .ok .cont, z => exact False.elim z
  | .ok (.ret u), ⟨v, H2, os, bare, un, hok2, rv, q⟩ =>
    subst q
    cases rv
    have kept : ∀ b o, b ∉ cs.map Prod.snd → s.heap.get? b = some o → s2.heap.get? b = some o := fun b o m e => by
      cases q : atLaw K a vs ns b with
      | none => exact un.keep b o e ((atA m).trans q) List.not_mem_nil List.not_mem_nil
      | some u =>
        obtain ⟨rfl, _, rfl⟩ := atLaw_some q
        have z := (hok2 b _ (un.frzs b _ _ ((atA m).trans q))).1
        rw [ha] at e
        cases e
        exact z
    have grew : ∀ p ∈ cs, ∃ more : Array Value, s2.heap.get? p.2 = some (PySem.W.tabObj more) := fun p hp => by
      obtain ⟨more, z⟩ := un.tbls p.2 #[] (atT (List.mem_map.mpr ⟨p, hp, rfl⟩))
      exact ⟨_, hok2 p.2 _ z⟩
    have both : ∀ b o, s.heap.get? b = some o → PySem.asItWas s.heap s2.heap b o ∧ ∃ o', s2.heap.get? b = some o' := fun b o e => by
      by_cases m : b ∈ cs.map Prod.snd
      · obtain ⟨p, hp, rfl⟩ := List.mem_map.mp m
        obtain ⟨more, g⟩ := grew p hp
        have eP := tE p hp
        rw [eP] at e
        cases e
        exact ⟨.inr (.inl ⟨((tC p hp).tab eP).isCodeTable, rfl, #[], more, rfl, by rw [Array.empty_append]; exact g⟩), _, g⟩
      · exact ⟨.inl (kept b o m e), o, kept b o m e⟩
    exact ⟨rfl, ⟨fun b o e => (both b o e).1, fun b o e => (both b o e).2⟩, os, bare⟩
end
theorem walk_gT {l : PySem.W.OpenLaw} {n k : Nat} {q : Program} {loose : List Str} {XP : (Str → Option Value) → Heap → Prop} {YP : World → Heap → Prop} {d : DefRec} {x : Str}
    (hn : l.most = some n) (hn2 : n ≤ sizeLine) (hdf : d.params.defaults = []) (hr : Room k callerA)
    (F : ∀ (w : World) (mg : Str → Option Value) (fa : Addr) (h : Heap), YP w h → h.Ns mainGlobals mg → mg d.name = some (.ref fa) →
      ∃ (K : PySem.W.Frag) (fd : FuncData) (sp : Sp) (cs : List (Addr × Addr)), K.In h ∧ (∀ p ∈ cs, h.get? p.2 = some (PySem.W.tabObj #[])) ∧ (∀ p ∈ cs, K.lookup p.2 = none) ∧ (∀ p ∈ cs, PySem.W.CodeHd h p.1 p.2) ∧ (∀ (s : Shared) (u : Value), BindsTo s fd ⟨[u], []⟩ [(x, u)]) ∧
        (∀ (H : Hp) (a : Addr) (ns : List Int), ns.length ≤ n → (∀ p ∈ cs, H p.2 = some (.tbl #[])) → SqL K H a (ns.map V.int) → sp [.ref a] H (fun v _ => v = .bl true) fun _ _ _ => False) ∧
        ∀ base : Heap, K.In base → base.Ns mainGlobals mg → (∀ p ∈ cs, LamX.TabB base mg p.1 p.2) → GOk l.prog w K mg base k fa fd [x] sp) :
    PySem.W.WalkO q loose XP YP l.row.toRowW d [] (fun f vs => PySem.call f vs) := by
  refine Att.attach_call hn hdf ?_
  intro w s0 s1 mg mb fa o pm cd doc a vs ns G Y ho hd hcd hmg hobj hints hlen hg
  obtain ⟨K, fd, sp, cs, kin, tE, tK, tC, hb, hsp, hF⟩ := F w mg fa _ Y G.T.g hmg
  exact law_gT kin G.T.g G.T.b G.T.builtins G.T.nolimit hg G.T.bmain tE tK tC hobj hints (Nat.le_trans hlen hn2) hr hF hb fun H hT hS => hsp H a ns hlen hT hS
/-! ### the hook with empty tables -/
/-- the code object of the def at f, its table -/
def tabA (K : PySem.W.Frag) (f : Addr) : Option (Addr × Addr) := match K.lookup f with
  | some ⟨_, _, .func fd, _⟩ => (match fd.code with
    | .ref c => (match K.lookup c with
      | some ⟨_, _, .fields us, _⟩ => (match (us[11]? : Option Value) with
        | some (.ref p) => some (c, p)
        | _ => none)
      | _ => none)
    | _ => none)
  | _ => none
def emptyTab (o : Option Obj) : Bool := match o with
  | some ⟨.none, none, .fields us, sl⟩ => us.size == 0 && sl.size == 0
  | _ => false
theorem emptyTab_ok {o : Option Obj} (h : emptyTab o = true) : o = some (PySem.W.tabObj #[]) := by
  unfold emptyTab at h
  split at h
  · rename_i us sl
    obtain ⟨h1, h2⟩ := He.ba h
    rw [Array.eq_empty_of_size_eq_zero (beq_iff_eq.mp h1), Array.eq_empty_of_size_eq_zero (beq_iff_eq.mp h2)]
  · cases h
def asT (g : Addr → Option Obj) (n : Nat) : List Addr := (asW g n).filter fun a => !emptyTab (g a)
def tabOk (K : PySem.W.Frag) (t : At) : Bool := match tabA K (t.ad K) with
  | some (c, p) => PySem.W.codeHdIn K c p && (K.lookup p).isNone
  | none => false
def tabG (K : PySem.W.Frag) (g : Addr → Option Obj) (t : At) : Bool := match tabA K (t.ad K) with
  | some (_, p) => emptyTab (g p)
  | none => false
abbrev AlT : Type := AlX × List Bool
def obsT (n : Nat) (chk : PySem.W.Frag → Bool) (fn : List DefW) (xs : List DefX) (ls : List At) (g : Addr → Option Obj) : AlT :=
  let K := He.frG g (asT g n)
  (((chk K && fn.all fun d => d.ok K, fn.map fun d => fnA K (d.at_.ad K)), xs.map fun d => fnX K (d.ad K)), ls.map fun t => tabOk K t && tabG K g t)
def valT (fn : List DefW) (xs : List DefX) (ls : List At) : AlT := (valX fn xs, ls.map fun _ => true)
structure SaysT (chk : PySem.W.Frag → Bool) (fn : List DefW) (xs : List DefX) (ls : List At) (K : PySem.W.Frag) (h : Heap) : Prop where
  x : SaysX chk fn xs K
  tabs : ∀ t ∈ ls, ∃ c p, tabA K (t.ad K) = some (c, p) ∧ PySem.W.CodeHd h c p ∧ K.lookup p = none ∧ h.get? p = some (PySem.W.tabObj #[])
theorem saysT_of {n : Nat} {chk : PySem.W.Frag → Bool} {fn : List DefW} {xs : List DefX} {ls : List At} {h : Heap} (e : obsT n chk fn xs ls h.get? = valT fn xs ls) : SaysT chk fn xs ls (He.frG h.get? (asT h.get? n)) h := by
  have e1 := congrArg (fun z : AlT => z.1.1.1) e
  have e2 := congrArg (fun z : AlT => z.1.1.2) e
  have e3 := congrArg (fun z : AlT => z.1.2) e
  have e4 := congrArg Prod.snd e
  obtain ⟨h1, h2⟩ := He.ba (show (chk (He.frG h.get? (asT h.get? n)) && fn.all fun d => d.ok (He.frG h.get? (asT h.get? n))) = true from e1)
  refine ⟨⟨⟨h1, fun d hd => List.all_eq_true.mp h2 d hd, e2⟩, e3⟩, fun t ht => ?_⟩
  have z : (tabOk (He.frG h.get? (asT h.get? n)) t && tabG (He.frG h.get? (asT h.get? n)) h.get? t) = true := List.map_inj_left.mp (show ls.map (fun t => tabOk (He.frG h.get? (asT h.get? n)) t && tabG (He.frG h.get? (asT h.get? n)) h.get? t) = ls.map fun _ => true from e4) t ht
  obtain ⟨z1, z2⟩ := He.ba z
  unfold tabOk at z1
  unfold tabG at z2
  cases q : tabA (He.frG h.get? (asT h.get? n)) (t.ad (He.frG h.get? (asT h.get? n))) with
  | none => rw [q] at z1; cases z1
  | some cp =>
    obtain ⟨c, p⟩ := cp
    rw [q] at z1 z2
    obtain ⟨k1, k2⟩ := He.ba z1
    have z3 : emptyTab (h.get? p) = true := z2
    clear z2
    exact ⟨c, p, rfl, PySem.W.codeHd_of_K He.frG_in k1, Option.isNone_iff_eq_none.mp k2, emptyTab_ok z3⟩
def hookT (n : Nat) (chk : PySem.W.Frag → Bool) (fn : List DefW) (xs : List DefX) (ls : List At) : PySem.W.Hook where
  α := AlT
  obs := fun s => obsT n chk fn xs ls s.heap.get?
  val := fun _ => valT fn xs ls
  says := fun _ h => ∃ K : PySem.W.Frag, K.In h ∧ SaysT chk fn xs ls K h
  of := fun _ _ e => ⟨_, He.frG_in, saysT_of e⟩
  keeps := fun _ _ _ ⟨K, hK, c⟩ k => ⟨K, PySem.W.Frag.In.keeps hK k, c.x, fun t ht => by
    obtain ⟨a, p, h1, h2, h3, h4⟩ := c.tabs t ht
    exact ⟨a, p, h1, h2.keeps k, h3, k _ _ h4⟩⟩
theorem obsT_eq {n : Nat} {chk : PySem.W.Frag → Bool} {fn : List DefW} {xs : List DefX} {ls : List At} {g : Addr → Option Obj} {s : Shared} (h : ∀ a, g a = s.heap.get? a) : obsT n chk fn xs ls g = (hookT n chk fn xs ls).obs s := by
  have e : g = s.heap.get? := funext h
  rw [e]
  rfl
end WL
set_option Elab.async false
set_option linter.all false
set_option maxRecDepth 100000
set_option maxHeartbeats 4000000
namespace WL
open PySem PySem.Spec PyProof.Rows L2
/-! ### an exception's __init__ whose last parameter has the default None -/
def exDB (K : PySem.W.Frag) (fI : Addr) : Bool := match K.lookup fI with
  | some ⟨_, _, .func fd, _⟩ => He.dflB K fd.defaults [.non]
  | _ => false
theorem exDB_ok {K : PySem.W.Frag} {fI : Addr} {fd : FuncData} (at_ : ∃ oc od osl, K.lookup fI = some ⟨oc, od, .func fd, osl⟩) (h : exDB K fI = true) :
    ∃ (T : Addr) (x : Value) (o : Obj) (n : Nat), fd.defaults = .ref T ∧ K.lookup T = some o ∧ o.data = .seq [x].toArray n := by
  obtain ⟨oc, od, osl, lk⟩ := at_
  unfold exDB at h
  rw [lk] at h
  rcases He.dflB_ok h with ⟨e, _⟩ | ⟨_, T, o, its, n, e1, e2, e3, e4⟩
  · cases e
  · obtain ⟨u, rfl, _⟩ := Vals.one e4
    exact ⟨T, u, o, n, e1, e2, e3⟩
theorem bind_dfl {K : PySem.W.Frag} {s : Shared} {fd : FuncData} {args : Args} {T : Addr} {o : Obj} {its : Array Value} {n : Nat} {binds : List (Str × Value)} (hK : K.In s.heap) (lT : K.lookup T = some o) (oT : o.data = .seq its n)
    (h : ∃ k, bindArgs fd args = seqItems? (.ref T) >>= k ∧ k (some its) = pure binds) : BindsTo s fd args binds := by
  obtain ⟨k, e1, e2⟩ := h
  refine BindsTo.of_looks fun M => ?_
  rw [e1]
  exact looks_items hK lT oT (.of_pure e2)
end WL
set_option Elab.async false
set_option linter.all false
set_option maxRecDepth 100000
set_option maxHeartbeats 0
namespace K06
open PySem PySem.Spec PyProof.Rows L2 WL
def top (i : Nat) : Stmt := PySem.Challenge.pw_weekdaylegs_k06_calendars_checked.main.body.getD i (.Pass ⟨0, 0, 0, 0⟩)
abbrev s_wall : Stmt := top 0
abbrev s_InvalidDiary_init : Stmt := inClass (top 3) 0
abbrev s_InvalidEvent_init : Stmt := inClass (top 4) 0
abbrev s_InvalidDays_init : Stmt := inClass (top 5) 0
abbrev s_InvalidNumber_init : Stmt := inClass (top 6) 0
abbrev s_is_number : Stmt := top 8
abbrev s_is_within : Stmt := top 9
abbrev s_is_tuple_of : Stmt := top 10
abbrev s_is_bound : Stmt := top 11
abbrev s_weekdays_fault : Stmt := top 12
abbrev s_bounds_fault : Stmt := top 13
abbrev s_diary_fault : Stmt := top 14
abbrev s_Event_init : Stmt := inClass (top 15) 1
abbrev s_Event_number : Stmt := inClass (top 15) 2
abbrev s_Event_latest : Stmt := inClass (top 15) 3
abbrev s_Event_fits : Stmt := inClass (top 15) 4
abbrev s_Event_choices : Stmt := inClass (top 15) 5
abbrev s_DatedEvent_init : Stmt := inClass (top 16) 1
abbrev s_DatedEvent_weekday : Stmt := inClass (top 16) 2
abbrev s_DatedEvent_latest : Stmt := inClass (top 16) 3
abbrev s_Diary_init : Stmt := inClass (top 18) 4
abbrev s_Diary_is_diary : Stmt := inClass (top 18) 5
abbrev s_Diary_limits : Stmt := inClass (top 18) 6
abbrev s_Diary_of : Stmt := inClass (top 18) 7
abbrev s_Diary_modulus : Stmt := inClass (top 18) 8
abbrev s_Diary_weekdays : Stmt := inClass (top 18) 9
abbrev s_Diary_bounds : Stmt := inClass (top 18) 10
abbrev s_Diary_len : Stmt := inClass (top 18) 11
abbrev s_Diary_eq : Stmt := inClass (top 18) 12
abbrev s_Diary_event : Stmt := inClass (top 18) 13
abbrev s_Diary_events : Stmt := inClass (top 18) 14
abbrev s_Diary_need_event : Stmt := inClass (top 18) 15
abbrev s_Diary_adding : Stmt := inClass (top 18) 16
abbrev s_Diary_noting : Stmt := inClass (top 18) 17
abbrev s_Diary_between : Stmt := inClass (top 18) 18
abbrev s_Diary_mirrored : Stmt := inClass (top 18) 19
abbrev s_Diary_shifted : Stmt := inClass (top 18) 20
abbrev s_is_days : Stmt := top 19
abbrev s_weekday_fault : Stmt := top 20
abbrev s_bound_fault : Stmt := top 21
abbrev s_days_fault : Stmt := top 22
abbrev s_check_calendar : Stmt := top 23
abbrev s_is_calendar : Stmt := top 24
abbrev s_law_mixed : Stmt := top 26
abbrev s_law_folded : Stmt := top 27
abbrev s_law_draw : Stmt := top 28
abbrev s_law_begun : Stmt := top 29
abbrev s_law_slack : Stmt := top 30
abbrev s_law_book : Stmt := top 31
abbrev s_law_bent : Stmt := top 32
abbrev s_law_doubled : Stmt := top 33
abbrev s_law_unlike : Stmt := top 34
abbrev s_law_changed : Stmt := top 35
abbrev s_law_due : Stmt := top 36
abbrev s_law_told : Stmt := top 37
abbrev s_law_checked : Stmt := top 38
abbrev s_law_close_ones : Stmt := top 39
abbrev s_law_doubled_right : Stmt := top 40
abbrev s_law : Stmt := top 41
end K06
set_option Elab.async false
set_option linter.all false
set_option maxRecDepth 100000
set_option maxHeartbeats 0
namespace K06
open PySem PySem.Spec PyProof.Rows L2 WL
def names : List Str := (["_wall", "WeekdaylegsError", "InvalidDiary", "InvalidEvent", "InvalidDays", "InvalidNumber", "is_number", "is_within", "is_tuple_of", "is_bound", "weekdays_fault", "bounds_fault", "diary_fault", "Event", "DatedEvent", "UndatedEvent", "Diary", "is_days"] : List Str) ++ (["weekday_fault", "bound_fault", "days_fault", "check_calendar", "is_calendar", "_law_mixed", "_law_folded", "_law_draw", "_law_begun", "_law_slack", "_law_book", "_law_bent", "_law_doubled", "_law_unlike", "_law_changed", "_law_due", "_law_told", "_law_checked"] : List Str) ++ (["_law_close_ones", "_law_doubled_right"] : List Str)
def loose : List Str := names ++ ([] : List Str)
def builtins_ : List Str := (["ValueError", "all", "bool", "classmethod", "enumerate", "int", "isinstance", "len", "list", "min", "property", "range", "repr", "sorted", "staticmethod", "str", "super", "tuple"] : List Str) ++ (["zip"] : List Str)
def fns : List DefW := ([
  ⟨.g "is_number", "is_number", "is_number", s_is_number, [], []⟩,
  ⟨.g "is_within", "is_within", "is_within", s_is_within, [], []⟩,
  ⟨.g "is_tuple_of", "is_tuple_of", "is_tuple_of", s_is_tuple_of, [], []⟩,
  ⟨.g "is_bound", "is_bound", "is_bound", s_is_bound, [], []⟩,
  ⟨.g "weekdays_fault", "weekdays_fault", "weekdays_fault", s_weekdays_fault, [], []⟩,
  ⟨.g "bounds_fault", "bounds_fault", "bounds_fault", s_bounds_fault, [], []⟩,
  ⟨.g "diary_fault", "diary_fault", "diary_fault", s_diary_fault, [], []⟩,
  ⟨.m "Diary" "__init__", "__init__", "Diary.__init__", s_Diary_init, [], []⟩,
  ⟨.pr "Diary" "modulus", "modulus", "Diary.modulus", s_Diary_modulus, [], []⟩,
  ⟨.pr "Diary" "weekdays", "weekdays", "Diary.weekdays", s_Diary_weekdays, [], []⟩,
  ⟨.pr "Diary" "bounds", "bounds", "Diary.bounds", s_Diary_bounds, [], []⟩,
  ⟨.m "Diary" "__len__", "__len__", "Diary.__len__", s_Diary_len, [], []⟩,
  ⟨.m "Diary" "__eq__", "__eq__", "Diary.__eq__", s_Diary_eq, [], []⟩,
  ⟨.m "Diary" "need_event", "need_event", "Diary.need_event", s_Diary_need_event, [], []⟩,
  ⟨.g "is_days", "is_days", "is_days", s_is_days, [], []⟩,
  ⟨.g "weekday_fault", "weekday_fault", "weekday_fault", s_weekday_fault, [], []⟩,
  ⟨.g "bound_fault", "bound_fault", "bound_fault", s_bound_fault, [], []⟩,
  ⟨.g "days_fault", "days_fault", "days_fault", s_days_fault, [], []⟩] : List DefW) ++ ([
  ⟨.g "check_calendar", "check_calendar", "check_calendar", s_check_calendar, [], []⟩,
  ⟨.g "is_calendar", "is_calendar", "is_calendar", s_is_calendar, [], []⟩,
  ⟨.g "_law_mixed", "_law_mixed", "_law_mixed", s_law_mixed, [], []⟩,
  ⟨.g "_law_folded", "_law_folded", "_law_folded", s_law_folded, [], []⟩,
  ⟨.g "_law_draw", "_law_draw", "_law_draw", s_law_draw, [], []⟩,
  ⟨.g "_law_begun", "_law_begun", "_law_begun", s_law_begun, [], []⟩,
  ⟨.g "_law_slack", "_law_slack", "_law_slack", s_law_slack, [], []⟩,
  ⟨.g "_law_book", "_law_book", "_law_book", s_law_book, [], []⟩,
  ⟨.g "_law_bent", "_law_bent", "_law_bent", s_law_bent, [], []⟩,
  ⟨.g "_law_doubled", "_law_doubled", "_law_doubled", s_law_doubled, [], []⟩,
  ⟨.g "_law_unlike", "_law_unlike", "_law_unlike", s_law_unlike, [], []⟩,
  ⟨.g "_law_changed", "_law_changed", "_law_changed", s_law_changed, [], []⟩,
  ⟨.g "_law_due", "_law_due", "_law_due", s_law_due, [], []⟩,
  ⟨.g "_law_told", "_law_told", "_law_told", s_law_told, [], []⟩,
  ⟨.g "_law_checked", "_law_checked", "_law_checked", s_law_checked, [], []⟩,
  ⟨.g "_law_close_ones", "_law_close_ones", "_law_close_ones", s_law_close_ones, [], []⟩,
  ⟨.g "_law_doubled_right", "_law_doubled_right", "_law_doubled_right", s_law_doubled_right, [], []⟩,
  ⟨.g "law", "law", "law", s_law, [], []⟩] : List DefW)
def fa : List He.Fa := names.map (fun x => He.Fa.glo x) ++ builtins_.map (fun x => He.Fa.free x)
def fa2 : List He.Fa := [.cls "Diary", .noat "Diary" "_modulus", .noat "Diary" "_weekdays", .noat "Diary" "_bounds", .mkr "Diary", .meth "Diary" "need_event", .meth "Diary" "__len__", .meth "Diary" "__eq__", .noat "InvalidDays" "part", .noat "InvalidDays" "item", .glo "law"]
def file : Str := PySem.Challenge.rw_weekdaylegs_k06_calendars_checked.prog.main.file
def errB03 (K : PySem.W.Frag) (D : Addr) : Bool := He.eqO (PySem.W.findIn K (.ref D) "__class__") (some (some (.builtin "object.__class__"))) && (He.eqO (PySem.W.specialIn K (.builtin "object.__class__") "__get__") (some (some (.builtin "getset_descriptor.__get__"))) && (tkB K (.builtin "object.__class__") && mrB K D (.type "object")))
def tabP (K : PySem.W.Frag) (f : Addr) : Addr := match tabA K f with
  | some (_, p) => p
  | none => 0
def tabND (K : PySem.W.Frag) (fs : List Addr) : Bool := decide ((fs.map (tabP K)).Nodup)
def cks : List (PySem.W.Frag → Bool) := ([fun K => fa.all fun f => f.ok K, fun K => fa2.all fun f => f.ok K, fun K => exTB K ["value"] (He.ga K "InvalidEvent") (He.ma K (He.ga K "InvalidEvent") "__init__"), fun K => xfacB K (He.ga K "InvalidEvent"), fun K => emB K (.ref (He.ga K "InvalidEvent")) (.ref (He.ga K "InvalidEvent")), fun K => exIB K file (He.ga K "InvalidEvent") (He.ma K (He.ga K "InvalidEvent") "__init__"), fun K => exTB K ["part", "item"] (He.ga K "InvalidDays") (He.ma K (He.ga K "InvalidDays") "__init__"), fun K => xfacB K (He.ga K "InvalidDays"), fun K => emB K (.ref (He.ga K "InvalidDays")) (.ref (He.ga K "InvalidDays")), fun K => exIB K file (He.ga K "InvalidDays") (He.ma K (He.ga K "InvalidDays") "__init__"), fun K => exDB K (He.ma K (He.ga K "InvalidDays") "__init__"), fun K => diaB K (He.ga K "Diary"), fun K => diaOB K (He.ga K "Diary"), fun K => diaFB K (He.ga K "Diary"), fun K => sysB K, fun K => He.eqO (PySem.W.nsIn K cStatics "sys.int_max_str_digits") (some none), fun K => errB03 K (He.ga K "InvalidDays"), fun K => tabND K [He.ga K "_law_checked", He.ga K "_law_doubled_right"]] : List (PySem.W.Frag → Bool))
def xs : List DefX := [⟨"InvalidEvent", s_InvalidEvent_init, true⟩, ⟨"InvalidDays", s_InvalidDays_init, false⟩]
def ls : List At := [.g "_law_checked", .g "_law_doubled_right"]
def chk3 (K : PySem.W.Frag) : Bool := cks.all fun f => f K
abbrev hk : PySem.W.Hook := hookT 6 chk3 fns xs ls
def ob (s : PySem.W.SharedT) : AlT := obsT 6 chk3 fns xs ls (HandSHeadRun.getT s)
theorem ob_eq (s : PySem.W.SharedT) : ob s = hk.obs s.abs := obsT_eq (HandSHeadRun.getT_eq s)
abbrev R : PySem.W.OpenRow := PySem.W.OpenLaw.row PySem.Challenge.rw_weekdaylegs_k06_calendars_checked
theorem run (w : World) : HandSHeadRun.RunEq R (PySem.W.view R.prog [41]) hk ob 12000 loose w := by
  intro os
  kernel_rfl
end K06
set_option Elab.async false
set_option linter.all false
set_option maxRecDepth 100000
set_option maxHeartbeats 4000000
namespace WL
open PySem PySem.Spec PyProof.Rows L2
/-! ### a def that makes lambdas: its code object is known -/
section
variable {P : Program} {w : World} {K : PySem.W.Frag} {mg : Str → Option Value} {base : Heap}
theorem gok_bodyC {x qual : Str} {pr : Arguments} {bd : List Stmt} {sc : Scope} {dvs : List V} {kws : List (Str × V)} {f c p : Addr} {fd : FuncData} {N ps : List Str} {k : Nat} {sp : Sp}
    (F : FunD K x qual pr bd sc dvs kws f fd) (ht : tabA K f = some (c, p)) (S : FnScope N ps sc) (size : ∀ vs H Q E, sp vs H Q E → vs.length = ps.length)
    (body : ∀ (A : Around) (up : List Env) (s : Shared) (H : Hp) (vs : List V) (Q : VK) (E : XK), A.guards = some [] → Room k (A.deeper (envOfC qual sc s.heap.objs.size f (.ref c))) → sp vs H Q E →
      ∃ t, PSs (cxOf CX0 P w K mg base N qual sc f (.ref c) A up s H E).nox bd t ∧ t { nx := fun _ H' => Q .non H', rt := Q } (start N vs) H) : GOk P w K mg base (k + 1) f fd ps sp := by
  obtain ⟨oc, od, dV, kV, dc, pm, an, cdv, ct, osl, e, lk, hcd, _, _⟩ := F.ex
  have ec : cdv = .ref c := by
    unfold tabA at ht
    rw [lk, e] at ht
    simp only [PySem.W.fnOf] at ht
    split at ht
    · rename_i c1
      split at ht
      · split at ht
        · cases ht; rfl
        · cases ht
      · cases ht
    · cases ht
  subst e ec
  refine ⟨size, ?_⟩
  intro A up s H ar us vs Q E hg hr e0 hb rv hsp
  have kin : K.In s.heap := e0.mod.kin.keeps (fun b o q => (e0.bs b o q).1)
  have kinds : ∀ z ∈ ps.zip us, sc.names.lookup z.1 = some .local ∨ (sc.names.lookup z.1 = some .cell ∧ ((cellsFrom (s.heap.objs.size + 1) sc.names []).lookup z.1).isSome = true) := by
    intro z hz
    cases S.par z.1 (List.of_mem_zip (a := z.1) (b := z.2) hz).1 with
    | inl q => exact Or.inl q
    | inr q => exact Or.inr ⟨q, PySem.W.cellsFrom_some _ _ _ (Or.inl q)⟩
  refine codeAny_call_function hr.depth (kin _ _ lk) rfl S.co S.gen rfl (PySem.W.codeRec_of kin hcd) (hb _ _ _ _ (wpAny_newFunctionEnv_cells S.kind kinds ?_))
  intro env he s1 x1
  subst he
  refine And.intro ((e0.mod.nolimit.keeps (fun b o q => (e0.bs b o q).1)).keeps x1.toInCall.keep) (codeAny_func ?_)
  obtain ⟨t, ht', hq⟩ := body A up s H vs Q E hg (hr.deeper _) hsp
  have J : Inv (cxOf CX0 P w K mg base N qual sc f (.ref c) A up s H E) [] (start N vs) H s1 := inv_start S hr.hd e0 (size _ _ _ _ hsp) rv x1
  refine wpAny_mono (ht'.nox.run [] s1 (start N vs) H _ J hq) ?_ (fun _ _ z => z)
  intro fl s2 hs
  have ends : ∀ {σ : L2.St} {H2 : Hp} {v : V} {u : Value}, Inv (cxOf CX0 P w K mg base N qual sc f (.ref c) A up s H E) [] σ H2 s2 → RelV v u → Q v H2 → CE up P w H s Q u s2 :=
    fun I2 r2 q2 => ⟨_, _, I2.os, I2.bare, I2.base, I2.hok, r2, q2⟩
  match fl, hs with
  | .ret _, ⟨_, _, _, I2, r2, q2⟩ => exact ends I2 r2 q2
  | .next, ⟨_, _, I2, q2⟩ => exact ends (v := V.non) (u := Value.none) I2 rfl q2
  | .brk, ⟨_, _, _, q2⟩ => exact q2.elim
  | .cont, ⟨_, _, _, q2⟩ => exact q2.elim
end
/-! ### all but the tables stays -/
theorem Tk.ext {H H' : Hp} (e : LamX.ExtN H H') : Tk H H' := fun b xs h => e b _ h (fun ps z => nomatch z)
theorem Ik.ext {H H' : Hp} (e : LamX.ExtN H H') : Ik H H' := fun b C dx fs h => e b _ h (fun ps z => nomatch z)
theorem Dr.ext {H H' : Hp} {m c g : Addr} {n : Int} (d : Dr H m c g n) (e : LamX.ExtN H H') : Dr H' m c g n := by
  obtain ⟨l, hl, hc⟩ := d.cells
  obtain ⟨l2, hl2, hg⟩ := d.great
  exact ⟨e _ _ d.dict (fun ps z => nomatch z), ⟨l, hl, e _ _ hc (fun ps z => nomatch z)⟩, ⟨l2, hl2, e _ _ hg (fun ps z => nomatch z)⟩, d.ne, d.pos⟩
theorem Tabs.pr {T : List (Addr × Str)} {m c g : Addr} {H H' : Hp} {B B' : Int} (t : LamX.Tabs T H) (p : Pr m c g H H' B) (q : Pr m c g H H B') : LamX.Tabs T H' := fun r hr => by
  obtain ⟨ps, e, ok, h⟩ := t r hr
  obtain ⟨_, _, d⟩ := q.dr
  obtain ⟨l, _, hg⟩ := d.great
  have n1 : r.1 ≠ m := fun z => by rw [z, d.dict] at e; cases e
  have n2 : r.1 ≠ g := fun z => by rw [z, hg] at e; cases e
  refine ⟨ps, p.but _ _ n1 n2 e, ok, fun pos cv hc => ?_⟩
  obtain ⟨c', e1, e2⟩ := h pos cv hc
  refine ⟨c', e1, p.but _ _ (fun z => ?_) (fun z => ?_) e2⟩
  · rw [z, d.dict] at e2; cases e2
  · rw [z, hg] at e2; cases e2
/-! ### told: error = None; try: a() except C as e: error = e; return [] if error is None else [error.f] -/
def TVal (f : Str) (C : Addr) : (XK → Hp → VK → Prop) → Hp → VK → Prop := fun tl H Q => ∀ Q1 : VK, (∀ v H', (∀ p, H' p = none → Q (.ref p) (upd H' p (.lst []))) → Q1 v H') →
  tl (fun cls d H' => cls = .ref C ∧ ∃ dd y, d = some dd ∧ H' dd = some (.xd [(f, y)]) ∧ ∀ (p : Addr) (H2 : Hp), H' p = none → (∀ b o, H' b = some o → H2 b = some o) → H2 p = some (.lst [y]) → Q (.ref p) H2) H Q1
theorem takes_len {X : Cx} {W : WX} (t : Takes X W) : Takes X (fun cls d σ H => σ.length = X.N.length → W cls d σ H) := fun u s' ⟨a, B, sI, pins, σ, H, cls, d, e, I, nb, up, sky, na, os, ag, w⟩ =>
  t u s' ⟨a, B, sI, pins, σ, H, cls, d, e, I, nb, up, sky, na, os, ag, w I.len⟩
theorem passLam {X : Cx} {A : Around} {outer : List Env} {s : Shared} {H : Hp} {E : XK} {scope : Scope} {f c' : Addr} : Passes (L2.CX X.prog X.w) (LamX.lamCx X A outer s H E scope f c') E :=
  passes_call (takes_of rfl rfl rfl rfl) (fun _ _ _ _ h => h)
end WL
set_option Elab.async false
set_option linter.all false
set_option maxRecDepth 100000
set_option maxHeartbeats 4000000
namespace WL
open PySem PySem.Spec PyProof.Rows L2
/-! ### mirrored and shifted diaries -/
def mirN (c : Int) (ns : List (Option Int)) : List (Option Int) := ns.map fun n => n.map fun w => (-w) % c
def mirL (ls : List (Int × Int × Int)) : List (Int × Int × Int) := ls.map fun l => (l.2.1, l.1, l.2.2)
def shN (c i : Int) (ns : List (Option Int)) : List (Option Int) := ns.map fun n => n.map fun w => (w + i) % c
theorem mirN_ok {c w : Int} {ns : List (Option Int)} {ls : List (Int × Int × Int)} (h : DOK c ns ls w) : DOK c (mirN c ns) (mirL ls) w := by
  obtain ⟨a1, a2, a3, a4, a5, a6⟩ := h
  refine ⟨a1, a2, by simp [mirN]; exact a3, by simp [mirN]; exact a4, fun i hi => ?_, fun l hl => ?_⟩
  · obtain ⟨n, hn, e⟩ := List.mem_map.mp hi
    cases n with
    | none => cases e
    | some w => cases e; exact ⟨Int.emod_nonneg _ (by omega), Int.emod_lt_of_pos _ (by omega)⟩
  · obtain ⟨l', hl', rfl⟩ := List.mem_map.mp hl
    obtain ⟨x, y, z⟩ := a6 l' hl'
    have e : (mirN c ns).length = ns.length := by simp [mirN]
    rw [e]
    exact ⟨y, x, z⟩
theorem shN_ok {c w i : Int} {ns : List (Option Int)} {ls : List (Int × Int × Int)} (h : DOK c ns ls w) : DOK c (shN c i ns) ls w := by
  obtain ⟨a1, a2, a3, a4, a5, a6⟩ := h
  have e : (shN c i ns).length = ns.length := by simp [shN]
  refine ⟨a1, a2, by rw [e]; exact a3, by rw [e]; exact a4, fun j hj => ?_, fun l hl => by rw [e]; exact a6 l hl⟩
  obtain ⟨n, hn, e⟩ := List.mem_map.mp hj
  cases n with
  | none => cases e
  | some w => cases e; exact ⟨Int.emod_nonneg _ (by omega), Int.emod_lt_of_pos _ (by omega)⟩
theorem pe_fldK {K : PySem.W.Frag} {X : Cx} {e : Expr} {f : Str} {pos : Pos} {ta : TE} (he : PE X e ta) (hK : X.K = K := by rfl) (hb : attributeBase e f X.env (eval e X.env) = eval e X.env := by rfl) : PE X (.Attribute e f pos) (tFld K ta f) := by
  subst hK
  exact pe_fld he hb
theorem map_at {α : Type} {f : α → V} {xs : List α} {i : Nat} {x : V} (h : (xs.map f)[i]? = some x) : ∃ (hi : i < xs.length), x = f xs[i] := by
  rw [List.getElem?_map] at h
  rcases Nat.lt_or_ge i xs.length with q | q
  · rw [List.getElem?_eq_getElem q] at h
    exact ⟨q, (Option.some.inj h).symm⟩
  · rw [List.getElem?_eq_none q] at h; cases h
theorem take_map {α β : Type} (f : α → β) (xs : List α) {i : Nat} (h : i < xs.length) : (xs.take (i + 1)).map f = (xs.take i).map f ++ [f xs[i]] := by
  rw [List.take_succ, List.getElem?_eq_getElem h, List.map_append]; rfl
/-- the class InvalidNumber -/
structure EvN (P : Program) (K : PySem.W.Frag) (mg : Str → Option Value) (IN : Addr) : Prop where
  at_ : mg "InvalidNumber" = some (.ref IN)
  ex : ∃ fI fd, ExT P K mg ["value"] IN fI ∧ ExI P K ["value"] IN fI fd ∧ ∀ (s : Shared) (u v : Value), K.In s.heap → BindsTo s fd ⟨[u, v], []⟩ [("self", u), ("value", v)]
/-- a def by its name that may raise -/
structure HasE (P : Program) (w : World) (K : PySem.W.Frag) (mg : Str → Option Value) (base : Heap) (k : Nat) (x : Str) (ps : List Str) (sp : Sp) : Prop where
  ex : ∃ fa fd, mg x = some (.ref fa) ∧ PySem.W.keepIn K (.ref fa) = true ∧ Binds K fd ps [] ∧ FnOk P w K mg base (L2.CX P w) k fa fd ps sp
theorem pe_hasE {X : Cx} {k j : Nat} {x : Str} {ps : List Str} {sp : Sp} {E : XK} {e : Expr} {es : List Expr} {t : TA} {p pos : Pos} (h : HasE X.prog X.w X.K X.mg X.base k x ps sp) (hr : Room j X.A) (hk : k ≤ j) (hx : Passes (L2.CX X.prog X.w) X E) (ha : PA X (e :: es) t) (gl : Gl X x := by rfl) (hdb : (x == ("__debug__" : Str)) = false := by decide)
    (h1 : starEach (e :: es) X.env = (false, eval e X.env) :: starEach es X.env := by rfl) (h2 : (backTo pos (starEach es X.env)).any (·.1) = false := by rfl) : PE X (.Call (.Name x p) (e :: es) [] pos) (tCall sp [] E t) := by
  obtain ⟨fa, fd, m, kp, b, F⟩ := h.ex
  exact pe_call F (hr.mono hk) gl m kp b .nil hx ha hdb h1 h2
def spNeedNum (K : PySem.W.Frag) (IN : Addr) : Sp := fun vs H Q E => ∃ (y : V) (s : Sh), vs = [y] ∧ AnS K H y s ∧ (s.isInt = true → Q .non H) ∧ (s.isInt = false → ∀ d, H d = none → E (.ref IN) (some d) (upd H d (.xd [("value", y)])))
def spMir (DC : Addr) : Sp := fun vs H Q _ => ∃ (v : V) (c w : Int) (ns : List (Option Int)) (ls : List (Int × Int × Int)), vs = [v] ∧ DiaAt DC H v c ns ls ∧ DOK c ns ls w ∧ w ≤ 1000000000 ∧ ls.length ≤ 60 ∧
  ∀ (x : Addr) (H' : Hp), H x = none → DiaAt DC H' (.ref x) c (mirN c ns) (mirL ls) → (∀ b o, H b = some o → H' b = some o) → Q (.ref x) H'
def spShift (K : PySem.W.Frag) (DC IN : Addr) : Sp := fun vs H Q E => ∃ (v y : V) (c w : Int) (ns : List (Option Int)) (ls : List (Int × Int × Int)) (s : Sh), vs = [v, y] ∧ DiaAt DC H v c ns ls ∧ AnS K H y s ∧ DOK c ns ls w ∧ w ≤ 1000000000 ∧ ls.length ≤ 60 ∧
  (∀ i, y = .int i → ∀ (x : Addr) (H' : Hp), H x = none → DiaAt DC H' (.ref x) c (shN c i ns) ls → (∀ b o, H b = some o → H' b = some o) → Q (.ref x) H') ∧
  (s.isInt = false → ∀ d, H d = none → E (.ref IN) (some d) (upd H d (.xd [("value", y)])))
/-! ### all of a list of truth values -/
def rAllB (K : PySem.W.Frag) : List V → Hp → VK → Prop := fun xs H Q => ∃ (p : Addr) (bs : List Bool), xs = [.ref p] ∧ SqL K H p (bs.map V.bl) ∧ Q (.bl (bs.all id)) H
theorem bools_at : ∀ {bs : List Bool} {us : List Value}, Vals (bs.map V.bl) us → ∀ (i : Nat) (u : Value), us[i]? = some u → ∃ b, bs[i]? = some b ∧ u = .bool b
  | [], _, .nil, i, u, h => by simp at h
  | b :: bs, _, .cons r t, 0, u, h => by
    cases r
    simp only [List.getElem?_cons_zero, Option.some.injEq] at h
    exact ⟨b, rfl, h.symm⟩
  | b :: bs, _, .cons r t, i + 1, u, h => by
    simp only [List.getElem?_cons_succ] at h ⊢
    exact bools_at t i u h
theorem call_allB {X : Cx} (calm : X.calm = true) : CallR X (.builtin "all") (rAllB X.K) := by
  intro pins s σ H xs us Q I r h
  obtain ⟨p, bs, rfl, hq, q⟩ := h
  obtain ⟨u, rfl, rx⟩ := vals1 r
  cases rx
  obtain ⟨its, rv, pl, _⟩ := I.list hq
  have len : its.length = bs.length := by rw [← rv.length, List.length_map]
  have low : p < s.heap.objs.size := by obtain ⟨_, e, _⟩ := pl.isList; exact Heap.lt_size e
  refine call_all_walk (wpAny_pyIter_list pl.isList ?_)
  refine ⟨s.heap.objs.size, [s.heap.objs.size, p], [s.heap.objs.size], its.toArray.size, _, _, fun i => (bs[i]?).getD true, rfl, Walks.list (A := X.A.in1) (I.ok.hd calm) _ p (Nat.ne_of_lt low) its.toArray, ⟨⟨_, Heap.get?_push_size _ rfl, rfl, rfl⟩, pl.isList.push _⟩, ?_, ?_⟩
  · intro i v s' Q' E' hP hQ
    obtain ⟨b, e, rfl⟩ := bools_at rv i v (by simpa using hP)
    simp only [e, Option.getD_some] at hQ
    exact wpAny_truthy_bool hQ
  · intro h' tk hk
    have e : ((List.range its.toArray.size).all fun i => (bs[i]?).getD true) = bs.all id := by
      rw [List.size_toArray, len]
      exact LSm.range_all bs
    rw [e]
    exact ⟨.bl (bs.all id), H, I.kept (t' := tk) (LSm.kept_iter hk), rfl, q⟩
theorem anss_ints {K : PySem.W.Frag} {H : Hp} : ∀ xs : List Int, AnSs K H (xs.map V.int) (xs.map Sh.int)
  | [] => .nil
  | x :: xs => .cons (.int x) (anss_ints xs)
theorem all_true (n : Nat) : (List.replicate n true).all id = true := by simp
/-- the days are a calendar of this diary -/
def spDays (DC : Addr) : Sp := fun vs H Q _ => ∃ (v : V) (t : Addr) (c : Int) (ns : List (Option Int)) (ls : List (Int × Int × Int)) (xs : List Int), vs = [v, .ref t] ∧ DiaAt DC H v c ns ls ∧ H t = some (.tup (xs.map V.int)) ∧ xs.length = ns.length ∧ ns.length ≤ 16 ∧
  ∀ H', (∀ b o, H b = some o → H' b = some o) → Q (.bl true) H'
def spFault (DC : Addr) : Sp := fun vs H Q _ => ∃ (v : V) (t : Addr) (c w : Int) (ns : List (Option Int)) (ls : List (Int × Int × Int)) (xs : List Int), vs = [v, .ref t] ∧ DiaAt DC H v c ns ls ∧ DOK c ns ls w ∧ ls.length ≤ 100 ∧ H t = some (.tup (xs.map V.int)) ∧ Cal c ns ls xs ∧
  ∀ H', (∀ b o, H b = some o → H' b = some o) → Q .non H'
def spCal (DC : Addr) : Sp := fun vs H Q _ => ∃ (v : V) (t : Addr) (c w : Int) (ns : List (Option Int)) (ls : List (Int × Int × Int)) (xs : List Int), vs = [v, .ref t] ∧ DiaAt DC H v c ns ls ∧ DOK c ns ls w ∧ ls.length ≤ 100 ∧ H t = some (.tup (xs.map V.int)) ∧ Cal c ns ls xs ∧
  ∀ H', (∀ b o, H b = some o → H' b = some o) → Q (.bl true) H'
/-! ### the law's own turning and moving -/
def spRow (f : Int → List (Option Int) → List (Option Int)) (g : List (Int × Int × Int) → List (Int × Int × Int)) (H : Hp) (b : Book) (Q : VK) : Prop :=
  ∀ (p : Addr) (wv bv : V) (H' : Hp), H p = none → H' p = some (.lst [.int b.c, wv, bv]) → Fz H' wv (notesD (f b.c b.notes)) → Fz H' bv (linesD (g b.lines)) → (∀ b o, H b = some o → H' b = some o) → Q (.ref p) H'
def spTurned : Sp := fun vs H Q _ => ∃ (v : V) (b : Book) (w : Int), vs = [v] ∧ Fz H v b.d ∧ DOK b.c b.notes b.lines w ∧ b.lines.length ≤ 100 ∧ spRow mirN mirL H b Q
def spMoved : Sp := fun vs H Q _ => ∃ (v : V) (b : Book) (w i : Int), vs = [v, .int i] ∧ Fz H v b.d ∧ DOK b.c b.notes b.lines w ∧ b.lines.length ≤ 100 ∧ spRow (fun c ns => shN c i ns) id H b Q
def spRead3 (DC : Addr) : Sp := fun vs H Q _ => ∃ (v : V) (c : Int) (ns : List (Option Int)) (ls : List (Int × Int × Int)), vs = [v] ∧ DiaAt DC H v c ns ls ∧
  ∀ (p : Addr) (wv bv : V) (H' : Hp), H p = none → H' p = some (.lst [.int c, wv, bv]) → Fz H' wv (notesD ns) → Fz H' bv (linesD ls) → (∀ b o, H b = some o → H' b = some o) → Q (.ref p) H'
theorem turn_eq {c k : Int} (h0 : 0 ≤ k) (h1 : k < c) : (if k = 0 then 0 else c - k) = (-k) % c := by
  by_cases e : k = 0
  · rw [if_pos e, e]; simp
  · rw [if_neg e]
    have : (-k) % c = (-k + c) % c := by simp
    rw [this, Int.emod_eq_of_lt (by omega) (by omega)]
    omega
/-! ### heaps without their tables -/
def noTab (H : Hp) : Hp := fun b => match H b with
  | some (.tbl _) => none
  | o => o
theorem noTab_at {H : Hp} {b : Addr} {o : HO} (h : H b = some o) (n : ∀ ps, o ≠ .tbl ps) : noTab H b = some o := by
  unfold noTab
  rw [h]
  split
  · rename_i ps e
    exact absurd (Option.some.inj e) (n ps)
  · rfl
theorem noTab_of {H : Hp} {b : Addr} {o : HO} (h : noTab H b = some o) : H b = some o ∧ ∀ ps, o ≠ .tbl ps := by
  unfold noTab at h
  split at h
  · cases h
  · rename_i q
    refine ⟨h, fun ps e => ?_⟩
    subst e
    exact q ps h
theorem noTab_same {H : Hp} : ∀ b o, noTab H b = some o → H b = some o := fun _ _ h => (noTab_of h).1
theorem noTab_ext {H H1 H2 : Hp} (s : ∀ b o, noTab H b = some o → H1 b = some o) (e : LamX.ExtN H1 H2) : ∀ b o, noTab H b = some o → H2 b = some o := fun b o h => e b o (s b o h) (noTab_of h).2
theorem noTab_out {H H1 : Hp} (s : ∀ b o, noTab H b = some o → H1 b = some o) : LamX.ExtN H H1 := fun b o h n => s b o (noTab_at h n)
/-- a value that is no number and can be shown -/
structure OddN (K : PySem.W.Frag) (H : Hp) (x : V) : Prop where
  ex : ∃ s d, AnS K H x s ∧ s.isInt = false ∧ DqB H x d ∧ (PyData.list [d]).showable = true ∧ (PyData.list [d]).shown.length ≤ sizeLine ∧ (PyData.list [d]).depth ≤ 50
theorem OddN.same {K : PySem.W.Frag} {H H' : Hp} {x : V} (k : ∀ b o, H b = some o → H' b = some o) (h : OddN K H x) : OddN K H' x := by
  obtain ⟨s, d, h1, h2, h3, h4⟩ := h.ex
  exact ⟨s, d, h1.same k, h2, h3.same k, h4⟩
/-- the methods mirrored and shifted -/
structure DiaS (P : Program) (w : World) (K : PySem.W.Frag) (mg : Str → Option Value) (base : Heap) (DC IN : Addr) : Prop where
  mir : ∃ f fd, Meth K DC "mirrored" f ∧ Binds K fd ["self"] [] ∧ FnOk P w K mg base CX0 8 f fd ["self"] (spMir DC)
  sh : ∃ f fd, Meth K DC "shifted" f ∧ Binds K fd ["self", "days"] [] ∧ FnOk P w K mg base (L2.CX P w) 8 f fd ["self", "days"] (spShift K DC IN) ∧ KBn K fd ["self", "days"] 1 ["days"] (fun us ws => us ++ ws) (fun vs ws => vs ++ ws)
theorem g_meth {C : Addr} {m : Str} {sp : Sp} {dvs : List V} {E : XK} {ta : TE} {t : TA} {σ : L2.St} {H : Hp} {Q : VK} (h : ta σ H fun x H1 => ∃ a dx fs, x = .ref a ∧ H1 a = some (.ins C dx fs) ∧ fs.lookup m = none ∧ t σ H1 fun vs H2 => sp (x :: (vs ++ dvs)) H2 Q E) : tMeth C m sp dvs E ta t σ H Q := h
theorem g_lam {T : List (Addr × Str)} {TT : (XK → Hp → VK → Prop) → Hp → VK → Prop} {t : XK → TE} {σ : L2.St} {H : Hp} {Q : VK} (h : LamX.Tabs T H) (h2 : ∀ H1, LamX.ExtN H H1 → LamX.Tabs T H1 → TT (fun E H' Q' => t E σ H' Q') H1 Q) : LamX.tLam T TT t σ H Q := ⟨h, h2⟩
def spRefused (DC : Addr) (T : List (Addr × Str)) : Sp := fun vs H Q _ => ∃ (v : V) (c w : Int) (ns : List (Option Int)) (ls : List (Int × Int × Int)), vs = [v] ∧ DiaAt DC H v c ns ls ∧ DOK c ns ls w ∧ w ≤ 1000000000 ∧ ls.length ≤ 60 ∧ LamX.Tabs T H ∧
  ∀ H', LamX.ExtN H H' → LamX.Tabs T H' → Q (.bl true) H'
end WL
set_option Elab.async false
set_option linter.all false
set_option maxRecDepth 100000
set_option maxHeartbeats 4000000
namespace PySem.W
open PySem PySem.Calls PySem.NumText PyProof.Rows
/-- int of a text of more than 640 signs, where the limit of digits is what it is at first -/
theorem wp_textL {M : Model} {A : Around} {E : Value → Shared → Prop} {s : Shared} {Q : Value → Shared → Prop} {v : Value} {text : List Nat} {n : Int} (nd : s.heap.NoDigits)
    (hs : ¬ (text.takeWhile (· != 0)).length ≤ 640) (hr : (int_private% "readNumeral") 4300 10 (text.takeWhile (· != 0)) = (int_private% "Numeral.value") n)
    (ha : ((text.takeWhile (· != 0)).length == text.length) = true) (h : Q (.int n s.toks) { s with toks := s.toks + 1 }) :
    wpAny M A ((int_private% "intFromText") v text 10) Q E s := by
  obtain ⟨mc, hns, hnone⟩ := nd
  obtain ⟨hp, g, d, tk, os⟩ := s
  wp_step
  refine wpAny_ite_false (decide_eq_false hs) ?_
  refine wpAny_bind ?_
  unfold Builtin.intMaxStrDigits
  refine wpAny_bind (wpAny_nsGet hns ?_)
  rw [hnone]
  refine wpAny_pure ?_
  dsimp only
  rw [hr]
  dsimp only
  refine wpAny_ite_true (decide_eq_true ha) ?_
  wp_step
  all_goals exact h
structure LongT (x : PySem.Str) (n : Int) : Prop where
  long : ¬ (numSeenOf x).length ≤ 640
  reads : (int_private% "readNumeral") 4300 10 (numSeenOf x) = (int_private% "Numeral.value") n
  all : ((numSeenOf x).length == (numTextOf x).length) = true
theorem long_meets {x : PySem.Str} {u : Tok} {n : Int} (L : LongT x n) : Meets (Builtin.«int.__new__» ⟨[.type "int", .str x u], []⟩) (fun _ R s => s.heap.NoDigits ∧ R (.ok (.ret (.int n s.toks))) { s with toks := s.toks + 1 }) :=
  .of_wp fun prog w A R s z => by
    obtain ⟨nd, z⟩ := z
    obtain ⟨hp, g, d, tk, os⟩ := s
    have q1 := F.conv_sub_int
    have q2 := F.madeHere_int
    have q3 := KIN.str_int
    have q4 := KIN.str_idx
    have q5 := KIN.str_trunc
    have q6 : typeOf (.str x u) = pure (.type "str") := rfl
    have hk := KIN.Hid.mk L
    clear L
    repeat (any_goals (first
      | assumption
      | ((with_reducible show wpAny _ _ ((int_private% "intFromText") _ _ _) _ _ _); refine wp_textL nd hk.out.long hk.out.reads hk.out.all ?_)
      | wp_step))
    all_goals first | exact ⟨_, rfl, z⟩ | trace_state
end PySem.W
namespace WL
open PySem PySem.Spec PyProof.Rows L2
/-- the module of the model that says how many digits are read has nothing of it -/
def NoDig (K : PySem.W.Frag) : Prop := PySem.W.nsIn K cStatics "sys.int_max_str_digits" = some none
def rBigI : List V → Hp → VK → Prop := fun xs H Q => ∃ (a : Str) (n : Int), xs = [.str a] ∧ PySem.W.LongT a n ∧ Q (.int n) H
theorem call_bigI {X : Cx} (nd : NoDig X.K) : CallR X (.type "int") rBigI := by
  intro pins s σ H xs us Q I r h
  obtain ⟨a, n, rfl, hL, q⟩ := h
  obtain ⟨u, rfl, rx⟩ := vals1 r
  obtain ⟨t, rfl⟩ := rx
  obtain ⟨mc, hns, _⟩ := I.nolimit
  have hd : s.heap.NoDigits := ⟨mc, hns, PySem.W.ns_none_of I.kIn hns nd⟩
  refine call_int_1 (PySem.W.long_meets hL) ⟨hd, ?_⟩
  exact ⟨typeIs_int _ _ _, .int n, H, I.tok _, ⟨_, rfl⟩, q⟩
/-- so many of a text -/
def manyS (a : Str) (k : Nat) : Str := ⟨(List.replicate k a.cps).foldl (· ++ ·) #[]⟩
def rMulS : R2 := fun x y H Q => ∃ (a : Str) (k : Int), x = .str a ∧ y = .int k ∧ 2 ≤ k ∧ k ≤ 2000 ∧ a.length = 1 ∧ (manyS a k.toNat).length ≤ sizeLine ∧ Q (.str (manyS a k.toNat)) H
theorem op_mulS {X : Cx} : OpR X (binaryOp .Mult) rMulS := by
  intro pins s σ H x y v u Q I rx ry h
  obtain ⟨a, k, rfl, rfl, h1, h2, hl, hz, q⟩ := h
  obtain ⟨t, rfl⟩ := rx
  obtain ⟨t2, rfl⟩ := ry
  refine PySem.P.mul_str ?_ (fun _ _ => ?_) (fun _ _ => ?_) ?_
  · rw [decide_eq_false (by omega), decide_eq_false (by omega)]; rfl
  · rw [hl]
    intro z
    have : (1 : Int) ≤ (2 ^ 63 - 1) / k := Int.le_ediv_of_mul_le (by omega) (by omega)
    omega
  · rw [hl]
    exact decide_eq_false (Nat.not_lt.mpr (Nat.le_trans (show 1 * k.toNat ≤ 2000 by omega) (by decide)))
  · rw [if_neg (by omega), if_neg (by rw [hl]; simp; omega)]
    exact ⟨hz, .str _, H, I.tok _, ⟨_, rfl⟩, q⟩
end WL
set_option Elab.async false
set_option linter.all false
set_option maxRecDepth 100000
set_option maxHeartbeats 4000000
namespace WL
open PySem PySem.W PySem.Calls PySem.NumText PySem.Spec PyProof.Rows L2
theorem fold_many (c : Nat) : ∀ (m : Nat) (acc : Array Nat), (List.replicate m #[c]).foldl (· ++ ·) acc = acc ++ (List.replicate m c).toArray
  | 0, acc => by simp
  | m + 1, acc => by
    rw [List.replicate_succ, List.foldl_cons, fold_many c m, List.replicate_succ]
    apply Array.ext'
    simp
theorem many_cps {a : Str} {c : Nat} (h : a.cps = #[c]) (m : Nat) : (manyS a m).cps.toList = List.replicate m c := by
  show ((List.replicate m a.cps).foldl (· ++ ·) #[]).toList = _
  rw [h, fold_many]
  simp
theorem many_len {a : Str} {c : Nat} (h : a.cps = #[c]) (m : Nat) : (manyS a m).length = m := by
  show (manyS a m).cps.size = m
  rw [← Array.length_toList, many_cps h, List.length_replicate]
theorem text_many {a : Str} {c : Nat} (h : a.cps = #[c]) (hc : c < 128) (m : Nat) : numTextOf (manyS a m) = List.replicate m c := by
  have e := many_cps h m
  have al : (manyS a m).cps.all (· < 128) = true := by
    rw [← Array.all_toList, e]
    simp [hc]
  unfold numTextOf
  first
    | rw [if_pos al, e]
    | (simp only [al, if_true]; exact e)
theorem seen_many {a : Str} {c : Nat} (h : a.cps = #[c]) (hc : c < 128) (h0 : c ≠ 0) (m : Nat) : numSeenOf (manyS a m) = List.replicate m c := by
  unfold numSeenOf
  rw [text_many h hc]
  have : ∀ m, (List.replicate m c).takeWhile (· != 0) = List.replicate m c := by
    intro m
    induction m with
    | zero => rfl
    | succ m ih => rw [List.replicate_succ, List.takeWhile_cons, ih]; simp [h0]
  exact this m
theorem long_many {a : Str} {c m : Nat} {n : Int} (h : a.cps = #[c]) (hc : c < 128) (h0 : c ≠ 0) (hm : 640 < m) (r : (int_private% "readNumeral") 4300 10 (List.replicate m c) = (int_private% "Numeral.value") n) : PySem.W.LongT (manyS a m) n := by
  constructor
  · rw [seen_many h hc h0, List.length_replicate]; omega
  · rw [seen_many h hc h0]; exact r
  · rw [seen_many h hc h0, text_many h hc]; simp
theorem digits_fold {c e : Nat} (hs : ∀ arr b, NumText.step 10 (arr, b) c = some (arr.push e, true)) : ∀ (k : Nat) (arr : Array Nat) (b : Bool), ∃ arr', (List.replicate (k + 1) c).foldlM (NumText.step 10) (arr, b) = some (arr', true) ∧ arr'.size = arr.size + (k + 1)
  | 0, arr, b => ⟨arr.push e, by rw [List.replicate_succ, List.foldlM_cons, hs]; rfl, by simp⟩
  | k + 1, arr, b => by
    obtain ⟨arr', h1, h2⟩ := digits_fold hs k (arr.push e) true
    refine ⟨arr', ?_, by rw [h2, Array.size_push]; omega⟩
    rw [List.replicate_succ, List.foldlM_cons, hs]
    exact h1
theorem drop_rep {c : Nat} (hb : NumText.blank c = false) (m : Nat) : (List.replicate m c).dropWhile NumText.blank = List.replicate m c := by
  cases m with
  | zero => rfl
  | succ m => rw [List.replicate_succ, List.dropWhile_cons, hb]; rfl
theorem core_rep {c : Nat} (hb : NumText.blank c = false) (h1 : c ≠ 45) (h2 : c ≠ 43) (m : Nat) : NumText.core (List.replicate m c) = List.replicate m c ∧ (NumText.sign (List.replicate m c)).1 = false := by
  have s : NumText.sign (List.replicate m c) = (false, List.replicate m c) := by
    cases m with
    | zero => rfl
    | succ m =>
      rw [List.replicate_succ]
      unfold NumText.sign
      split
      · rename_i r e; exact absurd (List.cons.inj e).1 h1
      · rename_i r e; exact absurd (List.cons.inj e).1 h2
      · rfl
  refine ⟨?_, by rw [s]⟩
  unfold NumText.core
  rw [drop_rep hb, s, List.reverse_replicate, drop_rep hb, List.reverse_replicate]
theorem reads_many {c e m : Nat} (hb : NumText.blank c = false) (h1 : c ≠ 45) (h2 : c ≠ 43) (hs : ∀ arr b, NumText.step 10 (arr, b) c = some (arr.push e, true)) (hm : m + 1 ≤ 4300) : ∃ n, (int_private% "readNumeral") 4300 10 (List.replicate (m + 1) c) = (int_private% "Numeral.value") n := by
  obtain ⟨ds, f1, f2⟩ := digits_fold hs m #[] false
  obtain ⟨c1, c2⟩ := core_rep hb h1 h2 (m + 1)
  have dg : NumText.digits? 10 (NumText.core (List.replicate (m + 1) c)) = some ds := by
    rw [c1]
    unfold NumText.digits?
    rw [f1]
    rfl
  refine ⟨NumText.worth (NumText.sign ((List.replicate (m + 1) c).dropWhile NumText.blank)).1 ds, (NumText.readNumeral_ten 4300 _).trans ?_⟩
  rw [dg]
  exact NumText.judge_ok (Or.inr (by rw [f2]; simp; omega)) (by rw [f2]; simp; omega)
theorem long7 : ∃ n, PySem.W.LongT (manyS "7" 1000) n := by
  obtain ⟨n, h⟩ := reads_many (c := 55) (e := 7) (m := 999) rfl (by decide) (by decide) (fun _ _ => rfl) (by decide)
  exact ⟨n, long_many (a := "7") rfl (by decide) (by decide) (by decide) h⟩
theorem long3 : ∃ n, PySem.W.LongT (manyS "3" 999) n := by
  obtain ⟨n, h⟩ := reads_many (c := 51) (e := 3) (m := 998) rfl (by decide) (by decide) (fun _ _ => rfl) (by decide)
  exact ⟨n, long_many (a := "3") rfl (by decide) (by decide) (by decide) h⟩
theorem many7 : (manyS "7" 1000).length ≤ sizeLine := by
  rw [many_len (a := "7") (c := 55) rfl]; decide
theorem many3 : (manyS "3" 999).length ≤ sizeLine := by
  rw [many_len (a := "3") (c := 51) rfl]; decide
end WL
set_option Elab.async false
set_option linter.all false
set_option maxRecDepth 100000
set_option maxHeartbeats 4000000
namespace WL
open PySem PySem.Spec PyProof.Rows L2
/-! ### what mirroring and shifting do together -/
theorem map_opt_id {f : Int → Int} {ns : List (Option Int)} (h : ∀ k : Int, some k ∈ ns → f k = k) : ns.map (fun n => n.map f) = ns := by
  induction ns with
  | nil => rfl
  | cons n ns ih =>
    rw [List.map_cons, ih fun k hk => h k (List.mem_cons_of_mem _ hk)]
    cases n with
    | none => rfl
    | some k => rw [Option.map_some, h k List.mem_cons_self]
theorem mir_mir {c w : Int} {ns : List (Option Int)} {ls : List (Int × Int × Int)} (ok : DOK c ns ls w) : mirN c (mirN c ns) = ns := by
  unfold mirN
  rw [List.map_map]
  have e : ((fun n : Option Int => n.map fun w => (-w) % c) ∘ fun n : Option Int => n.map fun w => (-w) % c) = fun n => n.map fun w => (-((-w) % c)) % c := by
    funext n; cases n <;> rfl
  rw [e]
  refine map_opt_id fun k hk => ?_
  obtain ⟨h0, h1⟩ := ok.note k hk
  rw [Int.neg_emod_emod_neg k c h0 h1]
where
  Int.neg_emod_emod_neg (k c : Int) (h0 : 0 ≤ k) (h1 : k < c) : (-((-k) % c)) % c = k := by
    have e := Int.emod_add_mul_ediv (-k) c
    have : -((-k) % c) = k + c * ((-k) / c) := by omega
    rw [this, Int.add_mul_emod_self_left, Int.emod_eq_of_lt h0 h1]
theorem mirL_mirL (ls : List (Int × Int × Int)) : mirL (mirL ls) = ls := by
  unfold mirL
  rw [List.map_map]
  exact List.map_id' _
theorem sh_sh {c w i : Int} {ns : List (Option Int)} {ls : List (Int × Int × Int)} (ok : DOK c ns ls w) : shN c (0 - i) (shN c i ns) = ns := by
  unfold shN
  rw [List.map_map]
  have e : ((fun n : Option Int => n.map fun w => (w + (0 - i)) % c) ∘ fun n : Option Int => n.map fun w => (w + i) % c) = fun n => n.map fun w => ((w + i) % c + (0 - i)) % c := by
    funext n; cases n <;> rfl
  rw [e]
  refine map_opt_id fun k hk => ?_
  obtain ⟨h0, h1⟩ := ok.note k hk
  rw [Int.emod_add_emod, show k + i + (0 - i) = k by omega, Int.emod_eq_of_lt h0 h1]
theorem mir_sh (c i : Int) (ns : List (Option Int)) : mirN c (shN c i ns) = shN c (0 - i) (mirN c ns) := by
  unfold mirN shN
  rw [List.map_map, List.map_map]
  congr 1
  funext n
  cases n with
  | none => rfl
  | some k =>
    show some _ = some _
    congr 1
    show (-((k + i) % c)) % c = ((-k) % c + (0 - i)) % c
    rw [Int.emod_add_emod]
    have e := Int.emod_add_mul_ediv (k + i) c
    have : -((k + i) % c) = (-k + (0 - i)) + c * ((k + i) / c) := by omega
    rw [this, Int.add_mul_emod_self_left]
theorem get_note {f : Int → Int} {ns : List (Option Int)} {n : Nat} {i : Int} (h : (ns.map fun m => m.map f)[n]? = some (some i)) : ∃ k, ns[n]? = some (some k) ∧ f k = i := by
  rw [List.getElem?_map] at h
  cases e : ns[n]? with
  | none => rw [e] at h; cases h
  | some m =>
    rw [e] at h
    cases m with
    | none => cases h
    | some k => cases h; exact ⟨k, rfl, rfl⟩
theorem get_int {f : Int → Int} {xs : List Int} {n : Nat} {y : Int} (h : (xs.map f)[n]? = some y) : ∃ x, xs[n]? = some x ∧ f x = y := by
  rw [List.getElem?_map] at h
  cases e : xs[n]? with
  | none => rw [e] at h; cases h
  | some x => rw [e] at h; cases h; exact ⟨x, rfl, rfl⟩
theorem cal_mir {c : Int} {ns : List (Option Int)} {ls : List (Int × Int × Int)} {xs : List Int} (h : Cal c ns ls xs) : Cal c (mirN c ns) (mirL ls) (xs.map fun x => 0 - x) := by
  refine ⟨by simp [mirN, h.len], fun n i x hn hx => ?_, fun l hl x y hx hy => ?_⟩
  · obtain ⟨k, ek, rfl⟩ := get_note hn
    obtain ⟨x', ex, rfl⟩ := get_int hx
    have e := h.days n k x' ek ex
    rw [← e]
    have q := Int.emod_add_mul_ediv x' c
    have : 0 - x' = -(x' % c) + c * (-(x' / c)) := by rw [Int.mul_neg]; omega
    rw [this, Int.add_mul_emod_self_left]
  · obtain ⟨l', hl', rfl⟩ := List.mem_map.mp hl
    obtain ⟨x', ex, rfl⟩ := get_int hx
    obtain ⟨y', ey, rfl⟩ := get_int hy
    have := h.gaps l' hl' y' x' ey ex
    show 0 - y' - (0 - x') ≤ l'.2.2
    omega
theorem cal_sh {c i : Int} {ns : List (Option Int)} {ls : List (Int × Int × Int)} {xs : List Int} (h : Cal c ns ls xs) : Cal c (shN c i ns) ls (xs.map fun x => x + i) := by
  refine ⟨by simp [shN, h.len], fun n j x hn hx => ?_, fun l hl x y hx hy => ?_⟩
  · obtain ⟨k, ek, rfl⟩ := get_note hn
    obtain ⟨x', ex, rfl⟩ := get_int hx
    rw [← h.days n k x' ek ex, Int.emod_add_emod]
  · obtain ⟨x', ex, rfl⟩ := get_int hx
    obtain ⟨y', ey, rfl⟩ := get_int hy
    have := h.gaps l hl x' y' ex ey
    omega
theorem show_twoR {c : Int} {ns : List (Option Int)} {ls : List (Int × Int × Int)} {w : Int} (h : DOK c ns ls w) (hw : w ≤ 999999999999) (hl : ls.length ≤ 1000) : (PyData.list [.list (rowD c ns ls), .list (rowD c ns ls)]).showable = true ∧ (PyData.list [.list (rowD c ns ls), .list (rowD c ns ls)]).shown.length ≤ sizeLine ∧ (PyData.list [.list (rowD c ns ls), .list (rowD c ns ls)]).depth ≤ 50 := by
  have s : Sm (.list [.list (rowD c ns ls), .list (rowD c ns ls)]) := sm_lst fun d hd => by
    simp only [List.mem_cons, List.not_mem_nil, or_false, or_self] at hd
    subst hd
    exact sm_row h hw
  have p : pl 4 (.list [.list (rowD c ns ls), .list (rowD c ns ls)]) := fun d hd => by
    simp only [List.mem_cons, List.not_mem_nil, or_false, or_self] at hd
    subst hd
    exact pl_row c ns ls
  exact ⟨s.show_, sm_fits s (by rw [bulk_two, bulk_row]; have := h.n16; omega), Nat.le_trans (pl_lay p).2 (by decide)⟩
theorem g_shI {K : PySem.W.Frag} {DC IN a : Addr} {H : Hp} {c w i : Int} {ns : List (Option Int)} {ls : List (Int × Int × Int)} {Q : VK} {E : XK} (hD : DiaAt DC H (.ref a) c ns ls) (ok : DOK c ns ls w) (hw : w ≤ 1000000000) (h60 : ls.length ≤ 60)
    (q : ∀ (x : Addr) (H' : Hp), H x = none → DiaAt DC H' (.ref x) c (shN c i ns) ls → (∀ b o, H b = some o → H' b = some o) → Q (.ref x) H') : spShift K DC IN [.ref a, .int i] H Q E :=
  ⟨.ref a, .int i, c, w, ns, ls, .int i, rfl, hD, .int i, ok, hw, h60, fun j e => by cases e; exact q, fun h => by cases h⟩
theorem g_mirI {DC a : Addr} {H : Hp} {c w : Int} {ns : List (Option Int)} {ls : List (Int × Int × Int)} {Q : VK} {E : XK} (hD : DiaAt DC H (.ref a) c ns ls) (ok : DOK c ns ls w) (hw : w ≤ 1000000000) (h60 : ls.length ≤ 60)
    (q : ∀ (x : Addr) (H' : Hp), H x = none → DiaAt DC H' (.ref x) c (mirN c ns) (mirL ls) → (∀ b o, H b = some o → H' b = some o) → Q (.ref x) H') : spMir DC [.ref a] H Q E :=
  ⟨.ref a, c, w, ns, ls, rfl, hD, ok, hw, h60, q⟩
/-- a method of a diary is asked for -/
theorem g_mAt {DC a : Addr} {H : Hp} {c : Int} {ns : List (Option Int)} {ls : List (Int × Int × Int)} {m : Str} {R : Prop} (hD : DiaAt DC H (.ref a) c ns ls) (hm : ∀ x y z, (dFs x y z).lookup m = none) (r : R) : ∃ a' dx fs, V.ref a = .ref a' ∧ H a' = some (.ins DC dx fs) ∧ fs.lookup m = none ∧ R := by
  obtain ⟨a0, dx, wv, bv, e, h1, _, _⟩ := hD
  cases e
  exact ⟨a, dx, _, rfl, h1, hm _ _ _, r⟩
def spRight (DC : Addr) : Sp := fun vs H Q _ => ∃ (m cc g : Addr) (B : Int) (v : V) (b : Book), vs = [.ref m, v] ∧ Pr m cc g H H B ∧ B < 2 ^ 24 ∧ Fz H v b.d ∧ b.OK 3000 48 ∧ 2 ≤ b.notes.length ∧ ∀ H', Pr m cc g H H' (B + 3) → Q (.bl true) H'
theorem Pr.ext {m c g : Addr} {H H' : Hp} {B : Int} (p : Pr m c g H H B) (e : LamX.ExtN H H') : Pr m c g H' H' B := by
  obtain ⟨n, h, d⟩ := p.dr
  exact ⟨⟨n, h, d.ext e⟩, But.refl⟩
def spLawT (K : PySem.W.Frag) (T : List (Addr × Str)) : Sp := fun vs H Q _ => ∃ (a : Addr) (ns : List Int), vs = [.ref a] ∧ SqL K H a (ns.map V.int) ∧ ns.length ≤ 63 ∧ LamX.Tabs T H ∧ ∀ H', Q (.bl true) H'
end WL
set_option Elab.async false
set_option linter.all false
set_option maxRecDepth 100000
set_option maxHeartbeats 4000000
namespace WL
open PySem PySem.Spec PyProof.Rows L2
/-! ### walks: what a row of values is as one -/
def placeV : Option Int → V
  | none => .non
  | some i => .int i
/-- the first value, counted from n, that does not go on from this place -/
def walkF (ls : List (Int × Int × Int)) : List Sh → Nat → Option Int → Option Nat
  | [], _, _ => none
  | s :: ss, n, place => match s with
    | .int i => if 0 ≤ i ∧ i < ls.length then (match ls[i.toNat]? with
        | some l => if place.isSome ∧ place ≠ some l.1 then some n else walkF ls ss (n + 1) (some l.2.1)
        | none => some n) else some n
    | _ => some n
theorem walkF_int {ls : List (Int × Int × Int)} {i : Int} {ss : List Sh} {n : Nat} {place : Option Int} (h0 : 0 ≤ i) (h1 : i.toNat < ls.length) : walkF ls (.int i :: ss) n place = if place.isSome ∧ place ≠ some ls[i.toNat].1 then some n else walkF ls ss (n + 1) (some ls[i.toNat].2.1) := by
  have e : walkF ls (.int i :: ss) n place = (if 0 ≤ i ∧ i < (ls.length : Int) then (match ls[i.toNat]? with
        | some l => if place.isSome ∧ place ≠ some l.1 then some n else walkF ls ss (n + 1) (some l.2.1)
        | none => some n) else some n) := rfl
  rw [e, if_pos (show 0 ≤ i ∧ i < (ls.length : Int) from ⟨h0, by omega⟩), List.getElem?_eq_getElem h1]
theorem walkF_out {ls : List (Int × Int × Int)} {s : Sh} {ss : List Sh} {n : Nat} {place : Option Int} (h : s.within 0 ((ls.length : Int) - 1) = false) : walkF ls (s :: ss) n place = some n := by
  cases s with
  | int i =>
    have e : walkF ls (.int i :: ss) n place = (if 0 ≤ i ∧ i < (ls.length : Int) then (match ls[i.toNat]? with
        | some l => if place.isSome ∧ place ≠ some l.1 then some n else walkF ls ss (n + 1) (some l.2.1)
        | none => some n) else some n) := rfl
    rw [e]
    have : ¬ (0 ≤ i ∧ i < ls.length) := fun ⟨a, b⟩ => by
      rw [within_int ⟨a, by omega⟩] at h
      cases h
    rw [if_neg this]
  | _ => rfl
/-- the class InvalidWalk -/
structure EvK (P : Program) (K : PySem.W.Frag) (mg : Str → Option Value) (IW : Addr) : Prop where
  at_ : mg "InvalidWalk" = some (.ref IW)
  ex : ∃ fI fd, ExT P K mg ["spot"] IW fI ∧ ExI P K ["spot"] IW fI fd ∧ ∀ (s : Shared) (u v : Value), K.In s.heap → BindsTo s fd ⟨[u, v], []⟩ [("self", u), ("spot", v)]
def spotV : Option Nat → V
  | none => .non
  | some n => .int n
def spWalkF (K : PySem.W.Frag) (DC : Addr) : Sp := fun vs H Q _ => ∃ (v : V) (t : Addr) (us : List V) (ss : List Sh) (c w : Int) (ns : List (Option Int)) (ls : List (Int × Int × Int)), vs = [v, .ref t] ∧ DiaAt DC H v c ns ls ∧ DOK c ns ls w ∧ ls.length ≤ 100 ∧ SqT K H t us ∧ AnSs K H us ss ∧
  ∀ H', (∀ b o, H b = some o → H' b = some o) → Q (spotV (walkF ls ss 0 none)) H'
def spNoFault (IW : Addr) : Sp := fun vs H Q E => ∃ (o : Option Nat), vs = [spotV o] ∧ (o = none → Q .non H) ∧ ∀ n, o = some n → ∀ d, H d = none → E (.ref IW) (some d) (upd H d (.xd [("spot", .int n)]))
def wFs (x y : V) : List (Str × V) := [("_diary", x), ("_numbers", y)]
/-- Walk's __init__, what is behind the diary in a tuple -/
def spWInitT (K : PySem.W.Frag) (DC WC IW : Addr) : Sp := fun vs H Q E => ∃ (a dx t : Addr) (v : V) (us : List V) (ss : List Sh) (c w : Int) (ns : List (Option Int)) (ls : List (Int × Int × Int)), vs = [.ref a, v, .ref t] ∧ H a = some (.ins WC dx []) ∧ DiaAt DC H v c ns ls ∧ DOK c ns ls w ∧ ls.length ≤ 100 ∧ SqT K H t us ∧ us.length ≤ 100000 ∧ AnSs K H us ss ∧
  (us = [] → ∀ d, H d = none → E (.ref IW) (some d) (upd H d (.xd [("spot", .non)]))) ∧
  (∀ n, us ≠ [] → walkF ls ss 0 none = some n → ∀ H' d, (∀ b o, H b = some o → H' b = some o) → H' d = none → E (.ref IW) (some d) (upd H' d (.xd [("spot", .int n)]))) ∧
  (us ≠ [] → walkF ls ss 0 none = none → ∀ H', H' a = some (.ins WC dx (wFs v (.ref t))) → (∀ b o, b ≠ a → H b = some o → H' b = some o) → Q .non H')
/-- Walk(diary, ..): what is behind the diary goes into a tuple -/
def spWInit (K : PySem.W.Frag) (DC WC IW : Addr) : Sp := fun vs H Q E => ∃ ws rest, vs = ws ++ rest ∧ ws.length = (["self", "diary"] : List Str).length ∧ rest.length ≤ sizeLine ∧ ∀ p, H p = Option.none → spWInitT K DC WC IW (ws ++ [V.ref p]) (upd H p (.tup rest)) Q E
/-- the class Walk -/
structure WkO (K : PySem.W.Frag) (WC : Addr) : Prop where
  cls : Cls K WC
  n1 : NoAttr K WC "_diary"
  n2 : NoAttr K WC "_numbers"
end WL
set_option Elab.async false
set_option linter.all false
set_option maxRecDepth 100000
set_option maxHeartbeats 4000000
namespace WL
open PySem PySem.Spec PyProof.Rows L2
/-! ### the sum of a list of numbers -/
def rSumI (K : PySem.W.Frag) : List V → Hp → VK → Prop := fun xs H Q => ∃ (p : Addr) (is : List Int), xs = [.ref p] ∧ SqL K H p (is.map V.int) ∧ Q (.int is.sum) H
theorem ints_at : ∀ {is : List Int} {us : List Value}, Vals (is.map V.int) us → ∀ (i : Nat) (u : Value), us[i]? = some u → ∃ n t, is[i]? = some n ∧ u = .int n t
  | [], _, .nil, i, u, h => by simp at h
  | b :: bs, _, .cons r t, 0, u, h => by
    obtain ⟨k, rfl⟩ := r
    simp only [List.getElem?_cons_zero, Option.some.injEq] at h
    exact ⟨b, k, rfl, h.symm⟩
  | b :: bs, _, .cons r t, i + 1, u, h => by
    simp only [List.getElem?_cons_succ] at h ⊢
    exact ints_at t i u h
theorem sum_at (is : List Int) : ∀ k, k ≤ is.length → preSum (fun i => (is[i]?).getD 0) k = (is.take k).sum
  | 0, _ => by simp [preSum]
  | k + 1, h => by
    have hk : k < is.length := h
    have e : preSum (fun i => (is[i]?).getD 0) (k + 1) = preSum (fun i => (is[i]?).getD 0) k + (is[k]?).getD 0 := by
      first
        | rfl
        | simp [preSum]
    rw [e, sum_at is k (Nat.le_of_lt hk), List.take_succ, List.getElem?_eq_getElem hk, List.sum_append]
    simp
theorem call_sumI {X : Cx} (calm : X.calm = true) : CallR X (.builtin "sum") (rSumI X.K) := by
  intro pins s σ H xs us Q I r h
  obtain ⟨p, is, rfl, hq, q⟩ := h
  obtain ⟨u, rfl, rx⟩ := vals1 r
  cases rx
  obtain ⟨its, rv, pl, _⟩ := I.list hq
  have len : its.length = is.length := by rw [← rv.length, List.length_map]
  have low : p < s.heap.objs.size := by obtain ⟨_, e, _⟩ := pl.isList; exact Heap.lt_size e
  refine call_sum_walkG (wpAny_pyIter_list pl.isList ?_)
  refine ⟨s.heap.objs.size, [s.heap.objs.size, p], [s.heap.objs.size], its.toArray.size, _, _, fun i => (is[i]?).getD 0, rfl, Walks.list (A := X.A.in1) (I.ok.hd calm) _ p (Nat.ne_of_lt low) its.toArray, ⟨⟨_, Heap.get?_push_size _ rfl, rfl, rfl⟩, pl.isList.push _⟩, ?_, ?_, ?_⟩
  · intro b hb
    show b < (s.heap.push _).objs.size
    rw [Heap.size_push]
    rcases List.mem_cons.mp hb with rfl | hb
    · exact Nat.lt_succ_self _
    · rw [List.mem_singleton.mp hb]; exact Nat.lt_succ_of_lt low
  · intro i v hP
    obtain ⟨n, t, e, rfl⟩ := ints_at rv i v (by simpa using hP)
    exact ⟨t, by show Value.int n t = Value.int ((is[i]?).getD 0) t; rw [e]; rfl⟩
  · intro h' tk t' hk
    have e : preSum (fun i => (is[i]?).getD 0) its.toArray.size = is.sum := by
      rw [List.size_toArray, len, sum_at is _ (Nat.le_refl _), List.take_length]
    rw [e]
    exact ⟨.int is.sum, H, I.kept (t' := tk) (LSm.kept_iter hk), ⟨_, rfl⟩, q⟩
end WL
set_option Elab.async false
set_option linter.all false
set_option maxRecDepth 100000
set_option maxHeartbeats 4000000
namespace WL
open PySem PySem.Spec PyProof.Rows L2
/-! ### walks as objects -/
def lineAt (ls : List (Int × Int × Int)) (i : Int) : Int × Int × Int := ls.getD i.toNat (0, 0, 0)
def stopsOf (ls : List (Int × Int × Int)) (is : List Int) : List Int := (is.take 1).map (fun i => (lineAt ls i).1) ++ is.map fun i => (lineAt ls i).2.1
def totalOf (ls : List (Int × Int × Int)) (is : List Int) : Int := (is.map fun i => (lineAt ls i).2.2).sum
def InR (ls : List (Int × Int × Int)) (is : List Int) : Prop := ∀ i ∈ is, 0 ≤ i ∧ i.toNat < ls.length
theorem lineAt_get {ls : List (Int × Int × Int)} {i : Int} (h : i.toNat < ls.length) : lineAt ls i = ls[i.toNat] := by
  unfold lineAt
  rw [List.getD_eq_getElem?_getD, List.getElem?_eq_getElem h]; rfl
def WkAt (DC WC : Addr) (H : Hp) (v : V) (c : Int) (ns : List (Option Int)) (ls : List (Int × Int × Int)) (is : List Int) : Prop := ∃ a dx dv t, v = .ref a ∧ H a = some (.ins WC dx (wFs dv (.ref t))) ∧ DiaAt DC H dv c ns ls ∧ H t = some (.tup (is.map V.int))
theorem WkAt.keep {DC WC : Addr} {H H' : Hp} {v : V} {c : Int} {ns : List (Option Int)} {ls : List (Int × Int × Int)} {is : List Int} (h : WkAt DC WC H v c ns ls is) (t : Tk H H') (i : Ik H H') : WkAt DC WC H' v c ns ls is := by
  obtain ⟨a, dx, dv, u, e, h1, h2, h3⟩ := h
  exact ⟨a, dx, dv, u, e, i _ _ _ _ h1, h2.keep t i, t _ _ h3⟩
theorem WkAt.same {DC WC : Addr} {H H' : Hp} {v : V} {c : Int} {ns : List (Option Int)} {ls : List (Int × Int × Int)} {is : List Int} (h : WkAt DC WC H v c ns ls is) (k : ∀ b o, H b = some o → H' b = some o) : WkAt DC WC H' v c ns ls is := h.keep (Tk.same k) (Ik.same k)
section
variable {K : PySem.W.Frag} {WC : Addr} {H : Hp}
theorem g_w1 {a dx : Addr} {x y : V} {P : V → Prop} (d : WkO K WC) (h : H a = some (.ins WC dx (wFs x y))) (q : P x) : ∃ a' C dx' fs v, V.ref a = .ref a' ∧ H a' = some (.ins C dx' fs) ∧ Cls K C ∧ NoAttr K C "_diary" ∧ fs.lookup ("_diary" : Str) = some v ∧ P v := ⟨a, WC, dx, _, x, rfl, h, d.cls, d.n1, rfl, q⟩
theorem g_w2 {a dx : Addr} {x y : V} {P : V → Prop} (d : WkO K WC) (h : H a = some (.ins WC dx (wFs x y))) (q : P y) : ∃ a' C dx' fs v, V.ref a = .ref a' ∧ H a' = some (.ins C dx' fs) ∧ Cls K C ∧ NoAttr K C "_numbers" ∧ fs.lookup ("_numbers" : Str) = some v ∧ P v := ⟨a, WC, dx, _, y, rfl, h, d.cls, d.n2, rfl, q⟩
end
def spStops (DC WC : Addr) : Sp := fun vs H Q _ => ∃ (v : V) (c : Int) (ns : List (Option Int)) (ls : List (Int × Int × Int)) (is : List Int), vs = [v] ∧ WkAt DC WC H v c ns ls is ∧ InR ls is ∧ is ≠ [] ∧ is.length ≤ 1000 ∧
  ∀ (p : Addr) (H' : Hp), H' p = some (.tup ((stopsOf ls is).map V.int)) → (∀ b o, H b = some o → H' b = some o) → Q (.ref p) H'
def spTotal (DC WC : Addr) : Sp := fun vs H Q _ => ∃ (v : V) (c : Int) (ns : List (Option Int)) (ls : List (Int × Int × Int)) (is : List Int), vs = [v] ∧ WkAt DC WC H v c ns ls is ∧ InR ls is ∧ is.length ≤ 1000 ∧
  ∀ H', (∀ b o, H b = some o → H' b = some o) → Q (.int (totalOf ls is)) H'
def spWLen (DC WC : Addr) : Sp := fun vs H Q _ => ∃ (v : V) (c : Int) (ns : List (Option Int)) (ls : List (Int × Int × Int)) (is : List Int), vs = [v] ∧ WkAt DC WC H v c ns ls is ∧ Q (.int is.length) H
/-- a property of a class of one's own -/
structure PropE (P : Program) (w : World) (K : PySem.W.Frag) (mg : Str → Option Value) (base : Heap) (k : Nat) (C : Addr) (n : Str) (sp : Sp) : Prop where
  ex : ∃ p g fd, PropOf K C n p g ∧ Binds K fd ["self"] [] ∧ FnOk P w K mg base CX0 k g fd ["self"] sp
theorem pe_pe {X : Cx} {C : Addr} {k j : Nat} {n : Str} {sp : Sp} {e : Expr} {te : TE} {pos : Pos} (F : PropE X.prog X.w X.K X.mg X.base k C n sp) (O : Cls X.K C) (hr : Room j X.A) (hk : k + 1 ≤ j) (he : PE X e te) (hab : attributeBase e n X.env (eval e X.env) = eval e X.env := by rfl) : PE X (.Attribute e n pos) (tProp C sp [] E0 te) := by
  obtain ⟨p, g, fd, h1, h2, h3⟩ := F.ex
  exact pe_prop he O h1 h3 (hr.mono hk) h2 .nil pass0 hab
end WL
set_option Elab.async false
set_option linter.all false
set_option maxRecDepth 100000
set_option maxHeartbeats 4000000
namespace WL
open PySem PySem.Spec PyProof.Rows L2
/-! ### more of walks: equality; diaries with one bound, one note more -/
structure WkQ (K : PySem.W.Frag) (DC WC : Addr) : Prop where
  same : PySem.W.kitOne K (.ref WC) (.ref WC) = some true
  other : ∀ s : Sh, PySem.W.kitOne K (.type s.ty) (.ref WC) = some false
  dia : PySem.W.kitOne K (.ref DC) (.ref WC) = some false
  g1 : PySem.W.findIn K (.ref WC) "__class__" = some (some (.builtin "object.__class__"))
  g2 : PySem.W.specialIn K (.builtin "object.__class__") "__get__" = some (some (.builtin "getset_descriptor.__get__"))
  g3 : PySem.W.takesIn K (.builtin "object.__class__") = some true
  g4 : PySem.W.mroIn K WC (.type "object") = some true
theorem WkQ.ty {K : PySem.W.Frag} {DC WC a dx : Addr} {fs : List (Str × V)} {H : Hp} (D : WkQ K DC WC) (O : WkO K WC) (h : H a = some (.ins WC dx fs)) : TyX K H (.ref a) (.ref WC) := .base (.ins h O.cls D.g1 D.g2 D.g3 D.g4)
/-- a value that is no walk -/
inductive NoWk (K : PySem.W.Frag) (DC : Addr) (H : Hp) : V → Prop
  | an {x : V} {s : Sh} : AnS K H x s → OddE K H x → NoWk K DC H x
  | dia {x : V} {c : Int} {ns : List (Option Int)} {ls : List (Int × Int × Int)} : DiaAt DC H x c ns ls → NoWk K DC H x
def spWEq (K : PySem.W.Frag) (DC WC : Addr) : Sp := fun vs H Q _ => ∃ (v x : V) (c : Int) (ns : List (Option Int)) (ls : List (Int × Int × Int)) (is : List Int), vs = [v, x] ∧ WkAt DC WC H v c ns ls is ∧
  ((∃ c2 ns2 ls2 is2, WkAt DC WC H x c2 ns2 ls2 is2 ∧ ∀ r : Bool, (r = true ↔ (c = c2 ∧ ns = ns2 ∧ ls = ls2 ∧ is = is2)) → Q (.bl r) H) ∨ (NoWk K DC H x ∧ Q (.bl false) H))
def spAdd (DC : Addr) : Sp := fun vs H Q _ => ∃ (v : V) (rest : List V) (c w : Int) (ns : List (Option Int)) (ls ls2 : List (Int × Int × Int)), vs = v :: rest ∧ DiaAt DC H v c ns ls ∧ Fzs H rest (ls2.map lineD) ∧ DOK c ns (ls ++ ls2) w ∧ w ≤ 1000000000 ∧ (ls ++ ls2).length ≤ 60 ∧
  ∀ (x : Addr) (H' : Hp), H x = none → DiaAt DC H' (.ref x) c ns (ls ++ ls2) → (∀ b o, H b = some o → H' b = some o) → Q (.ref x) H'
def spAddT (DC : Addr) : Sp := fun vs H Q _ => ∃ (v : V) (t : Addr) (c w : Int) (ns : List (Option Int)) (ls ls2 : List (Int × Int × Int)), vs = [v, .ref t] ∧ DiaAt DC H v c ns ls ∧ Fz H (.ref t) (linesD ls2) ∧ DOK c ns (ls ++ ls2) w ∧ w ≤ 1000000000 ∧ (ls ++ ls2).length ≤ 60 ∧
  ∀ (x : Addr) (H' : Hp), H x = none → DiaAt DC H' (.ref x) c ns (ls ++ ls2) → (∀ b o, H b = some o → H' b = some o) → Q (.ref x) H'
theorem add_star {DC : Addr} : ∀ vs H Q E, spAdd DC vs H Q E → ∃ ws rest, vs = ws ++ rest ∧ ws.length = (["self"] : List Str).length ∧ rest.length ≤ sizeLine ∧ ∀ p, H p = Option.none → spAddT DC (ws ++ [V.ref p]) (upd H p (.tup rest)) Q E := by
  rintro vs H Q E ⟨v, rest, c, w, ns, ls, ls2, rfl, hD, hr, ok, hw, h60, q⟩
  refine ⟨[v], rest, rfl, rfl, ?_, fun p np => ⟨v, p, c, w, ns, ls, ls2, rfl, hD.same (same_up np fun _ _ h => h), .tup upd_same (hr.tk (Tk.new np)), ok, hw, h60, fun x H' nx d s => ?_⟩⟩
  · rw [hr.length, List.length_map]
    rw [List.length_append] at h60
    exact sz (by omega)
  · have u := same_up (o := .tup rest) np (H := H) (fun _ _ h => h)
    exact q x H' (none_up nx u) d fun b o h => s _ _ (u _ _ h)
def spNoting (DC : Addr) : Sp := fun vs H Q _ => ∃ (v : V) (i : Int) (n : Option Int) (c w : Int) (ns : List (Option Int)) (ls : List (Int × Int × Int)), vs = [v, .int i, noteV n] ∧ DiaAt DC H v c ns ls ∧ DOK c ns ls w ∧ w ≤ 1000000000 ∧ ls.length ≤ 60 ∧ (0 ≤ i ∧ i.toNat < ns.length) ∧ (∀ k, n = some k → 0 ≤ k ∧ k < c) ∧
  ∀ (x : Addr) (H' : Hp), H x = none → DiaAt DC H' (.ref x) c (ns.set i.toNat n) ls → (∀ b o, H b = some o → H' b = some o) → Q (.ref x) H'
theorem note_ok {c w : Int} {ns : List (Option Int)} {ls : List (Int × Int × Int)} {i : Nat} {n : Option Int} (h : DOK c ns ls w) (hn : ∀ k, n = some k → 0 ≤ k ∧ k < c) : DOK c (ns.set i n) ls w := by
  obtain ⟨a1, a2, a3, a4, a5, a6⟩ := h
  refine ⟨a1, a2, by rw [List.length_set]; exact a3, by rw [List.length_set]; exact a4, fun k hk => ?_, fun l hl => by rw [List.length_set]; exact a6 l hl⟩
  rcases List.mem_or_eq_of_mem_set hk with q | q
  · exact a5 k q
  · exact hn k q.symm
end WL
set_option Elab.async false
set_option linter.all false
set_option maxRecDepth 100000
set_option maxHeartbeats 4000000
namespace WL
open PySem PySem.Spec PyProof.Rows L2
/-! ### a def with a star parameter, called by keywords only -/
def FnRK (P : Program) (w : World) (K : PySem.W.Frag) (mg : Str → Option Value) (base : Heap) (CX : CXT) (k : Nat) (f : Addr) (n : Nat) (ks : List Str) (sp : Sp) : Prop :=
  ∀ (A : Around) (outer : List Env) (s : Shared) (H : Hp) (us ws : List Value) (vs zs : List V) (Q : VK) (E : XK), Room k A → Env0 P w K mg base A outer s H → Vals vs us → Vals zs ws → vs.length = n → zs.length = ks.length → sp (vs ++ zs) H Q E →
    codeAny (model P w) A (.call (.ref f) ⟨us, ks.zip ws⟩) (CR CX outer P w H s Q E) s
section
variable {CX : CXT} {P : Program} {w : World} {K : PySem.W.Frag} {mg : Str → Option Value} {base : Heap} {k : Nat} {f : Addr} {name qual : Str} {params : Arguments} {body : List Stmt} {scope : Scope} {dV kV doc pm cdv ct oc : Value} {an od : Option Addr}
  {osl : Array (Option Value)} {N ps ks : List Str} {sp : Sp} {n : Nat}
theorem fn_starK {pv : Str} (lk : K.lookup f = some ⟨oc, od, .func (PySem.W.fnOf name qual params body scope dV kV doc pm an cdv ct), osl⟩) (hcd : PySem.W.codeIn K cdv qual = true) (S : FnScope N (ps ++ [pv]) scope) (hCX : StX.CXUp CX) (hps : n + ks.length = ps.length)
    (hb : ∀ us ws : List Value, us.length = n → ws.length = ks.length → bindArgs (PySem.W.fnOf name qual params body scope dV kV doc pm an cdv ct) ⟨us, ks.zip ws⟩ = (newTuple [] >>= fun t => pure (ps.zip (us ++ ws) ++ [(pv, t)])))
    (hbody : ∀ (A : Around) (outer : List Env) (s : Shared) (H : Hp) (vs : List V) (Q : VK) (E : XK), Room k (A.deeper (envOfC qual scope s.heap.objs.size f cdv)) → sp vs H Q E →
      ∃ t, PSs (cxOf CX P w K mg base N qual scope f cdv A outer s H E) body t ∧ t { nx := fun _ H' => Q .non H', rt := Q } (start N vs) H) :
    FnRK P w K mg base CX (k + 1) f n ks (fun vs H Q E => ∀ p, H p = Option.none → sp (vs ++ [V.ref p]) (upd H p (.tup [])) Q E) := by
  intro A outer s H us ws vs zs Q E hr e0 r rz l1 l2 hq
  have hn : H s.heap.objs.size = Option.none := e0.hok.fresh (Nat.le_refl _)
  have h1 : us.length = n := by rw [← r.length]; exact l1
  have h2 : ws.length = ks.length := by rw [← rz.length]; exact l2
  have rr : Vals (vs ++ zs) (us ++ ws) := r.append rz
  have hl1 : (us ++ ws).length = ps.length := by rw [List.length_append, h1, h2]; exact hps
  refine StX.run_bnd lk hcd S hr e0 (G := fun xs H2 => ∃ p, H p = Option.none ∧ xs = (vs ++ zs) ++ [V.ref p] ∧ H2 = upd H p (.tup [])) (fun A' Ex Q' h => ?_) fun s2 H2 xs ⟨p, hp, ex, eH⟩ hr' => ?_
  · rw [hb us ws h1 h2]
    refine wpAny_bind (wpAny_newTuple (wpAny_pure ?_) (Nat.zero_le _))
    have new : ObjOk P w (upd H s.heap.objs.size (.tup [])) (s.heap.push ({ cls := .type "tuple", data := .seq ([] : List Value).toArray } : Obj)) s.heap.objs.size (.tup []) := ⟨Nat.zero_le _, [], .nil, ⟨_, Heap.get?_push_size _ rfl, rfl, _, rfl⟩⟩
    have un := StX.un_laid (fs := frs outer) (s := s) (o := ({ cls := .type "tuple", data := .seq ([] : List Value).toArray } : Obj)) (u := .tup []) hn
    have z := h _ _ ((vs ++ zs) ++ [V.ref s.heap.objs.size]) ((us ++ ws) ++ [Value.ref s.heap.objs.size]) (StX.env0_laid e0 new) un rfl (fun e s' => hCX outer s H _ _ E e s' un (fun b o q => Heap.get?_push_of_some _ q) rfl) (rr.append (.cons rfl .nil))
      (by rw [List.length_append, rr.length, hl1, List.length_append] <;> rfl) ⟨_, hn, rfl, rfl⟩
    rw [List.zip_append hl1.symm] at z
    exact z
  · subst ex eH
    exact hbody A outer s2 _ _ Q E hr' (hq p hp)
end
def tMakeRK (C : Addr) (m : Nat) (sp : Sp) (E : XK) (tk : TA) : TE := fun σ H Q => tk σ H fun zs H2 => zs.length = m ∧ ∀ x dx, H2 x = none → H2 dx = none → dx ≠ x →
  sp (V.ref x :: zs) (upd (upd H2 dx (.own x)) x (.ins C dx [])) (fun v H3 => v = .non ∧ Q (.ref x) H3) E
section
variable {X : Cx} {CX : CXT} {k : Nat} {f C : Addr} {ks : List Str} {sp : Sp} {E : XK} {x : Str} {p pos : Pos} {kws : List Keyword} {tk : TA}
theorem run_makeRK {pins : List (Addr × Obj)} {σ : L2.St} {H : Hp} {s : Shared} {Q : VK} {ws : List Value} {zs : List V} (M : Mk X.K C f) (F : FnRK X.prog X.w X.K X.mg X.base CX k f 1 ks sp) (hr : Room (k + 1) X.A) (hx : Passes CX X E)
    (I : Inv X pins σ H s) (rz : Vals zs ws) (l2 : zs.length = ks.length)
    (h : ∀ x dx, H x = none → H dx = none → dx ≠ x → sp (V.ref x :: zs) (upd (upd H dx (.own x)) x (.ins C dx [])) (fun v H2 => v = .non ∧ Q (.ref x) H2) E) :
    wpAny (model X.prog X.w) X.A (call (.ref C) [] (ks.zip ws)) (EP X pins σ Q) X.xe s := by
  have hq := h (s.heap.objs.size + 1) s.heap.objs.size (I.hok.fresh (Nat.le_succ _)) (I.hok.fresh (Nat.le_refl _)) (Nat.ne_of_lt (Nat.lt_succ_self _))
  have I2 := Inv.made (C := C) I
  have r1 : Vals [V.ref (s.heap.objs.size + 1)] [Value.ref (s.heap.objs.size + 1)] := .cons rfl .nil
  refine wpAny_call (make_map (f := f) I.kIn M.makes M.init (beq_iff_eq.mp M.fn) (codeAny_mono (F _ X.stack _ _ [Value.ref (s.heap.objs.size + 1)] ws [V.ref (s.heap.objs.size + 1)] zs _ E (hr.make C [] (ks.zip ws))
    (I2.env0.make C [] (ks.zip ws)) r1 rz rfl l2 hq) fun r s' hq' => ?_))
  cases r with
  | error e => exact hx pins σ _ _ e s' I2 hq'
  | ok fl =>
    cases fl with
    | ret u =>
      obtain ⟨v, H', I3, rv, ev, q3⟩ := I2.after hq'
      subst ev
      exact ⟨rv, ⟨V.ref (s.heap.objs.size + 1), H', I3, rfl, q3⟩⟩
    | next => exact False.elim hq'
    | brk => exact False.elim hq'
    | cont => exact False.elim hq'
theorem pe_makeRK0 (M : Mk X.K C f) (F : FnRK X.prog X.w X.K X.mg X.base CX k f 1 ks sp) (hr : Room (k + 1) X.A) (hg : Gl X x) (hm : X.mg x = some (.ref C)) (hx : Passes CX X E) (hkw : PK X kws tk)
    (hall : (backToKw pos (keywordEach kws X.env)).all (·.1.isSome) = true := by rfl) (hks : (backToKw pos (keywordEach kws X.env)).filterMap (·.1) = ks := by rfl) (hdb : (x == ("__debug__" : Str)) = false := by decide)
    (hpl : ((backTo pos (starEach [] X.env)).any (·.1) || (backToKw pos (keywordEach kws X.env)).any (·.1.isNone)) = false := by rfl) :
    PE X (.Call (.Name x p) [] kws pos) (tMakeRK C ks.length sp E tk) := by
  refine ⟨fun pins s σ H Q I h => ?_⟩
  refine wpAny_Call_Name_kw (ld_glob I hg hm ?_ hdb)
  refine PySem.W.callWith_KW0 (h₀ := X.base) I.ok.mod.kin M.kp hall ?_ hpl
  refine thn (hkw.run pos pins s σ H _ I h) fun ws s2 ⟨zs, H2, I2, rz, l2, q2⟩ => ⟨I2.kIn, ?_⟩
  rw [hks]
  exact run_makeRK M F hr hx I2 rz l2 q2
end
/-! ### a tuple beside the empty one -/
def rEqT0 (K : PySem.W.Frag) : R2 := fun x y H Q => ∃ a b xs, x = .ref a ∧ y = .ref b ∧ SqT K H a xs ∧ SqT K H b [] ∧ Q (.bl (decide (xs = []))) H
theorem op_eqT0 {X : Cx} (hu : X.A.units + 64 < cLine) : OpR X (compareOp .Eq) (rEqT0 X.K) := by
  intro pins s σ H x y v u Q I rx ry h
  obtain ⟨a, b, xs, rfl, rfl, ha, hb, q⟩ := h
  cases rx
  cases ry
  obtain ⟨its, rv, pl, _⟩ := I.tuple ha
  obtain ⟨its2, rv2, pl2, _⟩ := I.tuple hb
  cases rv2
  have t1 : s.heap.IsTuple a its.toArray := pl
  have t2 : s.heap.IsTuple b #[] := pl2
  refine PySem.W.eq_tuplesT (e := fun _ => true) (n := 0) t1 t2 (fun j h1 h2 => absurd h2 (by simp)) (by omega) ?_
  have e : ((List.range (min its.toArray.size (#[] : Array Value).size)).all (fun _ => true) && its.toArray.size == (#[] : Array Value).size) = decide (xs = []) := by
    have hl := rv.length
    cases xs with
    | nil => cases rv; rfl
    | cons x xs =>
      cases its with
      | nil => simp at hl
      | cons i its => simp
  rw [e]
  exact ⟨.bl _, H, I, rfl, q⟩
theorem g_eqT0 {K : PySem.W.Frag} {H : Hp} {Q : VK} {a b : Addr} {xs : List V} (h : SqT K H a xs) (k : H b = some (.tup [])) (q : Q (.bl (decide (xs = []))) H) : rEqT0 K (.ref a) (.ref b) H Q := ⟨a, b, xs, rfl, rfl, h, SqT.of k, q⟩
/-! ### walks of a book -/
/-- numbers of bounds that go on from one another -/
def WOK (ls : List (Int × Int × Int)) (is : List Int) : Prop := is ≠ [] ∧ InR ls is ∧ ∀ j (h : j + 1 < is.length), (lineAt ls (is[j]'(by omega))).2.1 = (lineAt ls is[j + 1]).1
theorem stopsOf_snoc (ls : List (Int × Int × Int)) (is : List Int) (x : Int) : stopsOf ls (is ++ [x]) = stopsOf ls is ++ (if is = [] then [(lineAt ls x).1] else []) ++ [(lineAt ls x).2.1] := by
  cases is with
  | nil => simp [stopsOf]
  | cons i is => simp [stopsOf]
theorem stopsOf_take {ls : List (Int × Int × Int)} {is : List Int} {i : Nat} (h : i < is.length) : stopsOf ls (is.take (i + 1)) = stopsOf ls (is.take i) ++ (if i = 0 then [(lineAt ls is[i]).1] else []) ++ [(lineAt ls is[i]).2.1] := by
  have e : is.take (i + 1) = is.take i ++ [is[i]] := by rw [List.take_succ, List.getElem?_eq_getElem h]; rfl
  rw [e, stopsOf_snoc]
  by_cases z : i = 0
  · subst z; simp
  · have : is.take i ≠ [] := by
      intro q
      have := congrArg List.length q
      rw [List.length_take, List.length_nil] at this
      omega
    rw [if_neg z, if_neg this]
theorem stopsOf_len {ls : List (Int × Int × Int)} {is : List Int} (h : is ≠ []) : (stopsOf ls is).length = is.length + 1 := by
  cases is with
  | nil => exact absurd rfl h
  | cons i is => simp [stopsOf]
theorem stopsOf_last {ls : List (Int × Int × Int)} {is : List Int} {i : Nat} (h : i < is.length) : (stopsOf ls (is.take (i + 1)))[i + 1]? = some (lineAt ls is[i]).2.1 := by
  rw [stopsOf_take h]
  have e : (stopsOf ls (is.take i) ++ if i = 0 then [(lineAt ls is[i]).1] else []).length = i + 1 := by
    by_cases z : i = 0
    · subst z; simp [stopsOf]
    · have : is.take i ≠ [] := by
        intro q
        have := congrArg List.length q
        rw [List.length_take, List.length_nil] at this
        omega
      rw [List.length_append, stopsOf_len this, if_neg z, List.length_take]
      simp; omega
  rw [List.getElem?_append_right (by rw [e]; exact Nat.le_refl _), e]
  simp
/-- a walk of ints is seen as one -/
theorem walkF_go {ls : List (Int × Int × Int)} : ∀ (is : List Int) (n : Nat) (pl : Option Int), InR ls is → (∀ j (h : j + 1 < is.length), (lineAt ls (is[j]'(by omega))).2.1 = (lineAt ls is[j + 1]).1) → (∀ (h : 0 < is.length), pl = none ∨ pl = some (lineAt ls is[0]).1) → walkF ls (is.map Sh.int) n pl = none
  | [], _, _, _, _, _ => rfl
  | i :: is, n, pl, hin, hc, hp => by
    obtain ⟨i0, i1⟩ := hin i (List.mem_cons_self)
    rw [List.map_cons, walkF_int i0 i1]
    have z := hp (by simp)
    have e : ls[i.toNat].1 = (lineAt ls i).1 := by rw [lineAt_get i1]
    have e2 : ls[i.toNat].2.1 = (lineAt ls i).2.1 := by rw [lineAt_get i1]
    rw [if_neg (by
      rintro ⟨h1, h2⟩
      rcases z with z | z
      · rw [z] at h1; cases h1
      · exact h2 (by rw [z, e]; rfl))]
    refine walkF_go is (n + 1) _ (fun k hk => hin k (List.mem_cons_of_mem _ hk)) (fun j h => hc (j + 1) (by simpa using h)) fun h => Or.inr ?_
    rw [e2]
    exact congrArg some (hc 0 (by simpa using h))
theorem WOK.walk {ls : List (Int × Int × Int)} {is : List Int} (h : WOK ls is) : walkF ls (is.map Sh.int) 0 none = none := walkF_go is 0 none h.2.1 h.2.2 fun _ => Or.inl rfl
/-- what has no fault is a row of whole numbers -/
theorem walkF_none {ls : List (Int × Int × Int)} : ∀ (ss : List Sh) (n : Nat) (pl : Option Int), walkF ls ss n pl = none → ∃ is : List Int, ss = is.map Sh.int ∧ InR ls is ∧ (∀ j (h : j + 1 < is.length), (lineAt ls (is[j]'(by omega))).2.1 = (lineAt ls is[j + 1]).1) ∧ ∀ (h : 0 < is.length), pl = none ∨ pl = some (lineAt ls is[0]).1
  | [], _, _, _ => ⟨[], rfl, fun i hi => absurd hi (by simp), fun j h => absurd h (by simp), fun h => absurd h (by simp)⟩
  | s :: ss, n, pl, h => by
    cases hin : s.within 0 ((ls.length : Int) - 1) with
    | false => rw [walkF_out hin] at h; cases h
    | true =>
      obtain ⟨i, rfl⟩ : ∃ i, s = .int i := by
        cases s with
        | int i => exact ⟨i, rfl⟩
        | _ => cases hin
      have z : (decide (0 ≤ i) && decide (i ≤ (ls.length : Int) - 1)) = true := hin
      rw [Bool.and_eq_true, decide_eq_true_eq, decide_eq_true_eq] at z
      have i1 : i.toNat < ls.length := by omega
      rw [walkF_int z.1 i1] at h
      have e : ls[i.toNat].1 = (lineAt ls i).1 := by rw [lineAt_get i1]
      have e2 : ls[i.toNat].2.1 = (lineAt ls i).2.1 := by rw [lineAt_get i1]
      by_cases q : pl.isSome ∧ pl ≠ some ls[i.toNat].1
      · rw [if_pos q] at h; cases h
      · rw [if_neg q] at h
        obtain ⟨is, rfl, a1, a2, a3⟩ := walkF_none ss (n + 1) _ h
        refine ⟨i :: is, rfl, fun k hk => ?_, fun j hj => ?_, fun _ => ?_⟩
        · rcases List.mem_cons.mp hk with rfl | hk
          · exact ⟨z.1, i1⟩
          · exact a1 k hk
        · cases j with
          | zero =>
            have hj' : 0 < is.length := by simpa using hj
            rcases a3 hj' with w | w
            · cases w
            · rw [e2] at w
              exact Option.some.inj w
          | succ j => exact a2 j (by simpa using hj)
        · cases pl with
          | none => exact Or.inl rfl
          | some p =>
            right
            by_cases w : some p = some ls[i.toNat].1
            · rw [w, e]; rfl
            · exact absurd ⟨rfl, w⟩ q
theorem walkF_wok {ls : List (Int × Int × Int)} {ss : List Sh} (h : walkF ls ss 0 none = none) (hn : ss ≠ []) : ∃ is : List Int, ss = is.map Sh.int ∧ WOK ls is := by
  obtain ⟨is, rfl, a1, a2, _⟩ := walkF_none ss 0 none h
  exact ⟨is, rfl, fun e => hn (by rw [e]; rfl), a1, a2⟩
theorem anss_of_ints {K : PySem.W.Frag} {H : Hp} : ∀ {us : List V} {is : List Int}, AnSs K H us (is.map Sh.int) → us = is.map V.int
  | [], [], _ => rfl
  | [], _ :: _, h => by cases h
  | _ :: _, [], h => by cases h
  | u :: us, i :: is, h => by
    cases h with
    | cons a b =>
      cases a
      rw [anss_of_ints b]; rfl
theorem atI_neg1 {α : Type} {xs : List α} {n : Nat} {v : α} (hl : xs.length = n + 1) (h : xs[n]? = some v) : atI xs (-1) = some v := by
  have e : ixN xs.length (-1) = some n := by
    unfold ixN
    simp only [hl]
    split <;> first | (simp; omega) | (rename_i z; exact absurd z (by omega))
  unfold atI
  rw [e]
  exact h
/-! ### the law's own reading of walks -/
def spSumL : Sp := fun vs H Q _ => ∃ (v : V) (t : Addr) (b : Book) (is : List Int), vs = [v, .ref t] ∧ Fz H v b.d ∧ H t = some (.tup (is.map V.int)) ∧ InR b.lines is ∧ is.length ≤ 1000 ∧ ∀ H', (∀ b o, H b = some o → H' b = some o) → Q (.int (totalOf b.lines is)) H'
def spStopsL : Sp := fun vs H Q _ => ∃ (v : V) (t : Addr) (b : Book) (is : List Int), vs = [v, .ref t] ∧ Fz H v b.d ∧ H t = some (.tup (is.map V.int)) ∧ WOK b.lines is ∧ is.length ≤ 1000 ∧
  ∀ (p : Addr) (H' : Hp), H' p = some (.lst ((stopsOf b.lines is).map V.int)) → (∀ b o, H b = some o → H' b = some o) → Q (.ref p) H'
def dueOf (ls : List (Int × Int × Int)) (ss : List Sh) : List V := if ss = [] then [.non] else match walkF ls ss 0 none with
  | none => []
  | some n => [.int n]
def spDue (K : PySem.W.Frag) : Sp := fun vs H Q _ => ∃ (v : V) (t : Addr) (us : List V) (ss : List Sh) (b : Book), vs = [v, .ref t] ∧ Fz H v b.d ∧ SqT K H t us ∧ AnSs K H us ss ∧ us.length ≤ 1000 ∧
  ∀ (p : Addr) (H' : Hp), H' p = some (.lst (dueOf b.lines ss)) → (∀ b o, H b = some o → H' b = some o) → Q (.ref p) H'
end WL
set_option Elab.async false
set_option linter.all false
set_option maxRecDepth 100000
set_option maxHeartbeats 4000000
namespace WL
open PySem PySem.Spec PyProof.Rows L2
/-! ### the class Walk for its callers -/
/-- Walk(diary = ..): nothing is left over -/
def spWInitK (K : PySem.W.Frag) (DC WC IW : Addr) : Sp := fun vs H Q E => ∀ p, H p = Option.none → spWInitT K DC WC IW (vs ++ [V.ref p]) (upd H p (.tup [])) Q E
structure WkF (P : Program) (w : World) (K : PySem.W.Frag) (mg : Str → Option Value) (base : Heap) (DC WC IW : Addr) : Prop where
  at_ : mg "Walk" = some (.ref WC)
  obj : WkO K WC
  q : WkQ K DC WC
  make : ∃ f, Mk K WC f ∧ FnR P w K mg base (L2.CX P w) 5 f (spWInit K DC WC IW)
  makeK : ∃ f, Mk K WC f ∧ FnRK P w K mg base (L2.CX P w) 5 f 1 ["diary"] (spWInitK K DC WC IW)
  diary : PropE P w K mg base 1 WC "diary" (spGetF WC "_diary")
  numbers : PropE P w K mg base 1 WC "numbers" (spGetF WC "_numbers")
  stops : PropE P w K mg base 3 WC "stops" (spStops DC WC)
  total : PropE P w K mg base 3 WC "total" (spTotal DC WC)
  len : ∃ f fd, PySem.W.findIn K (.ref WC) "__len__" = some (some (.ref f)) ∧ PySem.W.isFn K (.ref f) = true ∧ Binds K fd ["self"] [] ∧ FnOk P w K mg base CX0 1 f fd ["self"] (spWLen DC WC)
  eq : ∃ g fd, PySem.W.findIn K (.ref WC) "__eq__" = some (some (.ref g)) ∧ PySem.W.isFn K (.ref g) = true ∧ Binds K fd ["self", "other"] [] ∧ FnOk P w K mg base CX0 3 g fd ["self", "other"] (spWEq K DC WC)
  ne : PySem.W.findIn K (.ref WC) "__ne__" = some (some (.builtin "object.__ne__"))
  ob : PySem.W.subIn K (.ref WC) (.type "object") = some true
  nf : ∀ s : Sh, PySem.W.notFirst K WC (.type s.ty) = true
  nfW : PySem.W.notFirst K WC (.ref WC) = true
  nfD : PySem.W.notFirst K WC (.ref DC) = true
  most : ∃ f fd, Meth K WC "most" f ∧ Binds K fd ["self"] [] ∧ FnOk P w K mg base CX0 5 f fd ["self"] (spTotal DC WC)
section
variable {X : Cx} {DC WC IW : Addr} {k : Nat} {e : Expr} {te : TE} {pos : Pos}
theorem pe_mkW (F : WkF X.prog X.w X.K X.mg X.base DC WC IW) (hr : Room k X.A) (hk : 6 ≤ k) {E : XK} (hx : Passes (L2.CX X.prog X.w) X E) {es : List Expr} {t : TA} {p : Pos} (ha : PA X (e :: es) t) (hg : Gl X "Walk" := by rfl)
    (h1 : starEach (e :: es) X.env = (false, eval e X.env) :: starEach es X.env := by rfl) (h2 : (backTo pos (starEach es X.env)).any (·.1) = false := by rfl) : PE X (.Call (.Name "Walk" p) (e :: es) [] pos) (StX.tMakeR WC (spWInit X.K DC WC IW) E t) := by
  obtain ⟨f, m, Fn⟩ := F.make
  exact StX.pe_makeR m Fn (hr.mono hk) hg F.at_ hx ha (by decide) h1 h2
end
/-- a walk made of these values -/
def spWalkL (K : PySem.W.Frag) (DC WC IW : Addr) : Sp := fun vs H Q E => ∃ (v : V) (t : Addr) (us : List V) (ss : List Sh) (c w : Int) (ns : List (Option Int)) (ls : List (Int × Int × Int)), vs = [v, .ref t] ∧ DiaAt DC H v c ns ls ∧ DOK c ns ls w ∧ ls.length ≤ 100 ∧ H t = some (.tup us) ∧ AnSs K H us ss ∧ (us.length ≤ 6 ∨ us.length = 9) ∧
  (us = [] → ∀ H' d, (∀ b o, H b = some o → H' b = some o) → H' d = none → E (.ref IW) (some d) (upd H' d (.xd [("spot", .non)]))) ∧
  (∀ n, us ≠ [] → walkF ls ss 0 none = some n → ∀ H' d, (∀ b o, H b = some o → H' b = some o) → H' d = none → E (.ref IW) (some d) (upd H' d (.xd [("spot", .int n)]))) ∧
  (∀ is : List Int, us = is.map V.int → WOK ls is → ∀ x H', H x = none → WkAt DC WC H' (.ref x) c ns ls is → (∀ b o, H b = some o → H' b = some o) → Q (.ref x) H')
theorem g_mkW {K : PySem.W.Frag} {DC WC IW : Addr} {H H1 : Hp} {Q : VK} {E : XK} {v : V} {us : List V} {ss : List Sh} {c w : Int} {ns : List (Option Int)} {ls : List (Int × Int × Int)} (s1 : ∀ b o, H b = some o → H1 b = some o) (hD : DiaAt DC H v c ns ls) (ok : DOK c ns ls w) (h60 : ls.length ≤ 100) (hss : AnSs K H us ss) (hl : us.length ≤ 1000)
    (q1 : us = [] → ∀ H' d, (∀ b o, H b = some o → H' b = some o) → H' d = none → E (.ref IW) (some d) (upd H' d (.xd [("spot", .non)])))
    (q2 : ∀ n, us ≠ [] → walkF ls ss 0 none = some n → ∀ H' d, (∀ b o, H b = some o → H' b = some o) → H' d = none → E (.ref IW) (some d) (upd H' d (.xd [("spot", .int n)])))
    (q3 : ∀ is : List Int, us = is.map V.int → WOK ls is → ∀ x H', H x = none → WkAt DC WC H' (.ref x) c ns ls is → (∀ b o, H b = some o → H' b = some o) → Q (.ref x) H') :
    ∀ (x dx : Addr), H1 x = none → H1 dx = none → dx ≠ x → spWInit K DC WC IW (V.ref x :: v :: us) (upd (upd H1 dx (.own x)) x (.ins WC dx [])) (fun v H2 => v = .non ∧ Q (.ref x) H2) E := by
  intro x dx nx ndx hne
  have s2 : ∀ b o, H b = some o → upd (upd H1 dx (.own x)) x (.ins WC dx []) b = some o := fun b o h => by
    have k := s1 _ _ h
    rw [upd_ne (ne_of_none k nx), upd_ne (ne_of_none k ndx)]
    exact k
  refine ⟨[.ref x, v], us, rfl, rfl, sz (by omega), fun p np => ?_⟩
  have s3 := same_up (o := .tup us) np s2
  have hx : x ≠ p := fun z => by rw [← z, upd_same] at np; cases np
  refine ⟨x, dx, p, v, us, ss, c, w, ns, ls, rfl, by rw [upd_ne hx, upd_same], hD.same s3, ok, h60, SqT.of upd_same, by omega, hss.same s3, fun e d nd => ?_, fun n hn hw H' d s4 nd => ?_, fun hn hw H' hx' s4 => ⟨rfl, ?_⟩⟩
  · exact q1 e _ d s3 nd
  · exact q2 n hn hw H' d (fun b o h => s4 _ _ (s3 _ _ h)) nd
  · have hsn : ss ≠ [] := by
      rintro rfl
      cases hss
      exact hn rfl
    obtain ⟨is, rfl, hwok⟩ := walkF_wok hw hsn
    have eu := anss_of_ints hss
    have s5 : ∀ b o, H b = some o → H' b = some o := fun b o h => s4 _ _ (fun z => by rw [z] at h; exact absurd (s1 _ _ h) (by rw [nx]; simp)) (s3 _ _ h)
    refine q3 is eu hwok x H' (none_up nx s1) ⟨x, dx, v, p, rfl, hx', hD.same s5, ?_⟩ s5
    rw [s4 p _ (fun z => hx z.symm) upd_same, eu]
theorem g_mkR {C : Addr} {sp : Sp} {E : XK} {t : TA} {σ : L2.St} {H : Hp} {Q : VK} (h : t σ H fun vs H1 => ∀ x dx, H1 x = Option.none → H1 dx = Option.none → dx ≠ x → sp (V.ref x :: vs) (upd (upd H1 dx (.own x)) x (.ins C dx [])) (fun v H2 => v = .non ∧ Q (.ref x) H2) E) : StX.tMakeR C sp E t σ H Q := h
theorem g_ifD {b : Bool} {A B : Prop} (h : b = true) (a : A) : if b = true then A else B := by rw [if_pos h]; exact a
theorem g_elD {b : Bool} {A B : Prop} (h : b = false) (a : B) : if b = true then A else B := by rw [if_neg (by rw [h]; decide)]; exact a
/-! ### a comprehension over enumerate of a tuple -/
theorem LcQ.enumT {K : PySem.W.Frag} {g : TG} {tt : TT} {te : TE} {vs : List Nat} {σ : L2.St} {Q : VK} {H1 : Hp} {a : Addr} {xs : List V} (I : Addr → Nat → Hp → Prop) (h0 : ∀ D, H1 D = none → I D 0 (upd H1 D (.lst [])))
    (hl : ∀ D, H1 D = none → ∀ i H, i ≤ xs.length → I D i H → SqT K H a xs)
    (hs : ∀ D, H1 D = none → ∀ (i : Nat) (x : V) (T : Addr) (H : Hp), xs[i]? = some x → I D i H → H T = none → g (.ref T) (wipe σ vs) (upd H T (.tup [.int (i : Nat), x])) fun σ2 H2 => wipe σ2 vs = wipe σ vs ∧ tt σ2 H2 fun b H3 => if b = true then te σ2 H3 fun y H4 => ∃ acc, H4 D = some (.lst acc) ∧ acc.length < sizeLine ∧ I D (i + 1) (upd H4 D (.lst (acc ++ [y]))) else I D (i + 1) H3)
    (hd : ∀ D, H1 D = none → ∀ H, I D xs.length H → Q (.ref D) H) : LcQ g tt te vs σ Q (IteT K a xs) H1 := by
  intro D nD
  refine ⟨fun i m H => m = xs.length - i ∧ i ≤ xs.length ∧ I D i H, ⟨xs.length, by simp, Nat.zero_le _, h0 D nD⟩, ?_⟩
  rintro i m H ⟨rfl, hi, p⟩
  have q := hl D nD i H hi p
  by_cases e : i = xs.length
  · subst e
    exact Or.inl ⟨⟨q, rfl⟩, hd D nD H p⟩
  · refine Or.inr ⟨⟨q, by omega⟩, I D (i + 1), fun H' h => ⟨xs.length - (i + 1), by omega, rfl, by omega, h⟩, ?_⟩
    rintro v H' ⟨T, x, rfl, hT, rfl, hx⟩
    exact hs D nD i x T H hx p hT
theorem eqv_nilInts (is : List Int) : (PyData.list (is.map PyData.int)).eqv (.list []) = decide (is = []) := by
  cases is with
  | nil => rfl
  | cons i is =>
    rw [show decide (i :: is = []) = false by simp]
    cases hb : (PyData.list ((i :: is).map PyData.int)).eqv (.list []) with
    | false => rfl
    | true =>
      have := (pl_eqv (pl_ints (i :: is)) pl_nilL).mp hb
      simp at this
/-! ### drawn walks -/
def Chain (ls : List (Int × Int × Int)) (is : List Int) : Prop := ∀ (j : Nat) (x y : Int), is[j]? = some x → is[j + 1]? = some y → (lineAt ls x).2.1 = (lineAt ls y).1
theorem Chain.snoc {ls : List (Int × Int × Int)} {is : List Int} {r : Int} (h : Chain ls is) (k : ∀ z, is.getLast? = some z → (lineAt ls z).2.1 = (lineAt ls r).1) : Chain ls (is ++ [r]) := by
  intro j x y hx hy
  rcases Nat.lt_or_ge (j + 1) is.length with q | q
  · rw [List.getElem?_append_left (by omega)] at hx
    rw [List.getElem?_append_left q] at hy
    exact h j x y hx hy
  · rcases Nat.lt_or_ge j is.length with z | z
    · rw [List.getElem?_append_left z] at hx
      rw [List.getElem?_append_right q, show j + 1 - is.length = 0 by omega] at hy
      have ey : r = y := by simpa using hy
      subst ey
      refine k x ?_
      rw [List.getLast?_eq_getElem?, show is.length - 1 = j by omega]
      exact hx
    · rw [List.getElem?_append_right (by omega)] at hy
      rw [show j + 1 - is.length = (j - is.length) + 1 by omega] at hy
      simp at hy
theorem Chain.wok {ls : List (Int × Int × Int)} {is : List Int} (h : Chain ls is) (hn : is ≠ []) (hi : InR ls is) : WOK ls is := ⟨hn, hi, fun j hj => h j _ _ (List.getElem?_eq_getElem (by omega)) (List.getElem?_eq_getElem hj)⟩
def spWalked : Sp := fun vs H Q _ => ∃ (m c g : Addr) (B size : Int) (v : V) (b : Book), vs = [.ref m, v, .int size] ∧ Pr m c g H H B ∧ B < 2 ^ 28 ∧ Fz H v b.d ∧ b.lines ≠ [] ∧ b.lines.length ≤ 100 ∧ (1 ≤ size ∧ size ≤ 100) ∧
  ∀ (t : Addr) (is : List Int) (H' : Hp), H t = none → Pr m c g H H' (B + size) → H' t = some (.tup (is.map V.int)) → WOK b.lines is → is.length ≤ size → Q (.ref t) H'
theorem pe_mkWK {X : Cx} {DC WC IW : Addr} {k : Nat} {pos p : Pos} (F : WkF X.prog X.w X.K X.mg X.base DC WC IW) (hr : Room k X.A) (hk : 6 ≤ k) {E : XK} (hx : Passes (L2.CX X.prog X.w) X E) {kws : List Keyword} {tk : TA} (hkw : PK X kws tk) (hg : Gl X "Walk" := by rfl)
    (hall : (backToKw pos (keywordEach kws X.env)).all (·.1.isSome) = true := by rfl) (hks : (backToKw pos (keywordEach kws X.env)).filterMap (·.1) = (["diary"] : List Str) := by rfl)
    (hpl : ((backTo pos (starEach [] X.env)).any (·.1) || (backToKw pos (keywordEach kws X.env)).any (·.1.isNone)) = false := by rfl) : PE X (.Call (.Name "Walk" p) [] kws pos) (tMakeRK WC 1 (spWInitK X.K DC WC IW) E tk) := by
  obtain ⟨f, m, Fn⟩ := F.makeK
  exact pe_makeRK0 m Fn (hr.mono hk) hg F.at_ hx hkw hall hks (by decide) hpl
theorem g_mkRK {C : Addr} {m : Nat} {sp : Sp} {E : XK} {t : TA} {σ : L2.St} {H : Hp} {Q : VK} (h : t σ H fun zs H2 => zs.length = m ∧ ∀ x dx, H2 x = none → H2 dx = none → dx ≠ x → sp (V.ref x :: zs) (upd (upd H2 dx (.own x)) x (.ins C dx [])) (fun v H3 => v = .non ∧ Q (.ref x) H3) E) : tMakeRK C m sp E t σ H Q := h
theorem g_mkWK {K : PySem.W.Frag} {DC WC IW : Addr} {H H1 : Hp} {Q : VK} {E : XK} {v : V} {c w : Int} {ns : List (Option Int)} {ls : List (Int × Int × Int)} (s1 : ∀ b o, H b = some o → H1 b = some o) (hD : DiaAt DC H v c ns ls) (ok : DOK c ns ls w) (h60 : ls.length ≤ 100)
    (q1 : ∀ H' d, (∀ b o, H b = some o → H' b = some o) → H' d = none → E (.ref IW) (some d) (upd H' d (.xd [("spot", .non)]))) :
    ∀ (x dx : Addr), H1 x = none → H1 dx = none → dx ≠ x → spWInitK K DC WC IW [V.ref x, v] (upd (upd H1 dx (.own x)) x (.ins WC dx [])) (fun v H2 => v = .non ∧ Q (.ref x) H2) E := by
  intro x dx nx ndx hne p np
  have s2 : ∀ b o, H b = some o → upd (upd H1 dx (.own x)) x (.ins WC dx []) b = some o := fun b o h => by
    have k := s1 _ _ h
    rw [upd_ne (ne_of_none k nx), upd_ne (ne_of_none k ndx)]
    exact k
  have s3 := same_up (o := .tup []) np s2
  have hx : x ≠ p := fun z => by rw [← z, upd_same] at np; cases np
  exact ⟨x, dx, p, v, [], [], c, w, ns, ls, rfl, by rw [upd_ne hx, upd_same], hD.same s3, ok, h60, SqT.of upd_same, Nat.zero_le _, .nil, fun _ d nd => q1 _ d s3 nd, fun n hn => absurd rfl hn, fun hn => absurd rfl hn⟩
end WL
set_option Elab.async false
set_option linter.all false
set_option maxRecDepth 100000
set_option maxHeartbeats 4000000
namespace WL
open PySem PySem.Spec PyProof.Rows L2
/-! ### what a walk is read as, and what it ought to be -/
def wD (ls : List (Int × Int × Int)) (is : List Int) : PyData := .list [.tuple (is.map .int), .tuple ((stopsOf ls is).map .int), .int (totalOf ls is), .int (totalOf ls is), .int is.length]
def WRow (H : Hp) (p : Addr) (ls : List (Int × Int × Int)) (is : List Int) : Prop := ∃ t u, H p = some (.lst [.ref t, .ref u, .int (totalOf ls is), .int (totalOf ls is), .int is.length]) ∧ H t = some (.tup (is.map V.int)) ∧ H u = some (.tup ((stopsOf ls is).map V.int))
theorem WRow.same {H H' : Hp} {p : Addr} {ls : List (Int × Int × Int)} {is : List Int} (k : ∀ b o, H b = some o → H' b = some o) (h : WRow H p ls is) : WRow H' p ls is := by
  obtain ⟨t, u, a, b, c⟩ := h
  exact ⟨t, u, k _ _ a, k _ _ b, k _ _ c⟩
theorem fzs_dqb {H : Hp} : ∀ is : List Int, DqBs H (is.map V.int) (is.map PyData.int)
  | [] => .nil
  | i :: is => .cons (.int i) (fzs_dqb is)
theorem WRow.dq {H : Hp} {p : Addr} {ls : List (Int × Int × Int)} {is : List Int} (h : WRow H p ls is) : DqB H (.ref p) (wD ls is) := by
  obtain ⟨t, u, a, b, c⟩ := h
  exact .lst a (.cons (.tup b (fzs_dqb is)) (.cons (.tup c (fzs_dqb _)) (.cons (.int _) (.cons (.int _) (.cons (.int _) .nil)))))
def spReadW (DC WC : Addr) : Sp := fun vs H Q _ => ∃ (v : V) (c : Int) (ns : List (Option Int)) (ls : List (Int × Int × Int)) (is : List Int), vs = [v] ∧ WkAt DC WC H v c ns ls is ∧ InR ls is ∧ is ≠ [] ∧ is.length ≤ 1000 ∧
  ∀ (p : Addr) (H' : Hp), H p = none → WRow H' p ls is → (∀ b o, H b = some o → H' b = some o) → Q (.ref p) H'
def spShownW : Sp := fun vs H Q _ => ∃ (v : V) (t : Addr) (b : Book) (is : List Int), vs = [v, .ref t] ∧ Fz H v b.d ∧ H t = some (.tup (is.map V.int)) ∧ WOK b.lines is ∧ is.length ≤ 1000 ∧
  ∀ (p : Addr) (H' : Hp), H p = none → WRow H' p b.lines is → (∀ b o, H b = some o → H' b = some o) → Q (.ref p) H'
section
variable {X : Cx} {DC WC IW : Addr} {k : Nat}
theorem call_lenW (F : WkF X.prog X.w X.K X.mg X.base DC WC IW) (hr : Room k X.A) (hk : 2 ≤ k) : CallR X (.builtin "len") (rLenOwn WC (spWLen DC WC)) := by
  obtain ⟨f, fd, h1, h2, h3, h4⟩ := F.len
  exact call_lenOwn h4 h3 (hr.mono hk) h1 h2
theorem op_wEq (F : WkF X.prog X.w X.K X.mg X.base DC WC IW) (hr : Room k X.A) (hk : 3 ≤ k) : OpR X (compareOp .Eq) (rOwnEq X.K WC (spWEq X.K DC WC) id) := by
  obtain ⟨f, fd, h1, h2, h3, h4⟩ := F.eq
  exact op_ownEq h4 h3 (hr.mono hk) h1 h2
theorem op_wNe (F : WkF X.prog X.w X.K X.mg X.base DC WC IW) (hr : Room k X.A) (hk : 4 ≤ k) : OpR X (compareOp .NotEq) (rOwnEq X.K WC (spWEq X.K DC WC) not) := by
  obtain ⟨f, fd, h1, h2, h3, h4⟩ := F.eq
  exact op_ownNe h4 h3 (hr.mono hk) h1 h2 F.ne F.ob
end
theorem g_lenW {K : PySem.W.Frag} {DC WC : Addr} {H : Hp} {Q : VK} {v : V} {c : Int} {ns : List (Option Int)} {ls : List (Int × Int × Int)} {is : List Int} (h : WkAt DC WC H v c ns ls is) (hl : is.length ≤ 1000) (q : Q (.int is.length) H) : rLenOwn WC (spWLen DC WC) [v] H Q := by
  obtain ⟨a, dx, dv, t, rfl, ha, hd, ht⟩ := h
  exact ⟨a, dx, _, rfl, ha, .ref a, c, ns, ls, is, rfl, ⟨a, dx, dv, t, rfl, ha, hd, ht⟩, _, rfl, ⟨by omega, by omega⟩, q⟩
end WL
set_option Elab.async false
set_option linter.all false
set_option maxRecDepth 100000
set_option maxHeartbeats 4000000
namespace WL
open PySem PySem.Spec PyProof.Rows L2
/-! ### any value in a heap without its tables -/
theorem SqL.noT {K : PySem.W.Frag} {H : Hp} {a : Addr} {xs : List V} (h : SqL K H a xs) : SqL K (noTab H) a xs := by
  rcases h with h | h
  · left
    rcases h with h | ⟨o, h⟩
    · exact Or.inl (noTab_at h (fun ps z => nomatch z))
    · exact Or.inr ⟨o, noTab_at h (fun ps z => nomatch z)⟩
  · exact Or.inr h
theorem SqT.noT {K : PySem.W.Frag} {H : Hp} {a : Addr} {xs : List V} (h : SqT K H a xs) : SqT K (noTab H) a xs := by
  rcases h with h | h
  · left
    rcases h with h | ⟨o, h⟩
    · exact Or.inl (noTab_at h (fun ps z => nomatch z))
    · exact Or.inr ⟨o, noTab_at h (fun ps z => nomatch z)⟩
  · exact Or.inr h
mutual
theorem AnS.noT {K : PySem.W.Frag} {H : Hp} : ∀ {v : V} {s : Sh}, AnS K H v s → AnS K (noTab H) v s
  | _, _, .non => .non
  | _, _, .bl b => .bl b
  | _, _, .int i => .int i
  | _, _, .str x => .str x
  | _, _, .lst h => .lst (SqL.noT h)
  | _, _, .dct h => .dct (noTab_at h (fun ps z => nomatch z))
  | _, _, .tup h q => .tup (SqT.noT h) q.noT
theorem AnSs.noT {K : PySem.W.Frag} {H : Hp} : ∀ {vs : List V} {ss : List Sh}, AnSs K H vs ss → AnSs K (noTab H) vs ss
  | _, _, .nil => .nil
  | _, _, .cons h q => .cons h.noT q.noT
end
theorem Fz.noT {H : Hp} {v : V} {d : PyData} (h : Fz H v d) : Fz (noTab H) v d := h.tk fun b xs h => noTab_at h (fun ps z => nomatch z)
theorem DiaAt.noT {DC : Addr} {H : Hp} {v : V} {c : Int} {ns : List (Option Int)} {ls : List (Int × Int × Int)} (h : DiaAt DC H v c ns ls) : DiaAt DC (noTab H) v c ns ls := by
  obtain ⟨a, dx, wv, bv, e, ha, hn, hl⟩ := h
  exact ⟨a, dx, wv, bv, e, noTab_at ha (fun ps z => nomatch z), hn.noT, hl.noT⟩
theorem noTab_tup {H : Hp} {a : Addr} {xs : List V} (h : H a = some (.tup xs)) : noTab H a = some (.tup xs) := noTab_at h (fun ps z => nomatch z)
theorem noTab_lst {H : Hp} {a : Addr} {xs : List V} (h : H a = some (.lst xs)) : noTab H a = some (.lst xs) := noTab_at h (fun ps z => nomatch z)
theorem AnSs.app {K : PySem.W.Frag} {H : Hp} : ∀ {a b : List V} {x y : List Sh}, AnSs K H a x → AnSs K H b y → AnSs K H (a ++ b) (x ++ y)
  | _, _, _, _, .nil, q => q
  | _, _, _, _, .cons h t, q => .cons h (t.app q)
theorem AnSs.take {K : PySem.W.Frag} {H : Hp} : ∀ {a : List V} {x : List Sh} (n : Nat), AnSs K H a x → AnSs K H (a.take n) (x.take n)
  | _, _, 0, _ => by simpa using AnSs.nil
  | _, _, n + 1, .nil => .nil
  | _, _, n + 1, .cons h t => .cons h (t.take n)
theorem AnSs.drop {K : PySem.W.Frag} {H : Hp} : ∀ {a : List V} {x : List Sh} (n : Nat), AnSs K H a x → AnSs K H (a.drop n) (x.drop n)
  | _, _, 0, h => by simpa using h
  | _, _, n + 1, .nil => .nil
  | _, _, n + 1, .cons h t => t.drop n
def spWrong (DC : Addr) (T : List (Addr × Str)) : Sp := fun vs H Q _ => ∃ (m c g : Addr) (B : Int) (v d : V) (t : Addr) (b : Book) (wd : Int) (is : List Int), vs = [.ref m, v, d, .ref t] ∧ Pr m c g H H B ∧ B < 2 ^ 27 ∧ Fz H v b.d ∧ DOK b.c b.notes b.lines wd ∧ b.lines.length ≤ 60 ∧ DiaAt DC H d b.c b.notes b.lines ∧ H t = some (.tup (is.map V.int)) ∧ is.length ≤ 6 ∧ LamX.Tabs T H ∧
  ∀ H', Pr m c g (noTab H) H' (B + 4) → LamX.Tabs T H' → Q (.bl true) H'
/-! ### calls that may raise, in a lambda -/
section
variable {X : Cx} {A : Around} {outer : List Env} {s : Shared} {H : Hp} {E : XK} {scope : Scope} {f c' : Addr}
theorem pe_hasEL {k j : Nat} {x : Str} {ps : List Str} {sp : Sp} {e : Expr} {es : List Expr} {t : TA} {p pos : Pos} (h : HasE X.prog X.w X.K X.mg X.base k x ps sp) (hr : Room j (LamX.lamCx X A outer s H E scope f c').A) (hk : k ≤ j) (ha : PA (LamX.lamCx X A outer s H E scope f c') (e :: es) t) (gl : Gl (LamX.lamCx X A outer s H E scope f c') x := by rfl) (hdb : (x == ("__debug__" : Str)) = false := by decide)
    (h1 : starEach (e :: es) (LamX.lamCx X A outer s H E scope f c').env = (false, eval e (LamX.lamCx X A outer s H E scope f c').env) :: starEach es (LamX.lamCx X A outer s H E scope f c').env := by rfl) (h2 : (backTo pos (starEach es (LamX.lamCx X A outer s H E scope f c').env)).any (·.1) = false := by rfl) : PE (LamX.lamCx X A outer s H E scope f c') (.Call (.Name x p) (e :: es) [] pos) (tCall sp [] E t) :=
  pe_hasE (X := LamX.lamCx X A outer s H E scope f c') (E := E) h hr hk (passLam (X := X)) ha gl hdb h1 h2
theorem pe_mkWKL {DC WC IW : Addr} {k : Nat} {pos p : Pos} (F : WkF X.prog X.w X.K X.mg X.base DC WC IW) (hr : Room k (LamX.lamCx X A outer s H E scope f c').A) (hk : 6 ≤ k) {kws : List Keyword} {tk : TA} (hkw : PK (LamX.lamCx X A outer s H E scope f c') kws tk) (hg : Gl (LamX.lamCx X A outer s H E scope f c') "Walk" := by rfl)
    (hall : (backToKw pos (keywordEach kws (LamX.lamCx X A outer s H E scope f c').env)).all (·.1.isSome) = true := by rfl) (hks : (backToKw pos (keywordEach kws (LamX.lamCx X A outer s H E scope f c').env)).filterMap (·.1) = (["diary"] : List Str) := by rfl)
    (hpl : ((backTo pos (starEach [] (LamX.lamCx X A outer s H E scope f c').env)).any (·.1) || (backToKw pos (keywordEach kws (LamX.lamCx X A outer s H E scope f c').env)).any (·.1.isNone)) = false := by rfl) : PE (LamX.lamCx X A outer s H E scope f c') (.Call (.Name "Walk" p) [] kws pos) (tMakeRK WC 1 (spWInitK X.K DC WC IW) E tk) :=
  pe_mkWK (X := LamX.lamCx X A outer s H E scope f c') (E := E) F hr hk (passLam (X := X)) hkw hg hall hks hpl
end
/-! ### what goes on over lambdas -/
theorem Pr.out {m c g : Addr} {H HA H' : Hp} {B : Int} (p : Pr m c g H HA B) (s : ∀ b o, noTab HA b = some o → H' b = some o) : Pr m c g (noTab H) H' B := by
  obtain ⟨n, h, d⟩ := p.dr
  exact ⟨⟨n, h, d.ext (noTab_out s)⟩, fun b o n1 n2 h => s b o (noTab_at (p.but b o n1 n2 (noTab_of h).1) (noTab_of h).2)⟩
theorem anss_ints_inv {K : PySem.W.Frag} {H : Hp} : ∀ {is : List Int} {ss : List Sh}, AnSs K H (is.map V.int) ss → ss = is.map Sh.int
  | [], _, .nil => rfl
  | i :: is, _, .cons a q => by
    cases a
    rw [anss_ints_inv q]; rfl
theorem due_cases (ls : List (Int × Int × Int)) (ss : List Sh) : dueOf ls ss = [] ∨ dueOf ls ss = [.non] ∨ ∃ n : Nat, dueOf ls ss = [.int n] := by
  unfold dueOf
  by_cases e : ss = []
  · rw [if_pos e]; exact Or.inr (Or.inl rfl)
  · rw [if_neg e]
    cases walkF ls ss 0 none with
    | none => exact Or.inl rfl
    | some n => exact Or.inr (Or.inr ⟨n, rfl⟩)
theorem due_ne {K : PySem.W.Frag} {H : Hp} {Q : VK} {p q : Addr} {ls : List (Int × Int × Int)} {ss : List Sh} (h1 : H p = some (.lst (dueOf ls ss))) (h2 : H q = some (.lst (dueOf ls ss))) (k : Q (.bl false) H) : rNeD K (.ref p) (.ref q) H Q := by
  rcases due_cases ls ss with e | e | ⟨n, e⟩
  · rw [e] at h1 h2
    refine g_neD (K := K) (d := .list []) (e := .list []) (.lst (SqL.of h1) .nil) (.lst (SqL.of h2) .nil) (by decide +kernel) (by decide +kernel) ?_
    exact k
  · rw [e] at h1 h2
    refine g_neD (K := K) (d := .list [.none]) (e := .list [.none]) (.lst (SqL.of h1) (.cons .non .nil)) (.lst (SqL.of h2) (.cons .non .nil)) (by decide +kernel) (by decide +kernel) ?_
    rw [show (PyData.list [.none]).eqv (.list [.none]) = true by decide +kernel]
    exact k
  · rw [e] at h1 h2
    have pln : pl 1 (.list [PyData.int n]) := pl_ints [(n : Int)]
    refine g_neD (K := K) (d := .list [.int n]) (e := .list [.int n]) (.lst (SqL.of h1) (.cons (.int _) .nil)) (.lst (SqL.of h2) (.cons (.int _) .nil)) (pl_shaped pln (by decide)) (pl_shaped pln (by decide)) ?_
    rw [(pl_eqv pln pln).mpr rfl]
    exact k
theorem due_nil (ls : List (Int × Int × Int)) : dueOf ls [] = [.non] := rfl
theorem SqT.pr {K : PySem.W.Frag} {m c g : Addr} {H0 H : Hp} {B B' : Int} (p : Pr m c g H0 H B) (q : Pr m c g H0 H0 B') {a : Addr} {xs : List V} (h : SqT K H0 a xs) : SqT K H a xs := by
  obtain ⟨_, _, d⟩ := q.dr
  obtain ⟨l, _, hg⟩ := d.great
  rcases h with h | h
  · left
    rcases h with h | ⟨o, h⟩
    · exact Or.inl (p.tk q _ _ h)
    · exact Or.inr ⟨o, p.but _ _ (fun z => by rw [z, d.dict] at h; cases h) (fun z => by rw [z, hg] at h; cases h) h⟩
  · exact Or.inr h
theorem SqL.pr {K : PySem.W.Frag} {m c g : Addr} {H0 H : Hp} {B B' : Int} (p : Pr m c g H0 H B) (q : Pr m c g H0 H0 B') {a : Addr} {xs : List V} (h : SqL K H0 a xs) : ∃ ys, SqL K H a ys := by
  obtain ⟨_, _, d⟩ := q.dr
  obtain ⟨l, _, hg⟩ := d.great
  obtain ⟨_, _, d2⟩ := p.dr
  obtain ⟨l2, _, hg2⟩ := d2.great
  by_cases z : a = g
  · rw [z]; exact ⟨_, SqL.of hg2⟩
  rcases h with h | h
  · rcases h with h | ⟨o, h⟩
    · exact ⟨xs, Or.inl (Or.inl (p.but _ _ (fun z => by rw [z, d.dict] at h; cases h) z h))⟩
    · exact ⟨xs, Or.inl (Or.inr ⟨o, p.but _ _ (fun z => by rw [z, d.dict] at h; cases h) z h⟩)⟩
  · exact ⟨xs, Or.inr h⟩
mutual
theorem AnS.pr {K : PySem.W.Frag} {m c g : Addr} {H0 H : Hp} {B B' : Int} (p : Pr m c g H0 H B) (q : Pr m c g H0 H0 B') : ∀ {v : V} {s : Sh}, AnS K H0 v s → AnS K H v s
  | _, _, .non => .non
  | _, _, .bl b => .bl b
  | _, _, .int i => .int i
  | _, _, .str x => .str x
  | _, _, .lst h => by
    obtain ⟨ys, k⟩ := SqL.pr p q h
    exact .lst k
  | _, _, .dct (a := a) h => by
    obtain ⟨_, _, d⟩ := q.dr
    obtain ⟨l, _, hg⟩ := d.great
    obtain ⟨_, _, d2⟩ := p.dr
    by_cases z : a = m
    · rw [z]; exact .dct d2.dict
    · exact .dct (p.but _ _ z (fun z => by rw [z, hg] at h; cases h) h)
  | _, _, .tup h t => .tup (SqT.pr p q h) (AnSs.pr p q t)
theorem AnSs.pr {K : PySem.W.Frag} {m c g : Addr} {H0 H : Hp} {B B' : Int} (p : Pr m c g H0 H B) (q : Pr m c g H0 H0 B') : ∀ {vs : List V} {ss : List Sh}, AnSs K H0 vs ss → AnSs K H vs ss
  | _, _, .nil => .nil
  | _, _, .cons h t => .cons (AnS.pr p q h) (AnSs.pr p q t)
end
end WL
set_option Elab.async false
set_option linter.all false
set_option maxRecDepth 100000
set_option maxHeartbeats 4000000
namespace WL
open PySem PySem.Spec PyProof.Rows L2
/-! ### walks beside other values -/
def OddWk (K : PySem.W.Frag) (DC WC : Addr) (H : Hp) (x : V) (c : Int) (ns : List (Option Int)) (ls : List (Int × Int × Int)) (is : List Int) : Prop := NoWk K DC H x ∨ ∃ c2 ns2 ls2 is2, WkAt DC WC H x c2 ns2 ls2 is2 ∧ ¬ (c = c2 ∧ ns = ns2 ∧ ls = ls2 ∧ is = is2)
theorem NoWk.same {K : PySem.W.Frag} {DC : Addr} {H H' : Hp} {x : V} (k : ∀ b o, H b = some o → H' b = some o) (h : NoWk K DC H x) : NoWk K DC H' x := by
  cases h with
  | an a b => exact .an (a.same k) (b.same k)
  | dia d => exact .dia (d.same k)
theorem OddWk.same {K : PySem.W.Frag} {DC WC : Addr} {H H' : Hp} {x : V} {c : Int} {ns : List (Option Int)} {ls : List (Int × Int × Int)} {is : List Int} (k : ∀ b o, H b = some o → H' b = some o) (h : OddWk K DC WC H x c ns ls is) : OddWk K DC WC H' x c ns ls is := by
  rcases h with h | ⟨c2, ns2, ls2, is2, a, b⟩
  · exact .inl (h.same k)
  · exact .inr ⟨c2, ns2, ls2, is2, a.same k, b⟩
section
variable {P : Program} {w : World} {K : PySem.W.Frag} {mg : Str → Option Value} {base : Heap} {DC WC IW IE : Addr} {H : Hp} {Q : VK} {f : Bool → Bool} {v : V} {c : Int} {ns : List (Option Int)} {ls : List (Int × Int × Int)} {is : List Int}
theorem g_wEqW (W : WkF P w K mg base DC WC IW) {y : V} {c2 : Int} {ns2 : List (Option Int)} {ls2 : List (Int × Int × Int)} {is2 : List Int} (d : WkAt DC WC H v c ns ls is) (e : WkAt DC WC H y c2 ns2 ls2 is2) (q : ∀ r : Bool, (r = true ↔ (c = c2 ∧ ns = ns2 ∧ ls = ls2 ∧ is = is2)) → Q (.bl (f r)) H) : rOwnEq K WC (spWEq K DC WC) f v y H Q := by
  have d' := d
  have e' := e
  obtain ⟨a, dx, dv, t, rfl, ha, _, _⟩ := d
  obtain ⟨a2, dx2, dv2, t2, rfl, ha2, _, _⟩ := e
  exact ⟨a, dx, _, .ref WC, rfl, ha, Or.inr (Or.inr (Or.inr ⟨WC, dx2, _, rfl, ha2⟩)), W.nfW, .ref a, .ref a2, c, ns, ls, is, rfl, d', .inl ⟨c2, ns2, ls2, is2, e', fun r hr => ⟨r, rfl, q r hr⟩⟩⟩
theorem g_wEqO (W : WkF P w K mg base DC WC IW) {y : V} (d : WkAt DC WC H v c ns ls is) (e : OddWk K DC WC H y c ns ls is) (q : Q (.bl (f false)) H) : rOwnEq K WC (spWEq K DC WC) f v y H Q := by
  rcases e with e | ⟨c2, ns2, ls2, is2, e, hne⟩
  · have d' := d
    have e' := e
    obtain ⟨a, dx, dv, t, rfl, ha, _, _⟩ := d
    cases e with
    | an h1 h2 =>
      obtain ⟨s, h3, h4⟩ := h2.ex
      exact ⟨a, dx, _, _, rfl, ha, h4, W.nf s, .ref a, y, c, ns, ls, is, rfl, d', .inr ⟨e', false, rfl, q⟩⟩
    | dia h =>
      obtain ⟨a2, dx2, wv, bv, rfl, ha2, _, _⟩ := h
      exact ⟨a, dx, _, .ref DC, rfl, ha, Or.inr (Or.inr (Or.inr ⟨DC, dx2, _, rfl, ha2⟩)), W.nfD, .ref a, .ref a2, c, ns, ls, is, rfl, d', .inr ⟨e', false, rfl, q⟩⟩
  · refine g_wEqW W d e fun r hr => ?_
    cases r with
    | false => exact q
    | true => exact absurd (hr.mp rfl) hne
theorem walkL_ok {E : XK} {t : Addr} {wd : Int} (hD : DiaAt DC H v c ns ls) (ok : DOK c ns ls wd) (h100 : ls.length ≤ 100) (ht : H t = some (.tup (is.map V.int))) (hw : WOK ls is) (hl : is.length ≤ 6 ∨ is.length = 9)
    (q : ∀ x H', H x = none → WkAt DC WC H' (.ref x) c ns ls is → (∀ b o, H b = some o → H' b = some o) → Q (.ref x) H') : spWalkL K DC WC IW [v, .ref t] H Q E := by
  refine ⟨v, t, is.map V.int, is.map Sh.int, c, wd, ns, ls, rfl, hD, ok, h100, ht, anss_ints is, by rw [List.length_map]; exact hl, fun e => absurd (List.map_eq_nil_iff.mp e) hw.1, fun n _ h => ?_, fun is' e hw' x H' nx hW s => ?_⟩
  · rw [hw.walk] at h; cases h
  · have inj : ∀ {a b : List Int}, a.map V.int = b.map V.int → a = b := by
      intro a
      induction a with
      | nil => intro b h; cases b with
        | nil => rfl
        | cons _ _ => simp at h
      | cons i a ih => intro b h; cases b with
        | nil => simp at h
        | cons j b =>
          simp only [List.map_cons, List.cons.injEq, V.int.injEq] at h
          rw [h.1, ih h.2]
    have := inj e
    subst this
    exact q x H' nx hW s
end
/-- the list of what is not equal, as it grows -/
def OthA (K : PySem.W.Frag) (DC WC : Addr) (c : Int) (ns : List (Option Int)) (ls : List (Int × Int × Int)) (is : List Int) (H H' : Hp) (L : Addr) (n : Nat) : Prop := ∃ (G : Hp) (rows : List V), (∀ b o, H b = some o → G b = some o) ∧ (∀ b o, G b = some o → H' b = some o) ∧ G L = none ∧ H' L = some (.lst rows) ∧ rows.length ≤ n ∧ ∀ r ∈ rows, OddWk K DC WC G r c ns ls is
theorem OthA.old {K : PySem.W.Frag} {DC WC : Addr} {c : Int} {ns : List (Option Int)} {ls : List (Int × Int × Int)} {is : List Int} {H H' : Hp} {L : Addr} {n : Nat} (h : OthA K DC WC c ns ls is H H' L n) : ∀ b o, H b = some o → H' b = some o := by
  obtain ⟨G, rows, a, b, _⟩ := h
  exact fun x o e => b _ _ (a _ _ e)
theorem OthA.up {K : PySem.W.Frag} {DC WC : Addr} {c : Int} {ns : List (Option Int)} {ls : List (Int × Int × Int)} {is : List Int} {H H' H2 : Hp} {L : Addr} {n : Nat} (h : OthA K DC WC c ns ls is H H' L n) (s : ∀ b o, H' b = some o → H2 b = some o) : OthA K DC WC c ns ls is H H2 L n := by
  obtain ⟨G, rows, a, b, e, f, g⟩ := h
  exact ⟨G, rows, a, fun x o h => s _ _ (b _ _ h), e, s _ _ f, g⟩
theorem OthA.app {K : PySem.W.Frag} {DC WC : Addr} {c : Int} {ns : List (Option Int)} {ls : List (Int × Int × Int)} {is : List Int} {H H' : Hp} {L : Addr} {n : Nat} {x : V} {c2 : Int} {ns2 : List (Option Int)} {ls2 : List (Int × Int × Int)} {is2 : List Int} {Q : VK} (h : OthA K DC WC c ns ls is H H' L n) (hn : n ≤ 1000) (hx : WkAt DC WC H' x c2 ns2 ls2 is2) (hne : ¬ (c = c2 ∧ ns = ns2 ∧ ls = ls2 ∧ is = is2))
    (q : ∀ H2, OthA K DC WC c ns ls is H H2 L (n + 1) → Q .non H2) : rAppend (.ref L) [x] H' Q := by
  obtain ⟨G, rows, a, b, e, f, g, k⟩ := h
  refine g_app f (szl (by omega)) (q _ ?_)
  refine ⟨fun y => if y = L then none else H' y, rows ++ [x], fun y o h => ?_, fun y o h => ?_, by simp, upd_same, by simp; omega, fun r hr => ?_⟩
  · have : y ≠ L := fun z => by rw [z] at h; exact absurd (a _ _ h) (by rw [e]; simp)
    simp only [this, if_false]
    exact b _ _ (a _ _ h)
  · have h : (if y = L then none else H' y) = some o := h
    by_cases z : y = L
    · rw [if_pos z] at h; cases h
    · rw [if_neg z] at h
      rw [upd_ne z]; exact h
  · rcases List.mem_append.mp hr with h | h
    · refine (k r h).same fun y o h => ?_
      have : y ≠ L := fun z => by rw [z, e] at h; cases h
      simp only [this, if_false]
      exact b _ _ h
    · have er : r = x := by simpa using h
      subst er
      refine .inr ⟨c2, ns2, ls2, is2, hx.keep (fun y ys h => ?_) (fun y C dx fs h => ?_), hne⟩
      · have : y ≠ L := fun z => by rw [z, f] at h; cases h
        simp only [this, if_false]; exact h
      · have : y ≠ L := fun z => by rw [z, f] at h; cases h
        simp only [this, if_false]; exact h
theorem cut_neg1 (xs : List V) (h : xs ≠ []) : cutV xs none (some (-1)) = xs.take (xs.length - 1) := by
  unfold cutV HT.sIx
  simp only [Nat.sub_zero, List.drop_zero]
  rw [if_pos (by decide)]
  congr 1
  have := List.length_pos_iff.mpr h
  omega
def spEqualW (DC WC : Addr) : Sp := fun vs H Q _ => ∃ (v d o : V) (t : Addr) (b : Book) (wd : Int) (is : List Int), vs = [v, d, .ref t, o] ∧ Fz H v b.d ∧ DOK b.c b.notes b.lines wd ∧ (0 ≤ wd ∧ wd ≤ 1000000000) ∧ b.lines.length ≤ 60 ∧ DiaAt DC H d b.c b.notes b.lines ∧ H t = some (.tup (is.map V.int)) ∧ WOK b.lines is ∧ is.length ≤ 6 ∧ WkAt DC WC H o b.c b.notes b.lines is ∧
  ∀ H', (∀ b o, H b = some o → H' b = some o) → Q (.bl true) H'
theorem OthA.le {K : PySem.W.Frag} {DC WC : Addr} {c : Int} {ns : List (Option Int)} {ls : List (Int × Int × Int)} {is : List Int} {H H' : Hp} {L : Addr} {n n' : Nat} (h : OthA K DC WC c ns ls is H H' L n) (k : n ≤ n') : OthA K DC WC c ns ls is H H' L n' := by
  obtain ⟨G, rows, a, b, e, f, g, z⟩ := h
  exact ⟨G, rows, a, b, e, f, by omega, z⟩
theorem OthA.at_ {K : PySem.W.Frag} {DC WC : Addr} {c : Int} {ns : List (Option Int)} {ls : List (Int × Int × Int)} {is : List Int} {H H' : Hp} {L : Addr} {n : Nat} (h : OthA K DC WC c ns ls is H H' L n) : ∃ rows, H' L = some (.lst rows) := by
  obtain ⟨G, rows, a, b, e, f, g, z⟩ := h
  exact ⟨rows, f⟩
theorem lineAt_app {ls l2 : List (Int × Int × Int)} {i : Int} (h : i.toNat < ls.length) : lineAt (ls ++ l2) i = lineAt ls i := by
  rw [lineAt_get h, lineAt_get (by rw [List.length_append]; omega), List.getElem_append_left h]
theorem WOK.app {ls l2 : List (Int × Int × Int)} {is : List Int} (h : WOK ls is) : WOK (ls ++ l2) is := by
  obtain ⟨a, b, c⟩ := h
  refine ⟨a, fun i hi => ⟨(b i hi).1, by rw [List.length_append]; have := (b i hi).2; omega⟩, fun j hj => ?_⟩
  rw [lineAt_app (b _ (List.getElem_mem _)).2, lineAt_app (b _ (List.getElem_mem _)).2]
  exact c j hj
theorem WOK.tail {ls : List (Int × Int × Int)} {i : Int} {is : List Int} (h : WOK ls (i :: is)) (hn : is ≠ []) : WOK ls is := by
  obtain ⟨a, b, c⟩ := h
  exact ⟨hn, fun j hj => b j (List.mem_cons_of_mem _ hj), fun j hj => c (j + 1) (by simpa using hj)⟩
theorem WOK.take {ls : List (Int × Int × Int)} {is : List Int} {n : Nat} (h : WOK ls is) (hn : 0 < n) : WOK ls (is.take n) := by
  obtain ⟨a, b, c⟩ := h
  have hp := List.length_pos_iff.mpr a
  refine ⟨fun e => ?_, fun j hj => b j (List.mem_of_mem_take hj), fun j hj => ?_⟩
  · have := congrArg List.length e
    rw [List.length_take, List.length_nil] at this
    omega
  · rw [List.length_take] at hj
    rw [List.getElem_take, List.getElem_take]
    exact c j (by omega)
theorem WOK.head {ls : List (Int × Int × Int)} {i j : Int} {is : List Int} (h : WOK ls (i :: is)) (hj : 0 ≤ j ∧ j.toNat < ls.length) (e : lineAt ls j = lineAt ls i) : WOK ls (j :: is) := by
  obtain ⟨a, b, c⟩ := h
  refine ⟨by simp, fun k hk => ?_, fun k hk => ?_⟩
  · rcases List.mem_cons.mp hk with rfl | hk
    · exact hj
    · exact b k (List.mem_cons_of_mem _ hk)
  · cases k with
    | zero =>
      have := c 0 (by simpa using hk)
      show (lineAt ls j).2.1 = _
      rw [e]
      exact this
    | succ k => exact c (k + 1) hk
theorem g_methR {C : Addr} {m : Str} {sp : Sp} {E : XK} {ta : TE} {t : TA} {σ : L2.St} {H : Hp} {Q : VK} (h : ta σ H fun x H1 => ∃ a dx fs, x = .ref a ∧ H1 a = some (.ins C dx fs) ∧ fs.lookup m = none ∧ t σ H1 fun vs H2 => sp (x :: vs) H2 Q E) : tMethR C m sp E ta t σ H Q := h
theorem OthA.cat {K : PySem.W.Frag} {DC WC : Addr} {c : Int} {ns : List (Option Int)} {ls : List (Int × Int × Int)} {is : List Int} {H H' : Hp} {L Lb : Addr} {n : Nat} {x y : V} {Q : VK} (h : OthA K DC WC c ns ls is H H' L n) (hn : n ≤ 1000) (hb : H' Lb = some (.lst [x, y])) (hx : OddWk K DC WC H' x c ns ls is) (hy : OddWk K DC WC H' y c ns ls is)
    (q : ∀ p H2, OthA K DC WC c ns ls is H H2 p (n + 2) → Q (.ref p) H2) : rCat (.ref L) (.ref Lb) H' Q := by
  obtain ⟨G, rows, a, b, e, f, g, k⟩ := h
  refine ⟨L, Lb, rows, [x, y], rfl, rfl, f, hb, Nat.le_trans (show rows.length + [x, y].length ≤ 2000 by simp; omega) (by decide), fun p np => q p _ ⟨H', rows ++ [x, y], fun z o h => b _ _ (a _ _ h), same_up np fun _ _ h => h, np, upd_same, by simp; omega, fun r hr => ?_⟩⟩
  rcases List.mem_append.mp hr with h | h
  · exact (k r h).same b
  · simp only [List.mem_cons, List.not_mem_nil, or_false] at h
    rcases h with rfl | rfl
    · exact hx
    · exact hy
end WL
set_option Elab.async false
set_option linter.all false
set_option maxRecDepth 100000
set_option maxHeartbeats 4000000
namespace WL
open PySem PySem.Spec PyProof.Rows L2
/-! ### what a walk is read as can be shown -/
theorem line_in {c w : Int} {ns : List (Option Int)} {ls : List (Int × Int × Int)} (h : DOK c ns ls w) {i : Int} (hi : i.toNat < ls.length) : (0 ≤ (lineAt ls i).1 ∧ (lineAt ls i).1 < 16) ∧ (0 ≤ (lineAt ls i).2.1 ∧ (lineAt ls i).2.1 < 16) ∧ -w ≤ (lineAt ls i).2.2 ∧ (lineAt ls i).2.2 ≤ w := by
  rw [lineAt_get hi]
  obtain ⟨⟨a, b⟩, ⟨c, d⟩, e, f⟩ := h.line _ (List.getElem_mem hi)
  have := h.n16
  exact ⟨⟨a, by omega⟩, ⟨c, by omega⟩, e, f⟩
theorem total_in {c w : Int} {ns : List (Option Int)} {ls : List (Int × Int × Int)} (h : DOK c ns ls w) (hw : 0 ≤ w) : ∀ {is : List Int}, InR ls is → -(is.length * w) ≤ totalOf ls is ∧ totalOf ls is ≤ is.length * w
  | [], _ => by simp [totalOf]
  | i :: is, hi => by
    have ih := total_in h hw (is := is) fun j hj => hi j (List.mem_cons_of_mem _ hj)
    obtain ⟨_, _, e, f⟩ := line_in h (hi i (List.mem_cons_self)).2
    have et : totalOf ls (i :: is) = (lineAt ls i).2.2 + totalOf ls is := by simp [totalOf]
    have el : (((i :: is).length : Nat) : Int) * w = is.length * w + w := by
      rw [List.length_cons]; push_cast; rw [Int.add_mul, Int.one_mul]
    rw [et, el]
    omega
theorem sm_wD {c w : Int} {ns : List (Option Int)} {ls : List (Int × Int × Int)} {is : List Int} (h : DOK c ns ls w) (hw : 0 ≤ w ∧ w ≤ 1000000000) (hl : ls.length ≤ 1000) (hi : InR ls is) (hn : is.length ≤ 100) : Sm (wD ls is) := by
  have ht := total_in h hw.1 hi
  have hb : (is.length : Int) * w ≤ 100 * 1000000000 := Int.mul_le_mul (by omega) hw.2 hw.1 (by decide)
  refine sm_lst fun d hd => ?_
  simp only [List.mem_cons, List.not_mem_nil, or_false] at hd
  rcases hd with rfl | rfl | rfl | rfl | rfl
  · refine sm_tup fun d hd => ?_
    obtain ⟨i, hi', rfl⟩ := List.mem_map.mp hd
    obtain ⟨a, b⟩ := hi i hi'
    exact sm_int ⟨by omega, by omega⟩
  · refine sm_tup fun d hd => ?_
    obtain ⟨x, hx, rfl⟩ := List.mem_map.mp hd
    unfold stopsOf at hx
    rcases List.mem_append.mp hx with hx | hx
    · obtain ⟨i, hi', rfl⟩ := List.mem_map.mp hx
      have := (line_in h (hi i (List.mem_of_mem_take hi')).2).1
      exact sm_int ⟨by omega, by omega⟩
    · obtain ⟨i, hi', rfl⟩ := List.mem_map.mp hx
      have := (line_in h (hi i hi').2).2.1
      exact sm_int ⟨by omega, by omega⟩
  · exact sm_int ⟨by omega, by omega⟩
  · exact sm_int ⟨by omega, by omega⟩
  · exact sm_int ⟨by omega, by omega⟩
theorem bulk_intsA : ∀ l : List Int, PyData.bulkAll (l.map PyData.int) = l.length
  | [] => rfl
  | i :: l => by
    rw [List.map_cons, PyData.bulkAll.eq_2, bulk_intsA l]
    simp only [PyData.bulk.eq_7, List.length_cons]
    omega
theorem pl_wD (ls : List (Int × Int × Int)) (is : List Int) : pl 2 (wD ls is) := by
  intro d hd
  simp only [List.mem_cons, List.not_mem_nil, or_false] at hd
  rcases hd with rfl | rfl | rfl | rfl | rfl
  · exact pl_intsT is
  · exact pl_intsT _
  · simp [pl]
  · simp [pl]
  · simp [pl]
theorem bulk_wD (ls : List (Int × Int × Int)) (is : List Int) : (wD ls is).bulk = 5 + is.length + (stopsOf ls is).length := by
  show (PyData.list _).bulk = _
  rw [PyData.bulk.eq_2]
  simp only [PyData.bulkAll.eq_2, PyData.bulkAll.eq_1, PyData.bulk.eq_7, PyData.bulk.eq_3, bulk_intsA]
  omega
theorem stops_len (ls : List (Int × Int × Int)) (is : List Int) : (stopsOf ls is).length ≤ is.length + 1 := by
  unfold stopsOf
  rw [List.length_append, List.length_map, List.length_map, List.length_take]
  omega
theorem show_wD {c w : Int} {ns : List (Option Int)} {ls : List (Int × Int × Int)} {is : List Int} (h : DOK c ns ls w) (hw : 0 ≤ w ∧ w ≤ 1000000000) (hl : ls.length ≤ 1000) (hi : InR ls is) (hn : is.length ≤ 100) : (wD ls is).showable = true ∧ (wD ls is).shown.length ≤ sizeLine ∧ (wD ls is).depth ≤ 50 :=
  ⟨(sm_wD h hw hl hi hn).show_, sm_fits (sm_wD h hw hl hi hn) (by rw [bulk_wD]; have := stops_len ls is; omega), Nat.le_trans (pl_lay (pl_wD ls is)).2 (by decide)⟩
theorem show_wD2 {c w : Int} {ns : List (Option Int)} {ls : List (Int × Int × Int)} {is : List Int} (h : DOK c ns ls w) (hw : 0 ≤ w ∧ w ≤ 1000000000) (hl : ls.length ≤ 1000) (hi : InR ls is) (hn : is.length ≤ 100) : (PyData.list [wD ls is, wD ls is]).showable = true ∧ (PyData.list [wD ls is, wD ls is]).shown.length ≤ sizeLine ∧ (PyData.list [wD ls is, wD ls is]).depth ≤ 50 := by
  have s : Sm (.list [wD ls is, wD ls is]) := sm_lst fun d hd => by
    simp only [List.mem_cons, List.not_mem_nil, or_false] at hd
    rcases hd with rfl | rfl <;> exact sm_wD h hw hl hi hn
  have p : pl 3 (.list [wD ls is, wD ls is]) := by
    intro d hd
    simp only [List.mem_cons, List.not_mem_nil, or_false] at hd
    rcases hd with rfl | rfl <;> exact pl_wD ls is
  refine ⟨s.show_, sm_fits s ?_, Nat.le_trans (pl_lay p).2 (by decide)⟩
  rw [PyData.bulk.eq_2]
  simp only [PyData.bulkAll.eq_2, PyData.bulkAll.eq_1, bulk_wD, List.length_cons, List.length_nil]
  have := stops_len ls is
  omega
end WL
set_option Elab.async false
set_option linter.all false
set_option maxRecDepth 100000
set_option maxHeartbeats 4000000
namespace WL
open PySem PySem.Spec PyProof.Rows L2
/-! ### all but the drawn state and the tables stays -/
def Sb (m g : Addr) (H H2 : Hp) : Prop := ∀ b o, b ≠ m → b ≠ g → (∀ ps, o ≠ .tbl ps) → H b = some o → H2 b = some o
theorem Sb.refl {m g : Addr} {H : Hp} : Sb m g H H := fun b o _ _ _ h => h
theorem Sb.trans {m g : Addr} {H H1 H2 : Hp} (a : Sb m g H H1) (b : Sb m g H1 H2) : Sb m g H H2 := fun x o n1 n2 t h => b x o n1 n2 t (a x o n1 n2 t h)
theorem Sb.of {m g : Addr} {H H1 : Hp} (s : ∀ b o, H b = some o → H1 b = some o) : Sb m g H H1 := fun b o _ _ _ h => s b o h
theorem Sb.pr {m c g : Addr} {H H1 : Hp} {B : Int} (p : Pr m c g H H1 B) : Sb m g H H1 := fun b o n1 n2 _ h => p.but b o n1 n2 h
theorem Sb.out {m c g : Addr} {H H1 : Hp} {B : Int} (p : Pr m c g (noTab H) H1 B) : Sb m g H H1 := fun b o n1 n2 t h => p.but b o n1 n2 (noTab_at h t)
theorem Sb.tk {m c g : Addr} {H H1 : Hp} {n : Int} (s : Sb m g H H1) (d : Dr H m c g n) : Tk H H1 := fun b xs h => by
  obtain ⟨l, _, hg⟩ := d.great
  exact s b _ (fun z => by rw [z, d.dict] at h; cases h) (fun z => by rw [z, hg] at h; cases h) (fun ps z => nomatch z) h
theorem Sb.ik {m c g : Addr} {H H1 : Hp} {n : Int} (s : Sb m g H H1) (d : Dr H m c g n) : Ik H H1 := fun b C dx fs h => by
  obtain ⟨l, _, hg⟩ := d.great
  exact s b _ (fun z => by rw [z, d.dict] at h; cases h) (fun z => by rw [z, hg] at h; cases h) (fun ps z => nomatch z) h
/-- a walk and what it is to be read as, in a tuple -/
def Kp (DC WC : Addr) (G : Hp) (x : V) : Prop := ∃ (p sh : Addr) (one : V) (c wd : Int) (ns : List (Option Int)) (ls : List (Int × Int × Int)) (is : List Int), x = .ref p ∧ G p = some (.tup [one, .ref sh]) ∧ WkAt DC WC G one c ns ls is ∧ WRow G sh ls is ∧ DOK c ns ls wd ∧ (0 ≤ wd ∧ wd ≤ 1000000000) ∧ ls.length ≤ 60 ∧ WOK ls is ∧ is.length ≤ 6
theorem Kp.same {DC WC : Addr} {G G' : Hp} {x : V} (k : ∀ b o, G b = some o → G' b = some o) (h : Kp DC WC G x) : Kp DC WC G' x := by
  obtain ⟨p, sh, one, c, wd, ns, ls, is, a, b, d, e, f⟩ := h
  exact ⟨p, sh, one, c, wd, ns, ls, is, a, k _ _ b, d.same k, e.same k, f⟩
def KeptA (DC WC m c g L : Addr) (H' : Hp) (n : Nat) : Prop := ∃ (G : Hp) (items : List V), (∀ b o, G b = some o → H' b = some o ∧ (∀ ps, o ≠ .tbl ps) ∧ b ≠ m ∧ b ≠ g ∧ b ≠ L) ∧ (L ≠ m ∧ L ≠ c ∧ L ≠ g) ∧ H' L = some (.lst items) ∧ items.length ≤ n ∧ ∀ x ∈ items, Kp DC WC G x
theorem KeptA.step {DC WC m c g L : Addr} {H' H2 : Hp} {n : Nat} (h : KeptA DC WC m c g L H' n) (s : Sb m g H' H2) : KeptA DC WC m c g L H2 n := by
  obtain ⟨G, items, a, ⟨b1, b2, b3⟩, e, d, f⟩ := h
  exact ⟨G, items, fun b o h => ⟨s b o (a b o h).2.2.1 (a b o h).2.2.2.1 (a b o h).2.1 (a b o h).1, (a b o h).2⟩, ⟨b1, b2, b3⟩, s L _ b1 b3 (fun ps z => nomatch z) e, d, f⟩
theorem KeptA.le {DC WC m c g L : Addr} {H' : Hp} {n n' : Nat} (h : KeptA DC WC m c g L H' n) (k : n ≤ n') : KeptA DC WC m c g L H' n' := by
  obtain ⟨G, items, a, b, e, d, f⟩ := h
  exact ⟨G, items, a, b, e, by omega, f⟩
theorem KeptA.at_ {DC WC m c g L : Addr} {H' : Hp} {n : Nat} (h : KeptA DC WC m c g L H' n) : ∃ items, H' L = some (.lst items) := by
  obtain ⟨G, items, a, b, e, d, f⟩ := h
  exact ⟨items, e⟩
theorem KeptA.app {DC WC m c g L p sh : Addr} {H' : Hp} {n : Nat} {k : Int} {one : V} {cy wd : Int} {ns : List (Option Int)} {ls : List (Int × Int × Int)} {is : List Int} {Q : VK} (h : KeptA DC WC m c g L H' n) (hn : n ≤ 1000) (d : Dr H' m c g k) (hp : H' p = some (.tup [one, .ref sh])) (hW : WkAt DC WC H' one cy ns ls is) (hR : WRow H' sh ls is) (n1 : sh ≠ m) (n2 : sh ≠ g) (n3 : sh ≠ L)
    (ok : DOK cy ns ls wd) (hw : 0 ≤ wd ∧ wd ≤ 1000000000) (h60 : ls.length ≤ 60) (hok : WOK ls is) (hl : is.length ≤ 6) (q : ∀ H2, KeptA DC WC m c g L H2 (n + 1) → Dr H2 m c g k → Tk H' H2 → Ik H' H2 → (∀ T, LamX.Tabs T H' → LamX.Tabs T H2) → Q .non H2) : rAppend (.ref L) [.ref p] H' Q := by
  obtain ⟨G, items, a, ⟨b1, b2, b3⟩, f, e, z⟩ := h
  obtain ⟨l, hl0, hg⟩ := d.great
  have tkG : ∀ (b : Addr) (o : HO), b ≠ m → b ≠ g → b ≠ L → (∀ ps, o ≠ .tbl ps) → H' b = some o → (fun y => if y = m ∨ y = g ∨ y = L then none else noTab H' y : Hp) b = some o := fun b o m1 m2 m3 t h => by
    show (if b = m ∨ b = g ∨ b = L then none else noTab H' b) = some o
    rw [if_neg (by rintro (w | w | w) <;> contradiction)]
    exact noTab_at h t
  generalize hG : (fun y => if y = m ∨ y = g ∨ y = L then none else noTab H' y : Hp) = G' at tkG
  have tk : Tk H' G' := fun b xs h => tkG b _ (fun z => by rw [z, d.dict] at h; cases h) (fun z => by rw [z, hg] at h; cases h) (fun z => by rw [z, f] at h; cases h) (fun ps z => nomatch z) h
  have ik : Ik H' G' := fun b C dx fs h => tkG b _ (fun z => by rw [z, d.dict] at h; cases h) (fun z => by rw [z, hg] at h; cases h) (fun z => by rw [z, f] at h; cases h) (fun ps z => nomatch z) h
  have keepL : ∀ (b : Addr) (o : HO), b ≠ L → H' b = some o → upd H' L (.lst (items ++ [.ref p])) b = some o := fun b o nb h => by rw [upd_ne nb]; exact h
  refine g_app f (szl (by omega)) (q _ ⟨G', items ++ [.ref p], fun b o h => ?_, ⟨b1, b2, b3⟩, upd_same, by simp; omega, fun x hx => ?_⟩ (d.upd b1 b2 b3) (fun b xs h => keepL b _ (fun z => by rw [z, f] at h; cases h) h) (fun b C dx fs h => keepL b _ (fun z => by rw [z, f] at h; cases h) h) fun T t r hr => ?_)
  · rw [← hG] at h
    have h : (if b = m ∨ b = g ∨ b = L then none else noTab H' b) = some o := h
    by_cases w : b = m ∨ b = g ∨ b = L
    · rw [if_pos w] at h; cases h
    · rw [if_neg w] at h
      have w1 : b ≠ m := fun e => w (Or.inl e)
      have w2 : b ≠ g := fun e => w (Or.inr (Or.inl e))
      have w3 : b ≠ L := fun e => w (Or.inr (Or.inr e))
      exact ⟨keepL b _ w3 (noTab_of h).1, (noTab_of h).2, w1, w2, w3⟩
  · rcases List.mem_append.mp hx with h | h
    · refine (z x h).same fun b o h => ?_
      obtain ⟨k1, k2, k3, k4, k5⟩ := a b o h
      exact tkG b o k3 k4 k5 k2 k1
    · have ex : x = .ref p := by simpa using h
      subst ex
      obtain ⟨t, u, r1, r2, r3⟩ := hR
      exact ⟨p, sh, one, cy, wd, ns, ls, is, rfl, tk _ _ hp, hW.keep tk ik, ⟨t, u, tkG sh _ n1 n2 n3 (fun ps z => nomatch z) r1, tk _ _ r2, tk _ _ r3⟩, ok, hw, h60, hok, hl⟩
  · obtain ⟨ps, e, okT, hc⟩ := t r hr
    refine ⟨ps, keepL _ _ (fun z => by rw [z, f] at e; cases e) e, okT, fun pos cv hcv => ?_⟩
    obtain ⟨c', w1, w2⟩ := hc pos cv hcv
    exact ⟨c', w1, keepL _ _ (fun z => by rw [z, f] at w2; cases w2) w2⟩
end WL
set_option Elab.async false
set_option linter.all false
set_option maxRecDepth 100000
set_option maxHeartbeats 4000000
namespace WL
open PySem PySem.Spec PyProof.Rows L2
/-! ### two diaries joined: the pure side -/
def jfind (ps : List (Nat × Nat)) (k : Nat) : Option Nat := (ps.find? fun p => p.2 == k).map (·.1)
def jfree (ps : List (Nat × Nat)) (k : Nat) : Bool := (jfind ps k).isNone
def jnew (ps : List (Nat × Nat)) (m : Nat) : List Nat := (List.range m).filter (jfree ps)
def jnum (ps : List (Nat × Nat)) (n1 k : Nat) : Nat := (jfind ps k).getD (n1 + (jnew ps k).length)
structure JOK (ps : List (Nat × Nat)) (N1 N2 : List (Option Int)) : Prop where
  fst : ∀ p ∈ ps, p.1 < N1.length
  snd : ∀ p ∈ ps, p.2 < N2.length
  ndF : (ps.map (·.1)).Nodup
  ndS : (ps.map (·.2)).Nodup
  fit : ∀ p ∈ ps, N1.getD p.1 none = none ∨ N2.getD p.2 none = none ∨ N1.getD p.1 none = N2.getD p.2 none
def jfst (ps : List (Nat × Nat)) (N1 N2 : List (Option Int)) (t : Nat) : List (Option Int) := N1.mapIdx fun i x => match ps.find? (fun p => p.1 == i) with
  | some p => if p.2 < t ∧ N2.getD p.2 none ≠ none then N2.getD p.2 none else x
  | none => x
def jsnd (ps : List (Nat × Nat)) (N2 : List (Option Int)) (t : Nat) : List (Option Int) := (jnew ps N2.length).map fun k => if k < t then N2.getD k none else none
def jW (ps : List (Nat × Nat)) (N1 N2 : List (Option Int)) (t : Nat) : List (Option Int) := jfst ps N1 N2 t ++ jsnd ps N2 t
def joinN (ps : List (Nat × Nat)) (N1 N2 : List (Option Int)) : List (Option Int) := jW ps N1 N2 N2.length
theorem find_nd {f : Nat × Nat → Nat} : ∀ {ps : List (Nat × Nat)} {p : Nat × Nat}, (ps.map f).Nodup → p ∈ ps → ps.find? (fun q => f q == f p) = some p
  | q :: ps, p, nd, hp => by
    rw [List.map_cons, List.nodup_cons] at nd
    rcases List.mem_cons.mp hp with rfl | hp
    · simp
    · have ne : f q ≠ f p := fun e => nd.1 (e ▸ List.mem_map_of_mem hp)
      rw [List.find?_cons, beq_eq_false_iff_ne.mpr ne]
      exact find_nd nd.2 hp
theorem jfind_in {ps : List (Nat × Nat)} {p : Nat × Nat} (nd : (ps.map (·.2)).Nodup) (hp : p ∈ ps) : jfind ps p.2 = some p.1 := by
  unfold jfind
  rw [find_nd (f := (·.2)) nd hp]; rfl
theorem jfind_some {ps : List (Nat × Nat)} {k i : Nat} (h : jfind ps k = some i) : (i, k) ∈ ps := by
  unfold jfind at h
  cases e : ps.find? (fun p => p.2 == k) with
  | none => rw [e] at h; cases h
  | some p =>
    rw [e] at h
    cases h
    have z := List.find?_some e
    have z' : p.2 = k := by simpa using z
    subst z'
    exact List.mem_of_find?_eq_some e
theorem jfree_not {ps : List (Nat × Nat)} {k : Nat} (h : jfree ps k = true) : ∀ p ∈ ps, p.2 ≠ k := by
  intro p hp e
  unfold jfree jfind at h
  cases q : ps.find? (fun p => p.2 == k) with
  | none =>
    have z := List.find?_eq_none.mp q p hp
    exact z (by simp [e])
  | some x => rw [q] at h; cases h
theorem jfree_false {ps : List (Nat × Nat)} {k : Nat} (h : jfree ps k = false) : ∃ i, jfind ps k = some i := by
  unfold jfree at h
  cases q : jfind ps k with
  | none => rw [q] at h; cases h
  | some i => exact ⟨i, rfl⟩
theorem jnew_succ (ps : List (Nat × Nat)) (m : Nat) : jnew ps (m + 1) = jnew ps m ++ if jfree ps m then [m] else [] := by
  unfold jnew
  rw [List.range_succ, List.filter_append]
  congr 1
  by_cases h : jfree ps m <;> simp [h]
theorem jnew_le (ps : List (Nat × Nat)) : ∀ m, (jnew ps m).length ≤ m
  | 0 => by simp [jnew]
  | m + 1 => by
    have z := jnew_le ps m
    rw [jnew_succ, List.length_append]
    split <;> simp <;> omega
theorem jnew_at {ps : List (Nat × Nat)} {t : Nat} (h : jfree ps t = true) : ∀ {m : Nat}, t < m → (jnew ps m)[(jnew ps t).length]? = some t
  | m + 1, hm => by
    rw [jnew_succ]
    rcases Nat.lt_or_ge t m with q | q
    · have z := jnew_at h q
      have l := (List.getElem?_eq_some_iff.mp z).1
      rw [List.getElem?_append_left l]
      exact z
    · have e : t = m := by omega
      subst e
      rw [h, List.getElem?_append_right (Nat.le_refl _)]
      simp
theorem jnew_nd (ps : List (Nat × Nat)) (m : Nat) : (jnew ps m).Nodup := List.Pairwise.filter _ List.nodup_range
theorem jnew_mem {ps : List (Nat × Nat)} {m k : Nat} (h : k ∈ jnew ps m) : k < m ∧ jfree ps k = true := by
  have z := List.mem_filter.mp h
  exact ⟨List.mem_range.mp z.1, z.2⟩
theorem nd_inj {α : Type} {l : List α} (nd : l.Nodup) {i j : Nat} {hi : i < l.length} {hj : j < l.length} (e : l[i] = l[j]) : i = j := by
  have p := List.pairwise_iff_getElem.mp nd
  rcases Nat.lt_trichotomy i j with h | h | h
  · exact absurd e (p i j hi hj h)
  · exact h
  · exact absurd e.symm (p j i hj hi h)
theorem jnew_only {ps : List (Nat × Nat)} {t m j : Nat} (h : jfree ps t = true) (hm : t < m) (e : (jnew ps m)[j]? = some t) : j = (jnew ps t).length := by
  have a := jnew_at h hm
  obtain ⟨l1, e1⟩ := List.getElem?_eq_some_iff.mp e
  obtain ⟨l2, e2⟩ := List.getElem?_eq_some_iff.mp a
  exact nd_inj (jnew_nd ps m) (e1.trans e2.symm)

theorem jnew_len {ps : List (Nat × Nat)} {m : Nat} (nd : (ps.map (·.2)).Nodup) (hs : ∀ p ∈ ps, p.2 < m) : (jnew ps m).length + ps.length = m := by
  have p1 : ((List.range m).filter fun k => !(jfree ps k)).Perm (ps.map (·.2)) := by
    refine (List.perm_ext_iff_of_nodup (List.Pairwise.filter _ List.nodup_range) nd).mpr fun k => ?_
    rw [List.mem_filter, List.mem_range, List.mem_map]
    constructor
    · rintro ⟨h1, h2⟩
      obtain ⟨i, hi⟩ := jfree_false (by simpa using h2)
      exact ⟨_, jfind_some hi, rfl⟩
    · rintro ⟨p, hp, rfl⟩
      refine ⟨hs p hp, ?_⟩
      unfold jfree
      rw [jfind_in nd hp]; rfl
  have l1 := p1.length_eq
  rw [List.length_map] at l1
  have l2 : ∀ xs : List Nat, (xs.filter (jfree ps)).length + (xs.filter fun k => !(jfree ps k)).length = xs.length := by
    intro xs
    induction xs with
    | nil => rfl
    | cons x xs ih =>
      rw [List.filter_cons, List.filter_cons, List.length_cons]
      cases h : jfree ps x <;> simp <;> omega
  have z := l2 (List.range m)
  rw [List.length_range, l1] at z
  exact z
section
variable {ps : List (Nat × Nat)} {N1 N2 : List (Option Int)}
theorem jfst_len (t : Nat) : (jfst ps N1 N2 t).length = N1.length := by unfold jfst; rw [List.length_mapIdx]
theorem jsnd_len (t : Nat) : (jsnd ps N2 t).length = (jnew ps N2.length).length := by unfold jsnd; rw [List.length_map]
theorem jW_len (J : JOK ps N1 N2) (t : Nat) : (jW ps N1 N2 t).length = N1.length + (N2.length - ps.length) := by
  unfold jW
  rw [List.length_append, jfst_len, jsnd_len]
  have := jnew_len J.ndS J.snd
  omega
theorem jW_zero (J : JOK ps N1 N2) : jW ps N1 N2 0 = N1 ++ List.replicate (N2.length - ps.length) none := by
  have := jnew_len J.ndS J.snd
  unfold jW jfst jsnd
  congr 1
  · refine List.ext_getElem? fun i => ?_
    rw [List.getElem?_mapIdx]
    cases N1[i]? with
    | none => rfl
    | some x =>
      simp only [Option.map_some, Nat.not_lt_zero, false_and, if_false]
      split <;> rfl
  · have e : N2.length - ps.length = (jnew ps N2.length).length := by omega
    rw [e]
    simp [List.map_const']
theorem jnum_lt (J : JOK ps N1 N2) {t : Nat} (ht : t < N2.length) : jnum ps N1.length t < N1.length + (N2.length - ps.length) := by
  unfold jnum
  cases q : jfind ps t with
  | some i =>
    have := J.fst _ (jfind_some q)
    show i < _
    have z : i < N1.length := this
    omega
  | none =>
    have f : jfree ps t = true := by unfold jfree; rw [q]; rfl
    obtain ⟨l, _⟩ := List.getElem?_eq_some_iff.mp (jnew_at f ht)
    have := jnew_len J.ndS J.snd
    show N1.length + _ < _
    omega
theorem jsame {t : Nat} (h : ∀ p ∈ ps, p.2 = t → N2.getD p.2 none = none) : jfst ps N1 N2 (t + 1) = jfst ps N1 N2 t := by
  unfold jfst
  refine List.ext_getElem? fun i => ?_
  rw [List.getElem?_mapIdx, List.getElem?_mapIdx]
  cases N1[i]? with
  | none => rfl
  | some x =>
    rw [Option.map_some, Option.map_some]
    congr 1
    cases q : ps.find? (fun p => p.1 == i) with
    | none => rfl
    | some p =>
      have hp := List.mem_of_find?_eq_some q
      simp only
      by_cases e : p.2 = t
      · have z := h p hp e
        rw [if_neg (fun c => c.2 z), if_neg (fun c => c.2 z)]
      · have e2 : p.2 < t + 1 ↔ p.2 < t := by omega
        simp only [e2]
theorem jsame2 {t : Nat} (h : t < N2.length → jfree ps t = true → N2.getD t none = none) : jsnd ps N2 (t + 1) = jsnd ps N2 t := by
  unfold jsnd
  refine List.map_congr_left fun k hk => ?_
  obtain ⟨k1, k2⟩ := jnew_mem hk
  by_cases e : k = t
  · subst e
    have z := h k1 k2
    rw [if_neg (Nat.lt_irrefl k), z]
    simp
  · have e2 : k < t + 1 ↔ k < t := by omega
    simp only [e2]
theorem jW_none {t : Nat} (h : N2.getD t none = none) : jW ps N1 N2 (t + 1) = jW ps N1 N2 t := by
  unfold jW
  rw [jsame (fun p _ e => by rw [e]; exact h), jsame2 (fun _ _ => h)]
theorem jW_some (J : JOK ps N1 N2) {t : Nat} {d : Int} (ht : t < N2.length) (h : N2.getD t none = some d) : (jW ps N1 N2 t).set (jnum ps N1.length t) (some d) = jW ps N1 N2 (t + 1) := by
  unfold jW
  cases q : jfind ps t with
  | some i =>
    have hp := jfind_some q
    have hi : i < N1.length := J.fst _ hp
    have e : jnum ps N1.length t = i := by unfold jnum; rw [q]; rfl
    rw [e, List.set_append_left _ _ (by rw [jfst_len]; exact hi), jsame2 (N2 := N2) (t := t) (fun _ f => absurd rfl (jfree_not f _ hp))]
    congr 1
    unfold jfst
    refine List.ext_getElem? fun j => ?_
    rw [List.getElem?_set, List.length_mapIdx, List.getElem?_mapIdx, List.getElem?_mapIdx]
    by_cases ej : i = j
    · subst ej
      rw [if_pos rfl, if_pos hi, List.getElem?_eq_getElem hi, Option.map_some]
      have z : ps.find? (fun p => p.1 == i) = some (i, t) := find_nd (f := (·.1)) (p := (i, t)) J.ndF hp
      rw [z]
      have cc : t < t + 1 ∧ N2.getD t none ≠ none := ⟨Nat.lt_succ_self t, by rw [h]; exact fun z => by cases z⟩
      simp only
      rw [if_pos cc, h]
    · rw [if_neg ej]
      cases N1[j]? with
      | none => rfl
      | some x =>
        rw [Option.map_some, Option.map_some]
        congr 1
        cases q2 : ps.find? (fun p => p.1 == j) with
        | none => rfl
        | some p =>
          have hp2 := List.mem_of_find?_eq_some q2
          have e1 : p.1 = j := by simpa using List.find?_some q2
          have ne : p.2 ≠ t := fun e2 => by
            have z := jfind_in J.ndS hp2
            rw [e2, q] at z
            cases z
            exact ej e1
          have e3 : p.2 < t + 1 ↔ p.2 < t := by omega
          simp only [e3]
  | none =>
    have f : jfree ps t = true := by unfold jfree; rw [q]; rfl
    have e : jnum ps N1.length t = N1.length + (jnew ps t).length := by unfold jnum; rw [q]; rfl
    rw [e, List.set_append_right _ _ (by rw [jfst_len]; omega), jfst_len, Nat.add_sub_cancel_left, jsame (N1 := N1) (N2 := N2) (t := t) (fun p hp z => absurd z (jfree_not f p hp))]
    congr 1
    unfold jsnd
    refine List.ext_getElem? fun j => ?_
    rw [List.getElem?_set, List.length_map, List.getElem?_map, List.getElem?_map]
    have at_ := jnew_at f ht
    obtain ⟨l, _⟩ := List.getElem?_eq_some_iff.mp at_
    by_cases ej : (jnew ps t).length = j
    · subst ej
      rw [if_pos rfl, if_pos l, at_, Option.map_some, if_pos (Nat.lt_succ_self t), h]
    · rw [if_neg ej]
      cases q2 : (jnew ps N2.length)[j]? with
      | none => rfl
      | some k =>
        have ne : k ≠ t := fun e2 => by
          subst e2
          exact ej (jnew_only f ht q2).symm
        have e3 : k < t + 1 ↔ k < t := by omega
        simp only [Option.map_some, e3]
/-! the law's way -/
def jL (ps : List (Nat × Nat)) (N1 N2 : List (Option Int)) (j : Nat) : List (Option Int) := N1.mapIdx fun i x => match (ps.take j).find? (fun p => p.1 == i) with
  | some p => if x = none then N2.getD p.2 none else x
  | none => x
theorem jL_len (j : Nat) : (jL ps N1 N2 j).length = N1.length := by unfold jL; rw [List.length_mapIdx]
theorem jL_zero : jL ps N1 N2 0 = N1 := by
  unfold jL
  refine List.ext_getElem? fun i => ?_
  rw [List.getElem?_mapIdx]
  cases N1[i]? <;> simp
theorem take_find {j : Nat} {p : Nat × Nat} (J : JOK ps N1 N2) (hj : ps[j]? = some p) : (ps.take j).find? (fun q => q.1 == p.1) = none := by
  refine List.find?_eq_none.mpr fun q hq => ?_
  obtain ⟨i, hi, e⟩ := List.mem_take_iff_getElem.mp hq
  obtain ⟨l, e2⟩ := List.getElem?_eq_some_iff.mp hj
  intro z
  have z' : q.1 = p.1 := by simpa using z
  have a : (ps.map (·.1))[i]'(by rw [List.length_map]; omega) = (ps.map (·.1))[j]'(by rw [List.length_map]; omega) := by
    rw [List.getElem_map, List.getElem_map, e, e2, z']
  have := nd_inj J.ndF a
  omega
theorem jL_at (J : JOK ps N1 N2) {j : Nat} {p : Nat × Nat} (hj : ps[j]? = some p) : (jL ps N1 N2 j).getD p.1 none = N1.getD p.1 none := by
  have hi := J.fst _ (List.mem_of_getElem? hj)
  unfold jL
  rw [List.getD_eq_getElem?_getD, List.getD_eq_getElem?_getD, List.getElem?_mapIdx, List.getElem?_eq_getElem hi, Option.map_some, take_find J hj]
theorem jL_other {j : Nat} {p : Nat × Nat} (hj : ps[j]? = some p) {i : Nat} (ne : p.1 ≠ i) : (ps.take (j + 1)).find? (fun q => q.1 == i) = (ps.take j).find? (fun q => q.1 == i) := by
  obtain ⟨l, e⟩ := List.getElem?_eq_some_iff.mp hj
  rw [List.take_succ, hj, List.find?_append]
  cases (ps.take j).find? (fun q => q.1 == i) with
  | some x => rfl
  | none => simp [ne]
theorem jL_set (J : JOK ps N1 N2) {j : Nat} {p : Nat × Nat} (hj : ps[j]? = some p) (h : N1.getD p.1 none = none) : (jL ps N1 N2 j).set p.1 (N2.getD p.2 none) = jL ps N1 N2 (j + 1) := by
  have hi := J.fst _ (List.mem_of_getElem? hj)
  refine List.ext_getElem? fun i => ?_
  rw [List.getElem?_set, jL_len]
  by_cases e : p.1 = i
  · subst e
    rw [if_pos rfl, if_pos hi]
    unfold jL
    rw [List.getElem?_mapIdx, List.getElem?_eq_getElem hi, Option.map_some]
    have z : (ps.take (j + 1)).find? (fun q => q.1 == p.1) = some p := by
      rw [List.take_succ, hj, List.find?_append, take_find J hj]
      simp
    rw [List.getD_eq_getElem?_getD, List.getElem?_eq_getElem hi] at h
    have h' : N1[p.1] = none := h
    rw [z, h']
    simp
  · rw [if_neg e]
    unfold jL
    rw [List.getElem?_mapIdx, List.getElem?_mapIdx, jL_other hj e]
theorem jL_keep (J : JOK ps N1 N2) {j : Nat} {p : Nat × Nat} (hj : ps[j]? = some p) (h : N1.getD p.1 none ≠ none) : jL ps N1 N2 (j + 1) = jL ps N1 N2 j := by
  have hi := J.fst _ (List.mem_of_getElem? hj)
  refine List.ext_getElem? fun i => ?_
  unfold jL
  rw [List.getElem?_mapIdx, List.getElem?_mapIdx]
  by_cases e : p.1 = i
  · subst e
    rw [List.getElem?_eq_getElem hi, Option.map_some, Option.map_some]
    have z : (ps.take (j + 1)).find? (fun q => q.1 == p.1) = some p := by
      rw [List.take_succ, hj, List.find?_append, take_find J hj]
      simp
    rw [List.getD_eq_getElem?_getD, List.getElem?_eq_getElem hi] at h
    have h' : N1[p.1] ≠ none := h
    rw [z, take_find J hj]
    simp [h']
  · rw [jL_other hj e]
theorem jL_end (J : JOK ps N1 N2) : jL ps N1 N2 ps.length = jfst ps N1 N2 N2.length := by
  refine List.ext_getElem? fun i => ?_
  unfold jL jfst
  rw [List.getElem?_mapIdx, List.getElem?_mapIdx, List.take_length]
  cases q : N1[i]? with
  | none => rfl
  | some x =>
    rw [Option.map_some, Option.map_some]
    congr 1
    cases q2 : ps.find? (fun p => p.1 == i) with
    | none => rfl
    | some p =>
      have hp := List.mem_of_find?_eq_some q2
      have e1 : p.1 = i := by simpa using List.find?_some q2
      have f := J.fit p hp
      rw [e1, List.getD_eq_getElem?_getD, q] at f
      have f' : x = none ∨ N2.getD p.2 none = none ∨ x = N2.getD p.2 none := f
      have hs := J.snd p hp
      simp only [hs, true_and]
      by_cases h1 : x = none
      · subst h1
        by_cases h2 : N2.getD p.2 none = none
        · rw [if_pos rfl, if_neg (fun c => c h2), h2]
        · rw [if_pos rfl, if_pos h2]
      · rw [if_neg h1]
        by_cases h2 : N2.getD p.2 none = none
        · rw [if_neg (fun c => c h2)]
        · rw [if_pos h2]
          rcases f' with f | f | f
          · exact absurd f h1
          · exact absurd f h2
          · exact f
theorem jsnd_end : jsnd ps N2 N2.length = (jnew ps N2.length).map fun k => N2.getD k none := by
  unfold jsnd
  exact List.map_congr_left fun k hk => if_pos (jnew_mem hk).1
end
def jlines (ps : List (Nat × Nat)) (n1 : Nat) (ls : List (Int × Int × Int)) : List (Int × Int × Int) := ls.map fun l => ((jnum ps n1 l.1.toNat : Int), (jnum ps n1 l.2.1.toNat : Int), l.2.2)
theorem join_dok {c w : Int} {ps : List (Nat × Nat)} {N1 N2 : List (Option Int)} {L1 L2 : List (Int × Int × Int)} (J : JOK ps N1 N2) (a : DOK c N1 L1 w) (b : DOK c N2 L2 w) (h : N1.length + N2.length ≤ 16) : DOK c (joinN ps N1 N2) (L1 ++ jlines ps N1.length L2) w := by
  have len : (joinN ps N1 N2).length = N1.length + (N2.length - ps.length) := jW_len J _
  refine ⟨a.c2, a.c100, by rw [len]; have := a.n1; omega, by rw [len]; omega, fun i hi => ?_, fun l hl => ?_⟩
  · unfold joinN jW at hi
    rcases List.mem_append.mp hi with z | z
    · unfold jfst at z
      obtain ⟨j, hj, e⟩ := List.mem_mapIdx.mp z
      have m1 : N1[j] ∈ N1 := List.getElem_mem hj
      have m2 : ∀ {k : Nat}, N2.getD k none = some i → some i ∈ N2 := fun {k} e => by
        rw [List.getD_eq_getElem?_getD] at e
        cases q : N2[k]? with
        | none => rw [q] at e; cases e
        | some y =>
          rw [q] at e
          have e' : y = some i := e
          rw [← e']
          exact List.mem_of_getElem? q
      split at e
      · split at e
        · exact b.note i (m2 e)
        · rw [e] at m1; exact a.note i m1
      · rw [e] at m1; exact a.note i m1
    · rw [jsnd_end] at z
      obtain ⟨k, _, e⟩ := List.mem_map.mp z
      rw [List.getD_eq_getElem?_getD] at e
      cases q : N2[k]? with
      | none => rw [q] at e; cases e
      | some y =>
        rw [q] at e
        have e' : y = some i := e
        exact b.note i (by rw [← e']; exact List.mem_of_getElem? q)
  · rw [len]
    rcases List.mem_append.mp hl with z | z
    · obtain ⟨⟨x1, x2⟩, ⟨y1, y2⟩, z1, z2⟩ := a.line l z
      exact ⟨⟨x1, by omega⟩, ⟨y1, by omega⟩, z1, z2⟩
    · obtain ⟨r, hr, rfl⟩ := List.mem_map.mp z
      obtain ⟨⟨x1, x2⟩, ⟨y1, y2⟩, z1, z2⟩ := b.line r hr
      have j1 := jnum_lt J (t := r.1.toNat) (by omega)
      have j2 := jnum_lt J (t := r.2.1.toNat) (by omega)
      exact ⟨⟨by simp, by simp only; omega⟩, ⟨by simp, by simp only; omega⟩, z1, z2⟩
end WL
set_option Elab.async false
set_option linter.all false
set_option maxRecDepth 100000
set_option maxHeartbeats 4000000
namespace WL
open PySem PySem.Spec PyProof.Rows L2
/-! ### any of a list of truth values -/
def rAnyB (K : PySem.W.Frag) : List V → Hp → VK → Prop := fun xs H Q => ∃ (p : Addr) (bs : List Bool), xs = [.ref p] ∧ SqL K H p (bs.map V.bl) ∧ Q (.bl (bs.any id)) H
theorem call_anyB {X : Cx} (calm : X.calm = true) : CallR X (.builtin "any") (rAnyB X.K) := by
  intro pins s σ H xs us Q I r h
  obtain ⟨p, bs, rfl, hq, q⟩ := h
  obtain ⟨u, rfl, rx⟩ := vals1 r
  cases rx
  obtain ⟨its, rv, pl, _⟩ := I.list hq
  have len : its.length = bs.length := by rw [← rv.length, List.length_map]
  have low : p < s.heap.objs.size := by obtain ⟨_, e, _⟩ := pl.isList; exact Heap.lt_size e
  refine call_any_walk (wpAny_pyIter_list pl.isList ?_)
  refine ⟨s.heap.objs.size, [s.heap.objs.size, p], [s.heap.objs.size], its.toArray.size, _, _, fun i => (bs[i]?).getD false, rfl, Walks.list (A := X.A.in1) (I.ok.hd calm) _ p (Nat.ne_of_lt low) its.toArray, ⟨⟨_, Heap.get?_push_size _ rfl, rfl, rfl⟩, pl.isList.push _⟩, ?_, ?_⟩
  · intro i v s' Q' E' hP hQ
    obtain ⟨b, e, rfl⟩ := bools_at rv i v (by simpa using hP)
    simp only [e, Option.getD_some] at hQ
    exact wpAny_truthy_bool hQ
  · intro h' tk hk
    have e : ((List.range its.toArray.size).any fun i => (bs[i]?).getD false) = bs.any id := by
      rw [List.size_toArray, len]
      exact LSm.range_any bs
    rw [e]
    exact ⟨.bl (bs.any id), H, I.kept (t' := tk) (LSm.kept_iter hk), rfl, q⟩
theorem any_false (n : Nat) : (List.replicate n false).any id = false := by simp
/-! ### pairs of events -/
def pairD (p : Nat × Nat) : PyData := .tuple [.int p.1, .int p.2]
theorem fzs_pair {H : Hp} {vs : List V} {ps : List (Nat × Nat)} (h : Fzs H vs (ps.map pairD)) {j : Nat} (hj : j < ps.length) : ∃ t, vs[j]? = some (.ref t) ∧ H t = some (.tup [.int (ps[j].1 : Nat), .int (ps[j].2 : Nat)]) := by
  obtain ⟨v, e, z⟩ := h.get_d (i := j) (d := pairD ps[j]) (by rw [List.getElem?_map, List.getElem?_eq_getElem hj]; rfl)
  obtain ⟨a, xs, rfl, ha, hx⟩ := Fz.tup_inv z
  match xs, hx with
  | [x, y], .cons hx (.cons hy .nil) =>
    rw [Fz.int_inv hx, Fz.int_inv hy] at ha
    exact ⟨a, e, ha⟩
theorem fz_pair {H : Hp} {t : Addr} {p : Nat × Nat} (h : H t = some (.tup [.int (p.1 : Nat), .int (p.2 : Nat)])) : Fz H (.ref t) (pairD p) := .tup h (.cons (.int _) (.cons (.int _) .nil))
def spIsPair (K : PySem.W.Frag) (DC : Addr) : Sp := fun vs H Q _ => ∃ (v u : V) (t : Addr) (c1 c2 i j : Int) (n1 n2 : List (Option Int)) (l1 l2 : List (Int × Int × Int)), vs = [v, u, .ref t] ∧ DiaAt DC H v c1 n1 l1 ∧ DiaAt DC H u c2 n2 l2 ∧ H t = some (.tup [.int i, .int j]) ∧ n1.length ≤ 100 ∧ n2.length ≤ 100 ∧
  (0 ≤ i ∧ i < n1.length) ∧ (0 ≤ j ∧ j < n2.length) ∧ Q (.bl true) H
def spIsTaken (K : PySem.W.Frag) : Sp := fun vs H Q _ => ∃ (t u : Addr) (p : Nat × Nat) (ps : List (Nat × Nat)) (rows : List V), vs = [.ref t, .ref u] ∧ H t = some (.tup [.int (p.1 : Nat), .int (p.2 : Nat)]) ∧ H u = some (.tup rows) ∧ Fzs H rows (ps.map pairD) ∧ ps.length ≤ 1000 ∧
  (∀ q ∈ ps, q.1 ≠ p.1 ∧ q.2 ≠ p.2) ∧ ∀ H', (∀ b o, H b = some o → H' b = some o) → Q (.bl false) H'
def spNeedPairs (DC : Addr) : Sp := fun vs H Q _ => ∃ (v u : V) (t : Addr) (c1 c2 : Int) (n1 n2 : List (Option Int)) (l1 l2 : List (Int × Int × Int)) (ps : List (Nat × Nat)) (rows : List V), vs = [v, u, .ref t] ∧ DiaAt DC H v c1 n1 l1 ∧ DiaAt DC H u c2 n2 l2 ∧ H t = some (.tup rows) ∧ Fzs H rows (ps.map pairD) ∧ n1.length ≤ 100 ∧ n2.length ≤ 100 ∧ ps.length ≤ 1000 ∧ JOK ps n1 n2 ∧
  ∀ H', (∀ b o, H b = some o → H' b = some o) → Q .non H'
def spNewNums (DC : Addr) : Sp := fun vs H Q _ => ∃ (v u : V) (t : Addr) (c1 c2 : Int) (n1 n2 : List (Option Int)) (l1 l2 : List (Int × Int × Int)) (ps : List (Nat × Nat)) (rows : List V), vs = [v, u, .ref t] ∧ DiaAt DC H v c1 n1 l1 ∧ DiaAt DC H u c2 n2 l2 ∧ H t = some (.tup rows) ∧ Fzs H rows (ps.map pairD) ∧ n1.length ≤ 100 ∧ n2.length ≤ 100 ∧ ps.length ≤ 1000 ∧ JOK ps n1 n2 ∧
  ∀ (p : Addr) (H' : Hp), H p = none → H' p = some (.lst ((List.range n2.length).map fun k => V.int (jnum ps n1.length k : Nat))) → (∀ b o, H b = some o → H' b = some o) → Q (.ref p) H'
theorem cut_takeV {xs : List V} {i : Nat} : cutV xs none (some (i : Int)) = xs.take i := by rw [cut_take xs (by omega)]; simp
theorem earlier_ne {ps : List (Nat × Nat)} {n1 n2 : List (Option Int)} (J : JOK ps n1 n2) {i : Nat} (hi : i < ps.length) : ∀ q ∈ ps.take i, q.1 ≠ ps[i].1 ∧ q.2 ≠ ps[i].2 := by
  intro q hq
  obtain ⟨j, hj, e⟩ := List.mem_take_iff_getElem.mp hq
  constructor
  · intro z
    have a : (ps.map (·.1))[j]'(by rw [List.length_map]; omega) = (ps.map (·.1))[i]'(by rw [List.length_map]; omega) := by
      rw [List.getElem_map, List.getElem_map, e, z]
    have := nd_inj J.ndF a
    omega
  · intro z
    have a : (ps.map (·.2))[j]'(by rw [List.length_map]; omega) = (ps.map (·.2))[i]'(by rw [List.length_map]; omega) := by
      rw [List.getElem_map, List.getElem_map, e, z]
    have := nd_inj J.ndS a
    omega
/-- the dict of the pairs, so far -/
def PairsD (ps : List (Nat × Nat)) (kvs : List (Key × V)) : Prop := kvs.length ≤ ps.length ∧ ∀ k : Nat, valV kvs (Sum.inl (k : Int)) = (jfind ps k).map fun i => V.int (i : Nat)
theorem pairsD_nil : PairsD [] [] := ⟨Nat.le_refl _, fun _ => rfl⟩
theorem jfind_append {ps : List (Nat × Nat)} {p : Nat × Nat} (hne : ∀ q ∈ ps, q.2 ≠ p.2) (k : Nat) : jfind (ps ++ [p]) k = if k = p.2 then some p.1 else jfind ps k := by
  unfold jfind
  rw [List.find?_append]
  by_cases e : k = p.2
  · subst e
    have z : ps.find? (fun q => q.2 == p.2) = none := List.find?_eq_none.mpr fun q hq h => hne q hq (by simpa using h)
    rw [if_pos rfl, z]
    simp
  · rw [if_neg e]
    cases ps.find? (fun q => q.2 == k) with
    | some x => rfl
    | none => simp [Ne.symm e]
theorem PairsD.put {ps : List (Nat × Nat)} {kvs : List (Key × V)} {p : Nat × Nat} (h : PairsD ps kvs) (hne : ∀ q ∈ ps, q.2 ≠ p.2) : PairsD (ps ++ [p]) (putK kvs (Sum.inl (p.2 : Int)) (.int (p.1 : Nat))) := by
  refine ⟨by have := length_putK kvs (Sum.inl (p.2 : Int) : Key) (.int (p.1 : Nat)); have := h.1; rw [List.length_append]; simp; omega, fun k => ?_⟩
  rw [valV_put, jfind_append hne, h.2 k]
  by_cases e : k = p.2
  · subst e
    simp
  · rw [if_neg e, if_neg (fun z => e (by injection z with z; exact Int.ofNat_inj.mp z))]
/-! ### dict comprehensions, dicts of numbers -/
def DcQ (g : TG) (tt : TT) (tk tv : TE) (vs : List Nat) (σ : L2.St) (Q : VK) (J : It) (H1 : Hp) : Prop := ∀ D, H1 D = none → ∃ W : Nat → Nat → Hp → Prop, (∃ m, W 0 m (upd H1 D (.dK []))) ∧ ∀ i m H, W i m H →
  (J.stop i H ∧ Q (.ref D) H) ∨ (J.go i H ∧ ∃ Nx : Hp → Prop, (∀ H', Nx H' → ∃ m', m' < m ∧ W (i + 1) m' H') ∧ ∀ x H', J.yld i H x H' → g x (wipe σ vs) H' fun σ2 H2 => wipe σ2 vs = wipe σ vs ∧ tt σ2 H2 fun b H3 =>
    if b = true then tk σ2 H3 fun y H4 => tv σ2 H4 fun z H5 => ∃ kvs k, y = kV k ∧ H5 D = some (.dK kvs) ∧ kvs.length < sizeLine ∧ Nx (upd H5 D (.dK (putK kvs k z))) else Nx H3)
theorem g_dc {wi : TI} {g : TG} {tt : TT} {tk tv : TE} {vs : List Nat} {σ : L2.St} {H : Hp} {Q : VK} (h : wi σ H (DcQ g tt tk tv vs σ Q)) : tDc wi g tt tk tv vs σ H Q := h
theorem DcQ.tup {K : PySem.W.Frag} {g : TG} {tt : TT} {tk tv : TE} {vs : List Nat} {σ : L2.St} {Q : VK} {H1 : Hp} {a : Addr} {xs : List V} (I : Addr → Nat → Hp → Prop) (h0 : ∀ D, H1 D = none → I D 0 (upd H1 D (.dK [])))
    (hl : ∀ D, H1 D = none → ∀ i H, i ≤ xs.length → I D i H → SqT K H a xs)
    (hs : ∀ D, H1 D = none → ∀ (i : Nat) x H, xs[i]? = some x → I D i H → g x (wipe σ vs) H fun σ2 H2 => wipe σ2 vs = wipe σ vs ∧ tt σ2 H2 fun b H3 => if b = true then tk σ2 H3 fun y H4 => tv σ2 H4 fun z H5 => ∃ kvs k, y = kV k ∧ H5 D = some (.dK kvs) ∧ kvs.length < sizeLine ∧ I D (i + 1) (upd H5 D (.dK (putK kvs k z))) else I D (i + 1) H3)
    (hd : ∀ D, H1 D = none → ∀ H, I D xs.length H → Q (.ref D) H) : DcQ g tt tk tv vs σ Q (Itt K a) H1 :=
  fun D nD => dc_tup (I D) (h0 D nD) (hl D nD) (hs D nD) (hd D nD)
theorem g_din {ty td : TE} {σ : L2.St} {H : Hp} {Q : VK} (h : ty σ H fun y H1 => td σ H1 fun x H2 => ∃ a o, x = .ref a ∧ DGet H2 a y o ∧ Q (.bl o.isSome) H2) : tDIn ty td σ H Q := h
theorem g_dnin {ty td : TE} {σ : L2.St} {H : Hp} {Q : VK} (h : ty σ H fun y H1 => td σ H1 fun x H2 => ∃ a o, x = .ref a ∧ DGet H2 a y o ∧ Q (.bl (!o.isSome)) H2) : tDNotIn ty td σ H Q := h
theorem dget_int {H : Hp} {a : Addr} {kvs : List (Key × V)} {k : Nat} (e : H a = some (.dK kvs)) : DGet H a (.int (k : Int)) (valV kvs (Sum.inl (k : Int))) := DGet.k (k := Sum.inl (k : Int)) e
theorem dput_int {H : Hp} {a : Addr} {kvs : List (Key × V)} {k : Nat} {v : V} (e : H a = some (.dK kvs)) (h : kvs.length < sizeLine) : DPut H a (.int (k : Int)) v (upd H a (.dK (putK kvs (Sum.inl (k : Int)) v))) := DPut.k (k := Sum.inl (k : Int)) e h
theorem g_aug {i : Nat} {te : TE} {ti : V → V → Hp → VK → Prop} {D : Ends} {σ : L2.St} {H : Hp} (h : ∃ x, σ[i]? = some (some x) ∧ te σ H fun y H1 => ti x y H1 fun z H2 => D.nx (σ.set i (some z)) H2) : tAug i te ti D σ H := h
/-- a local is given a new dict, on one line -/
theorem ps_setDc {X : Cx} {n : Nat} {x : Str} {xp dp ap : Pos} {ek ev g0 walked : Expr} {cs : List Expr} {sc : Scope} {mine : List (Str × Nat)} {wi : TI} {g : TG} {tt : TT} {tk tv : TE} (calm : X.calm = true) (nd : X.N.Nodup) (at_ : X.N[n]? = some x) (loc : X.env.scope.names.lookup x = some .local)
    (sw : swapsWith (.DictComp ek ev [⟨g0, walked, cs, 0⟩] sc dp) (some (.Name x xp)) ap.line X.env = pure true) (pi : PI X g0 walked wi) (blk : BlkOk X.N X.env.scope sc mine)
    (pg : ∀ s H C cl fp, PG (X.blk s H sc (compEnvC sc cl C X.env) fp) g0 g) (pt : ∀ s H C cl fp, PTs (X.blk s H sc (compEnvC sc cl C X.env) fp) cs tt)
    (pk : ∀ s H C cl fp, PE (X.blk s H sc (compEnvC sc cl C X.env) fp) ek tk) (pv : ∀ s H C cl fp, PE (X.blk s H sc (compEnvC sc cl C X.env) fp) ev tv) (fold : ∀ u, foldedSetIterable walked X.env u = pure u := by intro _; rfl) :
    PS X (.Assign [.Name x xp] (.DictComp ek ev [⟨g0, walked, cs, 0⟩] sc dp) ap) (tAsg (tDc wi g tt tk tv (mine.map (·.2))) (gName n)) := by
  constructor
  intro pins s σ H D I w0
  have w1 : tDc wi g tt tk tv (mine.map (·.2)) σ H (fun y H1 => gName n y σ H1 D.nx) := w0
  rw [exec_Assign_Name_used _ _ _ _ sw]
  refine wpAny_bind (wpAny_standAt (wpAny_bind ?_))
  show wpAny _ X.A (do
    let _ ← comprehension (.DictComp ek ev [⟨g0, walked, cs, 0⟩] sc dp) sc X.env (firstIterPos [⟨g0, walked, cs, 0⟩] dp) newDict false (eval walked X.env) (some (assign (.Name x xp) X.env))) _ _ s
  have end_ : ∀ (B : Value) (s' : Shared), SP X pins D .next s' → wpAny (model X.prog X.w) X.A (pure Flow.next) (SP X pins D) X.xe s' := fun _ _ z => wpAny_pure z
  refine wpAny_bind (thn (dc_core (Qf := fun _ s2 => SP X pins D .next s2) calm nd I pi blk pg pt pk pv fold w1 fun B C s2 m H2 I2 q ns fp => ?_) fun _ _ z => wpAny_pure (wpAny_pure z))
  obtain ⟨p0, p1, p2, p3, p4, p5⟩ := fp
  show wpAny _ _ (assign (.Name x xp) X.env (.ref B)) _ _ _
  refine wpAny_assign_Name (store_ok2 (v := V.ref B) I2 nd at_ (.inl loc) rfl (fun s3 I3 ⟨a, but, wh⟩ => ?_) (.inr loc))
  have ne : C ≠ a := by
    cases wh with
    | inl z => rw [z]; exact p1
    | inr z => exact fun e => p4 x a z e.symm
  exact ⟨m, ns.sameBut but ne, fun h4 but4 => ⟨_, H2, I3.turned (t' := s3.toks) (fun b o hb e => (but4.2 b hb).trans e) p0 p1 p3 p4 p5, q⟩⟩
theorem swD_true {ek ev : Expr} {gs : List Comprehension} {sc : Scope} {dp xp : Pos} {x : Str} {l : Nat} {env : Env} (fn : env.scope.kind = .function) (loc : env.scope.names.lookup x = some .local) (line : (xp.line == dp.line) = true)
    (no : (sc.names.any fun q => q.1 == x && (q.2 == .local || q.2 == .cell)) = false) : swapsWith (.DictComp ek ev gs sc dp) (some (.Name x xp)) l env = pure true := by
  have k1 : env.kindOf x = some .local := loc
  have k2 : env.blockKind = .function := by
    unfold Env.blockKind
    rw [fn]; rfl
  unfold swapsWith
  simp only [k2, k1, no, Expr.pos, line]
  rfl
end WL
set_option Elab.async false
set_option linter.all false
set_option maxRecDepth 100000
set_option maxHeartbeats 4000000
namespace WL
open PySem PySem.Spec PyProof.Rows L2
/-! ### zip of a list and a tuple of one length -/
def IzM (K : PySem.W.Frag) (a b : Addr) (xs ys : List V) : It where
  go := fun i H => SqL K H a xs ∧ SqT K H b ys ∧ i < xs.length ∧ i < ys.length
  yld := fun i H v H' => ∃ T x y, v = .ref T ∧ H T = none ∧ H' = upd H T (.tup [x, y]) ∧ xs[i]? = some x ∧ ys[i]? = some y
  stop := fun i H => SqL K H a xs ∧ SqT K H b ys ∧ i = xs.length ∧ i = ys.length
def iZipM (K : PySem.W.Frag) (ta : TA) : TI := fun σ H R => ta σ H fun vs H1 => ∃ a b xs ys, vs = [.ref a, .ref b] ∧ SqL K H1 a xs ∧ SqT K H1 b ys ∧ R (IzM K a b xs ys) H1
abbrev ZMs (a b z TI TO i1 i2 : Addr) (i : Nat) (h : Heap) : Prop := (IsZip h z TI TO .none ∧ IsTupOf2 h TI (.ref i1) (.ref i2) ∧ ∃ u v, IsTupOf2 h TO u v) ∧ h.IsListIter i1 a i ∧ h.IsTupleIter i2 b i
theorem turn_zipM {P : Program} {w : World} {K : PySem.W.Frag} {elts : List Expr} {kk : Nat} {tpos : Pos} {a b z TI TO i1 i2 : Addr} (xs ys : List V) (S : ZipSep2 z TI TO i1 i2 [i1, a] [i2, b]) (na : a ≠ i1) (nb : b ≠ i2) :
    Turn P w K (.Tuple elts kk tpos) (IzM K a b xs ys) [z, TI, TO, i1, i2] z (ZMs a b z TI TO i1 i2) where
  mem := List.mem_cons_self
  obj := by
    rintro i h ⟨⟨hz, hT, u, v, hO⟩, ⟨o1, e1, _, d1⟩, ⟨o2, e2, _, d2⟩⟩ c hc
    simp only [List.mem_cons, List.not_mem_nil, or_false] at hc
    rcases hc with rfl | rfl | rfl | rfl | rfl
    · exact ⟨_, hz, fun _ q => by cases q⟩
    · exact ⟨_, hT, fun _ q => by cases q⟩
    · exact ⟨_, hO, fun _ q => by cases q⟩
    · exact ⟨o1, e1, fun _ q => by rw [d1] at q; cases q⟩
    · exact ⟨o2, e2, fun _ q => by rw [d2] at q; cases q⟩
  keep := by
    rintro i h h' ⟨⟨hz, hT, u, v, hO⟩, q1, q2⟩ k
    exact ⟨⟨k z (by simp) _ hz, k TI (by simp) _ hT, u, v, k TO (by simp) _ hO⟩, Heap.IsListIter.at q1 (fun o q => k i1 (by simp) o q), Heap.IsTupleIter.at q2 (fun o q => k i2 (by simp) o q)⟩
  item := by
    intro X hP hw hK hc i pins s σ H E I hf st hg
    subst hP; subst hw; subst hK
    obtain ⟨⟨hz, hT, u0, v0, hO⟩, q1, q2⟩ := st
    obtain ⟨sx, sy, l1, l2⟩ := hg
    obtain ⟨us, ru, pu, _⟩ := Inv.list I sx
    obtain ⟨vs, rv, pv, _⟩ := Inv.tuple I sy
    obtain ⟨u, hu, ru1⟩ := Vals.get ru (i := i) (x := xs[i]) (List.getElem?_eq_getElem l1)
    obtain ⟨v, hv, rv1⟩ := Vals.get rv (i := i) (x := ys[i]) (List.getElem?_eq_getElem l2)
    have n1 := ru.length
    have n2 := rv.length
    have hh : X.A.in1.handled = none := I.ok.hd hc
    refine wpAny_pyNext_zipD2_item S (Draws.list (A := X.A.in1) hh i1 a na us.toArray) (Draws.tuple (A := X.A.in1) hh i2 b nb vs.toArray) hz hT hO ⟨q1, pu.isList⟩ ⟨q2, pv⟩ (by simp only [List.size_toArray]; omega) (by simp only [List.size_toArray]; omega) fun x1 x2 h' tk y1 y2 z' O' st1 st2 new hsz hk => ?_
    have e1 : x1 = u := by
      have z : us[i]? = some x1 := by simpa using y1
      rw [hu] at z
      exact (Option.some.inj z).symm
    have e2 : x2 = v := by
      have z : vs[i]? = some x2 := by simpa using y2
      rw [hv] at z
      exact (Option.some.inj z).symm
    subst e1; subst e2
    have low : ∀ {c : Addr} {o : Obj}, s.heap.get? c = some o → c < s.heap.objs.size := fun e => Heap.lt_size e
    have zl := low hz
    refine ⟨_, rfl, wpAny_letOwnedTupleGo_zip (s := { s with heap := h', toks := tk }) z' fun h2 z2 but => ?_⟩
    have new2 := (but.2 s.heap.objs.size (Nat.ne_of_gt zl)).trans new
    have I1 := Inv.turnedNew (h' := h2) (ch := [z, TI, TO, i1, i2]) (T := s.heap.objs.size) (ob := .tup [xs[i], ys[i]]) (t' := tk) I
      (fun c o hb q => (but.2 c (fun z => hb (by simp [z]))).trans (hk c o (fun z => hb (by simp [z])) (fun z => hb (by simp [z])) (fun z => hb (by simp [z])) (fun z => hb (by simp [z])) q)) hf (Nat.le_refl _)
      ⟨sz (by simp), [x1, x2], .cons ru1 (.cons rv1 .nil), _, new2, rfl, 0, rfl⟩
    refine ⟨.ref s.heap.objs.size, _, I1, rfl, ⟨_, _, _, rfl, HOk.fresh I.hok (Nat.le_refl _), rfl, List.getElem?_eq_getElem l1, List.getElem?_eq_getElem l2⟩, ⟨⟨z2, ?_, x1, x2, ?_⟩, ?_, ?_⟩, fun c hc' => ?_⟩
    · exact (but.2 TI S.TIz).trans (hk TI _ S.TIz S.TITO S.TIi1 S.TIi2 hT)
    · exact (but.2 TO S.TOz).trans O'
    · exact Heap.IsListIter.at st1.1 (fun o q => (but.2 i1 (Ne.symm S.zi1)).trans q)
    · exact Heap.IsTupleIter.at st2.1 (fun o q => (but.2 i2 (Ne.symm S.zi2)).trans q)
    · have lt : c < s.heap.objs.size := by
        simp only [List.mem_cons, List.not_mem_nil, or_false] at hc'
        rcases hc' with rfl | rfl | rfl | rfl | rfl
        · exact zl
        · exact low hT
        · exact low hO
        · obtain ⟨_, e, _⟩ := q1; exact low e
        · obtain ⟨_, e, _⟩ := q2; exact low e
      rw [upd_ne (Nat.ne_of_lt lt)]
      exact (hf c hc').1
  done := by
    intro X hP hw hK hc i pins s σ H E I hf st hg
    subst hP; subst hw; subst hK
    obtain ⟨⟨hz, hT, u0, v0, hO⟩, q1, q2⟩ := st
    obtain ⟨sx, sy, l1, l2⟩ := hg
    obtain ⟨us, ru, pu, _⟩ := Inv.list I sx
    obtain ⟨vs, rv, pv, _⟩ := Inv.tuple I sy
    have n1 := ru.length
    have n2 := rv.length
    have hh : X.A.in1.handled = none := I.ok.hd hc
    refine wpAny_pyNext_zipD2_end S (Draws.list (A := X.A.in1) hh i1 a na us.toArray) (Draws.tuple (A := X.A.in1) hh i2 b nb vs.toArray) hz hT hO ⟨q1, pu.isList⟩ ⟨q2, pv⟩ (by simp only [List.size_toArray]; omega) (by simp only [List.size_toArray]; omega) (by simp only [List.size_toArray]; omega) fun h' tk hk => ⟨rfl, ?_⟩
    exact Inv.turnedL (t' := tk) (ch := [z, TI, TO, i1, i2]) I (fun c o hb q => hk c o (fun z => hb (by simp [z])) (fun z => hb (by simp [z])) (fun z => hb (by simp [z])) (fun z => hb (by simp [z])) q) hf
  self := by
    rintro A i s Q E ⟨⟨hz, _⟩, _⟩ h
    exact wpAny_pyIter_zip hz h
theorem pi_zipM {X : Cx} {e e2 : Expr} {ta : TA} {p pos tpos : Pos} {elts : List Expr} {kk : Nat} (gl : Gl X "zip") (no : X.mg "zip" = none) (ha : PA X [e, e2] ta)
    (h1 : starEach [e, e2] X.env = (false, eval e X.env) :: starEach [e2] X.env := by rfl) (h2 : (backTo pos (starEach [e2] X.env)).any (·.1) = false := by rfl) :
    PI X (.Tuple elts kk tpos) (.Call (.Name "zip" p) [e, e2] [] pos) (iZipM X.K ta) := by
  constructor
  intro pins s σ H R I w
  refine PyProof.Rows.Call_ (ld_blt I gl no PyProof.Rows.boot_zip (PyProof.Rows.callWith_type1 (thn (ha.run pos pins s σ H _ I w) ?_) h1 h2))
  rintro us s1 ⟨vs, H1, I1, r, a, b, xs, ys, rfl, sx, sy, q⟩
  obtain ⟨u1, t1, rfl, r1, r⟩ : ∃ u t, us = u :: t ∧ RelV (.ref a) u ∧ Vals [.ref b] t := by
    cases r with
    | cons r1 r2 => exact ⟨_, _, rfl, r1, r2⟩
  obtain ⟨u2, rfl, r2⟩ := Vals.one r
  cases r1
  cases r2
  obtain ⟨its, ru, pu, _⟩ := Inv.list I1 sx
  obtain ⟨jts, rv, pv, _⟩ := Inv.tuple I1 sy
  have la : a < s1.heap.objs.size := by obtain ⟨_, e, _⟩ := pu.isList; exact Heap.lt_size e
  have lb : b < s1.heap.objs.size := by obtain ⟨_, e, _⟩ := id pv; exact Heap.lt_size e
  refine zip_begins2 (begins_list a its.toArray) (begins_tuple b jts.toArray) pu.isList pv fun h' hz hT hO g1 g2 hsz hk => wpAny_pyIter_zip hz ?_
  generalize hn : s1.heap.objs.size = n at *
  have I2 := Inv.kept (t' := s1.toks) I1 hk
  have Z := PySem.W.ktu_apart n a b la lb
  have two : ∀ {c d e : Addr}, c ≠ d → c ≠ e → c ∉ [d, e] := fun x y m => by
    rcases List.mem_cons.mp m with z | m
    · exact x z
    · exact y (List.mem_singleton.mp m)
  have S : ZipSep2 (n + 4) (n + 2) (n + 3) n (n + 1) [n, a] [n + 1, b] :=
    ⟨Z.TIz, Z.TOz, Z.TITO, Z.TIi1, List.mem_cons_self, two (Ne.symm Z.i1z) (Ne.symm Z.l1z), two Z.TOi1 (Ne.symm Z.l1TO), Z.TIi2, List.mem_cons_self, two (Ne.symm Z.i2z) (Ne.symm Z.l2z), two Z.TOi2 (Ne.symm Z.l2TO), two Z.i12 (Ne.symm Z.l2i1), two (Ne.symm Z.i12) (Ne.symm Z.l1i2)⟩
  refine ⟨_, [n + 4, n + 2, n + 3, n, n + 1], _, IzM X.K a b xs ys, H1, rfl, I2, turn_zipM xs ys S Z.l1i1 Z.l2i2, ⟨⟨hz, hT, _, _, hO⟩, ⟨_, g1, rfl, rfl⟩, ⟨_, g2, rfl, rfl⟩⟩, fun c hc => ?_, q⟩
  have hle : s1.heap.objs.size ≤ c := by
    simp only [List.mem_cons, List.not_mem_nil, or_false] at hc
    rw [hn]
    rcases hc with e | e | e | e | e <;> rw [e]
    · exact Nat.le_add_right n 4
    · exact Nat.le_add_right n 2
    · exact Nat.le_add_right n 3
    · exact Nat.le_refl n
    · exact Nat.le_add_right n 1
  exact Inv.fpOk I1 hle (HOk.fresh I1.hok hle)
theorem g_zipM {K : PySem.W.Frag} {σ : L2.St} {H : Hp} {ta : TA} {R : It → Hp → Prop} (h : ta σ H fun vs H1 => ∃ a b xs ys, vs = [.ref a, .ref b] ∧ SqL K H1 a xs ∧ SqT K H1 b ys ∧ R (IzM K a b xs ys) H1) : iZipM K ta σ H R := h
theorem ForQ.zipM {K : PySem.W.Frag} {g : TG} {tb : TS} {D : Ends} {σ : L2.St} {H1 : Hp} {a b : Addr} {xs ys : List V} (len : xs.length = ys.length) (I : Nat → L2.St → Hp → Prop) (h0 : I 0 σ H1) (hq : ∀ i σ H, I i σ H → SqL K H a xs ∧ SqT K H b ys)
    (hs : ∀ (i : Nat) (x y : V) (T : Addr) (σ : L2.St) (H : Hp), xs[i]? = some x → ys[i]? = some y → I i σ H → H T = none → g (.ref T) σ (upd H T (.tup [x, y])) fun σ2 H2 => tb { D with nx := I (i + 1), ct := I (i + 1), bk := D.nx } σ2 H2) (hd : ∀ σ H, I xs.length σ H → D.nx σ H) : ForQ g tb D σ (IzM K a b xs ys) H1 := by
  refine ⟨fun i m σ H => i ≤ xs.length ∧ m = xs.length - i ∧ I i σ H, ⟨_, Nat.zero_le _, rfl, h0⟩, ?_⟩
  intro i m σ H ⟨hi, hm, hp⟩
  obtain ⟨sx, sy⟩ := hq i σ H hp
  by_cases e : i = xs.length
  · subst e
    exact Or.inl ⟨⟨sx, sy, rfl, len⟩, hd _ _ hp⟩
  · have hlt : i < xs.length := by omega
    refine Or.inr ⟨⟨sx, sy, hlt, by omega⟩, I (i + 1), fun σ' H' h => ⟨xs.length - (i + 1), by omega, by omega, rfl, h⟩, ?_⟩
    intro v H' hy
    obtain ⟨T, x, y, e1, hT, e2, hx, hy'⟩ := hy
    subst e1; subst e2
    exact hs i x y T σ H hx hy' hp hT
/-! ### joined, what it promises -/
def spJoined (DC : Addr) : Sp := fun vs H Q _ => ∃ (v u : V) (rest : List V) (c w : Int) (n1 n2 : List (Option Int)) (l1 l2 : List (Int × Int × Int)) (ps : List (Nat × Nat)), vs = v :: u :: rest ∧ DiaAt DC H v c n1 l1 ∧ DiaAt DC H u c n2 l2 ∧ Fzs H rest (ps.map pairD) ∧ ps.length ≤ 1000 ∧ JOK ps n1 n2 ∧
  DOK c n1 l1 w ∧ DOK c n2 l2 w ∧ n1.length + n2.length ≤ 16 ∧ l1.length + l2.length ≤ 60 ∧ w ≤ 1000000000 ∧ ∀ (x : Addr) (H' : Hp), H x = none → DiaAt DC H' (.ref x) c (joinN ps n1 n2) (l1 ++ jlines ps n1.length l2) → (∀ b o, H b = some o → H' b = some o) → Q (.ref x) H'
def spJoinedT (DC : Addr) : Sp := fun vs H Q _ => ∃ (v u : V) (t : Addr) (rows : List V) (c w : Int) (n1 n2 : List (Option Int)) (l1 l2 : List (Int × Int × Int)) (ps : List (Nat × Nat)), vs = [v, u, .ref t] ∧ DiaAt DC H v c n1 l1 ∧ DiaAt DC H u c n2 l2 ∧ H t = some (.tup rows) ∧ Fzs H rows (ps.map pairD) ∧ ps.length ≤ 1000 ∧ JOK ps n1 n2 ∧
  DOK c n1 l1 w ∧ DOK c n2 l2 w ∧ n1.length + n2.length ≤ 16 ∧ l1.length + l2.length ≤ 60 ∧ w ≤ 1000000000 ∧ ∀ (x : Addr) (H' : Hp), H x = none → DiaAt DC H' (.ref x) c (joinN ps n1 n2) (l1 ++ jlines ps n1.length l2) → (∀ b o, H b = some o → H' b = some o) → Q (.ref x) H'
theorem joined_star {DC : Addr} : ∀ vs H Q E, spJoined DC vs H Q E → ∃ ws rest, vs = ws ++ rest ∧ ws.length = (["one", "other"] : List Str).length ∧ rest.length ≤ sizeLine ∧ ∀ p, H p = Option.none → spJoinedT DC (ws ++ [V.ref p]) (upd H p (.tup rest)) Q E := by
  rintro vs H Q E ⟨v, u, rest, c, w, n1, n2, l1, l2, ps, rfl, h1, h2, hr, hl, J, o1, o2, h16, h60, hw, q⟩
  refine ⟨[v, u], rest, rfl, rfl, by rw [hr.length, List.length_map]; exact sz (by omega), fun p np => ?_⟩
  have up := same_up (o := .tup rest) np (H := H) (fun _ _ h => h)
  exact ⟨v, u, p, rest, c, w, n1, n2, l1, l2, ps, rfl, h1.same up, h2.same up, upd_same, hr.tk (Tk.new np), hl, J, o1, o2, h16, h60, hw, fun x H' nx d s => q x H' (none_up nx up) d fun b o h => s _ _ (up _ _ h)⟩
/-! ### the law's helpers -/
def spMixedUp : Sp := fun vs H Q _ => ∃ (m c g t : Addr) (B : Int) (xs : List Int), vs = [.ref m, .ref t] ∧ Pr m c g H H B ∧ B < 2 ^ 28 ∧ H t = some (.lst (xs.map V.int)) ∧ xs.length ≤ 100 ∧
  ∀ (p : Addr) (ys : List Int) (H' : Hp), H p = none → H' p = some (.lst (ys.map V.int)) → ys.Perm xs → Pr m c g H H' (B + 100) → Q (.ref p) H'
theorem seq_at {k : Int} {n : Nat} (h0 : 0 ≤ k) (h1 : k < n) : seqIndex? k n = some k.toNat := by
  have e : (if k < 0 then k + (n : Int) else k) = k := if_neg (by omega)
  unfold seqIndex?
  simp only [e]
  rw [if_pos (by simp; omega)]
theorem erase_perm {α : Type} {xs : List α} {k : Nat} (h : k < xs.length) : (xs[k] :: xs.eraseIdx k).Perm xs := by
  rw [List.eraseIdx_eq_take_drop_succ]
  refine List.perm_middle.symm.trans ?_
  rw [← List.drop_eq_getElem_cons h, List.take_append_drop]
theorem g_popAt {p : Addr} {xs : List V} {k : Int} {y : V} {H : Hp} {Q : VK} (h : H p = some (.lst xs)) (h0 : 0 ≤ k) (h1 : k < xs.length) (h2 : k < 2 ^ 63) (e : xs[k.toNat]? = some y) (q : Q y (upd H p (.lst (xs.eraseIdx k.toNat)))) : rPopAt (.ref p) [.int k] H Q :=
  ⟨p, xs, k, k.toNat, y, rfl, rfl, h, by omega, h2, seq_at h0 h1, e, q⟩
theorem erase_map {α β : Type} (f : α → β) : ∀ (xs : List α) (k : Nat), (xs.map f).eraseIdx k = (xs.eraseIdx k).map f
  | [], _ => rfl
  | _ :: _, 0 => rfl
  | x :: xs, k + 1 => by rw [List.map_cons, List.eraseIdx_cons_succ, List.eraseIdx_cons_succ, List.map_cons, erase_map f xs k]
def joinD (b1 b2 : Book) (ps : List (Nat × Nat)) : PyData := .tuple [.int b1.c, notesD (joinN ps b1.notes b2.notes), linesD (b1.lines ++ jlines ps b1.notes.length b2.lines)]
def spDue54 : Sp := fun vs H Q _ => ∃ (v u : V) (t : Addr) (b1 b2 : Book) (w : Int) (ps : List (Nat × Nat)) (rows : List V), vs = [v, u, .ref t] ∧ Fz H v b1.d ∧ Fz H u b2.d ∧ H t = some (.lst rows) ∧ Fzs H rows (ps.map pairD) ∧ JOK ps b1.notes b2.notes ∧ b1.notes.length ≤ 100 ∧ ps.length ≤ 100 ∧ DOK b2.c b2.notes b2.lines w ∧ b1.lines.length ≤ 100 ∧ b2.lines.length ≤ 100 ∧
  ∀ (x : V) (H' : Hp), Fz H' x (joinD b1 b2 ps) → (∀ b o, H b = some o → H' b = some o) → Q x H'
def NamesD (ps : List (Nat × Nat)) (n1 k : Nat) (kvs : List (Key × V)) : Prop := kvs.length ≤ ps.length + k ∧ ∀ j : Nat, valV kvs (Sum.inl (j : Int)) = if j < k then some (V.int (jnum ps n1 j : Nat)) else (jfind ps j).map fun i => V.int (i : Nat)
theorem NamesD.start {ps : List (Nat × Nat)} {n1 : Nat} {kvs : List (Key × V)} (h : PairsD ps kvs) : NamesD ps n1 0 kvs := ⟨h.1, fun j => by rw [if_neg (Nat.not_lt_zero j)]; exact h.2 j⟩
theorem NamesD.skip {ps : List (Nat × Nat)} {n1 k i : Nat} {kvs : List (Key × V)} (h : NamesD ps n1 k kvs) (e : jfind ps k = some i) : NamesD ps n1 (k + 1) kvs := by
  refine ⟨Nat.le_succ_of_le h.1, fun j => ?_⟩
  rw [h.2 j]
  by_cases q : j = k
  · subst q
    rw [if_neg (Nat.lt_irrefl j), if_pos (Nat.lt_succ_self j), e]
    unfold jnum
    rw [e]; rfl
  · by_cases q2 : j < k
    · rw [if_pos q2, if_pos (by omega)]
    · rw [if_neg q2, if_neg (by omega)]
theorem NamesD.put {ps : List (Nat × Nat)} {n1 k : Nat} {kvs : List (Key × V)} (h : NamesD ps n1 k kvs) : NamesD ps n1 (k + 1) (putK kvs (Sum.inl (k : Int)) (.int (jnum ps n1 k : Nat))) := by
  refine ⟨by have := length_putK kvs (Sum.inl (k : Int) : Key) (.int (jnum ps n1 k : Nat)); have := h.1; omega, fun j => ?_⟩
  rw [valV_put, h.2 j]
  by_cases q : j = k
  · subst q
    rw [if_pos rfl, if_pos (Nat.lt_succ_self j)]
  · rw [if_neg (fun z => q (by injection z with z; exact Int.ofNat_inj.mp z))]
    by_cases q2 : j < k
    · rw [if_pos q2, if_pos (by omega)]
    · rw [if_neg q2, if_neg (by omega)]
theorem NamesD.get {ps : List (Nat × Nat)} {n1 m : Nat} {kvs : List (Key × V)} (h : NamesD ps n1 m kvs) {H : Hp} {a : Addr} (e : H a = some (.dK kvs)) {i : Int} (h0 : 0 ≤ i) (h1 : i < m) : DGet H a (.int i) (some (.int (jnum ps n1 i.toNat : Nat))) := by
  have z := dget_int (k := i.toNat) e
  rw [h.2 i.toNat, if_pos (by omega), show ((i.toNat : Nat) : Int) = i by omega] at z
  exact z
/-! ### pairs drawn -/
theorem ForQ.zipN {K : PySem.W.Frag} {g : TG} {tb : TS} {D : Ends} {σ : L2.St} {H1 : Hp} {a b : Addr} {xs ys : List V} (I : Nat → L2.St → Hp → Prop) (h0 : I 0 σ H1) (hq : ∀ i σ H, I i σ H → SqL K H a xs ∧ SqL K H b ys)
    (hs : ∀ (i : Nat) (x y : V) (T : Addr) (σ : L2.St) (H : Hp), xs[i]? = some x → ys[i]? = some y → I i σ H → H T = none → g (.ref T) σ (upd H T (.tup [x, y])) fun σ2 H2 => tb { D with nx := I (i + 1), ct := I (i + 1), bk := D.nx } σ2 H2) (hd : ∀ i σ H, I i σ H → D.nx σ H) : ForQ g tb D σ (Itz K a b) H1 := by
  refine ⟨fun i m σ H => i ≤ xs.length ∧ m = xs.length - i ∧ I i σ H, ⟨_, Nat.zero_le _, rfl, h0⟩, ?_⟩
  intro i m σ H ⟨hi, hm, hp⟩
  obtain ⟨sx, sy⟩ := hq i σ H hp
  rcases Nat.lt_or_ge i xs.length with h1 | h1
  · rcases Nat.lt_or_ge i ys.length with h2 | h2
    · refine Or.inr ⟨⟨xs, ys, xs[i], ys[i], sx, sy, List.getElem?_eq_getElem h1, List.getElem?_eq_getElem h2⟩, I (i + 1), fun σ' H' h => ⟨xs.length - (i + 1), by omega, by omega, rfl, h⟩, ?_⟩
      rintro v H' ⟨T, x, y, rfl, hT, rfl, hx, hy⟩
      exact hs i x y T σ H (hx xs sx) (hy ys sy) hp hT
    · exact Or.inl ⟨⟨xs, ys, sx, sy, Or.inr h2⟩, hd i _ _ hp⟩
  · exact Or.inl ⟨⟨xs, ys, sx, sy, Or.inl h1⟩, hd i _ _ hp⟩
theorem g_lstRg {te : L2.St → Hp → (Int → Int → Hp → Prop) → Prop} {σ : L2.St} {H : Hp} {Q : VK} (h : te σ H fun a b H1 => RgOk a b ∧ ∀ q, H1 q = none → Q (.ref q) (upd H1 q (.lst (rgV a b)))) : tLstRg te σ H Q := h
theorem g_rg1 {ta : TE} {σ : L2.St} {H : Hp} {R : Int → Int → Hp → Prop} (h : ta σ H fun x H1 => ∃ n, x = V.int n ∧ R 0 n H1) : tRg1 ta σ H R := h
theorem rgV_ints (n : Nat) : rgV 0 (n : Int) = (((List.range n).map fun i => ((i : Nat) : Int))).map V.int := by
  unfold rgV
  rw [show ((n : Int) - 0).toNat = n by omega, List.map_map]
  exact List.map_congr_left fun i _ => by simp
/-- an arrangement of the numbers below n -/
theorem perm_nats {ys : List Int} {n : Nat} (h : ys.Perm ((List.range n).map fun i => ((i : Nat) : Int))) : ∃ A : List Nat, ys = A.map (fun i => ((i : Nat) : Int)) ∧ A.Nodup ∧ (∀ i ∈ A, i < n) ∧ A.length = n := by
  have p : (ys.map Int.toNat).Perm (List.range n) := by
    have z := h.map Int.toNat
    rw [List.map_map] at z
    have e : (List.range n).map (Int.toNat ∘ fun i => ((i : Nat) : Int)) = List.range n := by
      conv => rhs; rw [← List.map_id (List.range n)]
      exact List.map_congr_left fun i _ => rfl
    rw [e] at z
    exact z
  refine ⟨ys.map Int.toNat, ?_, p.nodup_iff.mpr List.nodup_range, fun i hi => List.mem_range.mp (p.mem_iff.mp hi), by rw [p.length_eq, List.length_range]⟩
  rw [List.map_map]
  conv => lhs; rw [← List.map_id ys]
  refine List.map_congr_left fun y hy => ?_
  obtain ⟨i, _, rfl⟩ := List.mem_map.mp (h.mem_iff.mp hy)
  rfl
def PFit (N1 N2 : List (Option Int)) (p : Nat × Nat) : Prop := N1.getD p.1 none = none ∨ N2.getD p.2 none = none ∨ N1.getD p.1 none = N2.getD p.2 none
theorem zip_fst : ∀ (A B : List Nat), ((A.zip B).map (·.1)).Sublist A
  | [], _ => by simp
  | _ :: _, [] => by simp
  | a :: A, b :: B => by rw [List.zip_cons_cons, List.map_cons]; exact (zip_fst A B).cons_cons a
theorem zip_snd : ∀ (A B : List Nat), ((A.zip B).map (·.2)).Sublist B
  | [], _ => by simp
  | _ :: _, [] => by simp
  | a :: A, b :: B => by rw [List.zip_cons_cons, List.map_cons]; exact (zip_snd A B).cons_cons b
theorem jok_of {A B : List Nat} {N1 N2 : List (Option Int)} {ps : List (Nat × Nat)} (hA : A.Nodup) (hB : B.Nodup) (lA : ∀ i ∈ A, i < N1.length) (lB : ∀ i ∈ B, i < N2.length) (s : ps.Sublist (A.zip B)) (f : ∀ p ∈ ps, PFit N1 N2 p) : JOK ps N1 N2 := by
  have m : ∀ p ∈ ps, p.1 ∈ A ∧ p.2 ∈ B := fun p hp => List.of_mem_zip (s.subset hp)
  have s1 : (ps.map (·.1)).Sublist A := (s.map (·.1)).trans (zip_fst A B)
  have s2 : (ps.map (·.2)).Sublist B := (s.map (·.2)).trans (zip_snd A B)
  exact ⟨fun p hp => lA _ (m p hp).1, fun p hp => lB _ (m p hp).2, s1.nodup hA, s2.nodup hB, f⟩
theorem JOK.take {ps : List (Nat × Nat)} {N1 N2 : List (Option Int)} (J : JOK ps N1 N2) (k : Nat) : JOK (ps.take k) N1 N2 := by
  have s := List.take_sublist k ps
  exact ⟨fun p hp => J.fst p (s.subset hp), fun p hp => J.snd p (s.subset hp), (s.map (·.1)).nodup J.ndF, (s.map (·.2)).nodup J.ndS, fun p hp => J.fit p (s.subset hp)⟩
def spPairs54 : Sp := fun vs H Q _ => ∃ (m c g : Addr) (B : Int) (v u : V) (b1 b2 : Book), vs = [.ref m, v, u] ∧ Pr m c g H H B ∧ B < 2 ^ 27 ∧ Fz H v b1.d ∧ Fz H u b2.d ∧ b1.notes.length ≤ 100 ∧ b2.notes.length ≤ 100 ∧
  ∀ (p : Addr) (rows : List V) (ps : List (Nat × Nat)) (H' : Hp), H p = none → H' p = some (.lst rows) → Fzs H' rows (ps.map pairD) → ps.length ≤ 3 → JOK ps b1.notes b2.notes → Pr m c g H H' (B + 300) → Q (.ref p) H'
theorem pl_pairs (ps : List (Nat × Nat)) : pl 2 (.list (ps.map pairD)) := by
  show ∀ d ∈ ps.map pairD, pl 1 d
  intro d hd
  obtain ⟨p, _, rfl⟩ := List.mem_map.mp hd
  simp [pairD, pl]
theorem eqv_nilPairs (ps : List (Nat × Nat)) : (PyData.list (ps.map pairD)).eqv (.list []) = decide (ps = []) := by
  have e := pl_eqv (pl_pairs ps) (pl_mono' pl_nilL (by decide : 1 ≤ 2))
  by_cases h : ps = []
  · subst h
    rfl
  · rw [decide_eq_false h]
    cases q : (PyData.list (ps.map pairD)).eqv (.list []) with
    | false => rfl
    | true =>
      have z := e.mp q
      injection z with z
      exact absurd (List.map_eq_nil_iff.mp z) h
theorem pl_joinD (b1 b2 : Book) (ps : List (Nat × Nat)) : pl 3 (joinD b1 b2 ps) := by
  unfold joinD
  show ∀ d ∈ _, pl 2 d
  intro d hd
  simp only [List.mem_cons, List.not_mem_nil, or_false] at hd
  rcases hd with rfl | rfl | rfl
  · simp [pl]
  · exact pl_mono (pl_notes _)
  · exact pl_lines _
theorem joinD_eqv (b1 b2 : Book) (ps : List (Nat × Nat)) : (joinD b1 b2 ps).eqv (joinD b1 b2 ps) = true := (pl_eqv (pl_joinD b1 b2 ps) (pl_joinD b1 b2 ps)).mpr rfl
/-! ### defs with a star, by their names -/
structure HasR (P : Program) (w : World) (K : PySem.W.Frag) (mg : Str → Option Value) (base : Heap) (CX : CXT) (k : Nat) (x : Str) (sp : Sp) : Prop where
  ex : ∃ f, mg x = some (.ref f) ∧ PySem.W.keepIn K (.ref f) = true ∧ FnR P w K mg base CX k f sp
def tCallR (sp : Sp) (E : XK) (t : TA) : TE := fun σ H Q => t σ H fun vs H1 => sp vs H1 Q E
theorem g_callR {sp : Sp} {E : XK} {t : TA} {σ : L2.St} {H : Hp} {Q : VK} (h : t σ H fun vs H1 => sp vs H1 Q E) : tCallR sp E t σ H Q := h
theorem pe_hasR {X : Cx} {CX : CXT} {k j : Nat} {x : Str} {sp : Sp} {E : XK} {e : Expr} {es : List Expr} {t : TA} {p pos : Pos} (F : HasR X.prog X.w X.K X.mg X.base CX k x sp) (room : Room j X.A) (le : k ≤ j) (pass : Passes CX X E) (ha : PA X (e :: es) t) (gl : Gl X x := by rfl) (db : (x == ("__debug__" : Str)) = false := by decide)
    (h1 : starEach (e :: es) X.env = (false, eval e X.env) :: starEach es X.env := by rfl) (h2 : (backTo pos (starEach es X.env)).any (·.1) = false := by rfl) : PE X (.Call (.Name x p) (e :: es) [] pos) (tCallR sp E t) := by
  obtain ⟨f, m, kp, F⟩ := F.ex
  constructor
  intro pins s σ H Q I w0
  refine wpAny_Call_Name_kw (ld_glob I gl m ?_ db)
  refine PySem.W.callWith_K (h₀ := X.base) I.ok.mod.kin kp (thn (ha.run pos pins s σ H _ I w0) ?_) h1 h2
  rintro us s1 ⟨vs, H1, I1, r, q⟩
  exact ⟨I1.kIn, wpAny_call (run_fnR F (room.mono le) pass I1 r q)⟩
theorem len1 {α : Type} {xs : List α} (h : xs.length = 1) : ∃ a, xs = [a] := by
  match xs, h with
  | [a], _ => exact ⟨a, rfl⟩
theorem len2 {α : Type} {xs : List α} (h : xs.length = 2) : ∃ a b, xs = [a, b] := by
  match xs, h with
  | [a, b], _ => exact ⟨a, b, rfl⟩
theorem len3 {α : Type} {xs : List α} (h : xs.length = 3) : ∃ a b c, xs = [a, b, c] := by
  match xs, h with
  | [a, b, c], _ => exact ⟨a, b, c, rfl⟩
theorem dec_len {n k : Nat} : decide (V.int (n : Int) = V.int (k : Int)) = decide (n = k) := by
  by_cases e : n = k
  · rw [e]; simp
  · rw [decide_eq_false e, decide_eq_false (fun z => by injection z with z; exact e (Int.ofNat_inj.mp z))]
end WL
set_option Elab.async false
set_option linter.all false
set_option maxRecDepth 100000
set_option maxHeartbeats 4000000
namespace WL
open PySem PySem.Spec PyProof.Rows L2
/-! ### exceptions of two fields -/
theorem look3 {f1 f2 : Str} {a b c : Value} (n1 : f1 ≠ ("self" : Str)) (n2 : f2 ≠ ("self" : Str)) (n12 : f1 ≠ f2) : ([(("self" : Str), a), (f1, b), (f2, c)].reverse.lookup ("self" : Str) = some a) ∧ ([(("self" : Str), a), (f1, b), (f2, c)].reverse.lookup f1 = some b) ∧ ([(("self" : Str), a), (f1, b), (f2, c)].reverse.lookup f2 = some c) := by
  have e1 : (("self" : Str) == f2) = false := beq_eq_false_iff_ne.mpr n2.symm
  have e2 : (("self" : Str) == f1) = false := beq_eq_false_iff_ne.mpr n1.symm
  have e3 : (f1 == f2) = false := beq_eq_false_iff_ne.mpr n12
  refine ⟨?_, ?_, ?_⟩
  · show List.lookup ("self" : Str) [(f2, c), (f1, b), (("self" : Str), a)] = some a
    rw [List.lookup_cons, e1, List.lookup_cons, e2]
    simp [List.lookup]
  · show List.lookup f1 [(f2, c), (f1, b), (("self" : Str), a)] = some b
    rw [List.lookup_cons, e3, List.lookup_cons, beq_self_eq_true]
  · show List.lookup f2 [(f2, c), (f1, b), (("self" : Str), a)] = some c
    rw [List.lookup_cons, beq_self_eq_true]
section
variable {prog : Program} {w : World} {A : Around} {E : Value → Shared → Prop} {K : PySem.W.Frag} {mg : Str → Option Value} {C fI : Addr} {fd : FuncData} {h : Heap} {g : Array GenState} {d : Drawn} {t : Nat} {os : OsState}
theorem ex_init2 {x t0 : Addr} {v1 v2 : Value} {f1 f2 : Str} {mb : Str → Option Value} {R : Result → Shared → Prop} (T : ExT prog K mg [f1, f2] C fI) (J : ExI prog K [f1, f2] C fI fd) (X : K.In h) (G : h.Ns mainGlobals mg) (B : h.Ns builtinsNs mb) (bb : ∀ x : Str, x ≠ "__name__" → mb x = bootBuiltins x) (lim : h.NoLimit) (room : A.depth < recursionLimit)
    (hx : h.get? x = some (HandSPX.excO C t0)) (hxK : K.lookup x = none) (d1 : (f1 == ("__debug__" : Str)) = false) (d2 : (f2 == ("__debug__" : Str)) = false) (n1 : f1 ≠ ("self" : Str)) (n2 : f2 ≠ ("self" : Str)) (n12 : f1 ≠ f2)
    (hb : ∀ s : Shared, K.In s.heap → BindsTo s fd ⟨[.ref x, v1, v2], []⟩ [("self", .ref x), (f1, v1), (f2, v2)])
    (hq : ∀ h' t' dx, (∀ b o, b ≠ x → h.get? b = some o → h'.get? b = some o) → h.objs.size ≤ dx → dx ≠ x → ExAt h' x C dx (fun y => if y = f2 then some v2 else if y = f1 then some v1 else none) → R (.ok (.ret .none)) ⟨h', g, d, t', os⟩) :
    codeAny (model prog w) A (.call (.ref fI) ⟨[.ref x, v1, v2], []⟩) R ⟨h, g, d, t, os⟩ := by
  obtain ⟨oc, od, osl, lk⟩ := J.at_
  obtain ⟨msg, k, q, qs, hbody, hlen, hpos⟩ := J.body
  have ok := J.ok
  unfold scOk at ok
  obtain ⟨o1, ok⟩ := He.ba ok
  obtain ⟨_, ok⟩ := He.ba ok
  obtain ⟨_, ok⟩ := He.ba ok
  obtain ⟨o4, o5⟩ := He.ba ok
  have ls : fd.scope.names.lookup ("self" : Str) = some .local := of_decide_eq_true o1
  have m1 : f1 ∈ [f1, f2] := List.mem_cons_self
  have m2 : f2 ∈ [f1, f2] := List.mem_cons_of_mem _ List.mem_cons_self
  have lf1 : fd.scope.names.lookup f1 = some .local := of_decide_eq_true (List.all_eq_true.mp o4 f1 m1)
  have lf2 : fd.scope.names.lookup f2 = some .local := of_decide_eq_true (List.all_eq_true.mp o4 f2 m2)
  match qs, hlen with
  | [q1, q2], _ =>
    have lk3 := look3 (a := Value.ref x) (b := v1) (c := v2) n1 n2 n12
    refine ks_codeAny_call_defAt (binds := [("self", .ref x), (f1, v1), (f2, v2)]) room (X _ _ lk) rfl lim (PySem.W.codeRec_of X J.rec_) hbody (hb _ X) (fun y hy => of_decide_eq_true (List.all_eq_true.mp o5 y hy)) (fun y hy => ?_) ?_ J.co J.gen J.kind
    · rcases List.mem_cons.mp hy with rfl | hy
      · exact ls
      · rcases List.mem_cons.mp hy with rfl | hy
        · exact lf1
        · rw [List.mem_singleton.mp hy]
          exact lf2
    · intro h0 hn0 k0
      have Lx : h.objs.size ≠ x := Nat.ne_of_gt (Heap.lt_size hx)
      refine ks_wpAt_execs_cons (sup_step T J (X.keeps k0) (G.keeps k0) (B.keeps k0) bb hpos hn0 lk3.1 (k0 _ _ hx) ?_)
      intro h1 t1 tt k1 hx1
      have kK : ∀ b o, K.lookup b = some o → b ≠ x := fun b o e z => by rw [z, hxK] at e; cases e
      have X1 : K.In h1 := fun b o e => k1 b o (kK b o e) (k0 _ _ (X b o e))
      obtain ⟨oL, es, ep, hoL, r1, r2⟩ := hn0
      have hoL1 := k1 _ _ Lx hoL
      have hn1 : h1.Ns h.objs.size _ := ⟨oL, es, ep, hoL1, r1, r2⟩
      refine wpAt_of_wpAny (wpAny_execs_cons (fld_first T m1 X1 J.kind ls lf1 d1 hn1 lk3.1 lk3.2.1 hx1 ?_))
      intro h2 t2 dx k2 dn dne ex
      have X2 : K.In h2 := fun b o e => k2 b o (kK b o e) (X1 b o e)
      have hn2 : h2.Ns h.objs.size _ := ⟨oL, es, ep, k2 _ _ Lx hoL1, r1, r2⟩
      have hsz : h.objs.size ≤ h1.objs.size := Nat.le_of_lt (Heap.lt_size hoL1)
      have hi : Within (fun y : Str => if y = f1 then some v1 else none) [f1] := fun y hy => by
        by_cases e : y = f1
        · rw [e]; exact List.mem_cons_self
        · exact absurd (if_neg e) hy
      refine wpAny_execs_cons (fld_next T m2 X2 J.kind ls lf2 d2 hn2 lk3.1 lk3.2.2 ex hi (by simp) ?_)
      intro h3 t3 k3 ex3
      refine wpAny_execs_nil (hq h3 t3 dx (fun b o hb e => ?_) (Nat.le_trans hsz dn) dne ex3)
      have e2 := k2 b o hb (k1 b o hb (k0 b o e))
      by_cases z : b = dx
      · have lt := Heap.lt_size e
        rw [z] at lt
        exact absurd (Nat.lt_of_lt_of_le lt (Nat.le_trans hsz dn)) (Nat.lt_irrefl _)
      · exact k3 b o z e2
end
section
variable {X : Cx} {f1 f2 : Str} {C fI : Addr} {fd : FuncData}
def tMkEx2 (C : Addr) (f1 f2 : Str) (ta : TA) : L2.St → Hp → XK → Prop := fun σ H Q => ta σ H fun vs H1 => ∃ v u, vs = [v, u] ∧ ∀ d, H1 d = none → Q (.ref C) (some d) (upd H1 d (.xd [(f1, v), (f2, u)]))
theorem g_mkex2 {ta : TA} {σ : L2.St} {H : Hp} {Q : XK} (h : ta σ H fun vs H1 => ∃ v u, vs = [v, u] ∧ ∀ (d : Addr), H1 d = none → Q (.ref C) (some d) (upd H1 d (.xd [(f1, v), (f2, u)]))) : tMkEx2 C f1 f2 ta σ H Q := h
theorem relO_two {v u : V} {a b : Value} (r1 : RelV v a) (r2 : RelV u b) (n12 : f1 ≠ f2) (y : Str) : RelO ([(f1, v), (f2, u)].lookup y) (if y = f2 then some b else if y = f1 then some a else none) := by
  by_cases e1 : y = f1
  · subst e1
    rw [if_neg n12, if_pos rfl, List.lookup_cons, beq_self_eq_true]
    exact r1
  · rw [if_neg e1, List.lookup_cons, beq_eq_false_iff_ne.mpr e1]
    by_cases e2 : y = f2
    · subst e2
      rw [if_pos rfl]
      show RelO (List.lookup y [(y, u)]) _
      rw [List.lookup_cons, beq_self_eq_true]
      exact r2
    · rw [if_neg e2]
      show RelO (List.lookup y [(f2, u)]) _
      rw [List.lookup_cons, beq_eq_false_iff_ne.mpr e2]
      exact True.intro
theorem Vals.two' {v u : V} {us : List Value} (h : Vals [v, u] us) : ∃ a b, us = [a, b] ∧ RelV v a ∧ RelV u b := by
  cases h with
  | cons r1 h =>
    cases h with
    | cons r2 h =>
      cases h
      exact ⟨_, _, rfl, r1, r2⟩
theorem pmk_ex2 {x : Str} {e1 e2 : Expr} {ta : TA} {p pos : Pos} {k : Nat} (T : ExT X.prog X.K X.mg [f1, f2] C fI) (J : ExI X.prog X.K [f1, f2] C fI fd) (hr : Room k X.A) (gC : X.mg x = some (.ref C)) (d1 : (f1 == ("__debug__" : Str)) = false) (d2 : (f2 == ("__debug__" : Str)) = false) (n1 : f1 ≠ ("self" : Str)) (n2 : f2 ≠ ("self" : Str)) (n12 : f1 ≠ f2)
    (hb : ∀ (s : Shared) (u v1 v2 : Value), X.K.In s.heap → BindsTo s fd ⟨[u, v1, v2], []⟩ [(("self" : Str), u), (f1, v1), (f2, v2)]) (ha : PA X [e1, e2] ta) (hg : Gl X x := by rfl) (hd : (x == ("__debug__" : Str)) = false := by decide)
    (h1 : starEach [e1, e2] X.env = (false, eval e1 X.env) :: starEach [e2] X.env := by rfl) (h2 : (backTo pos (starEach [e2] X.env)).any (·.1) = false := by rfl) :
    PMk X (.Call (.Name x p) [e1, e2] [] pos) (tMkEx2 C f1 f2 ta) := by
  intro pins s σ H Q I h
  refine wpAny_Call_Name_kw (ld_glob I hg gC ?_ hd)
  refine PySem.W.callWith_K (h₀ := X.base) I.ok.mod.kin T.kC (thn (ha.run pos pins s σ H _ I h) ?_) h1 h2
  rintro us s1 ⟨vs, H1, I1, r1, v, v', ev, q1⟩
  subst ev
  refine ⟨I1.kIn, ?_⟩
  obtain ⟨u, u', rfl, ru, ru'⟩ := Vals.two' r1
  obtain ⟨nm, qn, N, bs, bm, sn, sub, ab, col, dd, k0, k1, k2, k3, k5, hC, hbm⟩ := T.cls
  have lim := I1.nolimit
  have glo := I1.ok.mod.glob.keeps I1.bk
  obtain ⟨mb, bl, bb⟩ := I1.ok.mod.blt
  have bl' := bl.keeps I1.bk
  have XK := I1.kIn
  have fresh : ∀ b : Addr, s1.heap.objs.size ≤ b → H1 b = none := fun b hb => I1.hok.fresh hb
  obtain ⟨hp, g, dr, tk, os⟩ := s1
  show wpAny _ _ (call (.ref C) [u, u']) _ _ _
  have up : ∀ b o, hp.get? b = some o → ((hp.push (PySem.W.kdv_tup [u, u'])).push (HandSPX.excO C hp.objs.size)).get? b = some o := fun b o e => Heap.get?_push_of_some _ (Heap.get?_push_of_some _ e)
  have at1 : ((hp.push (PySem.W.kdv_tup [u, u'])).push (HandSPX.excO C hp.objs.size)).get? (hp.objs.size + 1) = some (HandSPX.excO C hp.objs.size) := by heap_get
  have nK : X.K.lookup (hp.objs.size + 1) = none := by
    cases e : X.K.lookup (hp.objs.size + 1) with
    | none => rfl
    | some o => exact absurd (Nat.lt_of_succ_lt (Heap.lt_size (XK _ _ e))) (Nat.lt_irrefl _)
  refine wpAny_call (HandSPX.call_own F.excBase_ValueError (fun Y => HandSPX.refsVE_contains Y bm hbm) (XK _ _ hC) (PySem.W.looks_findIn XK T.iC) (fun self => PySem.W.bind_fn XK self T.tI) (show 2 ≤ sizeLine by decide) ?_)
  refine ex_init2 T J (XK.keeps up) (glo.keeps up) (bl'.keeps up) bb (lim.keeps up) ?_ at1 nK d1 d2 n1 n2 n12 (fun s hs => hb s _ _ _ hs) ?_
  · have := hr.dp
    rw [make_depth]
    omega
  intro h' t' dx kp dn dne ex
  refine ⟨rfl, ?_⟩
  show MkP X pins σ Q (.ref (hp.objs.size + 1)) _
  obtain ⟨⟨t1, he⟩, hns⟩ := ex
  obtain ⟨G', g1, g2⟩ := restrict h' fun b => decide (b ≠ hp.objs.size + 1)
  have gk : ∀ b, b ≠ hp.objs.size + 1 → G'.get? b = h'.get? b := fun b hb => g1 b (decide_eq_true hb)
  have ge : G'.get? (hp.objs.size + 1) = none := g2 _ (by simp)
  have old : ∀ b o, hp.get? b = some o → G'.get? b = some o := fun b o e => by
    have nb : b ≠ hp.objs.size + 1 := Nat.ne_of_lt (Nat.lt_succ_of_lt (Heap.lt_size e))
    rw [gk b nb]
    exact kp b o nb (up b o e)
  have dsz : hp.objs.size ≤ dx := by
    have e : hp.objs.size + 1 + 1 ≤ dx := by
      have z := dn
      rw [Heap.size_push, Heap.size_push] at z
      exact z
    exact Nat.le_trans (Nat.le_trans (Nat.le_succ _) (Nat.le_succ _)) e
  have ob : ObjOk X.prog X.w (upd H1 dx (.xd [(f1, v), (f2, v')])) G' dx (.xd [(f1, v), (f2, v')]) := ⟨_, hns.at (fun o e => (gk dx dne).trans e), fun y => relO_two ru ru' n12 y⟩
  have Jv : Inv X pins σ (upd H1 dx (.xd [(f1, v), (f2, v')])) ⟨G', g, dr, t', os⟩ := I1.laid (t' := t') old dsz ob
  refine ⟨hp.objs.size + 1, _, _, ⟨G', g, dr, t', os⟩, _, .ref C, some dx, rfl, Jv, fun b o e => ?_, ge, he, ⟨rfl, rfl⟩, rfl, rfl, ?_, rfl, Jv.bare, raises_own T.exC T.tyC, q1 dx (fresh dx dsz)⟩
  · by_cases hb : b = hp.objs.size + 1
    · have e' : G'.get? b = some o := e
      rw [hb, ge] at e'
      cases e'
    · exact (gk b hb).symm.trans e
  · rw [upd_ne (Ne.symm dne)]
    exact fresh _ (Nat.le_succ _)
end
/-- such a class for its callers: part, and another field -/
structure EvD (P : Program) (K : PySem.W.Frag) (mg : Str → Option Value) (x f1 f2 : Str) (C : Addr) : Prop where
  at_ : mg x = some (.ref C)
  ex : ∃ fI fd, ExT P K mg [f1, f2] C fI ∧ ExI P K [f1, f2] C fI fd ∧ ∀ (s : Shared) (u v1 v2 : Value), K.In s.heap → BindsTo s fd ⟨[u, v1, v2], []⟩ [("self", u), (f1, v1), (f2, v2)]
end WL
set_option Elab.async false
set_option linter.all false
set_option maxRecDepth 100000
set_option maxHeartbeats 4000000
namespace WL
open PySem PySem.Spec PyProof.Rows L2
/-! ### texts of numbers -/
def numS (i : Int) : Str := Str.ofString (toString i)
theorem tl_numN (n : Nat) : TL.tl (numS (n : Int)) = TL.numL n := TL.tl_num n
theorem tl_numNeg (n : Nat) : TL.tl (numS (-((n : Int) + 1))) = 45 :: TL.numL (n + 1) := by
  have e : numS (-((n : Int) + 1)) = Str.ofString ("-" ++ toString (((n + 1 : Nat) : Int))) := by
    unfold numS
    rw [show -((n : Int) + 1) = Int.negSucc n by omega]
    rfl
  rw [e, TL.tl_ofString, String.toList_append, List.map_append, ← TL.tl_ofString, ← TL.tl_ofString, TL.tl_num]
  rfl
theorem num_cases (i : Int) : (∃ n : Nat, i = n) ∨ ∃ n : Nat, i = -((n : Int) + 1) := by
  rcases (by omega : i < 0 ∨ 0 ≤ i) with h | h
  · exact Or.inr ⟨(-i - 1).toNat, by omega⟩
  · exact Or.inl ⟨i.toNat, by omega⟩
theorem num_free {i : Int} {s : Nat} (h : s < 45 ∨ 57 < s) : s ∉ TL.tl (numS i) := by
  rcases num_cases i with ⟨n, rfl⟩ | ⟨n, rfl⟩
  · rw [tl_numN]
    exact TL.numL_free (by omega)
  · rw [tl_numNeg]
    intro hm
    rcases List.mem_cons.mp hm with z | z
    · omega
    · exact TL.numL_free (by omega) z
theorem num_len {i : Int} (h : -10000000000 < i ∧ i < 10000000000) : (numS i).length ≤ 11 := by
  rcases num_cases i with ⟨n, rfl⟩ | ⟨n, rfl⟩
  · rw [TL.len_tl, tl_numN]
    have := TL.numL_len (n := n) (k := 10) (by decide) (by omega)
    omega
  · rw [TL.len_tl, tl_numNeg, List.length_cons]
    have := TL.numL_len (n := n + 1) (k := 10) (by decide) (by omega)
    omega
theorem num_ne_dash (i : Int) : numS i ≠ (("-" : Str)) := by
  intro e
  have z := congrArg TL.tl e
  rcases num_cases i with ⟨n, rfl⟩ | ⟨n, rfl⟩
  · rw [tl_numN] at z
    have h := TL.numL_free (n := n) (s := 45) (by omega)
    rw [z] at h
    exact h (by decide)
  · rw [tl_numNeg] at z
    have e2 : TL.tl ("-" : Str) = [45] := rfl
    rw [e2] at z
    injection z with _ z
    exact TL.numL_ne _ z
/-- the digits alone -/
def digS (i : Int) : Str := ⟨(TL.numL i.natAbs).toArray⟩
theorem tl_digS (i : Int) : TL.tl (digS i) = TL.numL i.natAbs := rfl
theorem sub_dash (n : Nat) : Builtin.Str.subAt (numS (-((n : Int) + 1))) "-" 0 = true := by
  unfold Builtin.Str.subAt
  rw [beq_iff_eq]
  apply Array.toList_inj.mp
  rw [Array.toList_extract]
  show ((TL.tl (numS (-((n : Int) + 1)))).drop 0).take _ = [45]
  rw [tl_numNeg]
  rfl
theorem sub_no (n : Nat) : Builtin.Str.subAt (numS (n : Int)) "-" 0 = false := by
  unfold Builtin.Str.subAt
  refine beq_eq_false_iff_ne.mpr fun e => ?_
  have z := congrArg Array.toList e
  rw [Array.toList_extract] at z
  have z2 : ((TL.tl (numS (n : Int))).drop 0).take (0 + ("-" : Str).length - 0) = [45] := z
  rw [tl_numN] at z2
  have h := TL.numL_free (n := n) (s := 45) (by omega)
  have m : 45 ∈ ((TL.numL n).drop 0).take (0 + ("-" : Str).length - 0) := by rw [z2]; simp
  exact h (List.mem_of_mem_drop (List.mem_of_mem_take m))
theorem num_strip (i : Int) : Txt.removeprefix (numS i) "-" = digS i := by
  rcases num_cases i with ⟨n, rfl⟩ | ⟨n, rfl⟩
  · rw [StrLaws.removeprefix_eq, sub_no, if_neg (by simp)]
    apply TL.ext_tl
    rw [tl_digS, tl_numN, Int.natAbs_natCast]
  · rw [StrLaws.removeprefix_eq, sub_dash, if_pos (by
      rw [TL.len_tl (numS _), tl_numNeg, List.length_cons]
      simp [show ("-" : Str).length = 1 from rfl])]
    apply TL.ext_tl
    rw [TL.tl_mk, tl_digS]
    have e1 : (numS (-((n : Int) + 1))).cps.toList = 45 :: TL.numL (n + 1) := tl_numNeg n
    have e2 : (numS (-((n : Int) + 1))).length = (TL.numL (n + 1)).length + 1 := by rw [TL.len_tl, tl_numNeg, List.length_cons]
    rw [e1, e2, show ("-" : Str).length = 1 from rfl, List.drop_succ_cons, List.drop_zero, Nat.add_sub_cancel, List.take_length, show (-((n : Int) + 1)).natAbs = n + 1 by omega]
theorem dig_len {i : Int} (h : -10000000000 < i ∧ i < 10000000000) : (digS i).length ≤ 10 := by
  rw [TL.len_tl, tl_digS]
  exact TL.numL_len (by decide) (by omega)
theorem digit_sign {c : Nat} (h : 48 ≤ c ∧ c ≤ 57) : Unicode.isDigit c = true := by
  have k : ∀ n : _root_.Fin 58, 48 ≤ n.val → Unicode.isDigit n.val = true := by decide +kernel
  exact k ⟨c, by omega⟩ h.1
theorem dig_isdigit (i : Int) : Txt.isdigit (digS i) = true := by
  unfold Txt.isdigit
  rw [Bool.and_eq_true]
  constructor
  · rw [TL.len_tl, tl_digS]
    exact decide_eq_true (List.length_pos_iff.mpr (TL.numL_ne _))
  · rw [← Array.all_toList]
    refine List.all_eq_true.mpr fun c hc => digit_sign ?_
    exact TL.numL_digits _ c hc
theorem dig_isascii (i : Int) : Txt.isascii (digS i) = true := by
  unfold Txt.isascii
  rw [← Array.all_toList]
  refine List.all_eq_true.mpr fun c hc => ?_
  have z := TL.numL_digits _ c hc
  simp
  omega
theorem num_int {i : Int} (h : -10000000000 < i ∧ i < 10000000000) : PySem.intText? (numS i) = some i := by
  have hl := num_len h
  rcases num_cases i with ⟨n, rfl⟩ | ⟨n, rfl⟩
  · exact TL.int_num (by have := TL.numL_len (n := n) (k := 10) (by decide) (by omega); omega)
  · have z := PySem.intText_neg (x := numS (-((n : Int) + 1))) (cs := TL.numL (n + 1)) (tl_numNeg n) (TL.numL_digits _) (TL.numL_ne _) (by omega)
    rw [z, TL.numL_val]
    congr 1
/-! ### words, lines, a diary's text -/
def spS : Str := " "
def nlS : Str := "\n"
def wordS : Option Int → Str
  | none => "-"
  | some i => numS i
def wM (c : Int) : List Str := ["modulus", numS c]
def wE (n : Option Int) : List Str := ["event", wordS n]
def wB (l : Int × Int × Int) : List Str := ["bound", numS l.1, numS l.2.1, numS l.2.2]
def rowT (ws : List Str) : Str := Txt.join spS ws
def rowsT (c : Int) (ns : List (Option Int)) (ls : List (Int × Int × Int)) : List Str := rowT (wM c) :: (ns.map (fun n => rowT (wE n)) ++ ls.map fun l => rowT (wB l))
def textT (c : Int) (ns : List (Option Int)) (ls : List (Int × Int × Int)) : Str := Txt.join nlS (rowsT c ns ls)
theorem word_free {n : Option Int} {s : Nat} (h : s < 45 ∨ 57 < s) : s ∉ TL.tl (wordS n) := by
  cases n with
  | none =>
    show s ∉ [45]
    simp
    omega
  | some i => exact num_free h
def Clean (s : Nat) (ws : List Str) : Prop := ∀ p ∈ ws, s ∉ TL.tl p
theorem cleanM {c : Int} {s : Nat} (h : s = 10 ∨ s = 32) : Clean s (wM c) := by
  intro p hp
  simp only [wM, List.mem_cons, List.not_mem_nil, or_false] at hp
  rcases hp with rfl | rfl
  · rcases h with rfl | rfl <;> decide
  · exact num_free (by omega)
theorem cleanE {n : Option Int} {s : Nat} (h : s = 10 ∨ s = 32) : Clean s (wE n) := by
  intro p hp
  simp only [wE, List.mem_cons, List.not_mem_nil, or_false] at hp
  rcases hp with rfl | rfl
  · rcases h with rfl | rfl <;> decide
  · exact word_free (by omega)
theorem cleanB {l : Int × Int × Int} {s : Nat} (h : s = 10 ∨ s = 32) : Clean s (wB l) := by
  intro p hp
  simp only [wB, List.mem_cons, List.not_mem_nil, or_false] at hp
  rcases hp with rfl | rfl | rfl | rfl
  · rcases h with rfl | rfl <;> decide
  · exact num_free (by omega)
  · exact num_free (by omega)
  · exact num_free (by omega)
theorem split_row {ws : List Str} (h : Clean 32 ws) (hne : ws ≠ []) : Txt.split (rowT ws) spS = ws := TL.split_join (s := 32) (S := []) rfl (by decide +kernel) hne h
theorem mem_joinL {S : List Nat} {x : Nat} : ∀ {ps : List (List Nat)}, x ∈ TL.joinL S ps → x ∈ S ∨ ∃ p ∈ ps, x ∈ p
  | [], h => absurd h (by simp [TL.joinL])
  | [p], h => Or.inr ⟨p, List.mem_singleton.mpr rfl, h⟩
  | p :: q :: r, h => by
    have z : x ∈ p ++ (S ++ TL.joinL S (q :: r)) := h
    rcases List.mem_append.mp z with z | z
    · exact Or.inr ⟨p, List.mem_cons_self, z⟩
    · rcases List.mem_append.mp z with z | z
      · exact Or.inl z
      · rcases mem_joinL z with z | ⟨p', hp', z⟩
        · exact Or.inl z
        · exact Or.inr ⟨p', List.mem_cons_of_mem _ hp', z⟩
theorem tl_row (ws : List Str) : TL.tl (rowT ws) = TL.joinL [32] (ws.map TL.tl) := by
  unfold rowT
  rw [TL.join_eq, TL.tl_join]
  rfl
theorem row_free {ws : List Str} (h : Clean 10 ws) : 10 ∉ TL.tl (rowT ws) := by
  rw [tl_row]
  intro hm
  rcases mem_joinL hm with z | ⟨p, hp, z⟩
  · simp at z
  · obtain ⟨q, hq, rfl⟩ := List.mem_map.mp hp
    exact h q hq z
theorem clean_rows (c : Int) (ns : List (Option Int)) (ls : List (Int × Int × Int)) : Clean 10 (rowsT c ns ls) := by
  intro p hp
  unfold rowsT at hp
  rcases List.mem_cons.mp hp with rfl | hp
  · exact row_free (cleanM (Or.inl rfl))
  · rcases List.mem_append.mp hp with hp | hp
    · obtain ⟨n, _, rfl⟩ := List.mem_map.mp hp
      exact row_free (cleanE (Or.inl rfl))
    · obtain ⟨l, _, rfl⟩ := List.mem_map.mp hp
      exact row_free (cleanB (Or.inl rfl))
theorem split_text (c : Int) (ns : List (Option Int)) (ls : List (Int × Int × Int)) : Txt.split (textT c ns ls) nlS = rowsT c ns ls := TL.split_join (s := 10) (S := []) rfl (by decide +kernel) (by unfold rowsT; simp) (clean_rows c ns ls)
theorem joinL_len {S : List Nat} : ∀ ps : List (List Nat), (TL.joinL S ps).length ≤ (ps.map List.length).sum + ps.length * S.length
  | [] => by simp [TL.joinL]
  | [p] => by
    show p.length ≤ _
    simp
  | p :: q :: r => by
    have z := joinL_len (S := S) (q :: r)
    have e : (TL.joinL S (p :: q :: r)).length = p.length + (S.length + (TL.joinL S (q :: r)).length) := by
      show (p ++ (S ++ TL.joinL S (q :: r))).length = _
      rw [List.length_append, List.length_append]
    rw [e, List.map_cons, List.sum_cons, List.length_cons, Nat.succ_mul]
    omega
theorem sum_len {ys : List Str} {k : Nat} (h : ∀ y ∈ ys, y.length ≤ k) : (ys.map (·.length)).sum ≤ ys.length * k := by
  induction ys with
  | nil => simp
  | cons y ys ih =>
    rw [List.map_cons, List.sum_cons, List.length_cons, Nat.succ_mul]
    have a := h y List.mem_cons_self
    have b := ih fun z hz => h z (List.mem_cons_of_mem _ hz)
    omega
theorem join_len {y : Str} {ys : List Str} {k : Nat} (h : ∀ x ∈ ys, x.length ≤ k) : (Txt.join y ys).length ≤ ys.length * k + ys.length * y.length := by
  rw [TL.len_tl, TL.join_eq, TL.tl_join]
  have z := joinL_len (S := TL.tl y) (ys.map TL.tl)
  have e : (ys.map TL.tl).map List.length = ys.map (·.length) := by
    rw [List.map_map]
    exact List.map_congr_left fun x _ => (TL.len_tl x).symm
  rw [e, List.length_map, ← TL.len_tl] at z
  have := sum_len h
  omega
def NumOk (i : Int) : Prop := -10000000000 < i ∧ i < 10000000000
theorem word_len {n : Option Int} (h : ∀ i, n = some i → NumOk i) : (wordS n).length ≤ 11 := by
  cases n with
  | none => decide
  | some i => exact num_len (h i rfl)
structure TOK (c : Int) (ns : List (Option Int)) (ls : List (Int × Int × Int)) : Prop where
  c : NumOk c
  n : ∀ i, some i ∈ ns → NumOk i
  l : ∀ l ∈ ls, NumOk l.1 ∧ NumOk l.2.1 ∧ NumOk l.2.2
  ns : ns.length ≤ 16
  ls : ls.length ≤ 60
theorem TOK.of {c w : Int} {ns : List (Option Int)} {ls : List (Int × Int × Int)} (h : DOK c ns ls w) (hw : w ≤ 1000000000) (h60 : ls.length ≤ 60) : TOK c ns ls := by
  have a := h.c2
  have b := h.c100
  have d := h.n16
  refine ⟨⟨by omega, by omega⟩, fun i hi => ?_, fun l hl => ?_, h.n16, h60⟩
  · have z := h.note i hi
    exact ⟨by omega, by omega⟩
  · obtain ⟨⟨x1, x2⟩, ⟨y1, y2⟩, z1, z2⟩ := h.line l hl
    exact ⟨⟨by omega, by omega⟩, ⟨by omega, by omega⟩, ⟨by omega, by omega⟩⟩
theorem row_len {ws : List Str} (h : ∀ x ∈ ws, x.length ≤ 11) (hl : ws.length ≤ 4) : (rowT ws).length ≤ 48 := by
  have z := join_len (y := spS) h
  have e : spS.length = 1 := rfl
  unfold rowT
  rw [e] at z
  omega
theorem rows_len {c : Int} {ns : List (Option Int)} {ls : List (Int × Int × Int)} (h : TOK c ns ls) : ∀ x ∈ rowsT c ns ls, x.length ≤ 48 := by
  intro x hx
  unfold rowsT at hx
  rcases List.mem_cons.mp hx with rfl | hx
  · refine row_len (fun y hy => ?_) (by simp [wM])
    simp only [wM, List.mem_cons, List.not_mem_nil, or_false] at hy
    rcases hy with rfl | rfl
    · decide
    · exact num_len h.c
  · rcases List.mem_append.mp hx with hx | hx
    · obtain ⟨n, hn, rfl⟩ := List.mem_map.mp hx
      refine row_len (fun y hy => ?_) (by simp [wE])
      simp only [wE, List.mem_cons, List.not_mem_nil, or_false] at hy
      rcases hy with rfl | rfl
      · decide
      · exact word_len fun i e => h.n i (e ▸ hn)
    · obtain ⟨l, hl, rfl⟩ := List.mem_map.mp hx
      obtain ⟨a, b, d⟩ := h.l l hl
      refine row_len (fun y hy => ?_) (by simp [wB])
      simp only [wB, List.mem_cons, List.not_mem_nil, or_false] at hy
      rcases hy with rfl | rfl | rfl | rfl
      · decide
      · exact num_len a
      · exact num_len b
      · exact num_len d
theorem rows_many {c : Int} {ns : List (Option Int)} {ls : List (Int × Int × Int)} : (rowsT c ns ls).length = 1 + ns.length + ls.length := by
  unfold rowsT
  rw [List.length_cons, List.length_append, List.length_map, List.length_map]
  omega
theorem text_len {c : Int} {ns : List (Option Int)} {ls : List (Int × Int × Int)} (h : TOK c ns ls) : (textT c ns ls).length ≤ 4000 := by
  have z := join_len (y := nlS) (rows_len h)
  have e : nlS.length = 1 := rfl
  have a := h.ns
  have b := h.ls
  unfold textT
  rw [e, rows_many] at z
  omega
/-! what f-strings and + give -/
theorem rowM_eq (c : Int) : (Str.ofString "modulus ") ++ numS c = rowT (wM c) := by
  apply TL.ext_tl
  rw [TL.tl_append, tl_row]
  rfl
theorem rowE_eq (n : Option Int) : (Str.ofString "event ") ++ wordS n = rowT (wE n) := by
  apply TL.ext_tl
  rw [TL.tl_append, tl_row]
  rfl
theorem rowB_eq (l : Int × Int × Int) : (Str.ofString "bound ") ++ numS l.1 ++ spS ++ numS l.2.1 ++ spS ++ numS l.2.2 = rowT (wB l) := by
  apply TL.ext_tl
  rw [TL.tl_append, TL.tl_append, TL.tl_append, TL.tl_append, TL.tl_append, tl_row]
  show _ = TL.tl (Str.ofString "bound") ++ ([32] ++ (TL.tl (numS l.1) ++ ([32] ++ (TL.tl (numS l.2.1) ++ ([32] ++ TL.tl (numS l.2.2))))))
  have e : TL.tl (Str.ofString "bound ") = TL.tl (Str.ofString "bound") ++ [32] := rfl
  rw [e]
  simp only [List.append_assoc]
  rfl
theorem rowB_eq2 (l : Int × Int × Int) : (Str.ofString "bound ") ++ Txt.join spS [numS l.1, numS l.2.1, numS l.2.2] = rowT (wB l) := by
  apply TL.ext_tl
  rw [TL.tl_append, tl_row, TL.join_eq, TL.tl_join]
  show TL.tl (Str.ofString "bound ") ++ (TL.tl (numS l.1) ++ ([32] ++ (TL.tl (numS l.2.1) ++ ([32] ++ TL.tl (numS l.2.2))))) = TL.tl (Str.ofString "bound") ++ ([32] ++ (TL.tl (numS l.1) ++ ([32] ++ (TL.tl (numS l.2.1) ++ ([32] ++ TL.tl (numS l.2.2))))))
  have e : TL.tl (Str.ofString "bound ") = TL.tl (Str.ofString "bound") ++ [32] := rfl
  rw [e, List.append_assoc]
/-! ### promises of the defs that write and read texts -/
def spWord : Sp := fun vs H Q _ => ∃ n : Option Int, vs = [noteV n] ∧ (∀ i, n = some i → NumOk i) ∧ Q (.str (wordS n)) H
def spText (DC : Addr) : Sp := fun vs H Q _ => ∃ (v : V) (c : Int) (ns : List (Option Int)) (ls : List (Int × Int × Int)), vs = [v] ∧ DiaAt DC H v c ns ls ∧ TOK c ns ls ∧ ∀ H', (∀ b o, H b = some o → H' b = some o) → Q (.str (textT c ns ls)) H'
def spNumber : Sp := fun vs H Q _ => ∃ i : Int, vs = [.str (numS i)] ∧ NumOk i ∧ Q (.int i) H
theorem log_ok {i : Int} (h : NumOk i) : i.natAbs.log2 < 1920 := by
  by_cases z : i.natAbs = 0
  · rw [z]
    decide
  · rw [Nat.log2_lt z]
    have : i.natAbs < 2 ^ 34 := by have := h.1; have := h.2; omega
    exact Nat.lt_of_lt_of_le this (Nat.pow_le_pow_right (by decide) (by decide))
theorem app_len (a b : Str) : (a ++ b).length = a.length + b.length := by rw [TL.len_tl, TL.tl_append, List.length_append, ← TL.len_tl, ← TL.len_tl]
theorem empty_app (a : Str) : Str.empty ++ a = a := by
  apply TL.ext_tl
  rw [TL.tl_append]
  rfl
section
variable {ts : List TE} {acc : Str} {σ : L2.St} {H : Hp} {Q : Str → Hp → Prop}
theorem g_js0 (h : Q acc H) : tJs [] acc σ H Q := h
theorem g_jsC {y : Str} (l : (acc ++ y).length ≤ 100000) (h : tJs ts (acc ++ y) σ H Q) : tJs (tC (.str y) :: ts) acc σ H Q := ⟨y, rfl, sz l, h⟩
theorem g_jsT {te : TE} (h : te σ H fun x H1 => (∃ y : Str, x = .str y ∧ y.length ≤ sizeLine ∧ ∃ z : Str, V.str y = .str z ∧ (acc ++ z).length ≤ sizeLine ∧ tJs ts (acc ++ z) σ H1 Q) ∨ ∃ i : Int, x = .int i ∧ i.natAbs.log2 < 1920 ∧ ∃ z : Str, V.str (toString i) = .str z ∧ (acc ++ z).length ≤ sizeLine ∧ tJs ts (acc ++ z) σ H1 Q) : tJs (tFmt te :: ts) acc σ H Q := h
theorem g_fI {i : Int} (ok : NumOk i) (l : (acc ++ numS i).length ≤ 100000) (q : tJs ts (acc ++ numS i) σ H Q) : (∃ y : Str, V.int i = .str y ∧ y.length ≤ sizeLine ∧ ∃ z : Str, V.str y = .str z ∧ (acc ++ z).length ≤ sizeLine ∧ tJs ts (acc ++ z) σ H Q) ∨ ∃ i' : Int, V.int i = .int i' ∧ i'.natAbs.log2 < 1920 ∧ ∃ z : Str, V.str (toString i') = .str z ∧ (acc ++ z).length ≤ sizeLine ∧ tJs ts (acc ++ z) σ H Q :=
  Or.inr ⟨i, rfl, log_ok ok, numS i, rfl, sz l, q⟩
theorem g_fS {x : Str} (l1 : x.length ≤ 100000) (l : (acc ++ x).length ≤ 100000) (q : tJs ts (acc ++ x) σ H Q) : (∃ y : Str, V.str x = .str y ∧ y.length ≤ sizeLine ∧ ∃ z : Str, V.str y = .str z ∧ (acc ++ z).length ≤ sizeLine ∧ tJs ts (acc ++ z) σ H Q) ∨ ∃ i' : Int, V.str x = .int i' ∧ i'.natAbs.log2 < 1920 ∧ ∃ z : Str, V.str (toString i') = .str z ∧ (acc ++ z).length ≤ sizeLine ∧ tJs ts (acc ++ z) σ H Q :=
  Or.inl ⟨x, rfl, sz l1, x, rfl, sz l, q⟩
theorem g_ext' {p b : Addr} {xs zs : List V} {R : VK} (h1 : H p = some (.lst xs)) (h2 : H b = some (.lst zs)) (l : xs.length + zs.length ≤ 100000) (q : R .non (upd H p (.lst (xs ++ zs)))) : rExtend (.ref p) [.ref b] H R := ⟨p, b, xs, zs, rfl, rfl, h1, h2, sz l, q⟩
end
theorem take1 {α β : Type} (f : α → β) (xs : List α) (i : Nat) (hi : i < xs.length) : (xs.take (i + 1)).map f = (xs.take i).map f ++ [f xs[i]] := by
  rw [List.take_succ, List.getElem?_eq_getElem hi, List.map_append]
  rfl
end WL
set_option Elab.async false
set_option linter.all false
set_option maxRecDepth 100000
set_option maxHeartbeats 4000000
namespace WL
open PySem PySem.Spec PyProof.Rows L2
/-! ### enumerate(row, start = k) over a tuple -/
def IsNT (K : PySem.W.Frag) (a : Addr) (k : Int) (xs : List V) : It where
  go := fun i H => SqT K H a xs ∧ i < xs.length
  yld := fun i H v H' => ∃ T x, v = .ref T ∧ H T = none ∧ H' = upd H T (.tup [.int (k + (i : Nat)), x]) ∧ xs[i]? = some x
  stop := fun i H => SqT K H a xs ∧ i = xs.length
def iSNT (K : PySem.W.Frag) (k : Int) (ta : TA) : TI := fun σ H R => ta σ H fun vs H1 => ∃ a xs, vs = [.ref a] ∧ SqT K H1 a xs ∧ R (IsNT K a k xs) H1
theorem turn_sNT {P : Program} {w : World} {K : PySem.W.Frag} {elts : List Expr} {kk : Nat} {tpos : Pos} (a e it : Addr) (k : Int) (xs : List V) :
    Turn P w K (.Tuple elts kk tpos) (IsNT K a k xs) [e, it] e fun i h => (∃ old, IsEnum h e it (k + (i : Nat)) old) ∧ h.IsTupleIter it a i ∧ e ≠ it ∧ a ≠ it ∧ a ≠ e where
  mem := by simp
  obj := by
    rintro i h ⟨⟨old, he⟩, ⟨o, ho, hc, hd⟩, _⟩ b hb
    simp only [List.mem_cons, List.not_mem_nil, or_false] at hb
    rcases hb with rfl | rfl
    · exact ⟨_, he, fun v q => by cases q⟩
    · exact ⟨_, ho, fun v q => by rw [hd] at q; cases q⟩
  keep := by
    rintro i h h' ⟨⟨old, he⟩, hi, hne⟩ k
    exact ⟨⟨old, k e (by simp) _ he⟩, Heap.IsTupleIter.at hi (fun o q => k it (by simp) o q), hne⟩
  item := by
    intro X hP hw hK hc i pins s σ H E I hf st hg
    subst hP; subst hw; subst hK
    obtain ⟨⟨old, he⟩, hit, hne, h1, h2⟩ := st
    obtain ⟨hq, hlt⟩ := hg
    obtain ⟨its, rv, ht, hz⟩ := Inv.tuple I hq
    obtain ⟨u, hu, ru⟩ := Vals.get rv (i := i) (x := xs[i]) (by simp [hlt])
    have hel := Heap.lt_size he
    have hil : it < s.heap.objs.size := by obtain ⟨o, ho, _⟩ := hit; exact Heap.lt_size ho
    have hln := rv.length
    have htt : s.heap.IsTuple a its.toArray := ht
    refine wpAny_pyNext_enum_itemC (Draws.tuple (A := X.A.in1) (show X.A.in1.handled = none from I.ok.hd hc) it a h1 its.toArray) he ⟨hit, htt⟩ (by simp only [List.size_toArray]; omega) hne (by simp [hne, Ne.symm h2]) fun x h' tk hx ho hst hT hsz hk => ?_
    have ex : x = u := by
      have : its[i]? = some x := by simpa using hx
      rw [hu] at this
      exact (Option.some.inj this).symm
    subst ex
    refine ⟨_, rfl, wpAny_letOwnedTupleGo_enum ho fun h'' he' sb => ?_⟩
    have hT2 := (sb.2 s.heap.objs.size (Nat.ne_of_gt hel)).trans hT
    have I1 := Inv.turnedNew (h' := h'') (ch := [e, it]) (T := s.heap.objs.size) (ob := .tup [.int (k + (i : Nat)), xs[i]]) (t' := tk + 1) I
      (fun b ob hb q => (sb.2 b (fun z => hb (by simp [z]))).trans (hk b ob (fun z => hb (by simp [z])) (fun z => hb (by simp [z])) q)) hf (Nat.le_refl _)
      ⟨sz (by simp), [.int (k + (i : Nat)) tk, x], .cons ⟨tk, rfl⟩ (.cons ru .nil), _, hT2, rfl, 0, rfl⟩
    refine ⟨.ref s.heap.objs.size, _, I1, rfl, ⟨_, _, rfl, HOk.fresh I.hok (Nat.le_refl _), rfl, by simp [hlt]⟩, ⟨⟨x, ?_⟩, ?_, hne, h1, h2⟩, fun b hb => ?_⟩
    · have e1 : k + ((i + 1 : Nat) : Int) = k + (i : Nat) + 1 := by omega
      rw [e1]
      exact he'
    · exact Heap.IsTupleIter.at hst.1 (fun o q => (sb.2 it (Ne.symm hne)).trans q)
    · have hb' : b < s.heap.objs.size := by
        simp only [List.mem_cons, List.not_mem_nil, or_false] at hb
        rcases hb with rfl | rfl
        · exact hel
        · exact hil
      rw [upd_ne (Nat.ne_of_lt hb')]
      exact (hf b hb).1
  done := by
    intro X hP hw hK hc i pins s σ H E I hf st hg
    subst hP; subst hw; subst hK
    obtain ⟨⟨old, he⟩, hit, hne, h1, h2⟩ := st
    obtain ⟨hq, hle⟩ := hg
    obtain ⟨its, rv, ht, hz⟩ := Inv.tuple I hq
    have hln := rv.length
    obtain ⟨f0, f1, f2, f3, f4, f5⟩ := hf it (by simp)
    have htt : s.heap.IsTuple a its.toArray := ht
    have hi : i = its.toArray.size := by simp only [List.size_toArray]; omega
    subst hi
    refine wpAny_pyNext_enum_endD (Draws.tuple (A := X.A.in1) (show X.A.in1.handled = none from I.ok.hd hc) it a h1 its.toArray) he ⟨hit, htt⟩ fun h' eb => ⟨rfl, ?_⟩
    exact Inv.turned I (fun b o hb q => eb b o hb q) f0 f1 f3 f4 f5
  self := by
    rintro A i s Q E ⟨⟨old, he⟩, _⟩ h
    exact wpAny_pyIter_enum he h
theorem pi_sNT {X : Cx} {e : Expr} {ta : TA} {p pos tpos p1 p2 : Pos} {elts : List Expr} {kk j : Nat} {k : Int} (hg : Gl X "enumerate") (hm : X.mg "enumerate" = none) (ha : PA X [e] ta) (hk0 : -(2 ^ 63) ≤ k) (hk1 : k < 2 ^ 63)
    (he : starEach [e] X.env = (false, eval e X.env) :: starEach [] X.env := by rfl) :
    PI X (.Tuple elts kk tpos) (.Call (.Name "enumerate" p) [e] [⟨some "start", .Constant (.int k) j p1, p2⟩] pos) (iSNT X.K k ta) := by
  constructor
  intro pins s σ H R I h
  refine wpAny_Call_Name_kw (ld_blt I hg hm PyProof.Rows.boot_enumerate ?_)
  refine PySem.W.callWith_of (P := fun _ => True) (by rw [he]; rfl) (fun h _ => ⟨.machine, .inr (.inl rfl), PySem.W.Looks.of_pure rfl⟩) ?_
  refine evalArgs_kw2 rfl (thn (ha.run pos pins s σ H _ I h) ?_) he
  rintro us s1 ⟨vs, H1, I1, r1, a, xs, rfl, hq, q⟩
  cases r1 with
  | cons r rr =>
    cases rr
    cases r
    refine thn (PK.run (X := X) (pk_cons (nm := some "start") (kpos := p2) (pe_int (X := X) (i := k) (j := j) (pos := p1)) pk_nil) pos pins s1 σ H1 (fun zs H2 => zs = [.int k] ∧ H2 = H1) I1 (show _ ∧ _ from ⟨rfl, rfl⟩)) ?_
    rintro ws s2 ⟨zs, H2, I2, rz, rfl, rfl⟩
    obtain ⟨u, rfl, t, rfl⟩ := vals1 rz
    obtain ⟨its, rv, ht, hz⟩ := Inv.tuple I2 hq
    have htt : s2.heap.IsTuple a its.toArray := ht
    have hlt : a < s2.heap.objs.size := by obtain ⟨o, ho, _⟩ := id htt; exact Heap.lt_size ho
    refine ⟨trivial, enum_begins_start (begins_tuple a its.toArray) htt hk0 hk1 fun h' he hit hsz hk => ?_⟩
    refine wpAny_pyIter_enum he ?_
    have I3 := Inv.kept (t' := s2.toks) I2 hk
    have he0 : IsEnum h' (s2.heap.objs.size + 1) s2.heap.objs.size (k + ((0 : Nat) : Int)) .none := by
      rw [show k + ((0 : Nat) : Int) = k by omega]
      exact he
    refine ⟨_, [s2.heap.objs.size + 1, s2.heap.objs.size], _, IsNT X.K a k xs, _, rfl, I3, turn_sNT a (s2.heap.objs.size + 1) s2.heap.objs.size k xs, ⟨⟨_, he0⟩, ⟨_, hit, rfl, rfl⟩, Nat.succ_ne_self _, Nat.ne_of_lt hlt, Nat.ne_of_lt (Nat.lt_succ_of_lt hlt)⟩, fun b hb => ?_, q⟩
    have hle : s2.heap.objs.size ≤ b := by
      simp only [List.mem_cons, List.not_mem_nil, or_false] at hb
      rcases hb with rfl | rfl
      · exact Nat.le_succ _
      · exact Nat.le_refl _
    exact Inv.fpOk I2 hle (HOk.fresh I2.hok hle)
theorem g_sNT {K : PySem.W.Frag} {σ : L2.St} {H : Hp} {k : Int} {ta : TA} {R : It → Hp → Prop} (h : ta σ H fun vs H1 => ∃ a xs, vs = [.ref a] ∧ SqT K H1 a xs ∧ R (IsNT K a k xs) H1) : iSNT K k ta σ H R := h
theorem g_oneNT {K : PySem.W.Frag} {a : Addr} {xs : List V} {H : Hp} {P : Addr → List V → Prop} (h1 : SqT K H a xs) (h : P a xs) : ∃ a' xs', [V.ref a] = [V.ref a'] ∧ SqT K H a' xs' ∧ P a' xs' := ⟨a, xs, rfl, h1, h⟩
theorem ForQ.sNT {K : PySem.W.Frag} {g : TG} {tb : TS} {D : Ends} {σ : L2.St} {H1 : Hp} {a : Addr} {k : Int} {xs : List V} (I : Nat → L2.St → Hp → Prop) (h0 : I 0 σ H1) (hl : ∀ i σ H, i ≤ xs.length → I i σ H → SqT K H a xs)
    (hs : ∀ (i : Nat) (x : V) (T : Addr) (σ : L2.St) (H : Hp), xs[i]? = some x → I i σ H → H T = none → g (.ref T) σ (upd H T (.tup [.int (k + (i : Nat)), x])) fun σ2 H2 => tb { D with nx := I (i + 1), ct := I (i + 1), bk := D.nx } σ2 H2) (hd : ∀ σ H, I xs.length σ H → D.nx σ H) : ForQ g tb D σ (IsNT K a k xs) H1 := by
  refine ⟨fun i m σ H => i ≤ xs.length ∧ m = xs.length - i ∧ I i σ H, ⟨_, Nat.zero_le _, rfl, h0⟩, ?_⟩
  intro i m σ H ⟨hi, hm, hp⟩
  have hS := hl i σ H hi hp
  by_cases e : i = xs.length
  · subst e
    exact Or.inl ⟨⟨hS, rfl⟩, hd _ _ hp⟩
  · have hlt : i < xs.length := by omega
    refine Or.inr ⟨⟨hS, hlt⟩, I (i + 1), fun σ' H' h => ⟨xs.length - (i + 1), by omega, by omega, rfl, h⟩, ?_⟩
    intro v H' hy
    obtain ⟨T, x, e1, hT, e2, hx⟩ := hy
    subst e1; subst e2
    exact hs i x T σ H hx hp hT
/-! ### enumerate(row, start = k) over a list -/
def IsNL (K : PySem.W.Frag) (a : Addr) (k : Int) (xs : List V) : It where
  go := fun i H => SqL K H a xs ∧ i < xs.length
  yld := fun i H v H' => ∃ T x, v = .ref T ∧ H T = none ∧ H' = upd H T (.tup [.int (k + (i : Nat)), x]) ∧ xs[i]? = some x
  stop := fun i H => SqL K H a xs ∧ i = xs.length
def iSNL (K : PySem.W.Frag) (k : Int) (ta : TA) : TI := fun σ H R => ta σ H fun vs H1 => ∃ a xs, vs = [.ref a] ∧ SqL K H1 a xs ∧ R (IsNL K a k xs) H1
theorem turn_sNL {P : Program} {w : World} {K : PySem.W.Frag} {elts : List Expr} {kk : Nat} {tpos : Pos} (a e it : Addr) (k : Int) (xs : List V) :
    Turn P w K (.Tuple elts kk tpos) (IsNL K a k xs) [e, it] e fun i h => (∃ old, IsEnum h e it (k + (i : Nat)) old) ∧ h.IsListIter it a i ∧ e ≠ it ∧ a ≠ it ∧ a ≠ e where
  mem := by simp
  obj := by
    rintro i h ⟨⟨old, he⟩, ⟨o, ho, hc, hd⟩, _⟩ b hb
    simp only [List.mem_cons, List.not_mem_nil, or_false] at hb
    rcases hb with rfl | rfl
    · exact ⟨_, he, fun v q => by cases q⟩
    · exact ⟨_, ho, fun v q => by rw [hd] at q; cases q⟩
  keep := by
    rintro i h h' ⟨⟨old, he⟩, hi, hne⟩ k
    exact ⟨⟨old, k e (by simp) _ he⟩, Heap.IsListIter.at hi (fun o q => k it (by simp) o q), hne⟩
  item := by
    intro X hP hw hK hc i pins s σ H E I hf st hg
    subst hP; subst hw; subst hK
    obtain ⟨⟨old, he⟩, hit, hne, h1, h2⟩ := st
    obtain ⟨hq, hlt⟩ := hg
    obtain ⟨its, rv, ht, hz⟩ := Inv.list I hq
    obtain ⟨u, hu, ru⟩ := Vals.get rv (i := i) (x := xs[i]) (by simp [hlt])
    have hel := Heap.lt_size he
    have hil : it < s.heap.objs.size := by obtain ⟨o, ho, _⟩ := hit; exact Heap.lt_size ho
    have hln := rv.length
    have htt : s.heap.IsList a its.toArray := ht.isList
    refine wpAny_pyNext_enum_itemC (Draws.list (A := X.A.in1) (show X.A.in1.handled = none from I.ok.hd hc) it a h1 its.toArray) he ⟨hit, htt⟩ (by simp only [List.size_toArray]; omega) hne (by simp [hne, Ne.symm h2]) fun x h' tk hx ho hst hT hsz hk => ?_
    have ex : x = u := by
      have : its[i]? = some x := by simpa using hx
      rw [hu] at this
      exact (Option.some.inj this).symm
    subst ex
    refine ⟨_, rfl, wpAny_letOwnedTupleGo_enum ho fun h'' he' sb => ?_⟩
    have hT2 := (sb.2 s.heap.objs.size (Nat.ne_of_gt hel)).trans hT
    have I1 := Inv.turnedNew (h' := h'') (ch := [e, it]) (T := s.heap.objs.size) (ob := .tup [.int (k + (i : Nat)), xs[i]]) (t' := tk + 1) I
      (fun b ob hb q => (sb.2 b (fun z => hb (by simp [z]))).trans (hk b ob (fun z => hb (by simp [z])) (fun z => hb (by simp [z])) q)) hf (Nat.le_refl _)
      ⟨sz (by simp), [.int (k + (i : Nat)) tk, x], .cons ⟨tk, rfl⟩ (.cons ru .nil), _, hT2, rfl, 0, rfl⟩
    refine ⟨.ref s.heap.objs.size, _, I1, rfl, ⟨_, _, rfl, HOk.fresh I.hok (Nat.le_refl _), rfl, by simp [hlt]⟩, ⟨⟨x, ?_⟩, ?_, hne, h1, h2⟩, fun b hb => ?_⟩
    · have e1 : k + ((i + 1 : Nat) : Int) = k + (i : Nat) + 1 := by omega
      rw [e1]
      exact he'
    · exact Heap.IsListIter.at hst.1 (fun o q => (sb.2 it (Ne.symm hne)).trans q)
    · have hb' : b < s.heap.objs.size := by
        simp only [List.mem_cons, List.not_mem_nil, or_false] at hb
        rcases hb with rfl | rfl
        · exact hel
        · exact hil
      rw [upd_ne (Nat.ne_of_lt hb')]
      exact (hf b hb).1
  done := by
    intro X hP hw hK hc i pins s σ H E I hf st hg
    subst hP; subst hw; subst hK
    obtain ⟨⟨old, he⟩, hit, hne, h1, h2⟩ := st
    obtain ⟨hq, hle⟩ := hg
    obtain ⟨its, rv, ht, hz⟩ := Inv.list I hq
    have hln := rv.length
    obtain ⟨f0, f1, f2, f3, f4, f5⟩ := hf it (by simp)
    have htt : s.heap.IsList a its.toArray := ht.isList
    have hi : i = its.toArray.size := by simp only [List.size_toArray]; omega
    subst hi
    refine wpAny_pyNext_enum_endD (Draws.list (A := X.A.in1) (show X.A.in1.handled = none from I.ok.hd hc) it a h1 its.toArray) he ⟨hit, htt⟩ fun h' eb => ⟨rfl, ?_⟩
    exact Inv.turned I (fun b o hb q => eb b o hb q) f0 f1 f3 f4 f5
  self := by
    rintro A i s Q E ⟨⟨old, he⟩, _⟩ h
    exact wpAny_pyIter_enum he h
theorem pi_sNL {X : Cx} {e : Expr} {ta : TA} {p pos tpos p1 p2 : Pos} {elts : List Expr} {kk j : Nat} {k : Int} (hg : Gl X "enumerate") (hm : X.mg "enumerate" = none) (ha : PA X [e] ta) (hk0 : -(2 ^ 63) ≤ k) (hk1 : k < 2 ^ 63)
    (he : starEach [e] X.env = (false, eval e X.env) :: starEach [] X.env := by rfl) :
    PI X (.Tuple elts kk tpos) (.Call (.Name "enumerate" p) [e] [⟨some "start", .Constant (.int k) j p1, p2⟩] pos) (iSNL X.K k ta) := by
  constructor
  intro pins s σ H R I h
  refine wpAny_Call_Name_kw (ld_blt I hg hm PyProof.Rows.boot_enumerate ?_)
  refine PySem.W.callWith_of (P := fun _ => True) (by rw [he]; rfl) (fun h _ => ⟨.machine, .inr (.inl rfl), PySem.W.Looks.of_pure rfl⟩) ?_
  refine evalArgs_kw2 rfl (thn (ha.run pos pins s σ H _ I h) ?_) he
  rintro us s1 ⟨vs, H1, I1, r1, a, xs, rfl, hq, q⟩
  cases r1 with
  | cons r rr =>
    cases rr
    cases r
    refine thn (PK.run (X := X) (pk_cons (nm := some "start") (kpos := p2) (pe_int (X := X) (i := k) (j := j) (pos := p1)) pk_nil) pos pins s1 σ H1 (fun zs H2 => zs = [.int k] ∧ H2 = H1) I1 (show _ ∧ _ from ⟨rfl, rfl⟩)) ?_
    rintro ws s2 ⟨zs, H2, I2, rz, rfl, rfl⟩
    obtain ⟨u, rfl, t, rfl⟩ := vals1 rz
    obtain ⟨its, rv, ht, hz⟩ := Inv.list I2 hq
    have htt : s2.heap.IsList a its.toArray := ht.isList
    have hlt : a < s2.heap.objs.size := by obtain ⟨o, ho, _⟩ := id htt; exact Heap.lt_size ho
    refine ⟨trivial, enum_begins_start (begins_list a its.toArray) htt hk0 hk1 fun h' he hit hsz hk => ?_⟩
    refine wpAny_pyIter_enum he ?_
    have I3 := Inv.kept (t' := s2.toks) I2 hk
    have he0 : IsEnum h' (s2.heap.objs.size + 1) s2.heap.objs.size (k + ((0 : Nat) : Int)) .none := by
      rw [show k + ((0 : Nat) : Int) = k by omega]
      exact he
    refine ⟨_, [s2.heap.objs.size + 1, s2.heap.objs.size], _, IsNL X.K a k xs, _, rfl, I3, turn_sNL a (s2.heap.objs.size + 1) s2.heap.objs.size k xs, ⟨⟨_, he0⟩, ⟨_, hit, rfl, rfl⟩, Nat.succ_ne_self _, Nat.ne_of_lt hlt, Nat.ne_of_lt (Nat.lt_succ_of_lt hlt)⟩, fun b hb => ?_, q⟩
    have hle : s2.heap.objs.size ≤ b := by
      simp only [List.mem_cons, List.not_mem_nil, or_false] at hb
      rcases hb with rfl | rfl
      · exact Nat.le_succ _
      · exact Nat.le_refl _
    exact Inv.fpOk I2 hle (HOk.fresh I2.hok hle)
theorem g_sNL {K : PySem.W.Frag} {σ : L2.St} {H : Hp} {k : Int} {ta : TA} {R : It → Hp → Prop} (h : ta σ H fun vs H1 => ∃ a xs, vs = [.ref a] ∧ SqL K H1 a xs ∧ R (IsNL K a k xs) H1) : iSNL K k ta σ H R := h
theorem g_oneNL {K : PySem.W.Frag} {a : Addr} {xs : List V} {H : Hp} {P : Addr → List V → Prop} (h1 : SqL K H a xs) (h : P a xs) : ∃ a' xs', [V.ref a] = [V.ref a'] ∧ SqL K H a' xs' ∧ P a' xs' := ⟨a, xs, rfl, h1, h⟩
theorem ForQ.sNL {K : PySem.W.Frag} {g : TG} {tb : TS} {D : Ends} {σ : L2.St} {H1 : Hp} {a : Addr} {k : Int} {xs : List V} (I : Nat → L2.St → Hp → Prop) (h0 : I 0 σ H1) (hl : ∀ i σ H, i ≤ xs.length → I i σ H → SqL K H a xs)
    (hs : ∀ (i : Nat) (x : V) (T : Addr) (σ : L2.St) (H : Hp), xs[i]? = some x → I i σ H → H T = none → g (.ref T) σ (upd H T (.tup [.int (k + (i : Nat)), x])) fun σ2 H2 => tb { D with nx := I (i + 1), ct := I (i + 1), bk := D.nx } σ2 H2) (hd : ∀ σ H, I xs.length σ H → D.nx σ H) : ForQ g tb D σ (IsNL K a k xs) H1 := by
  refine ⟨fun i m σ H => i ≤ xs.length ∧ m = xs.length - i ∧ I i σ H, ⟨_, Nat.zero_le _, rfl, h0⟩, ?_⟩
  intro i m σ H ⟨hi, hm, hp⟩
  have hS := hl i σ H hi hp
  by_cases e : i = xs.length
  · subst e
    exact Or.inl ⟨⟨hS, rfl⟩, hd _ _ hp⟩
  · have hlt : i < xs.length := by omega
    refine Or.inr ⟨⟨hS, hlt⟩, I (i + 1), fun σ' H' h => ⟨xs.length - (i + 1), by omega, by omega, rfl, h⟩, ?_⟩
    intro v H' hy
    obtain ⟨T, x, e1, hT, e2, hx⟩ := hy
    subst e1; subst e2
    exact hs i x T σ H hx hp hT

/-! ### a def called by keywords alone -/
structure HasK0 (P : Program) (w : World) (K : PySem.W.Frag) (mg : Str → Option Value) (base : Heap) (k : Nat) (x : Str) (ps : List Str) (sp : Sp) : Prop where
  ex : ∃ fa fd, mg x = some (.ref fa) ∧ PySem.W.keepIn K (.ref fa) = true ∧ KBn K fd ps 0 ps (fun us ws => us ++ ws) (fun vs zs => vs ++ zs) ∧ FnOk P w K mg base CX0 k fa fd ps sp
def tCallK0 (n : Nat) (sp : Sp) (tk : TA) : TE := fun σ H Q => tk σ H fun zs H1 => zs.length = n ∧ sp zs H1 Q E0
theorem pe_hasK0 {X : Cx} {k j : Nat} {x : Str} {ps : List Str} {sp : Sp} {tk : TA} {p pos : Pos} {kws : List Keyword} (h : HasK0 X.prog X.w X.K X.mg X.base k x ps sp) (room : Room j X.A) (le : k ≤ j) (hkw : PK X kws tk) (gl : Gl X x := by rfl) (db : (x == ("__debug__" : Str)) = false := by decide)
    (hall : (backToKw pos (keywordEach kws X.env)).all (·.1.isSome) = true := by rfl) (hks : (backToKw pos (keywordEach kws X.env)).filterMap (·.1) = ps := by rfl)
    (hpl : ((backTo pos (starEach [] X.env)).any (·.1) || (backToKw pos (keywordEach kws X.env)).any (·.1.isNone)) = false := by rfl) :
    PE X (.Call (.Name x p) [] kws pos) (tCallK0 ps.length sp tk) := by
  obtain ⟨fa, fd, m, kp, b, F⟩ := h.ex
  constructor
  intro pins s σ H Q I w0
  refine wpAny_Call_Name_kw (ld_glob I gl m ?_ db)
  refine PySem.W.callWith_KW0 (first := []) (h₀ := X.base) I.ok.mod.kin kp hall (thn (hkw.run pos pins s σ H _ I w0) ?_) hpl
  rintro ws s2 ⟨zs, H2, I2, rz, l2, q2⟩
  refine ⟨I2.kIn, ?_⟩
  rw [hks]
  exact run_fnN (us := []) (vs := []) F (room.mono le) b pass0 I2 .nil rz rfl l2 q2
theorem g_m1 {r : V → List V → Hp → VK → Prop} {to te : TE} {σ : L2.St} {H : Hp} {Q : VK} (h : to σ H fun x H1 => (∃ a, x = .str a) ∧ te σ H1 fun y H2 => r x [y] H2 Q) : tM1 r to te σ H Q := h
theorem g_m0 {r : V → List V → Hp → VK → Prop} {to : TE} {σ : L2.St} {H : Hp} {Q : VK} (h : to σ H fun x H1 => (∃ a, x = .str a) ∧ r x [] H1 Q) : tM0 r to σ H Q := h
theorem g_callK0 {n : Nat} {sp : Sp} {tk : TA} {σ : L2.St} {H : Hp} {Q : VK} (h : tk σ H fun zs H1 => zs.length = n ∧ sp zs H1 Q E0) : tCallK0 n sp tk σ H Q := h
end WL
set_option Elab.async false
set_option linter.all false
set_option maxRecDepth 100000
set_option maxHeartbeats 4000000
namespace WL
open PySem PySem.Spec PyProof.Rows L2
/-! ### exceptions of two fields, the second left to its default None -/
section
variable {prog : Program} {w : World} {A : Around} {E : Value → Shared → Prop} {K : PySem.W.Frag} {mg : Str → Option Value} {C fI : Addr} {fd : FuncData} {h : Heap} {g : Array GenState} {d : Drawn} {t : Nat} {os : OsState}
theorem ex_init2a {x t0 : Addr} {ar : Args} {v1 v2 : Value} {f1 f2 : Str} {mb : Str → Option Value} {R : Result → Shared → Prop} (T : ExT prog K mg [f1, f2] C fI) (J : ExI prog K [f1, f2] C fI fd) (X : K.In h) (G : h.Ns mainGlobals mg) (B : h.Ns builtinsNs mb) (bb : ∀ x : Str, x ≠ "__name__" → mb x = bootBuiltins x) (lim : h.NoLimit) (room : A.depth < recursionLimit)
    (hx : h.get? x = some (HandSPX.excO C t0)) (hxK : K.lookup x = none) (d1 : (f1 == ("__debug__" : Str)) = false) (d2 : (f2 == ("__debug__" : Str)) = false) (n1 : f1 ≠ ("self" : Str)) (n2 : f2 ≠ ("self" : Str)) (n12 : f1 ≠ f2)
    (hb : ∀ s : Shared, K.In s.heap → BindsTo s fd ar [("self", .ref x), (f1, v1), (f2, v2)])
    (hq : ∀ h' t' dx, (∀ b o, b ≠ x → h.get? b = some o → h'.get? b = some o) → h.objs.size ≤ dx → dx ≠ x → ExAt h' x C dx (fun y => if y = f2 then some v2 else if y = f1 then some v1 else none) → R (.ok (.ret .none)) ⟨h', g, d, t', os⟩) :
    codeAny (model prog w) A (.call (.ref fI) ar) R ⟨h, g, d, t, os⟩ := by
  obtain ⟨oc, od, osl, lk⟩ := J.at_
  obtain ⟨msg, k, q, qs, hbody, hlen, hpos⟩ := J.body
  have ok := J.ok
  unfold scOk at ok
  obtain ⟨o1, ok⟩ := He.ba ok
  obtain ⟨_, ok⟩ := He.ba ok
  obtain ⟨_, ok⟩ := He.ba ok
  obtain ⟨o4, o5⟩ := He.ba ok
  have ls : fd.scope.names.lookup ("self" : Str) = some .local := of_decide_eq_true o1
  have m1 : f1 ∈ [f1, f2] := List.mem_cons_self
  have m2 : f2 ∈ [f1, f2] := List.mem_cons_of_mem _ List.mem_cons_self
  have lf1 : fd.scope.names.lookup f1 = some .local := of_decide_eq_true (List.all_eq_true.mp o4 f1 m1)
  have lf2 : fd.scope.names.lookup f2 = some .local := of_decide_eq_true (List.all_eq_true.mp o4 f2 m2)
  match qs, hlen with
  | [q1, q2], _ =>
    have lk3 := look3 (a := Value.ref x) (b := v1) (c := v2) n1 n2 n12
    refine ks_codeAny_call_defAt (binds := [("self", .ref x), (f1, v1), (f2, v2)]) room (X _ _ lk) rfl lim (PySem.W.codeRec_of X J.rec_) hbody (hb _ X) (fun y hy => of_decide_eq_true (List.all_eq_true.mp o5 y hy)) (fun y hy => ?_) ?_ J.co J.gen J.kind
    · rcases List.mem_cons.mp hy with rfl | hy
      · exact ls
      · rcases List.mem_cons.mp hy with rfl | hy
        · exact lf1
        · rw [List.mem_singleton.mp hy]
          exact lf2
    · intro h0 hn0 k0
      have Lx : h.objs.size ≠ x := Nat.ne_of_gt (Heap.lt_size hx)
      refine ks_wpAt_execs_cons (sup_step T J (X.keeps k0) (G.keeps k0) (B.keeps k0) bb hpos hn0 lk3.1 (k0 _ _ hx) ?_)
      intro h1 t1 tt k1 hx1
      have kK : ∀ b o, K.lookup b = some o → b ≠ x := fun b o e z => by rw [z, hxK] at e; cases e
      have X1 : K.In h1 := fun b o e => k1 b o (kK b o e) (k0 _ _ (X b o e))
      obtain ⟨oL, es, ep, hoL, r1, r2⟩ := hn0
      have hoL1 := k1 _ _ Lx hoL
      have hn1 : h1.Ns h.objs.size _ := ⟨oL, es, ep, hoL1, r1, r2⟩
      refine wpAt_of_wpAny (wpAny_execs_cons (fld_first T m1 X1 J.kind ls lf1 d1 hn1 lk3.1 lk3.2.1 hx1 ?_))
      intro h2 t2 dx k2 dn dne ex
      have X2 : K.In h2 := fun b o e => k2 b o (kK b o e) (X1 b o e)
      have hn2 : h2.Ns h.objs.size _ := ⟨oL, es, ep, k2 _ _ Lx hoL1, r1, r2⟩
      have hsz : h.objs.size ≤ h1.objs.size := Nat.le_of_lt (Heap.lt_size hoL1)
      have hi : Within (fun y : Str => if y = f1 then some v1 else none) [f1] := fun y hy => by
        by_cases e : y = f1
        · rw [e]; exact List.mem_cons_self
        · exact absurd (if_neg e) hy
      refine wpAny_execs_cons (fld_next T m2 X2 J.kind ls lf2 d2 hn2 lk3.1 lk3.2.2 ex hi (by simp) ?_)
      intro h3 t3 k3 ex3
      refine wpAny_execs_nil (hq h3 t3 dx (fun b o hb e => ?_) (Nat.le_trans hsz dn) dne ex3)
      have e2 := k2 b o hb (k1 b o hb (k0 b o e))
      by_cases z : b = dx
      · have lt := Heap.lt_size e
        rw [z] at lt
        exact absurd (Nat.lt_of_lt_of_le lt (Nat.le_trans hsz dn)) (Nat.lt_irrefl _)
      · exact k3 b o z e2
end
section
variable {X : Cx} {f1 f2 : Str} {C fI : Addr} {fd : FuncData}
def tMkEx2d (C : Addr) (f1 f2 : Str) (ta : TA) : L2.St → Hp → XK → Prop := fun σ H Q => ta σ H fun vs H1 => ∃ v, vs = [v] ∧ ∀ d, H1 d = none → Q (.ref C) (some d) (upd H1 d (.xd [(f1, v), (f2, .non)]))
theorem g_mkex2d {ta : TA} {σ : L2.St} {H : Hp} {Q : XK} (h : ta σ H fun vs H1 => ∃ v, vs = [v] ∧ ∀ (d : Addr), H1 d = none → Q (.ref C) (some d) (upd H1 d (.xd [(f1, v), (f2, .non)]))) : tMkEx2d C f1 f2 ta σ H Q := h
theorem pmk_ex2d {x : Str} {e1 : Expr} {ta : TA} {p pos : Pos} {k : Nat} (T : ExT X.prog X.K X.mg [f1, f2] C fI) (J : ExI X.prog X.K [f1, f2] C fI fd) (hr : Room k X.A) (gC : X.mg x = some (.ref C)) (d1 : (f1 == ("__debug__" : Str)) = false) (d2 : (f2 == ("__debug__" : Str)) = false) (n1 : f1 ≠ ("self" : Str)) (n2 : f2 ≠ ("self" : Str)) (n12 : f1 ≠ f2)
    (hb : ∀ (s : Shared) (u v1 : Value), X.K.In s.heap → BindsTo s fd ⟨[u, v1], []⟩ [(("self" : Str), u), (f1, v1), (f2, Value.none)]) (ha : PA X [e1] ta) (hg : Gl X x := by rfl) (hd : (x == ("__debug__" : Str)) = false := by decide)
    (h1 : starEach [e1] X.env = (false, eval e1 X.env) :: starEach [] X.env := by rfl) (h2 : (backTo pos (starEach [] X.env)).any (·.1) = false := by rfl) :
    PMk X (.Call (.Name x p) [e1] [] pos) (tMkEx2d C f1 f2 ta) := by
  intro pins s σ H Q I h
  refine wpAny_Call_Name_kw (ld_glob I hg gC ?_ hd)
  refine PySem.W.callWith_K (h₀ := X.base) I.ok.mod.kin T.kC (thn (ha.run pos pins s σ H _ I h) ?_) h1 h2
  rintro us s1 ⟨vs, H1, I1, r1, v, ev, q1⟩
  subst ev
  refine ⟨I1.kIn, ?_⟩
  obtain ⟨u, rfl, ru⟩ := vals1 r1
  obtain ⟨nm, qn, N, bs, bm, sn, sub, ab, col, dd, k0, k1, k2, k3, k5, hC, hbm⟩ := T.cls
  have lim := I1.nolimit
  have glo := I1.ok.mod.glob.keeps I1.bk
  obtain ⟨mb, bl, bb⟩ := I1.ok.mod.blt
  have bl' := bl.keeps I1.bk
  have XK := I1.kIn
  have fresh : ∀ b : Addr, s1.heap.objs.size ≤ b → H1 b = none := fun b hb => I1.hok.fresh hb
  obtain ⟨hp, g, dr, tk, os⟩ := s1
  show wpAny _ _ (call (.ref C) [u]) _ _ _
  have up : ∀ b o, hp.get? b = some o → ((hp.push (PySem.W.kdv_tup [u])).push (HandSPX.excO C hp.objs.size)).get? b = some o := fun b o e => Heap.get?_push_of_some _ (Heap.get?_push_of_some _ e)
  have at1 : ((hp.push (PySem.W.kdv_tup [u])).push (HandSPX.excO C hp.objs.size)).get? (hp.objs.size + 1) = some (HandSPX.excO C hp.objs.size) := by heap_get
  have nK : X.K.lookup (hp.objs.size + 1) = none := by
    cases e : X.K.lookup (hp.objs.size + 1) with
    | none => rfl
    | some o => exact absurd (Nat.lt_of_succ_lt (Heap.lt_size (XK _ _ e))) (Nat.lt_irrefl _)
  refine wpAny_call (HandSPX.call_own F.excBase_ValueError (fun Y => HandSPX.refsVE_contains Y bm hbm) (XK _ _ hC) (PySem.W.looks_findIn XK T.iC) (fun self => PySem.W.bind_fn XK self T.tI) (show 1 ≤ sizeLine by decide) ?_)
  refine ex_init2a (v1 := u) (v2 := Value.none) T J (XK.keeps up) (glo.keeps up) (bl'.keeps up) bb (lim.keeps up) ?_ at1 nK d1 d2 n1 n2 n12 (fun s hs => hb s _ _ hs) ?_
  · have := hr.dp
    rw [make_depth]
    omega
  intro h' t' dx kp dn dne ex
  refine ⟨rfl, ?_⟩
  show MkP X pins σ Q (.ref (hp.objs.size + 1)) _
  obtain ⟨⟨t1, he⟩, hns⟩ := ex
  obtain ⟨G', g1, g2⟩ := restrict h' fun b => decide (b ≠ hp.objs.size + 1)
  have gk : ∀ b, b ≠ hp.objs.size + 1 → G'.get? b = h'.get? b := fun b hb => g1 b (decide_eq_true hb)
  have ge : G'.get? (hp.objs.size + 1) = none := g2 _ (by simp)
  have old : ∀ b o, hp.get? b = some o → G'.get? b = some o := fun b o e => by
    have nb : b ≠ hp.objs.size + 1 := Nat.ne_of_lt (Nat.lt_succ_of_lt (Heap.lt_size e))
    rw [gk b nb]
    exact kp b o nb (up b o e)
  have dsz : hp.objs.size ≤ dx := by
    have e : hp.objs.size + 1 + 1 ≤ dx := by
      have z := dn
      rw [Heap.size_push, Heap.size_push] at z
      exact z
    exact Nat.le_trans (Nat.le_trans (Nat.le_succ _) (Nat.le_succ _)) e
  have ob : ObjOk X.prog X.w (upd H1 dx (.xd [(f1, v), (f2, .non)])) G' dx (.xd [(f1, v), (f2, .non)]) := ⟨_, hns.at (fun o e => (gk dx dne).trans e), fun y => relO_two (u := .non) ru rfl n12 y⟩
  have Jv : Inv X pins σ (upd H1 dx (.xd [(f1, v), (f2, .non)])) ⟨G', g, dr, t', os⟩ := I1.laid (t' := t') old dsz ob
  refine ⟨hp.objs.size + 1, _, _, ⟨G', g, dr, t', os⟩, _, .ref C, some dx, rfl, Jv, fun b o e => ?_, ge, he, ⟨rfl, rfl⟩, rfl, rfl, ?_, rfl, Jv.bare, raises_own T.exC T.tyC, q1 dx (fresh dx dsz)⟩
  · by_cases hb : b = hp.objs.size + 1
    · have e' : G'.get? b = some o := e
      rw [hb, ge] at e'
      cases e'
    · exact (gk b hb).symm.trans e
  · rw [upd_ne (Ne.symm dne)]
    exact fresh _ (Nat.le_succ _)
end
theorem exDB_okN {K : PySem.W.Frag} {fI : Addr} {fd : FuncData} (at_ : ∃ oc od osl, K.lookup fI = some ⟨oc, od, .func fd, osl⟩) (h : exDB K fI = true) :
    ∃ (T : Addr) (o : Obj) (n : Nat), fd.defaults = .ref T ∧ K.lookup T = some o ∧ o.data = .seq [Value.none].toArray n := by
  obtain ⟨oc, od, osl, lk⟩ := at_
  unfold exDB at h
  rw [lk] at h
  rcases He.dflB_ok h with ⟨e, _⟩ | ⟨_, T, o, its, n, e1, e2, e3, e4⟩
  · cases e
  · obtain ⟨u, rfl, ru⟩ := Vals.one e4
    cases ru
    exact ⟨T, o, n, e1, e2, e3⟩
/-- an exception's class of two fields, the second with the default None -/
structure Ev2 (P : Program) (K : PySem.W.Frag) (mg : Str → Option Value) (x f1 f2 : Str) (C : Addr) : Prop where
  at_ : mg x = some (.ref C)
  ex : ∃ fI fd, ExT P K mg [f1, f2] C fI ∧ ExI P K [f1, f2] C fI fd ∧ (∀ (s : Shared) (u v1 v2 : Value), K.In s.heap → BindsTo s fd ⟨[u, v1, v2], []⟩ [("self", u), (f1, v1), (f2, v2)]) ∧ ∀ (s : Shared) (u v1 : Value), K.In s.heap → BindsTo s fd ⟨[u, v1], []⟩ [("self", u), (f1, v1), (f2, Value.none)]
end WL
set_option Elab.async false
set_option linter.all false
set_option maxRecDepth 100000
set_option maxHeartbeats 400000
namespace WL
open PySem PySem.Spec PyProof.Rows L2
/-! ### isinstance of an error that is kept -/
structure ErrC (K : PySem.W.Frag) (D : Addr) : Prop where
  xf : XfC K D
  ha : PySem.W.findIn K (.ref D) "__class__" = some (some (.builtin "object.__class__"))
  hn : PySem.W.specialIn K (.builtin "object.__class__") "__get__" = some (some (.builtin "getset_descriptor.__get__"))
  ht : PySem.W.takesIn K (.builtin "object.__class__") = some true
  hm : PySem.W.mroIn K D (.type "object") = some true
def errcB (K : PySem.W.Frag) (D : Addr) : Bool := He.eqO (PySem.W.findIn K (.ref D) "__class__") (some (some (.builtin "object.__class__"))) && (He.eqO (PySem.W.specialIn K (.builtin "object.__class__") "__get__") (some (some (.builtin "getset_descriptor.__get__"))) && (tkB K (.builtin "object.__class__") && mrB K D (.type "object")))
theorem errcB_ok {K : PySem.W.Frag} {D : Addr} (xf : XfC K D) (h : errcB K D = true) : ErrC K D := by
  obtain ⟨a, h⟩ := He.ba h
  obtain ⟨b, h⟩ := He.ba h
  obtain ⟨c, d⟩ := He.ba h
  exact ⟨xf, He.eqO_ok a, He.eqO_ok b, tkB_ok c, mrB_ok d⟩
def rIsErr (K : PySem.W.Frag) : List V → Hp → VK → Prop := fun xs H Q => ∃ (a D d c : Addr) (fs : List (Str × V)) (b : Bool), xs = [.ref a, .ref c] ∧ H a = some (Err a (.ref D) (some d)) ∧ H d = some (.xd fs) ∧ ErrC K D ∧ PySem.W.kitOne K (.ref D) (.ref c) = some b ∧ Q (.bl b) H
theorem call_isErr {X : Cx} : CallR X (.builtin "isinstance") (rIsErr X.K) := by
  intro pins s σ H xs us Q I r h
  obtain ⟨a, D, d, c, fs, b, rfl, ea, ed, C, e, q⟩ := h
  obtain ⟨u1, u2, rfl, r1, r2⟩ := Vals.two' r
  cases r1
  cases r2
  obtain ⟨o, vs, eo, oc, od, of⟩ := err_at I.hok ea
  obtain ⟨mA, hns, hr⟩ := (I.hok d _ ed : ObjOk X.prog X.w H s.heap d (.xd fs))
  obtain ⟨oD, hoD, hl⟩ := lookIn_ns hns
  have J : PySem.W.InstAt s.heap a o D (some oD) := ⟨eo, oc, by unfold PySem.W.notCls; rw [of], by rw [od]; exact hoD⟩
  obtain ⟨cd, hc, _⟩ := PySem.W.any_some C.xf.hdC
  exact PySem.W.kia_one (PySem.W.kitx_exc (by rw [hc]; rfl) C.xf.ga C.xf.gg C.xf.exC C.ha C.hn C.ht C.hm) I.kIn J e (fun z => nomatch z) fun tk => ⟨.bl b, H, I.kept (t' := tk) fun _ _ z => z, rfl, q⟩
end WL
set_option Elab.async false
set_option linter.all false
set_option maxRecDepth 100000
set_option maxHeartbeats 400000
namespace WL
open PySem PySem.Spec PyProof.Rows L2
/-! ### nested tuples of constants, written out -/
mutual
def litT : PyData → TE
  | .none => tC .non
  | .bool b => tC (.bl b)
  | .int i => tC (.int i)
  | .str x => tC (.str x)
  | .tuple ds => tTup (litTs ds)
  | .list _ => fun _ _ _ => False
  | .dict _ => fun _ _ _ => False
def litTs : List PyData → TA
  | [] => tNil
  | d :: ds => tCons (litT d) (litTs ds)
end
mutual
def litOk : PyData → Bool
  | .none => true
  | .bool _ => true
  | .int _ => true
  | .str _ => true
  | .tuple ds => decide (ds.length ≤ 1000) && litOks ds
  | .list _ => false
  | .dict _ => false
def litOks : List PyData → Bool
  | [] => true
  | d :: ds => litOk d && litOks ds
end
mutual
theorem g_lit : ∀ (d : PyData) {σ : L2.St} {H : Hp} {Q : VK}, litOk d = true → (∀ v H', (∀ b o, H b = some o → H' b = some o) → Fz H' v d → Q v H') → litT d σ H Q
  | .none, _, H, _, _, q => q _ H (fun _ _ h => h) .non
  | .bool b, _, H, _, _, q => q _ H (fun _ _ h => h) (.bl b)
  | .int i, _, H, _, _, q => q _ H (fun _ _ h => h) (.int i)
  | .str x, _, H, _, _, q => q _ H (fun _ _ h => h) (.str x)
  | .list _, _, _, _, h, _ => by cases h
  | .dict _, _, _, _, h, _ => by cases h
  | .tuple ds, σ, H, Q, h, q => by
    have h' : (decide (ds.length ≤ 1000) && litOks ds) = true := h
    rw [Bool.and_eq_true, decide_eq_true_iff] at h'
    show tTup (litTs ds) σ H Q
    refine g_tup' ?_
    refine g_lits ds h'.2 fun vs H1 s1 f1 => ⟨sz (by rw [f1.length]; omega), fun p np => ?_⟩
    exact q _ _ (same_up np s1) (.tup upd_same (f1.tk (Tk.new np)))
theorem g_lits : ∀ (ds : List PyData) {σ : L2.St} {H : Hp} {R : List V → Hp → Prop}, litOks ds = true → (∀ vs H', (∀ b o, H b = some o → H' b = some o) → Fzs H' vs ds → R vs H') → litTs ds σ H R
  | [], _, H, _, _, q => q [] H (fun _ _ h => h) .nil
  | d :: ds, σ, H, R, h, q => by
    have h' : (litOk d && litOks ds) = true := h
    rw [Bool.and_eq_true] at h'
    show tCons (litT d) (litTs ds) σ H R
    refine g_cons ?_
    refine g_lit d h'.1 fun v H1 s1 f1 => ?_
    refine g_lits ds h'.2 fun vs H2 s2 f2 => ?_
    exact q _ _ (fun b o h => s2 _ _ (s1 _ _ h)) (.cons (f1.tk (Tk.same s2)) f2)
end
end WL
set_option Elab.async false
set_option linter.all false
set_option maxRecDepth 100000
set_option maxHeartbeats 4000000
namespace WL
open PySem PySem.Spec PyProof.Rows L2
/-! ### tuple * int, once or more -/
theorem tuple_mulW1 (l : Addr) (items : Array Value) (n : Nat) (dd : Option Addr) (sl : Array (Option Value)) (u : Tok) :
    Meets (Builtin.«tuple.__mul__» ⟨[.ref l, .int 1 u], []⟩) (fun _ R s => s.heap.get? l = some { cls := .type "tuple", dict := dd, data := .seq items n, slots := sl } ∧
      R (.ok (.ret (Value.ref l))) s) :=
  .of_wp fun prog w A R s h => by
    obtain ⟨hp, g, d, tk, os⟩ := s
    obtain ⟨hl, h⟩ := h
    have f1 := AutoSeq1.idx_int
    have c0 : (decide ((1 : Int) < -(2 ^ 63)) || decide ((1 : Int) ≥ 2 ^ 63)) = false := by decide
    have c1 : (items.isEmpty || (1 : Int) == 1) = true := by rw [show ((1 : Int) == 1) = true from rfl, Bool.or_true]
    wp_walk using wpAny_loadPart' hl
    repeat (first
      | (refine wpAny_ite_false (decide_eq_false (by rw [c0]; exact Bool.false_ne_true)) ?_; wp_walk using wpAny_loadPart' hl)
      | (refine wpAny_ite_true (decide_eq_true (by rw [c1])) ?_; wp_walk using wpAny_loadPart' hl))
    exact ⟨_, rfl, h⟩
def rRepT1 (K : PySem.W.Frag) : R2 := fun x y H Q => ∃ l k xs, x = .ref l ∧ y = .int k ∧ H l = some (.tup xs) ∧ xs ≠ [] ∧ 1 ≤ k ∧ k ≤ 1000 ∧ xs.length ≤ 1000 ∧ ∀ p H2, (∀ b o, H b = some o → H2 b = some o) → H2 p = some (.tup (List.replicate k.toNat xs).flatten) → Q (.ref p) H2
section
variable {X : Cx}
theorem op_repT1 : OpR X (binaryOp .Mult) (rRepT1 X.K) := by
  intro pins s σ H x y v u Q I rx ry h
  obtain ⟨l, k, xs, rfl, rfl, hl, hne, h1, h2, hz, q⟩ := h
  have hT : SqT X.K H l xs := SqT.of hl
  by_cases hk : k = 1
  · subst hk
    cases rx
    obtain ⟨t, rfl⟩ := ry
    obtain ⟨its, r, ⟨⟨cls, dd, data, sl⟩, ho, hc, n, hd⟩, hs⟩ := I.tuple hT
    simp only at hc hd
    subst hc hd
    refine wpAny_binaryOp_repeat_ref (T := "tuple") (U := "int") (by decide) ⟨_, ho, rfl⟩ (fun s' => typeIs_int s' 1 t) noFill_tuple_mul F.fills_int_mul F.slot_int_rmul repeat_tuple F.slot_int_index.lookup
      (call_meets F.slot_int_rmul (typeIs_int s 1 t) F.entry_int_rmul (F.args_int_rmul_2 _ _) (int_rmul_tuple 1 t l its.toArray n dd sl)
        ⟨ho, rfl, ⟨_, ho, rfl⟩, call_meets F.slot_tuple_mul ⟨_, ho, rfl⟩ F.entry_tuple_mul (F.args_tuple_mul_2 _ _) (tuple_mulW1 l its.toArray n dd sl t) ⟨ho, ?_⟩⟩)
    exact ⟨.ref l, H, I, rfl, q l H (fun _ _ h => h) (by
      have e : (List.replicate (1 : Int).toNat xs).flatten = xs := by
        show (List.replicate 1 xs).flatten = xs
        simp
      rw [e]; exact hl)⟩
  · exact op_repT pins s σ H _ _ v u Q I rx ry ⟨l, k, xs, rfl, rfl, hT, hne, by omega, h2, hz, fun p np => q p _ (same_up np fun _ _ h => h) upd_same⟩
end
theorem g_repT1 {K : PySem.W.Frag} {H : Hp} {Q : VK} {l : Addr} {k : Int} {xs : List V} (h : H l = some (.tup xs)) (h0 : xs ≠ []) (h1 : 1 ≤ k) (h2 : k ≤ 1000) (h3 : xs.length ≤ 1000) (q : ∀ p H2, (∀ b o, H b = some o → H2 b = some o) → H2 p = some (.tup (List.replicate k.toNat xs).flatten) → Q (.ref p) H2) : rRepT1 K (.ref l) (.int k) H Q := ⟨l, k, xs, rfl, rfl, h, h0, h1, h2, h3, q⟩
/-! ### a def of two parameters and a star, called by their names the other way round -/
section
variable {CX : CXT} {P : Program} {w : World} {K : PySem.W.Frag} {mg : Str → Option Value} {base : Heap} {k : Nat} {f : Addr} {name qual : Str} {params : Arguments} {body : List Stmt} {scope : Scope} {dV kV doc pm cdv ct oc : Value} {an od : Option Addr}
  {osl : Array (Option Value)} {N : List Str} {sp : Sp}
theorem fn_starSw {p1 p2 pv : Str} (lk : K.lookup f = some ⟨oc, od, .func (PySem.W.fnOf name qual params body scope dV kV doc pm an cdv ct), osl⟩) (hcd : PySem.W.codeIn K cdv qual = true) (S : FnScope N ([p1, p2] ++ [pv]) scope) (hCX : StX.CXUp CX)
    (hb : ∀ a b : Value, bindArgs (PySem.W.fnOf name qual params body scope dV kV doc pm an cdv ct) ⟨[], [(p2, a), (p1, b)]⟩ = (newTuple [] >>= fun t => pure [(p1, b), (p2, a), (pv, t)]))
    (hbody : ∀ (A : Around) (outer : List Env) (s : Shared) (H : Hp) (vs : List V) (Q : VK) (E : XK), Room k (A.deeper (envOfC qual scope s.heap.objs.size f cdv)) → sp vs H Q E →
      ∃ t, PSs (cxOf CX P w K mg base N qual scope f cdv A outer s H E) body t ∧ t { nx := fun _ H' => Q .non H', rt := Q } (start N vs) H) :
    FnRK P w K mg base CX (k + 1) f 0 [p2, p1] (fun vs H Q E => ∃ a b, vs = [a, b] ∧ ∀ p, H p = Option.none → sp [b, a, V.ref p] (upd H p (.tup [])) Q E) := by
  intro A outer s H us ws vs zs Q E hr e0 r rz l1 l2 hq
  have ev : vs = [] := List.eq_nil_of_length_eq_zero l1
  subst ev
  cases r
  obtain ⟨a, b, ez, hq⟩ := hq
  rw [List.nil_append] at ez
  subst ez
  obtain ⟨a', ra, b', rb, rfl⟩ : ∃ a', RelV a a' ∧ ∃ b', RelV b b' ∧ ws = [a', b'] := by
    cases rz with
    | cons h1 h2 =>
      cases h2 with
      | cons h3 h4 =>
        cases h4
        exact ⟨_, h1, _, h3, rfl⟩
  have hn : H s.heap.objs.size = Option.none := e0.hok.fresh (Nat.le_refl _)
  refine StX.run_bnd lk hcd S hr e0 (G := fun xs H2 => ∃ p, H p = Option.none ∧ xs = [b, a, V.ref p] ∧ H2 = upd H p (.tup [])) (fun A' Ex Q' h => ?_) fun s2 H2 xs ⟨p, hp, ex, eH⟩ hr' => ?_
  · rw [show ([p2, p1] : List Str).zip [a', b'] = [(p2, a'), (p1, b')] from rfl, hb a' b']
    refine wpAny_bind (wpAny_newTuple (wpAny_pure ?_) (Nat.zero_le _))
    have new : ObjOk P w (upd H s.heap.objs.size (.tup [])) (s.heap.push ({ cls := .type "tuple", data := .seq ([] : List Value).toArray } : Obj)) s.heap.objs.size (.tup []) := ⟨Nat.zero_le _, [], .nil, ⟨_, Heap.get?_push_size _ rfl, rfl, _, rfl⟩⟩
    have un := StX.un_laid (fs := frs outer) (s := s) (o := ({ cls := .type "tuple", data := .seq ([] : List Value).toArray } : Obj)) (u := .tup []) hn
    exact h _ _ [b, a, V.ref s.heap.objs.size] [b', a', Value.ref s.heap.objs.size] (StX.env0_laid e0 new) un rfl (fun e s' => hCX outer s H _ _ E e s' un (fun b o q => Heap.get?_push_of_some _ q) rfl) (.cons rb (.cons ra (.cons rfl .nil))) rfl ⟨_, hn, rfl, rfl⟩
  · subst ex eH
    exact hbody A outer s2 _ _ Q E hr' (hq p hp)
end
structure HasRK (P : Program) (w : World) (K : PySem.W.Frag) (mg : Str → Option Value) (base : Heap) (CX : CXT) (k : Nat) (x : Str) (ks : List Str) (sp : Sp) : Prop where
  ex : ∃ f, mg x = some (.ref f) ∧ PySem.W.keepIn K (.ref f) = true ∧ FnRK P w K mg base CX k f 0 ks sp
def tCallRK (m : Nat) (sp : Sp) (E : XK) (t : TA) : TE := fun σ H Q => t σ H fun vs H1 => vs.length = m ∧ sp vs H1 Q E
section
variable {X : Cx} {CX : CXT} {k j : Nat} {x : Str} {ks : List Str} {sp : Sp} {E : XK} {tk : TA} {p pos : Pos} {kws : List Keyword}
theorem pe_hasRK (F : HasRK X.prog X.w X.K X.mg X.base CX k x ks sp) (room : Room j X.A) (le : k ≤ j) (pass : Passes CX X E) (hkw : PK X kws tk) (gl : Gl X x := by rfl) (db : (x == ("__debug__" : Str)) = false := by decide)
    (hall : (backToKw pos (keywordEach kws X.env)).all (·.1.isSome) = true := by rfl) (hks : (backToKw pos (keywordEach kws X.env)).filterMap (·.1) = ks := by rfl)
    (hpl : ((backTo pos (starEach [] X.env)).any (·.1) || (backToKw pos (keywordEach kws X.env)).any (·.1.isNone)) = false := by rfl) :
    PE X (.Call (.Name x p) [] kws pos) (tCallRK ks.length sp E tk) := by
  obtain ⟨f, m, kp, F⟩ := F.ex
  refine ⟨fun pins s σ H Q I h => ?_⟩
  refine wpAny_Call_Name_kw (ld_glob I gl m ?_ db)
  refine PySem.W.callWith_KW0 (h₀ := X.base) I.ok.mod.kin kp hall ?_ hpl
  refine thn (hkw.run pos pins s σ H _ I h) fun ws s2 ⟨zs, H2, I2, rz, l2, q2⟩ => ⟨I2.kIn, ?_⟩
  rw [hks]
  refine wpAny_call (codeAny_mono (F X.A X.stack s2 H2 [] ws [] zs Q E (room.mono le) I2.env0 .nil rz rfl l2 q2) fun r s' hq => ?_)
  cases r with
  | error e => exact pass pins σ H2 s2 e s' I2 hq
  | ok fl =>
    cases fl with
    | ret u => exact I2.after hq
    | next => exact False.elim hq
    | brk => exact False.elim hq
    | cont => exact False.elim hq
end
end WL
set_option Elab.async false
set_option linter.all false
set_option maxRecDepth 100000
set_option maxHeartbeats 1000000
/-! for and if with a yield within, in a generator's body -/
namespace WL
open PySem PySem.Spec PyProof.Rows L2 GenW
section
variable {prog : Program} {w : World} {A : Around} {R : GenEnd} {Y : Protocol} {n : Nat} {s₀ : Shared} {fs : List Frame} {s : Shared} {env : Env}
/-- what a loop's code does with an exception -/
def loopRaise (env : Env) (x : Value) : Sem PySem.Fin := (do noteFrame x env; theTreesLotGoes x : Sem Unit).wrap (fun _ => .raise x) .raise id id
theorem seg_forLoop {target : Expr} {it : Value} {body : List Stmt}
    (h : wpAny (model prog w) (A.over (.forLoop target it body [] env) fs) (pyNext it) (fun r s₁ => match r with
      | none => Seg (model prog w) A R Y n s₀ (.block [] env) (.pure (.done .next)) fs s₁
      | some v => wpAny (model prog w) (A.over (.forLoop target it body [] env) fs) (letOwnedTupleGo target it v) (fun _ s₁' =>
          wpAny (model prog w) (A.over (.forLoop target it body [] env) fs) (assign target env v) (fun _ s₂ =>
            Seg (model prog w) A R Y n s₀ (.forLoop target it body [] env) ((execs body env).wrap (fun f => match f with
              | .next | .cont => .pure (.again (.forLoop target it body [] env))
              | .brk => .pure (.done .next)
              | .ret v => .pure (.done (.ret v))) (loopRaise env) id id) fs s₂)
            (fun x s' => Seg (model prog w) A R Y n s₀ (.forLoop target it body [] env) (loopRaise env x) fs s') s₁')
          (fun x s' => Seg (model prog w) A R Y n s₀ (.forLoop target it body [] env) (loopRaise env x) fs s') s₁)
      (fun x s' => Seg (model prog w) A R Y n s₀ (.forLoop target it body [] env) (loopRaise env x) fs s') s) :
    Seg (model prog w) A R Y n s₀ (.forLoop target it body [] env) ((model prog w).den (.forLoop target it body [] env)) fs s := by
  have er : ∀ x, (do noteFrame x env; theTreesLotGoes x : Sem Unit).bind (fun _ => (.raise x : Sem PySem.Fin)) = loopRaise env x := fun x => by unfold loopRaise; rw [Sem.bind_eq_wrap]
  show Seg _ A R Y n s₀ _ ((forTurn target it body [] env).onRaise (fun x => do noteFrame x env; theTreesLotGoes x)) fs s
  rw [Sem.onRaise_eq_wrap]
  unfold forTurn
  refine seg_bind_wrap (wpAny_standAt ?_)
  refine seg_bind_wrap (wpAny_onRaise (wpAny_mono h (fun r s₁ h₁ => ?_) fun x s' hx => wpAny_standAt ?_))
  · cases r with
    | none =>
      show Seg _ A R Y n s₀ _ (.pure (.again (.block [] env))) fs s₁
      exact seg_again rfl h₁
    | some v =>
      refine seg_bind_wrap (wpAny_mono h₁ (fun _ s₁' h₁' => ?_) fun x s' hx => ?_)
      · refine seg_bind_wrap (wpAny_mono h₁' (fun _ s₂ h₂ => ?_) fun x s' hx => ?_)
        · rw [Sem.bind_eq_wrap', Sem.wrap_wrap]
          have key : ∀ {T T' : Sem PySem.Fin}, T = T' → Seg (model prog w) A R Y n s₀ (.forLoop target it body [] env) T' fs s₂ → Seg (model prog w) A R Y n s₀ (.forLoop target it body [] env) T fs s₂ := fun e h => e ▸ h
          refine key (Sem.wrap_congr (execs body env) _ _ (fun f => ?_) fun e => ?_) h₂
          · cases f <;> rfl
          · exact er e
        · exact (er x) ▸ hx
      · exact (er x) ▸ hx
  · exact (er x) ▸ hx
theorem seg_For {target iter : Expr} {body : List Stmt} {pos : Pos} {c : Code} {K : Flow → Sem PySem.Fin} {J : Value → Sem PySem.Fin} {gd : Bool → Bool} {lv : List Value → List Value}
    (h : wpAny (model prog w) (A.over c fs) (eval iter env) (fun x s₁ => wpAny (model prog w) (A.over c fs) (pyIter x) (fun it s₂ =>
      ∀ p, Seg (model prog w) A R Y n s₀ (.forLoop target it body [] env) ((model prog w).den (.forLoop target it body [] env))
        (.ret (fun r => ((match r with | .ok f => (.pure f : Sem Flow) | .error e => .raise e).onRaise (cameBack env)).wrap K J gd lv) none (gd false) (lv []) c p [] :: fs) s₂)
      (fun x s' => Seg (model prog w) A R Y n s₀ c (J x) fs s') s₁) (fun x s' => Seg (model prog w) A R Y n s₀ c (J x) fs s') s)
    (hs : ∀ x, foldedSetIterable iter env x = pure x := by intro _; rfl) :
    Seg (model prog w) A R Y n s₀ c ((exec (.For target iter body [] pos) env).wrap K J gd lv) fs s := by
  rw [exec_For]
  refine seg_bind_wrap (wpAny_standAt ?_)
  refine seg_bind_wrap (wpAny_mono h (fun x s₁ h₁ => ?_) fun x s' hx => hx)
  refine seg_bind_wrap (wpAny_of_eq (hs x) ?_)
  refine seg_bind_wrap (wpAny_standAt ?_)
  refine seg_bind_wrap (wpAny_holding (wpAny_mono h₁ (fun it s₂ h₂ => ?_) fun x s' hx => hx))
  exact seg_call h₂
end
section
variable {X : Cx} {tg iter test : Expr} {body orelse : List Stmt}
def tGIf (c : TT) (t u : TGn) : TGn := fun D ys σ H => c σ H fun b H1 => if b = true then t D ys σ H1 else u D ys σ H1
theorem gs_if {pos : Pos} {tc : TT} {t u : TGn} (hc : PT X test tc) (hb : GSs X body t) (ho : GSs X orelse u) : GS X (.If test body orelse pos) (tGIf tc t u) := by
  refine ⟨fun A S ip R n ys s₀ c fs K J gd lv s σ H D g hn k hI ht => ?_⟩
  obtain ⟨acc, cc, r, I⟩ := hI
  show Seg _ A R _ _ s₀ c ((standAt pos >>= fun _ => isTrue test X.env (eval test X.env) >>= fun b => if b = true then execs body X.env else execs orelse X.env).wrap K J gd lv) fs s
  refine seg_bind_wrap (wpAny_standAt ?_)
  refine seg_bind_wrap ?_
  rw [g.over]
  refine wpAny_mono (hc.run _ s σ H _ I ht) (fun b s' hb' => ?_) fun x s' hx => k.exc n s₀ x s' hx
  obtain ⟨H2, I2, q2⟩ := hb'
  cases b with
  | true =>
    rw [if_pos rfl]
    exact hb.run A S ip R n ys s₀ c fs K J gd lv s' σ H2 D g hn k ⟨acc, cc, r, I2⟩ q2
  | false =>
    rw [if_neg Bool.false_ne_true]
    exact ho.run A S ip R n ys s₀ c fs K J gd lv s' σ H2 D g hn k ⟨acc, cc, r, I2⟩ q2
/-- W: the invariant by the turn and a measure -/
def tGFor (wi : TI) (g : TG) (tb : TGn) : TGn := fun D ys σ H => wi σ H fun J H1 => ∃ W : Nat → Nat → List V → L2.St → Hp → Prop, (∃ m, W 0 m ys σ H1) ∧ ∀ i m ys σ H, W i m ys σ H →
  (J.stop i H ∧ D.nx ys σ H) ∨ (J.go i H ∧ ∃ N : List V → L2.St → Hp → Prop, (∀ ys' σ' H', N ys' σ' H' → ∃ m', m' < m ∧ W (i + 1) m' ys' σ' H') ∧ ∀ x H', J.yld i H x H' → g x σ H' fun σ2 H2 => tb { D with nx := N, ct := N, bk := D.nx } ys σ2 H2)
theorem seg_back {S : Addr} {ip : List (Addr × Obj)} {A : Around} {R : GenEnd} {c c' : Code} {fs : List Frame} {K : Flow → Sem PySem.Fin} {J : Value → Sem PySem.Fin} {gd : Bool → Bool} {lv : List Value → List Value} {D : GEnds} {n : Nat} {s₀ s : Shared} {x : Value} {p : Pos}
    (hp : PassesOwn (model X.prog X.w) X.A X.env X.xe) (g : GC X S ip A c fs gd) (k : GK X S ip A R c fs K J D) (hw : c'.weight = 0) (hu : c'.cUnits = 0) (hx : X.xe x s) :
    Seg (model X.prog X.w) A R (GY X S) n s₀ c' (loopRaise X.env x)
      (.ret (fun r => ((match r with | .ok f => (.pure f : Sem Flow) | .error e => .raise e).onRaise (cameBack X.env)).wrap K J gd lv) none (gd false) (lv []) c p [] :: fs) s := by
  have gl := fun (kk : Result → Sem PySem.Fin) => gc_loop (k := kk) (c' := c') (l := lv []) (kp := []) (p := p) g hw hu
  unfold loopRaise
  refine seg_wrap ?_
  rw [(gl _).over]
  refine wpAny_bind (wpAny_mono (hp x s hx) (fun _ s'' hcb => wpAny_theTreesLotGoes ?_) fun y s'' hcb => ?_)
  · exact seg_leaf (.error x) (seg_cameBack g k hcb)
  · exact seg_leaf (.error y) (seg_cameBack g k hcb)
theorem gs_for {wi : TI} {g : TG} {tb : TGn} {pos : Pos} (hp : PassesOwn (model X.prog X.w) X.A X.env X.xe) (hc : X.calm = true) (hi : PI X tg iter wi) (hg : PG X tg g) (hb : GSs X body tb)
    (hs : ∀ x, foldedSetIterable iter X.env x = pure x := by intro _; rfl) : GS X (.For tg iter body [] pos) (tGFor wi g tb) := by
  refine ⟨fun A S ip R n ys s₀ c fs K J gd lv s σ H D gc hn k hI ht => ?_⟩
  obtain ⟨acc, cc, r, I⟩ := hI
  refine seg_For ?_ hs
  rw [gc.over]
  refine wpAny_mono (hi.run _ s σ H _ I ht) (fun v s1 h1 => wpAny_mono h1 (fun itv s2 h2 p => ?_) fun x s' hx => k.exc n s₀ x s' hx) fun x s' hx => k.exc n s₀ x s' hx
  obtain ⟨it, fp, tn, JJ, H2, e, I2, T, st2, f2, W, ⟨m0, w0⟩, turn⟩ := h2
  subst e
  have notS : ∀ b ∈ fp, b ≠ S := fun b hb e => (f2 b hb).2.2.2.2.2 (S, lstObj acc cc) (List.mem_append_right _ List.mem_cons_self) e.symm
  have stat : ∀ {H' : Hp} {acc' : Array Value} {c' : Nat}, (∀ b ∈ fp, H' b = none) → ∀ b ∈ fp, FpOk X ((S, lstObj acc' c') :: ip) H' b := fun {H' acc' c'} hn b hb => by
    obtain ⟨_, a1, a2, a3, a4, a5⟩ := f2 b hb
    refine ⟨hn b hb, a1, a2, a3, a4, fun p hp => ?_⟩
    rcases List.mem_append.mp hp with hp | hp
    · exact a5 p (List.mem_append_left _ hp)
    · rcases List.mem_cons.mp hp with hp | hp
      · rw [hp]
        exact fun e => notS b hb e.symm
      · exact a5 p (List.mem_append_right _ (List.mem_cons_of_mem _ hp))
  have gl := fun (kk : Result → Sem PySem.Fin) => gc_loop (k := kk) (c' := .forLoop tg (.ref it) body [] X.env) (l := lv []) (kp := []) (p := p) gc rfl rfl
  have loop : ∀ (m n : Nat) (ys : List V) (s₀ s : Shared) (σ : L2.St) (H : Hp) (i : Nat), n + ys.length = sizeLine → W i m ys σ H → GI X S ip ys σ H s → tn i s.heap → (∀ b ∈ fp, H b = none) →
      Seg (model X.prog X.w) A R (GY X S) n s₀ (.forLoop tg (.ref it) body [] X.env) ((model X.prog X.w).den (.forLoop tg (.ref it) body [] X.env))
        (.ret (fun r => ((match r with | .ok f => (.pure f : Sem Flow) | .error e => .raise e).onRaise (cameBack X.env)).wrap K J gd lv) none (gd false) (lv []) c p [] :: fs) s := by
    intro m
    induction m using Nat.strongRecOn with
    | ind m ih =>
      intro n ys s₀ s3 σ3 H3 i hn w3 hI3 st3 fr3
      obtain ⟨acc3, c3, r3, I3⟩ := hI3
      refine seg_forLoop ?_
      rw [(gl _).over]
      rcases turn i m ys σ3 H3 w3 with ⟨stop, qn⟩ | ⟨go, N, hN, step⟩
      · refine wpAny_mono (T.done X rfl rfl rfl hc i _ s3 σ3 H3 X.xe I3 (stat fr3) st3 stop) (fun r s4 hr => ?_) fun x s' hx => seg_back hp gc k rfl rfl hx
        obtain ⟨hr, I4⟩ := hr
        subst hr
        exact seg_leaf (.ok .next) (k.ok n ys s₀ s4 .next hn ⟨σ3, H3, ⟨acc3, c3, r3, I4⟩, qn⟩)
      · refine wpAny_mono (T.item X rfl rfl rfl hc i _ s3 σ3 H3 X.xe I3 (stat fr3) st3 go) (fun r s4 hr => ?_) fun x s' hx => seg_back hp gc k rfl rfl hx
        obtain ⟨u, hr, h4⟩ := hr
        subst hr
        refine wpAny_mono h4 (fun _ s5 h5 => ?_) fun x s' hx => seg_back hp gc k rfl rfl hx
        obtain ⟨x, H5, I5, r5, y5, st5, fr5⟩ := h5
        have I5' := I5.pinned (stat fr5) (T.obj _ _ st5)
        refine wpAny_mono (hg.run _ s5 σ3 H5 x u _ I5' r5 (step x H5 y5)) (fun _ s6 h6 => ?_) fun x s' hx => seg_back hp gc k rfl rfl hx
        obtain ⟨σ6, H6, I6, q6⟩ := h6
        have gl0 := gl (fun r => ((match r with | .ok f => (.pure f : Sem Flow) | .error e => .raise e).onRaise (cameBack X.env)).wrap K J gd lv)
        have gl2 : GC X S (ip ++ pinsAt fp s5.heap) A (.forLoop tg (.ref it) body [] X.env) (.ret (fun r => ((match r with | .ok f => (.pure f : Sem Flow) | .error e => .raise e).onRaise (cameBack X.env)).wrap K J gd lv) none (gd false) (lv []) c p [] :: fs) id :=
          ⟨gl0.pn, fun q hq => by
            rcases List.mem_append.mp hq with hq | hq
            · exact gl0.ip q hq
            · exact notS _ (of_pinsAt hq).1, gl0.apart, gl0.over, gl0.split, gl0.guard, rfl⟩
        have un : ∀ {ys7 : List V} {σ7 : L2.St} {H7 : Hp} {s7 : Shared}, GI X S (ip ++ pinsAt fp s5.heap) ys7 σ7 H7 s7 → GI X S ip ys7 σ7 H7 s7 := fun ⟨acc7, c7, r7, I7⟩ => ⟨acc7, c7, r7, Inv.unpinned (pins := (S, lstObj acc7 c7) :: ip) (pl := pinsAt fp s5.heap) I7⟩
        have again : ∀ {n' : Nat} {s₀' : Shared} {ys7 : List V} {σ7 : L2.St} {H7 : Hp} {s7 : Shared}, n' + ys7.length = sizeLine → GI X S (ip ++ pinsAt fp s5.heap) ys7 σ7 H7 s7 → N ys7 σ7 H7 →
            Seg (model X.prog X.w) A R (GY X S) n' s₀' (.forLoop tg (.ref it) body [] X.env) (.pure (.again (.forLoop tg (.ref it) body [] X.env)))
              (.ret (fun r => ((match r with | .ok f => (.pure f : Sem Flow) | .error e => .raise e).onRaise (cameBack X.env)).wrap K J gd lv) none (gd false) (lv []) c p [] :: fs) s7 := fun {n' s₀' ys7 σ7 H7 s7} hn7 I7 n7 => by
          obtain ⟨m', hm, w7⟩ := hN ys7 σ7 H7 n7
          obtain ⟨acc7, c7, r7, J7⟩ := id I7
          refine seg_again rfl (ih m' hm n' ys7 s₀' s7 σ7 H7 (i + 1) hn7 w7 (un I7) (T.keep _ _ _ st5 fun b hb o e => (J7.pin (b, o) (List.mem_append_right _ (List.mem_cons_of_mem _ (List.mem_append_right _ (mem_pinsAt hb e))))).1) fun b hb => ?_)
          obtain ⟨o, e, d⟩ := T.obj _ _ st5 b hb
          exact (J7.pin (b, o) (List.mem_append_right _ (List.mem_cons_of_mem _ (List.mem_append_right _ (mem_pinsAt hb e))))).2.1
        refine hb.run A S (ip ++ pinsAt fp s5.heap) R n ys s₀ _ _ _ _ id id s6 σ6 H6 { D with nx := N, ct := N, bk := D.nx } gl2 hn ⟨fun n' ys' s₀' s7 f hn' hs7 => ?_, fun n' s₀' x s7 hx => seg_back hp gc k rfl rfl hx⟩ ⟨acc3, c3, r3, I6⟩ q6
        cases f with
        | next => obtain ⟨σ7, H7, I7, n7⟩ := hs7; exact again hn' I7 n7
        | cont => obtain ⟨σ7, H7, I7, n7⟩ := hs7; exact again hn' I7 n7
        | brk =>
          obtain ⟨σ7, H7, I7, n7⟩ := hs7
          exact seg_leaf (.ok .next) (k.ok n' ys' s₀' s7 .next hn' ⟨σ7, H7, un I7, n7⟩)
        | ret v =>
          obtain ⟨x7, σ7, H7, I7, r7, q7⟩ := hs7
          exact seg_leaf (.ok (.ret v)) (k.ok n' ys' s₀' s7 (.ret v) hn' ⟨x7, σ7, H7, un I7, r7, q7⟩)
  exact loop m0 n ys s₀ s2 σ H2 0 hn w0 ⟨acc, cc, r, I2⟩ st2 fun b hb => (f2 b hb).1
end
end WL
set_option Elab.async false
set_option linter.all false
set_option maxRecDepth 100000
set_option maxHeartbeats 1000000
/-! super().__init__(..) in the __init__ of a class over a class of the program's own -/
namespace WL
open PySem PySem.Spec PyProof.Rows L2 NdefX
/-- an __init__ that speaks of super(): its function object, its cell, its code -/
structure OwnI (P : Program) (K : PySem.W.Frag) (C f : Addr) (st : Stmt) (fd : FuncData) : Prop where
  ex : ∃ (oc : Value) (od : Option Addr) (osl : Array (Option Value)) (nm qual : Str) (doc pm ctv : Value) (an : Option Addr) (cda cc : Addr),
    fd = PySem.W.fnX nm qual (defArgs st) (defBody st) (defScope st) [(("__class__" : Str), cc)] .none .none doc pm an (.ref cda) ctv ∧ K.lookup f = some ⟨oc, od, .func fd, osl⟩ ∧
    (∃ cl cld csl, K.lookup cc = some ⟨cl, cld, .cell (some (.ref C)), csl⟩) ∧
    (∃ ccl cdd vs ccs file tf, K.lookup cda = some ⟨ccl, cdd, .fields vs, ccs⟩ ∧ (vs[2]? : Option Value) = some (.str file tf) ∧ ((P.main.file : Str) == file) = true) ∧ PySem.W.codeIn K (.ref cda) qual = true
theorem ownI_ok {P : Program} {K : PySem.W.Frag} {C : Addr} {d : DefX} (hC : d.C K = C) (hd : d.nd = true) (h : exIB K P.main.file C (d.ad K) = true) (e : fnX K (d.ad K) = d.val) : ∃ fd, OwnI P K C (d.ad K) d.st fd := by
  unfold exIB at h
  unfold fnX at e
  split at h
  · next oc od fd osl lk =>
    rw [lk] at e
    simp only [DefX.val, Option.some.injEq, Prod.mk.injEq] at e
    obtain ⟨e1, e2, e3, e4, e5, e6⟩ := e
    obtain ⟨h1, h⟩ := He.ba h
    obtain ⟨h2, h3⟩ := He.ba h
    split at h1
    · next x cc ec =>
      obtain ⟨a, b⟩ := He.ba h1
      split at b
      · next cl cld C' csl el =>
        split at h2
        · next cda ecd =>
          split at h2
          · next ccl cdd vs ccs el2 =>
            split at h2
            · next fl tf ev =>
              rw [of_decide_eq_true a] at ec
              rw [of_decide_eq_true b] at el
              obtain ⟨c1, c2, c3, c4, c5, c6, c7, c8, c9, d1, d2, d3, d4, d5, d6⟩ := fd
              simp only at e1 e2 e3 e4 e5 ec ecd h3
              rw [hd] at e6
              unfold noDfl at e6
              simp only at e6
              split at e6
              · subst e1 e2 e3 e4 e5 ec ecd
                exact ⟨_, ⟨oc, od, osl, _, _, _, _, _, _, cda, cc, rfl, lk, ⟨cl, cld, csl, el⟩, ⟨ccl, cdd, vs, ccs, fl, tf, el2, ev, h2⟩, h3⟩⟩
              · cases e6
            · cases h2
          · cases h2
        · cases h2
      · cases b
    · cases h1
  · cases h
/-- what the class says of super().__init__ -/
structure SupC (P : Program) (K : PySem.W.Frag) (mg : Str → Option Value) (C f2 : Addr) : Prop where
  sup : PySem.W.ks_superIn K C C "__init__" = some (some (.ref f2))
  ty2 : PySem.W.typeIn K (.ref f2) = some (.type "function")
  fn2 : PySem.W.fnIn K f2 = true
  opq : PySem.W.nsIn K cStatics "thirdparty.any" = some none
  slf : PySem.W.mroIn K C (.ref C) = some true
  cls : ∃ cd, PySem.W.clsIn K C = some cd
  free : mg "super" = none
  top : (List.lookup ("super" : Str) P.main.scope.names).isSome = false
section
variable {P : Program} {w : World} {K : PySem.W.Frag} {mg : Str → Option Value} {base : Heap} {CX CX2 : CXT} {N ps ps2 : List Str} {k k2 : Nat} {C f f2 : Addr} {st : Stmt} {fd fd2 : FuncData} {sp sp2 : Sp}
theorem fnOk_sup {p0 p1 p2 p3 p4 : Pos} {e : Expr} {es : List Expr} {rest : List Stmt} (O : OwnI P K C f st fd) (M : SupC P K mg C f2) (S : NScope N ps ["__class__"] (defScope st)) (hps : ps[0]? = some ("self" : Str)) (hN0 : N[0]? = some ("self" : Str))
    (hbd : defBody st = .Expr (.Call (.Attribute (.Call (.Name "super" p0) [] [] p1) "__init__" p2) (e :: es) [] p3) p4 :: rest) (hpos : (p2.endLine == p3.line) = true)
    (hks : (defScope st).names.lookup ("super" : Str) = some .globalImplicit)
    (first : ∃ ar, ((defArgs st).posonlyargs ++ (defArgs st).args).head? = some ar ∧ ar.arg = ("self" : Str))
    (few : ∀ env, methodCallForm ((e :: es).length + ([] : List Keyword).length) (backTo p3 (starEach (e :: es) env)) (backToKw p3 (keywordEach [] env)) = true)
    (F2 : FnOk P w K mg base CX2 k2 f2 fd2 ps2 sp2) (B2 : Binds K fd2 ps2 []) (hk : k2 ≤ k)
    (len : ∀ vs H Q E, sp vs H Q E → vs.length = ps.length)
    (hbody : ∀ (F : NF) (A : Around) (outer : List Env) (s : Shared) (H : Hp) (vs : List V) (Q : VK) (E : XK), F.scope = defScope st → Room k (A.deeper (envF F f s.heap.objs.size)) → sp vs H Q E →
      ∃ (a dx : Addr) (fs : List (Str × V)) (vs' : List V) (ta : TA) (t : TS) (E2 : XK), vs = .ref a :: vs' ∧ H a = some (.ins C dx fs) ∧ PA (ncx CX P w K mg base N F f A outer s H E) (e :: es) ta ∧ PSs (ncx CX P w K mg base N F f A outer s H E) rest t ∧ Passes CX2 (ncx CX P w K mg base N F f A outer s H E) E2 ∧
        starEach (e :: es) (envF F f s.heap.objs.size) = (false, eval e (envF F f s.heap.objs.size)) :: starEach es (envF F f s.heap.objs.size) ∧ (backTo p3 (starEach es (envF F f s.heap.objs.size))).any (·.1) = false ∧
        ta (startF N vs [some (.ref C)]) H fun ws H1 => sp2 (.ref a :: ws) H1 (fun v H2 => t { nx := fun _ H' => Q .non H', rt := Q } (startF N vs [some (.ref C)]) H2) E2) :
    FnOk P w K mg base CX (k + 1) f fd ps sp := by
  refine ⟨len, fun A outer s H args us vs Q E hr e0 hbind r hsp => ?_⟩
  obtain ⟨oc, od, osl, nm, qual, doc, pm, ctv, an, cda, cc, rfl, lk, ⟨cl, cld, csl, hcell⟩, ⟨ccl, cdd, cvs, ccs, file, tf, hcode, hvs, hfile⟩, hcd⟩ := O.ex
  have hl := len _ _ _ _ hsp
  have KX : K.In s.heap := e0.mod.kin.keeps fun b o e => (e0.bs b o e).1
  have lim : s.heap.NoLimit := e0.mod.nolimit.keeps fun b o e => (e0.bs b o e).1
  obtain ⟨F, hF⟩ : ∃ F : NF, F = ⟨nm, qual, defArgs st, defBody st, defScope st, [(("__class__" : Str), cc)], cda⟩ := ⟨_, rfl⟩
  have hFsc : F.scope = defScope st := by rw [hF]
  have CA : CellsAt F.cl ["__class__"] [some (V.ref C)] s.heap H := by
    have ccN : H cc = none := (e0.bs _ _ (e0.mod.kin _ _ hcell)).2
    have isc : s.heap.IsCell cc (some (.ref C)) := ⟨_, KX _ _ hcell, rfl⟩
    rw [hF]
    have one : ∀ {y : Str} {c : Addr}, List.lookup y [(("__class__" : Str), cc)] = some c → y = "__class__" ∧ c = cc := fun {y c} h => by
      rw [List.lookup_cons] at h
      split at h
      · next e => exact ⟨eq_of_beq e, (Option.some.inj h).symm⟩
      · cases h
    refine ⟨rfl, fun y c h => ?_, fun x y c h1 h2 => (one h1).1.trans (one h2).1.symm, fun i y h => ?_⟩
    · rw [(one h).2]
      exact ⟨ccN, _, isc⟩
    · match i, h with
      | 0, h =>
        have h : some ("__class__" : Str) = some y := h
        cases h
        refine ⟨cc, rfl, fun v hv => ?_⟩
        cases hv
        exact ⟨.ref C, rfl, isc⟩
      | i + 1, h => simp at h
  refine ks_codeAny_call_defAt (body := defBody st) (binds := ps.zip us) hr.depth (KX _ _ lk) rfl lim (PySem.W.codeRec_of KX hcd) rfl hbind S.nocell (fun ⟨n, _⟩ hy => S.par n (List.of_mem_zip hy).1) (fun h₁ hns kp => ?_) S.co S.gen S.kind
  have henv : callEnv (PySem.W.fnX nm qual (defArgs st) (defBody st) (defScope st) [(("__class__" : Str), cc)] .none .none doc pm an (.ref cda) ctv) s.heap.objs.size f = envF F f s.heap.objs.size := by rw [hF]; rfl
  rw [henv]
  have hr' : Room k (A.deeper (envF F f s.heap.objs.size)) := hr.deeper _
  obtain ⟨a, dx, fs, vs', ta, t, E2, hvs', ha, hPA, hPS, hx, h1, h2, hq⟩ := hbody F A outer s H vs Q E hFsc hr' hsp
  have S' : NScope N ps ["__class__"] F.scope := by rw [hFsc]; exact S
  have I : Inv (ncx CX P w K mg base N F f A outer s H E) [] (startF N vs [some (.ref C)]) H { s with heap := h₁, toks := s.toks + (ps.zip us).length } := inv_startN S' hr.hd e0 hl r CA hns kp
  have fin : ∀ {σ' : L2.St} {H' : Hp} {v : V} {u : Value} {s' : Shared}, Inv (ncx CX P w K mg base N F f A outer s H E) [] σ' H' s' → L2.RelV v u → Q v H' → CE outer P w H s Q u s' :=
    fun {σ' H' v u s'} J rv q => ⟨v, H', J.os, J.bare, J.base, J.hok, rv, q⟩
  have kf : (envF F f s.heap.objs.size).scope.kind = .function := S'.kind
  rw [hbd]
  have kf0 : F.scope.kind = .function := S'.kind
  refine ks_wpAt_execs_cons (ks_wpAt_Expr_any ?_ (by simp [interactive, kf0]) rfl)
  refine ks_wpAt_MethodCall (pl := do return (← importBound (.Call (.Name "super" p0) [] [] p1) (envF F f s.heap.objs.size)).getD true) ?_ ?he
  case he =>
    have fw := few (envF F f s.heap.objs.size)
    show (attributeBase _ _ _ _ >>= fun ov => standAt _ >>= fun _ => methodCall _ _ _ _ _ ov _ _ _) = _
    unfold methodCall
    rw [fw]
    unfold methodCallPos calleeOf
    simp only [Bool.not_true, Bool.false_or, hpos, if_true, pure_bind, bind_assoc]
    rfl
  obtain ⟨ar, har, hself⟩ := first
  obtain ⟨cdC, hcls⟩ := M.cls
  have ks : (envF F f s.heap.objs.size).kindOf "super" = some .globalImplicit := by show F.scope.names.lookup _ = _; rw [hFsc]; exact hks
  have kc : (envF F f s.heap.objs.size).kindOf "__class__" = some .free := S'.frk _ List.mem_cons_self
  have kself : (envF F f s.heap.objs.size).kindOf "self" = some .local := S'.par _ (List.mem_of_getElem? hps)
  obtain ⟨mb, bl, bb⟩ := I.ok.mod.blt
  obtain ⟨mA, O1, _, _, _, _⟩ := ins_get I.hok ha
  obtain ⟨oD, hD1, hD2⟩ : ∃ oD, h₁.get? C = some oD ∧ oD.data = .cls cdC := by
    unfold PySem.W.clsIn at hcls
    split at hcls
    · rename_i c d cd' sl ho
      cases hcls
      exact ⟨_, I.kIn _ _ ho, rfl⟩
    · cases hcls
  refine PySem.ks_wpAt_super_base (fd := PySem.W.fnX nm qual (defArgs st) (defBody st) (defScope st) [(("__class__" : Str), cc)] .none .none doc pm an (.ref cda) ctv) ks kc (by decide) rfl (kp _ _ (KX _ _ lk)) rfl har (by rw [hF]) (I.kIn _ _ hcode) rfl hvs hfile M.top ?_
  refine PySem.W.ks_loadName_global kf ks (Calls.loadGlobal_builtin (I.ok.mod.glob.keeps I.bk) M.free (bl.keeps I.bk) ((bb _ (by decide +kernel)).trans PyProof.Rows.Boot.«super») ⟨rfl, ?_⟩)
  refine wpAny_loadName_free kf kc (by rw [hF]; rfl) ⟨_, I.kIn _ _ hcell, rfl⟩ ?_
  rw [hself]
  obtain ⟨m, hm, hlook⟩ := I.loc
  obtain ⟨uS, ruS, lkS⟩ := hlook 0 "self" (.ref a) hN0 (by
    show (startF N vs [some (V.ref C)])[0]? = _
    rw [hvs']; rfl) (Or.inl kself)
  cases ruS
  have hmS : m "self" = some (.ref a) := by
    rcases lkS with ⟨_, z⟩ | ⟨z, _⟩
    · exact z
    · have ks' : (ncx CX P w K mg base N F f A outer s H E).env.kindOf "self" = some .local := kself
      rw [ks'] at z
      rcases z with z | z <;> cases z
  refine wpAny_loadName_local kf kself hm hmS ?_
  refine PySem.ks_wpAny_isType_cls hD1 hD2 ⟨rfl, ?_⟩
  obtain ⟨ox, hox1, hox2, hox3⟩ : ∃ ox : Obj, h₁.get? a = some ox ∧ ox.cls = .ref C ∧ ∀ c, ox.data ≠ .cls c := by
    obtain ⟨q1, _, _⟩ := O1
    exact ⟨_, q1, rfl, fun c z => nomatch z⟩
  refine PySem.ks_wpAny_call_super hD1 hD2 hox1 hox2 hox3 (PySem.W.looks_mroIn I.kIn M.slf) ?_
  intro h2' e1 k1'
  have I2 : Inv (ncx CX P w K mg base N F f A outer s H E) [] (startF N vs [some (.ref C)]) H { s with heap := h2', toks := s.toks + (ps.zip us).length } := I.kept (t' := s.toks + (ps.zip us).length) k1'
  have haC : a ≠ C := fun z => by
    rw [z, hD1] at hox1
    cases hox1
    exact hox3 _ hD2
  have hsup := M.sup
  unfold PySem.W.ks_superIn at hsup
  rw [hcls] at hsup
  obtain ⟨of, hof, hofc⟩ : ∃ of, h2'.get? f2 = some of ∧ of.cls = .type "function" := by
    have ht' : (K.lookup f2).map (·.cls) = some (.type "function") := M.ty2
    cases z : K.lookup f2 with
    | none => rw [z] at ht'; cases ht'
    | some of => rw [z] at ht'; exact ⟨of, I2.kIn _ _ z, Option.some.inj ht'⟩
  refine PySem.ks_wpAny_getMethod_super e1 (PySem.W.looks_opaque I2.kIn M.opq) (l₀ := cdC.mro) (fun A Q E s k q => wpAny_bind ((PySem.W.looks_clsIn I2.kIn hcls) A _ E s k (wpAny_pure q))) rfl I2.kIn hsup hof hofc haC (by decide) ?_
  have I3 : Inv (ncx CX P w K mg base N F f A outer s H E) ((h2'.objs.size, PySem.W.methodObj (.ref f2) (.ref a)) :: []) (startF N vs [some (.ref C)]) H { s with heap := h2'.push (PySem.W.methodObj (.ref f2) (.ref a)), toks := s.toks + (ps.zip us).length + 1 } :=
    ClX.pin_new (s := { s with heap := h2', toks := s.toks + (ps.zip us).length }) I2 (fun _ _ z => Heap.get?_push_of_some _ z) (Nat.le_refl _) (Heap.get?_push_size h2' rfl) (fun v z => nomatch z)
  have hL3 := (I3.pin (h2'.objs.size, PySem.W.methodObj (.ref f2) (.ref a)) (List.mem_append_right _ List.mem_cons_self)).2.2.1
  refine PySem.W.callWith_M (K := K) (h₀ := base) (first := []) I3.ok.mod.kin (news_at hL3 (ClX.base_none I2 (Nat.le_refl _)) (ClX.pin_at I3)) List.mem_cons_self M.fn2 (thn (hPA.run p3 _ _ _ H _ I3 hq) fun us2 s4 ⟨ws, H1, I4, r4, q4⟩ => ⟨⟨ClX.pin_at I4, I4.kIn⟩, ?_⟩) h1 h2
  have r5 : Vals (V.ref a :: ws) (Value.ref a :: us2) := .cons rfl r4
  have hl5 : (Value.ref a :: us2 ++ []).length = ps2.length := by
    rw [List.append_nil, ← r5.length]
    exact F2.len _ _ _ _ q4
  have bb5 : BindsTo s4 fd2 ⟨Value.ref a :: us2, []⟩ (ps2.zip (Value.ref a :: us2)) := by
    have z := B2 s4 (Value.ref a :: us2) I4.kIn hl5
    rw [List.append_nil] at z
    exact z
  refine wpAny_call (PySem.W.method_call (ClX.pin_at I4) (codeAny_mono (F2.run (ncx CX P w K mg base N F f A outer s H E).A (ncx CX P w K mg base N F f A outer s H E).stack s4 H1 ⟨.ref a :: us2, []⟩ (.ref a :: us2) (.ref a :: ws) _ E2 (hr'.mono hk) I4.env0 bb5 r5 q4) fun r6 s6 hq6 => ?_))
  cases r6 with
  | error e6 => exact hx _ _ _ _ _ _ I4 hq6
  | ok fl =>
    cases fl with
    | ret u =>
      obtain ⟨v6, H6, I6, _, q6⟩ := I4.after hq6
      have I7 := ClX.unpin I6
      refine wpAt_of_wpAny (wpAny_mono (hPS.run [] _ _ _ _ I7 q6) (fun fl7 s7 hs7 => ?_) fun e7 s7 hs7 => hs7)
      cases fl7 with
      | ret u7 =>
        obtain ⟨v, σ', H', J, rv, q⟩ := hs7
        exact fin J rv q
      | next =>
        obtain ⟨σ', H', J, q⟩ := hs7
        exact fin (v := V.non) (u := Value.none) J rfl q
      | brk =>
        obtain ⟨_, _, _, q⟩ := hs7
        exact False.elim q
      | cont =>
        obtain ⟨_, _, _, q⟩ := hs7
        exact False.elim q
    | next => exact False.elim hq6
    | brk => exact False.elim hq6
    | cont => exact False.elim hq6
end
end WL
set_option Elab.async false
set_option linter.all false
set_option maxRecDepth 100000
set_option maxHeartbeats 1000000
/-! events as objects: what is known of their classes, what their defs promise -/
namespace WL
open PySem PySem.Spec PyProof.Rows L2 NdefX
/-- a class of events -/
structure EvO (K : PySem.W.Frag) (C : Addr) : Prop where
  cls : Cls K C
  n1 : NoAttr K C "_number"
  n2 : NoAttr K C "_modulus"
  n3 : NoAttr K C "_weekday"
  g1 : PySem.W.findIn K (.ref C) "__class__" = some (some (.builtin "object.__class__"))
  g2 : PySem.W.specialIn K (.builtin "object.__class__") "__get__" = some (some (.builtin "getset_descriptor.__get__"))
  g3 : PySem.W.takesIn K (.builtin "object.__class__") = some true
  g4 : PySem.W.mroIn K C (.type "object") = some true
theorem EvO.ty {K : PySem.W.Frag} {C a dx : Addr} {fs : List (Str × V)} {H : Hp} (D : EvO K C) (h : H a = some (.ins C dx fs)) : TyX K H (.ref a) (.ref C) := .base (.ins h D.cls D.g1 D.g2 D.g3 D.g4)
def evFs (n c : V) : Option Int → List (Str × V)
  | none => [("_number", n), ("_modulus", c)]
  | some w => [("_number", n), ("_modulus", c), ("_weekday", .int w)]
/-- the class that an event with this note has -/
def evC (DE UE : Addr) : Option Int → Addr
  | none => UE
  | some _ => DE
def EvAt (DE UE : Addr) (H : Hp) (v : V) (n c : Int) (note : Option Int) : Prop := ∃ a dx, v = .ref a ∧ H a = some (.ins (evC DE UE note) dx (evFs (.int n) (.int c) note))
theorem EvAt.same {DE UE : Addr} {H H' : Hp} {v : V} {n c : Int} {note : Option Int} (h : EvAt DE UE H v n c note) (k : ∀ b o, H b = some o → H' b = some o) : EvAt DE UE H' v n c note := by
  obtain ⟨a, dx, e, q⟩ := h
  exact ⟨a, dx, e, k _ _ q⟩
theorem EvAt.keep {DE UE : Addr} {H H' : Hp} {v : V} {n c : Int} {note : Option Int} (h : EvAt DE UE H v n c note) (k : Ik H H') : EvAt DE UE H' v n c note := by
  obtain ⟨a, dx, e, q⟩ := h
  exact ⟨a, dx, e, k _ _ _ _ q⟩
/-- events of these notes, numbered from i on -/
inductive Evs (DE UE : Addr) (c : Int) (H : Hp) : Nat → List V → List (Option Int) → Prop
  | nil {i : Nat} : Evs DE UE c H i [] []
  | cons {i : Nat} {v : V} {vs : List V} {n : Option Int} {ns : List (Option Int)} (h : EvAt DE UE H v (i : Nat) c n) (t : Evs DE UE c H (i + 1) vs ns) : Evs DE UE c H i (v :: vs) (n :: ns)
theorem Evs.same {DE UE : Addr} {c : Int} {H H' : Hp} (k : ∀ b o, H b = some o → H' b = some o) : ∀ {i : Nat} {vs : List V} {ns : List (Option Int)}, Evs DE UE c H i vs ns → Evs DE UE c H' i vs ns
  | _, _, _, .nil => .nil
  | _, _, _, .cons h t => .cons (h.same k) (t.same k)
theorem Evs.keep {DE UE : Addr} {c : Int} {H H' : Hp} (k : Ik H H') : ∀ {i : Nat} {vs : List V} {ns : List (Option Int)}, Evs DE UE c H i vs ns → Evs DE UE c H' i vs ns
  | _, _, _, .nil => .nil
  | _, _, _, .cons h t => .cons (h.keep k) (t.keep k)
theorem Evs.length {DE UE : Addr} {c : Int} {H : Hp} : ∀ {i : Nat} {vs : List V} {ns : List (Option Int)}, Evs DE UE c H i vs ns → vs.length = ns.length
  | _, _, _, .nil => rfl
  | _, _, _, .cons _ t => by rw [List.length_cons, List.length_cons, t.length]
theorem Evs.snoc {DE UE : Addr} {c : Int} {H : Hp} : ∀ {i : Nat} {vs : List V} {ns : List (Option Int)} {v : V} {n : Option Int}, Evs DE UE c H i vs ns → EvAt DE UE H v ((i + vs.length : Nat) : Int) c n → Evs DE UE c H i (vs ++ [v]) (ns ++ [n])
  | i, _, _, v, n, .nil, q => .cons (by simpa using q) .nil
  | i, _, _, v, n, .cons (vs := vs) h t, q => by
    refine .cons h (t.snoc ?_)
    have e : i + 1 + vs.length = i + (vs.length + 1) := by omega
    rw [e]
    exact q
theorem Evs.get {DE UE : Addr} {c : Int} {H : Hp} : ∀ {i : Nat} {vs : List V} {ns : List (Option Int)}, Evs DE UE c H i vs ns → ∀ {j : Nat} {v : V}, vs[j]? = some v → ∃ n, ns[j]? = some n ∧ EvAt DE UE H v ((i + j : Nat) : Int) c n
  | _, _, _, .nil, j, v, h => by simp at h
  | i, _, _, .cons h t, 0, v, e => by
    cases e
    exact ⟨_, rfl, h⟩
  | i, _, _, .cons h t, j + 1, v, e => by
    obtain ⟨n, e1, e2⟩ := t.get (j := j) (by simpa using e)
    have e3 : i + 1 + j = i + (j + 1) := by omega
    rw [e3] at e2
    exact ⟨n, e1, e2⟩
/-- the greatest day up to this one -/
def latD (c : Int) : Option Int → Int → Int
  | none, i => i
  | some w, i => i - (i - w) % c
/-- the weekdays that it can have -/
def choD (c : Int) : Option Int → List Int
  | none => (List.range c.toNat).map fun n => (n : Nat)
  | some w => [w]
theorem latD_self {c w : Int} (h : 0 ≤ w ∧ w < c) {i : Int} (hi : 0 ≤ i ∧ i < c) : (latD c (some w) i = i) ↔ i = w := by
  show i - (i - w) % c = i ↔ i = w
  have hc : 0 < c := by omega
  constructor
  · intro e
    have z : (i - w) % c = 0 := by omega
    have d := Int.dvd_of_emod_eq_zero z
    obtain ⟨k, hk⟩ := d
    have : k = 0 := by
      rcases Int.lt_trichotomy k 0 with q | q | q
      · exfalso
        have : c * k ≤ c * (-1) := Int.mul_le_mul_of_nonneg_left (by omega) (by omega)
        omega
      · exact q
      · exfalso
        have : c * 1 ≤ c * k := Int.mul_le_mul_of_nonneg_left (by omega) (by omega)
        omega
    subst this
    omega
  · rintro rfl
    simp
theorem latD_idem {c : Int} (hc : 0 < c) (o : Option Int) (i : Int) : latD c o (latD c o i) = latD c o i := by
  cases o with
  | none => rfl
  | some w =>
    show (i - (i - w) % c) - ((i - (i - w) % c) - w) % c = i - (i - w) % c
    have e : i - (i - w) % c - w = c * ((i - w) / c) := by
      have := Int.emod_add_mul_ediv (i - w) c
      omega
    have z : (i - (i - w) % c - w) % c = 0 := by rw [e]; exact Int.mul_emod_right _ _
    omega
/-- a property that several classes have of one -/
def tPropA (K : PySem.W.Frag) (n : Str) (p g : Addr) (sp : Sp) (E : XK) (ta : TE) : TE := fun σ H Q => ta σ H fun x H1 => ∃ a C dx fs, x = .ref a ∧ H1 a = some (.ins C dx fs) ∧ Cls K C ∧ PropOf K C n p g ∧ sp [.ref a] H1 Q E
theorem pe_propA {X : Cx} {CX : CXT} {k : Nat} {p g : Addr} {f : Str} {fd : FuncData} {ps : List Str} {sp : Sp} {E : XK} {e : Expr} {pos : Pos} {ta : TE} (he : PE X e ta) (F : FnOk X.prog X.w X.K X.mg X.base CX k g fd ps sp) (hr : Room (k + 1) X.A) (hb : Binds X.K fd ps []) (hx : Passes CX X.nox E)
    (hab : attributeBase e f X.env (eval e X.env) = eval e X.env := by rfl) : PE X (.Attribute e f pos) (tPropA X.K f p g sp E ta) := by
  refine ⟨fun pins s σ H Q I h => ?_⟩
  refine attr_of hab (thn (he.run pins s σ H _ I h) fun u s1 ⟨x, H1, I1, rx, a, C, dx, fs, ex, ea, c, hp, q⟩ => ?_)
  subst ex
  obtain rfl : u = Value.ref a := rx
  exact getprop_ok I1 ea c hp F hr hb .nil hx q
/-! ### what the defs promise -/
def spEvInit (K : PySem.W.Frag) : Sp := fun vs H Q _ => ∃ (C a dx : Addr) (x y : V), vs = [.ref a, x, y] ∧ EvO K C ∧ H a = some (.ins C dx []) ∧ ∀ H', H' a = some (.ins C dx [("_number", x), ("_modulus", y)]) → (∀ b o, b ≠ a → H b = some o → H' b = some o) → Q .non H'
def spEvInitD (DE : Addr) : Sp := fun vs H Q _ => ∃ (a dx : Addr) (x y z : V), vs = [.ref a, x, y, z] ∧ H a = some (.ins DE dx []) ∧ ∀ H', H' a = some (.ins DE dx [("_number", x), ("_modulus", y), ("_weekday", z)]) → (∀ b o, b ≠ a → H b = some o → H' b = some o) → Q .non H'
def spGetA (K : PySem.W.Frag) (f : Str) : Sp := fun vs H Q _ => ∃ (C a dx : Addr) (fs : List (Str × V)) (v : V), vs = [.ref a] ∧ EvO K C ∧ H a = some (.ins C dx fs) ∧ fs.lookup f = some v ∧ Q v H
def spLat (K : PySem.W.Frag) (DE UE IN : Addr) (dt : Bool) : Sp := fun vs H Q E => ∃ (v y : V) (n c : Int) (note : Option Int) (s : Sh), vs = [v, y] ∧ note.isSome = dt ∧ 2 ≤ c ∧ EvAt DE UE H v n c note ∧ AnS K H y s ∧ (∀ i, s = .int i → Q (.int (latD c note i)) H) ∧
  (s.isInt = false → ∀ d, H d = none → E (.ref IN) (some d) (upd H d (.xd [("value", y)])))
def spFits (K : PySem.W.Frag) (DE UE IN : Addr) : Sp := fun vs H Q E => ∃ (v y : V) (n c : Int) (note : Option Int) (s : Sh), vs = [v, y] ∧ 2 ≤ c ∧ EvAt DE UE H v n c note ∧ AnS K H y s ∧ (∀ i, s = .int i → Q (.bl (decide (latD c note i = i))) H) ∧
  (s.isInt = false → ∀ d, H d = none → E (.ref IN) (some d) (upd H d (.xd [("value", y)])))
def spCho (DE UE : Addr) : SpG := fun vs H Q _ => ∃ (v : V) (n c : Int) (note : Option Int), vs = [v] ∧ (2 ≤ c ∧ c ≤ 100) ∧ (∀ w, note = some w → 0 ≤ w ∧ w < c) ∧ EvAt DE UE H v n c note ∧ ∀ H', (∀ b o, H b = some o → H' b = some o) → Q ((choD c note).map V.int) H'
def spEvent (K : PySem.W.Frag) (DC DE UE IE : Addr) : Sp := fun vs H Q E => ∃ (v y : V) (c w : Int) (ns : List (Option Int)) (ls : List (Int × Int × Int)) (s : Sh), vs = [v, y] ∧ DiaAt DC H v c ns ls ∧ DOK c ns ls w ∧ AnS K H y s ∧
  (∀ (i : Nat) (n : Option Int), s = .int (i : Nat) → ns[i]? = some n → ∀ (x : Addr) (H' : Hp), H x = none → EvAt DE UE H' (.ref x) (i : Nat) c n → (∀ b o, H b = some o → H' b = some o) → Q (.ref x) H') ∧
  (s.within 0 ((ns.length : Int) - 1) = false → ∀ d, H d = none → E (.ref IE) (some d) (upd H d (.xd [("value", y)])))
def spEvsG (DC DE UE : Addr) : SpG := fun vs H Q _ => ∃ (v : V) (c w : Int) (ns : List (Option Int)) (ls : List (Int × Int × Int)), vs = [v] ∧ DiaAt DC H v c ns ls ∧ DOK c ns ls w ∧ ∀ (xs : List V) (H' : Hp), Evs DE UE c H' 0 xs ns → (∀ b o, H b = some o → H' b = some o) → Q xs H'
/-! ### loops of generators read -/
theorem gfor_range {lo : Int} {n : Nat} {g : TG} {tb : TGn} {D : GEnds} {ys : List V} {σ : L2.St} {H : Hp} (Pv : Nat → List V → L2.St → Hp → Prop) (h0 : Pv 0 ys σ H)
    (hs : ∀ i ys σ H, i < n → Pv i ys σ H → g (.int (lo + i)) σ H fun σ2 H2 => tb { D with nx := Pv (i + 1), ct := Pv (i + 1), bk := D.nx } ys σ2 H2) (hd : ∀ ys σ H, Pv n ys σ H → D.nx ys σ H) :
    ∃ W : Nat → Nat → List V → L2.St → Hp → Prop, (∃ m, W 0 m ys σ H) ∧ ∀ i m ys σ H, W i m ys σ H →
      ((Itr lo n).stop i H ∧ D.nx ys σ H) ∨ ((Itr lo n).go i H ∧ ∃ N : List V → L2.St → Hp → Prop, (∀ ys' σ' H', N ys' σ' H' → ∃ m', m' < m ∧ W (i + 1) m' ys' σ' H') ∧ ∀ x H', (Itr lo n).yld i H x H' → g x σ H' fun σ2 H2 => tb { D with nx := N, ct := N, bk := D.nx } ys σ2 H2) := by
  refine ⟨fun i m ys σ H => m = n - i ∧ i ≤ n ∧ Pv i ys σ H, ⟨n, by simp, Nat.zero_le _, h0⟩, ?_⟩
  rintro i m ys σ H ⟨rfl, hi, p⟩
  by_cases hlt : i < n
  · refine .inr ⟨hlt, Pv (i + 1), fun ys' σ' H' p' => ⟨n - (i + 1), by omega, rfl, hlt, p'⟩, fun x H' y => ?_⟩
    obtain ⟨e, y⟩ := y
    subst e y
    exact hs i ys σ _ hlt p
  · have e : i = n := by omega
    subst e
    exact .inl ⟨Nat.le_refl _, hd ys σ H p⟩
theorem gg_seq {t u : TGn} {D : GEnds} {ys : List V} {σ : L2.St} {H : Hp} (h : t { D with nx := fun ys' σ' H' => u D ys' σ' H' } ys σ H) : tGThen t u D ys σ H := h
theorem gg_for {wi : TI} {g : TG} {tb : TGn} {D : GEnds} {ys : List V} {σ : L2.St} {H : Hp} (h : wi σ H fun J H1 => ∃ W : Nat → Nat → List V → L2.St → Hp → Prop, (∃ m, W 0 m ys σ H1) ∧ ∀ i m ys σ H, W i m ys σ H →
  (J.stop i H ∧ D.nx ys σ H) ∨ (J.go i H ∧ ∃ N : List V → L2.St → Hp → Prop, (∀ ys' σ' H', N ys' σ' H' → ∃ m', m' < m ∧ W (i + 1) m' ys' σ' H') ∧ ∀ x H', J.yld i H x H' → g x σ H' fun σ2 H2 => tb { D with nx := N, ct := N, bk := D.nx } ys σ2 H2)) : tGFor wi g tb D ys σ H := h
theorem gg_nil {D : GEnds} {ys : List V} {σ : L2.St} {H : Hp} (h : D.nx ys σ H) : tG0 D ys σ H := h
theorem gg_if {c : TT} {t u : TGn} {D : GEnds} {ys : List V} {σ : L2.St} {H : Hp} (h : c σ H fun b H1 => if b = true then t D ys σ H1 else u D ys σ H1) : tGIf c t u D ys σ H := h
theorem gg_yield {te : TE} {D : GEnds} {ys : List V} {σ : L2.St} {H : Hp} (hl : ys.length < sizeLine) (h : te σ H fun x H1 => D.nx (ys ++ [x]) σ H1) : tGYield te D ys σ H := ⟨hl, h⟩
theorem choD_step {c : Int} {o : Option Int} (hc : 2 ≤ c) (hw : ∀ w, o = some w → 0 ≤ w ∧ w < c) {i : Nat} (hi : (i : Int) < c) :
    (choD c o).filter (fun k => decide (k < ((i + 1 : Nat) : Int))) = (choD c o).filter (fun k => decide (k < (i : Int))) ++ (if latD c o i = i then [(i : Int)] else []) := by
  cases o with
  | none =>
    rw [if_pos (show latD c none i = i from rfl)]
    unfold choD
    have hi' : i < c.toNat := by omega
    have key : ∀ m : Nat, i < m → ((List.range m).map fun n => ((n : Nat) : Int)).filter (fun k => decide (k < ((i + 1 : Nat) : Int))) = ((List.range m).map fun n => ((n : Nat) : Int)).filter (fun k => decide (k < (i : Int))) ++ [(i : Int)] := by
      intro m
      induction m with
      | zero => intro h; omega
      | succ m ih =>
        intro h
        rw [List.range_succ, List.map_append, List.filter_append, List.filter_append]
        rcases Nat.lt_or_ge i m with q | q
        · have e1 : ([m].map fun n => ((n : Nat) : Int)).filter (fun k => decide (k < ((i + 1 : Nat) : Int))) = [] := by
            rw [List.map_singleton, List.filter_cons_of_neg (by simp; omega)]; rfl
          have e2 : ([m].map fun n => ((n : Nat) : Int)).filter (fun k => decide (k < (i : Int))) = [] := by
            rw [List.map_singleton, List.filter_cons_of_neg (by simp; omega)]; rfl
          rw [e1, e2, List.append_nil, List.append_nil]
          exact ih q
        · have e : m = i := by omega
          subst e
          have e1 : ([m].map fun n => ((n : Nat) : Int)).filter (fun k => decide (k < ((m + 1 : Nat) : Int))) = [(m : Int)] := by
            rw [List.map_singleton, List.filter_cons_of_pos (by simp; omega)]; rfl
          have e2 : ([m].map fun n => ((n : Nat) : Int)).filter (fun k => decide (k < (m : Int))) = [] := by
            rw [List.map_singleton, List.filter_cons_of_neg (by simp)]; rfl
          have all1 : ((List.range m).map fun n => ((n : Nat) : Int)).filter (fun k => decide (k < ((m + 1 : Nat) : Int))) = (List.range m).map fun n => ((n : Nat) : Int) := by
            rw [List.filter_eq_self]
            intro a ha
            obtain ⟨n, hn, rfl⟩ := List.mem_map.mp ha
            have := List.mem_range.mp hn
            exact decide_eq_true (by omega)
          have all2 : ((List.range m).map fun n => ((n : Nat) : Int)).filter (fun k => decide (k < (m : Int))) = (List.range m).map fun n => ((n : Nat) : Int) := by
            rw [List.filter_eq_self]
            intro a ha
            obtain ⟨n, hn, rfl⟩ := List.mem_map.mp ha
            have := List.mem_range.mp hn
            exact decide_eq_true (by omega)
          rw [e1, e2, all1, all2, List.append_nil]
    exact key _ hi'
  | some w =>
    obtain ⟨w0, w1⟩ := hw w rfl
    have z := latD_self (c := c) ⟨w0, w1⟩ (i := (i : Int)) ⟨by omega, hi⟩
    unfold choD
    by_cases e : (i : Int) = w
    · rw [if_pos (z.mpr e), List.filter_cons_of_pos (by simp; omega), List.filter_cons_of_neg (by simp; omega)]
      simp [e]
    · rw [if_neg (fun h => e (z.mp h))]
      by_cases q : w < (i : Int)
      · rw [List.filter_cons_of_pos (by simp; omega), List.filter_cons_of_pos (by simpa using q)]
        simp
      · rw [List.filter_cons_of_neg (by simp; omega), List.filter_cons_of_neg (by simpa using q)]
        simp
theorem choD_none {c : Int} {o : Option Int} (hw : ∀ w, o = some w → 0 ≤ w ∧ w < c) : (choD c o).filter (fun k => decide (k < ((0 : Nat) : Int))) = [] := by
  rw [List.filter_eq_nil_iff]
  intro a ha
  cases o with
  | none =>
    obtain ⟨n, hn, rfl⟩ := List.mem_map.mp ha
    simp
  | some w =>
    rw [List.mem_singleton.mp ha]
    have := hw w rfl
    simp; omega
theorem choD_all {c : Int} {o : Option Int} (hc : 2 ≤ c) (hw : ∀ w, o = some w → 0 ≤ w ∧ w < c) : (choD c o).filter (fun k => decide (k < ((c.toNat : Nat) : Int))) = choD c o := by
  rw [List.filter_eq_self]
  intro a ha
  cases o with
  | none =>
    obtain ⟨n, hn, rfl⟩ := List.mem_map.mp ha
    have := List.mem_range.mp hn
    exact decide_eq_true (by omega)
  | some w =>
    rw [List.mem_singleton.mp ha]
    have := hw w rfl
    exact decide_eq_true (by omega)
theorem choD_len {c : Int} {o : Option Int} (hc : 2 ≤ c ∧ c ≤ 100) (p : Int → Bool) : ((choD c o).filter p).length ≤ 100 := by
  refine Nat.le_trans (List.length_filter_le _ _) ?_
  cases o with
  | none => simp [choD]; omega
  | some w => simp [choD]
/-- `latest` of a class of events: what its callers know -/
structure LatF (P : Program) (w : World) (K : PySem.W.Frag) (mg : Str → Option Value) (base : Heap) (DE UE IN C : Addr) (dt : Bool) : Prop where
  ex : ∃ f fd, Meth K C "latest" f ∧ Binds K fd ["self", "day"] [] ∧ FnOk P w K mg base (L2.CX P w) 3 f fd ["self", "day"] (spLat K DE UE IN dt) ∧ KBn K fd ["self", "day"] 1 ["day"] (fun us ws => us ++ ws) (fun vs zs => vs ++ zs)
end WL
set_option Elab.async false
set_option linter.all false
set_option maxRecDepth 100000
set_option maxHeartbeats 1000000
/-! repr of a list of whole numbers of up to 4300 digits -/
namespace PySem.W
open PySem PySem.Calls PyProof.Rows
section
variable {prog : Program} {w : World} {A : Around} {E : Value → Shared → Prop} {s : Shared} {a : Int} {t : Tok} {h₀ : Heap}
theorem big_call_repr {Q : Value → Shared → Prop} (hn : s.heap.NoDigits) (hlt : a.natAbs < 10 ^ 4300) (h1 : Q (.str (toString a) s.toks) { s with toks := s.toks + 1 }) : wpAny (model prog w) A (call (.builtin "int.__repr__") [.int a t]) Q E s := by
  refine wpAny_call_entry F.slot_int_repr (typeIs_int s a t) F.entry_int_repr ?_ (F.args_int_repr_1 _)
  unfold Builtin.«int.__repr__»
  show wpAny _ _ (do let r ← Builtin.overDigitLimit? a; _) _ _ s
  refine wpAny_bind (overDigitLimit_any hn (fun _ => ?_) (fun hge => absurd hlt (Nat.not_lt.mpr hge)))
  exact wpAny_bind (wpAny_mkStr (wpAny_pure ⟨_, rfl, h1⟩) (int_text_fits10 hlt))
theorem big_reprObj {Q : Value → Shared → Prop} (hn : s.heap.NoDigits) (hlt : a.natAbs < 10 ^ 4300) (h : Q (.str (toString a) s.toks) { s with toks := s.toks + 1 }) : wpAny (model prog w) A (pyReprObj (.int a t)) Q E s := by
  unfold pyReprObj
  have hv : [Value.int a t].any Value.onHeap = false := rfl
  simp only [cRoomFor, hv, Bool.false_eq_true, if_false, pure_bind]
  refine wpAny_bind (wpAny_specialOf (name := Str.ofString "__repr__") (typeIs_int s a t) F.slot_int_repr.lookup ?_)
  refine wpAny_bind (m := callSpecialIfBound? (.int a t) (Str.ofString "__repr__")) (wpAny_callSpecialIfBound?_slot (name := Str.ofString "__repr__") (typeIs_int s a t) F.slot_int_repr (big_call_repr hn hlt ?_))
  exact wpAny_bind (wpAny_isInstance (T := "str") (b := true) rfl isSubtype_str_str (wpAny_pure h))
theorem big_reprK (hn : h₀.NoDigits) (hlt : a.natAbs < 10 ^ 4300) (as : List Addr) (d : Nat) : ReprK prog w as h₀ d (.int a t) (toString a) := fun base hb A g E s Q _ _ _ hk hQ => by
  rw [pyReprUnder_leaf (v := .int a t) (by omega) (fun _ e => nomatch e)]
  unfold pyRepr
  exact wpAny_bind (big_reprObj (hn.keeps hk) hlt (wpAny_pure (hQ s.heap _ fun _ _ e => e)))
end
end PySem.W
namespace WL
open PySem PySem.Spec PyProof.Rows L2
def intsT (is : List Int) : PySem.Str := listText (is.map fun i => (toString i : PySem.Str))
def rShowI : List V → Hp → VK → Prop := fun vs H Q => ∃ (a : Addr) (is : List Int), vs = [V.ref a] ∧ H a = some (.lst (is.map V.int)) ∧ is ≠ [] ∧ (∀ i ∈ is, i.natAbs < 10 ^ 4300) ∧ (intsT is).length ≤ sizeLine ∧ Q (.str (intsT is)) H
theorem call_showI {X : Cx} {k : Nat} (nd : NoDig X.K) (hg : X.A.guards = some []) (hr : Room k X.A) : CallR X (.builtin "repr") rShowI := by
  intro pins s σ H xs us Q I r h
  obtain ⟨a, is, rfl, ha, ne, hb, hz, q⟩ := h
  obtain ⟨u, rfl, rx⟩ := vals1 r
  obtain rfl : u = Value.ref a := rx
  obtain ⟨mc, hns, _⟩ := I.nolimit
  have hd : s.heap.NoDigits := ⟨mc, hns, PySem.W.ns_none_of I.kIn hns nd⟩
  obtain ⟨_, its, n, rv, hlen, eo⟩ := Inv.lstM I ha
  have hu := hr.units
  have nth : ∀ (i : Nat) (y : Value), its[i]? = some y → ∃ j t, is[i]? = some j ∧ y = .int j t := fun i y hy => by
    have hi : i < (is.map V.int).length := by
      rw [hlen]
      exact (List.getElem?_eq_some_iff.mp hy).1
    obtain ⟨u2, e1, e2⟩ := rv.get (i := i) (x := (is.map V.int)[i]) (by rw [List.getElem?_eq_getElem hi])
    rw [hy] at e1
    cases e1
    rw [List.length_map] at hi
    rw [List.getElem_map] at e2
    obtain ⟨t, e2⟩ := e2
    exact ⟨is[i], t, by simp [hi], e2⟩
  cases its with
  | nil =>
    rw [List.length_map] at hlen
    exact absurd (List.length_eq_zero_iff.mp hlen) ne
  | cons x l =>
  refine call_repr_slot (A := X.A) (by omega) ⟨_, eo, rfl⟩ F.slot_list_repr.toG (call_list_reprK (as := []) (h₀ := s.heap) (d := 0) (A := X.A.in1) (ts := is.map fun i => (toString i : PySem.Str)) eo rfl rfl (by simp) (by
      rw [List.length_map, ← List.length_map (f := V.int), hlen]; rfl) (fun i y hy => ?_) hg (fun b hb => Clear.nil b) (by show X.A.units + 1 + 1 < cLine; omega) (fun _ _ e => e) (fun h' u tk kp => ⟨_, _, rfl, .str (intsT is), H, I.kept (t' := tk) kp, ⟨u, rfl⟩, q⟩) hz)
  obtain ⟨j, t, e1, rfl⟩ := nth i y (by simpa using hy)
  exact ⟨_, by rw [List.getElem?_map, e1]; rfl, PySem.W.big_reprK hd (hb j (List.mem_of_getElem? e1)) [] 0⟩
theorem g_showI {H : Hp} {Q : VK} {a : Addr} {is : List Int} (h : H a = some (.lst (is.map V.int))) (h1 : is ≠ []) (h2 : ∀ i ∈ is, i.natAbs < 10 ^ 4300) (h3 : (intsT is).length ≤ sizeLine) (q : Q (.str (intsT is)) H) : rShowI [.ref a] H Q := ⟨a, is, rfl, h, h1, h2, h3, q⟩
end WL
set_option Elab.async false
set_option linter.all false
set_option maxRecDepth 100000
set_option maxHeartbeats 1000000
/-! numbers of many same digits: how great they are; the texts of two numbers -/
namespace WL
open PySem PySem.Spec PyProof.Rows L2
theorem digits_fold' {c e : Nat} (hs : ∀ arr b, NumText.step 10 (arr, b) c = some (arr.push e, true)) : ∀ (k : Nat) (arr : Array Nat) (b : Bool), ∃ arr', (List.replicate (k + 1) c).foldlM (NumText.step 10) (arr, b) = some (arr', true) ∧ arr'.toList = arr.toList ++ List.replicate (k + 1) e
  | 0, arr, b => ⟨arr.push e, by rw [List.replicate_succ, List.foldlM_cons, hs]; rfl, by simp⟩
  | k + 1, arr, b => by
    obtain ⟨arr', h1, h2⟩ := digits_fold' hs k (arr.push e) true
    refine ⟨arr', ?_, by rw [h2, Array.toList_push, List.append_assoc]; rfl⟩
    rw [List.replicate_succ, List.foldlM_cons, hs]
    exact h1
theorem fold_lt {e : Nat} (he : e ≤ 9) : ∀ (k a : Nat), (List.replicate k e).foldl (fun n d => n * 10 + d) a < (a + 1) * 10 ^ k
  | 0, a => by simp
  | k + 1, a => by
    rw [List.replicate_succ, List.foldl_cons]
    have z := fold_lt he k (a * 10 + e)
    refine Nat.lt_of_lt_of_le z ?_
    rw [Nat.pow_succ, Nat.mul_comm (10 ^ k) 10, ← Nat.mul_assoc]
    exact Nat.mul_le_mul_right _ (by omega)
theorem reads_many' {c e m : Nat} (he : e ≤ 9) (hb : NumText.blank c = false) (h1 : c ≠ 45) (h2 : c ≠ 43) (hs : ∀ arr b, NumText.step 10 (arr, b) c = some (arr.push e, true)) (hm : m + 1 ≤ 4300) : ∃ n, (int_private% "readNumeral") 4300 10 (List.replicate (m + 1) c) = (int_private% "Numeral.value") n ∧ 0 ≤ n ∧ n < ((10 ^ (m + 1) : Nat) : Int) := by
  obtain ⟨ds, f1, f2⟩ := digits_fold' hs m #[] false
  obtain ⟨c1, c2⟩ := core_rep hb h1 h2 (m + 1)
  have dg : NumText.digits? 10 (NumText.core (List.replicate (m + 1) c)) = some ds := by
    rw [c1]
    unfold NumText.digits?
    rw [f1]
    rfl
  have hsz : ds.size = m + 1 := by
    rw [← Array.length_toList, f2]
    simp
  have c2' : (NumText.sign ((List.replicate (m + 1) c).dropWhile NumText.blank)).1 = false := by rw [drop_rep hb]; exact c2
  refine ⟨NumText.worth (NumText.sign ((List.replicate (m + 1) c).dropWhile NumText.blank)).1 ds, ?_, ?_⟩
  · refine (NumText.readNumeral_ten 4300 _).trans ?_
    rw [dg]
    exact NumText.judge_ok (Or.inr (by omega)) (by omega)
  · rw [c2']
    unfold NumText.worth
    rw [if_neg Bool.false_ne_true, ← Array.foldl_toList, f2]
    have z := fold_lt he (m + 1) 0
    refine ⟨by omega, ?_⟩
    have z' : (List.replicate (m + 1) e).foldl (fun n d => n * 10 + d) 0 < 10 ^ (m + 1) := by simpa using z
    exact Int.ofNat_lt.mpr (by simpa using z')
theorem long7' : ∃ n, PySem.W.LongT (manyS "7" 1000) n ∧ 0 ≤ n ∧ n < ((10 ^ 1000 : Nat) : Int) := by
  obtain ⟨n, h, q⟩ := reads_many' (c := 55) (e := 7) (m := 999) (by decide) rfl (by decide) (by decide) (fun _ _ => rfl) (by decide)
  exact ⟨n, long_many (a := "7") rfl (by decide) (by decide) (by decide) h, q⟩
theorem long3' : ∃ n, PySem.W.LongT (manyS "3" 999) n ∧ 0 ≤ n ∧ n < ((10 ^ 1000 : Nat) : Int) := by
  obtain ⟨n, h, q1, q2⟩ := reads_many' (c := 51) (e := 3) (m := 998) (by decide) rfl (by decide) (by decide) (fun _ _ => rfl) (by decide)
  refine ⟨n, long_many (a := "3") rfl (by decide) (by decide) (by decide) h, q1, Int.lt_of_lt_of_le q2 ?_⟩
  exact Int.ofNat_le.mpr (Nat.pow_le_pow_right (by decide) (by decide))
/-- as great as the numbers of this law may be -/
def Mid (i : Int) : Prop := i.natAbs < 10 ^ 1000 + 100000
theorem Mid.lt {i : Int} (h : Mid i) : i.natAbs < 10 ^ 1001 := by
  unfold Mid at h
  have e : (10 : Nat) ^ 1001 = 10 ^ 1000 * 10 := Nat.pow_succ (n := 10) (m := 1000)
  have g : (10 : Nat) ^ 5 ≤ 10 ^ 1000 := Nat.pow_le_pow_right (by decide) (by decide)
  rw [e]
  generalize (10 : Nat) ^ 1000 = B at *
  omega
theorem Mid.big {i : Int} (h : Mid i) : i.natAbs < 10 ^ 4300 := Nat.lt_of_lt_of_le h.lt (Nat.pow_le_pow_right (by decide) (by decide))
theorem Mid.text {i : Int} (h : Mid i) : (toString i : PySem.Str).length ≤ 1002 := by
  rw [PySem.ofString_length]
  exact int_text_length_le10 (k := 1001) (by decide) h.lt
theorem mid_small {i : Int} (h : -100000 < i ∧ i < 100000) : Mid i := by
  unfold Mid
  generalize (10 : Nat) ^ 1000 = B
  omega
theorem mid_of {i : Int} (h0 : -((10 ^ 1000 : Nat) : Int) ≤ i) (h1 : i ≤ ((10 ^ 1000 : Nat) : Int)) {j : Int} (h : -90000 < j - i ∧ j - i < 90000) : Mid j := by
  unfold Mid
  generalize (10 : Nat) ^ 1000 = B at *
  omega
theorem intsT_two {i j : Int} (hi : Mid i) (hj : Mid j) : (intsT [i, j]).length ≤ sizeLine := by
  have a := hi.text
  have b := hj.text
  have z := listText_len_le ([i, j].map fun i => (toString i : PySem.Str))
  unfold intsT
  rw [PySem.sizeLine_eq]
  simp only [List.map_cons, List.map_nil, List.sum_cons, List.sum_nil, List.length_cons, List.length_nil] at z ⊢
  omega
end WL
set_option Elab.async false
set_option linter.all false
set_option maxRecDepth 100000
set_option maxHeartbeats 1000000
/-! list(range(n)); list + list read -/
namespace WL
open PySem PySem.Spec PyProof.Rows L2
def rangeV (n : Nat) : List V := (List.range n).map fun i => V.int (i : Nat)
def tListR (ta : TA) : TE := fun σ H Q => ta σ H fun vs H1 => ∃ j : Int, vs = [.int j] ∧ 0 ≤ j ∧ j ≤ 1000 ∧ ∀ p, H1 p = none → Q (.ref p) (upd H1 p (.lst (rangeV j.toNat)))
theorem valsOfGet (us : List Value) (f : Nat → V) (h : ∀ (j : Nat) (u : Value), us[j]? = some u → L2.RelV (f j) u) : Vals ((List.range us.length).map f) us := by
  induction us generalizing f with
  | nil => exact .nil
  | cons u us ih =>
    rw [List.length_cons, List.range_succ_eq_map, List.map_cons, List.map_map]
    exact .cons (h 0 u rfl) (ih (f ∘ Nat.succ) fun j v hv => h (j + 1) v (by simpa using hv))
theorem pe_listRange {X : Cx} {a : Expr} {ta : TA} {p p2 pos pos2 : Pos} (calm : X.calm = true) (hgL : Gl X "list") (hmL : X.mg "list" = none) (hgR : Gl X "range") (hmR : X.mg "range" = none) (ha : PA X [a] ta) (hs : starEach [a] X.env = [(false, eval a X.env)] := by rfl)
    (he : starEach [Expr.Call (.Name "range" p2) [a] [] pos2] X.env = (false, eval (.Call (.Name "range" p2) [a] [] pos2) X.env) :: starEach [] X.env := by rfl) : PE X (.Call (.Name "list" p) [.Call (.Name "range" p2) [a] [] pos2] [] pos) (tListR ta) := by
  refine ⟨fun pins s σ H Q I h => ?_⟩
  refine wpAny_Call_Name_kw (ld_blt I hgL hmL (show bootBuiltins "list" = some (.type "list") by decide +kernel) ?_ (by decide) (by decide))
  refine PyProof.Rows.callWith_type1 ?_ he rfl
  rw [he]
  show wpAny _ _ (spliced ((false, eval (.Call (.Name "range" p2) [a] [] pos2) X.env) :: backTo pos (starEach [] X.env))) _ _ s
  refine Calls.spliced_cons ?_
  refine Call_ (ld_blt I hgR hmR boot_range (PyProof.Rows.callWith_type1 (thn (ha.run pos2 pins s σ H _ I h) fun us s1 ⟨vs, H1, I1, r1, q1⟩ => ?_) hs rfl))
  obtain ⟨j, e, j0, j1, q⟩ := q1
  subst e
  cases r1 with
  | cons r rr =>
    cases rr
    obtain ⟨t, rfl⟩ := r
    refine call_range_1 ?_
    refine Calls.spliced_nil ?_
    have I2 : Inv X pins σ H1 { s1 with heap := s1.heap.push { cls := .type "range", data := .fields #[.int 0 s1.toks, .int j t, .int 1 (s1.toks + 1)] }, toks := s1.toks + 1 + 1 } := I1.kept fun b o e => Heap.get?_push_of_some _ e
    have hsz : Builtin.Range.rangeSize 0 j 1 = (j.toNat : Int) := by rw [rangeSize_one]; split <;> omega
    refine call_list_range (n := j.toNat) (I1.ok.hd calm) (IsRange.new ..) (small_one (by decide) (by decide) (by omega) (by omega)) hsz (by omega) fun h' tk acc' c' kp e3 it => ?_
    have hlen : acc'.size = j.toNat := it.1
    have rv : Vals (rangeV j.toNat) acc'.toList := by
      have hl : acc'.toList.length = j.toNat := by rw [Array.length_toList]; exact hlen
      have z : ∀ (us : List Value), us.length = j.toNat → (∀ (i : Nat) (u : Value), us[i]? = some u → ∃ t, u = .int ((0 : Int) + (i : Nat) * 1) t) → Vals (rangeV j.toNat) us := fun us h1 h2 => by
        unfold rangeV
        rw [← h1]
        refine valsOfGet us (fun i => V.int (i : Nat)) fun i u hu => ?_
        obtain ⟨t, rfl⟩ := h2 i u hu
        exact ⟨t, by simp⟩
      exact z _ hl fun i u hu => it.2 i u (by simpa using hu)
    have ob : ObjOk X.prog X.w (upd H1 (s1.heap.push { cls := .type "range", data := .fields #[.int 0 s1.toks, .int j t, .int 1 (s1.toks + 1)] }).objs.size (.lst (rangeV j.toNat))) h' (s1.heap.push { cls := .type "range", data := .fields #[.int 0 s1.toks, .int j t, .int 1 (s1.toks + 1)] }).objs.size (.lst (rangeV j.toNat)) :=
      ⟨sz (by unfold rangeV; rw [List.length_map, List.length_range]; omega), acc'.toList, c', rv, by simpa using e3⟩
    exact ⟨.ref _, _, I2.laid (t' := tk) kp (Nat.le_refl _) ob, rfl, q _ (I2.hok.fresh (Nat.le_refl _))⟩
theorem g_catL {H : Hp} {Q : VK} {a b : Addr} {xs ys : List V} (h1 : H a = some (.lst xs)) (h2 : H b = some (.lst ys)) (hl : xs.length + ys.length ≤ 100000) (q : ∀ p, H p = none → Q (.ref p) (upd H p (.lst (xs ++ ys)))) : rCat (.ref a) (.ref b) H Q := ⟨a, b, xs, ys, rfl, rfl, h1, h2, sz hl, q⟩
end WL
set_option Elab.async false
set_option linter.all false
set_option maxRecDepth 100000
set_option maxHeartbeats 1000000
/-! calls of methods: a starred list; positional values and keywords; keyword-only defaults -/
namespace WL
open PySem PySem.Spec PyProof.Rows L2
def tMethSL (K : PySem.W.Frag) (C : Addr) (m : Str) (g : Addr) (sp : Sp) (E : XK) (ta te : TE) : TE := fun σ H Q => ta σ H fun x H1 => ∃ a dx fs, x = .ref a ∧ H1 a = some (.ins C dx fs) ∧ fs.lookup m = none ∧
  ∀ q, H1 q = none → te σ (upd H1 q (.met g a)) fun y H2 => ∃ b vs, y = .ref b ∧ (SqT K H2 b vs ∨ SqL K H2 b vs) ∧ H2 q = some (.met g a) ∧ sp (.ref a :: vs) H2 Q E
theorem pe_methSL {X : Cx} {CX : CXT} {k : Nat} {C g : Addr} {m : Str} {sp : Sp} {E : XK} {o e : Expr} {ta te : TE} {p apos pos : Pos} (he : PE X o ta) (c : Cls X.K C) (b : BMeth X.K C m g) (F : FnR X.prog X.w X.K X.mg X.base CX k g sp) (hr : Room k X.A)
    (hx : Passes CX X E) (ha : PE X e te) (hbase : attributeBase o m X.env (eval o X.env) = eval o X.env := by rfl) : PE X (.Call (.Attribute o m apos) [.Starred e p] [] pos) (tMethSL X.K C m g sp E ta te) := by
  refine ⟨fun pins s σ H Q I h => ?_⟩
  refine starcall_of hbase (thn (he.run pins s σ H _ I h) fun u s1 ⟨x, H1, I1, rx, a, dx, fs, ex, ea, l, q⟩ => ?_)
  subst ex
  obtain rfl : u = Value.ref a := rx
  refine getbound_ok I1 ea c b l fun q1 s2 hq1 I2 => ?_
  refine PySem.W.ks_call (P := PySem.W.MethP X.K q1 g (.ref a)) rfl (PySem.W.keeps_M b.fi) (PySem.W.ks_lone ?_)
  refine thn (ha.run pins s2 σ _ _ I2 (q q1 hq1)) fun v s3 ⟨y, H2, I3, ry, t, vs, ey, ht, hm, hsp⟩ => ?_
  subst ey
  obtain rfl : v = Value.ref t := ry
  refine StX.star_any I3 ht fun us s4 I4 rv => ⟨met_P I4 hm, ?_⟩
  exact wpAny_call (PySem.W.method_call (met_P I4 hm).1 (run_fnR (us := Value.ref a :: us) (vs := V.ref a :: vs) F hr hx I4 (.cons rfl rv) hsp))
def tMethN (C : Addr) (m : Str) (n1 n : Nat) (sp : Sp) (gV : List V → List V → List V) (E : XK) (ta : TE) (t tk : TA) : TE := fun σ H Q => ta σ H fun x H1 => ∃ a dx fs, x = .ref a ∧ H1 a = some (.ins C dx fs) ∧ fs.lookup m = none ∧
  t σ H1 fun vs H2 => tk σ H2 fun zs H3 => (x :: vs).length = n1 ∧ zs.length = n ∧ sp (gV (x :: vs) zs) H3 Q E
section
variable {X : Cx} {CX : CXT} {k n1 : Nat} {C f : Addr} {fd : FuncData} {ps : List Str} {m : Str} {sp : Sp} {o e : Expr} {es : List Expr} {ta : TE} {t : TA} {apos pos : Pos}
theorem pe_methN {E : XK} {pl : Sem Bool} {kws : List Keyword} {ks : List Str} {tk : TA} {g : List Value → List Value → List Value} {gV : List V → List V → List V} (he : PE X o ta) (c : Cls X.K C) (hm : Meth X.K C m f) (Fm : FnOk X.prog X.w X.K X.mg X.base CX k f fd ps sp) (hr : Room k X.A)
    (hb : KBn X.K fd ps n1 ks g gV) (hx : Passes CX X E) (ha : PA X (e :: es) t) (hkw : PK X kws tk) (hall : (backToKw pos (keywordEach kws X.env)).all (·.1.isSome) = true := by rfl) (hks : (backToKw pos (keywordEach kws X.env)).filterMap (·.1) = ks := by rfl)
    (hpl : ((backTo pos (starEach (e :: es) X.env)).any (·.1) || (backToKw pos (keywordEach kws X.env)).any (·.1.isNone)) = false := by rfl) (hst : starEach (e :: es) X.env = (false, eval e X.env) :: starEach es X.env := by rfl)
    (ht : eval (.Call (.Attribute o m apos) (e :: es) kws pos) X.env = (do
      let ov ← eval o X.env
      standAt apos.atName
      let (f, first) ← holding [ov] (getMethod ov m pl)
      callWith pos f first (backTo pos (starEach (e :: es) X.env)) (backToKw pos (keywordEach kws X.env))) := by rfl) :
    PE X (.Call (.Attribute o m apos) (e :: es) kws pos) (tMethN C m n1 ks.length sp gV E ta t tk) := by
  constructor
  intro pins s σ H Q I h
  refine PySem.W.methodCall_KW (pl := pl) (thn (he.run pins s σ H _ I h) ?_) ht
  rintro u s1 ⟨x, H1, I1, rx, a, dx, fs, ex, ea, l, q⟩
  subst ex
  cases rx
  refine getmeth_ok I1 ea c hm l (PySem.W.callWith_KW (first := [.ref a]) (h₀ := X.base) I.ok.mod.kin hm.kp hall (thn (ha.run pos pins s1 σ H1 _ I1 q) ?_) hpl hst)
  rintro us s2 ⟨vs, H2, I2, r, q2⟩
  refine thn (hkw.run pos pins s2 σ H2 _ I2 q2) ?_
  rintro ws s3 ⟨zs, H3, I3, rz, l1, l2, q3⟩
  refine ⟨I3.kIn, ?_⟩
  rw [hks]
  exact run_fnN (us := Value.ref a :: us) (vs := V.ref a :: vs) Fm hr hb hx I3 (.cons rfl r) rz l1 l2 q3
end
/-- keyword-only defaults alone: a call with keywords -/
theorem kbinds0 {K : PySem.W.Frag} {x qual : Str} {params : Arguments} {body : List Stmt} {scope : Scope} {kws : List (Str × V)} {f : Addr} {fd : FuncData} {ps : List Str} (F : FunD K x qual params body scope [] kws f fd) (n : Nat) (ks : List Str) (ms : List (Str × V)) (g : {α : Type} → List α → List α → List α → List α) (hk : kws ≠ []) (hms : ∀ q ∈ ms, q ∈ kws)
    (hrel : ∀ {vs mz zs : List V} {us mv ws : List Value}, Vals vs us → Vals mz mv → Vals zs ws → Vals (g vs mz zs) (g us mv ws))
    (h : ∀ (D : Addr) (doc pm : Value) (an : Option Addr) (cdv ct : Value) (us mv ws : List Value), us.length = n → mv.length = ms.length → ws.length = ks.length →
      KwChain D ((ms.map (·.1)).zip mv) (bindArgs (PySem.W.fnOf x qual params body scope .none (.ref D) doc pm an cdv ct) ⟨us, ks.zip ws⟩) (ps.zip (g us mv ws))) :
    ∃ mv : List Value, KBn K fd ps n ks (fun us ws => g us mv ws) (fun vs zs => g vs (ms.map (·.2)) zs) := by
  obtain ⟨oc, od, dV, kV, doc, pm, an, cdv, ct, osl, rfl, lk, hcd, hD, hK⟩ := F.ex
  rcases hD with ⟨_, rfl⟩ | ⟨e, _⟩
  · rcases hK with e | ⟨D, rfl, hq⟩
    · exact absurd e hk
    · obtain ⟨mv, hl, rk, hks⟩ := kwd_vals (ms := ms) fun q hm => hq q (hms q hm)
      refine ⟨mv, ⟨fun s us ws X l1 l2 => ?_, fun r1 r2 => hrel r1 rk r2⟩⟩
      exact BindsTo.of_looks fun M => KwChain.looks X hks (h D doc pm an cdv ct us mv ws l1 hl l2)
  · exact absurd rfl e
/-- o.m() by a positional promise -/
theorem pe_methR0 {X : Cx} {CX : CXT} {k : Nat} {C f : Addr} {m : Str} {sp : Sp} {E : XK} {o : Expr} {ta : TE} {apos pos : Pos} {pl : Sem Bool} (he : PE X o ta) (c : Cls X.K C) (hm : Meth X.K C m f) (F : FnR X.prog X.w X.K X.mg X.base CX k f sp) (hr : Room k X.A) (hx : Passes CX X E)
    (ht : eval (.Call (.Attribute o m apos) [] [] pos) X.env = (do
      let ov ← eval o X.env
      standAt apos.atName
      let (f, first) ← holding [ov] (getMethod ov m pl)
      callWith pos f first (backTo pos (starEach [] X.env)) (backToKw pos (keywordEach [] X.env))) := by rfl) :
    PE X (.Call (.Attribute o m apos) [] [] pos) (tMethR C m sp E ta tNil) := by
  refine ⟨fun pins s σ H Q I h => ?_⟩
  refine PySem.W.methodCall_KW (pl := pl) (thn (he.run pins s σ H _ I h) fun u s1 ⟨x, H1, I1, rx, a, dx, fs, ex, ea, l, q⟩ => ?_) ht
  subst ex
  obtain rfl : u = Value.ref a := rx
  refine getmeth_ok I1 ea c hm l ?_
  exact PySem.W.callWith_K0 (first := [.ref a]) I1.kIn hm.kp (wpAny_call (run_fnR (us := [.ref a]) (vs := [.ref a]) F hr hx I1 (.cons rfl .nil) q))
end WL
set_option Elab.async false
set_option linter.all false
set_option maxRecDepth 100000
set_option maxHeartbeats 1000000
/-! Values of any kind: truth values among whole numbers, their texts, repr of all of them. -/
namespace WL
open PySem PySem.Spec PyProof.Rows L2
/-! ### whole numbers and truth values -/
def numV : V → Option Int
  | .int i => some i
  | .bl b => some (if b = true then 1 else 0)
  | _ => none
def rAddV : R2 := fun x y H Q => ∃ i j, numV x = some i ∧ y = .int j ∧ Q (.int (i + j)) H
def rSubV : R2 := fun x y H Q => ∃ i j, numV x = some i ∧ y = .int j ∧ Q (.int (i - j)) H
def rSubR : R2 := fun x y H Q => ∃ i j, x = .int i ∧ numV y = some j ∧ Q (.int (i - j)) H
def rEqV : R2 := fun x y H Q => ∃ i j, numV x = some i ∧ y = .int j ∧ Q (.bl (i == j)) H
section
variable {X : Cx}
theorem op_addV : OpR X (binaryOp .Add) rAddV := by
  intro pins s σ H x y v u Q I rx ry h
  obtain ⟨i, j, hx, rfl, q⟩ := h
  cases x with
  | int k => cases hx; exact op_add pins s σ H _ _ v u Q I rx ry ⟨_, _, rfl, rfl, q⟩
  | bl b =>
    cases hx
    cases rx
    obtain ⟨t, rfl⟩ := ry
    exact PySem.IntBool.add_bool_int ⟨.int _, H, I.tok _, ⟨_, rfl⟩, q⟩
  | _ => cases hx
theorem op_subV : OpR X (binaryOp .Sub) rSubV := by
  intro pins s σ H x y v u Q I rx ry h
  obtain ⟨i, j, hx, rfl, q⟩ := h
  cases x with
  | int k => cases hx; exact op_sub pins s σ H _ _ v u Q I rx ry ⟨_, _, rfl, rfl, q⟩
  | bl b =>
    cases hx
    cases rx
    obtain ⟨t, rfl⟩ := ry
    exact PySem.IntBool.sub_bool_int ⟨.int _, H, I.tok _, ⟨_, rfl⟩, q⟩
  | _ => cases hx
theorem op_subR : OpR X (binaryOp .Sub) rSubR := by
  intro pins s σ H x y v u Q I rx ry h
  obtain ⟨i, j, rfl, hy, q⟩ := h
  cases y with
  | int k => cases hy; exact op_sub pins s σ H _ _ v u Q I rx ry ⟨_, _, rfl, rfl, q⟩
  | bl b =>
    cases hy
    cases ry
    obtain ⟨t, rfl⟩ := rx
    exact PySem.IntBool.sub_int_bool ⟨.int _, H, I.tok _, ⟨_, rfl⟩, q⟩
  | _ => cases hy
theorem op_eqV : OpR X (compareOp .Eq) rEqV := by
  intro pins s σ H x y v u Q I rx ry h
  obtain ⟨i, j, hx, rfl, q⟩ := h
  cases x with
  | int k =>
    cases hx
    refine op_eq pins s σ H _ _ v u Q I rx ry ⟨rfl, ?_⟩
    rw [dec_int]; exact q
  | bl b =>
    cases hx
    cases rx
    obtain ⟨t, rfl⟩ := ry
    exact PySem.EqBoolInt.eq_bool_int ⟨.bl _, H, I, rfl, q⟩
  | _ => cases hx
/-- either of two rules -/
theorem opr_or {f : Value → Value → Sem Value} {r1 r2 : R2} (a : OpR X f r1) (b : OpR X f r2) : OpR X f (fun x y H Q => r1 x y H Q ∨ r2 x y H Q) := by
  intro pins s σ H x y v u Q I rx ry h
  rcases h with h | h
  · exact a pins s σ H x y v u Q I rx ry h
  · exact b pins s σ H x y v u Q I rx ry h
theorem callr_or {f : Value} {r1 r2 : List V → Hp → VK → Prop} (a : CallR X f r1) (b : CallR X f r2) : CallR X f (fun xs H Q => r1 xs H Q ∨ r2 xs H Q) := by
  intro pins s σ H xs us Q I r h
  rcases h with h | h
  · exact a pins s σ H xs us Q I r h
  · exact b pins s σ H xs us Q I r h
end
theorem inv_noDigits {X : Cx} {pins : List (Addr × Obj)} {σ : L2.St} {H : Hp} {s : Shared} (nd : NoDig X.K) (I : Inv X pins σ H s) : s.heap.NoDigits := by
  obtain ⟨mc, hns, _⟩ := I.nolimit
  exact ⟨mc, hns, PySem.W.ns_none_of I.kIn hns nd⟩
/-! ### the text of a number -/
def textV : V → Str
  | .int i => (toString i : PySem.Str)
  | .bl b => if b then "True" else "False"
  | _ => ""
def rStrV : List V → Hp → VK → Prop := fun xs H Q => ∃ x i, xs = [x] ∧ numV x = some i ∧ i.natAbs < 10 ^ 4300 ∧ Q (.str (textV x)) H
theorem big_strOf {prog : Program} {w : World} {A : Around} {E : Value → Shared → Prop} {s : Shared} {a : Int} {t : Tok} {Q : Value → Shared → Prop} (hn : s.heap.NoDigits) (hlt : a.natAbs < 10 ^ 4300) (h1 : Q (.str (toString a) s.toks) { s with toks := s.toks + 1 }) :
    wpAny (model prog w) A (Builtin.Str.strOf (.int a t)) Q E s := by
  unfold Builtin.Str.strOf
  rw [show Builtin.Str.isExactStr (.int a t) = false from rfl]
  try (have hv : [Value.int a t].any Value.onHeap = false := rfl; simp only [cRoomFor, hv, Bool.false_eq_true, if_false, pure_bind])
  refine wpAny_bind (wpAny_callSpecial?_slot (name := Str.ofString "__str__") (typeIs_int s a t) F.slot_int_str ?_)
  refine wpAny_call_entry F.slot_int_str (typeIs_int s a t) entry_object_str ?_ (args_object_str _)
  unfold Builtin.«object.__str__»
  refine wpAny_bind (wpAny_pure ?_)
  try (have hv : [Value.int a t].any Value.onHeap = false := rfl; simp only [cRoomFor, hv, Bool.false_eq_true, if_false, pure_bind])
  refine wpAny_bind (wpAny_callSpecialIfBound?_slot (name := Str.ofString "__repr__") (typeIs_int s a t) F.slot_int_repr (PySem.W.big_call_repr hn hlt ?_))
  exact wpAny_pure ⟨_, rfl, wpAny_pure h1⟩
theorem call_strV {X : Cx} (nd : NoDig X.K) : CallR X (.type "str") rStrV := by
  intro pins s σ H xs us Q I r h
  obtain ⟨x, i, rfl, hx, hlt, q⟩ := h
  obtain ⟨u, rfl, rx⟩ := vals1 r
  cases x with
  | int k =>
    obtain rfl : k = i := Option.some.inj hx
    obtain ⟨t, rfl⟩ := rx
    refine callType_new F.called_str (by decide) (F.typeCall_str_1 _) (F.newCall_str_1 _) (fun obj => F.args_object_init_2 obj _) F.entry_str_new
      (meets_str_new (S := fun _ R s => s.heap.NoDigits ∧ R (.ok (.ret (.str (toString k) s.toks))) { s with toks := s.toks + 1 }) fun _ _ _ _ _ hq => big_strOf hq.1 hlt hq.2) ⟨inv_noDigits nd I, typeIs_str _ _ _, ?_⟩
    exact ⟨.str _, H, I.tok _, ⟨_, rfl⟩, q⟩
  | bl b =>
    cases hx
    cases rx
    exact PySem.P.str_of_bool ⟨.str _, H, I.tok _, ⟨_, rfl⟩, q⟩
  | _ => cases hx
end WL
set_option Elab.async false
set_option linter.all false
set_option maxRecDepth 100000
set_option maxHeartbeats 1000000
/-! Values of any kind: lists beside the empty one, sorted tuples, repr of any data with long numbers. -/
namespace WL
open PySem PySem.Spec PyProof.Rows L2
/-! ### a list of any items beside the empty one -/
def rNeL0 : R2 := fun x y H Q => ∃ a b xs, x = .ref a ∧ y = .ref b ∧ H a = some (.lst xs) ∧ H b = some (.lst []) ∧ Q (.bl (!decide (xs = []))) H
theorem op_neL0 {X : Cx} (hu : X.A.units + 64 < cLine) : OpR X (compareOp .NotEq) rNeL0 := by
  intro pins s σ H x y v u Q I rx ry h
  obtain ⟨a, b, xs, rfl, rfl, ha, hb, q⟩ := h
  by_cases e : xs = []
  · subst e
    exact op_neD hu pins s σ H _ _ v u Q I rx ry ⟨.list [], .list [], .lst (SqL.of ha) .nil, .lst (SqL.of hb) .nil, by decide +kernel, by decide +kernel, q⟩
  · cases rx
    cases ry
    obtain ⟨its, rv, pl, _⟩ := Inv.list I (SqL.of ha)
    obtain ⟨its2, rv2, pl2, _⟩ := Inv.list I (SqL.of hb)
    cases rv2
    have hl := rv.length
    refine PySem.EqBoolInt.of_rcne (SeqAt.RcNeAt.lists_lengths pl.isList pl2.isList ?_ (by omega)) ?_
    · cases its with
      | nil => cases rv; exact absurd rfl e
      | cons i its => rfl
    · rw [decide_eq_false e] at q
      exact ⟨.bl _, H, I, rfl, q⟩
theorem g_neL0 {H : Hp} {Q : VK} {a b : Addr} {xs : List V} (h : H a = some (.lst xs)) (k : H b = some (.lst [])) (q : Q (.bl (!decide (xs = []))) H) : rNeL0 (.ref a) (.ref b) H Q := ⟨a, b, xs, rfl, rfl, h, k, q⟩
/-! ### sorted of a tuple of whole numbers -/
end WL
namespace SrtO
open PySem PyProof.Rows Srt
section
variable {prog : Program} {w : World} {A : Around} {E : Value → Shared → Prop} {s : Shared}
theorem gather_tup {l : Addr} {vs : List Value} {Q : List Value → Shared → Prop} (hl : s.heap.IsTuple l vs.toArray)
    (hsz : vs.length ≤ sizeLine) (h : Q vs { s with heap := (s.heap.push (seqObj "list" #[] 0)).update s.heap.objs.size (Obj.mapSeq (· ++ vs.toArray)) }) : wpAny (model prog w) A (collect (.ref l)) Q E s := by
  obtain ⟨ob, hob, hcl, m, hdt⟩ := id hl
  unfold collect
  refine wpAny_bind (wpAny_runValue (codeAny_builtin entry_proto_collect' ?_))
  show wpAny _ _ (newList [] >>= fun z => again (.builtin "list.__iadd__" ⟨[z, .ref l], []⟩)) _ _ s
  refine wpAny_bind (wpAny_newList (wpAny_pure ⟨Code.quiet_builtin _ (by decide +kernel), codeAny_builtin entry_list_iadd' ?_⟩))
  show wpAny _ _ (Builtin.List.listExtendWith (.ref s.heap.objs.size) (.ref l) (.ref s.heap.objs.size)) _ _ { s with heap := s.heap.push (seqObj "list" #[] 0) }
  unfold Builtin.List.listExtendWith
  have hob' : (s.heap.push (seqObj "list" #[] 0)).get? l = some ob := Heap.get?_push_of_some _ hob
  refine wpAny_bind (wpAny_typeOf (T := "tuple") ⟨ob, hob', hcl⟩ ?_)
  rw [if_pos (by rw [show (Value.type "tuple" == Value.type "tuple") = true by rfl]; simp)]
  refine wpAny_bind (listItems_at hob' hdt ?_)
  have hnew : (s.heap.push (seqObj "list" #[] 0)).get? s.heap.objs.size = some (seqObj "list" #[] 0) := Heap.get?_push_size _ rfl
  refine wpAny_bind (listItems_at (xs := #[]) (n := 0) hnew rfl ?_)
  rw [if_neg (by simp)]
  refine wpAny_bind (listUpdate_at (xs := #[]) (n := 0) hnew rfl ?_ (Nat.zero_le _) (by show (#[] ++ vs.toArray).size ≤ sizeLine + 1; simp only [Array.size_append, List.size_toArray, List.length_nil]; omega))
  refine wpAny_pure ?_
  show wpAny (model prog w) A (do
    let o ← load s.heap.objs.size
    match o.data with
    | .seq xs _ => pure xs.toList
    | _ => unsupported "internal:collect") Q E { s with heap := (s.heap.push (seqObj "list" #[] 0)).update s.heap.objs.size (Obj.mapSeq (· ++ vs.toArray)) }
  refine wpAny_bind (wpAny_load (get?_update_seq hnew _) ?_)
  show wpAny _ _ (pure ((#[] : Array Value) ++ vs.toArray).toList) Q E _
  rw [show ((#[] : Array Value) ++ vs.toArray).toList = vs by simp]
  exact wpAny_pure h
theorem sorted_tup {l : Addr} {vs : List Value} {ltv : Value → Value → Bool} {Q : Value → Shared → Prop} (O : Swo ltv) (hl : s.heap.IsTuple l vs.toArray) (hz : vs.length ≤ sizeLine)
    (hS : 2 ≤ vs.length → ∀ (h₁ : Heap) (a : Addr), h₁.get? a = some (seqObj "list" vs.toArray 0) → (∀ b o, s.heap.get? b = some o → b ≠ a ∧ h₁.get? b = some o) → SortableO prog w A.in1.in1 { s with heap := h₁ } a vs ltv)
    (h : ∀ out : List Value, Srtd ltv out → Stb ltv out vs → Q (.ref (s.heap.objs.size + 1)) { s with heap := sortedAll s.heap vs out.toArray }) : wpAny (model prog w) A (call (.builtin "sorted") [.ref l]) Q E s := by
  refine Calls.call_function_entry kind_sorted plain_sorted entry_sorted (args_sorted1 _) ?_
  unfold Builtin.«sorted»
  refine wpAny_bind (m := checkCount "sorted" 1 1 _) (wpAny_pure ?_)
  refine wpAny_bind (gather_tup hl hz ?_)
  refine wpAny_bind (wpAny_newList ?_ hz)
  generalize hg : (s.heap.push (seqObj "list" #[] 0)).update s.heap.objs.size (Obj.mapSeq (· ++ vs.toArray)) = g
  have hsz : g.objs.size = s.heap.objs.size + 1 := by rw [← hg, Heap.size_update, size_push']
  have hoL : (g.push (seqObj "list" vs.toArray 0)).get? (s.heap.objs.size + 1) = some (seqObj "list" vs.toArray 0) := by rw [← hsz]; exact Heap.get?_push_size _ rfl
  have keep : ∀ b o, s.heap.get? b = some o → b ≠ s.heap.objs.size + 1 ∧ (g.push (seqObj "list" vs.toArray 0)).get? b = some o := fun b o q => by
    have hlt : b < s.heap.objs.size := Heap.lt_size q
    refine ⟨Nat.ne_of_lt (Nat.lt_succ_of_lt hlt), Heap.get?_push_of_some _ ?_⟩
    rw [← hg, Heap.get?_update_ne _ _ _ _ (Nat.ne_of_lt hlt)]
    exact Heap.get?_push_of_some _ q
  show wpAny _ _ _ _ _ { s with heap := g.push (seqObj "list" vs.toArray 0) }
  rw [hsz]
  refine wpAny_bind (wpAny_holding (wpAny_call_entry slot_list_sort ⟨_, hoL, rfl⟩ entry_list_sort (list_sort_ord O hoL hz (fun h2 => hS h2 _ _ hoL keep) fun out hs hb => ⟨_, rfl, ?_⟩) (args_list_sort _)))
  subst hg
  exact wpAny_pure ⟨_, rfl, h out hs hb⟩
end
end SrtO
namespace WL
open PySem PySem.Spec PyProof.Rows L2
def rSortTI (K : PySem.W.Frag) : List V → Hp → VK → Prop := fun vs H Q => ∃ (a : Addr) (ns : List Int), vs = [V.ref a] ∧ SqT K H a (ns.map V.int) ∧ ∀ (ns' : List Int) (p : Addr), ns'.Perm ns → H p = none → Q (.ref p) (upd H p (.lst (ns'.map V.int)))
theorem call_sortTI {X : Cx} : CallR X (.builtin "sorted") (rSortTI X.K) := by
  intro pins s σ H vs us Q I r h
  obtain ⟨a, ns, rfl, hs, q⟩ := h
  obtain ⟨its, rv, hl, hz⟩ := Inv.tuple I hs
  rw [Vals.ref1 r]
  have hi := rv.ints
  refine SrtO.sorted_tup SrtO.swo_int hl (by rw [← rv.length]; exact hz) (fun h2 h₁ a' _ _ => SrtO.ints_sortable hi h2) fun out h1 h2 => ?_
  obtain ⟨k1, k2, k3⟩ := SrtO.ints_out hi h1 h2
  obtain ⟨ep, he'⟩ := PyProof.Rows.sortedAll_at s.heap its out.toArray
  have hlen : ((out.map SrtO.iv).map V.int).length ≤ sizeLine := by
    rw [List.length_map] at hz ⊢
    rw [k2.length_eq]
    exact hz
  exact ⟨.ref _, upd H (s.heap.objs.size + 1) (.lst ((out.map SrtO.iv).map V.int)), I.laid (t' := s.toks) (fun _ _ => PyProof.Rows.sortedAll_old) (Nat.le_succ _) ⟨hlen, out, ep, vals_of_ints k1, he'⟩, rfl, q _ _ k2 (I.hok.fresh (Nat.le_succ _))⟩
end WL
set_option Elab.async false
set_option linter.all false
set_option maxRecDepth 100000
set_option maxHeartbeats 1000000
/-! Data of bounded depth whose numbers have at most so many digits: what it is as a shape, repr of it. -/
namespace WL
open PySem PySem.Spec PyProof.Rows L2
/-- data of n levels at most, whose numbers are below 10 ^ e -/
def Fit (e : Nat) : Nat → PyData → Prop
  | _, .none => True
  | _, .bool _ => True
  | _, .int i => i.natAbs < 10 ^ e
  | _, .str x => ∀ c ∈ x.cps.toList, c < 16 ^ 8
  | n + 1, .list ds => ∀ d ∈ ds, Fit e n d
  | n + 1, .tuple ds => ∀ d ∈ ds, Fit e n d
  | n + 1, .dict kvs => kvs = []
  | 0, .list _ => False
  | 0, .tuple _ => False
  | 0, .dict _ => False
theorem Fit.up {e : Nat} : ∀ {n : Nat} {d : PyData}, Fit e n d → Fit e (n + 1) d := by
  intro n
  induction n with
  | zero => intro d h; cases d <;> first | exact h | exact h.elim
  | succ n ih =>
    intro d h
    cases d with
    | list ds => exact fun d hd => ih (h d hd)
    | tuple ds => exact fun d hd => ih (h d hd)
    | _ => exact h
theorem Fit.mono {e n n' : Nat} {d : PyData} (h : Fit e n d) (k : n ≤ n') : Fit e n' d := by
  induction k with
  | refl => exact h
  | step _ ih => exact ih.up
theorem Fit.more {e e' : Nat} (he : e ≤ e') : ∀ {n : Nat} {d : PyData}, Fit e n d → Fit e' n d := by
  intro n
  induction n with
  | zero =>
    intro d h
    cases d with
    | int i => exact Nat.lt_of_lt_of_le h (Nat.pow_le_pow_right (by decide) he)
    | _ => exact h
  | succ n ih =>
    intro d h
    cases d with
    | int i => exact Nat.lt_of_lt_of_le h (Nat.pow_le_pow_right (by decide) he)
    | list ds => exact fun d hd => ih (h d hd)
    | tuple ds => exact fun d hd => ih (h d hd)
    | _ => exact h
theorem dall_le {n : Nat} : ∀ (ds : List PyData), (∀ d ∈ ds, d.depth ≤ n) → PyData.depthAll ds ≤ n
  | [], _ => by rw [PyData.depthAll.eq_1]; omega
  | d :: ds, h => by
    rw [PyData.depthAll.eq_2]
    have h1 := h d (by simp)
    have h2 := dall_le ds (fun e he => h e (by simp [he]))
    omega
theorem Fit.depth {e : Nat} : ∀ {n : Nat} {d : PyData}, Fit e n d → d.depth ≤ n := by
  intro n
  induction n with
  | zero => intro d h; cases d <;> first | exact h.elim | (simp [PyData.depth]; done)
  | succ n ih =>
    intro d h
    cases d with
    | list ds =>
      have := dall_le ds (fun d hd => ih (h d hd))
      simp only [PyData.depth]; omega
    | tuple ds =>
      have := dall_le ds (fun d hd => ih (h d hd))
      simp only [PyData.depth]; omega
    | dict kvs =>
      obtain rfl : kvs = [] := h
      simp [PyData.depth, PyData.depthKv]
    | _ => simp [PyData.depth]
theorem short_all {B : Nat} : ∀ (ds : List PyData), (∀ d ∈ ds, PyData.leavesShort B d = true) → PyData.leavesShortAll B ds = true
  | [], _ => rfl
  | d :: ds, h => by
    rw [PyData.leavesShortAll.eq_2, h d (by simp), short_all ds (fun e he => h e (by simp [he]))]; rfl
theorem Fit.short {e : Nat} (he : 0 < e) : ∀ {n : Nat} {d : PyData}, Fit e n d → PyData.leavesShort (e + 1) d = true := by
  have leaf : ∀ i : Int, i.natAbs < 10 ^ e → PyData.leavesShort (e + 1) (.int i) = true := fun i h => by
    have z := int_text_length_le10 he h
    have z2 : (PyData.shown (.int i)).length ≤ e + 1 := by
      show ((toString i : PySem.Str)).length ≤ e + 1
      rw [PySem.ofString_length]
      exact z
    simpa only [PyData.leavesShort, decide_eq_true_eq] using z2
  have text : ∀ x : Str, (∀ c ∈ x.cps.toList, c < 16 ^ 8) → PyData.leavesShort (e + 1) (.str x) = true := fun x h => by
    simpa only [PyData.leavesShort, List.all_eq_true, decide_eq_true_eq] using h
  intro n
  induction n with
  | zero =>
    intro d h
    cases d with
    | int i => exact leaf i h
    | str x => exact text x h
    | none => rfl
    | bool b => rfl
    | _ => exact h.elim
  | succ n ih =>
    intro d h
    cases d with
    | int i => exact leaf i h
    | str x => exact text x h
    | none => rfl
    | bool b => rfl
    | list ds => exact short_all ds (fun d hd => ih (h d hd))
    | tuple ds => exact short_all ds (fun d hd => ih (h d hd))
    | dict kvs =>
      obtain rfl : kvs = [] := h
      rfl
theorem Fit.fits {e n : Nat} {d : PyData} (h : Fit e n d) (he : 7 ≤ e) (he2 : e ≤ 1010) (hb : d.bulk ≤ 16000) : d.shown.length ≤ sizeLine := by
  have z := PyData.shown_le_bulk (e + 1) (by omega) d (h.short (by omega))
  rw [PySem.sizeLine_eq]
  have k : (e + 1 + 2) * d.bulk ≤ 1013 * 16000 := Nat.mul_le_mul (by omega) hb
  omega
/-! ### what kind of value it is -/
mutual
def shOf : PyData → Sh
  | .none => .non
  | .bool _ => .bl
  | .int i => .int i
  | .str _ => .str
  | .list _ => .lst
  | .dict _ => .dct
  | .tuple ds => .tup (shOfs ds)
def shOfs : List PyData → List Sh
  | [] => []
  | d :: ds => shOf d :: shOfs ds
end
theorem shOfs_map : ∀ ds : List PyData, shOfs ds = ds.map shOf
  | [] => by simp only [shOfs, List.map_nil]
  | d :: ds => by simp only [shOfs, List.map_cons, shOfs_map ds]
section
variable {K : PySem.W.Frag} {H : Hp}
mutual
theorem DqB.ans : ∀ {v : V} {d : PyData}, DqB H v d → AnS K H v (shOf d)
  | _, _, .non => by simp only [shOf]; exact .non
  | _, _, .bl b => by simp only [shOf]; exact .bl b
  | _, _, .int i => by simp only [shOf]; exact .int i
  | _, _, .str x => by simp only [shOf]; exact .str x
  | _, _, .tup a b => by simp only [shOf]; exact .tup (SqT.of a) b.anss
  | _, _, .lst a _ => by simp only [shOf]; exact .lst (SqL.of a)
  | _, _, .mtd a => by simp only [shOf]; exact .dct a
theorem DqBs.anss : ∀ {vs : List V} {ds : List PyData}, DqBs H vs ds → AnSs K H vs (shOfs ds)
  | _, _, .nil => by simp only [shOfs]; exact .nil
  | _, _, .cons a b => by simp only [shOfs]; exact .cons a.ans b.anss
end
theorem DqBs.length : ∀ {vs : List V} {ds : List PyData}, DqBs H vs ds → vs.length = ds.length
  | _, _, .nil => rfl
  | _, _, .cons _ h => congrArg Nat.succ h.length
theorem DqBs.get : ∀ {vs : List V} {ds : List PyData}, DqBs H vs ds → ∀ {i : Nat} {v : V}, vs[i]? = some v → ∃ d, ds[i]? = some d ∧ DqB H v d
  | _, _, .nil, _, _, e => by simp at e
  | _, _, .cons h q, 0, v, e => ⟨_, rfl, by simp at e; subst e; exact h⟩
  | _, _, .cons h q, i + 1, v, e => by
    obtain ⟨d, e1, f⟩ := q.get (i := i) (v := v) (by simpa using e)
    exact ⟨d, by simpa using e1, f⟩
theorem DqBs.app : ∀ {a b : List V} {x y : List PyData}, DqBs H a x → DqBs H b y → DqBs H (a ++ b) (x ++ y)
  | _, _, _, _, .nil, q => q
  | _, _, _, _, .cons h t, q => .cons h (t.app q)
theorem DqBs.take : ∀ {a : List V} {x : List PyData} (n : Nat), DqBs H a x → DqBs H (a.take n) (x.take n)
  | _, _, 0, _ => by simpa using DqBs.nil
  | _, _, n + 1, .nil => .nil
  | _, _, n + 1, .cons h t => .cons h (t.take n)
theorem DqBs.drop : ∀ {a : List V} {x : List PyData} (n : Nat), DqBs H a x → DqBs H (a.drop n) (x.drop n)
  | _, _, 0, h => by simpa using h
  | _, _, n + 1, .nil => .nil
  | _, _, n + 1, .cons h t => by simpa using t.drop n
theorem DqBs.rev : ∀ {a : List V} {x : List PyData}, DqBs H a x → DqBs H a.reverse x.reverse
  | _, _, .nil => by simpa using DqBs.nil
  | _, _, .cons h t => by simpa using t.rev.app (.cons h .nil)
theorem DqBs.ints : ∀ (is : List Int), DqBs H (is.map V.int) (is.map PyData.int)
  | [] => .nil
  | i :: is => .cons (.int i) (DqBs.ints is)
end
/-! ### repr of any of it -/
end WL
namespace PySem.W
open PySem PySem.Calls PyProof.Rows WL
section
variable {prog : Program} {w : World} {h₀ : Heap}
/-- one value is shown in repr of another -/
def Shw (prog : Program) (w : World) (h₀ : Heap) (v : Value) (d : PyData) : Prop := ∃ bs, ReadAtMost h₀ d.depth bs ∧ ReprK prog w bs h₀ d.depth v d.shown
theorem shw_row {n : Nat} (k : ∀ (v : Value) (d : PyData) (as : List Addr), Fit 4300 n d → Reads h₀ v d as → sysModules ∉ as → d.shown.length ≤ sizeLine → Shw prog w h₀ v d) :
    ∀ (ds : List PyData) (vs : List Value) (as : List Addr), ReadsAll h₀ vs ds as → sysModules ∉ as → (∀ t ∈ PyData.shownAll ds, t.length ≤ sizeLine) → (∀ d ∈ ds, Fit 4300 n d) →
      ∃ bs, ReadAtMost h₀ (PyData.depthAll ds) bs ∧ ReprAllK prog w bs h₀ (PyData.depthAll ds) vs (PyData.shownAll ds)
  | [], _, _, r, _, _, _ => by
    cases r
    exact ⟨[], (fun _ z => nomatch z), by simp only [PyData.shownAll]; exact .nil⟩
  | d :: ds, _, _, r, hm, hz, hf => by
    cases r with
    | cons r1 r2 =>
      simp only [PyData.shownAll, List.mem_cons] at hz
      obtain ⟨b1, p1, k1⟩ := k _ d _ (hf d (by simp)) r1 (fun z => hm (List.mem_append_left _ z)) (hz _ (Or.inl rfl))
      obtain ⟨b2, p2, k2⟩ := shw_row k ds _ _ r2 (fun z => hm (List.mem_append_right _ z)) (fun t ht => hz t (Or.inr ht)) (fun e he => hf e (by simp [he]))
      have l1 : d.depth ≤ PyData.depthAll (d :: ds) := by simp only [PyData.depthAll]; omega
      have l2 : PyData.depthAll ds ≤ PyData.depthAll (d :: ds) := by simp only [PyData.depthAll]; omega
      refine ⟨b1 ++ b2, (p1.mono l1).append (p2.mono l2), ?_⟩
      simp only [PyData.shownAll]
      exact .cons ((k1.more fun b z => List.mem_append_left _ z).level_le l1) (k2.more_le (fun b z => List.mem_append_right _ z) l2)
theorem shw (nd : h₀.NoDigits) : ∀ (n : Nat) (v : Value) (d : PyData) (as : List Addr), Fit 4300 n d → Reads h₀ v d as → sysModules ∉ as → d.shown.length ≤ sizeLine → Shw prog w h₀ v d := by
  intro n
  induction n with
  | zero =>
    intro v d as hf r hm hz
    cases r with
    | int i t => exact ⟨[], (fun _ z => nomatch z), by simp only [PyData.shown]; exact big_reprK nd hf _ _⟩
    | none => exact ReprK.of_reads .none rfl (fun _ => hm) hz
    | bool b => exact ReprK.of_reads (.bool b) rfl (fun _ => hm) hz
    | str x t => exact ReprK.of_reads (.str x t) rfl (fun _ => hm) hz
    | list _ _ _ _ => exact hf.elim
    | tuple _ _ _ _ => exact hf.elim
    | dict _ _ _ _ _ => exact hf.elim
  | succ n ih =>
    intro v d as hf r hm hz
    cases r with
    | int i t => exact ⟨[], (fun _ z => nomatch z), by simp only [PyData.shown]; exact big_reprK nd hf _ _⟩
    | none => exact ReprK.of_reads .none rfl (fun _ => hm) hz
    | bool b => exact ReprK.of_reads (.bool b) rfl (fun _ => hm) hz
    | str x t => exact ReprK.of_reads (.str x t) rfl (fun _ => hm) hz
    | dict h1 h2 h3 h4 h5 =>
      rename_i a o es m kvs as bs
      obtain rfl : kvs = [] := hf
      exact ReprK.of_reads (.dict h1 h2 h3 h4 h5) rfl (fun _ => hm) hz
    | list h1 h2 h3 h4 =>
      rename_i a o vs m ds as
      have hz' : (listText (PyData.shownAll ds)).length ≤ sizeLine := by simpa only [PyData.shown] using hz
      obtain ⟨bs, p, k⟩ := shw_row ih ds _ _ h4 (fun z => hm (List.mem_cons_of_mem _ z)) (fun t ht => Nat.le_trans (listText_mem_le ht) hz') hf
      have dp : (PyData.list ds).depth = PyData.depthAll ds + 1 := by simp only [PyData.depth]
      have off : a ∉ bs := not_mem_of_deeper (.list h1 h2 h3 h4) (by rw [dp]; omega) p
      refine ⟨a :: bs, ReadAtMost.cons (.list h1 h2 h3 h4) (by rw [dp]; omega) p, ?_⟩
      rw [dp]
      simp only [PyData.shown]
      obtain ⟨l⟩ := vs
      cases l with
      | nil =>
        have k0 : ReadsAll h₀ [] ds _ := h4
        cases k0
        simp only [PyData.shownAll, listText_nil]
        exact ReprK.listEmpty h1 h2 h3
      | cons x l => exact ReprK.list h1 h2 h3 off (by simpa using k.length_eq) (fun i y e => k.item i y (by simpa using e))
    | tuple h1 h2 h3 h4 =>
      rename_i a o vs m ds
      have hz' : (tupleText (PyData.shownAll ds)).length ≤ sizeLine := by simpa only [PyData.shown] using hz
      obtain ⟨bs, p, k⟩ := shw_row ih ds _ _ h4 hm (fun t ht => Nat.le_trans (tupleText_mem_le ht) hz') hf
      have dp : (PyData.tuple ds).depth = PyData.depthAll ds + 1 := by simp only [PyData.depth]
      have off : a ∉ bs := not_mem_of_deeper (.tuple h1 h2 h3 h4) (by rw [dp]; omega) p
      refine ⟨a :: bs, ReadAtMost.cons (.tuple h1 h2 h3 h4) (by rw [dp]; omega) p, ?_⟩
      rw [dp]
      simp only [PyData.shown]
      exact ReprK.tuple h1 h2 h3 off k
end
end PySem.W
namespace WL
open PySem PySem.Spec PyProof.Rows L2
def rShowF : List V → Hp → VK → Prop := fun vs H Q => ∃ v d, vs = [v] ∧ DqB H v d ∧ Fit 4300 40 d ∧ d.shown.length ≤ sizeLine ∧ Q (V.str d.shown) H
theorem call_showF {X : Cx} {k : Nat} (nd : NoDig X.K) (hs : SysB X.K) (hg : X.A.guards = some []) (hr : Room k X.A) : CallR X (.builtin "repr") rShowF := by
  intro pins s σ H xs us Q I r h
  obtain ⟨v, d, rfl, hd, hf, hz, q⟩ := h
  have hu := hr.units
  have hn := inv_noDigits nd I
  have hdq : Dq H v d := hd.dq fun ys hy => by
    obtain ⟨o, ho, hc⟩ := hs
    obtain ⟨_, its, n, _, _, eo⟩ := Inv.lstM I hy
    have e2 := Option.some.inj ((I.kIn _ _ ho).symm.trans eo)
    subst e2
    exact absurd (show true = false from hc) (by decide)
  obtain ⟨u, rfl, rx⟩ := vals1 r
  obtain ⟨as, rd, hm⟩ := hdq.reads I rx
  have fin : ∀ (h' : Heap) (t : Tok) (tk : Nat), (∀ b o, s.heap.get? b = some o → h'.get? b = some o) → EP X pins σ Q (.str d.shown t) { s with heap := h', toks := tk } := fun h' t tk kp => ⟨.str d.shown, H, I.kept (t' := tk) kp, ⟨t, rfl⟩, q⟩
  have dpt := hf.depth
  cases rd with
  | none => exact PySem.P.repr_of_none (fin _ _ _ fun _ _ e => e)
  | bool b => exact PySem.P.repr_of_bool (fin _ _ _ fun _ _ e => e)
  | int i t => exact call_repr_slot (by omega) (typeIs_int s i t) F.slot_int_repr.toG (PySem.W.big_call_repr hn hf ⟨_, _, rfl, fin _ _ _ fun _ _ e => e⟩)
  | str x t => exact PySem.P.repr_of_str (fin _ _ _ fun _ _ e => e) hz
  | dict h1 h2 h3 h4 h5 =>
    rename_i a o es m kvs as bs
    obtain rfl : kvs = [] := hf
    exact repr_of_reads' (.dict h1 h2 h3 h4 h5) rfl (fun _ => hm) hg (by simp only [PyData.depth, PyData.depthKv]; omega) (fun _ _ e => e) fin hz
  | list h1 h2 h3 h4 =>
    rename_i a o vs m ds as
    have hz' : (listText (PyData.shownAll ds)).length ≤ sizeLine := by simpa only [PyData.shown] using hz
    obtain ⟨bs, p, k⟩ := PySem.W.shw_row (prog := X.prog) (w := X.w) (PySem.W.shw hn 39) ds _ _ h4 (fun z => hm (List.mem_cons_of_mem _ z)) (fun t ht => Nat.le_trans (listText_mem_le ht) hz') hf
    have dp : (PyData.list ds).depth = PyData.depthAll ds + 1 := by simp only [PyData.depth]
    have off : a ∉ bs := not_mem_of_deeper (.list h1 h2 h3 h4) (by rw [dp]; omega) p
    simp only [PyData.shown] at fin
    refine call_repr_slot (A := X.A) (by omega) ⟨o, h1, h2⟩ F.slot_list_repr.toG ?_
    obtain ⟨l⟩ := vs
    cases l with
    | nil =>
      have k0 : ReadsAll s.heap [] ds _ := h4
      cases k0
      simp only [PyData.shownAll, listText_nil] at fin
      exact call_list_repr_empty ⟨o, h1, h2⟩ h1 h3 ⟨_, _, rfl, fin _ _ _ fun _ _ e => e⟩
    | cons x l => exact call_list_reprK h1 h2 h3 off (by simpa using k.length_eq) (fun i y e => k.item i y (by simpa using e)) hg (fun b _ => Clear.nil b) (by show X.A.units + 1 + _ < cLine; omega) (fun _ _ e => e) (fun h' u tk kp => ⟨_, _, rfl, fin h' u tk kp⟩) hz'
  | tuple h1 h2 h3 h4 =>
    rename_i a o vs m ds
    have hz' : (tupleText (PyData.shownAll ds)).length ≤ sizeLine := by simpa only [PyData.shown] using hz
    obtain ⟨bs, p, k⟩ := PySem.W.shw_row (prog := X.prog) (w := X.w) (PySem.W.shw hn 39) ds _ _ h4 hm (fun t ht => Nat.le_trans (tupleText_mem_le ht) hz') hf
    have dp : (PyData.tuple ds).depth = PyData.depthAll ds + 1 := by simp only [PyData.depth]
    have off : a ∉ bs := not_mem_of_deeper (.tuple h1 h2 h3 h4) (by rw [dp]; omega) p
    simp only [PyData.shown] at fin
    exact call_repr_slot (A := X.A) (by omega) ⟨o, h1, h2⟩ F.slot_tuple_repr (call_tuple_reprK h1 h2 h3 off k hg (fun b _ => Clear.nil b) (by show X.A.units + 1 + _ < cLine; omega) (fun _ _ e => e) (fun h' u tk kp => ⟨_, _, rfl, fin h' u tk kp⟩) hz')
theorem g_showF {H : Hp} {Q : VK} {v : V} {d : PyData} (h : DqB H v d) (h1 : Fit 4300 40 d) (h2 : d.shown.length ≤ sizeLine) (q : Q (.str d.shown) H) : rShowF [v] H Q := ⟨v, d, rfl, h, h1, h2, q⟩
end WL
set_option Elab.async false
set_option linter.all false
set_option maxRecDepth 100000
set_option maxHeartbeats 1000000
/-! A def of the module called by its keywords alone, in any order. -/
namespace WL
open PySem PySem.Spec PyProof.Rows L2
structure HasKn (P : Program) (w : World) (K : PySem.W.Frag) (mg : Str → Option Value) (base : Heap) (CX : CXT) (k : Nat) (x : Str) (ps ks : List Str) (gV : List V → List V → List V) (sp : Sp) : Prop where
  ex : ∃ fa fd gU, mg x = some (.ref fa) ∧ PySem.W.keepIn K (.ref fa) = true ∧ KBn K fd ps 0 ks gU gV ∧ FnOk P w K mg base CX k fa fd ps sp
def tCallKn (n : Nat) (gV : List V → List V → List V) (sp : Sp) (E : XK) (tk : TA) : TE := fun σ H Q => tk σ H fun zs H1 => zs.length = n ∧ sp (gV [] zs) H1 Q E
theorem pe_hasKn {X : Cx} {CX : CXT} {k j : Nat} {x : Str} {ps ks : List Str} {gV : List V → List V → List V} {sp : Sp} {E : XK} {tk : TA} {p pos : Pos} {kws : List Keyword} (h : HasKn X.prog X.w X.K X.mg X.base CX k x ps ks gV sp) (room : Room j X.A) (le : k ≤ j) (hx : Passes CX X E) (hkw : PK X kws tk) (gl : Gl X x := by rfl) (db : (x == ("__debug__" : Str)) = false := by decide)
    (hall : (backToKw pos (keywordEach kws X.env)).all (·.1.isSome) = true := by rfl) (hks : (backToKw pos (keywordEach kws X.env)).filterMap (·.1) = ks := by rfl)
    (hpl : ((backTo pos (starEach [] X.env)).any (·.1) || (backToKw pos (keywordEach kws X.env)).any (·.1.isNone)) = false := by rfl) :
    PE X (.Call (.Name x p) [] kws pos) (tCallKn ks.length gV sp E tk) := by
  obtain ⟨fa, fd, gU, m, kp, b, F⟩ := h.ex
  constructor
  intro pins s σ H Q I w0
  refine wpAny_Call_Name_kw (ld_glob I gl m ?_ db)
  refine PySem.W.callWith_KW0 (first := []) (h₀ := X.base) I.ok.mod.kin kp hall (thn (hkw.run pos pins s σ H _ I w0) ?_) hpl
  rintro ws s2 ⟨zs, H2, I2, rz, l2, q2⟩
  refine ⟨I2.kIn, ?_⟩
  rw [hks]
  exact run_fnN (us := []) (vs := []) F (room.mono le) b hx I2 .nil rz rfl l2 q2
/-- the same in a lambda, where an error may leave -/
theorem pe_hasKnL {X : Cx} {A : Around} {outer : List Env} {s : Shared} {H : Hp} {E : XK} {scope : Scope} {f c' : Addr} {k j : Nat} {x : Str} {ps ks : List Str} {gV : List V → List V → List V} {sp : Sp} {tk : TA} {p pos : Pos} {kws : List Keyword} (h : HasKn X.prog X.w X.K X.mg X.base (L2.CX X.prog X.w) k x ps ks gV sp) (room : Room j (LamX.lamCx X A outer s H E scope f c').A) (le : k ≤ j) (hkw : PK (LamX.lamCx X A outer s H E scope f c') kws tk) (gl : Gl (LamX.lamCx X A outer s H E scope f c') x := by rfl) (db : (x == ("__debug__" : Str)) = false := by decide)
    (hall : (backToKw pos (keywordEach kws (LamX.lamCx X A outer s H E scope f c').env)).all (·.1.isSome) = true := by rfl) (hks : (backToKw pos (keywordEach kws (LamX.lamCx X A outer s H E scope f c').env)).filterMap (·.1) = ks := by rfl)
    (hpl : ((backTo pos (starEach [] (LamX.lamCx X A outer s H E scope f c').env)).any (·.1) || (backToKw pos (keywordEach kws (LamX.lamCx X A outer s H E scope f c').env)).any (·.1.isNone)) = false := by rfl) :
    PE (LamX.lamCx X A outer s H E scope f c') (.Call (.Name x p) [] kws pos) (tCallKn ks.length gV sp E tk) :=
  pe_hasKn (X := LamX.lamCx X A outer s H E scope f c') (E := E) h room le (passLam (X := X)) hkw gl db hall hks hpl
theorem g_callKn {n : Nat} {gV : List V → List V → List V} {sp : Sp} {E : XK} {tk : TA} {σ : L2.St} {H : Hp} {Q : VK} (h : tk σ H fun zs H1 => zs.length = n ∧ sp (gV [] zs) H1 Q E) : tCallKn n gV sp E tk σ H Q := h
/-- two names the other way round -/
def swap2 : List V → List V → List V := fun _ zs => match zs with
  | [a, b] => [b, a]
  | _ => []
def swap2V : List Value → List Value → List Value := fun _ zs => match zs with
  | [a, b] => [b, a]
  | _ => []
theorem vals_swap2 {vs zs : List V} {us ws : List Value} (h : Vals zs ws) : Vals (swap2 vs zs) (swap2V us ws) := by
  match zs, ws, h with
  | [], _, .nil => exact .nil
  | [_], _, .cons _ .nil => exact .nil
  | [_, _], _, .cons a (.cons b .nil) => exact .cons b (.cons a .nil)
  | _ :: _ :: _ :: _, _, .cons _ (.cons _ (.cons _ _)) => exact .nil
end WL
set_option Elab.async false
set_option linter.all false
set_option maxRecDepth 100000
set_option maxHeartbeats 1000000
/-! Values that stay what they are while numbers are drawn and lambdas are made. -/
namespace WL
open PySem PySem.Spec PyProof.Rows L2
/-- what is kept when numbers are drawn and lambdas are made -/
def calm (m g : Addr) (H : Hp) : Hp := fun b => if b = m ∨ b = g then none else noTab H b
theorem calm_at {m g b : Addr} {H : Hp} {o : HO} (h : H b = some o) (n1 : b ≠ m) (n2 : b ≠ g) (n3 : ∀ ps, o ≠ .tbl ps) : calm m g H b = some o := by
  unfold calm
  rw [if_neg (fun z => z.elim n1 n2)]
  exact noTab_at h n3
theorem calm_of {m g b : Addr} {H : Hp} {o : HO} (h : calm m g H b = some o) : b ≠ m ∧ b ≠ g ∧ noTab H b = some o := by
  unfold calm at h
  split at h
  · cases h
  · next z => exact ⟨fun e => z (Or.inl e), fun e => z (Or.inr e), h⟩
theorem calm_same {m g : Addr} {H : Hp} : ∀ b o, calm m g H b = some o → H b = some o := fun b o h => (noTab_of (calm_of h).2.2).1
/-- the calm part goes on -/
def Go (m g : Addr) (H H' : Hp) : Prop := ∀ b o, calm m g H b = some o → calm m g H' b = some o
theorem Go.refl {m g : Addr} {H : Hp} : Go m g H H := fun _ _ h => h
theorem Go.trans {m g : Addr} {H H1 H2 : Hp} (a : Go m g H H1) (b : Go m g H1 H2) : Go m g H H2 := fun x o h => b x o (a x o h)
theorem Go.pr {m c g : Addr} {H H' : Hp} {B : Int} (p : Pr m c g H H' B) : Go m g H H' := fun b o h => by
  obtain ⟨n1, n2, h2⟩ := calm_of h
  exact calm_at (p.but b o n1 n2 (noTab_of h2).1) n1 n2 (noTab_of h2).2
theorem Go.prN {m c g : Addr} {H H' : Hp} {B : Int} (p : Pr m c g (noTab H) H' B) : Go m g H H' := fun b o h => by
  obtain ⟨n1, n2, h2⟩ := calm_of h
  exact calm_at (p.but b o n1 n2 h2) n1 n2 (noTab_of h2).2
theorem Go.ext {m g : Addr} {H H' : Hp} (e : LamX.ExtN H H') : Go m g H H' := fun b o h => by
  obtain ⟨n1, n2, h2⟩ := calm_of h
  exact calm_at (e b o (noTab_of h2).1 (noTab_of h2).2) n1 n2 (noTab_of h2).2
theorem Go.same {m g : Addr} {H H' : Hp} (s : ∀ b o, H b = some o → H' b = some o) : Go m g H H' := Go.ext (LamX.ExtN.of s)
/-- a value, its levels, its numbers, its parts -/
def Gd (m g : Addr) (H : Hp) (e n k : Nat) (v : V) : Prop := ∃ d, DqB (calm m g H) v d ∧ Fit e n d ∧ d.bulk ≤ k
theorem Gd.go {m g : Addr} {H H' : Hp} {e n k : Nat} {v : V} (h : Gd m g H e n k v) (s : Go m g H H') : Gd m g H' e n k v := by
  obtain ⟨d, a, b, c⟩ := h
  exact ⟨d, a.same s, b, c⟩
theorem Gd.more {m g : Addr} {H : Hp} {e n k e' n' k' : Nat} {v : V} (h : Gd m g H e n k v) (h1 : e ≤ e') (h2 : n ≤ n') (h3 : k ≤ k') : Gd m g H e' n' k' v := by
  obtain ⟨d, a, b, c⟩ := h
  exact ⟨d, a, (b.mono h2).more h1, by omega⟩
theorem Gd.real {m g : Addr} {H : Hp} {e n k : Nat} {v : V} (h : Gd m g H e n k v) : ∃ d, DqB H v d ∧ Fit e n d ∧ d.bulk ≤ k := by
  obtain ⟨d, a, b, c⟩ := h
  exact ⟨d, a.same calm_same, b, c⟩
section
variable {m g : Addr} {H : Hp} {e n k : Nat}
theorem fit_non {e n : Nat} : Fit e n .none := by cases n <;> trivial
theorem fit_bl {e n : Nat} {b : Bool} : Fit e n (.bool b) := by cases n <;> trivial
theorem fit_int {e n : Nat} {i : Int} (h : i.natAbs < 10 ^ e) : Fit e n (.int i) := by cases n <;> exact h
theorem fit_str {e n : Nat} {x : Str} (h : ∀ c ∈ x.cps.toList, c < 16 ^ 8) : Fit e n (.str x) := by cases n <;> exact h
theorem gd_non : Gd m g H e n k .non := ⟨_, .non, fit_non, Nat.zero_le _⟩
theorem gd_bl {b : Bool} : Gd m g H e n k (.bl b) := ⟨_, .bl b, fit_bl, Nat.zero_le _⟩
theorem gd_int {i : Int} (h : i.natAbs < 10 ^ e) : Gd m g H e n k (.int i) := ⟨_, .int i, fit_int h, Nat.zero_le _⟩
theorem gd_str {x : Str} (h : ∀ c ∈ x.cps.toList, c < 16 ^ 8) (hk : x.cps.size ≤ k) : Gd m g H e n k (.str x) := ⟨_, .str x, fit_str h, hk⟩
theorem gd_dct {a : Addr} (h : H a = some (.dK [])) (n1 : a ≠ m) (n2 : a ≠ g) : Gd m g H e (n + 1) k (.ref a) := ⟨_, .mtd (calm_at h n1 n2 (fun ps z => nomatch z)), (show Fit e (n + 1) (.dict []) from rfl), Nat.zero_le _⟩
theorem gd_row {xs : List V} : (∀ x ∈ xs, Gd m g H e n k x) → ∃ ds, DqBs (calm m g H) xs ds ∧ (∀ d ∈ ds, Fit e n d) ∧ PyData.bulkAll ds ≤ (k + 1) * xs.length := by
  intro h
  induction xs with
  | nil => exact ⟨[], .nil, (fun d z => nomatch z), by simp [PyData.bulkAll]⟩
  | cons x xs ih =>
    obtain ⟨d, a, b, c⟩ := h x (by simp)
    obtain ⟨ds, a2, b2, c2⟩ := ih (fun y hy => h y (by simp [hy]))
    refine ⟨d :: ds, .cons a a2, fun z hz => ?_, ?_⟩
    · rcases List.mem_cons.mp hz with rfl | hz
      · exact b
      · exact b2 z hz
    · simp only [PyData.bulkAll, List.length_cons, Nat.mul_add]
      omega
theorem gd_tup {a : Addr} {xs : List V} {k' : Nat} (h : H a = some (.tup xs)) (n1 : a ≠ m) (n2 : a ≠ g) (hx : ∀ x ∈ xs, Gd m g H e n k x) (hk : (k + 1) * xs.length ≤ k') : Gd m g H e (n + 1) k' (.ref a) := by
  obtain ⟨ds, p, q, r⟩ := gd_row hx
  exact ⟨.tuple ds, .tup (calm_at h n1 n2 (fun ps z => nomatch z)) p, q, by rw [PyData.bulk.eq_3]; omega⟩
theorem gd_lst {a : Addr} {xs : List V} {k' : Nat} (h : H a = some (.lst xs)) (n1 : a ≠ m) (n2 : a ≠ g) (hx : ∀ x ∈ xs, Gd m g H e n k x) (hk : (k + 1) * xs.length ≤ k') : Gd m g H e (n + 1) k' (.ref a) := by
  obtain ⟨ds, p, q, r⟩ := gd_row hx
  exact ⟨.list ds, .lst (calm_at h n1 n2 (fun ps z => nomatch z)) p, q, by rw [PyData.bulk.eq_2]; omega⟩
end
theorem text_signs (s : String) : ∀ c ∈ (Str.ofString s).cps.toList, c < 16 ^ 8 := by
  intro c hc
  rw [PySem.Str.ofString_eq_toList] at hc
  simp only [List.mem_map] at hc
  obtain ⟨ch, _, rfl⟩ := hc
  exact Nat.lt_of_lt_of_le (show ch.val.toNat < 2 ^ 32 from ch.val.toNat_lt) (by decide)
theorem text_size {i : Int} {e : Nat} (he : 0 < e) (h : i.natAbs < 10 ^ e) : (toString i : PySem.Str).cps.size ≤ e + 1 := by
  have z : (toString i : PySem.Str).length ≤ e + 1 := by
    rw [PySem.ofString_length]
    exact int_text_length_le10 he h
  exact z
theorem gd_textV {m g : Addr} {H : Hp} {e n : Nat} {x : V} {i : Int} (hx : numV x = some i) (he : 5 ≤ e) (h : i.natAbs < 10 ^ e) : Gd m g H e n (e + 1) (.str (textV x)) := by
  cases x with
  | int k =>
    obtain rfl : k = i := Option.some.inj hx
    exact gd_str (text_signs _) (text_size (by omega) h)
  | bl b =>
    refine gd_str ?_ ?_
    · cases b <;> exact text_signs _
    · cases b
      · show (5 : Nat) ≤ e + 1; omega
      · show (4 : Nat) ≤ e + 1; omega
  | _ => cases hx
theorem Pr.grow {m c g b : Addr} {H0 H : Hp} {B : Int} (p : Pr m c g H0 H B) (nn : H b = none) (o : HO) : b ≠ m ∧ b ≠ g ∧ Pr m c g H0 (upd H b o) B ∧ Go m g H (upd H b o) := by
  obtain ⟨_, _, d⟩ := p.dr
  obtain ⟨h1, _, h3⟩ := d.off nn
  exact ⟨h1, h3, p.new nn, Go.same (same_up nn fun _ _ h => h)⟩
theorem gd_all {m g : Addr} {H H' : Hp} {e n k : Nat} {vs : List V} {y : V} (all : ∀ v ∈ vs, Gd m g H e n k v) (s : Go m g H H') (hy : Gd m g H' e n k y) : ∀ v ∈ vs ++ [y], Gd m g H' e n k v := fun v hv => by
  rcases List.mem_append.mp hv with h | h
  · exact (all v h).go s
  · rw [List.mem_singleton.mp h]; exact hy
theorem gd_keep {m g : Addr} {H H' : Hp} {e n k : Nat} {vs : List V} (all : ∀ v ∈ vs, Gd m g H e n k v) (s : Go m g H H') : ∀ v ∈ vs, Gd m g H' e n k v := fun v hv => (all v hv).go s
theorem gd_app {m g : Addr} {H : Hp} {e n k : Nat} {vs us : List V} (a : ∀ v ∈ vs, Gd m g H e n k v) (b : ∀ v ∈ us, Gd m g H e n k v) : ∀ v ∈ vs ++ us, Gd m g H e n k v := fun v hv => by
  rcases List.mem_append.mp hv with h | h
  · exact a v h
  · exact b v h
theorem small_int {i : Int} {e : Nat} (he : 6 ≤ e) (h : -99999 ≤ i ∧ i ≤ 99999) : i.natAbs < 10 ^ e := by
  have : (10 : Nat) ^ 6 ≤ 10 ^ e := Nat.pow_le_pow_right (by decide) he
  have z : (10 : Nat) ^ 6 = 1000000 := by decide
  omega
/-- a tuple of small numbers -/
theorem gd_ints {m g a : Addr} {H : Hp} {e n k : Nat} {is : List Int} (h : H a = some (.tup (is.map V.int))) (n1 : a ≠ m) (n2 : a ≠ g) (hx : ∀ i ∈ is, i.natAbs < 10 ^ e) (hk : is.length ≤ k) : Gd m g H e (n + 1) k (.ref a) := by
  refine gd_tup (k := 0) (n := n) h n1 n2 (fun x hx' => ?_) (by simpa using hk)
  obtain ⟨i, hi, rfl⟩ := List.mem_map.mp hx'
  exact gd_int (hx i hi)
/-- a value is changed: one level more, one digit more, so many parts more -/
def spUnlike (K : PySem.W.Frag) : Sp := fun vs H Q _ => ∃ (m c g : Addr) (B : Int) (x : V) (e n k : Nat), vs = [.ref m, x] ∧ Pr m c g H H B ∧ B < 2 ^ 28 ∧ Gd m g H e n k x ∧ 1000 ≤ e ∧ e ≤ 1005 ∧ n ≤ 30 ∧
  ∀ (y : V) (H' : Hp), Pr m c g H H' (B + 1) → Gd m g H' (e + 1) (n + 2) (k + 1100) y → Q y H'
section
variable {K : PySem.W.Frag}
theorem Gd.ans {m g : Addr} {H : Hp} {e n k : Nat} {x : V} (h : Gd m g H e n k x) : ∃ s, AnS K H x s := by
  obtain ⟨d, a, _⟩ := h.real
  exact ⟨_, a.ans⟩
theorem num_of {s : Sh} {x : V} {H : Hp} (h : AnS K H x s) (e : (s.isInt || s.ty == "bool") = true) : ∃ i, numV x = some i := by
  cases h with
  | int i => exact ⟨i, rfl⟩
  | bl b => exact ⟨_, rfl⟩
  | _ => cases e
theorem Gd.num {m g : Addr} {H : Hp} {e n k : Nat} {x : V} {i : Int} (h : Gd m g H e n k x) (he : 1 ≤ e) (hx : numV x = some i) : i.natAbs < 10 ^ e := by
  obtain ⟨d, a, b, _⟩ := h
  cases a with
  | int j =>
    obtain rfl : j = i := Option.some.inj hx
    cases n <;> exact b
  | bl bb =>
    have z : i = 0 ∨ i = 1 := by
      have z := Option.some.inj hx
      cases bb <;> simp at z <;> omega
    have : 2 ≤ 10 ^ e := Nat.le_trans (show 2 ≤ 10 ^ 1 by decide) (Nat.pow_le_pow_right (by decide) he)
    rcases z with rfl | rfl <;> simp <;> omega
  | _ => cases hx
theorem near {i j : Int} {e : Nat} (h : i.natAbs < 10 ^ e) (hj : j.natAbs ≤ i.natAbs + 1) : j.natAbs < 10 ^ (e + 1) := by
  have z : 10 ^ e < 10 ^ (e + 1) := Nat.pow_lt_pow_right (by decide) (by omega)
  omega
end
/-! ### parts of rows -/
theorem bulk_app : ∀ (a b : List PyData), PyData.bulkAll (a ++ b) = PyData.bulkAll a + PyData.bulkAll b
  | [], b => by simp [PyData.bulkAll]
  | x :: a, b => by
    simp only [List.cons_append, PyData.bulkAll, bulk_app a b]
    omega
theorem bulk_td (ds : List PyData) (i : Nat) : PyData.bulkAll (ds.take i) + PyData.bulkAll (ds.drop i) = PyData.bulkAll ds := by
  rw [← bulk_app, List.take_append_drop]
theorem bulk_rev : ∀ (a : List PyData), PyData.bulkAll a.reverse = PyData.bulkAll a
  | [] => rfl
  | x :: a => by
    simp only [List.reverse_cons, bulk_app, PyData.bulkAll, bulk_rev a]
    omega
theorem bulk_at {ds : List PyData} {i : Nat} {d : PyData} (h : ds[i]? = some d) : PyData.bulkAll (ds.take i) + (d.bulk + 1) + PyData.bulkAll (ds.drop (i + 1)) = PyData.bulkAll ds := by
  have hi : i < ds.length := (List.getElem?_eq_some_iff.mp h).1
  have e : ds.drop i = d :: ds.drop (i + 1) := by
    rw [List.drop_eq_getElem_cons hi]
    rw [List.getElem?_eq_getElem hi] at h
    rw [Option.some.inj h]
  have z := bulk_td ds i
  rw [e] at z
  simp only [PyData.bulkAll] at z
  omega
theorem Pr.wide {m c g : Addr} {H0 H H' : Hp} {B : Int} (p : Pr m c g H0 H B) (s : ∀ b o, H b = some o → H' b = some o) : Pr m c g H0 H' B := by
  obtain ⟨n, h, d⟩ := p.dr
  exact ⟨⟨n, h, d.ext (LamX.ExtN.of s)⟩, p.but.same s⟩
theorem cut_mid (xs : List V) {i k : Nat} {j : Int} (hi : i ≤ xs.length) (hj : j = (i : Int) + k) : cutV xs (some (i : Int)) (some j) = (xs.drop i).take k := by
  subst hj
  unfold cutV HT.sIx
  simp only
  rw [if_neg (by omega), if_neg (by omega)]
  have e1 : min (i : Int).toNat xs.length = i := by omega
  have e2 : min ((i : Int) + (k : Int)).toNat xs.length - i = min k (xs.length - i) := by omega
  rw [e1, e2]
  rcases Nat.le_total k (xs.length - i) with z | z
  · rw [Nat.min_eq_left z]
  · rw [Nat.min_eq_right z, List.take_of_length_le (by rw [List.length_drop]; exact Nat.le_refl _), List.take_of_length_le (by rw [List.length_drop]; exact z)]
theorem cut_from (xs : List V) {i : Nat} {j : Int} (hj : j = (i : Int)) : cutV xs (some j) none = xs.drop i := by
  subst hj
  rw [cut_drop xs (by omega)]
  simp
theorem len_bulk : ∀ ds : List PyData, ds.length ≤ PyData.bulkAll ds
  | [] => Nat.zero_le _
  | d :: ds => by
    have := len_bulk ds
    simp only [List.length_cons, PyData.bulkAll]
    omega
theorem Pr.nt {m c g : Addr} {H0 H H' : Hp} {B : Int} (p : Pr m c g H0 H B) (h : Nt H H') : Pr m c g H0 H' B := Nt.pr p h
theorem gd_tupD {m g a : Addr} {H : Hp} {e n k : Nat} {xs : List V} {ds : List PyData} (h : H a = some (.tup xs)) (n1 : a ≠ m) (n2 : a ≠ g) (hx : DqBs (calm m g H) xs ds) (hf : ∀ d ∈ ds, Fit e n d) (hk : PyData.bulkAll ds ≤ k) : Gd m g H e (n + 1) k (.ref a) :=
  ⟨.tuple ds, .tup (calm_at h n1 n2 (fun ps z => nomatch z)) hx, hf, by rw [PyData.bulk.eq_3]; exact hk⟩
theorem gd_lstD {m g a : Addr} {H : Hp} {e n k : Nat} {xs : List V} {ds : List PyData} (h : H a = some (.lst xs)) (n1 : a ≠ m) (n2 : a ≠ g) (hx : DqBs (calm m g H) xs ds) (hf : ∀ d ∈ ds, Fit e n d) (hk : PyData.bulkAll ds ≤ k) : Gd m g H e (n + 1) k (.ref a) :=
  ⟨.list ds, .lst (calm_at h n1 n2 (fun ps z => nomatch z)) hx, hf, by rw [PyData.bulk.eq_2]; exact hk⟩
theorem Pr.tup_ne {m c g a : Addr} {H0 H : Hp} {B : Int} {xs : List V} (p : Pr m c g H0 H B) (h : H a = some (.tup xs)) : a ≠ m ∧ a ≠ g := by
  obtain ⟨_, _, d⟩ := p.dr
  obtain ⟨l, _, hg⟩ := d.great
  exact ⟨(fun z => by rw [z, d.dict] at h; cases h), (fun z => by rw [z, hg] at h; cases h)⟩
theorem Go.nt {m g : Addr} {H H' : Hp} (h : Nt H H') : Go m g H H' := Go.same h.same
/-- a value is changed once: two levels more, one digit more, twice as many parts and so many more -/
def spChg (K : PySem.W.Frag) : Nat → Sp
  | 0 => fun _ _ _ _ => False
  | N + 1 => fun vs H Q _ => ∃ (m c g : Addr) (B : Int) (x : V) (e n k : Nat), vs = [.ref m, x] ∧ Pr m c g H H B ∧ B + 4 * N < 2 ^ 27 ∧ Gd m g H e n k x ∧ 1000 ≤ e ∧ e ≤ 1005 ∧ n ≤ N ∧ N ≤ 20 ∧ k ≤ 10000 ∧
    ∀ (y : V) (H' : Hp), Pr m c g H H' (B + 4 * (N + 1)) → Gd m g H' (e + 1) (n + 2) (2 * k + 1100) y → Q y H'
theorem tabs_put {T : List (Addr × Str)} {H : Hp} {L : Addr} {xs ys : List V} (t : LamX.Tabs T H) (h : H L = some (.lst xs)) : LamX.Tabs T (upd H L (.lst ys)) := fun r hr => by
  obtain ⟨ps, e, ok, h2⟩ := t r hr
  have n1 : r.1 ≠ L := fun z => by rw [z, h] at e; cases e
  refine ⟨ps, by rw [upd_ne n1]; exact e, ok, fun pos cv hc => ?_⟩
  obtain ⟨c', e1, e2⟩ := h2 pos cv hc
  have n2 : c' ≠ L := fun z => by rw [z, h] at e2; cases e2
  exact ⟨c', e1, by rw [upd_ne n2]; exact e2⟩
section
variable {K : PySem.W.Frag} {DC : Addr}
theorem AnS.extN {H H' : Hp} {x : V} {s : Sh} (h : AnS K H x s) (e : LamX.ExtN H H') : AnS K H' x s := h.noT.same fun b o hb => e b o (noTab_of hb).1 (noTab_of hb).2
theorem DiaAt.extN {H H' : Hp} {v : V} {c : Int} {ns : List (Option Int)} {ls : List (Int × Int × Int)} (h : DiaAt DC H v c ns ls) (e : LamX.ExtN H H') : DiaAt DC H' v c ns ls := h.noT.same fun b o hb => e b o (noTab_of hb).1 (noTab_of hb).2
end
/-! ### a list that grows is left out -/
def hide (L : Addr) (H : Hp) : Hp := fun b => if b = L then none else H b
theorem hide_at {L b : Addr} {H : Hp} {o : HO} (h : H b = some o) (n : b ≠ L) : hide L H b = some o := by
  unfold hide
  rw [if_neg n]; exact h
theorem hide_of {L b : Addr} {H : Hp} {o : HO} (h : hide L H b = some o) : b ≠ L ∧ H b = some o := by
  unfold hide at h
  split at h
  · cases h
  · next z => exact ⟨z, h⟩
theorem Go.hide {m g L : Addr} {H H' : Hp} (s : ∀ b o, b ≠ m → b ≠ g → b ≠ L → H b = some o → H' b = some o) : Go m g (hide L H) (hide L H') := fun b o h => by
  obtain ⟨n1, n2, h2⟩ := calm_of h
  obtain ⟨h3, h4⟩ := noTab_of h2
  obtain ⟨n3, h5⟩ := hide_of h3
  exact calm_at (hide_at (s b o n1 n2 n3 h5) n3) n1 n2 h4
theorem Go.into {m g L : Addr} {H : Hp} {o : HO} (n : H L = none) : Go m g H (WL.hide L (upd H L o)) := fun b u h => by
  obtain ⟨n1, n2, h2⟩ := calm_of h
  obtain ⟨h3, h4⟩ := noTab_of h2
  have ne : b ≠ L := fun z => by rw [z, n] at h3; cases h3
  exact calm_at (hide_at (by rw [upd_ne ne]; exact h3) ne) n1 n2 h4
theorem Go.out {m g L : Addr} {H : Hp} : Go m g (WL.hide L H) H := fun b o h => by
  obtain ⟨n1, n2, h2⟩ := calm_of h
  obtain ⟨h3, h4⟩ := noTab_of h2
  exact calm_at (hide_of h3).2 n1 n2 h4
theorem hide_put {L : Addr} {H : Hp} {o : HO} : WL.hide L (upd H L o) = WL.hide L H := by
  funext b
  unfold WL.hide
  by_cases e : b = L
  · rw [if_pos e, if_pos e]
  · rw [if_neg e, if_neg e, upd_ne e]
theorem cut_ints (is : List Int) (lo hi : Option Int) : ∃ js : List Int, cutV (is.map V.int) lo hi = js.map V.int ∧ (∀ j ∈ js, j ∈ is) ∧ js.length ≤ is.length := by
  unfold cutV
  refine ⟨(is.drop _).take _, by rw [List.map_take, List.map_drop], fun j hj => List.mem_of_mem_drop (List.mem_of_mem_take hj), ?_⟩
  rw [List.length_take, List.length_drop]
  omega
theorem g_chg4 {K : PySem.W.Frag} {m c g : Addr} {B : Int} {x : V} {e n k : Nat} {H : Hp} {Q : VK} {E : XK} (hP : Pr m c g H H B) (hB : B < 2 ^ 27 - 12) (hG : Gd m g H e n k x) (h1 : 1000 ≤ e) (h2 : e ≤ 1005) (h3 : n ≤ 3) (h4 : k ≤ 10000)
    (q : ∀ (y : V) (H' : Hp), Pr m c g H H' (B + 16) → Gd m g H' (e + 1) (n + 2) (2 * k + 1100) y → Q y H') : spChg K 4 [.ref m, x] H Q E :=
  ⟨m, c, g, B, x, e, n, k, rfl, hP, by show B + 4 * ((3 : Nat) : Int) < 2 ^ 27; omega, hG, h1, h2, h3, by decide, h4, fun y H' p h => q y H' (p.le (by show B + 4 * (((3 : Nat) : Int) + 1) ≤ _; omega)) h⟩
end WL
set_option Elab.async false
set_option linter.all false
set_option maxRecDepth 100000
set_option maxHeartbeats 4000000
namespace K06
open PySem PySem.Spec PyProof.Rows L2 WL
local macro_rules | `(tactic| walk_at "side") => `(tactic| first | (show (_ ∧ _) ∨ (_ ∧ _); omega) | (exact ⟨by omega, by omega⟩) | (show (0 : Int) < _; omega) | omega)
local macro_rules | `(tactic| walk_at "go") => `(tactic| (repeat (first
  | with_reducible refine g_seq ?_ | with_reducible refine g_asgN ?_ | with_reducible refine g_ret ?_ | with_reducible refine g_drop ?_ | with_reducible refine g_ifS ?_ | with_reducible refine g_next ?_
  | with_reducible refine g_var rfl ?_ | with_reducible refine g_c ?_ | with_reducible refine g_op ?_ | with_reducible refine g_un ?_ | with_reducible refine g_rI0 ?_ | ((with_reducible refine g_rI ?_ ?_); next => walk_at "side") | with_reducible refine g_test ?_ | with_reducible refine g_bl ?_
  | with_reducible refine g_nil ?_ | with_reducible refine g_cons ?_ | with_reducible refine g_call ?_ | with_reducible refine g_cb ?_ | with_reducible refine g_if ?_ | with_reducible refine g_par ?_ | with_reducible refine g_two ?_
  | with_reducible refine g_asg ?_ | with_reducible refine g_name ?_ | with_reducible refine g_sub ?_ | with_reducible refine g_yes ?_ | with_reducible refine g_gcons ?_ | with_reducible refine g_gnil ?_ | with_reducible refine g_dget ?_ | with_reducible refine g_dput ?_ | with_reducible refine g_rng1 ?_ | with_reducible refine g_rng2 ?_
  | ((with_reducible refine g_one ?_ ?_); next => omega) | ((with_reducible refine g_twoI ?_ ?_); next => omega) | with_reducible refine g_isNon ?_ | with_reducible refine g_andV ?_ | with_reducible refine g_revT ?_ | with_reducible refine g_itup ?_ | with_reducible refine g_methK0 ?_ | with_reducible refine g_methS ?_ | with_reducible refine g_errF ?_ | with_reducible refine g_prop ?_ | with_reducible refine g_con ?_ | with_reducible refine g_make ?_ | with_reducible refine g_fld ?_ | with_reducible refine g_sfld ?_ | with_reducible refine g_iftn ?_ | with_reducible refine g_iffn ?_ | with_reducible refine g_orV ?_ | with_reducible refine g_notV ?_ | with_reducible refine g_tB ?_ | with_reducible refine g_chain ?_ | with_reducible refine g_neg ?_ | with_reducible refine g_cval ?_ | with_reducible refine g_enumT ?_ | with_reducible refine g_andT ?_ | with_reducible refine g_orT ?_ | with_reducible refine g_notT ?_ | with_reducible refine g_sl ?_ | with_reducible refine g_part ?_ | with_reducible refine g_parI ?_ | with_reducible refine g_noPart ?_ | with_reducible refine g_pcons ?_ | with_reducible refine g_pnil ?_ | with_reducible refine g_list ?_ | with_reducible refine g_lc ?_ | with_reducible refine g_for ?_ | with_reducible refine g_enum ?_ | with_reducible refine g_ift ?_ | with_reducible refine g_iff ?_ | with_reducible refine And.intro rfl ?_ | with_reducible refine g_notNon ?_)))
local macro_rules | `(tactic| walk_at "ex") => `(tactic| (repeat (first
  | with_reducible refine g_seqAsg ?_ | with_reducible refine g_seqFld ?_ | with_reducible refine g_seqDrop ?_ | with_reducible refine g_seqPut ?_ | with_reducible refine g_seqPar ?_ | with_reducible refine g_asgN ?_ | with_reducible refine g_ret ?_ | with_reducible refine g_drop ?_ | with_reducible refine g_next ?_
  | with_reducible refine g_var rfl ?_ | with_reducible refine g_c ?_ | with_reducible refine g_op ?_ | with_reducible refine g_un ?_ | with_reducible refine g_rI0 ?_ | ((with_reducible refine g_rI ?_ ?_); next => walk_at "side") | with_reducible refine g_test ?_ | with_reducible refine g_bl ?_
  | with_reducible refine g_nil ?_ | with_reducible refine g_cons ?_ | with_reducible refine g_call ?_ | with_reducible refine g_cb ?_ | with_reducible refine g_if ?_ | with_reducible refine g_par ?_ | with_reducible refine g_two ?_
  | with_reducible refine g_asg ?_ | with_reducible refine g_name ?_ | with_reducible refine g_sub ?_ | with_reducible refine g_yes ?_ | with_reducible refine g_gcons ?_ | with_reducible refine g_gnil ?_ | with_reducible refine g_dget ?_ | with_reducible refine g_dput ?_ | with_reducible refine g_rng1 ?_ | with_reducible refine g_rng2 ?_
  | ((with_reducible refine g_one ?_ ?_); next => omega) | ((with_reducible refine g_twoI ?_ ?_); next => omega) | with_reducible refine g_isNon ?_ | with_reducible refine g_andV ?_ | with_reducible refine g_revT ?_ | with_reducible refine g_itup ?_ | with_reducible refine g_methK0 ?_ | with_reducible refine g_methS ?_ | with_reducible refine g_errF ?_ | with_reducible refine g_prop ?_ | with_reducible refine g_con ?_ | with_reducible refine g_make ?_ | with_reducible refine g_fld ?_ | with_reducible refine g_sfld ?_ | with_reducible refine g_iftn ?_ | with_reducible refine g_iffn ?_ | with_reducible refine g_orV ?_ | with_reducible refine g_notV ?_ | with_reducible refine g_tB ?_ | with_reducible refine g_chain ?_ | with_reducible refine g_neg ?_ | with_reducible refine g_cval ?_ | with_reducible refine g_enumT ?_ | with_reducible refine g_proj ?_ | with_reducible refine g_andT ?_ | with_reducible refine g_orT ?_ | with_reducible refine g_notT ?_ | with_reducible refine g_sl ?_ | with_reducible refine g_part ?_ | with_reducible refine g_parI ?_ | with_reducible refine g_noPart ?_ | with_reducible refine g_pcons ?_ | with_reducible refine g_pnil ?_ | with_reducible refine g_list ?_ | with_reducible refine g_lc ?_ | with_reducible refine g_enum ?_ | with_reducible refine g_ift ?_ | with_reducible refine g_iff ?_ | with_reducible refine And.intro rfl ?_ | with_reducible refine g_notNon ?_)))
section
variable {P : Program} {w : World} {K : PySem.W.Frag} {mg : Str → Option Value} {base : Heap} {f : Addr} {fd : FuncData}
abbrev FnT (K : PySem.W.Frag) (x : Str) (st : Stmt) (f : Addr) (fd : FuncData) : Prop := FunD K x x (defArgs st) (defBody st) (defScope st) [] [] f fd
theorem sc_mixed : FnScope ["cell", "n", "turned"] ["cell", "n"] (defScope s_law_mixed) := ⟨rfl, rfl, rfl, by decide +kernel, rfl, by decide +kernel, by decide +kernel⟩
theorem ok_mixed (F : FnT K "_law_mixed" s_law_mixed f fd) : FnOk P w K mg base CX0 1 f fd ["cell", "n"] spMixed := by
  refine F.ok sc_mixed (fun vs H Q E h => ?_) (fun cdv A outer s H vs Q E hr h => ?_)
  · obtain ⟨c, n, rfl, _⟩ := h
    rfl
  · obtain ⟨c, n, rfl, hc, hn, q⟩ := h
    have sc := sc_mixed
    refine ⟨_, PSs.nox (pss_cons (ps_set (i := 2) sc.nd rfl (Or.inl rfl) (pe_op op_add (pe_op op_add (pe_op op_mod (pe_op op_mul (pe_op op_mul (pv 0) (pe_op op_add pe_int (pe_op op_mul pe_int (pv 1)))) pe_int) pe_int) (pe_op op_mul (pe_op op_mul pe_int (pv 1)) (pv 1))) (pe_op op_mul pe_int (pv 1))))
      (pss_one (ps_ret (pe_op op_fdiv (pe_op op_mod (pe_op op_mul (pv 2) pe_int) pe_int) pe_int)))), ?_⟩
    walk_at "go"
    refine q _ ?_ ?_ <;> omega
theorem sc_folded : FnScope ["script", "found", "n", "cell"] ["script"] (defScope s_law_folded) := ⟨rfl, rfl, rfl, by decide +kernel, rfl, by decide +kernel, by decide +kernel⟩
theorem ok_folded (F : FnT K "_law_folded" s_law_folded f fd) (T : Blt mg) : FnOk P w K mg base CX0 1 f fd ["script"] (spFolded K) := by
  refine F.ok sc_folded (fun vs H Q E h => ?_) (fun cdv A outer s H vs Q E hr h => ?_)
  · obtain ⟨a, ns, rfl, _⟩ := h
    rfl
  · obtain ⟨a, ns, rfl, hS, hlen, q⟩ := h
    have sc := sc_folded
    refine ⟨_, PSs.nox (pss_cons (ps_setLc (i := 1) (own := [("n", 2)]) (g := gName 2) (tt := tYes) (by rfl) sc.nd rfl rfl (sw_true rfl rfl rfl (by decide +kernel)) (pi_range1 (by rfl) T.range (pa_cons pe_int pa_nil)) (blkOk_by (sc := defScope s_law_folded) (N := ["script", "found", "n", "cell"]) (own := [("n", 2)]) (by decide +kernel)) (fun _ _ _ _ _ => (pg_name (i := 2) sc.nd rfl (Or.inl rfl))) (fun _ _ _ _ _ => pts_nil) (fun _ _ _ _ _ => (pe_op op_add pe_int (pv 2))))
      (pss_cons (ps_for PassesOwn.never rfl (pi_enum (by rfl) T.enumerate (pa_cons (pv 0) pa_nil)) (pg_tup rfl (pgs_cons (pg_name (i := 2) sc.nd rfl (Or.inl rfl)) (pgs_cons (pg_name (i := 3) sc.nd rfl (Or.inl rfl)) pgs_nil)))
        (pss_one (ps_asg (pe_op op_mod (pe_op op_add (pe_op op_mul (pe_ix ix_list (pv 1) (pe_op op_mod (pv 2) pe_int) (fun _ _ => rfl)) pe_int) (pv 3)) pe_int) (pg_sub (pv 1) (pe_op op_mod (pv 2) pe_int) set_list))))
      (pss_cons (ps_for PassesOwn.never rfl (pi_range2 (by rfl) T.range (pa_cons pe_int (pa_cons pe_int pa_nil))) (pg_name (i := 2) sc.nd rfl (Or.inl rfl))
        (pss_one (ps_asg (pe_op op_mod (pe_op op_add (pe_ix ix_list (pv 1) (pv 2) (fun _ _ => rfl)) (pe_op op_mul (pe_ix ix_list (pv 1) (pe_op op_sub (pv 2) pe_int) (fun _ _ => rfl)) pe_int)) pe_int) (pg_sub (pv 1) (pv 2) set_list))))
      (pss_one (ps_ret (pv 1)))))), ?_⟩
    walk_at "go"
    refine LcQ.range (fun D i H' => H' D = some (.lst ((List.range i).map fun j => V.int (17 + (j : Nat)))) ∧ ∀ b, b ≠ D → H' b = H b) (fun D nD => ⟨upd_same, fun b e => upd_ne e⟩) ?_ ?_
    · intro D nD i H2 hi ⟨h1, h2⟩
      walk_at "go"
      refine ⟨_, h1, ?_, ?_, ?_⟩
      · simp only [List.length_map, List.length_range]
        exact Nat.lt_of_lt_of_le hi (by decide)
      · rw [upd_same, List.range_succ, List.map_append]
        simp
      · intro b e
        rw [upd_ne e]; exact h2 b e
    · intro D nD H2 ⟨h1, h2⟩
      walk_at "go"
      have sm : ∀ b o, H b = some o → H2 b = some o := fun b o h => by
        rw [h2 b (fun e => by subst e; rw [nD] at h; exact absurd h (by simp))]; exact h
      refine g_one' (K := K) (SqL.same hS sm) ?_
      refine ForQ.enum (xs := ns.map V.int) (fun i σ H' => (∃ x y, σ = [some (.ref a), some (.ref D), x, y]) ∧ ∃ l, Cells l ∧ H' D = some (.lst (l.map V.int)) ∧ ∀ b o, H b = some o → H' b = some o) ?_ ?_ ?_ ?_
      · refine ⟨⟨_, _, rfl⟩, (List.range 64).map fun j => 17 + (j : Nat), ⟨by simp, fun c hc => ?_⟩, ?_, sm⟩
        · obtain ⟨j, hj, rfl⟩ := List.mem_map.mp hc
          have := List.mem_range.mp hj
          omega
        · rw [h1, List.map_map]; rfl
      · rintro i σ H3 _ ⟨_, l, _, _, s3⟩
        exact SqL.same hS s3
      · rintro i x T σ H3 hx ⟨⟨u, v, rfl⟩, l, hl, hD, s3⟩ nT
        have neT : D ≠ T := fun e => by subst e; rw [nT] at hD; exact absurd hD (by simp)
        obtain ⟨c, rfl⟩ : ∃ c, x = V.int c := by
          rw [List.getElem?_map] at hx
          cases hn : ns[i]? with
          | none => rw [hn] at hx; exact absurd hx (by simp)
          | some c => rw [hn] at hx; exact ⟨c, (Option.some.inj hx).symm⟩
        have hi : i < ns.length := by
          rcases Nat.lt_or_ge i ns.length with q | q
          · exact q
          · rw [List.getElem?_map, List.getElem?_eq_none q] at hx; exact absurd hx (by simp)
        refine g_tupg (SqT.of upd_same) rfl ?_
        obtain ⟨e, he, e0, e1⟩ := hl.get (i := i) (by omega)
        walk_at "go"
        refine g_ixL (xs := l.map V.int) (SqL.of (by rw [upd_ne neT]; exact hD)) (v := .int e) (atI_at (by omega) (map_get_int (by rw [Int.emod_eq_of_lt (by omega) (by omega)]; simpa using he))) ?_
        walk_at "go"
        refine g_setL (xs := l.map V.int) (by rw [upd_ne neT]; exact hD) (by omega) (by rw [List.length_map, hl.1]; omega) ?_
        refine ⟨⟨_, _, rfl⟩, _, hl.set _ ?_ ?_, by rw [upd_same, map_set_int], fun b o h => ?_⟩
        · omega
        · omega
        · have n1 : b ≠ T := fun e => by subst e; rw [s3 _ _ h] at nT; exact absurd nT (by simp)
          have n2 : b ≠ D := fun e => by subst e; rw [nD] at h; exact absurd h (by simp)
          rw [upd_ne n2, upd_ne n1]; exact s3 _ _ h
      · rintro σ H3 ⟨⟨u, v, rfl⟩, l, hl, hD, s3⟩
        walk_at "go"
        refine ForQ.range (fun i σ H' => (∃ x y, σ = [some (.ref a), some (.ref D), x, y]) ∧ ∃ l, Cells l ∧ H' D = some (.lst (l.map V.int)) ∧ ∀ b o, H b = some o → H' b = some o) ⟨⟨_, _, rfl⟩, l, hl, hD, s3⟩ ?_ ?_
        · rintro i σ H4 hi ⟨⟨u, v, rfl⟩, l, hl, hD, s3⟩
          have hi' : i < 63 := hi
          obtain ⟨e, he, e0, e1⟩ := hl.get (i := i + 1) (by omega)
          obtain ⟨e', he', e0', e1'⟩ := hl.get (i := i) (by omega)
          walk_at "go"
          refine g_ixL (xs := l.map V.int) (SqL.of hD) (v := .int e) (atI_at (by omega) (map_get_int (by rw [show (1 + (i : Int)).toNat = i + 1 by omega]; exact he))) ?_
          walk_at "go"
          refine g_ixL (xs := l.map V.int) (SqL.of hD) (v := .int e') (atI_at (by omega) (map_get_int (by rw [show (1 + (i : Int) - 1).toNat = i by omega]; exact he'))) ?_
          walk_at "go"
          refine g_setL (xs := l.map V.int) hD (by omega) (by rw [List.length_map, hl.1]; omega) ?_
          refine ⟨⟨_, _, rfl⟩, _, hl.set _ ?_ ?_, by rw [upd_same, map_set_int], fun b o h => ?_⟩
          · omega
          · omega
          · have n2 : b ≠ D := fun e => by subst e; rw [nD] at h; exact absurd h (by simp)
            rw [upd_ne n2]; exact s3 _ _ h
        · rintro σ H4 ⟨⟨u, v, rfl⟩, l, hl, hD, s3⟩
          walk_at "go"
          exact q D l H4 hl nD hD (fun b _ o h => s3 b o h)
theorem sc_draw : FnScope ["m", "top", "n", "at", "cell"] ["m", "top"] (defScope s_law_draw) := ⟨rfl, rfl, rfl, by decide +kernel, rfl, by decide +kernel, by decide +kernel⟩
theorem ok_draw (F : FnT K "_law_draw" s_law_draw f fd) (T : Blt mg) (hMixed : Has P w K mg base 1 "_law_mixed" ["cell", "n"] spMixed) : FnOk P w K mg base CX0 2 f fd ["m", "top"] spDraw' := by
  refine F.ok sc_draw (fun vs H Q E h => ?_) (fun cdv A outer s H vs Q E hr h => ?_)
  · obtain ⟨m, c, g, B, top, rfl, _⟩ := h
    rfl
  · obtain ⟨m, c, g, B, top, rfl, hP, hB, htop, q⟩ := h
    have sc := sc_draw
    have hu := hr.units
    have hu1 := room1 hr
    refine ⟨_, PSs.nox (pss_cons (ps_set (i := 2) sc.nd rfl (Or.inl rfl) (pe_dget hu1 (pv 0) pe_str (fun _ _ => rfl)))
      (pss_cons (ps_dput hu1 (pv 0) pe_str (pe_op op_add (pv 2) pe_int) rfl)
      (pss_cons (ps_if (pt_cmpR (op_neD hu) (pe_dget hu1 (pv 0) pe_str (fun _ _ => rfl)) (pe_lst pa_nil) (nomark _))
        (pss_cons (ps_set (i := 3) sc.nd rfl (Or.inl rfl) (pe_op op_mod (pv 2) (pe_callB call_len_seq (by rfl) T.len PySem.boot_len (pa_cons (pe_dget hu1 (pv 0) pe_str (fun _ _ => rfl)) pa_nil))))
        (pss_cons (ps_set (i := 4) sc.nd rfl (Or.inl rfl) (pe_ix ix_list (pe_dget hu1 (pv 0) pe_str (fun _ _ => rfl)) (pv 3) (fun _ _ => rfl)))
        (pss_one (ps_if (pt_cmpR op_gt (pv 4) pe_int (nomark _))
          (pss_cons (ps_asg (pe_op op_fdiv (pv 4) (pv 1)) (pg_sub (pe_dget hu1 (pv 0) pe_str (fun _ _ => rfl)) (pv 3) set_list))
          (pss_one (ps_ret (pe_op op_mod (pv 4) (pv 1)))))
          pss_nil))))
        pss_nil)
      (pss_one (ps_ret (pe_op op_mod (pe_has hMixed hr (by decide) (pa_cons (pe_has hMixed hr (by decide) (pa_cons (pe_op op_add (pe_ix ix_list (pe_dget hu1 (pv 0) pe_str (fun _ _ => rfl)) (pe_op op_mod (pv 2) pe_int) (fun _ _ => rfl)) (pe_op op_mul pe_int (pe_op op_fdiv (pv 2) pe_int))) (pa_cons (pv 2) pa_nil))) (pa_cons (pe_op op_add (pv 2) pe_int) pa_nil))) (pv 1))))))), ?_⟩
    obtain ⟨n, hn, d⟩ := hP.dr
    have d0 := d
    obtain ⟨hm, ⟨cl, hcl, hc⟩, ⟨gl, hgl, hg⟩, hne, hpos⟩ := d0
    walk_at "go"
    refine g_dg (v := .int n) hm rfl ?_
    walk_at "go"
    refine g_spot d fun H1 e1 => ?_
    have ncm : c ≠ m := fun e => by subst e; rw [hc] at hm; exact absurd hm (by simp)
    have ngm : g ≠ m := fun e => by subst e; rw [hg] at hm; exact absurd hm (by simp)
    have hm1 : H1 m = some (.dK [(Sum.inr "cells", .ref c), (Sum.inr "great", .ref g), (Sum.inr "spot", .int (n + 1))]) := by rw [e1, upd_same]
    have hc1 : H1 c = some (.lst (cl.map V.int)) := by rw [e1, upd_ne ncm]; exact hc
    have hg1 : H1 g = some (.lst (gl.map V.int)) := by rw [e1, upd_ne ngm]; exact hg
    have b1 : ∀ b, b ≠ m → H1 b = H b := fun b e => by rw [e1, upd_ne e]
    walk_at "go"
    refine g_dg (x := "great") (v := .ref g) hm1 rfl ?_
    refine g_lst ?_
    walk_at "go"
    refine ⟨by decide, fun p np => ?_⟩
    have npm : m ≠ p := fun e => by subst e; rw [hm1] at np; exact absurd np (by simp)
    have npc : c ≠ p := fun e => by subst e; rw [hc1] at np; exact absurd np (by simp)
    have npg : g ≠ p := fun e => by subst e; rw [hg1] at np; exact absurd np (by simp)
    have hm2 : upd H1 p (.lst []) m = some (.dK [(Sum.inr "cells", .ref c), (Sum.inr "great", .ref g), (Sum.inr "spot", .int (n + 1))]) := by rw [upd_ne npm]; exact hm1
    have hc2 : upd H1 p (.lst []) c = some (.lst (cl.map V.int)) := by rw [upd_ne npc]; exact hc1
    have hg2 : upd H1 p (.lst []) g = some (.lst (gl.map V.int)) := by rw [upd_ne npg]; exact hg1
    have b2 : ∀ b o, b ≠ m → H b = some o → upd H1 p (.lst []) b = some o := fun b o e h => by
      rw [upd_ne (fun e2 => by subst e2; rw [b1 _ e, h] at np; exact absurd np (by simp)), b1 b e]; exact h
    refine g_neD (K := K) (dp_ints (SqL.of hg2)) (dp_nilL (SqL.of upd_same)) (pl_shaped (pl_ints _) (by decide)) (pl_shaped pl_nilL (by decide)) ?_
    walk_at "go"
    generalize hH2 : upd H1 p (.lst []) = H2 at hm2 hc2 hg2 b2 ⊢
    have d2 : Dr H2 m c g (n + 1) := ⟨hm2, ⟨cl, hcl, hc2⟩, ⟨gl, hgl, hg2⟩, hne, by omega⟩
    have p2 : Pr m c g H H2 (B + 1) := ⟨⟨n + 1, by omega, d2⟩, fun b o n1 n2 h => b2 b o n1 h⟩
    have fin : ∀ (σ : L2.St) (u v : Option V), σ = [some (V.ref m), some (V.int top), some (V.int n), u, v] → tRet (tOp (rI (fun _ j => 0 < j) fun i j => V.int (i % j)) (tCall spMixed [] E0 (tCons (tCall spMixed [] E0 (tCons (tOp (rI0 fun i j => V.int (i + j)) (tOp (rIxL K) (tDGet (tVar 0) (tC (.str "cells"))) (tOp (rI (fun _ j => 0 < j) fun i j => V.int (i % j)) (tVar 2) (tC (.int 64)))) (tOp (rI CMul fun i j => V.int (i * j)) (tC (.int 31)) (tOp (rI CDiv fun i j => V.int (i / j)) (tVar 2) (tC (.int 64))))) (tCons (tVar 2) tNil))) (tCons (tOp (rI0 fun i j => V.int (i + j)) (tVar 2) (tC (.int 7))) tNil))) (tVar 1)) { nx := fun _ H' => Q .non H', rt := Q } σ H2 := by
      intro σ u v e
      subst e
      walk_at "go"
      refine g_dg (x := "cells") (v := .ref c) hm2 rfl ?_
      walk_at "go"
      obtain ⟨ce, hce, he0, he1⟩ := hcl.get (i := (n % 64).toNat) (by omega)
      refine g_ixL (xs := cl.map V.int) (SqL.of hc2) (v := .int ce) (atI_at (by omega) (map_get_int hce)) ?_
      walk_at "go"
      refine ⟨_, _, rfl, ⟨by omega, by omega⟩, ⟨by omega, by omega⟩, fun r hr0 hr1 => ?_⟩
      walk_at "go"
      refine ⟨_, _, rfl, ⟨by omega, by omega⟩, ⟨by omega, by omega⟩, fun r2 hr20 hr21 => ?_⟩
      walk_at "go"
      exact q _ _ (Int.emod_nonneg _ (by omega)) (Int.emod_lt_of_pos _ (by omega)) p2
    by_cases hz : gl = []
    · subst hz
      rw [show (!(PyData.list (List.map PyData.int [])).eqv (.list [])) = false from rfl]
      exact g_iff (g_next (fin _ _ _ rfl))
    · have hz' : (PyData.list (List.map PyData.int gl)).eqv (.list []) = false := by
        cases hb : (PyData.list (List.map PyData.int gl)).eqv (.list []) with
        | false => rfl
        | true => 
          have := (pl_eqv (pl_ints gl) pl_nilL).mp hb
          simp at this
          exact absurd this hz
      rw [hz', Bool.not_false]
      have hlen : 0 < gl.length := List.length_pos_iff.mpr hz
      walk_at "go"
      refine g_dg (x := "great") (v := .ref g) hm2 rfl ?_
      walk_at "go"
      refine g_len (K := K) (Or.inl (SqL.of hg2)) ?_
      rw [List.length_map]
      walk_at "go"
      refine g_dg (x := "great") (v := .ref g) hm2 rfl ?_
      walk_at "go"
      have hat : n % (gl.length : Int) < gl.length := Int.emod_lt_of_pos _ (by omega)
      have hat0 : 0 ≤ n % (gl.length : Int) := Int.emod_nonneg _ (by omega)
      have hlt : (n % (gl.length : Int)).toNat < gl.length := by omega
      refine g_ixL (xs := gl.map V.int) (SqL.of hg2) (v := .int gl[(n % (gl.length : Int)).toNat]) (atI_at hat0 (map_get_int (by simp [hlt]))) ?_
      walk_at "go"
      by_cases hc0 : 0 < gl[(n % (gl.length : Int)).toNat]
      · rw [decide_eq_true hc0]
        walk_at "go"
        refine g_dg (x := "great") (v := .ref g) hm2 rfl ?_
        walk_at "go"
        refine g_setL (xs := gl.map V.int) hg2 hat0 (by rw [List.length_map]; exact hat) ?_
        walk_at "go"
        refine q _ _ (Int.emod_nonneg _ (by omega)) (Int.emod_lt_of_pos _ (by omega)) ?_
        rw [map_set_int]
        refine ⟨⟨n + 1, by omega, ?_⟩, fun b o n1 n2 h => ?_⟩
        · refine ⟨?_, ⟨cl, hcl, ?_⟩, ⟨_, by rw [List.length_set]; exact hgl, upd_same⟩, hne, by omega⟩
          · rw [upd_ne (Ne.symm ngm)]; exact hm2
          · rw [upd_ne hne]; exact hc2
        · rw [upd_ne n2]; exact p2.but _ _ n1 n2 h
      · rw [decide_eq_false hc0]
        exact g_iff (g_next (fin _ _ _ rfl))
end
end K06
set_option Elab.async false
set_option linter.all false
set_option maxRecDepth 100000
set_option maxHeartbeats 4000000
namespace K06
open PySem PySem.Spec PyProof.Rows L2 WL
local macro_rules | `(tactic| walk_at "side") => `(tactic| first | (show (_ ∧ _) ∨ (_ ∧ _); omega) | (exact ⟨by omega, by omega⟩) | (show (0 : Int) < _; omega) | omega)
local macro_rules | `(tactic| walk_at "go") => `(tactic| (repeat (first
  | with_reducible refine g_seq ?_ | with_reducible refine g_asgN ?_ | with_reducible refine g_ret ?_ | with_reducible refine g_drop ?_ | with_reducible refine g_ifS ?_ | with_reducible refine g_next ?_
  | with_reducible refine g_var rfl ?_ | with_reducible refine g_c ?_ | with_reducible refine g_op ?_ | with_reducible refine g_un ?_ | with_reducible refine g_rI0 ?_ | ((with_reducible refine g_rI ?_ ?_); next => walk_at "side") | with_reducible refine g_test ?_ | with_reducible refine g_bl ?_
  | with_reducible refine g_nil ?_ | with_reducible refine g_cons ?_ | with_reducible refine g_call ?_ | with_reducible refine g_cb ?_ | with_reducible refine g_if ?_ | with_reducible refine g_par ?_ | with_reducible refine g_two ?_
  | with_reducible refine g_asg ?_ | with_reducible refine g_name ?_ | with_reducible refine g_sub ?_ | with_reducible refine g_yes ?_ | with_reducible refine g_gcons ?_ | with_reducible refine g_gnil ?_ | with_reducible refine g_dget ?_ | with_reducible refine g_dput ?_ | with_reducible refine g_rng1 ?_ | with_reducible refine g_rng2 ?_
  | ((with_reducible refine g_one ?_ ?_); next => omega) | ((with_reducible refine g_twoI ?_ ?_); next => omega) | with_reducible refine g_isNon ?_ | with_reducible refine g_andV ?_ | with_reducible refine g_revT ?_ | with_reducible refine g_itup ?_ | with_reducible refine g_methK0 ?_ | with_reducible refine g_methS ?_ | with_reducible refine g_errF ?_ | with_reducible refine g_prop ?_ | with_reducible refine g_con ?_ | with_reducible refine g_make ?_ | with_reducible refine g_fld ?_ | with_reducible refine g_sfld ?_ | with_reducible refine g_iftn ?_ | with_reducible refine g_iffn ?_ | with_reducible refine g_orV ?_ | with_reducible refine g_notV ?_ | with_reducible refine g_tB ?_ | with_reducible refine g_chain ?_ | with_reducible refine g_neg ?_ | with_reducible refine g_cval ?_ | with_reducible refine g_enumT ?_ | with_reducible refine g_andT ?_ | with_reducible refine g_orT ?_ | with_reducible refine g_notT ?_ | with_reducible refine g_sl ?_ | with_reducible refine g_part ?_ | with_reducible refine g_parI ?_ | with_reducible refine g_noPart ?_ | with_reducible refine g_pcons ?_ | with_reducible refine g_pnil ?_ | with_reducible refine g_list ?_ | with_reducible refine g_lc ?_ | with_reducible refine g_for ?_ | with_reducible refine g_enum ?_ | with_reducible refine g_ift ?_ | with_reducible refine g_iff ?_ | with_reducible refine And.intro rfl ?_ | with_reducible refine g_notNon ?_)))
local macro_rules | `(tactic| walk_at "ex") => `(tactic| (repeat (first
  | with_reducible refine g_seqAsg ?_ | with_reducible refine g_seqFld ?_ | with_reducible refine g_seqDrop ?_ | with_reducible refine g_seqPut ?_ | with_reducible refine g_seqPar ?_ | with_reducible refine g_asgN ?_ | with_reducible refine g_ret ?_ | with_reducible refine g_drop ?_ | with_reducible refine g_next ?_
  | with_reducible refine g_var rfl ?_ | with_reducible refine g_c ?_ | with_reducible refine g_op ?_ | with_reducible refine g_un ?_ | with_reducible refine g_rI0 ?_ | ((with_reducible refine g_rI ?_ ?_); next => walk_at "side") | with_reducible refine g_test ?_ | with_reducible refine g_bl ?_
  | with_reducible refine g_nil ?_ | with_reducible refine g_cons ?_ | with_reducible refine g_call ?_ | with_reducible refine g_cb ?_ | with_reducible refine g_if ?_ | with_reducible refine g_par ?_ | with_reducible refine g_two ?_
  | with_reducible refine g_asg ?_ | with_reducible refine g_name ?_ | with_reducible refine g_sub ?_ | with_reducible refine g_yes ?_ | with_reducible refine g_gcons ?_ | with_reducible refine g_gnil ?_ | with_reducible refine g_dget ?_ | with_reducible refine g_dput ?_ | with_reducible refine g_rng1 ?_ | with_reducible refine g_rng2 ?_
  | ((with_reducible refine g_one ?_ ?_); next => omega) | ((with_reducible refine g_twoI ?_ ?_); next => omega) | with_reducible refine g_isNon ?_ | with_reducible refine g_andV ?_ | with_reducible refine g_revT ?_ | with_reducible refine g_itup ?_ | with_reducible refine g_methK0 ?_ | with_reducible refine g_methS ?_ | with_reducible refine g_errF ?_ | with_reducible refine g_prop ?_ | with_reducible refine g_con ?_ | with_reducible refine g_make ?_ | with_reducible refine g_fld ?_ | with_reducible refine g_sfld ?_ | with_reducible refine g_iftn ?_ | with_reducible refine g_iffn ?_ | with_reducible refine g_orV ?_ | with_reducible refine g_notV ?_ | with_reducible refine g_tB ?_ | with_reducible refine g_chain ?_ | with_reducible refine g_neg ?_ | with_reducible refine g_cval ?_ | with_reducible refine g_enumT ?_ | with_reducible refine g_proj ?_ | with_reducible refine g_andT ?_ | with_reducible refine g_orT ?_ | with_reducible refine g_notT ?_ | with_reducible refine g_sl ?_ | with_reducible refine g_part ?_ | with_reducible refine g_parI ?_ | with_reducible refine g_noPart ?_ | with_reducible refine g_pcons ?_ | with_reducible refine g_pnil ?_ | with_reducible refine g_list ?_ | with_reducible refine g_lc ?_ | with_reducible refine g_enum ?_ | with_reducible refine g_ift ?_ | with_reducible refine g_iff ?_ | with_reducible refine And.intro rfl ?_ | with_reducible refine g_notNon ?_)))
section
variable {P : Program} {w : World} {K : PySem.W.Frag} {mg : Str → Option Value} {base : Heap} {f : Addr} {fd : FuncData}
theorem sc_begun : FnScope ["script", "m", "cell"] ["script"] (defScope s_law_begun) := ⟨rfl, rfl, rfl, by decide +kernel, rfl, by decide +kernel, by decide +kernel⟩
theorem ok_begun (F : FnT K "_law_begun" s_law_begun f fd) (T : Blt mg) (hFolded : Has P w K mg base 1 "_law_folded" ["script"] (spFolded K)) : FnOk P w K mg base CX0 2 f fd ["script"] (spBegun K) := by
  refine F.ok sc_begun (fun vs H Q E h => ?_) (fun cdv A outer s H vs Q E hr h => ?_)
  · obtain ⟨a, ns, rfl, _⟩ := h
    rfl
  · obtain ⟨a, ns, rfl, hS, hlen, q⟩ := h
    have sc := sc_begun
    have hu1 := room1 hr
    refine ⟨_, PSs.nox (pss_cons (ps_set (i := 1) sc.nd rfl (Or.inl rfl) (pe_disp (pps_cons pe_str (pe_has hFolded hr (by decide) (pa_cons (pv 0) pa_nil)) (pps_cons pe_str (pe_lst pa_nil) (pps_cons pe_str pe_int pps_nil))) (by rfl) (by rfl) (fun z => by cases z) (by decide)))
      (pss_cons (ps_dput hu1 (pv 1) pe_str (pe_lc (own := [("cell", 2)]) (g := gName 2) (tt := tYes) (by rfl) sc.nd (pi_list (pv 0)) (blkOk_by (sc := defScope s_law_begun) (N := ["script", "m", "cell"]) (own := [("cell", 2)]) (by decide +kernel)) (fun _ _ _ _ _ => (pg_name (i := 2) sc.nd rfl (Or.inl rfl))) (fun _ _ _ _ _ => pts_nil) (fun _ _ _ _ _ => (pe_ifExp (pt_cmpR op_ge (pv 2) (pe_op op_pow pe_int pe_int) (nomark _)) (pv 2) pe_int))) rfl)
      (pss_one (ps_ret (pv 1))))), ?_⟩
    walk_at "go"
    refine g_disp fun p np => ?_
    walk_at "go"
    have s0 : ∀ b o, H b = some o → upd H p (.dK []) b = some o := fun b o h => by
      rw [upd_ne (fun e => by subst e; rw [np] at h; exact absurd h (by simp))]; exact h
    refine ⟨a, ns, rfl, SqL.same hS s0, hlen, fun c cl H1 hcl nc hc1 s1 => ?_⟩
    have npc : p ≠ c := fun e => by subst e; rw [upd_same] at nc; exact absurd nc (by simp)
    have hp1 : H1 p = some (.dK []) := s1 _ npc _ upd_same
    have s1' : ∀ b o, H b = some o → H1 b = some o := fun b o h => s1 _ (fun e => by subst e; rw [s0 _ _ h] at nc; exact absurd nc (by simp)) _ (s0 _ _ h)
    walk_at "go"
    refine g_lst' ?_
    walk_at "go"
    refine ⟨by decide, fun g0 ng0 => ?_⟩
    have npg : p ≠ g0 := fun e => by subst e; rw [hp1] at ng0; exact absurd ng0 (by simp)
    have ncg : c ≠ g0 := fun e => by subst e; rw [hc1] at ng0; exact absurd ng0 (by simp)
    walk_at "go"
    refine ⟨by rw [upd_ne npg]; exact hp1, drK c g0 0, rfl, len_dr _ _ _, ?_⟩
    rw [merge_dr]
    generalize hH2 : upd (upd H1 g0 (.lst [])) p (.dK (drK c g0 0)) = H2
    have hp2 : H2 p = some (.dK (drK c g0 0)) := by rw [← hH2, upd_same]
    have hc2 : H2 c = some (.lst (cl.map V.int)) := by rw [← hH2, upd_ne npc.symm, upd_ne ncg]; exact hc1
    have s2 : ∀ b o, H b = some o → H2 b = some o := fun b o h => by
      have h1 := s1' _ _ h
      rw [← hH2, upd_ne (fun e => by subst e; rw [np] at h; exact absurd h (by simp)), upd_ne (fun e => by subst e; rw [h1] at ng0; exact absurd ng0 (by simp))]; exact h1
    walk_at "go"
    refine g_lq (K := K) (SqL.same hS s2) ?_
    refine LcQ.list (xs := ns.map V.int) (fun D i H' => (∃ l : List Int, l.length = i ∧ H' D = some (.lst (l.map V.int))) ∧ ∀ b, b ≠ D → H' b = H2 b) (fun D nD => ⟨⟨[], rfl, upd_same⟩, fun b e => upd_ne e⟩) ?_ ?_ ?_
    · rintro D nD i H' _ ⟨_, h2⟩
      exact SqL.same hS fun b o h => by
        rw [h2 b (fun e => by subst e; rw [s2 _ _ h] at nD; exact absurd nD (by simp))]; exact s2 _ _ h
    · rintro D nD i x H' hx ⟨⟨l, hl, h1⟩, h2⟩
      have hi : i < ns.length := by
        rcases Nat.lt_or_ge i ns.length with q | q
        · exact q
        · rw [List.getElem?_map, List.getElem?_eq_none q] at hx; exact absurd hx (by simp)
      obtain ⟨ce, rfl⟩ : ∃ ce, x = V.int ce := by
        rw [List.getElem?_map, List.getElem?_eq_getElem hi] at hx
        exact ⟨_, (Option.some.inj hx).symm⟩
      have put : ∀ k : Int, ∃ acc, H' D = some (HO.lst acc) ∧ acc.length < sizeLine ∧ (∃ l : List Int, l.length = i + 1 ∧ upd H' D (.lst (acc ++ [V.int k])) D = some (.lst (l.map V.int))) ∧ ∀ b, b ≠ D → upd H' D (.lst (acc ++ [V.int k])) b = H2 b := by
        intro k
        refine ⟨_, h1, by rw [List.length_map, hl]; exact Nat.lt_of_lt_of_le (show i < 64 by omega) (by decide), ⟨l ++ [k], by simp [hl], by rw [upd_same]; simp⟩, fun b e => by rw [upd_ne e]; exact h2 b e⟩
      walk_at "go"
      cases hb : decide ((10 : Int) ^ (18 : Int).toNat ≤ ce) with
      | true => walk_at "go"; exact put _
      | false => walk_at "go"; exact put _
    · rintro D nD H' ⟨⟨l, hl, h1⟩, h2⟩
      have npD : p ≠ D := fun e => by subst e; rw [hp2] at nD; exact absurd nD (by simp)
      have ncD : c ≠ D := fun e => by subst e; rw [hc2] at nD; exact absurd nD (by simp)
      walk_at "go"
      refine ⟨p, _, rfl, Or.inl ⟨_, Sum.inr "great", (h2 p npD).trans hp2, rfl, by show (3 : Nat) < sizeLine; decide, rfl⟩, ?_⟩
      walk_at "go"
      refine q p c D _ ⟨upd_same, ⟨cl, hcl, by rw [upd_ne npc.symm, h2 c ncD]; exact hc2⟩, ⟨l, by rw [hl, List.length_map]; exact hlen, by rw [upd_ne npD.symm]; exact h1⟩, ncD, by decide⟩ fun b o h => ?_
      have hb2 := s2 _ _ h
      rw [upd_ne (fun e => by subst e; rw [np] at h; exact absurd h (by simp)), h2 b (fun e => by subst e; rw [hb2] at nD; exact absurd nD (by simp))]
      exact hb2
end
end K06
set_option Elab.async false
set_option linter.all false
set_option maxRecDepth 100000
set_option maxHeartbeats 4000000
namespace K06
open PySem PySem.Spec PyProof.Rows L2 WL
local macro_rules | `(tactic| walk_at "side") => `(tactic| first | (show (_ ∧ _) ∨ (_ ∧ _); omega) | (exact ⟨by omega, by omega⟩) | (show (0 : Int) < _; omega) | omega)
local macro_rules | `(tactic| walk_at "go") => `(tactic| (repeat (first
  | with_reducible refine g_seq ?_ | with_reducible refine g_asgN ?_ | with_reducible refine g_ret ?_ | with_reducible refine g_drop ?_ | with_reducible refine g_ifS ?_ | with_reducible refine g_next ?_
  | with_reducible refine g_var rfl ?_ | with_reducible refine g_c ?_ | with_reducible refine g_op ?_ | with_reducible refine g_un ?_ | with_reducible refine g_rI0 ?_ | ((with_reducible refine g_rI ?_ ?_); next => walk_at "side") | with_reducible refine g_test ?_ | with_reducible refine g_bl ?_
  | with_reducible refine g_nil ?_ | with_reducible refine g_cons ?_ | with_reducible refine g_call ?_ | with_reducible refine g_cb ?_ | with_reducible refine g_if ?_ | with_reducible refine g_par ?_ | with_reducible refine g_two ?_
  | with_reducible refine g_asg ?_ | with_reducible refine g_name ?_ | with_reducible refine g_sub ?_ | with_reducible refine g_yes ?_ | with_reducible refine g_gcons ?_ | with_reducible refine g_gnil ?_ | with_reducible refine g_dget ?_ | with_reducible refine g_dput ?_ | with_reducible refine g_rng1 ?_ | with_reducible refine g_rng2 ?_
  | ((with_reducible refine g_one ?_ ?_); next => omega) | ((with_reducible refine g_twoI ?_ ?_); next => omega) | with_reducible refine g_isNon ?_ | with_reducible refine g_andV ?_ | with_reducible refine g_revT ?_ | with_reducible refine g_itup ?_ | with_reducible refine g_methK0 ?_ | with_reducible refine g_methS ?_ | with_reducible refine g_errF ?_ | with_reducible refine g_prop ?_ | with_reducible refine g_con ?_ | with_reducible refine g_make ?_ | with_reducible refine g_fld ?_ | with_reducible refine g_sfld ?_ | with_reducible refine g_iftn ?_ | with_reducible refine g_iffn ?_ | with_reducible refine g_orV ?_ | with_reducible refine g_notV ?_ | with_reducible refine g_tB ?_ | with_reducible refine g_chain ?_ | with_reducible refine g_neg ?_ | with_reducible refine g_cval ?_ | with_reducible refine g_enumT ?_ | with_reducible refine g_andT ?_ | with_reducible refine g_orT ?_ | with_reducible refine g_notT ?_ | with_reducible refine g_sl ?_ | with_reducible refine g_part ?_ | with_reducible refine g_parI ?_ | with_reducible refine g_noPart ?_ | with_reducible refine g_pcons ?_ | with_reducible refine g_pnil ?_ | with_reducible refine g_list ?_ | with_reducible refine g_lc ?_ | with_reducible refine g_for ?_ | with_reducible refine g_enum ?_ | with_reducible refine g_ift ?_ | with_reducible refine g_iff ?_ | with_reducible refine And.intro rfl ?_ | with_reducible refine g_notNon ?_)))
local macro_rules | `(tactic| walk_at "ex") => `(tactic| (repeat (first
  | with_reducible refine g_seqAsg ?_ | with_reducible refine g_seqFld ?_ | with_reducible refine g_seqDrop ?_ | with_reducible refine g_seqPut ?_ | with_reducible refine g_seqPar ?_ | with_reducible refine g_asgN ?_ | with_reducible refine g_ret ?_ | with_reducible refine g_drop ?_ | with_reducible refine g_next ?_
  | with_reducible refine g_var rfl ?_ | with_reducible refine g_c ?_ | with_reducible refine g_op ?_ | with_reducible refine g_un ?_ | with_reducible refine g_rI0 ?_ | ((with_reducible refine g_rI ?_ ?_); next => walk_at "side") | with_reducible refine g_test ?_ | with_reducible refine g_bl ?_
  | with_reducible refine g_nil ?_ | with_reducible refine g_cons ?_ | with_reducible refine g_call ?_ | with_reducible refine g_cb ?_ | with_reducible refine g_if ?_ | with_reducible refine g_par ?_ | with_reducible refine g_two ?_
  | with_reducible refine g_asg ?_ | with_reducible refine g_name ?_ | with_reducible refine g_sub ?_ | with_reducible refine g_yes ?_ | with_reducible refine g_gcons ?_ | with_reducible refine g_gnil ?_ | with_reducible refine g_dget ?_ | with_reducible refine g_dput ?_ | with_reducible refine g_rng1 ?_ | with_reducible refine g_rng2 ?_
  | ((with_reducible refine g_one ?_ ?_); next => omega) | ((with_reducible refine g_twoI ?_ ?_); next => omega) | with_reducible refine g_isNon ?_ | with_reducible refine g_andV ?_ | with_reducible refine g_revT ?_ | with_reducible refine g_itup ?_ | with_reducible refine g_methK0 ?_ | with_reducible refine g_methS ?_ | with_reducible refine g_errF ?_ | with_reducible refine g_prop ?_ | with_reducible refine g_con ?_ | with_reducible refine g_make ?_ | with_reducible refine g_fld ?_ | with_reducible refine g_sfld ?_ | with_reducible refine g_iftn ?_ | with_reducible refine g_iffn ?_ | with_reducible refine g_orV ?_ | with_reducible refine g_notV ?_ | with_reducible refine g_tB ?_ | with_reducible refine g_chain ?_ | with_reducible refine g_neg ?_ | with_reducible refine g_cval ?_ | with_reducible refine g_enumT ?_ | with_reducible refine g_proj ?_ | with_reducible refine g_andT ?_ | with_reducible refine g_orT ?_ | with_reducible refine g_notT ?_ | with_reducible refine g_sl ?_ | with_reducible refine g_part ?_ | with_reducible refine g_parI ?_ | with_reducible refine g_noPart ?_ | with_reducible refine g_pcons ?_ | with_reducible refine g_pnil ?_ | with_reducible refine g_list ?_ | with_reducible refine g_lc ?_ | with_reducible refine g_enum ?_ | with_reducible refine g_ift ?_ | with_reducible refine g_iff ?_ | with_reducible refine And.intro rfl ?_ | with_reducible refine g_notNon ?_)))
section
variable {P : Program} {w : World} {K : PySem.W.Frag} {mg : Str → Option Value} {base : Heap} {f : Addr} {fd : FuncData}
theorem sc_slack : FnScope ["m", "cycle"] ["m", "cycle"] (defScope s_law_slack) := ⟨rfl, rfl, rfl, by decide +kernel, rfl, by decide +kernel, by decide +kernel⟩
theorem ok_slack (F : FnT K "_law_slack" s_law_slack f fd) (hDraw : Has P w K mg base 2 "_law_draw" ["m", "top"] spDraw') : FnOk P w K mg base CX0 3 f fd ["m", "cycle"] spSlack := by
  refine F.ok sc_slack (fun vs H Q E h => ?_) (fun cdv A outer s H vs Q E hr h => ?_)
  · obtain ⟨m, c, g, B, cy, rfl, _⟩ := h
    rfl
  · obtain ⟨m, c, g, B, cy, rfl, hP, hB, hcy, q⟩ := h
    have sc := sc_slack
    refine ⟨_, PSs.nox (pss_one (ps_ret (pe_ix ix_list (pe_lst (pa_cons pe_int (pa_cons pe_int (pa_cons pe_int (pa_cons (pe_op op_sub (pv 1) pe_int) (pa_cons (pe_has hDraw hr (by decide) (pa_cons (pv 0) (pa_cons (pv 1) pa_nil))) (pa_cons (pe_has hDraw hr (by decide) (pa_cons (pv 0) (pa_cons (pe_op op_mul pe_int (pv 1)) pa_nil))) (pa_cons (pe_has hDraw hr (by decide) (pa_cons (pv 0) (pa_cons (pe_op op_mul pe_int (pv 1)) pa_nil))) pa_nil)))))))) (pe_has hDraw hr (by decide) (pa_cons (pv 0) (pa_cons pe_int pa_nil))) (fun _ _ => rfl)))), ?_⟩
    walk_at "go"
    refine g_lst' ?_
    walk_at "go"
    refine ⟨m, c, g, B, _, rfl, hP.self, by omega, ⟨by omega, by omega⟩, fun k1 H1 a1 b1 p1 => ?_⟩
    walk_at "go"
    refine ⟨m, c, g, B + 1, _, rfl, p1.self, by omega, ⟨by omega, by omega⟩, fun k2 H2 a2 b2 p2 => ?_⟩
    walk_at "go"
    refine ⟨m, c, g, B + 1 + 1, _, rfl, p2.self, by omega, ⟨by omega, by omega⟩, fun k3 H3 a3 b3 p3 => ?_⟩
    walk_at "go"
    refine ⟨sz (by simp), fun p np => ?_⟩
    have hP3 := (hP.trans p1).trans (p2.trans p3)
    have p4 := hP3.new (o := .lst [.int 0, .int 0, .int 1, .int (cy - 1), .int k1, .int k2, .int k3]) np
    walk_at "go"
    refine ⟨m, c, g, _, _, rfl, p4.self, by omega, ⟨by omega, by omega⟩, fun k4 H5 a4 b4 p5 => ?_⟩
    obtain ⟨o1, o2, o3⟩ := hP3.self.ne np hP3.self
    refine g_ixPick (SqL.of (p5.keep upd_same o1 o3)) a4 (by simpa using b4) ?_
    have fin : ∀ i : Int, 0 ≤ i → i < 5 * cy → Q (V.int i) H5 := fun i i0 i1 => q i H5 i0 i1 ((p4.trans p5).le (by omega))
    intro v hv
    simp only [List.mem_cons, List.not_mem_nil, or_false] at hv
    rcases hv with rfl | rfl | rfl | rfl | rfl | rfl | rfl <;> exact fin _ (by omega) (by omega)
/-- a book whose days are small -/
def spBookD : Sp := fun vs H Q _ => ∃ (m c g : Addr) (B cy cr lm : Int), vs = [.ref m, .int cy, .int cr, .int lm] ∧ Pr m c g H H B ∧ B < 2 ^ 27 ∧ (2 ≤ cy ∧ cy ≤ 100) ∧ (1 ≤ cr ∧ cr ≤ 16) ∧ (0 ≤ lm ∧ lm ≤ 60) ∧
  ∀ (v : V) (b : Book) (H' : Hp), Fz H' v b.d → b.c = cy → b.notes.length = cr.toNat → b.OK 1000 lm.toNat → (∃ ds, b.dates = some ds ∧ ∀ x ∈ ds, -200 ≤ x ∧ x < 200) → Pr m c g H H' (B + 400) → Q v H'
theorem sc_book : FnScope ["m", "cycle", "crowd", "lines_most", "dates", "n", "shown", "notes", "lines", "one", "far"] ["m", "cycle", "crowd", "lines_most"] (defScope s_law_book) := ⟨rfl, rfl, rfl, by decide +kernel, rfl, by decide +kernel, by decide +kernel⟩
theorem ok_book (F : FnT K "_law_book" s_law_book f fd) (T : Blt mg) (hDraw : Has P w K mg base 2 "_law_draw" ["m", "top"] spDraw') (hSlack : Has P w K mg base 3 "_law_slack" ["m", "cycle"] spSlack) : FnOk P w K mg base CX0 4 f fd ["m", "cycle", "crowd", "lines_most"] spBookD := by
  refine F.ok sc_book (fun vs H Q E h => ?_) (fun cdv A outer s H vs Q E hr h => ?_)
  · obtain ⟨m, c, g, B, cy, cr, lm, rfl, _⟩ := h
    rfl
  · obtain ⟨m, c, g, B, cy, cr, lm, rfl, hP, hB, hcy, hcr, hlm, q⟩ := h
    have sc := sc_book
    refine ⟨_, PSs.nox (pss_cons (ps_setLc (i := 4) (own := [("n", 5)]) (g := gName 5) (tt := tYes) (by rfl) sc.nd rfl rfl (sw_true rfl rfl rfl (by decide +kernel)) (pi_range1 (by rfl) T.range (pa_cons (pv 2) pa_nil)) (blkOk_by (sc := defScope s_law_book) (N := ["m", "cycle", "crowd", "lines_most", "dates", "n", "shown", "notes", "lines", "one", "far"]) (own := [("n", 5)]) (by decide +kernel)) (fun _ _ _ _ _ => (pg_name (i := 5) sc.nd rfl (Or.inl rfl))) (fun _ _ _ _ _ => pts_nil) (fun _ _ _ _ _ => (pe_op op_sub (pe_has hDraw hr (by decide) (pa_cons (pv 0) (pa_cons (pe_op op_mul pe_int (pv 1)) pa_nil))) (pe_op op_mul pe_int (pv 1)))))
      (pss_cons (ps_par (i := 6) (j := 7) (by rfl) sc.nd rfl rfl (by decide) rfl rfl (pa_cons (pe_op op_add pe_int (pe_has hDraw hr (by decide) (pa_cons (pv 0) (pa_cons pe_int pa_nil)))) (pa_cons (pe_lst pa_nil) pa_nil)) (by rfl))
      (pss_cons (ps_for PassesOwn.never rfl (pi_range1 (by rfl) T.range (pa_cons (pv 2) pa_nil)) (pg_name (i := 5) sc.nd rfl (Or.inl rfl))
        (pss_one (ps_expr (pe_bm PySem.F.plainAttrs_list PySem.F.slot_list_append PySem.F.type_list_append mt_append (pv 7) (pa_cons (pe_ifExp (pt_cmpR op_lt (pe_has hDraw hr (by decide) (pa_cons (pv 0) (pa_cons pe_int pa_nil))) (pv 6) (nomark _)) (pe_op op_mod (pe_ix ix_list (pv 4) (pv 5) (fun _ _ => rfl)) (pv 1)) pe_non) pa_nil)))))
      (pss_cons (ps_set (i := 8) sc.nd rfl (Or.inl rfl) (pe_lst pa_nil))
      (pss_cons (ps_for PassesOwn.never rfl (pi_range1 (by rfl) T.range (pa_cons (pe_has hDraw hr (by decide) (pa_cons (pv 0) (pa_cons (pe_op op_add (pv 3) pe_int) pa_nil))) pa_nil)) (pg_name (i := 5) sc.nd rfl (Or.inl rfl))
        (pss_cons (ps_par (i := 9) (j := 10) (by rfl) sc.nd rfl rfl (by decide) rfl rfl (pa_cons (pe_has hDraw hr (by decide) (pa_cons (pv 0) (pa_cons (pv 2) pa_nil))) (pa_cons (pe_has hDraw hr (by decide) (pa_cons (pv 0) (pa_cons (pv 2) pa_nil))) pa_nil)) (by rfl))
        (pss_one (ps_expr (pe_bm PySem.F.plainAttrs_list PySem.F.slot_list_append PySem.F.type_list_append mt_append (pv 8) (pa_cons (pe_tup (pa_cons (pv 9) (pa_cons (pv 10) (pa_cons (pe_op op_add (pe_op op_sub (pe_ix ix_list (pv 4) (pv 10) (fun _ _ => rfl)) (pe_ix ix_list (pv 4) (pv 9) (fun _ _ => rfl))) (pe_has hSlack hr (by decide) (pa_cons (pv 0) (pa_cons (pv 1) pa_nil)))) pa_nil)))) pa_nil))))))
      (pss_one (ps_ret (pe_tup (pa_cons (pv 1) (pa_cons (pe_callTy call_tuple_of (by rfl) T.tuple (by decide +kernel) (pa_cons (pv 7) pa_nil)) (pa_cons (pe_callTy call_tuple_of (by rfl) T.tuple (by decide +kernel) (pa_cons (pv 8) pa_nil)) (pa_cons (pe_callTy call_tuple_of (by rfl) T.tuple (by decide +kernel) (pa_cons (pv 4) pa_nil)) pa_nil)))))))))))), ?_⟩
    walk_at "go"
    refine LcQ.range (fun D i H' => ∃ ds : List Int, ds.length = i ∧ (∀ x ∈ ds, -2 * cy ≤ x ∧ x < 2 * cy) ∧ H' D = some (.lst (ds.map V.int)) ∧ Pr m c g H H' (B + i)) (fun D nD => ⟨[], rfl, by simp, upd_same, (hP.new nD).le (by omega)⟩) ?_ ?_
    · rintro D nD i H1 hi ⟨ds, hl, hx, h1, p1⟩
      obtain ⟨o1, o2, o3⟩ := hP.ne nD hP
      walk_at "go"
      refine ⟨m, c, g, _, _, rfl, p1.self, by omega, ⟨by omega, by omega⟩, fun k H2 k0 k1 p2 => ?_⟩
      walk_at "go"
      refine ⟨_, p2.keep h1 o1 o3, szl (by rw [List.length_map]; omega), ds ++ [k - 2 * cy], by simp [hl], ?_, by rw [upd_same]; simp, ?_⟩
      · intro x h
        rcases List.mem_append.mp h with h | h
        · exact hx x h
        · simp at h; omega
      · exact ((p1.trans p2).put nD o1 o2 o3).le (by omega)
    · rintro dD ndD H1 ⟨ds, hl, hx, h1, p1⟩
      obtain ⟨o1, o2, o3⟩ := hP.ne ndD hP
      walk_at "go"
      refine ⟨m, c, g, _, _, rfl, p1.self, by omega, ⟨by omega, by omega⟩, fun sh H2 s0 s1 p2 => ?_⟩
      walk_at "go"
      refine g_lst' ?_
      walk_at "go"
      refine ⟨sz (by simp), fun nN nnN => ?_⟩
      walk_at "go"
      have hP2 : Pr m c g H H2 (B + 18) := (p1.trans p2).le (by omega)
      have nnN0 : H nN = none := hP2.old nnN
      have h2 : H2 dD = some (.lst (ds.map V.int)) := p2.keep h1 o1 o3
      have ndn : dD ≠ nN := ne_of_none h2 nnN
      obtain ⟨u1, u2, u3⟩ := hP.ne nnN0 hP
      refine ForQ.range (fun i σ H' => (∃ x, σ = [some (.ref m), some (.int cy), some (.int cr), some (.int lm), some (.ref dD), x, some (.int (1 + sh)), some (.ref nN), none, none, none]) ∧ ∃ ns : List (Option Int), ns.length = i ∧ (∀ (j : Nat) (k : Int), ns[j]? = some (some k) → ∃ x, ds[j]? = some x ∧ x % cy = k) ∧ H' nN = some (.lst (ns.map noteV)) ∧ H' dD = some (.lst (ds.map V.int)) ∧ Pr m c g H H' (B + 18 + i)) ⟨⟨_, rfl⟩, [], rfl, by simp, upd_same, by rw [upd_ne ndn]; exact h2, (hP2.new nnN).le (by omega)⟩ ?_ ?_
      · rintro i σ H3 hi ⟨⟨x, rfl⟩, ns, hn, hns, h3, h3d, p3⟩
        walk_at "go"
        refine g_bmL (i := 7) rfl h3 ?_
        walk_at "go"
        refine ⟨m, c, g, _, _, rfl, p3.self, by omega, ⟨by omega, by omega⟩, fun k H4 k0 k1 p4 => ?_⟩
        walk_at "go"
        have h4 := p4.keep h3 u1 u3
        have h4d := p4.keep h3d o1 o3
        have put : ∀ nt : Option Int, (∀ k, nt = some k → ∃ x, ds[i]? = some x ∧ x % cy = k) → rAppend (.ref nN) [noteV nt] H4 (fun v H' => (fun _ => (∃ x, [some (V.ref m), some (V.int cy), some (V.int cr), some (V.int lm), some (V.ref dD), some (V.int (0 + (i : Nat))), some (V.int (1 + sh)), some (V.ref nN), none, none, none] = [some (.ref m), some (.int cy), some (.int cr), some (.int lm), some (.ref dD), x, some (.int (1 + sh)), some (.ref nN), none, none, none]) ∧ ∃ ns : List (Option Int), ns.length = i + 1 ∧ (∀ (j : Nat) (k : Int), ns[j]? = some (some k) → ∃ x, ds[j]? = some x ∧ x % cy = k) ∧ H' nN = some (.lst (ns.map noteV)) ∧ H' dD = some (.lst (ds.map V.int)) ∧ Pr m c g H H' (B + 18 + ((i + 1 : Nat) : Int))) v) := by
          intro nt hnt
          refine g_app h4 (szl (by rw [List.length_map]; omega)) ?_
          refine ⟨⟨_, rfl⟩, ns ++ [nt], by simp [hn], fun j k hj => ?_, by rw [upd_same]; simp, by rw [upd_ne ndn]; exact h4d, ((p3.trans p4).put nnN0 u1 u2 u3).le (by omega)⟩
          rcases Nat.lt_or_ge j ns.length with q | q
          · rw [List.getElem?_append_left q] at hj; exact hns j k hj
          · rw [List.getElem?_append_right q] at hj
            have : j = i := by
              rcases Nat.lt_or_ge i j with z | z
              · rw [show j - ns.length = (j - ns.length - 1) + 1 by omega] at hj; simp at hj
              · omega
            subst this
            rw [show j - ns.length = 0 by omega] at hj
            exact hnt k (by simpa using hj)
        cases hb : decide (k < 1 + sh) with
        | true =>
          walk_at "go"
          have hi' : i < ds.length := by omega
          refine g_ixL (K := K) (xs := ds.map V.int) (SqL.of h4d) (v := .int ds[i]) (atI_at (by omega) (map_get_int (by simp [hi']))) ?_
          walk_at "go"
          exact put (some (ds[i] % cy)) (fun k hk => ⟨ds[i], by simp [hi'], by simpa using hk⟩)
        | false =>
          walk_at "go"
          exact put none (fun k hk => by simp at hk)
      · rintro σ H3 ⟨⟨x, rfl⟩, ns, hn, hns, h3, h3d, p3⟩
        walk_at "go"
        refine g_lst' ?_
        walk_at "go"
        refine ⟨sz (by simp), fun lN nlN => ?_⟩
        have nlN0 : H lN = none := p3.old nlN
        obtain ⟨w1, w2, w3⟩ := hP.ne nlN0 hP
        have ndl : dD ≠ lN := ne_of_none h3d nlN
        have nnl : nN ≠ lN := ne_of_none h3 nlN
        have p4 : Pr m c g H (upd H3 lN (.lst [])) (B + 34) := (p3.new nlN).le (by omega)
        walk_at "go"
        refine ⟨m, c, g, _, _, rfl, p4.self, by omega, ⟨by omega, by omega⟩, fun kk H5 kk0 kk1 p5 => ?_⟩
        walk_at "go"
        refine ForQ.range (fun i σ H' => (∃ x y z, σ = [some (.ref m), some (.int cy), some (.int cr), some (.int lm), some (.ref dD), x, some (.int (1 + sh)), some (.ref nN), some (.ref lN), y, z]) ∧ ∃ ls : List (Int × Int × Int), ls.length = i ∧ (∀ l ∈ ls, (0 ≤ l.1 ∧ l.1 < cr) ∧ (0 ≤ l.2.1 ∧ l.2.1 < cr) ∧ (-1000 ≤ l.2.2 ∧ l.2.2 ≤ 1000) ∧ ∀ x y : Int, ds[l.1.toNat]? = some x → ds[l.2.1.toNat]? = some y → y - x ≤ l.2.2) ∧ (∃ rows, H' lN = some (.lst rows) ∧ Fzs H' rows (ls.map lineD)) ∧ H' nN = some (.lst (ns.map noteV)) ∧ H' dD = some (.lst (ds.map V.int)) ∧ Pr m c g H H' (B + 35 + 6 * i)) ⟨⟨_, _, _, rfl⟩, [], rfl, by simp, ⟨[], p5.keep upd_same w1 w3, .nil⟩, p5.keep (by rw [upd_ne nnl]; exact h3) u1 u3, p5.keep (by rw [upd_ne ndl]; exact h3d) o1 o3, (p4.trans p5).le (by omega)⟩ ?_ ?_
        · rintro i σ H6 hi ⟨⟨x, y, z, rfl⟩, ls, hls, hgood, ⟨rows, hr6, hf6⟩, h6, h6d, p6⟩
          have hi6 : i < 61 := by omega
          walk_at "go"
          refine ⟨m, c, g, _, _, rfl, p6.self, by omega, ⟨by omega, by omega⟩, fun k1 H7 a1 b1 p7 => ?_⟩
          walk_at "go"
          refine ⟨m, c, g, _, _, rfl, p7.self, by omega, ⟨by omega, by omega⟩, fun k2 H8 a2 b2 p8 => ?_⟩
          have p68 := p7.trans p8
          have h8 := p68.keep h6 u1 u3
          have h8d := p68.keep h6d o1 o3
          have h8r := p68.keep hr6 w1 w3
          have hk1 : k1.toNat < ds.length := by omega
          have hk2 : k2.toNat < ds.length := by omega
          walk_at "go"
          refine g_bmL (i := 8) rfl h8r ?_
          walk_at "go"
          refine g_tup' ?_
          walk_at "go"
          refine g_ixL (K := K) (xs := ds.map V.int) (SqL.of h8d) (v := .int ds[k2.toNat]) (atI_at a2 (map_get_int (by simp [hk2]))) ?_
          walk_at "go"
          refine g_ixL (K := K) (xs := ds.map V.int) (SqL.of h8d) (v := .int ds[k1.toNat]) (atI_at a1 (map_get_int (by simp [hk1]))) ?_
          walk_at "go"
          refine ⟨m, c, g, _, _, rfl, p8.self, by omega, ⟨by omega, by omega⟩, fun sl H9 sl0 sl1 p9 => ?_⟩
          walk_at "go"
          refine ⟨sz (by simp), fun T nT => ?_⟩
          have p69 := p68.trans p9
          have h9 := p69.keep h6 u1 u3
          have h9d := p69.keep h6d o1 o3
          have h9r := p69.keep hr6 w1 w3
          have nlT : lN ≠ T := ne_of_none h9r nT
          have nnT : nN ≠ T := ne_of_none h9 nT
          have ndT : dD ≠ T := ne_of_none h9d nT
          have hrl : rows.length = i := by rw [hf6.length, List.length_map]; exact hls
          walk_at "go"
          refine g_app (by rw [upd_ne nlT]; exact h9r) (szl (by omega)) ?_
          have tk1 : Tk H6 (upd H9 T (.tup [.int k1, .int k2, .int (ds[k2.toNat] - ds[k1.toNat] + sl)])) := (p69.tk p6.self).trans (Tk.new nT)
          have tk2 := Tk.upd (H := upd H9 T (.tup [.int k1, .int k2, .int (ds[k2.toNat] - ds[k1.toNat] + sl)])) (p := lN) (o := .lst (rows ++ [.ref T])) (by rw [upd_ne nlT]; exact h9r) (fun xs h => by cases h)
          refine ⟨⟨_, _, _, rfl⟩, ls ++ [(k1, k2, ds[k2.toNat] - ds[k1.toNat] + sl)], by simp [hls], fun l hl => ?_, ⟨_, upd_same, ?_⟩, by rw [upd_ne nnl, upd_ne nnT]; exact h9, by rw [upd_ne ndl, upd_ne ndT]; exact h9d, ?_⟩
          · rcases List.mem_append.mp hl with hl | hl
            · exact hgood l hl
            · have e : l = (k1, k2, ds[k2.toNat] - ds[k1.toNat] + sl) := by simpa using hl
              subst e
              have g1 := hx ds[k1.toNat] (List.getElem_mem hk1)
              have g2 := hx ds[k2.toNat] (List.getElem_mem hk2)
              refine ⟨⟨a1, b1⟩, ⟨a2, b2⟩, ⟨by show _ ≤ ds[k2.toNat] - ds[k1.toNat] + sl; omega, by show ds[k2.toNat] - ds[k1.toNat] + sl ≤ _; omega⟩, fun x y e1 e2 => ?_⟩
              have e1' : ds[k1.toNat] = x := by simpa [hk1] using e1
              have e2' : ds[k2.toNat] = y := by simpa [hk2] using e2
              show y - x ≤ ds[k2.toNat] - ds[k1.toNat] + sl
              omega
          · rw [List.map_append]
            exact (hf6.tk (tk1.trans tk2)).snoc (fz_line (by rw [upd_ne nlT.symm, upd_same]))
          · exact (((p6.trans p69).new nT).put nlN0 w1 w2 w3).le (by omega)
        · rintro σ H6 ⟨⟨x, y, z, rfl⟩, ls, hls, hgood, ⟨rows, hr6, hf6⟩, h6, h6d, p6⟩
          walk_at "go"
          refine g_tup' ?_
          walk_at "go"
          refine g_tupOfL (K := K) (SqL.of h6) ?_
          intro t1 n1
          walk_at "go"
          refine g_tupOfL (K := K) (SqL.of (by rw [upd_ne (ne_of_none hr6 n1)]; exact hr6)) ?_
          intro t2 n2
          have f1 : upd H6 t1 (.tup (ns.map noteV)) t1 = some (.tup (ns.map noteV)) := upd_same
          walk_at "go"
          refine g_tupOfL (K := K) (SqL.of (by rw [upd_ne (ne_of_none (by rw [upd_ne (ne_of_none h6d n1)]; exact h6d) n2), upd_ne (ne_of_none h6d n1)]; exact h6d)) ?_
          intro t3 n3
          walk_at "go"
          refine ⟨sz (by simp), fun t4 n4 => ?_⟩
          walk_at "go"
          have k1 := Tk.new (o := .tup (ns.map noteV)) n1
          have k2 := Tk.new (o := .tup rows) n2
          have k3 := Tk.new (o := .tup (ds.map V.int)) n3
          have k4 := Tk.new (o := .tup [.int cy, .ref t1, .ref t2, .ref t3]) n4
          refine q (.ref t4) ⟨cy, ns, ls, some ds⟩ _ (book_mk upd_same ?_ ?_ ?_) rfl hn ?_ ⟨ds, rfl, fun x hx' => by have := hx x hx'; omega⟩ ?_
          · exact (fz_notes upd_same).tk (k2.trans (k3.trans k4))
          · exact (Fz.tup upd_same (hf6.tk (k1.trans k2))).tk (k3.trans k4)
          · exact (Fz.tup upd_same (Fzs.of_ints ds)).tk k4
          · refine ⟨⟨hcy.1, hcy.2, by show 1 ≤ ns.length; omega, by show ns.length ≤ 16; omega, fun i hi => ?_, fun l hl => ?_⟩, by show ls.length ≤ _; omega, fun xs hxs => ?_⟩
            · obtain ⟨j, hj, e⟩ := List.getElem_of_mem hi
              obtain ⟨x, _, e2⟩ := hns j i (by rw [List.getElem?_eq_getElem hj, e])
              have := Int.emod_nonneg x (show cy ≠ 0 by omega)
              have := Int.emod_lt_of_pos x (show 0 < cy by omega)
              show 0 ≤ i ∧ i < cy
              omega
            · obtain ⟨⟨a, b⟩, ⟨a', b'⟩, ⟨a'', b''⟩, _⟩ := hgood l hl
              have hn' : (ns.length : Int) = cr := by omega
              exact ⟨⟨a, by show l.1 < (ns.length : Int); omega⟩, ⟨a', by show l.2.1 < (ns.length : Int); omega⟩, a'', b''⟩
            · have e : ds = xs := by simpa using hxs
              subst e
              refine ⟨by show ds.length = ns.length; omega, fun n i x h1 h2 => ?_, fun l hl => (hgood l hl).2.2.2⟩
              obtain ⟨x', h3, h4⟩ := hns n i h1
              rw [h2] at h3
              have := Option.some.inj h3
              subst this
              exact h4
          · exact ((((p6.new n1).new n2).new n3).new n4).le (by omega)
end
end K06
set_option Elab.async false
set_option linter.all false
set_option maxRecDepth 100000
set_option maxHeartbeats 4000000
namespace K06
open PySem PySem.Spec PyProof.Rows L2 WL
local macro_rules | `(tactic| walk_at "side") => `(tactic| first | (show (_ ∧ _) ∨ (_ ∧ _); omega) | (exact ⟨by omega, by omega⟩) | (show (0 : Int) < _; omega) | omega)
local macro_rules | `(tactic| walk_at "go") => `(tactic| (repeat (first
  | with_reducible refine g_seq ?_ | with_reducible refine g_asgN ?_ | with_reducible refine g_ret ?_ | with_reducible refine g_drop ?_ | with_reducible refine g_ifS ?_ | with_reducible refine g_next ?_
  | with_reducible refine g_var rfl ?_ | with_reducible refine g_c ?_ | with_reducible refine g_op ?_ | with_reducible refine g_un ?_ | with_reducible refine g_rI0 ?_ | ((with_reducible refine g_rI ?_ ?_); next => walk_at "side") | with_reducible refine g_test ?_ | with_reducible refine g_bl ?_
  | with_reducible refine g_nil ?_ | with_reducible refine g_cons ?_ | with_reducible refine g_call ?_ | with_reducible refine g_cb ?_ | with_reducible refine g_if ?_ | with_reducible refine g_par ?_ | with_reducible refine g_two ?_
  | with_reducible refine g_asg ?_ | with_reducible refine g_name ?_ | with_reducible refine g_sub ?_ | with_reducible refine g_yes ?_ | with_reducible refine g_gcons ?_ | with_reducible refine g_gnil ?_ | with_reducible refine g_dget ?_ | with_reducible refine g_dput ?_ | with_reducible refine g_rng1 ?_ | with_reducible refine g_rng2 ?_
  | ((with_reducible refine g_one ?_ ?_); next => omega) | ((with_reducible refine g_twoI ?_ ?_); next => omega) | with_reducible refine g_isNon ?_ | with_reducible refine g_andV ?_ | with_reducible refine g_revT ?_ | with_reducible refine g_itup ?_ | with_reducible refine g_methK0 ?_ | with_reducible refine g_methS ?_ | with_reducible refine g_errF ?_ | with_reducible refine g_prop ?_ | with_reducible refine g_con ?_ | with_reducible refine g_make ?_ | with_reducible refine g_fld ?_ | with_reducible refine g_sfld ?_ | with_reducible refine g_iftn ?_ | with_reducible refine g_iffn ?_ | with_reducible refine g_orV ?_ | with_reducible refine g_notV ?_ | with_reducible refine g_tB ?_ | with_reducible refine g_chain ?_ | with_reducible refine g_neg ?_ | with_reducible refine g_cval ?_ | with_reducible refine g_enumT ?_ | with_reducible refine g_andT ?_ | with_reducible refine g_orT ?_ | with_reducible refine g_notT ?_ | with_reducible refine g_sl ?_ | with_reducible refine g_part ?_ | with_reducible refine g_parI ?_ | with_reducible refine g_noPart ?_ | with_reducible refine g_pcons ?_ | with_reducible refine g_pnil ?_ | with_reducible refine g_list ?_ | with_reducible refine g_lc ?_ | with_reducible refine g_for ?_ | with_reducible refine g_enum ?_ | with_reducible refine g_ift ?_ | with_reducible refine g_iff ?_ | with_reducible refine And.intro rfl ?_ | with_reducible refine g_notNon ?_)))
local macro_rules | `(tactic| walk_at "ex") => `(tactic| (repeat (first
  | with_reducible refine g_seqAsg ?_ | with_reducible refine g_seqFld ?_ | with_reducible refine g_seqDrop ?_ | with_reducible refine g_seqPut ?_ | with_reducible refine g_seqPar ?_ | with_reducible refine g_asgN ?_ | with_reducible refine g_ret ?_ | with_reducible refine g_drop ?_ | with_reducible refine g_next ?_
  | with_reducible refine g_var rfl ?_ | with_reducible refine g_c ?_ | with_reducible refine g_op ?_ | with_reducible refine g_un ?_ | with_reducible refine g_rI0 ?_ | ((with_reducible refine g_rI ?_ ?_); next => walk_at "side") | with_reducible refine g_test ?_ | with_reducible refine g_bl ?_
  | with_reducible refine g_nil ?_ | with_reducible refine g_cons ?_ | with_reducible refine g_call ?_ | with_reducible refine g_cb ?_ | with_reducible refine g_if ?_ | with_reducible refine g_par ?_ | with_reducible refine g_two ?_
  | with_reducible refine g_asg ?_ | with_reducible refine g_name ?_ | with_reducible refine g_sub ?_ | with_reducible refine g_yes ?_ | with_reducible refine g_gcons ?_ | with_reducible refine g_gnil ?_ | with_reducible refine g_dget ?_ | with_reducible refine g_dput ?_ | with_reducible refine g_rng1 ?_ | with_reducible refine g_rng2 ?_
  | ((with_reducible refine g_one ?_ ?_); next => omega) | ((with_reducible refine g_twoI ?_ ?_); next => omega) | with_reducible refine g_isNon ?_ | with_reducible refine g_andV ?_ | with_reducible refine g_revT ?_ | with_reducible refine g_itup ?_ | with_reducible refine g_methK0 ?_ | with_reducible refine g_methS ?_ | with_reducible refine g_errF ?_ | with_reducible refine g_prop ?_ | with_reducible refine g_con ?_ | with_reducible refine g_make ?_ | with_reducible refine g_fld ?_ | with_reducible refine g_sfld ?_ | with_reducible refine g_iftn ?_ | with_reducible refine g_iffn ?_ | with_reducible refine g_orV ?_ | with_reducible refine g_notV ?_ | with_reducible refine g_tB ?_ | with_reducible refine g_chain ?_ | with_reducible refine g_neg ?_ | with_reducible refine g_cval ?_ | with_reducible refine g_enumT ?_ | with_reducible refine g_proj ?_ | with_reducible refine g_andT ?_ | with_reducible refine g_orT ?_ | with_reducible refine g_notT ?_ | with_reducible refine g_sl ?_ | with_reducible refine g_part ?_ | with_reducible refine g_parI ?_ | with_reducible refine g_noPart ?_ | with_reducible refine g_pcons ?_ | with_reducible refine g_pnil ?_ | with_reducible refine g_list ?_ | with_reducible refine g_lc ?_ | with_reducible refine g_enum ?_ | with_reducible refine g_ift ?_ | with_reducible refine g_iff ?_ | with_reducible refine And.intro rfl ?_ | with_reducible refine g_notNon ?_)))
section
variable {P : Program} {w : World} {K : PySem.W.Frag} {mg : Str → Option Value} {base : Heap} {f : Addr} {fd : FuncData}
theorem sc_bent : FnScope ["m", "book", "cycle", "notes", "lines", "dates", "way", "at", "one", "far", "high"] ["m", "book"] (defScope s_law_bent) := ⟨rfl, rfl, rfl, by decide +kernel, rfl, by decide +kernel, by decide +kernel⟩
theorem ok_bent (F : FnT K "_law_bent" s_law_bent f fd) (T : Blt mg) (hDraw : Has P w K mg base 2 "_law_draw" ["m", "top"] spDraw') : FnOk P w K mg base CX0 3 f fd ["m", "book"] spBent := by
  refine F.ok sc_bent (fun vs H Q E h => ?_) (fun cdv A outer s H vs Q E hr h => ?_)
  · obtain ⟨m, c, g, B, v, b, wd, most, rfl, _⟩ := h
    rfl
  · obtain ⟨m, c, g, B, v, b, wd, most, rfl, hP, hB, hF, hOK, hm, hwd, q⟩ := h
    have sc := sc_bent
    have hu := hr.units
    refine ⟨_, PSs.nox (pss_cons (ps_asg (pv 1) (pg_tup rfl (pgs_cons (pg_name (i := 2) sc.nd rfl (Or.inl rfl)) (pgs_cons (pg_name (i := 3) sc.nd rfl (Or.inl rfl)) (pgs_cons (pg_name (i := 4) sc.nd rfl (Or.inl rfl)) (pgs_cons (pg_name (i := 5) sc.nd rfl (Or.inl rfl)) pgs_nil))))))
      (pss_cons (ps_set (i := 6) sc.nd rfl (Or.inl rfl) (pe_has hDraw hr (by decide) (pa_cons (pv 0) (pa_cons pe_int pa_nil))))
      (pss_cons (ps_if (PW.pt (pw_and (pt_cmpR op_lt (pv 6) pe_int (nomark _)) (pw_and1 (pt_cmpR (op_neD hu) (pv 4) (pe_tup pa_nil) (nomark _)))))
        (pss_cons (ps_set (i := 7) sc.nd rfl (Or.inl rfl) (pe_has hDraw hr (by decide) (pa_cons (pv 0) (pa_cons (pe_callB call_len_seq (by rfl) T.len PySem.boot_len (pa_cons (pv 4) pa_nil)) pa_nil))))
        (pss_cons (ps_asg (pe_ix ix_tup (pv 4) (pv 7) (fun _ _ => rfl)) (pg_tup rfl (pgs_cons (pg_name (i := 8) sc.nd rfl (Or.inl rfl)) (pgs_cons (pg_name (i := 9) sc.nd rfl (Or.inl rfl)) (pgs_cons (pg_name (i := 10) sc.nd rfl (Or.inl rfl)) pgs_nil)))))
        (pss_one (ps_set (i := 4) sc.nd rfl (Or.inl rfl) (pe_op op_catA (pe_op op_catA (pe_slice sl_tupA (pv 4) po_none (po_some (pv 7))) (pe_tup (pa_cons (pe_tup (pa_cons (pv 8) (pa_cons (pv 9) (pa_cons (pe_op op_sub (pe_op op_sub (pv 10) pe_int) (pe_has hDraw hr (by decide) (pa_cons (pv 0) (pa_cons (pe_op op_mul pe_int (pv 2)) pa_nil)))) pa_nil)))) pa_nil))) (pe_slice sl_tupA (pv 4) (po_some (pe_op op_add (pv 7) pe_int)) po_none))))))
        (pss_cons (ps_set (i := 7) sc.nd rfl (Or.inl rfl) (pe_has hDraw hr (by decide) (pa_cons (pv 0) (pa_cons (pe_callB call_len_seq (by rfl) T.len PySem.boot_len (pa_cons (pv 3) pa_nil)) pa_nil))))
        (pss_one (ps_set (i := 3) sc.nd rfl (Or.inl rfl) (pe_op op_catA (pe_op op_catA (pe_slice sl_tupA (pv 3) po_none (po_some (pv 7))) (pe_tup (pa_cons (pe_has hDraw hr (by decide) (pa_cons (pv 0) (pa_cons (pv 2) pa_nil))) pa_nil))) (pe_slice sl_tupA (pv 3) (po_some (pe_op op_add (pv 7) pe_int)) po_none))))))
      (pss_one (ps_ret (pe_tup (pa_cons (pv 2) (pa_cons (pv 3) (pa_cons (pv 4) (pa_cons pe_non pa_nil)))))))))), ?_⟩
    obtain ⟨a, na, la, dv, rfl, ha, hn, ⟨rows, hl, hrows⟩, hd⟩ := book_inv hF
    obtain ⟨cy, ns, ls, dt⟩ := b
    obtain ⟨dok, hmany, _⟩ := hOK
    have dok0 := dok
    obtain ⟨c2, c100, n1, n16, hnote, hline⟩ := dok
    simp only at ha hn hl hrows hd c2 c100 n1 n16 hnote hline hmany q dok0
    walk_at "ex"
    refine g_tupg (SqT.of ha) rfl ?_
    walk_at "ex"
    refine ⟨m, c, g, _, _, rfl, hP.self, by omega, ⟨by omega, by omega⟩, fun way H1 w0 w1 p1 => ?_⟩
    have k1 := p1.tk hP
    have hn1 := k1 _ _ hn
    have hl1 := k1 _ _ hl
    have hr1 := hrows.tk k1
    have hrl : rows.length = ls.length := by rw [hrows.length, List.length_map]
    walk_at "ex"
    refine g_join (fun σ' H' => ∃ (nv lv : V) (ns' : List (Option Int)) (ls' : List (Int × Int × Int)) (x7 x8 x9 x10 : Option V), σ' = [some (.ref m), some (.ref a), some (.int cy), some nv, some lv, some dv, some (.int way), x7, x8, x9, x10] ∧ Fz H' nv (notesD ns') ∧ Fz H' lv (linesD ls') ∧ ns'.length = ns.length ∧ DOK cy ns' ls' (wd + 201) ∧ ls'.length = ls.length ∧ Pr m c g H H' (B + 3)) ?_ ?_
    · intro D' hD' _ _ _
      refine g_ifR (fun b H' => Nt H1 H' ∧ (b = true → ls ≠ [])) (fun Q hQ => ?_) ?_
      · walk_at "go"
        cases hb : decide (way < 2) with
        | false => 
          walk_at "go"
          exact hQ false _ ⟨.refl, fun h => by simp at h⟩
        | true =>
          walk_at "go"
          refine g_tup' ?_
          walk_at "go"
          refine ⟨sz (by simp), fun p0 np0 => ?_⟩
          have n0 : Nt H1 (upd H1 p0 (.tup [])) := .new .refl np0
          refine g_neD (K := K) (Fz.tup (n0.same _ _ hl1) (hr1.tk n0.tk)).dp (dp_nilT (SqT.of upd_same)) (pl_shaped (pl_lines ls) (by decide)) (pl_shaped pl_nilT (by decide)) ?_
          walk_at "go"
          refine hQ _ _ ⟨n0, fun h e => ?_⟩
          subst e
          exact absurd h (by decide)
      · rintro b H2 ⟨nt, hne⟩
        have p2 : Pr m c g H H2 (B + 1) := nt.pr p1
        have hn2 := nt.same _ _ hn1
        have hl2 := nt.same _ _ hl1
        have hr2 := hr1.tk nt.tk
        cases b with
        | true =>
          have hls : 0 < ls.length := List.length_pos_iff.mpr (hne rfl)
          walk_at "go"
          refine g_len (K := K) (Or.inr (SqT.of hl2)) ?_
          walk_at "go"
          refine ⟨m, c, g, _, _, rfl, p2.self, by omega, ⟨by omega, by omega⟩, fun at' H3 a0 a1 p3 => ?_⟩
          have k3 := p3.tk p2.self
          have hat : at'.toNat < ls.length := by omega
          obtain ⟨r, er, hrr⟩ := fzs_row (hr2.tk k3) hat
          walk_at "go"
          refine g_ixT (K := K) (SqT.of (k3 _ _ hl2)) (atI_at a0 er) ?_
          refine g_tupg (SqT.of hrr) rfl ?_
          walk_at "go"
          refine g_slA (k3 _ _ hl2) fun s1 H4 nt4 hs1 => ?_
          walk_at "go"
          have p4 : Pr m c g H H4 (B + 2) := nt4.pr ((p2.trans p3).le (by omega))
          refine g_tup' ?_
          walk_at "go"
          refine g_tup' ?_
          walk_at "go"
          refine ⟨m, c, g, _, _, rfl, p4.self, by omega, ⟨by omega, by omega⟩, fun k H5 k0 k1' p5 => ?_⟩
          have k5 : Tk H4 H5 := p5.tk p4.self
          have k15 : Tk H2 H5 := k3.trans (nt4.tk.trans k5)
          walk_at "go"
          refine ⟨sz (by simp), fun U nU => ?_⟩
          walk_at "go"
          refine ⟨sz (by simp), fun W nW => ?_⟩
          have kU := Tk.new (o := .tup [.int ls[at'.toNat].1, .int ls[at'.toNat].2.1, .int (ls[at'.toNat].2.2 - 1 - k)]) nU
          have kW := Tk.new (o := .tup [.ref U]) nW
          rw [cut_take rows a0] at hs1
          refine g_catA (K := K) ((k5.trans (kU.trans kW)) _ _ hs1) upd_same (by rw [List.length_take]; simp; omega) fun s2 H6 nt6 hs2 => ?_
          walk_at "go"
          refine g_slA (nt6.tk _ _ (kW _ _ (kU _ _ (k15 _ _ hl2)))) fun s3 H7 nt7 hs3 => ?_
          rw [cut_drop rows (by omega), show (at' + 1).toNat = at'.toNat + 1 by omega] at hs3
          walk_at "go"
          refine g_catA (K := K) (nt7.tk _ _ hs2) hs3 (by simp only [List.length_append, List.length_take, List.length_drop, List.length_cons, List.length_nil]; omega) fun s4 H8 nt8 hs4 => ?_
          walk_at "go"
          have kU8 : Tk (upd H5 U (.tup [.int ls[at'.toNat].1, .int ls[at'.toNat].2.1, .int (ls[at'.toNat].2.2 - 1 - k)])) H8 := kW.trans (nt6.tk.trans (nt7.tk.trans nt8.tk))
          have k8 : Tk H2 H8 := k15.trans (kU.trans kU8)
          refine hD' _ _ ⟨.ref na, .ref s4, ns, ls.take at'.toNat ++ [(ls[at'.toNat].1, ls[at'.toNat].2.1, ls[at'.toNat].2.2 - 1 - k)] ++ ls.drop (at'.toNat + 1), _, _, _, _, rfl, (fz_notes hn2).tk k8, ?_, rfl, ?_, cut_len _ _ _ hat, ?_⟩
          · refine Fz.tup hs4 ?_
            rw [List.map_append, List.map_append, List.map_take, List.map_drop]
            exact ((hr2.take _).tk k8 |>.append (.cons (fz_line (kU8 _ _ upd_same)) .nil)).append ((hr2.drop _).tk k8)
          · refine dok_lines dok0 fun l hl => ?_
            rcases cut_mem hl with h | h
            · exact Or.inl ⟨h, by omega⟩
            · subst h
              obtain ⟨g1, g2, g3, g4⟩ := hline _ (List.getElem_mem hat)
              exact Or.inr ⟨g1, g2, by show _ ≤ ls[at'.toNat].2.2 - 1 - k; omega, by show ls[at'.toNat].2.2 - 1 - k ≤ _; omega⟩
          · exact nt8.pr (nt7.pr (nt6.pr (((p4.trans p5).new nU).new nW))) |>.le (by omega)
        | false =>
          walk_at "go"
          refine g_len (K := K) (Or.inr (SqT.of hn2)) ?_
          rw [List.length_map]
          walk_at "go"
          refine ⟨m, c, g, _, _, rfl, p2.self, by omega, ⟨by omega, by omega⟩, fun at' H3 a0 a1 p3 => ?_⟩
          have k3 := p3.tk p2.self
          have hat : at'.toNat < ns.length := by omega
          walk_at "go"
          refine g_slA (k3 _ _ hn2) fun s1 H4 nt4 hs1 => ?_
          walk_at "go"
          have p4 : Pr m c g H H4 (B + 2) := nt4.pr ((p2.trans p3).le (by omega))
          refine g_tup' ?_
          walk_at "go"
          refine ⟨m, c, g, _, _, rfl, p4.self, by omega, ⟨by omega, by omega⟩, fun k H5 k0 k1' p5 => ?_⟩
          have k5 : Tk H4 H5 := p5.tk p4.self
          have k15 : Tk H2 H5 := k3.trans (nt4.tk.trans k5)
          walk_at "go"
          refine ⟨sz (by simp), fun W nW => ?_⟩
          have kW := Tk.new (o := .tup [.int k]) nW
          rw [cut_take _ a0] at hs1
          refine g_catA (K := K) ((k5.trans kW) _ _ hs1) upd_same (by rw [List.length_take, List.length_map]; simp; omega) fun s2 H6 nt6 hs2 => ?_
          walk_at "go"
          refine g_slA (nt6.tk _ _ (kW _ _ (k15 _ _ hn2))) fun s3 H7 nt7 hs3 => ?_
          rw [cut_drop _ (by omega), show (at' + 1).toNat = at'.toNat + 1 by omega] at hs3
          walk_at "go"
          refine g_catA (K := K) (nt7.tk _ _ hs2) hs3 (by simp only [List.length_append, List.length_take, List.length_drop, List.length_cons, List.length_nil, List.length_map]; omega) fun s4 H8 nt8 hs4 => ?_
          walk_at "go"
          have k8 : Tk H2 H8 := k15.trans (kW.trans (nt6.tk.trans (nt7.tk.trans nt8.tk)))
          refine hD' _ _ ⟨.ref s4, .ref la, ns.take at'.toNat ++ [some k] ++ ns.drop (at'.toNat + 1), ls, _, _, _, _, rfl, fz_notes ?_, Fz.tup (k8 _ _ hl2) (hr2.tk k8), cut_len _ _ _ hat, ?_, rfl, ?_⟩
          · rw [hs4, List.map_append, List.map_append, List.map_take, List.map_drop]; rfl
          · refine dok_notes dok0 (by omega) (cut_len _ _ _ hat) fun i hi => ?_
            rcases cut_mem hi with h | h
            · exact Or.inl h
            · have := Option.some.inj h
              subst this
              exact Or.inr ⟨k0, k1'⟩
          · exact nt8.pr (nt7.pr (nt6.pr ((p4.trans p5).new nW))) |>.le (by omega)
    · rintro σ' H' ⟨nv, lv, ns', ls', x7, x8, x9, x10, rfl, f1, f2, e1, dk, e2, p2⟩
      walk_at "go"
      refine g_tup' ?_
      walk_at "go"
      refine ⟨sz (by simp), fun p np => ?_⟩
      have k := Tk.new (o := .tup [.int cy, nv, lv, .non]) np
      refine q _ ⟨cy, ns', ls', none⟩ _ (book_mk upd_same (f1.tk k) (f2.tk k) .non) rfl e1 ⟨dk, by show ls'.length ≤ _; omega, fun xs h => by simp at h⟩ rfl (p2.new np)
end
end K06
set_option Elab.async false
set_option linter.all false
set_option maxRecDepth 100000
set_option maxHeartbeats 4000000
namespace K06
open PySem PySem.Spec PyProof.Rows L2 WL
local macro_rules | `(tactic| walk_at "side") => `(tactic| first | (show (_ ∧ _) ∨ (_ ∧ _); omega) | (exact ⟨by omega, by omega⟩) | (show (0 : Int) < _; omega) | omega)
local macro_rules | `(tactic| walk_at "go") => `(tactic| (repeat (first
  | with_reducible refine g_seq ?_ | with_reducible refine g_asgN ?_ | with_reducible refine g_ret ?_ | with_reducible refine g_drop ?_ | with_reducible refine g_ifS ?_ | with_reducible refine g_next ?_
  | with_reducible refine g_var rfl ?_ | with_reducible refine g_c ?_ | with_reducible refine g_op ?_ | with_reducible refine g_un ?_ | with_reducible refine g_rI0 ?_ | ((with_reducible refine g_rI ?_ ?_); next => walk_at "side") | with_reducible refine g_test ?_ | with_reducible refine g_bl ?_
  | with_reducible refine g_nil ?_ | with_reducible refine g_cons ?_ | with_reducible refine g_call ?_ | with_reducible refine g_cb ?_ | with_reducible refine g_if ?_ | with_reducible refine g_par ?_ | with_reducible refine g_two ?_
  | with_reducible refine g_asg ?_ | with_reducible refine g_name ?_ | with_reducible refine g_sub ?_ | with_reducible refine g_yes ?_ | with_reducible refine g_gcons ?_ | with_reducible refine g_gnil ?_ | with_reducible refine g_dget ?_ | with_reducible refine g_dput ?_ | with_reducible refine g_rng1 ?_ | with_reducible refine g_rng2 ?_
  | ((with_reducible refine g_one ?_ ?_); next => omega) | ((with_reducible refine g_twoI ?_ ?_); next => omega) | with_reducible refine g_isNon ?_ | with_reducible refine g_andV ?_ | with_reducible refine g_revT ?_ | with_reducible refine g_itup ?_ | with_reducible refine g_methK0 ?_ | with_reducible refine g_methS ?_ | with_reducible refine g_errF ?_ | with_reducible refine g_prop ?_ | with_reducible refine g_con ?_ | with_reducible refine g_make ?_ | with_reducible refine g_fld ?_ | with_reducible refine g_sfld ?_ | with_reducible refine g_iftn ?_ | with_reducible refine g_iffn ?_ | with_reducible refine g_orV ?_ | with_reducible refine g_notV ?_ | with_reducible refine g_tB ?_ | with_reducible refine g_chain ?_ | with_reducible refine g_neg ?_ | with_reducible refine g_cval ?_ | with_reducible refine g_enumT ?_ | with_reducible refine g_andT ?_ | with_reducible refine g_orT ?_ | with_reducible refine g_notT ?_ | with_reducible refine g_sl ?_ | with_reducible refine g_part ?_ | with_reducible refine g_parI ?_ | with_reducible refine g_noPart ?_ | with_reducible refine g_pcons ?_ | with_reducible refine g_pnil ?_ | with_reducible refine g_list ?_ | with_reducible refine g_lc ?_ | with_reducible refine g_for ?_ | with_reducible refine g_enum ?_ | with_reducible refine g_ift ?_ | with_reducible refine g_iff ?_ | with_reducible refine And.intro rfl ?_ | with_reducible refine g_notNon ?_)))
local macro_rules | `(tactic| walk_at "ex") => `(tactic| (repeat (first
  | with_reducible refine g_seqAsg ?_ | with_reducible refine g_seqFld ?_ | with_reducible refine g_seqDrop ?_ | with_reducible refine g_seqPut ?_ | with_reducible refine g_seqPar ?_ | with_reducible refine g_asgN ?_ | with_reducible refine g_ret ?_ | with_reducible refine g_drop ?_ | with_reducible refine g_next ?_
  | with_reducible refine g_var rfl ?_ | with_reducible refine g_c ?_ | with_reducible refine g_op ?_ | with_reducible refine g_un ?_ | with_reducible refine g_rI0 ?_ | ((with_reducible refine g_rI ?_ ?_); next => walk_at "side") | with_reducible refine g_test ?_ | with_reducible refine g_bl ?_
  | with_reducible refine g_nil ?_ | with_reducible refine g_cons ?_ | with_reducible refine g_call ?_ | with_reducible refine g_cb ?_ | with_reducible refine g_if ?_ | with_reducible refine g_par ?_ | with_reducible refine g_two ?_
  | with_reducible refine g_asg ?_ | with_reducible refine g_name ?_ | with_reducible refine g_sub ?_ | with_reducible refine g_yes ?_ | with_reducible refine g_gcons ?_ | with_reducible refine g_gnil ?_ | with_reducible refine g_dget ?_ | with_reducible refine g_dput ?_ | with_reducible refine g_rng1 ?_ | with_reducible refine g_rng2 ?_
  | ((with_reducible refine g_one ?_ ?_); next => omega) | ((with_reducible refine g_twoI ?_ ?_); next => omega) | with_reducible refine g_isNon ?_ | with_reducible refine g_andV ?_ | with_reducible refine g_revT ?_ | with_reducible refine g_itup ?_ | with_reducible refine g_methK0 ?_ | with_reducible refine g_methS ?_ | with_reducible refine g_errF ?_ | with_reducible refine g_prop ?_ | with_reducible refine g_con ?_ | with_reducible refine g_make ?_ | with_reducible refine g_fld ?_ | with_reducible refine g_sfld ?_ | with_reducible refine g_iftn ?_ | with_reducible refine g_iffn ?_ | with_reducible refine g_orV ?_ | with_reducible refine g_notV ?_ | with_reducible refine g_tB ?_ | with_reducible refine g_chain ?_ | with_reducible refine g_neg ?_ | with_reducible refine g_cval ?_ | with_reducible refine g_enumT ?_ | with_reducible refine g_proj ?_ | with_reducible refine g_andT ?_ | with_reducible refine g_orT ?_ | with_reducible refine g_notT ?_ | with_reducible refine g_sl ?_ | with_reducible refine g_part ?_ | with_reducible refine g_parI ?_ | with_reducible refine g_noPart ?_ | with_reducible refine g_pcons ?_ | with_reducible refine g_pnil ?_ | with_reducible refine g_list ?_ | with_reducible refine g_lc ?_ | with_reducible refine g_enum ?_ | with_reducible refine g_ift ?_ | with_reducible refine g_iff ?_ | with_reducible refine And.intro rfl ?_ | with_reducible refine g_notNon ?_)))
section
variable {P : Program} {w : World} {K : PySem.W.Frag} {mg : Str → Option Value} {base : Heap} {f : Addr} {fd : FuncData}
def spDoubled (K : PySem.W.Frag) : Sp := fun vs H Q _ => ∃ k : Int, vs = [.int k] ∧ (k = 0 ∨ k = 1) ∧ ∀ (a : Addr) (H' : Hp) (sh : Sh), AnS K H' (.ref a) sh → (∀ b o, H b = some o → H' b = some o) → H a = none → Q (.ref a) H'
theorem sc_doubled : FnScope ["kind", "found", "n"] ["kind"] (defScope s_law_doubled) := ⟨rfl, rfl, rfl, by decide +kernel, rfl, by decide +kernel, by decide +kernel⟩
theorem ok_doubled (F : FnT K "_law_doubled" s_law_doubled f fd) (T : Blt mg) : FnOk P w K mg base CX0 1 f fd ["kind"] (spDoubled K) := by
  refine F.ok sc_doubled (fun vs H Q E h => ?_) (fun cdv A outer s H vs Q E hr h => ?_)
  · obtain ⟨k, rfl, _⟩ := h
    rfl
  · obtain ⟨k, rfl, hk, q⟩ := h
    have sc := sc_doubled
    refine ⟨_, PSs.nox (pss_cons (ps_set (i := 1) sc.nd rfl (Or.inl rfl) (pe_tup pa_nil))
      (pss_cons (ps_for PassesOwn.never rfl (pi_range1 (by rfl) T.range (pa_cons pe_int pa_nil)) (pg_name (i := 2) sc.nd rfl (Or.inl rfl))
        (pss_one (ps_set (i := 1) sc.nd rfl (Or.inl rfl) (pe_ix ix_list (pe_lst (pa_cons (pe_tup (pa_cons (pv 1) (pa_cons (pv 1) pa_nil))) (pa_cons (pe_lst (pa_cons (pv 1) (pa_cons (pv 1) pa_nil))) pa_nil))) (pv 0) (fun _ _ => rfl)))))
      (pss_one (ps_ret (pv 1))))), ?_⟩
    walk_at "go"
    refine g_tup' ?_
    walk_at "go"
    refine ⟨sz (by simp), fun p np => ?_⟩
    walk_at "go"
    have same_new : ∀ {H1 : Hp} {p : Addr} {o : HO}, H1 p = none → (∀ b o, H b = some o → H1 b = some o) → ∀ b u, H b = some u → upd H1 p o b = some u := fun n h b u hb => by rw [upd_ne (ne_of_none (h _ _ hb) n)]; exact h _ _ hb
    have none_new : ∀ {H1 : Hp} {p : Addr}, H1 p = none → (∀ b o, H b = some o → H1 b = some o) → H p = none := fun {H1 p} n h => by
      cases e : H p with
      | none => rfl
      | some o => rw [h _ _ e] at n; exact absurd n (by simp)
    refine ForQ.range (fun i σ H' => ∃ (a : Addr) (x : Option V) (sh : Sh), σ = [some (.int k), some (.ref a), x] ∧ AnS K H' (.ref a) sh ∧ (∀ b o, H b = some o → H' b = some o) ∧ H a = none) ⟨p, _, .tup [], rfl, .tup (SqT.of upd_same) .nil, same_new np (fun _ _ h => h), np⟩ ?_ ?_
    · rintro i σ H1 hi ⟨a, x, sh, rfl, h1, s1, n1⟩
      walk_at "go"
      refine g_lst' ?_
      walk_at "go"
      refine g_tup' ?_
      walk_at "go"
      refine ⟨sz (by simp), fun p2 np2 => ?_⟩
      refine g_lst' ?_
      walk_at "go"
      refine ⟨sz (by simp), fun p3 np3 => ?_⟩
      walk_at "go"
      refine ⟨sz (by simp), fun p4 np4 => ?_⟩
      have s2 := same_new (o := .tup [.ref a, .ref a]) np2 s1
      have s3 := same_new (o := .lst [.ref a, .ref a]) np3 s2
      have s4 := same_new (o := .lst [.ref p2, .ref p3]) np4 s3
      have n23 : p2 ≠ p3 := ne_of_none upd_same np3
      have n24 : p2 ≠ p4 := ne_of_none (by rw [upd_ne n23]; exact upd_same) np4
      have n34 : p3 ≠ p4 := ne_of_none upd_same np4
      walk_at "go"
      rcases hk with rfl | rfl
      · refine g_ixL (K := K) (xs := [.ref p2, .ref p3]) (v := .ref p2) (SqL.of upd_same) rfl ?_
        walk_at "go"
        have sH : ∀ b o, H1 b = some o → upd (upd (upd H1 p2 (.tup [.ref a, .ref a])) p3 (.lst [.ref a, .ref a])) p4 (.lst [.ref p2, .ref p3]) b = some o := fun b o h => by
          rw [upd_ne (ne_of_none (by rw [upd_ne (ne_of_none (by rw [upd_ne (ne_of_none h np2)]; exact h) np3), upd_ne (ne_of_none h np2)]; exact h) np4), upd_ne (ne_of_none (by rw [upd_ne (ne_of_none h np2)]; exact h) np3), upd_ne (ne_of_none h np2)]; exact h
        exact ⟨p2, _, .tup [sh, sh], rfl, .tup (SqT.of (by rw [upd_ne n24, upd_ne n23]; exact upd_same)) (.cons (h1.same sH) (.cons (h1.same sH) .nil)), s4, none_new np2 s1⟩
      · refine g_ixL (K := K) (xs := [.ref p2, .ref p3]) (v := .ref p3) (SqL.of upd_same) rfl ?_
        walk_at "go"
        exact ⟨p3, _, .lst, rfl, .lst (SqL.of (by rw [upd_ne n34]; exact upd_same)), s4, none_new np3 s2⟩
    · rintro σ H1 ⟨a, x, sh, rfl, h1, s1, n1⟩
      walk_at "go"
      exact q a H1 sh h1 s1 n1
end
end K06
set_option Elab.async false
set_option linter.all false
set_option maxRecDepth 100000
set_option maxHeartbeats 4000000
namespace K06
open PySem PySem.Spec PyProof.Rows L2 WL
local macro_rules | `(tactic| walk_at "side") => `(tactic| first | (show (_ ∧ _) ∨ (_ ∧ _); omega) | (exact ⟨by omega, by omega⟩) | (show (0 : Int) < _; omega) | omega)
local macro_rules | `(tactic| walk_at "go") => `(tactic| (repeat (first
  | with_reducible refine g_seq ?_ | with_reducible refine g_asgN ?_ | with_reducible refine g_ret ?_ | with_reducible refine g_drop ?_ | with_reducible refine g_ifS ?_ | with_reducible refine g_next ?_
  | with_reducible refine g_var rfl ?_ | with_reducible refine g_c ?_ | with_reducible refine g_op ?_ | with_reducible refine g_un ?_ | with_reducible refine g_rI0 ?_ | ((with_reducible refine g_rI ?_ ?_); next => walk_at "side") | with_reducible refine g_test ?_ | with_reducible refine g_bl ?_
  | with_reducible refine g_nil ?_ | with_reducible refine g_cons ?_ | with_reducible refine g_call ?_ | with_reducible refine g_cb ?_ | with_reducible refine g_if ?_ | with_reducible refine g_par ?_ | with_reducible refine g_two ?_
  | with_reducible refine g_asg ?_ | with_reducible refine g_name ?_ | with_reducible refine g_sub ?_ | with_reducible refine g_yes ?_ | with_reducible refine g_gcons ?_ | with_reducible refine g_gnil ?_ | with_reducible refine g_dget ?_ | with_reducible refine g_dput ?_ | with_reducible refine g_rng1 ?_ | with_reducible refine g_rng2 ?_
  | ((with_reducible refine g_one ?_ ?_); next => omega) | ((with_reducible refine g_twoI ?_ ?_); next => omega) | with_reducible refine g_isNon ?_ | with_reducible refine g_andV ?_ | with_reducible refine g_revT ?_ | with_reducible refine g_itup ?_ | with_reducible refine g_methK0 ?_ | with_reducible refine g_methS ?_ | with_reducible refine g_errF ?_ | with_reducible refine g_prop ?_ | with_reducible refine g_con ?_ | with_reducible refine g_make ?_ | with_reducible refine g_fld ?_ | with_reducible refine g_sfld ?_ | with_reducible refine g_iftn ?_ | with_reducible refine g_iffn ?_ | with_reducible refine g_orV ?_ | with_reducible refine g_notV ?_ | with_reducible refine g_tB ?_ | with_reducible refine g_chain ?_ | with_reducible refine g_neg ?_ | with_reducible refine g_cval ?_ | with_reducible refine g_enumT ?_ | with_reducible refine g_andT ?_ | with_reducible refine g_orT ?_ | with_reducible refine g_notT ?_ | with_reducible refine g_sl ?_ | with_reducible refine g_part ?_ | with_reducible refine g_parI ?_ | with_reducible refine g_noPart ?_ | with_reducible refine g_pcons ?_ | with_reducible refine g_pnil ?_ | with_reducible refine g_list ?_ | with_reducible refine g_lc ?_ | with_reducible refine g_for ?_ | with_reducible refine g_enum ?_ | with_reducible refine g_ift ?_ | with_reducible refine g_iff ?_ | with_reducible refine And.intro rfl ?_ | with_reducible refine g_notNon ?_)))
local macro_rules | `(tactic| walk_at "ex") => `(tactic| (repeat (first
  | with_reducible refine g_seqAsg ?_ | with_reducible refine g_seqFld ?_ | with_reducible refine g_seqDrop ?_ | with_reducible refine g_seqPut ?_ | with_reducible refine g_seqPar ?_ | with_reducible refine g_asgN ?_ | with_reducible refine g_ret ?_ | with_reducible refine g_drop ?_ | with_reducible refine g_next ?_
  | with_reducible refine g_var rfl ?_ | with_reducible refine g_c ?_ | with_reducible refine g_op ?_ | with_reducible refine g_un ?_ | with_reducible refine g_rI0 ?_ | ((with_reducible refine g_rI ?_ ?_); next => walk_at "side") | with_reducible refine g_test ?_ | with_reducible refine g_bl ?_
  | with_reducible refine g_nil ?_ | with_reducible refine g_cons ?_ | with_reducible refine g_call ?_ | with_reducible refine g_cb ?_ | with_reducible refine g_if ?_ | with_reducible refine g_par ?_ | with_reducible refine g_two ?_
  | with_reducible refine g_asg ?_ | with_reducible refine g_name ?_ | with_reducible refine g_sub ?_ | with_reducible refine g_yes ?_ | with_reducible refine g_gcons ?_ | with_reducible refine g_gnil ?_ | with_reducible refine g_dget ?_ | with_reducible refine g_dput ?_ | with_reducible refine g_rng1 ?_ | with_reducible refine g_rng2 ?_
  | ((with_reducible refine g_one ?_ ?_); next => omega) | ((with_reducible refine g_twoI ?_ ?_); next => omega) | with_reducible refine g_isNon ?_ | with_reducible refine g_andV ?_ | with_reducible refine g_revT ?_ | with_reducible refine g_itup ?_ | with_reducible refine g_methK0 ?_ | with_reducible refine g_methS ?_ | with_reducible refine g_errF ?_ | with_reducible refine g_prop ?_ | with_reducible refine g_con ?_ | with_reducible refine g_make ?_ | with_reducible refine g_fld ?_ | with_reducible refine g_sfld ?_ | with_reducible refine g_iftn ?_ | with_reducible refine g_iffn ?_ | with_reducible refine g_orV ?_ | with_reducible refine g_notV ?_ | with_reducible refine g_tB ?_ | with_reducible refine g_chain ?_ | with_reducible refine g_neg ?_ | with_reducible refine g_cval ?_ | with_reducible refine g_enumT ?_ | with_reducible refine g_proj ?_ | with_reducible refine g_andT ?_ | with_reducible refine g_orT ?_ | with_reducible refine g_notT ?_ | with_reducible refine g_sl ?_ | with_reducible refine g_part ?_ | with_reducible refine g_parI ?_ | with_reducible refine g_noPart ?_ | with_reducible refine g_pcons ?_ | with_reducible refine g_pnil ?_ | with_reducible refine g_list ?_ | with_reducible refine g_lc ?_ | with_reducible refine g_enum ?_ | with_reducible refine g_ift ?_ | with_reducible refine g_iff ?_ | with_reducible refine And.intro rfl ?_ | with_reducible refine g_notNon ?_)))
section
variable {P : Program} {w : World} {K : PySem.W.Frag} {mg : Str → Option Value} {base : Heap} {f : Addr} {fd : FuncData} {DC : Addr}
theorem sc_num : FnScope ["value"] ["value"] (defScope s_is_number) := ⟨rfl, rfl, rfl, by decide +kernel, rfl, by decide +kernel, by decide +kernel⟩
theorem ok_num (F : FnT K "is_number" s_is_number f fd) (T : Blt mg) : FnOk P w K mg base CX0 1 f fd ["value"] (spNum K) := by
  refine F.ok sc_num (fun vs H Q E h => ?_) (fun cdv A outer s H vs Q E hr h => ?_)
  · obtain ⟨x, t, rfl, _⟩ := h
    rfl
  · obtain ⟨x, t, rfl, ht, q⟩ := h
    have sc := sc_num
    refine ⟨_, PSs.nox (pss_one (ps_ret (pe_and (pe_callB call_isi (by rfl) T.isinstance (by decide +kernel) (pa_cons (pv 0) (pa_cons (pe_bltn (v := .ty "int") (by rfl) T.int (by decide +kernel) rfl) pa_nil))) (pe_one (pe_not (pe_callB call_isi (by rfl) T.isinstance (by decide +kernel) (pa_cons (pv 0) (pa_cons (pe_bltn (v := .ty "bool") (by rfl) T.bool (by decide +kernel) rfl) pa_nil)))))))), ?_⟩
    walk_at "go"
    refine g_isi (K := K) ht (isi_int K t) ?_
    cases t <;> first | exact g_bl (g_iff q) | (refine g_bl (g_ift ?_); walk_at "go"; refine g_isi (K := K) ht (isi_bool K _) ?_; exact g_bl q)
theorem sc_within : FnScope ["value", "low", "high"] ["value", "low", "high"] (defScope s_is_within) := ⟨rfl, rfl, rfl, by decide +kernel, rfl, by decide +kernel, by decide +kernel⟩
theorem ok_within (F : FnT K "is_within" s_is_within f fd) (hNum : Has P w K mg base 1 "is_number" ["value"] (spNum K)) : FnOk P w K mg base CX0 2 f fd ["value", "low", "high"] (spWithin K) := by
  refine F.ok sc_within (fun vs H Q E h => ?_) (fun cdv A outer s H vs Q E hr h => ?_)
  · obtain ⟨x, t, lo, hi, rfl, _⟩ := h
    rfl
  · obtain ⟨x, t, lo, hi, rfl, ht, q⟩ := h
    have sc := sc_within
    refine ⟨_, PSs.nox (pss_one (ps_ret (pe_and (pe_has hNum hr (by decide) (pa_cons (pv 0) pa_nil)) (pe_one (pe_chain op_le op_le (pv 1) (pv 0) (pv 2)))))), ?_⟩
    walk_at "go"
    refine ⟨_, t, rfl, ht, ?_⟩
    cases ht with
    | int i => 
      refine g_bl (g_ift ?_)
      walk_at "go"
      cases hb : decide (lo ≤ i) with
      | true =>
        walk_at "go"
        have e : Sh.within lo hi (.int i) = decide (i ≤ hi) := by show (decide (lo ≤ i) && decide (i ≤ hi)) = _; rw [hb, Bool.true_and]
        rw [e] at q
        exact q
      | false =>
        have e : Sh.within lo hi (.int i) = false := by show (decide (lo ≤ i) && decide (i ≤ hi)) = _; rw [hb, Bool.false_and]
        rw [e] at q
        exact g_iff q
    | _ => exact g_bl (g_iff q)
theorem sc_tupOf : FnScope ["value", "low", "high"] ["value", "low", "high"] (defScope s_is_tuple_of) := ⟨rfl, rfl, rfl, by decide +kernel, rfl, by decide +kernel, by decide +kernel⟩
theorem ok_tupOf (F : FnT K "is_tuple_of" s_is_tuple_of f fd) (T : Blt mg) : FnOk P w K mg base CX0 1 f fd ["value", "low", "high"] (spTupOf K) := by
  refine F.ok sc_tupOf (fun vs H Q E h => ?_) (fun cdv A outer s H vs Q E hr h => ?_)
  · obtain ⟨x, t, lo, hi, rfl, _⟩ := h
    rfl
  · obtain ⟨x, t, lo, hi, rfl, ht, q⟩ := h
    have sc := sc_tupOf
    refine ⟨_, PSs.nox (pss_one (ps_ret (pe_and (pe_callB call_isi (by rfl) T.isinstance (by decide +kernel) (pa_cons (pv 0) (pa_cons (pe_bltn (v := .ty "tuple") (by rfl) T.tuple (by decide +kernel) rfl) pa_nil))) (pe_one (pe_chain op_le op_le (pv 1) (pe_callB call_len_seq (by rfl) T.len PySem.boot_len (pa_cons (pv 0) pa_nil)) (pv 2)))))), ?_⟩
    walk_at "go"
    refine g_isi (K := K) ht (isi_tup K t) ?_
    cases ht with
    | @tup a xs ss h1 h2 =>
      refine g_bl (g_ift ?_)
      walk_at "go"
      refine g_len (K := K) (Or.inr h1) ?_
      rw [h2.length]
      walk_at "go"
      cases hb : decide (lo ≤ (ss.length : Int)) with
      | true =>
        walk_at "go"
        have e : Sh.sized lo hi (.tup ss) = decide ((ss.length : Int) ≤ hi) := by show (decide (lo ≤ (ss.length : Int)) && decide ((ss.length : Int) ≤ hi)) = _; rw [hb, Bool.true_and]
        rw [e] at q
        exact q
      | false =>
        have e : Sh.sized lo hi (.tup ss) = false := by show (decide (lo ≤ (ss.length : Int)) && decide ((ss.length : Int) ≤ hi)) = _; rw [hb, Bool.false_and]
        rw [e] at q
        exact g_iff q
    | _ => exact g_bl (g_iff q)
end
end K06
set_option Elab.async false
set_option linter.all false
set_option maxRecDepth 100000
set_option maxHeartbeats 4000000
namespace K06
open PySem PySem.Spec PyProof.Rows L2 WL
local macro_rules | `(tactic| walk_at "side") => `(tactic| first | (show (_ ∧ _) ∨ (_ ∧ _); omega) | (exact ⟨by omega, by omega⟩) | (show (0 : Int) < _; omega) | omega)
local macro_rules | `(tactic| walk_at "go") => `(tactic| (repeat (first
  | with_reducible refine g_seq ?_ | with_reducible refine g_asgN ?_ | with_reducible refine g_ret ?_ | with_reducible refine g_drop ?_ | with_reducible refine g_ifS ?_ | with_reducible refine g_next ?_
  | with_reducible refine g_var rfl ?_ | with_reducible refine g_c ?_ | with_reducible refine g_op ?_ | with_reducible refine g_un ?_ | with_reducible refine g_rI0 ?_ | ((with_reducible refine g_rI ?_ ?_); next => walk_at "side") | with_reducible refine g_test ?_ | with_reducible refine g_bl ?_
  | with_reducible refine g_nil ?_ | with_reducible refine g_cons ?_ | with_reducible refine g_call ?_ | with_reducible refine g_cb ?_ | with_reducible refine g_if ?_ | with_reducible refine g_par ?_ | with_reducible refine g_two ?_
  | with_reducible refine g_asg ?_ | with_reducible refine g_name ?_ | with_reducible refine g_sub ?_ | with_reducible refine g_yes ?_ | with_reducible refine g_gcons ?_ | with_reducible refine g_gnil ?_ | with_reducible refine g_dget ?_ | with_reducible refine g_dput ?_ | with_reducible refine g_rng1 ?_ | with_reducible refine g_rng2 ?_
  | ((with_reducible refine g_one ?_ ?_); next => omega) | ((with_reducible refine g_twoI ?_ ?_); next => omega) | with_reducible refine g_isNon ?_ | with_reducible refine g_andV ?_ | with_reducible refine g_revT ?_ | with_reducible refine g_itup ?_ | with_reducible refine g_methK0 ?_ | with_reducible refine g_methS ?_ | with_reducible refine g_errF ?_ | with_reducible refine g_prop ?_ | with_reducible refine g_con ?_ | with_reducible refine g_make ?_ | with_reducible refine g_fld ?_ | with_reducible refine g_sfld ?_ | with_reducible refine g_iftn ?_ | with_reducible refine g_iffn ?_ | with_reducible refine g_orV ?_ | with_reducible refine g_notV ?_ | with_reducible refine g_tB ?_ | with_reducible refine g_chain ?_ | with_reducible refine g_neg ?_ | with_reducible refine g_cval ?_ | with_reducible refine g_enumT ?_ | with_reducible refine g_andT ?_ | with_reducible refine g_orT ?_ | with_reducible refine g_notT ?_ | with_reducible refine g_sl ?_ | with_reducible refine g_part ?_ | with_reducible refine g_parI ?_ | with_reducible refine g_noPart ?_ | with_reducible refine g_pcons ?_ | with_reducible refine g_pnil ?_ | with_reducible refine g_list ?_ | with_reducible refine g_lc ?_ | with_reducible refine g_for ?_ | with_reducible refine g_enum ?_ | with_reducible refine g_ift ?_ | with_reducible refine g_iff ?_ | with_reducible refine And.intro rfl ?_ | with_reducible refine g_notNon ?_)))
local macro_rules | `(tactic| walk_at "ex") => `(tactic| (repeat (first
  | with_reducible refine g_seqAsg ?_ | with_reducible refine g_seqFld ?_ | with_reducible refine g_seqDrop ?_ | with_reducible refine g_seqPut ?_ | with_reducible refine g_seqPar ?_ | with_reducible refine g_asgN ?_ | with_reducible refine g_ret ?_ | with_reducible refine g_drop ?_ | with_reducible refine g_next ?_
  | with_reducible refine g_var rfl ?_ | with_reducible refine g_c ?_ | with_reducible refine g_op ?_ | with_reducible refine g_un ?_ | with_reducible refine g_rI0 ?_ | ((with_reducible refine g_rI ?_ ?_); next => walk_at "side") | with_reducible refine g_test ?_ | with_reducible refine g_bl ?_
  | with_reducible refine g_nil ?_ | with_reducible refine g_cons ?_ | with_reducible refine g_call ?_ | with_reducible refine g_cb ?_ | with_reducible refine g_if ?_ | with_reducible refine g_par ?_ | with_reducible refine g_two ?_
  | with_reducible refine g_asg ?_ | with_reducible refine g_name ?_ | with_reducible refine g_sub ?_ | with_reducible refine g_yes ?_ | with_reducible refine g_gcons ?_ | with_reducible refine g_gnil ?_ | with_reducible refine g_dget ?_ | with_reducible refine g_dput ?_ | with_reducible refine g_rng1 ?_ | with_reducible refine g_rng2 ?_
  | ((with_reducible refine g_one ?_ ?_); next => omega) | ((with_reducible refine g_twoI ?_ ?_); next => omega) | with_reducible refine g_isNon ?_ | with_reducible refine g_andV ?_ | with_reducible refine g_revT ?_ | with_reducible refine g_itup ?_ | with_reducible refine g_methK0 ?_ | with_reducible refine g_methS ?_ | with_reducible refine g_errF ?_ | with_reducible refine g_prop ?_ | with_reducible refine g_con ?_ | with_reducible refine g_make ?_ | with_reducible refine g_fld ?_ | with_reducible refine g_sfld ?_ | with_reducible refine g_iftn ?_ | with_reducible refine g_iffn ?_ | with_reducible refine g_orV ?_ | with_reducible refine g_notV ?_ | with_reducible refine g_tB ?_ | with_reducible refine g_chain ?_ | with_reducible refine g_neg ?_ | with_reducible refine g_cval ?_ | with_reducible refine g_enumT ?_ | with_reducible refine g_proj ?_ | with_reducible refine g_andT ?_ | with_reducible refine g_orT ?_ | with_reducible refine g_notT ?_ | with_reducible refine g_sl ?_ | with_reducible refine g_part ?_ | with_reducible refine g_parI ?_ | with_reducible refine g_noPart ?_ | with_reducible refine g_pcons ?_ | with_reducible refine g_pnil ?_ | with_reducible refine g_list ?_ | with_reducible refine g_lc ?_ | with_reducible refine g_enum ?_ | with_reducible refine g_ift ?_ | with_reducible refine g_iff ?_ | with_reducible refine And.intro rfl ?_ | with_reducible refine g_notNon ?_)))
section
variable {P : Program} {w : World} {K : PySem.W.Frag} {mg : Str → Option Value} {base : Heap} {f : Addr} {fd : FuncData} {DC : Addr}
theorem sc_bound : FnScope ["value", "many", "first", "last", "most"] ["value", "many"] (defScope s_is_bound) := ⟨rfl, rfl, rfl, by decide +kernel, rfl, by decide +kernel, by decide +kernel⟩
theorem ok_bound (F : FnT K "is_bound" s_is_bound f fd) (D : Dia K mg DC) (hTupOf : Has P w K mg base 1 "is_tuple_of" ["value", "low", "high"] (spTupOf K)) (hWithin : Has P w K mg base 2 "is_within" ["value", "low", "high"] (spWithin K)) : FnOk P w K mg base CX0 3 f fd ["value", "many"] (spBound K) := by
  refine F.ok sc_bound (fun vs H Q E h => ?_) (fun cdv A outer s H vs Q E hr h => ?_)
  · obtain ⟨x, t, many, rfl, _⟩ := h
    rfl
  · obtain ⟨x, t, many, rfl, ht, q⟩ := h
    have sc := sc_bound
    refine ⟨_, PSs.nox (pss_cons (ps_if (pt_not (pt_val (pe_has hTupOf hr (by decide) (pa_cons (pv 0) (pa_cons pe_int (pa_cons pe_int pa_nil))))))
        (pss_one (ps_ret pe_bl))
        pss_nil)
      (pss_cons (ps_asg (pv 0) (pg_tup rfl (pgs_cons (pg_name (i := 2) sc.nd rfl (Or.inl rfl)) (pgs_cons (pg_name (i := 3) sc.nd rfl (Or.inl rfl)) (pgs_cons (pg_name (i := 4) sc.nd rfl (Or.inl rfl)) pgs_nil)))))
      (pss_one (ps_ret (pe_and (pe_has hWithin hr (by decide) (pa_cons (pv 2) (pa_cons pe_int (pa_cons (pe_op op_sub (pv 1) pe_int) pa_nil)))) (pe_and (pe_has hWithin hr (by decide) (pa_cons (pv 3) (pa_cons pe_int (pa_cons (pe_op op_sub (pv 1) pe_int) pa_nil)))) (pe_one (pe_has hWithin hr (by decide) (pa_cons (pv 4) (pa_cons (pe_un un_neg (ClX.pe_cval (pe_ref D.at_))) (pa_cons (ClX.pe_cval (pe_ref D.at_)) pa_nil))))))))))), ?_⟩
    walk_at "go"
    refine ⟨_, t, _, _, rfl, ht, ?_⟩
    cases hz : t.sized 3 3 with
    | false =>
      have e : t.bound many = false := by
        unfold Sh.bound
        split
        · exact absurd (show true = false from hz) (by decide)
        · rfl
      rw [e] at q
      exact g_bl (g_ift (g_ret q))
    | true =>
      refine g_bl (g_iff (g_next ?_))
      cases ht with
      | @tup a xs ss h1 h2 =>
        obtain ⟨s1, s2, s3, rfl⟩ : ∃ s1 s2 s3, ss = [s1, s2, s3] := by
          have hl : ss.length = 3 := by
            have : (decide ((3 : Int) ≤ ss.length) && decide ((ss.length : Int) ≤ 3)) = true := hz
            simp only [Bool.and_eq_true, decide_eq_true_eq] at this
            omega
          match ss, hl with
          | [s1, s2, s3], _ => exact ⟨s1, s2, s3, rfl⟩
        cases h2 with
        | @cons x1 _ _ _ i1 h2 => cases h2 with
          | @cons x2 _ _ _ i2 h2 => cases h2 with
            | @cons x3 _ _ _ i3 h2 =>
              cases h2
              walk_at "go"
              refine g_tupg h1 rfl ?_
              walk_at "go"
              refine ⟨x1, s1, _, _, rfl, i1, ?_⟩
              have e : Sh.bound many (.tup [s1, s2, s3]) = (s1.within 0 (many - 1) && s2.within 0 (many - 1) && s3.within (-1000000000) 1000000000) := rfl
              rw [e] at q
              cases hb1 : s1.within 0 (many - 1) with
              | false => rw [hb1] at q; exact g_bl (g_iff q)
              | true =>
                rw [hb1, Bool.true_and] at q
                refine g_bl (g_ift ?_)
                walk_at "go"
                refine ⟨x2, s2, _, _, rfl, i2, ?_⟩
                cases hb2 : s2.within 0 (many - 1) with
                | false => rw [hb2] at q; exact g_bl (g_iff q)
                | true =>
                  rw [hb2, Bool.true_and] at q
                  refine g_bl (g_ift ?_)
                  walk_at "go"
                  refine D.days ?_
                  walk_at "go"
                  refine D.days ?_
                  walk_at "go"
                  exact ⟨x3, s3, _, _, rfl, i3, q⟩
      | _ => exact absurd (show false = true from hz) (by decide)
theorem sc_wf : FnScope ["modulus", "weekdays", "item", "weekday"] ["modulus", "weekdays"] (defScope s_weekdays_fault) := ⟨rfl, rfl, rfl, by decide +kernel, rfl, by decide +kernel, by decide +kernel⟩
theorem ok_wf (F : FnT K "weekdays_fault" s_weekdays_fault f fd) (T : Blt mg) (D : Dia K mg DC) (hTupOf : Has P w K mg base 1 "is_tuple_of" ["value", "low", "high"] (spTupOf K)) (hWithin : Has P w K mg base 2 "is_within" ["value", "low", "high"] (spWithin K)) : FnOk P w K mg base CX0 3 f fd ["modulus", "weekdays"] (spRowF K (fun x c => [c, x]) "weekdays" 1 16 Sh.note) := by
  refine F.ok sc_wf (fun vs H Q E h => ?_) (fun cdv A outer s H vs Q E hr h => ?_)
  · obtain ⟨x, t, c, rfl, _⟩ := h
    rfl
  · obtain ⟨x, t, c, rfl, ht, q1, q2⟩ := h
    have sc := sc_wf
    refine ⟨_, PSs.nox (pss_cons (ps_if (pt_not (pt_val (pe_has hTupOf hr (by decide) (pa_cons (pv 1) (pa_cons pe_int (pa_cons (ClX.pe_cval (pe_ref D.at_)) pa_nil))))))
        (pss_one (ps_ret (pe_tup (pa_cons pe_str (pa_cons pe_non pa_nil)))))
        pss_nil)
      (pss_cons (ps_for PassesOwn.never rfl (pi_enumT (by rfl) T.enumerate (pa_cons (pv 1) pa_nil)) (pg_tup rfl (pgs_cons (pg_name (i := 2) sc.nd rfl (Or.inl rfl)) (pgs_cons (pg_name (i := 3) sc.nd rfl (Or.inl rfl)) pgs_nil)))
        (pss_one (ps_if (PW.pt (pw_and (pt_cmpR op_notN (pv 3) pe_non (nomark _)) (pw_and1 (pt_not (pt_val (pe_has hWithin hr (by decide) (pa_cons (pv 3) (pa_cons pe_int (pa_cons (pe_op op_sub (pv 0) pe_int) pa_nil)))))))))
          (pss_one (ps_ret (pe_tup (pa_cons pe_str (pa_cons (pv 2) pa_nil)))))
          pss_nil)))
      (pss_one (ps_ret pe_non)))), ?_⟩
    walk_at "go"
    refine D.events ?_
    walk_at "go"
    refine ⟨x, t, _, _, rfl, ht, ?_⟩
    cases hz : t.sized 1 16 with
    | false =>
      refine g_bl (g_ift ?_)
      walk_at "go"
      refine g_tup' ?_
      walk_at "go"
      refine ⟨sz (by simp), fun p np => ?_⟩
      refine q2 none ?_ p _ (.new .refl np) upd_same
      unfold rowFault
      rw [hz]; rfl
    | true =>
      refine g_bl (g_iff (g_next ?_))
      cases ht with
      | @tup a xs ss h1 h2 =>
        have hf : rowFault 1 16 (Sh.note c) (.tup ss) = (firstNot (Sh.note c) ss).map some := by
          unfold rowFault
          rw [if_pos hz]
        rw [hf] at q1 q2
        walk_at "go"
        refine g_one'T (K := K) h1 ?_
        refine ForQ.enumT (xs := xs) (fun i σ H' => Nt H H' ∧ (∃ x y, σ = [some (.int c), some (.ref a), x, y]) ∧ ∀ j s', j < i → ss[j]? = some s' → s'.note c = true) ⟨.refl, ⟨_, _, rfl⟩, fun j s' hj => absurd hj (Nat.not_lt_zero _)⟩ ?_ ?_ ?_
        · rintro i σ H1 _ ⟨nt, _⟩
          exact SqT.same h1 nt.same
        · rintro i x T σ H1 hx ⟨nt, ⟨u, v, rfl⟩, hall⟩ nT
          have nt2 : Nt H (upd H1 T (.tup [.int (i : Nat), x])) := .new nt nT
          obtain ⟨sx, hsx, ax⟩ := (h2.same nt2.same).get hx
          have next : sx.note c = true → ∀ j s', j < i + 1 → ss[j]? = some s' → s'.note c = true := fun h j s' hj e => by
            rcases Nat.lt_succ_iff_lt_or_eq.mp hj with z | z
            · exact hall j s' z e
            · subst z; rw [hsx] at e; rw [← Option.some.inj e]; exact h
          refine g_tupg (SqT.of upd_same) rfl ?_
          walk_at "go"
          have hxn : decide (x = V.non) = sx.isNon := by cases ax <;> rfl
          rw [hxn]
          cases hn : sx.isNon with
          | true =>
            walk_at "go"
            exact ⟨nt2, ⟨_, _, rfl⟩, next (by unfold Sh.note; rw [hn]; rfl)⟩
          | false =>
            walk_at "go"
            refine ⟨x, sx, _, _, rfl, ax, ?_⟩
            cases hb : sx.within 0 (c - 1) with
            | true =>
              walk_at "go"
              exact ⟨nt2, ⟨_, _, rfl⟩, next (by unfold Sh.note; rw [hn, hb]; rfl)⟩
            | false =>
              walk_at "go"
              refine g_tup' ?_
              walk_at "go"
              refine ⟨sz (by simp), fun p np => ?_⟩
              refine q2 (some i) ?_ p _ (.new nt2 np) upd_same
              rw [firstNot_some hsx (by unfold Sh.note; rw [hn, hb]; rfl) hall]
              rfl
        · rintro σ H1 ⟨nt, ⟨u, v, rfl⟩, hall⟩
          walk_at "go"
          refine q1 ?_ _ nt
          rw [firstNot_none fun j s' e => hall j s' (by
            rcases Nat.lt_or_ge j ss.length with z | z
            · rw [h2.length]; exact z
            · rw [List.getElem?_eq_none z] at e; exact absurd e (by simp)) e]
          rfl
      | _ => exact absurd (show false = true from hz) (by decide)
theorem sc_bf : FnScope ["many", "bounds", "item", "bound"] ["many", "bounds"] (defScope s_bounds_fault) := ⟨rfl, rfl, rfl, by decide +kernel, rfl, by decide +kernel, by decide +kernel⟩
theorem ok_bf (F : FnT K "bounds_fault" s_bounds_fault f fd) (T : Blt mg) (D : Dia K mg DC) (hTupOf : Has P w K mg base 1 "is_tuple_of" ["value", "low", "high"] (spTupOf K)) (hBound : Has P w K mg base 3 "is_bound" ["value", "many"] (spBound K)) : FnOk P w K mg base CX0 4 f fd ["many", "bounds"] (spRowF K (fun x c => [c, x]) "bounds" 0 60 Sh.bound) := by
  refine F.ok sc_bf (fun vs H Q E h => ?_) (fun cdv A outer s H vs Q E hr h => ?_)
  · obtain ⟨x, t, c, rfl, _⟩ := h
    rfl
  · obtain ⟨x, t, c, rfl, ht, q1, q2⟩ := h
    have sc := sc_bf
    refine ⟨_, PSs.nox (pss_cons (ps_if (pt_not (pt_val (pe_has hTupOf hr (by decide) (pa_cons (pv 1) (pa_cons pe_int (pa_cons (ClX.pe_cval (pe_ref D.at_)) pa_nil))))))
        (pss_one (ps_ret (pe_tup (pa_cons pe_str (pa_cons pe_non pa_nil)))))
        pss_nil)
      (pss_cons (ps_for PassesOwn.never rfl (pi_enumT (by rfl) T.enumerate (pa_cons (pv 1) pa_nil)) (pg_tup rfl (pgs_cons (pg_name (i := 2) sc.nd rfl (Or.inl rfl)) (pgs_cons (pg_name (i := 3) sc.nd rfl (Or.inl rfl)) pgs_nil)))
        (pss_one (ps_if (pt_not (pt_val (pe_has hBound hr (by decide) (pa_cons (pv 3) (pa_cons (pv 0) pa_nil)))))
          (pss_one (ps_ret (pe_tup (pa_cons pe_str (pa_cons (pv 2) pa_nil)))))
          pss_nil)))
      (pss_one (ps_ret pe_non)))), ?_⟩
    walk_at "go"
    refine D.bounds ?_
    walk_at "go"
    refine ⟨x, t, _, _, rfl, ht, ?_⟩
    cases hz : t.sized 0 60 with
    | false =>
      refine g_bl (g_ift ?_)
      walk_at "go"
      refine g_tup' ?_
      walk_at "go"
      refine ⟨sz (by simp), fun p np => ?_⟩
      refine q2 none ?_ p _ (.new .refl np) upd_same
      unfold rowFault
      rw [hz]; rfl
    | true =>
      refine g_bl (g_iff (g_next ?_))
      cases ht with
      | @tup a xs ss h1 h2 =>
        have hf : rowFault 0 60 (Sh.bound c) (.tup ss) = (firstNot (Sh.bound c) ss).map some := by
          unfold rowFault
          rw [if_pos hz]
        rw [hf] at q1 q2
        walk_at "go"
        refine g_one'T (K := K) h1 ?_
        refine ForQ.enumT (xs := xs) (fun i σ H' => Nt H H' ∧ (∃ x y, σ = [some (.int c), some (.ref a), x, y]) ∧ ∀ j s', j < i → ss[j]? = some s' → s'.bound c = true) ⟨.refl, ⟨_, _, rfl⟩, fun j s' hj => absurd hj (Nat.not_lt_zero _)⟩ ?_ ?_ ?_
        · rintro i σ H1 _ ⟨nt, _⟩
          exact SqT.same h1 nt.same
        · rintro i x T σ H1 hx ⟨nt, ⟨u, v, rfl⟩, hall⟩ nT
          have nt2 : Nt H (upd H1 T (.tup [.int (i : Nat), x])) := .new nt nT
          obtain ⟨sx, hsx, ax⟩ := (h2.same nt2.same).get hx
          have next : sx.bound c = true → ∀ j s', j < i + 1 → ss[j]? = some s' → s'.bound c = true := fun h j s' hj e => by
            rcases Nat.lt_succ_iff_lt_or_eq.mp hj with z | z
            · exact hall j s' z e
            · subst z; rw [hsx] at e; rw [← Option.some.inj e]; exact h
          refine g_tupg (SqT.of upd_same) rfl ?_
          walk_at "go"
          refine ⟨x, sx, _, rfl, ax, ?_⟩
          cases hb : sx.bound c with
          | true =>
            walk_at "go"
            exact ⟨nt2, ⟨_, _, rfl⟩, next hb⟩
          | false =>
            walk_at "go"
            refine g_tup' ?_
            walk_at "go"
            refine ⟨sz (by simp), fun p np => ?_⟩
            refine q2 (some i) ?_ p _ (.new nt2 np) upd_same
            rw [firstNot_some hsx hb hall]
            rfl
        · rintro σ H1 ⟨nt, ⟨u, v, rfl⟩, hall⟩
          walk_at "go"
          refine q1 ?_ _ nt
          rw [firstNot_none fun j s' e => hall j s' (by
            rcases Nat.lt_or_ge j ss.length with z | z
            · rw [h2.length]; exact z
            · rw [List.getElem?_eq_none z] at e; exact absurd e (by simp)) e]
          rfl
      | _ => exact absurd (show false = true from hz) (by decide)
theorem sc_df : FnScope ["modulus", "weekdays", "bounds", "fault"] ["modulus", "weekdays", "bounds"] (defScope s_diary_fault) := ⟨rfl, rfl, rfl, by decide +kernel, rfl, by decide +kernel, by decide +kernel⟩
theorem ok_df (F : FnT K "diary_fault" s_diary_fault f fd) (T : Blt mg) (D : Dia K mg DC) (hWithin : Has P w K mg base 2 "is_within" ["value", "low", "high"] (spWithin K)) (hWf : Has P w K mg base 3 "weekdays_fault" ["modulus", "weekdays"] (spRowF K (fun x c => [c, x]) "weekdays" 1 16 Sh.note)) (hBf : Has P w K mg base 4 "bounds_fault" ["many", "bounds"] (spRowF K (fun x c => [c, x]) "bounds" 0 60 Sh.bound)) : FnOk P w K mg base CX0 5 f fd ["modulus", "weekdays", "bounds"] (spDiaryF K) := by
  refine F.ok sc_df (fun vs H Q E h => ?_) (fun cdv A outer s H vs Q E hr h => ?_)
  · obtain ⟨x, y, z, m, w, b, rfl, _⟩ := h
    rfl
  · obtain ⟨x, y, z, m, ws, b, rfl, hx, hy, hz, q1, q2⟩ := h
    have sc := sc_df
    refine ⟨_, PSs.nox (pss_cons (ps_if (pt_not (pt_val (pe_has hWithin hr (by decide) (pa_cons (pv 0) (pa_cons pe_int (pa_cons (ClX.pe_cval (pe_ref D.at_)) pa_nil))))))
        (pss_one (ps_ret (pe_tup (pa_cons pe_str (pa_cons pe_non pa_nil)))))
        pss_nil)
      (pss_cons (ps_set (i := 3) sc.nd rfl (Or.inl rfl) (pe_has hWf hr (by decide) (pa_cons (pv 0) (pa_cons (pv 1) pa_nil))))
      (pss_cons (ps_if (pt_cmpR op_notN (pv 3) pe_non (nomark _))
        (pss_one (ps_ret (pv 3)))
        pss_nil)
      (pss_one (ps_ret (pe_has hBf hr (by decide) (pa_cons (pe_callB call_len_seq (by rfl) T.len PySem.boot_len (pa_cons (pv 1) pa_nil)) (pa_cons (pv 2) pa_nil)))))))), ?_⟩
    walk_at "go"
    refine D.modulus ?_
    walk_at "go"
    refine ⟨x, m, _, _, rfl, hx, ?_⟩
    cases hm : m.within 2 100 with
    | false =>
      refine g_bl (g_ift ?_)
      walk_at "go"
      refine g_tup' ?_
      walk_at "go"
      refine ⟨sz (by simp), fun p np => ?_⟩
      refine q2 "modulus" none ?_ p _ (.new .refl np) upd_same
      unfold diaryFault
      rw [hm]; rfl
    | true =>
      refine g_bl (g_iff (g_next ?_))
      cases hx with
      | int c =>
        rw [diaryFault_int hm] at q1 q2
        walk_at "ex"
        refine ⟨y, ws, c, rfl, hy, fun e H' nt => ?_, fun it e a H' nt ha => ?_⟩
        · cases hy with
          | @tup a xs ss h1 h2 =>
            rw [wordFault_tup e] at q1 q2
            walk_at "go"
            refine g_iffn (g_next ?_)
            walk_at "go"
            refine g_len (K := K) (Or.inr (SqT.same h1 nt.same)) ?_
            rw [h2.length]
            walk_at "go"
            refine ⟨z, b, _, rfl, hz.same nt.same, fun e2 H2 nt2 => ?_, fun it e2 a2 H2 nt2 ha2 => ?_⟩
            · exact q1 (by rw [e2]; rfl) H2 (nt.trans nt2)
            · exact q2 "bounds" it (by rw [e2]; rfl) a2 H2 (nt.trans nt2) ha2
          | _ => exact absurd (show some (none : Option Nat) = none from e) (by simp)
        · rw [wordFault_some e] at q2
          walk_at "go"
          refine g_iftn ?_
          walk_at "go"
          exact q2 "weekdays" it rfl a H' nt ha
      | _ => exact absurd (show false = true from hm) (by decide)
end
end K06
set_option Elab.async false
set_option linter.all false
set_option maxRecDepth 100000
set_option maxHeartbeats 4000000
namespace K06
open PySem PySem.Spec PyProof.Rows L2 WL
local macro_rules | `(tactic| walk_at "side") => `(tactic| first | (show (_ ∧ _) ∨ (_ ∧ _); omega) | (exact ⟨by omega, by omega⟩) | (show (0 : Int) < _; omega) | omega)
local macro_rules | `(tactic| walk_at "go") => `(tactic| (repeat (first
  | with_reducible refine g_seq ?_ | with_reducible refine g_asgN ?_ | with_reducible refine g_ret ?_ | with_reducible refine g_drop ?_ | with_reducible refine g_ifS ?_ | with_reducible refine g_next ?_
  | with_reducible refine g_var rfl ?_ | with_reducible refine g_c ?_ | with_reducible refine g_op ?_ | with_reducible refine g_un ?_ | with_reducible refine g_rI0 ?_ | ((with_reducible refine g_rI ?_ ?_); next => walk_at "side") | with_reducible refine g_test ?_ | with_reducible refine g_bl ?_
  | with_reducible refine g_nil ?_ | with_reducible refine g_cons ?_ | with_reducible refine g_call ?_ | with_reducible refine g_cb ?_ | with_reducible refine g_if ?_ | with_reducible refine g_par ?_ | with_reducible refine g_two ?_
  | with_reducible refine g_asg ?_ | with_reducible refine g_name ?_ | with_reducible refine g_sub ?_ | with_reducible refine g_yes ?_ | with_reducible refine g_gcons ?_ | with_reducible refine g_gnil ?_ | with_reducible refine g_dget ?_ | with_reducible refine g_dput ?_ | with_reducible refine g_rng1 ?_ | with_reducible refine g_rng2 ?_
  | ((with_reducible refine g_one ?_ ?_); next => omega) | ((with_reducible refine g_twoI ?_ ?_); next => omega) | with_reducible refine g_isNon ?_ | with_reducible refine g_andV ?_ | with_reducible refine g_revT ?_ | with_reducible refine g_itup ?_ | with_reducible refine g_methK0 ?_ | with_reducible refine g_methS ?_ | with_reducible refine g_errF ?_ | with_reducible refine g_prop ?_ | with_reducible refine g_con ?_ | with_reducible refine g_make ?_ | with_reducible refine g_fld ?_ | with_reducible refine g_sfld ?_ | with_reducible refine g_iftn ?_ | with_reducible refine g_iffn ?_ | with_reducible refine g_orV ?_ | with_reducible refine g_notV ?_ | with_reducible refine g_tB ?_ | with_reducible refine g_chain ?_ | with_reducible refine g_neg ?_ | with_reducible refine g_cval ?_ | with_reducible refine g_enumT ?_ | with_reducible refine g_andT ?_ | with_reducible refine g_orT ?_ | with_reducible refine g_notT ?_ | with_reducible refine g_sl ?_ | with_reducible refine g_part ?_ | with_reducible refine g_parI ?_ | with_reducible refine g_noPart ?_ | with_reducible refine g_pcons ?_ | with_reducible refine g_pnil ?_ | with_reducible refine g_list ?_ | with_reducible refine g_lc ?_ | with_reducible refine g_for ?_ | with_reducible refine g_enum ?_ | with_reducible refine g_ift ?_ | with_reducible refine g_iff ?_ | with_reducible refine And.intro rfl ?_ | with_reducible refine g_notNon ?_)))
local macro_rules | `(tactic| walk_at "ex") => `(tactic| (repeat (first
  | with_reducible refine g_seqAsg ?_ | with_reducible refine g_seqFld ?_ | with_reducible refine g_seqDrop ?_ | with_reducible refine g_seqPut ?_ | with_reducible refine g_seqPar ?_ | with_reducible refine g_asgN ?_ | with_reducible refine g_ret ?_ | with_reducible refine g_drop ?_ | with_reducible refine g_next ?_
  | with_reducible refine g_var rfl ?_ | with_reducible refine g_c ?_ | with_reducible refine g_op ?_ | with_reducible refine g_un ?_ | with_reducible refine g_rI0 ?_ | ((with_reducible refine g_rI ?_ ?_); next => walk_at "side") | with_reducible refine g_test ?_ | with_reducible refine g_bl ?_
  | with_reducible refine g_nil ?_ | with_reducible refine g_cons ?_ | with_reducible refine g_call ?_ | with_reducible refine g_cb ?_ | with_reducible refine g_if ?_ | with_reducible refine g_par ?_ | with_reducible refine g_two ?_
  | with_reducible refine g_asg ?_ | with_reducible refine g_name ?_ | with_reducible refine g_sub ?_ | with_reducible refine g_yes ?_ | with_reducible refine g_gcons ?_ | with_reducible refine g_gnil ?_ | with_reducible refine g_dget ?_ | with_reducible refine g_dput ?_ | with_reducible refine g_rng1 ?_ | with_reducible refine g_rng2 ?_
  | ((with_reducible refine g_one ?_ ?_); next => omega) | ((with_reducible refine g_twoI ?_ ?_); next => omega) | with_reducible refine g_isNon ?_ | with_reducible refine g_andV ?_ | with_reducible refine g_revT ?_ | with_reducible refine g_itup ?_ | with_reducible refine g_methK0 ?_ | with_reducible refine g_methS ?_ | with_reducible refine g_errF ?_ | with_reducible refine g_prop ?_ | with_reducible refine g_con ?_ | with_reducible refine g_make ?_ | with_reducible refine g_fld ?_ | with_reducible refine g_sfld ?_ | with_reducible refine g_iftn ?_ | with_reducible refine g_iffn ?_ | with_reducible refine g_orV ?_ | with_reducible refine g_notV ?_ | with_reducible refine g_tB ?_ | with_reducible refine g_chain ?_ | with_reducible refine g_neg ?_ | with_reducible refine g_cval ?_ | with_reducible refine g_enumT ?_ | with_reducible refine g_proj ?_ | with_reducible refine g_andT ?_ | with_reducible refine g_orT ?_ | with_reducible refine g_notT ?_ | with_reducible refine g_sl ?_ | with_reducible refine g_part ?_ | with_reducible refine g_parI ?_ | with_reducible refine g_noPart ?_ | with_reducible refine g_pcons ?_ | with_reducible refine g_pnil ?_ | with_reducible refine g_list ?_ | with_reducible refine g_lc ?_ | with_reducible refine g_enum ?_ | with_reducible refine g_ift ?_ | with_reducible refine g_iff ?_ | with_reducible refine And.intro rfl ?_ | with_reducible refine g_notNon ?_)))
section
variable {P : Program} {w : World} {K : PySem.W.Frag} {mg : Str → Option Value} {base : Heap} {f : Addr} {fd : FuncData} {DC : Addr}
abbrev FnM (K : PySem.W.Frag) (x q : Str) (st : Stmt) (f : Addr) (fd : FuncData) : Prop := FunD K x q (defArgs st) (defBody st) (defScope st) [] [] f fd
theorem sc_dinit : FnScope ["self", "modulus", "weekdays", "bounds", "fault", "part", "item"] ["self", "modulus", "weekdays", "bounds"] (defScope s_Diary_init) := ⟨rfl, rfl, rfl, by decide +kernel, rfl, by decide +kernel, by decide +kernel⟩
theorem ok_dinit (F : FnM K "__init__" "Diary.__init__" s_Diary_init f fd) (O : DiaO K DC) (hDf : Has P w K mg base 5 "diary_fault" ["modulus", "weekdays", "bounds"] (spDiaryF K)) : FnOk P w K mg base CX0 6 f fd ["self", "modulus", "weekdays", "bounds"] (spDInit K DC) := by
  refine F.ok sc_dinit (fun vs H Q E h => ?_) (fun cdv A outer s H vs Q E hr h => ?_)
  · obtain ⟨a, dx, x, y, z, m, w, b, rfl, _⟩ := h
    rfl
  · obtain ⟨a, dx, x, y, z, m, ws, b, rfl, ha, hx, hy, hz, hf, q⟩ := h
    have sc := sc_dinit
    refine ⟨_, PSs.nox (pss_cons (ps_set (i := 4) sc.nd rfl (Or.inl rfl) (pe_has hDf hr (by decide) (pa_cons (pv 1) (pa_cons (pv 2) (pa_cons (pv 3) pa_nil)))))
      (pss_cons (ps_if (pt_cmpR op_notN (pv 4) pe_non (nomark _))
        (pss_cons ps_no (pss_one ps_no))
        pss_nil)
      (pss_cons (ps_fld (pv 0) (pv 1) rfl)
      (pss_cons (ps_fld (pv 0) (pv 2) rfl)
      (pss_one (ps_fld (pv 0) (pv 3) rfl)))))), ?_⟩
    walk_at "go"
    refine ⟨x, y, z, m, ws, b, rfl, hx, hy, hz, fun _ H1 nt => ?_, fun word it e => by rw [hf] at e; exact absurd e (by simp)⟩
    walk_at "go"
    refine g_iffn (g_next ?_)
    have h1 := nt.same _ _ ha
    walk_at "go"
    refine g_put O.cls O.n1 h1 (by simp) ?_
    walk_at "go"
    refine g_put O.cls O.n2 upd_same (by show 1 < 1000; decide) ?_
    walk_at "go"
    refine g_put O.cls O.n3 upd_same (by show 2 < 1000; decide) ?_
    walk_at "go"
    refine q _ (by rw [upd_same]; rfl) fun b o e h => ?_
    rw [upd_ne e, upd_ne e, upd_ne e]
    exact nt.same _ _ h
theorem sc_dmod : FnScope ["self"] ["self"] (defScope s_Diary_modulus) := ⟨rfl, rfl, rfl, by decide +kernel, rfl, by decide +kernel, by decide +kernel⟩
theorem ok_dmod (F : FnM K "modulus" "Diary.modulus" s_Diary_modulus f fd) (O : DiaO K DC) : FnOk P w K mg base CX0 1 f fd ["self"] (spGetF DC "_modulus") := by
  refine F.ok sc_dmod (fun vs H Q E h => ?_) (fun cdv A outer s H vs Q E hr h => ?_)
  · obtain ⟨a, dx, fs, v, rfl, _⟩ := h
    rfl
  · obtain ⟨a, dx, fs, v, rfl, ha, hv, q⟩ := h
    have sc := sc_dmod
    refine ⟨_, PSs.nox (pss_one (ps_ret (pe_fld (pv 0) rfl))), ?_⟩
    walk_at "go"
    exact ⟨a, DC, dx, fs, v, rfl, ha, O.cls, O.n1, hv, q⟩
theorem sc_dwds : FnScope ["self"] ["self"] (defScope s_Diary_weekdays) := ⟨rfl, rfl, rfl, by decide +kernel, rfl, by decide +kernel, by decide +kernel⟩
theorem ok_dwds (F : FnM K "weekdays" "Diary.weekdays" s_Diary_weekdays f fd) (O : DiaO K DC) : FnOk P w K mg base CX0 1 f fd ["self"] (spGetF DC "_weekdays") := by
  refine F.ok sc_dwds (fun vs H Q E h => ?_) (fun cdv A outer s H vs Q E hr h => ?_)
  · obtain ⟨a, dx, fs, v, rfl, _⟩ := h
    rfl
  · obtain ⟨a, dx, fs, v, rfl, ha, hv, q⟩ := h
    have sc := sc_dwds
    refine ⟨_, PSs.nox (pss_one (ps_ret (pe_fld (pv 0) rfl))), ?_⟩
    walk_at "go"
    exact ⟨a, DC, dx, fs, v, rfl, ha, O.cls, O.n2, hv, q⟩
theorem sc_dbds : FnScope ["self"] ["self"] (defScope s_Diary_bounds) := ⟨rfl, rfl, rfl, by decide +kernel, rfl, by decide +kernel, by decide +kernel⟩
theorem ok_dbds (F : FnM K "bounds" "Diary.bounds" s_Diary_bounds f fd) (O : DiaO K DC) : FnOk P w K mg base CX0 1 f fd ["self"] (spGetF DC "_bounds") := by
  refine F.ok sc_dbds (fun vs H Q E h => ?_) (fun cdv A outer s H vs Q E hr h => ?_)
  · obtain ⟨a, dx, fs, v, rfl, _⟩ := h
    rfl
  · obtain ⟨a, dx, fs, v, rfl, ha, hv, q⟩ := h
    have sc := sc_dbds
    refine ⟨_, PSs.nox (pss_one (ps_ret (pe_fld (pv 0) rfl))), ?_⟩
    walk_at "go"
    exact ⟨a, DC, dx, fs, v, rfl, ha, O.cls, O.n3, hv, q⟩
end
end K06
set_option Elab.async false
set_option linter.all false
set_option maxRecDepth 100000
set_option maxHeartbeats 4000000
namespace K06
open PySem PySem.Spec PyProof.Rows L2 WL
local macro_rules | `(tactic| walk_at "side") => `(tactic| first | (show (_ ∧ _) ∨ (_ ∧ _); omega) | (exact ⟨by omega, by omega⟩) | (show (0 : Int) < _; omega) | omega)
local macro_rules | `(tactic| walk_at "go") => `(tactic| (repeat (first
  | with_reducible refine g_seq ?_ | with_reducible refine g_asgN ?_ | with_reducible refine g_ret ?_ | with_reducible refine g_drop ?_ | with_reducible refine g_ifS ?_ | with_reducible refine g_next ?_
  | with_reducible refine g_var rfl ?_ | with_reducible refine g_c ?_ | with_reducible refine g_op ?_ | with_reducible refine g_un ?_ | with_reducible refine g_rI0 ?_ | ((with_reducible refine g_rI ?_ ?_); next => walk_at "side") | with_reducible refine g_test ?_ | with_reducible refine g_bl ?_
  | with_reducible refine g_nil ?_ | with_reducible refine g_cons ?_ | with_reducible refine g_call ?_ | with_reducible refine g_cb ?_ | with_reducible refine g_if ?_ | with_reducible refine g_par ?_ | with_reducible refine g_two ?_
  | with_reducible refine g_asg ?_ | with_reducible refine g_name ?_ | with_reducible refine g_sub ?_ | with_reducible refine g_yes ?_ | with_reducible refine g_gcons ?_ | with_reducible refine g_gnil ?_ | with_reducible refine g_dget ?_ | with_reducible refine g_dput ?_ | with_reducible refine g_rng1 ?_ | with_reducible refine g_rng2 ?_
  | ((with_reducible refine g_one ?_ ?_); next => omega) | ((with_reducible refine g_twoI ?_ ?_); next => omega) | with_reducible refine g_isNon ?_ | with_reducible refine g_andV ?_ | with_reducible refine g_revT ?_ | with_reducible refine g_itup ?_ | with_reducible refine g_methK0 ?_ | with_reducible refine g_methS ?_ | with_reducible refine g_errF ?_ | with_reducible refine g_prop ?_ | with_reducible refine g_con ?_ | with_reducible refine g_make ?_ | with_reducible refine g_fld ?_ | with_reducible refine g_sfld ?_ | with_reducible refine g_iftn ?_ | with_reducible refine g_iffn ?_ | with_reducible refine g_orV ?_ | with_reducible refine g_notV ?_ | with_reducible refine g_tB ?_ | with_reducible refine g_chain ?_ | with_reducible refine g_neg ?_ | with_reducible refine g_cval ?_ | with_reducible refine g_enumT ?_ | with_reducible refine g_andT ?_ | with_reducible refine g_orT ?_ | with_reducible refine g_notT ?_ | with_reducible refine g_sl ?_ | with_reducible refine g_part ?_ | with_reducible refine g_parI ?_ | with_reducible refine g_noPart ?_ | with_reducible refine g_pcons ?_ | with_reducible refine g_pnil ?_ | with_reducible refine g_list ?_ | with_reducible refine g_lc ?_ | with_reducible refine g_for ?_ | with_reducible refine g_enum ?_ | with_reducible refine g_ift ?_ | with_reducible refine g_iff ?_ | with_reducible refine And.intro rfl ?_ | with_reducible refine g_notNon ?_)))
local macro_rules | `(tactic| walk_at "ex") => `(tactic| (repeat (first
  | with_reducible refine g_seqAsg ?_ | with_reducible refine g_seqFld ?_ | with_reducible refine g_seqDrop ?_ | with_reducible refine g_seqPut ?_ | with_reducible refine g_seqPar ?_ | with_reducible refine g_asgN ?_ | with_reducible refine g_ret ?_ | with_reducible refine g_drop ?_ | with_reducible refine g_next ?_
  | with_reducible refine g_var rfl ?_ | with_reducible refine g_c ?_ | with_reducible refine g_op ?_ | with_reducible refine g_un ?_ | with_reducible refine g_rI0 ?_ | ((with_reducible refine g_rI ?_ ?_); next => walk_at "side") | with_reducible refine g_test ?_ | with_reducible refine g_bl ?_
  | with_reducible refine g_nil ?_ | with_reducible refine g_cons ?_ | with_reducible refine g_call ?_ | with_reducible refine g_cb ?_ | with_reducible refine g_if ?_ | with_reducible refine g_par ?_ | with_reducible refine g_two ?_
  | with_reducible refine g_asg ?_ | with_reducible refine g_name ?_ | with_reducible refine g_sub ?_ | with_reducible refine g_yes ?_ | with_reducible refine g_gcons ?_ | with_reducible refine g_gnil ?_ | with_reducible refine g_dget ?_ | with_reducible refine g_dput ?_ | with_reducible refine g_rng1 ?_ | with_reducible refine g_rng2 ?_
  | ((with_reducible refine g_one ?_ ?_); next => omega) | ((with_reducible refine g_twoI ?_ ?_); next => omega) | with_reducible refine g_isNon ?_ | with_reducible refine g_andV ?_ | with_reducible refine g_revT ?_ | with_reducible refine g_itup ?_ | with_reducible refine g_methK0 ?_ | with_reducible refine g_methS ?_ | with_reducible refine g_errF ?_ | with_reducible refine g_prop ?_ | with_reducible refine g_con ?_ | with_reducible refine g_make ?_ | with_reducible refine g_fld ?_ | with_reducible refine g_sfld ?_ | with_reducible refine g_iftn ?_ | with_reducible refine g_iffn ?_ | with_reducible refine g_orV ?_ | with_reducible refine g_notV ?_ | with_reducible refine g_tB ?_ | with_reducible refine g_chain ?_ | with_reducible refine g_neg ?_ | with_reducible refine g_cval ?_ | with_reducible refine g_enumT ?_ | with_reducible refine g_proj ?_ | with_reducible refine g_andT ?_ | with_reducible refine g_orT ?_ | with_reducible refine g_notT ?_ | with_reducible refine g_sl ?_ | with_reducible refine g_part ?_ | with_reducible refine g_parI ?_ | with_reducible refine g_noPart ?_ | with_reducible refine g_pcons ?_ | with_reducible refine g_pnil ?_ | with_reducible refine g_list ?_ | with_reducible refine g_lc ?_ | with_reducible refine g_enum ?_ | with_reducible refine g_ift ?_ | with_reducible refine g_iff ?_ | with_reducible refine And.intro rfl ?_ | with_reducible refine g_notNon ?_)))
section
variable {P : Program} {w : World} {K : PySem.W.Frag} {mg : Str → Option Value} {base : Heap} {f : Addr} {fd : FuncData} {DC IE : Addr}
theorem sc_dlen : FnScope ["self"] ["self"] (defScope s_Diary_len) := ⟨rfl, rfl, rfl, by decide +kernel, rfl, by decide +kernel, by decide +kernel⟩
theorem ok_dlen (F : FnM K "__len__" "Diary.__len__" s_Diary_len f fd) (T : Blt mg) (O : DiaO K DC) : FnOk P w K mg base CX0 1 f fd ["self"] (spDLen DC K) := by
  refine F.ok sc_dlen (fun vs H Q E h => ?_) (fun cdv A outer s H vs Q E hr h => ?_)
  · obtain ⟨a, dx, x, z, wa, ws, rfl, _⟩ := h
    rfl
  · obtain ⟨a, dx, x, z, wa, ws, rfl, ha, hw, q⟩ := h
    have sc := sc_dlen
    refine ⟨_, PSs.nox (pss_one (ps_ret (pe_callB call_len_seq (by rfl) T.len PySem.boot_len (pa_cons (pe_fld (pv 0) rfl) pa_nil)))), ?_⟩
    walk_at "go"
    refine g_f2 O ha ?_
    walk_at "go"
    exact g_len (K := K) (Or.inr hw) q
theorem sc_deq : FnScope ["self", "other"] ["self", "other"] (defScope s_Diary_eq) := ⟨rfl, rfl, rfl, by decide +kernel, rfl, by decide +kernel, by decide +kernel⟩
theorem ok_deq (F : FnM K "__eq__" "Diary.__eq__" s_Diary_eq f fd) (T : Blt mg) (O : DiaO K DC) (D : Dia K mg DC) : FnOk P w K mg base CX0 1 f fd ["self", "other"] (spDEq K DC) := by
  refine F.ok sc_deq (fun vs H Q E h => ?_) (fun cdv A outer s H vs Q E hr h => ?_)
  · obtain ⟨v, x, c, ns, ls, rfl, _⟩ := h
    rfl
  · obtain ⟨v, x, c, ns, ls, rfl, ⟨a, dx, wv, bv, rfl, ha, hn, hl⟩, q⟩ := h
    have sc := sc_deq
    have hu := hr.units
    refine ⟨_, PSs.nox (pss_one (ps_ret (pe_and (pe_callB call_isi (by rfl) T.isinstance (by decide +kernel) (pa_cons (pv 1) (pa_cons (pe_ref D.at_) pa_nil))) (pe_and (pe_cmpR (op_eqD hu) (pe_fld (pv 0) rfl) (pe_fld (pv 1) rfl) (nomark _)) (pe_and (pe_cmpR (op_eqD hu) (pe_fld (pv 0) rfl) (pe_fld (pv 1) rfl) (nomark _)) (pe_one (pe_cmpR (op_eqD hu) (pe_fld (pv 0) rfl) (pe_fld (pv 1) rfl) (nomark _)))))))), ?_⟩
    walk_at "go"
    rcases q with ⟨c2, ns2, ls2, ⟨a2, dx2, wv2, bv2, rfl, ha2, hn2, hl2⟩, q⟩ | ⟨s2, hs2, q⟩
    · refine ⟨_, _, _, _, true, rfl, .own DC, O.ty ha2, O.same, ?_⟩
      refine g_bl (g_ift ?_)
      walk_at "go"
      refine g_f1 O ha ?_
      walk_at "go"
      refine g_f1 O ha2 ?_
      refine g_eqD (K := K) (.int c) (.int c2) rfl rfl ?_
      rw [PyData.eqv.eq_5]
      by_cases e1 : c = c2
      · subst e1
        rw [show (c == c) = true by simp]
        refine g_bl (g_ift ?_)
        walk_at "go"
        refine g_f2 O ha ?_
        walk_at "go"
        refine g_f2 O ha2 ?_
        refine g_eqD (K := K) hn.dp hn2.dp (pl_shaped (pl_notes _) (by decide)) (pl_shaped (pl_notes _) (by decide)) ?_
        cases hb : (notesD ns).eqv (notesD ns2) with
        | false =>
          refine g_bl (g_iff (q false ⟨fun h => by simp at h, fun h => ?_⟩))
          rw [← h.2.1, (pl_eqv (pl_notes _) (pl_notes _)).mpr rfl] at hb
          exact hb.symm
        | true =>
          have e2 := notesD_inj ((pl_eqv (pl_notes _) (pl_notes _)).mp hb)
          refine g_bl (g_ift ?_)
          walk_at "go"
          refine g_f3 O ha ?_
          walk_at "go"
          refine g_f3 O ha2 ?_
          refine g_eqD (K := K) hl.dp hl2.dp (pl_shaped (pl_lines _) (by decide)) (pl_shaped (pl_lines _) (by decide)) ?_
          refine q _ ⟨fun h => ⟨rfl, e2, linesD_inj ((pl_eqv (pl_lines _) (pl_lines _)).mp h)⟩, fun h => ?_⟩
          rw [h.2.2]
          exact (pl_eqv (pl_lines _) (pl_lines _)).mpr rfl
      · rw [show (c == c2) = false by simpa using e1]
        exact g_bl (g_iff (q false ⟨fun h => by simp at h, fun h => absurd h.1 e1⟩))
    · exact ⟨_, _, _, _, false, rfl, .own DC, hs2.ty, O.other s2, g_bl (g_iff q)⟩
theorem sc_need : FnScope ["self", "event"] ["self", "event"] (defScope s_Diary_need_event) := ⟨rfl, rfl, rfl, by decide +kernel, rfl, by decide +kernel, by decide +kernel⟩
theorem ok_need (F : FnM K "need_event" "Diary.need_event" s_Diary_need_event f fd) (T : Blt mg) (O : DiaO K DC) (X : EvX P K mg IE) (hWithin : Has P w K mg base 2 "is_within" ["value", "low", "high"] (spWithin K)) : FnOk P w K mg base (CX P w) 3 f fd ["self", "event"] (spNeed K DC IE) := by
  refine F.ok sc_need (fun vs H Q E h => ?_) (fun cdv A outer s H vs Q E hr h => ?_)
  · obtain ⟨a, dx, x, z, y, wa, ws, s, rfl, _⟩ := h
    rfl
  · obtain ⟨a, dx, x, z, y, wa, ws, s, rfl, ha, hw, hs, q1, q2⟩ := h
    have sc := sc_need
    obtain ⟨fI, fdI, xT, xI, xb⟩ := X.ex
    refine ⟨_, pss_one (ps_if (pt_not (pt_val (pe_has hWithin hr (by decide) (pa_cons (pv 1) (pa_cons pe_int (pa_cons (pe_op op_sub (pe_callB call_len_seq (by rfl) T.len PySem.boot_len (pa_cons (pe_fld (pv 0) rfl) pa_nil)) pe_int) pa_nil))))))
      (pss_one (ps_raise rfl (takes_of rfl rfl rfl rfl) (pmk_ex xT xI hr X.at_ (by decide) (by decide) xb (pa_cons (pv 1) pa_nil))))
      pss_nil), ?_⟩
    walk_at "go"
    refine g_f2 O ha ?_
    walk_at "go"
    refine g_len (K := K) (Or.inr hw) ?_
    walk_at "go"
    refine ⟨y, s, _, _, rfl, hs, ?_⟩
    cases hb : s.within 0 ((ws.length : Int) - 1) with
    | true =>
      walk_at "go"
      exact q1 hb
    | false =>
      walk_at "go"
      refine g_mkex ?_
      walk_at "go"
      exact ⟨y, rfl, q2 hb⟩
end
end K06
set_option Elab.async false
set_option linter.all false
set_option maxRecDepth 100000
set_option maxHeartbeats 4000000
namespace K06
open PySem PySem.Spec PyProof.Rows L2 WL
local macro_rules | `(tactic| walk_at "side") => `(tactic| first | (show (_ ∧ _) ∨ (_ ∧ _); omega) | (exact ⟨by omega, by omega⟩) | (show (0 : Int) < _; omega) | omega)
local macro_rules | `(tactic| walk_at "go") => `(tactic| (repeat (first
  | with_reducible refine g_seq ?_ | with_reducible refine g_asgN ?_ | with_reducible refine g_ret ?_ | with_reducible refine g_drop ?_ | with_reducible refine g_ifS ?_ | with_reducible refine g_next ?_
  | with_reducible refine g_var rfl ?_ | with_reducible refine g_c ?_ | with_reducible refine g_op ?_ | with_reducible refine g_un ?_ | with_reducible refine g_rI0 ?_ | ((with_reducible refine g_rI ?_ ?_); next => walk_at "side") | with_reducible refine g_test ?_ | with_reducible refine g_bl ?_
  | with_reducible refine g_nil ?_ | with_reducible refine g_cons ?_ | with_reducible refine g_call ?_ | with_reducible refine g_cb ?_ | with_reducible refine g_if ?_ | with_reducible refine g_par ?_ | with_reducible refine g_two ?_
  | with_reducible refine g_asg ?_ | with_reducible refine g_name ?_ | with_reducible refine g_sub ?_ | with_reducible refine g_yes ?_ | with_reducible refine g_gcons ?_ | with_reducible refine g_gnil ?_ | with_reducible refine g_dget ?_ | with_reducible refine g_dput ?_ | with_reducible refine g_rng1 ?_ | with_reducible refine g_rng2 ?_
  | ((with_reducible refine g_one ?_ ?_); next => omega) | ((with_reducible refine g_twoI ?_ ?_); next => omega) | with_reducible refine g_isNon ?_ | with_reducible refine g_andV ?_ | with_reducible refine g_revT ?_ | with_reducible refine g_itup ?_ | with_reducible refine g_methK0 ?_ | with_reducible refine g_methS ?_ | with_reducible refine g_errF ?_ | with_reducible refine g_prop ?_ | with_reducible refine g_con ?_ | with_reducible refine g_make ?_ | with_reducible refine g_fld ?_ | with_reducible refine g_sfld ?_ | with_reducible refine g_iftn ?_ | with_reducible refine g_iffn ?_ | with_reducible refine g_orV ?_ | with_reducible refine g_notV ?_ | with_reducible refine g_tB ?_ | with_reducible refine g_chain ?_ | with_reducible refine g_neg ?_ | with_reducible refine g_cval ?_ | with_reducible refine g_enumT ?_ | with_reducible refine g_andT ?_ | with_reducible refine g_orT ?_ | with_reducible refine g_notT ?_ | with_reducible refine g_sl ?_ | with_reducible refine g_part ?_ | with_reducible refine g_parI ?_ | with_reducible refine g_noPart ?_ | with_reducible refine g_pcons ?_ | with_reducible refine g_pnil ?_ | with_reducible refine g_list ?_ | with_reducible refine g_lc ?_ | with_reducible refine g_for ?_ | with_reducible refine g_enum ?_ | with_reducible refine g_ift ?_ | with_reducible refine g_iff ?_ | with_reducible refine And.intro rfl ?_ | with_reducible refine g_notNon ?_)))
local macro_rules | `(tactic| walk_at "ex") => `(tactic| (repeat (first
  | with_reducible refine g_seqAsg ?_ | with_reducible refine g_seqFld ?_ | with_reducible refine g_seqDrop ?_ | with_reducible refine g_seqPut ?_ | with_reducible refine g_seqPar ?_ | with_reducible refine g_asgN ?_ | with_reducible refine g_ret ?_ | with_reducible refine g_drop ?_ | with_reducible refine g_next ?_
  | with_reducible refine g_var rfl ?_ | with_reducible refine g_c ?_ | with_reducible refine g_op ?_ | with_reducible refine g_un ?_ | with_reducible refine g_rI0 ?_ | ((with_reducible refine g_rI ?_ ?_); next => walk_at "side") | with_reducible refine g_test ?_ | with_reducible refine g_bl ?_
  | with_reducible refine g_nil ?_ | with_reducible refine g_cons ?_ | with_reducible refine g_call ?_ | with_reducible refine g_cb ?_ | with_reducible refine g_if ?_ | with_reducible refine g_par ?_ | with_reducible refine g_two ?_
  | with_reducible refine g_asg ?_ | with_reducible refine g_name ?_ | with_reducible refine g_sub ?_ | with_reducible refine g_yes ?_ | with_reducible refine g_gcons ?_ | with_reducible refine g_gnil ?_ | with_reducible refine g_dget ?_ | with_reducible refine g_dput ?_ | with_reducible refine g_rng1 ?_ | with_reducible refine g_rng2 ?_
  | ((with_reducible refine g_one ?_ ?_); next => omega) | ((with_reducible refine g_twoI ?_ ?_); next => omega) | with_reducible refine g_isNon ?_ | with_reducible refine g_andV ?_ | with_reducible refine g_revT ?_ | with_reducible refine g_itup ?_ | with_reducible refine g_methK0 ?_ | with_reducible refine g_methS ?_ | with_reducible refine g_errF ?_ | with_reducible refine g_prop ?_ | with_reducible refine g_con ?_ | with_reducible refine g_make ?_ | with_reducible refine g_fld ?_ | with_reducible refine g_sfld ?_ | with_reducible refine g_iftn ?_ | with_reducible refine g_iffn ?_ | with_reducible refine g_orV ?_ | with_reducible refine g_notV ?_ | with_reducible refine g_tB ?_ | with_reducible refine g_chain ?_ | with_reducible refine g_neg ?_ | with_reducible refine g_cval ?_ | with_reducible refine g_enumT ?_ | with_reducible refine g_proj ?_ | with_reducible refine g_andT ?_ | with_reducible refine g_orT ?_ | with_reducible refine g_notT ?_ | with_reducible refine g_sl ?_ | with_reducible refine g_part ?_ | with_reducible refine g_parI ?_ | with_reducible refine g_noPart ?_ | with_reducible refine g_pcons ?_ | with_reducible refine g_pnil ?_ | with_reducible refine g_list ?_ | with_reducible refine g_lc ?_ | with_reducible refine g_enum ?_ | with_reducible refine g_ift ?_ | with_reducible refine g_iff ?_ | with_reducible refine And.intro rfl ?_ | with_reducible refine g_notNon ?_)))
/-! ### days of a diary, any value -/
def Sh.days (n : Nat) (s : Sh) : Bool := s.sized n n && (match s with
  | .tup ss => ss.all Sh.isInt
  | _ => false)
def wbad (c : Int) (ns : List (Option Int)) (is : List Int) (n : Nat) : Bool := match ns[n]?, is[n]? with
  | some (some w), some x => !decide (x % c = w)
  | _, _ => false
def bbad (ls : List (Int × Int × Int)) (is : List Int) (n : Nat) : Bool := match ls[n]? with
  | some l => decide (l.2.2 < (is[l.2.1.toNat]?).getD 0 - (is[l.1.toNat]?).getD 0)
  | none => false
def wFault (c : Int) (ns : List (Option Int)) (is : List Int) : Option Nat := (List.range ns.length).find? (wbad c ns is)
def bFault (ls : List (Int × Int × Int)) (is : List Int) : Option Nat := (List.range ls.length).find? (bbad ls is)
theorem first_some {p : Nat → Bool} {n i : Nat} (hi : i < n) (h : p i = true) (ha : ∀ j, j < i → p j = false) : (List.range n).find? p = some i := by
  rw [List.find?_range_eq_some]
  exact ⟨h, List.mem_range.mpr hi, fun j hj => by rw [ha j hj]; rfl⟩
theorem first_none {p : Nat → Bool} {n : Nat} (ha : ∀ j, j < n → p j = false) : (List.range n).find? p = none := by
  rw [List.find?_eq_none]
  intro j hj
  rw [ha j (List.mem_range.mp hj)]
  decide
def intsOf (s : Sh) : List Int := match s with
  | .tup ss => ss.map fun
    | .int i => i
    | _ => 0
  | _ => []
/-- the word and the item of what is wrong first -/
def due (c : Int) (ns : List (Option Int)) (ls : List (Int × Int × Int)) (s : Sh) : Option (Str × Option Nat) :=
  if Sh.days ns.length s = true then
    match wFault c ns (intsOf s) with
    | some n => some ("weekday", some n)
    | none => (bFault ls (intsOf s)).map fun n => ("bound", some n)
  else some ("form", none)
theorem ints_all {K : PySem.W.Frag} {H : Hp} : ∀ {xs : List V} {ss : List Sh}, AnSs K H xs ss → ss.all Sh.isInt = true → ∃ is : List Int, xs = is.map V.int ∧ ss = is.map Sh.int
  | _, _, .nil, _ => ⟨[], rfl, rfl⟩
  | _, _, .cons h t, e => by
    rw [List.all_cons, Bool.and_eq_true] at e
    obtain ⟨is, rfl, rfl⟩ := ints_all t e.2
    cases h with
    | int i => exact ⟨i :: is, rfl, rfl⟩
    | _ => exact absurd e.1 (by simp [Sh.isInt])
theorem intsOf_tup (is : List Int) : intsOf (.tup (is.map Sh.int)) = is := by
  show (is.map Sh.int).map _ = is
  rw [List.map_map]
  exact List.map_id' is
theorem days_inv {K : PySem.W.Frag} {H : Hp} {x : V} {s : Sh} {n : Nat} (h : AnS K H x s) (e : Sh.days n s = true) : ∃ (t : Addr) (is : List Int), x = .ref t ∧ SqT K H t (is.map V.int) ∧ is.length = n ∧ s = .tup (is.map Sh.int) := by
  unfold Sh.days at e
  rw [Bool.and_eq_true] at e
  cases h with
  | tup h t =>
    obtain ⟨is, rfl, rfl⟩ := ints_all t e.2
    refine ⟨_, is, rfl, h, ?_, rfl⟩
    have z : (decide ((n : Int) ≤ ((is.map Sh.int).length : Int)) && decide (((is.map Sh.int).length : Int) ≤ n)) = true := e.1
    rw [Bool.and_eq_true, decide_eq_true_eq, decide_eq_true_eq, List.length_map] at z
    omega
  | _ => exact absurd e.2 (by simp)
def spDaysX (K : PySem.W.Frag) (DC : Addr) : Sp := fun vs H Q _ => ∃ (v x : V) (s : Sh) (c : Int) (ns : List (Option Int)) (ls : List (Int × Int × Int)), vs = [v, x] ∧ DiaAt DC H v c ns ls ∧ AnS K H x s ∧ ns.length ≤ 16 ∧
  ∀ H', (∀ b o, H b = some o → H' b = some o) → Q (.bl (Sh.days ns.length s)) H'
def spFaultX (K : PySem.W.Frag) (DC : Addr) (r : Int → List (Option Int) → List (Int × Int × Int) → List Int → Option Nat) : Sp := fun vs H Q _ => ∃ (v : V) (t : Addr) (c w : Int) (ns : List (Option Int)) (ls : List (Int × Int × Int)) (is : List Int), vs = [v, .ref t] ∧ DiaAt DC H v c ns ls ∧ DOK c ns ls w ∧ SqT K H t (is.map V.int) ∧ is.length = ns.length ∧
  ∀ (o : Option Nat) H', r c ns ls is = o → (∀ b o, H b = some o → H' b = some o) → Q (itemV o) H'
def spDayF (K : PySem.W.Frag) (DC : Addr) : Sp := fun vs H Q _ => ∃ (v x : V) (s : Sh) (c w : Int) (ns : List (Option Int)) (ls : List (Int × Int × Int)), vs = [v, x] ∧ DiaAt DC H v c ns ls ∧ DOK c ns ls w ∧ AnS K H x s ∧
  (due c ns ls s = none → ∀ H', (∀ b o, H b = some o → H' b = some o) → Q .non H') ∧ (∀ word it, due c ns ls s = some (word, it) → ∀ a H', (∀ b o, H b = some o → H' b = some o) → H' a = some (.tup [.str word, itemV it]) → Q (.ref a) H')
def spIsCal (K : PySem.W.Frag) (DC : Addr) : Sp := fun vs H Q _ => ∃ (v x : V) (s : Sh) (c w : Int) (ns : List (Option Int)) (ls : List (Int × Int × Int)), vs = [v, x] ∧ DiaAt DC H v c ns ls ∧ DOK c ns ls w ∧ AnS K H x s ∧
  ∀ H', (∀ b o, H b = some o → H' b = some o) → Q (.bl (due c ns ls s).isNone) H'
def spCheck (K : PySem.W.Frag) (DC ID : Addr) : Sp := fun vs H Q E => ∃ (v x : V) (s : Sh) (c w : Int) (ns : List (Option Int)) (ls : List (Int × Int × Int)), vs = [v, x] ∧ DiaAt DC H v c ns ls ∧ DOK c ns ls w ∧ AnS K H x s ∧
  (due c ns ls s = none → ∀ H', (∀ b o, H b = some o → H' b = some o) → Q .non H') ∧ (∀ word it, due c ns ls s = some (word, it) → ∀ d H1, (∀ b o, H b = some o → H1 b = some o) → H1 d = none → E (.ref ID) (some d) (upd H1 d (.xd [("part", .str word), ("item", itemV it)])))
section
variable {P : Program} {w : World} {K : PySem.W.Frag} {mg : Str → Option Value} {base : Heap} {f : Addr} {fd : FuncData} {DC IE ID : Addr}
theorem sc_days : FnScope ["diary", "value", "many", "day"] ["diary", "value"] (defScope s_is_days) := ⟨rfl, rfl, rfl, by decide +kernel, rfl, by decide +kernel, by decide +kernel⟩
theorem ok_days (F : FnT K "is_days" s_is_days f fd) (T : Blt mg) (hall : mg "all" = none) (D : DiaF P w K mg base DC IE) (hTup : Has P w K mg base 1 "is_tuple_of" ["value", "low", "high"] (spTupOf K)) (hNum : Has P w K mg base 1 "is_number" ["value"] (spNum K)) : FnOk P w K mg base CX0 3 f fd ["diary", "value"] (spDaysX K DC) := by
  refine F.ok sc_days (fun vs H Q E h => ?_) (fun cdv A outer s H vs Q E hr h => ?_)
  · obtain ⟨v, x, s, c, ns, ls, rfl, _⟩ := h
    rfl
  · obtain ⟨v, x, sh, c, ns, ls, rfl, ⟨a, dx, wv, bv, rfl, ha, hn, hl⟩, hx, h16, q⟩ := h
    have sc := sc_days
    refine ⟨_, PSs.nox (pss_cons (ps_set (i := 2) sc.nd rfl (Or.inl rfl) (pe_callB (call_lenD D hr (by decide)) (by rfl) T.len PySem.boot_len (pa_cons (pv 0) pa_nil)))
      (pss_one (ps_ret (pe_and (pe_has hTup hr (by decide) (pa_cons (pv 1) (pa_cons (pv 2) (pa_cons (pv 2) pa_nil)))) (pe_one (pe_callB (call_allB rfl) (by rfl) hall boot_all (pa_cons (pe_lc (own := [("day", 3)]) (g := gName 3) (tt := tYes) (by rfl) sc.nd (pi_tup (pv 1)) (blkOk_by (sc := defScope s_is_days) (N := ["diary", "value", "many", "day"]) (own := [("day", 3)]) (by decide +kernel)) (fun _ _ _ _ _ => (pg_name (i := 3) sc.nd rfl (Or.inl rfl))) (fun _ _ _ _ _ => pts_nil) (fun _ _ _ _ _ => (pe_has hNum hr (by decide) (pa_cons (pv 3) pa_nil)))) pa_nil))))))), ?_⟩
    obtain ⟨wa, rfl, hwa⟩ := fz_notes_inv hn
    have hwl : (ns.map noteV).length = ns.length := List.length_map _
    walk_at "ex"
    refine g_lenO (K := K) ha (SqT.of hwa) (by rw [hwl]; omega) ?_
    rw [hwl]
    walk_at "go"
    refine ⟨x, sh, _, _, rfl, hx, ?_⟩
    cases hz : sh.sized (ns.length : Int) (ns.length : Int) with
    | false =>
      refine g_bl (g_iff ?_)
      have e : Sh.days ns.length sh = false := by unfold Sh.days; rw [hz]; rfl
      rw [e] at q
      exact q _ (fun _ _ h => h)
    | true =>
      refine g_bl (g_ift ?_)
      obtain ⟨t, us, ss, rfl, rfl, ht, hss⟩ : ∃ t us ss, x = .ref t ∧ sh = .tup ss ∧ SqT K H t us ∧ AnSs K H us ss := by
        cases hx with
        | tup h t => exact ⟨_, _, _, rfl, rfl, h, t⟩
        | _ => cases hz
      have hul : us.length = ns.length := by
        have z : (decide ((ns.length : Int) ≤ (ss.length : Int)) && decide ((ss.length : Int) ≤ ns.length)) = true := hz
        rw [Bool.and_eq_true, decide_eq_true_eq, decide_eq_true_eq] at z
        rw [hss.length]
        omega
      have e : Sh.days ns.length (.tup ss) = (ss.map Sh.isInt).all id := by
        unfold Sh.days
        rw [hz, Bool.true_and, List.all_map]
        rfl
      rw [e] at q
      walk_at "go"
      refine g_tq (K := K) ht ?_
      refine LcQ.tup (xs := us) (fun D i H' => H' D = some (.lst (((ss.map Sh.isInt).take i).map V.bl)) ∧ ∀ b o, H b = some o → H' b = some o) (fun D nD => ⟨upd_same, same_up nD fun _ _ h => h⟩) (fun D nD i H' _ h => SqT.same ht h.2) ?_ ?_
      · rintro D nD i y H1 hy ⟨h1, s1⟩
        obtain ⟨sy, e1, hsy⟩ := hss.get hy
        walk_at "go"
        refine ⟨y, sy, rfl, hsy.same s1, ?_⟩
        have hi : i < ss.length := (List.getElem?_eq_some_iff.mp e1).1
        refine ⟨_, h1, szl (by have := hss.length; rw [List.length_map, List.length_take, List.length_map]; omega), ?_, fun b o h => ?_⟩
        · rw [upd_same]
          have e2 : (ss.map Sh.isInt)[i]? = some sy.isInt := by rw [List.getElem?_map, e1]; rfl
          rw [List.take_succ, e2, List.map_append]; rfl
        · rw [upd_ne (ne_of_none h nD)]; exact s1 _ _ h
      · rintro D nD H1 ⟨h1, s1⟩
        rw [List.take_of_length_le (by rw [List.length_map, hss.length]; exact Nat.le_refl _)] at h1
        walk_at "go"
        exact ⟨D, ss.map Sh.isInt, rfl, SqL.of h1, q _ s1⟩
theorem sc_wfl : FnScope ["diary", "days", "modulus", "event", "weekday"] ["diary", "days"] (defScope s_weekday_fault) := ⟨rfl, rfl, rfl, by decide +kernel, rfl, by decide +kernel, by decide +kernel⟩
theorem ok_wfl (F : FnT K "weekday_fault" s_weekday_fault f fd) (T : Blt mg) (D : DiaF P w K mg base DC IE) : FnOk P w K mg base CX0 3 f fd ["diary", "days"] (spFaultX K DC fun c ns _ is => wFault c ns is) := by
  refine F.ok sc_wfl (fun vs H Q E h => ?_) (fun cdv A outer s H vs Q E hr h => ?_)
  · obtain ⟨v, t, c, w, ns, ls, is, rfl, _⟩ := h
    rfl
  · obtain ⟨v, t, c, w, ns, ls, xs, rfl, ⟨a, dx, wv, bv, rfl, ha, hn, hl⟩, ok, ht, hlen, q⟩ := h
    have sc := sc_wfl
    have O := D.obj
    refine ⟨_, PSs.nox (pss_cons (ps_set (i := 2) sc.nd rfl (Or.inl rfl) (pe_pm D.pm O hr (by decide) (pv 0)))
      (pss_cons (ps_for PassesOwn.never rfl (pi_enumT (by rfl) T.enumerate (pa_cons (pe_pm D.pw O hr (by decide) (pv 0)) pa_nil)) (pg_tup rfl (pgs_cons (pg_name (i := 3) sc.nd rfl (Or.inl rfl)) (pgs_cons (pg_name (i := 4) sc.nd rfl (Or.inl rfl)) pgs_nil)))
        (pss_one (ps_if (PW.pt (pw_and (pt_cmpR op_notN (pv 4) pe_non (nomark _)) (pw_and1 (pt_cmpR op_ne (pe_op op_mod (pe_ix ix_tup (pv 1) (pv 3) (fun _ _ => rfl)) (pv 2)) (pv 4) (nomark _)))))
          (pss_one (ps_ret (pv 3)))
          pss_nil)))
      (pss_one (ps_ret pe_non)))), ?_⟩
    obtain ⟨wa, rfl, hwa⟩ := fz_notes_inv hn
    walk_at "go"
    refine g_p1 ha ?_
    walk_at "go"
    refine g_p2 ha ?_
    refine g_nil ?_
    refine ⟨wa, _, rfl, SqT.of hwa, ?_⟩
    refine ForQ.enumT (xs := ns.map noteV) (fun i σ H' => (∃ x y, σ = [some (.ref a), some (.ref t), some (.int c), x, y]) ∧ (∀ j, j < i → wbad c ns xs j = false) ∧ ∀ b o, H b = some o → H' b = some o) ⟨⟨_, _, rfl⟩, (fun j hj => absurd hj (by omega)), fun _ _ h => h⟩ (fun i σ H' _ h => SqT.of (h.2.2 _ _ hwa)) ?_ ?_
    · rintro i x T σ H1 hx ⟨⟨u, v, rfl⟩, al, s1⟩ nT
      obtain ⟨hi, rfl⟩ := map_at hx
      have s2 := same_up (o := .tup [.int (i : Nat), noteV ns[i]]) nT s1
      refine g_tupg (K := K) (SqT.of upd_same) rfl ?_
      walk_at "go"
      have hc := ok.c2
      have hxi : i < xs.length := by rw [hlen]; exact hi
      have go1 : wbad c ns xs i = false → ∀ j, j < i + 1 → wbad c ns xs j = false := fun e j hj => by
        rcases Nat.lt_or_ge j i with z | z
        · exact al j z
        · rw [show j = i by omega]; exact e
      cases hni : ns[i] with
      | none =>
        rw [hni] at s2
        rw [show (!decide (noteV none = V.non)) = false from rfl]
        walk_at "go"
        refine ⟨⟨_, _, rfl⟩, go1 ?_, s2⟩
        unfold wbad
        rw [List.getElem?_eq_getElem hi, hni]
      | some k =>
        rw [hni] at s2
        rw [show (!decide (noteV (some k) = V.non)) = true from rfl]
        walk_at "go"
        refine g_ixT (K := K) (SqT.same ht s2) (WL.atI_nat (map_get_int (List.getElem?_eq_getElem hxi))) ?_
        walk_at "go"
        have eb : wbad c ns xs i = !decide (xs[i] % c = k) := by
          unfold wbad
          rw [List.getElem?_eq_getElem hi, hni, List.getElem?_eq_getElem hxi]
        refine ⟨rfl, ?_⟩
        by_cases e : xs[i] % c = k
        · rw [show (!decide (V.int (xs[i] % c) = noteV (some k))) = false by rw [e]; simp [noteV]]
          walk_at "go"
          exact ⟨⟨_, _, rfl⟩, go1 (by rw [eb, decide_eq_true e]; rfl), s2⟩
        · rw [show (!decide (V.int (xs[i] % c) = noteV (some k))) = true by simp [noteV, e]]
          walk_at "go"
          exact q (some i) _ (first_some hi (by rw [eb, decide_eq_false e]; rfl) al) s2
    · rintro σ H1 ⟨_, al, s1⟩
      walk_at "go"
      exact q (none) _ (first_none (by rw [List.length_map] at al; exact al)) s1
theorem sc_bfl : FnScope ["diary", "days", "item", "first", "last", "most"] ["diary", "days"] (defScope s_bound_fault) := ⟨rfl, rfl, rfl, by decide +kernel, rfl, by decide +kernel, by decide +kernel⟩
theorem ok_bfl (F : FnT K "bound_fault" s_bound_fault f fd) (T : Blt mg) (D : DiaF P w K mg base DC IE) : FnOk P w K mg base CX0 3 f fd ["diary", "days"] (spFaultX K DC fun _ _ ls is => bFault ls is) := by
  refine F.ok sc_bfl (fun vs H Q E h => ?_) (fun cdv A outer s H vs Q E hr h => ?_)
  · obtain ⟨v, t, c, w, ns, ls, is, rfl, _⟩ := h
    rfl
  · obtain ⟨v, t, c, w, ns, ls, xs, rfl, ⟨a, dx, wv, bv, rfl, ha, hn, hl⟩, ok, ht, hlen, q⟩ := h
    have sc := sc_bfl
    have O := D.obj
    refine ⟨_, PSs.nox (pss_cons (ps_for PassesOwn.never rfl (pi_enumT (by rfl) T.enumerate (pa_cons (pe_pm D.pb O hr (by decide) (pv 0)) pa_nil)) (pg_tup rfl (pgs_cons (pg_name (i := 2) sc.nd rfl (Or.inl rfl)) (pgs_cons (pg_tup rfl (pgs_cons (pg_name (i := 3) sc.nd rfl (Or.inl rfl)) (pgs_cons (pg_name (i := 4) sc.nd rfl (Or.inl rfl)) (pgs_cons (pg_name (i := 5) sc.nd rfl (Or.inl rfl)) pgs_nil)))) pgs_nil)))
        (pss_one (ps_if (pt_cmpR op_gt (pe_op op_sub (pe_ix ix_tup (pv 1) (pv 4) (fun _ _ => rfl)) (pe_ix ix_tup (pv 1) (pv 3) (fun _ _ => rfl))) (pv 5) (nomark _))
          (pss_one (ps_ret (pv 2)))
          pss_nil)))
      (pss_one (ps_ret pe_non))), ?_⟩
    obtain ⟨ba, rows, rfl, hba, hrows⟩ := Fz.tup_inv hl
    have hrl : rows.length = ls.length := by rw [hrows.length, List.length_map]
    walk_at "go"
    refine g_p3 ha ?_
    refine g_nil ?_
    refine ⟨ba, _, rfl, SqT.of hba, ?_⟩
    refine ForQ.enumT (xs := rows) (fun i σ H' => (∃ x y z u, σ = [some (.ref a), some (.ref t), x, y, z, u]) ∧ (∀ j, j < i → bbad ls xs j = false) ∧ ∀ b o, H b = some o → H' b = some o) ⟨⟨_, _, _, _, rfl⟩, (fun j hj => absurd hj (by omega)), fun _ _ h => h⟩ (fun i σ H' _ h => SqT.of (h.2.2 _ _ hba)) ?_ ?_
    · rintro i x T σ H1 hx ⟨⟨u1, u2, u3, u4, rfl⟩, al, s1⟩ nT
      have hi : i < ls.length := by
        rw [← hrl]
        rcases Nat.lt_or_ge i rows.length with q | q
        · exact q
        · rw [List.getElem?_eq_none q] at hx; exact absurd hx (by simp)
      obtain ⟨r, er, hr⟩ := fzs_row hrows hi
      rw [hx] at er
      cases er
      have s2 := same_up (o := .tup [.int (i : Nat), .ref r]) nT s1
      refine g_tupg (K := K) (SqT.of upd_same) rfl ?_
      walk_at "go"
      refine g_tupg (K := K) (SqT.of (s2 _ _ hr)) rfl ?_
      walk_at "go"
      obtain ⟨l1, l2, _⟩ := ok.line ls[i] (List.getElem_mem hi)
      have e1 : ls[i].1.toNat < xs.length := by rw [hlen]; omega
      have e2 : ls[i].2.1.toNat < xs.length := by rw [hlen]; omega
      refine g_ixT (K := K) (SqT.same ht s2) (atI_at l2.1 (map_get_int (List.getElem?_eq_getElem e2))) ?_
      walk_at "go"
      refine g_ixT (K := K) (SqT.same ht s2) (atI_at l1.1 (map_get_int (List.getElem?_eq_getElem e1))) ?_
      walk_at "go"
      have eb : bbad ls xs i = decide (ls[i].2.2 < xs[ls[i].2.1.toNat] - xs[ls[i].1.toNat]) := by
        unfold bbad
        rw [List.getElem?_eq_getElem hi]
        show decide (ls[i].2.2 < (xs[ls[i].2.1.toNat]?).getD 0 - (xs[ls[i].1.toNat]?).getD 0) = _
        rw [List.getElem?_eq_getElem e2, List.getElem?_eq_getElem e1]
        rfl
      cases hb : decide (ls[i].2.2 < xs[ls[i].2.1.toNat] - xs[ls[i].1.toNat]) with
      | false =>
        rw [hb] at eb
        walk_at "go"
        refine ⟨⟨_, _, _, _, rfl⟩, fun j hj => ?_, s2⟩
        rcases Nat.lt_or_ge j i with z | z
        · exact al j z
        · rw [show j = i by omega]; exact eb
      | true =>
        rw [hb] at eb
        walk_at "go"
        exact q (some i) _ (first_some hi eb al) s2
    · rintro σ H1 ⟨_, al, s1⟩
      walk_at "go"
      exact q (none) _ (first_none (by rw [hrl] at al; exact al)) s1
end
end K06
set_option Elab.async false
set_option linter.all false
set_option maxRecDepth 100000
set_option maxHeartbeats 400000
namespace K06
open PySem PySem.Spec PyProof.Rows L2 WL
local macro_rules | `(tactic| walk_at "side") => `(tactic| first | (show (_ ∧ _) ∨ (_ ∧ _); omega) | (exact ⟨by omega, by omega⟩) | (show (0 : Int) < _; omega) | omega)
local macro_rules | `(tactic| walk_at "go") => `(tactic| (repeat (first
  | with_reducible refine g_seq ?_ | with_reducible refine g_asgN ?_ | with_reducible refine g_ret ?_ | with_reducible refine g_drop ?_ | with_reducible refine g_ifS ?_ | with_reducible refine g_next ?_
  | with_reducible refine g_var rfl ?_ | with_reducible refine g_c ?_ | with_reducible refine g_op ?_ | with_reducible refine g_un ?_ | with_reducible refine g_rI0 ?_ | ((with_reducible refine g_rI ?_ ?_); next => walk_at "side") | with_reducible refine g_test ?_ | with_reducible refine g_bl ?_
  | with_reducible refine g_nil ?_ | with_reducible refine g_cons ?_ | with_reducible refine g_call ?_ | with_reducible refine g_cb ?_ | with_reducible refine g_if ?_ | with_reducible refine g_par ?_ | with_reducible refine g_two ?_
  | with_reducible refine g_asg ?_ | with_reducible refine g_name ?_ | with_reducible refine g_sub ?_ | with_reducible refine g_yes ?_ | with_reducible refine g_gcons ?_ | with_reducible refine g_gnil ?_ | with_reducible refine g_dget ?_ | with_reducible refine g_dput ?_ | with_reducible refine g_rng1 ?_ | with_reducible refine g_rng2 ?_
  | ((with_reducible refine g_one ?_ ?_); next => omega) | ((with_reducible refine g_twoI ?_ ?_); next => omega) | with_reducible refine g_isNon ?_ | with_reducible refine g_andV ?_ | with_reducible refine g_revT ?_ | with_reducible refine g_itup ?_ | with_reducible refine g_methK0 ?_ | with_reducible refine g_methS ?_ | with_reducible refine g_errF ?_ | with_reducible refine g_prop ?_ | with_reducible refine g_con ?_ | with_reducible refine g_make ?_ | with_reducible refine g_fld ?_ | with_reducible refine g_sfld ?_ | with_reducible refine g_iftn ?_ | with_reducible refine g_iffn ?_ | with_reducible refine g_orV ?_ | with_reducible refine g_notV ?_ | with_reducible refine g_tB ?_ | with_reducible refine g_chain ?_ | with_reducible refine g_neg ?_ | with_reducible refine g_cval ?_ | with_reducible refine g_enumT ?_ | with_reducible refine g_andT ?_ | with_reducible refine g_orT ?_ | with_reducible refine g_notT ?_ | with_reducible refine g_sl ?_ | with_reducible refine g_part ?_ | with_reducible refine g_parI ?_ | with_reducible refine g_noPart ?_ | with_reducible refine g_pcons ?_ | with_reducible refine g_pnil ?_ | with_reducible refine g_list ?_ | with_reducible refine g_lc ?_ | with_reducible refine g_for ?_ | with_reducible refine g_enum ?_ | with_reducible refine g_ift ?_ | with_reducible refine g_iff ?_ | with_reducible refine And.intro rfl ?_ | with_reducible refine g_notNon ?_)))
local macro_rules | `(tactic| walk_at "ex") => `(tactic| (repeat (first
  | with_reducible refine g_seqAsg ?_ | with_reducible refine g_seqFld ?_ | with_reducible refine g_seqDrop ?_ | with_reducible refine g_seqPut ?_ | with_reducible refine g_seqPar ?_ | with_reducible refine g_asgN ?_ | with_reducible refine g_ret ?_ | with_reducible refine g_drop ?_ | with_reducible refine g_next ?_
  | with_reducible refine g_var rfl ?_ | with_reducible refine g_c ?_ | with_reducible refine g_op ?_ | with_reducible refine g_un ?_ | with_reducible refine g_rI0 ?_ | ((with_reducible refine g_rI ?_ ?_); next => walk_at "side") | with_reducible refine g_test ?_ | with_reducible refine g_bl ?_
  | with_reducible refine g_nil ?_ | with_reducible refine g_cons ?_ | with_reducible refine g_call ?_ | with_reducible refine g_cb ?_ | with_reducible refine g_if ?_ | with_reducible refine g_par ?_ | with_reducible refine g_two ?_
  | with_reducible refine g_asg ?_ | with_reducible refine g_name ?_ | with_reducible refine g_sub ?_ | with_reducible refine g_yes ?_ | with_reducible refine g_gcons ?_ | with_reducible refine g_gnil ?_ | with_reducible refine g_dget ?_ | with_reducible refine g_dput ?_ | with_reducible refine g_rng1 ?_ | with_reducible refine g_rng2 ?_
  | ((with_reducible refine g_one ?_ ?_); next => omega) | ((with_reducible refine g_twoI ?_ ?_); next => omega) | with_reducible refine g_isNon ?_ | with_reducible refine g_andV ?_ | with_reducible refine g_revT ?_ | with_reducible refine g_itup ?_ | with_reducible refine g_methK0 ?_ | with_reducible refine g_methS ?_ | with_reducible refine g_errF ?_ | with_reducible refine g_prop ?_ | with_reducible refine g_con ?_ | with_reducible refine g_make ?_ | with_reducible refine g_fld ?_ | with_reducible refine g_sfld ?_ | with_reducible refine g_iftn ?_ | with_reducible refine g_iffn ?_ | with_reducible refine g_orV ?_ | with_reducible refine g_notV ?_ | with_reducible refine g_tB ?_ | with_reducible refine g_chain ?_ | with_reducible refine g_neg ?_ | with_reducible refine g_cval ?_ | with_reducible refine g_enumT ?_ | with_reducible refine g_proj ?_ | with_reducible refine g_andT ?_ | with_reducible refine g_orT ?_ | with_reducible refine g_notT ?_ | with_reducible refine g_sl ?_ | with_reducible refine g_part ?_ | with_reducible refine g_parI ?_ | with_reducible refine g_noPart ?_ | with_reducible refine g_pcons ?_ | with_reducible refine g_pnil ?_ | with_reducible refine g_list ?_ | with_reducible refine g_lc ?_ | with_reducible refine g_enum ?_ | with_reducible refine g_ift ?_ | with_reducible refine g_iff ?_ | with_reducible refine And.intro rfl ?_ | with_reducible refine g_notNon ?_)))
section
variable {P : Program} {w : World} {K : PySem.W.Frag} {mg : Str → Option Value} {base : Heap} {f : Addr} {fd : FuncData} {DC IE ID : Addr}
theorem due_form {c : Int} {ns : List (Option Int)} {ls : List (Int × Int × Int)} {s : Sh} (h : Sh.days ns.length s = false) : due c ns ls s = some (("form" : Str), none) := by
  unfold due
  rw [if_neg (by rw [h]; decide)]
theorem due_ints {c : Int} {ns : List (Option Int)} {ls : List (Int × Int × Int)} {is : List Int} (h : Sh.days ns.length (.tup (is.map Sh.int)) = true) : due c ns ls (.tup (is.map Sh.int)) = (match wFault c ns is with
    | some n => some (("weekday" : Str), some n)
    | none => (bFault ls is).map fun n => (("bound" : Str), some n)) := by
  unfold due
  rw [if_pos h, intsOf_tup]
  first | done | (cases wFault c ns is <;> rfl)
theorem sc_dfl : FnScope ["diary", "days", "event", "number"] ["diary", "days"] (defScope s_days_fault) := ⟨rfl, rfl, rfl, by decide +kernel, rfl, by decide +kernel, by decide +kernel⟩
theorem ok_dfl (F : FnT K "days_fault" s_days_fault f fd) (hDays : Has P w K mg base 3 "is_days" ["diary", "value"] (spDaysX K DC)) (hWf : Has P w K mg base 3 "weekday_fault" ["diary", "days"] (spFaultX K DC fun c ns _ is => wFault c ns is)) (hBf : Has P w K mg base 3 "bound_fault" ["diary", "days"] (spFaultX K DC fun _ _ ls is => bFault ls is)) : FnOk P w K mg base CX0 4 f fd ["diary", "days"] (spDayF K DC) := by
  refine F.ok sc_dfl (fun vs H Q E h => ?_) (fun cdv A outer s H vs Q E hr h => ?_)
  · obtain ⟨v, x, sh, c, w, ns, ls, rfl, _⟩ := h
    rfl
  · obtain ⟨v, x, sh, c, w, ns, ls, rfl, hD, ok, hx, q1, q2⟩ := h
    have sc := sc_dfl
    refine ⟨_, PSs.nox (pss_cons (ps_if (pt_not (pt_val (pe_has hDays hr (by decide) (pa_cons (pv 0) (pa_cons (pv 1) pa_nil)))))
        (pss_one (ps_ret (pe_tup (pa_cons pe_str (pa_cons pe_non pa_nil)))))
        pss_nil)
      (pss_cons (ps_set (i := 2) sc.nd rfl (Or.inl rfl) (pe_has hWf hr (by decide) (pa_cons (pv 0) (pa_cons (pv 1) pa_nil))))
      (pss_cons (ps_if (pt_cmpR op_notN (pv 2) pe_non (nomark _))
        (pss_one (ps_ret (pe_tup (pa_cons pe_str (pa_cons (pv 2) pa_nil)))))
        pss_nil)
      (pss_cons (ps_set (i := 3) sc.nd rfl (Or.inl rfl) (pe_has hBf hr (by decide) (pa_cons (pv 0) (pa_cons (pv 1) pa_nil))))
      (pss_cons (ps_if (pt_cmpR op_notN (pv 3) pe_non (nomark _))
        (pss_one (ps_ret (pe_tup (pa_cons pe_str (pa_cons (pv 3) pa_nil)))))
        pss_nil)
      (pss_one (ps_ret pe_non))))))), ?_⟩
    walk_at "go"
    refine ⟨v, x, sh, c, ns, ls, rfl, hD, hx, ok.n16, fun H1 s1 => ?_⟩
    cases hz : Sh.days ns.length sh with
    | false =>
      walk_at "go"
      refine g_tup' ?_
      walk_at "go"
      exact ⟨sz (by simp), fun p np => q2 _ none (due_form hz) p _ (same_up np s1) upd_same⟩
    | true =>
      obtain ⟨t, is, rfl, ht, hlen, rfl⟩ := days_inv hx hz
      rw [due_ints hz] at q1 q2
      walk_at "go"
      refine ⟨v, t, c, w, ns, ls, is, rfl, hD.same s1, ok, SqT.same ht s1, hlen, fun o H2 (hw : wFault c ns is = o) s2 => ?_⟩
      have s2' : ∀ b o, H b = some o → H2 b = some o := fun b o h => s2 _ _ (s1 _ _ h)
      rw [hw] at q1 q2
      cases o with
      | some n =>
        walk_at "go"
        rw [show (!decide (itemV (some n) = V.non)) = true from rfl]
        walk_at "go"
        refine g_tup' ?_
        walk_at "go"
        exact ⟨sz (by simp), fun p np => q2 _ (some n) rfl p _ (same_up np s2') upd_same⟩
      | none =>
        walk_at "go"
        rw [show (!decide (itemV none = V.non)) = false from rfl]
        walk_at "go"
        refine ⟨v, t, c, w, ns, ls, is, rfl, hD.same s2', ok, SqT.same ht s2', hlen, fun o H3 (hb : bFault ls is = o) s3 => ?_⟩
        have s3' : ∀ b o, H b = some o → H3 b = some o := fun b o h => s3 _ _ (s2' _ _ h)
        rw [hb] at q1 q2
        cases o with
        | some n =>
          walk_at "go"
          rw [show (!decide (itemV (some n) = V.non)) = true from rfl]
          walk_at "go"
          refine g_tup' ?_
          walk_at "go"
          exact ⟨sz (by simp), fun p np => q2 _ (some n) rfl p _ (same_up np s3') upd_same⟩
        | none =>
          walk_at "go"
          rw [show (!decide (itemV none = V.non)) = false from rfl]
          walk_at "go"
          exact q1 rfl _ s3'
theorem sc_cal : FnScope ["diary", "days"] ["diary", "days"] (defScope s_is_calendar) := ⟨rfl, rfl, rfl, by decide +kernel, rfl, by decide +kernel, by decide +kernel⟩
theorem ok_cal (F : FnT K "is_calendar" s_is_calendar f fd) (hDf : Has P w K mg base 4 "days_fault" ["diary", "days"] (spDayF K DC)) : FnOk P w K mg base CX0 5 f fd ["diary", "days"] (spIsCal K DC) := by
  refine F.ok sc_cal (fun vs H Q E h => ?_) (fun cdv A outer s H vs Q E hr h => ?_)
  · obtain ⟨v, x, sh, c, w, ns, ls, rfl, _⟩ := h
    rfl
  · obtain ⟨v, x, sh, c, w, ns, ls, rfl, hD, ok, hx, q⟩ := h
    have sc := sc_cal
    refine ⟨_, PSs.nox (pss_one (ps_ret (pe_cmpR op_isN (pe_has hDf hr (by decide) (pa_cons (pv 0) (pa_cons (pv 1) pa_nil))) pe_non (nomark _)))), ?_⟩
    walk_at "go"
    refine ⟨v, x, sh, c, w, ns, ls, rfl, hD, ok, hx, fun e H1 s1 => ?_, fun word it e a H1 s1 ha => ?_⟩
    · rw [e] at q
      walk_at "go"
      exact q _ s1
    · rw [e] at q
      walk_at "go"
      exact q _ s1
theorem sc_chk : FnScope ["diary", "days", "fault", "part", "item"] ["diary", "days"] (defScope s_check_calendar) := ⟨rfl, rfl, rfl, by decide +kernel, rfl, by decide +kernel, by decide +kernel⟩
theorem ok_chk (F : FnT K "check_calendar" s_check_calendar f fd) (X : Ev2 P K mg "InvalidDays" "part" "item" ID) (hDf : Has P w K mg base 4 "days_fault" ["diary", "days"] (spDayF K DC)) : FnOk P w K mg base (CX P w) 5 f fd ["diary", "days"] (spCheck K DC ID) := by
  refine F.ok sc_chk (fun vs H Q E h => ?_) (fun cdv A outer s H vs Q E hr h => ?_)
  · obtain ⟨v, x, sh, c, w, ns, ls, rfl, _⟩ := h
    rfl
  · obtain ⟨v, x, sh, c, w, ns, ls, rfl, hD, ok, hx, q1, q2⟩ := h
    have sc := sc_chk
    obtain ⟨fI, fdI, xT, xI, xb, _⟩ := X.ex
    refine ⟨_, (pss_cons (ps_set (i := 2) sc.nd rfl (Or.inl rfl) (pe_has hDf hr (by decide) (pa_cons (pv 0) (pa_cons (pv 1) pa_nil))))
      (pss_one (ps_if (pt_cmpR op_notN (pv 2) pe_non (nomark _))
        (pss_cons (ps_asg (pv 2) (pg_tup rfl (pgs_cons (pg_name (i := 3) sc.nd rfl (Or.inl rfl)) (pgs_cons (pg_name (i := 4) sc.nd rfl (Or.inl rfl)) pgs_nil)))) (pss_one (ps_raise rfl (takes_of rfl rfl rfl rfl) (pmk_ex2 xT xI hr X.at_ (by decide) (by decide) (by decide) (by decide) (by decide) xb (pa_cons (pv 3) (pa_cons (pv 4) pa_nil))))))
        pss_nil))), ?_⟩
    walk_at "go"
    refine ⟨v, x, sh, c, w, ns, ls, rfl, hD, ok, hx, fun e H1 s1 => ?_, fun word it e a H1 s1 ha => ?_⟩
    · walk_at "go"
      exact q1 e _ s1
    · walk_at "go"
      refine g_ift ?_
      walk_at "go"
      refine g_tupg (K := K) (SqT.of ha) rfl ?_
      walk_at "go"
      refine g_proj ?_
      refine g_mkex2 ?_
      walk_at "go"
      exact fun d nd => q2 word it e d H1 s1 nd
end
end K06
set_option Elab.async false
set_option linter.all false
set_option maxRecDepth 100000
set_option maxHeartbeats 400000
namespace K06
open PySem PySem.Spec PyProof.Rows L2 WL
local macro_rules | `(tactic| walk_at "side") => `(tactic| first | (show (_ ∧ _) ∨ (_ ∧ _); omega) | (exact ⟨by omega, by omega⟩) | (show (0 : Int) < _; omega) | omega)
local macro_rules | `(tactic| walk_at "go") => `(tactic| (repeat (first
  | with_reducible refine g_seq ?_ | with_reducible refine g_asgN ?_ | with_reducible refine g_ret ?_ | with_reducible refine g_drop ?_ | with_reducible refine g_ifS ?_ | with_reducible refine g_next ?_
  | with_reducible refine g_var rfl ?_ | with_reducible refine g_c ?_ | with_reducible refine g_op ?_ | with_reducible refine g_un ?_ | with_reducible refine g_rI0 ?_ | ((with_reducible refine g_rI ?_ ?_); next => walk_at "side") | with_reducible refine g_test ?_ | with_reducible refine g_bl ?_
  | with_reducible refine g_nil ?_ | with_reducible refine g_cons ?_ | with_reducible refine g_call ?_ | with_reducible refine g_cb ?_ | with_reducible refine g_if ?_ | with_reducible refine g_par ?_ | with_reducible refine g_two ?_
  | with_reducible refine g_asg ?_ | with_reducible refine g_name ?_ | with_reducible refine g_sub ?_ | with_reducible refine g_yes ?_ | with_reducible refine g_gcons ?_ | with_reducible refine g_gnil ?_ | with_reducible refine g_dget ?_ | with_reducible refine g_dput ?_ | with_reducible refine g_rng1 ?_ | with_reducible refine g_rng2 ?_
  | ((with_reducible refine g_one ?_ ?_); next => omega) | ((with_reducible refine g_twoI ?_ ?_); next => omega) | with_reducible refine g_isNon ?_ | with_reducible refine g_andV ?_ | with_reducible refine g_revT ?_ | with_reducible refine g_itup ?_ | with_reducible refine g_methK0 ?_ | with_reducible refine g_methS ?_ | with_reducible refine g_errF ?_ | with_reducible refine g_prop ?_ | with_reducible refine g_con ?_ | with_reducible refine g_make ?_ | with_reducible refine g_fld ?_ | with_reducible refine g_sfld ?_ | with_reducible refine g_iftn ?_ | with_reducible refine g_iffn ?_ | with_reducible refine g_orV ?_ | with_reducible refine g_notV ?_ | with_reducible refine g_tB ?_ | with_reducible refine g_chain ?_ | with_reducible refine g_neg ?_ | with_reducible refine g_cval ?_ | with_reducible refine g_enumT ?_ | with_reducible refine g_andT ?_ | with_reducible refine g_orT ?_ | with_reducible refine g_notT ?_ | with_reducible refine g_sl ?_ | with_reducible refine g_part ?_ | with_reducible refine g_parI ?_ | with_reducible refine g_noPart ?_ | with_reducible refine g_pcons ?_ | with_reducible refine g_pnil ?_ | with_reducible refine g_list ?_ | with_reducible refine g_lc ?_ | with_reducible refine g_for ?_ | with_reducible refine g_enum ?_ | with_reducible refine g_ift ?_ | with_reducible refine g_iff ?_ | with_reducible refine And.intro rfl ?_ | with_reducible refine g_notNon ?_)))
local macro_rules | `(tactic| walk_at "ex") => `(tactic| (repeat (first
  | with_reducible refine g_seqAsg ?_ | with_reducible refine g_seqFld ?_ | with_reducible refine g_seqDrop ?_ | with_reducible refine g_seqPut ?_ | with_reducible refine g_seqPar ?_ | with_reducible refine g_asgN ?_ | with_reducible refine g_ret ?_ | with_reducible refine g_drop ?_ | with_reducible refine g_next ?_
  | with_reducible refine g_var rfl ?_ | with_reducible refine g_c ?_ | with_reducible refine g_op ?_ | with_reducible refine g_un ?_ | with_reducible refine g_rI0 ?_ | ((with_reducible refine g_rI ?_ ?_); next => walk_at "side") | with_reducible refine g_test ?_ | with_reducible refine g_bl ?_
  | with_reducible refine g_nil ?_ | with_reducible refine g_cons ?_ | with_reducible refine g_call ?_ | with_reducible refine g_cb ?_ | with_reducible refine g_if ?_ | with_reducible refine g_par ?_ | with_reducible refine g_two ?_
  | with_reducible refine g_asg ?_ | with_reducible refine g_name ?_ | with_reducible refine g_sub ?_ | with_reducible refine g_yes ?_ | with_reducible refine g_gcons ?_ | with_reducible refine g_gnil ?_ | with_reducible refine g_dget ?_ | with_reducible refine g_dput ?_ | with_reducible refine g_rng1 ?_ | with_reducible refine g_rng2 ?_
  | ((with_reducible refine g_one ?_ ?_); next => omega) | ((with_reducible refine g_twoI ?_ ?_); next => omega) | with_reducible refine g_isNon ?_ | with_reducible refine g_andV ?_ | with_reducible refine g_revT ?_ | with_reducible refine g_itup ?_ | with_reducible refine g_methK0 ?_ | with_reducible refine g_methS ?_ | with_reducible refine g_errF ?_ | with_reducible refine g_prop ?_ | with_reducible refine g_con ?_ | with_reducible refine g_make ?_ | with_reducible refine g_fld ?_ | with_reducible refine g_sfld ?_ | with_reducible refine g_iftn ?_ | with_reducible refine g_iffn ?_ | with_reducible refine g_orV ?_ | with_reducible refine g_notV ?_ | with_reducible refine g_tB ?_ | with_reducible refine g_chain ?_ | with_reducible refine g_neg ?_ | with_reducible refine g_cval ?_ | with_reducible refine g_enumT ?_ | with_reducible refine g_proj ?_ | with_reducible refine g_andT ?_ | with_reducible refine g_orT ?_ | with_reducible refine g_notT ?_ | with_reducible refine g_sl ?_ | with_reducible refine g_part ?_ | with_reducible refine g_parI ?_ | with_reducible refine g_noPart ?_ | with_reducible refine g_pcons ?_ | with_reducible refine g_pnil ?_ | with_reducible refine g_list ?_ | with_reducible refine g_lc ?_ | with_reducible refine g_enum ?_ | with_reducible refine g_ift ?_ | with_reducible refine g_iff ?_ | with_reducible refine And.intro rfl ?_ | with_reducible refine g_notNon ?_)))
section
variable {X : Cx} {g : Addr} {cdg : Value} {q : Str} {DC IE ID : Addr} {k : Nat}
/-- an error that _law_told reads -/
def ETold (ID : Addr) (Q : VK) : XK := fun cls d H' => ∃ (dd : Addr) (x y : V), d = some dd ∧ cls = .ref ID ∧ H' dd = some (.xd [("part", x), ("item", y)]) ∧ ∀ (p : Addr) (H2 : Hp), H' p = none → (∀ b o, H' b = some o → H2 b = some o) → H2 p = some (.tup [x, y]) → Q (.ref p) H2
/-- what _law_told gives of a call -/
def TTold (ID : Addr) : (XK → Hp → VK → Prop) → Hp → VK → Prop := fun tl H Q => ∀ Q1 : VK, (∀ H', (∀ (p : Addr) (H2 : Hp), H' p = none → (∀ b o, H' b = some o → H2 b = some o) → H2 p = some (.tup []) → Q (.ref p) H2) → Q1 .non H') → tl (ETold ID Q) H Q1
/-- what is known of the class InvalidDays -/
structure ErrD (K : PySem.W.Frag) (mg : Str → Option Value) (ID : Addr) : Prop where
  at_ : mg "InvalidDays" = some (.ref ID)
  cd : ErrC K ID
  np : PySem.W.findIn K (.ref ID) "part" = some none
  ni : PySem.W.findIn K (.ref ID) "item" = some none
  e0 : PySem.W.exmOne K (.ref ID) (.ref ID) = some true
theorem sc_told : FnScope ["call", "error", "found", "e"] ["call"] (defScope s_law_told) := ⟨rfl, rfl, rfl, by decide +kernel, rfl, by decide +kernel, by decide +kernel⟩
theorem told_gives (hk : 1 ≤ k) (hr : Room (k + 2) X.A) (Y : ErrD X.K X.mg ID) : LamX.GivesTo X ["call", "error", "found", "e"] "_law_told" (defScope s_law_told) g cdg (defBody s_law_told) "call" q (TTold ID) := by
  intro f c' s H Q tl act hc h
  have sc := sc_told
  have hr1 := fun e => hr.deeper e
  refine ⟨_, (pss_cons (ps_set (i := 1) sc.nd rfl (Or.inl rfl) pe_non)
    (pss_cons (ps_set (i := 2) sc.nd rfl (Or.inl rfl) pe_non)
    (pss_cons (ps_try_kept (i := 3) (c := .ref ID) (tb := fun W D σ H => ∃ Ech : XK, (∀ cls d σ' H', Ech cls d H' → σ'.length = 4 → W cls d σ' H') ∧ tAsg (fun σZ HZ Q => σZ[0]? = some (some (.ref f)) ∧ HZ c' = some (LamX.CodeO c' q) ∧ tl Ech HZ Q) (gName 2) D σ H) (ts := fun _ _ _ => tAsg (tVar 3) (gName 1)) rfl rfl rfl sc.nd rfl rfl ⟨rfl, by decide, Or.inl Y.at_⟩
      (fun W pn xe tk _ => ?_) (fun a oe cls d pn hz hf => pss_one (ps_set (i := 1) sc.nd rfl (Or.inl rfl) (by exact (pv 3)))))
    (pss_cons (ps_if (pt_cmpR op_isN (pv 1) pe_non (nomark _))
      (pss_one (ps_ret (pe_ifExp (pt_cmpR op_isN (pv 2) pe_non (nomark _)) (pe_tup pa_nil) (pe_tup (pa_cons (pv 2) (pa_cons pe_str pa_nil))))))
      pss_nil)
    (pss_one (ps_ret (pe_tup (pa_cons (pe_errf Y.cd.xf Y.np (pv 1)) (pa_cons (pe_errf Y.cd.xf Y.ni (pv 1)) pa_nil))))))))), ?_⟩
  · refine ⟨fun pins s' σ H' D I h' => ?_⟩
    obtain ⟨Ech, hW, h1⟩ := h'
    exact (pss_one (ps_set (i := 2) sc.nd rfl (Or.inl rfl) (act (fun cls d σ H => σ.length = 4 → W cls d σ H) pn xe Ech _ _ (takes_len tk) hW))).run pins s' σ H' D I h1
  · walk_at "go"
    refine ⟨ETold ID Q, fun cls d σ' H' hE hlen => ?_, ?_⟩
    rotate_left
    · refine g_asgN ?_
      refine ⟨rfl, hc, h _ fun H' hq => ?_⟩
      walk_at "go"
      rw [decide_eq_true (rfl : V.non = V.non)]
      refine g_tt ?_
      walk_at "go"
      refine g_tt ?_
      refine g_tup' ?_
      walk_at "go"
      exact ⟨sz (by simp), fun p np => hq p _ np (same_up np fun _ _ h => h) upd_same⟩
    · obtain ⟨dd, x, y, rfl, rfl, hd, hq⟩ := hE
      obtain ⟨v0, v1, v2, v3, rfl⟩ : ∃ v0 v1 v2 v3, σ' = [v0, v1, v2, v3] := by
        match σ', hlen with
        | [v0, v1, v2, v3], _ => exact ⟨v0, v1, v2, v3, rfl⟩
      refine ⟨Y.e0, fun a na => ?_⟩
      walk_at "go"
      intro na2
      have nad : dd ≠ a := ne_of_none hd na
      have s2 := same_up (o := Err a (.ref ID) (some dd)) na (H := H') (fun _ _ h => h)
      have hd2 : upd H' a (Err a (.ref ID) (some dd)) dd = some (.xd [("part", x), ("item", y)]) := by rw [upd_ne nad]; exact hd
      walk_at "go"
      rw [decide_eq_false (show ¬ V.ref a = V.non from fun z => nomatch z)]
      refine g_iff (g_next ?_)
      walk_at "go"
      refine g_tup' ?_
      walk_at "go"
      refine ⟨a, dd, _, x, rfl, upd_same, hd2, rfl, ?_⟩
      walk_at "go"
      refine ⟨a, dd, _, y, rfl, upd_same, hd2, rfl, ?_⟩
      walk_at "go"
      exact ⟨sz (by simp), fun p np => hq p _ (none_up np s2) (same_up np s2) upd_same⟩
end
section
/-- what is known of the def that calls a lambda -/
structure TolZ (K : PySem.W.Frag) (mg : Str → Option Value) (ID : Addr) : Prop where
  fn : ∃ g fd, mg "_law_told" = some (.ref g) ∧ FnT K "_law_told" s_law_told g fd ∧ Binds K fd ["call"] []
  er : ErrD K mg ID
theorem pe_tolcall {X : Cx} {ID c p : Addr} {T : List (Addr × Str)} {k : Nat} {params : Arguments} {body : Expr} {scope : Scope} {t : XK → TE} {pp lpos pos : Pos} (V : TolZ X.K X.mg ID) (hg : Gl X "_law_told") (TB : LamX.TabB X.base X.mg c p) (hcode : X.env.code = .ref c) (hmT : (p, X.env.qual ++ "<lambda>") ∈ T) (hu : ∀ r ∈ T, r.1 = p → r.2 = X.env.qual ++ "<lambda>") (hk : 1 ≤ k) (hr : Room (k + 2) X.A) (L : LamX.LamS X.env.scope scope) (hdef : defaultsOf params X.env = ([], []))
    (hbind : ∀ (q : Str) (cl : List (Str × Addr)) (pm cv ctv : Value), bindArgs (PySem.W.kla_fn "<lambda>" q params body scope cl pm cv ctv) ⟨[], []⟩ = pure [])
    (hbody : ∀ (A : Around) (outer : List Env) (s : Shared) (H : Hp) (E : XK) (f c' : Addr), Room k (A.deeper (LamX.lamEnv X scope s.heap.objs.size f c')) → PE (LamX.lamCx X A outer s H E scope f c') body (t E)) :
    PE X (.Call (.Name "_law_told" pp) [.Lambda params body scope lpos] [] pos) (LamX.tLam T (TTold ID) t) := by
  obtain ⟨g, fd, hm, F, hb⟩ := V.fn
  obtain ⟨oc, od, dV, kV, dc, pm, an, cdv, ct, osl, rfl, lk, hcd, _, _⟩ := F.ex
  exact LamX.pe_lamcall (Ng := ["call", "error", "found", "e"]) (a := "call") hg hm F.kp lk hcd hb sc_told rfl (Or.inl rfl) (told_gives hk hr V.er) TB hcode hmT hu hr L hdef hbind hbody
end
end K06
set_option Elab.async false
set_option linter.all false
set_option maxRecDepth 100000
set_option maxHeartbeats 400000
namespace K06
open PySem PySem.Spec PyProof.Rows L2 WL
local macro_rules | `(tactic| walk_at "side") => `(tactic| first | (show (_ ∧ _) ∨ (_ ∧ _); omega) | (exact ⟨by omega, by omega⟩) | (show (0 : Int) < _; omega) | omega)
local macro_rules | `(tactic| walk_at "go") => `(tactic| (repeat (first
  | with_reducible refine g_seq ?_ | with_reducible refine g_asgN ?_ | with_reducible refine g_ret ?_ | with_reducible refine g_drop ?_ | with_reducible refine g_ifS ?_ | with_reducible refine g_next ?_
  | with_reducible refine g_var rfl ?_ | with_reducible refine g_c ?_ | with_reducible refine g_op ?_ | with_reducible refine g_un ?_ | with_reducible refine g_rI0 ?_ | ((with_reducible refine g_rI ?_ ?_); next => walk_at "side") | with_reducible refine g_test ?_ | with_reducible refine g_bl ?_
  | with_reducible refine g_nil ?_ | with_reducible refine g_cons ?_ | with_reducible refine g_call ?_ | with_reducible refine g_cb ?_ | with_reducible refine g_if ?_ | with_reducible refine g_par ?_ | with_reducible refine g_two ?_
  | with_reducible refine g_asg ?_ | with_reducible refine g_name ?_ | with_reducible refine g_sub ?_ | with_reducible refine g_yes ?_ | with_reducible refine g_gcons ?_ | with_reducible refine g_gnil ?_ | with_reducible refine g_dget ?_ | with_reducible refine g_dput ?_ | with_reducible refine g_rng1 ?_ | with_reducible refine g_rng2 ?_
  | ((with_reducible refine g_one ?_ ?_); next => omega) | ((with_reducible refine g_twoI ?_ ?_); next => omega) | with_reducible refine g_isNon ?_ | with_reducible refine g_andV ?_ | with_reducible refine g_revT ?_ | with_reducible refine g_itup ?_ | with_reducible refine g_methK0 ?_ | with_reducible refine g_methS ?_ | with_reducible refine g_errF ?_ | with_reducible refine g_prop ?_ | with_reducible refine g_con ?_ | with_reducible refine g_make ?_ | with_reducible refine g_fld ?_ | with_reducible refine g_sfld ?_ | with_reducible refine g_iftn ?_ | with_reducible refine g_iffn ?_ | with_reducible refine g_orV ?_ | with_reducible refine g_notV ?_ | with_reducible refine g_tB ?_ | with_reducible refine g_chain ?_ | with_reducible refine g_neg ?_ | with_reducible refine g_cval ?_ | with_reducible refine g_enumT ?_ | with_reducible refine g_andT ?_ | with_reducible refine g_orT ?_ | with_reducible refine g_notT ?_ | with_reducible refine g_sl ?_ | with_reducible refine g_part ?_ | with_reducible refine g_parI ?_ | with_reducible refine g_noPart ?_ | with_reducible refine g_pcons ?_ | with_reducible refine g_pnil ?_ | with_reducible refine g_list ?_ | with_reducible refine g_lc ?_ | with_reducible refine g_for ?_ | with_reducible refine g_enum ?_ | with_reducible refine g_ift ?_ | with_reducible refine g_iff ?_ | with_reducible refine And.intro rfl ?_ | with_reducible refine g_notNon ?_)))
local macro_rules | `(tactic| walk_at "ex") => `(tactic| (repeat (first
  | with_reducible refine g_seqAsg ?_ | with_reducible refine g_seqFld ?_ | with_reducible refine g_seqDrop ?_ | with_reducible refine g_seqPut ?_ | with_reducible refine g_seqPar ?_ | with_reducible refine g_asgN ?_ | with_reducible refine g_ret ?_ | with_reducible refine g_drop ?_ | with_reducible refine g_next ?_
  | with_reducible refine g_var rfl ?_ | with_reducible refine g_c ?_ | with_reducible refine g_op ?_ | with_reducible refine g_un ?_ | with_reducible refine g_rI0 ?_ | ((with_reducible refine g_rI ?_ ?_); next => walk_at "side") | with_reducible refine g_test ?_ | with_reducible refine g_bl ?_
  | with_reducible refine g_nil ?_ | with_reducible refine g_cons ?_ | with_reducible refine g_call ?_ | with_reducible refine g_cb ?_ | with_reducible refine g_if ?_ | with_reducible refine g_par ?_ | with_reducible refine g_two ?_
  | with_reducible refine g_asg ?_ | with_reducible refine g_name ?_ | with_reducible refine g_sub ?_ | with_reducible refine g_yes ?_ | with_reducible refine g_gcons ?_ | with_reducible refine g_gnil ?_ | with_reducible refine g_dget ?_ | with_reducible refine g_dput ?_ | with_reducible refine g_rng1 ?_ | with_reducible refine g_rng2 ?_
  | ((with_reducible refine g_one ?_ ?_); next => omega) | ((with_reducible refine g_twoI ?_ ?_); next => omega) | with_reducible refine g_isNon ?_ | with_reducible refine g_andV ?_ | with_reducible refine g_revT ?_ | with_reducible refine g_itup ?_ | with_reducible refine g_methK0 ?_ | with_reducible refine g_methS ?_ | with_reducible refine g_errF ?_ | with_reducible refine g_prop ?_ | with_reducible refine g_con ?_ | with_reducible refine g_make ?_ | with_reducible refine g_fld ?_ | with_reducible refine g_sfld ?_ | with_reducible refine g_iftn ?_ | with_reducible refine g_iffn ?_ | with_reducible refine g_orV ?_ | with_reducible refine g_notV ?_ | with_reducible refine g_tB ?_ | with_reducible refine g_chain ?_ | with_reducible refine g_neg ?_ | with_reducible refine g_cval ?_ | with_reducible refine g_enumT ?_ | with_reducible refine g_proj ?_ | with_reducible refine g_andT ?_ | with_reducible refine g_orT ?_ | with_reducible refine g_notT ?_ | with_reducible refine g_sl ?_ | with_reducible refine g_part ?_ | with_reducible refine g_parI ?_ | with_reducible refine g_noPart ?_ | with_reducible refine g_pcons ?_ | with_reducible refine g_pnil ?_ | with_reducible refine g_list ?_ | with_reducible refine g_lc ?_ | with_reducible refine g_enum ?_ | with_reducible refine g_ift ?_ | with_reducible refine g_iff ?_ | with_reducible refine And.intro rfl ?_ | with_reducible refine g_notNon ?_)))
/-- the tuple that tells it -/
def dueV : Option (Str × Option Nat) → List V
  | none => []
  | some (word, it) => [.str word, itemV it]
def spDueL (K : PySem.W.Frag) : Sp := fun vs H Q _ => ∃ (v x : V) (b : Book) (w : Int) (s : Sh), vs = [v, x] ∧ Fz H v b.d ∧ DOK b.c b.notes b.lines w ∧ AnS K H x s ∧
  ∀ p H', (∀ b o, H b = some o → H' b = some o) → H' p = some (.tup (dueV (due b.c b.notes b.lines s))) → Q (.ref p) H'
theorem days_not {n : Nat} {s : Sh} (h : s.sized n n = false) : Sh.days n s = false := by
  unfold Sh.days
  rw [h]; rfl
theorem mod_same {c w x : Int} (h0 : 0 ≤ w) (h1 : w < c) : (x - w) % c = 0 ↔ x % c = w := by
  constructor
  · intro h
    have z := Int.emod_emod_of_dvd x (Int.dvd_refl c)
    have e : x = (x - w) + w := by omega
    rw [e, Int.add_emod, h, Int.zero_add, Int.emod_emod_of_dvd _ (Int.dvd_refl c), Int.emod_eq_of_lt h0 h1]
  · intro h
    rw [Int.sub_emod, h, Int.emod_eq_of_lt h0 h1]
    simp
section
variable {P : Program} {w : World} {K : PySem.W.Frag} {mg : Str → Option Value} {base : Heap} {f : Addr} {fd : FuncData}
theorem sc_due : FnScope ["book", "thing_here", "at", "n", "line"] ["book", "thing_here"] (defScope s_law_due) := ⟨rfl, rfl, rfl, by decide +kernel, rfl, by decide +kernel, by decide +kernel⟩
theorem ok_due (F : FnT K "_law_due" s_law_due f fd) (T : Blt mg) : FnOk P w K mg base CX0 3 f fd ["book", "thing_here"] (spDueL K) := by
  refine F.ok sc_due (fun vs H Q E h => ?_) (fun cdv A outer s H vs Q E hr h => ?_)
  · obtain ⟨v, x, b, w, sh, rfl, _⟩ := h
    rfl
  · obtain ⟨v, x, b, w, sh, rfl, hb, ok, hx, q⟩ := h
    have sc := sc_due
    have hu := hr.units
    refine ⟨_, PSs.nox (pss_cons (ps_if (PW.pt (pw_or (pt_not (pt_val (pe_callB call_isi (by rfl) T.isinstance (by decide +kernel) (pa_cons (pv 1) (pa_cons (pe_bltn (v := .ty "tuple") (by rfl) T.tuple (by decide +kernel) rfl) pa_nil))))) (pw_or1 (pt_cmpR op_ne (pe_callB call_len_seq (by rfl) T.len PySem.boot_len (pa_cons (pv 1) pa_nil)) (pe_callB call_len_seq (by rfl) T.len PySem.boot_len (pa_cons (pe_ix (r := rIxT K) ix_tup (pv 0) pe_int (fun _ _ => rfl)) pa_nil)) (nomark _)))))
        (pss_one (ps_ret (pe_tup (pa_cons pe_str (pa_cons pe_non pa_nil)))))
        pss_nil)
      (pss_cons (ps_if (pt_cmpR (op_neL0 hu) (pe_lc (own := [("at", 2)]) (g := gName 2) (by rfl) sc.nd (pi_tup (pv 1)) (blkOk_by (sc := defScope s_law_due) (N := ["book", "thing_here", "at", "n", "line"]) (own := [("at", 2)]) (by decide +kernel)) (fun _ _ _ _ _ => (pg_name (i := 2) sc.nd rfl (Or.inl rfl))) (fun _ _ _ _ _ => (pts_one (PW.pt (pw_or (pt_not (pt_val (pe_callB (r := rIsi K) call_isi (by rfl) T.isinstance (by decide +kernel) (pa_cons (pv 2) (pa_cons (pe_bltn (v := .ty "int") (by rfl) T.int (by decide +kernel) rfl) pa_nil))))) (pw_or1 (pt_val (pe_callB (r := rIsi K) call_isi (by rfl) T.isinstance (by decide +kernel) (pa_cons (pv 2) (pa_cons (pe_bltn (v := .ty "bool") (by rfl) T.bool (by decide +kernel) rfl) pa_nil))))))))) (fun _ _ _ _ _ => (pv 2))) (pe_lst pa_nil) (nomark _))
        (pss_one (ps_ret (pe_tup (pa_cons pe_str (pa_cons pe_non pa_nil)))))
        pss_nil)
      (pss_cons (ps_for PassesOwn.never rfl (pi_enumT (by rfl) T.enumerate (pa_cons (pv 1) pa_nil)) (pg_tup rfl (pgs_cons (pg_name (i := 3) sc.nd rfl (Or.inl rfl)) (pgs_cons (pg_name (i := 2) sc.nd rfl (Or.inl rfl)) pgs_nil)))
        (pss_one (ps_if (PW.pt (pw_and (pt_cmpR op_notN (pe_ix (r := rIxT K) ix_tup (pe_ix (r := rIxT K) ix_tup (pv 0) pe_int (fun _ _ => rfl)) (pv 3) (fun _ _ => rfl)) pe_non (nomark _)) (pw_and1 (pt_cmpR op_ne (pe_op op_mod (pe_op op_sub (pv 2) (pe_ix (r := rIxT K) ix_tup (pe_ix (r := rIxT K) ix_tup (pv 0) pe_int (fun _ _ => rfl)) (pv 3) (fun _ _ => rfl))) (pe_ix (r := rIxT K) ix_tup (pv 0) pe_int (fun _ _ => rfl))) pe_int (nomark _)))))
          (pss_one (ps_ret (pe_tup (pa_cons pe_str (pa_cons (pv 3) pa_nil)))))
          pss_nil)))
      (pss_cons (ps_for PassesOwn.never rfl (pi_enumT (by rfl) T.enumerate (pa_cons (pe_ix (r := rIxT K) ix_tup (pv 0) pe_int (fun _ _ => rfl)) pa_nil)) (pg_tup rfl (pgs_cons (pg_name (i := 3) sc.nd rfl (Or.inl rfl)) (pgs_cons (pg_name (i := 4) sc.nd rfl (Or.inl rfl)) pgs_nil)))
        (pss_one (ps_if (pt_cmpR op_gt (pe_ix (r := rIxT K) ix_tup (pv 1) (pe_ix (r := rIxT K) ix_tup (pv 4) pe_int (fun _ _ => rfl)) (fun _ _ => rfl)) (pe_op op_add (pe_ix (r := rIxT K) ix_tup (pv 1) (pe_ix (r := rIxT K) ix_tup (pv 4) pe_int (fun _ _ => rfl)) (fun _ _ => rfl)) (pe_ix (r := rIxT K) ix_tup (pv 4) pe_int (fun _ _ => rfl))) (nomark _))
          (pss_one (ps_ret (pe_tup (pa_cons pe_str (pa_cons (pv 3) pa_nil)))))
          pss_nil)))
      (pss_one (ps_ret (pe_tup pa_nil))))))), ?_⟩
    obtain ⟨a, na, la, dv, rfl, ha, hna, ⟨rows, hla, hrows⟩, hdv⟩ := book_inv hb
    have tell : ∀ {H' : Hp} {Q' : VK} {σ : L2.St} {o : Option (Str × Option Nat)}, (∀ b o, H b = some o → H' b = some o) → due b.c b.notes b.lines sh = o → (∀ v H', Q v H' → Q' v H') → ∀ (xs : List V), xs = dueV o → xs.length ≤ sizeLine ∧ ∀ p, H' p = none → Q' (.ref p) (upd H' p (.tup xs)) := by
      intro H' Q' σ o s1 e k xs ex
      refine ⟨sz (by rw [ex]; cases o <;> simp [dueV]), fun p np => k _ _ (q p _ (same_up np s1) (by rw [upd_same, e, ex]))⟩
    walk_at "go"
    refine g_isi (K := K) hx (isi_tup K sh) ?_
    refine g_bl ?_
    by_cases hs : ∃ t us ss, x = .ref t ∧ sh = .tup ss ∧ SqT K H t us ∧ AnSs K H us ss
    rotate_left
    · have hty : (sh.ty == "tuple") = false := by
        cases hx with
        | tup h t => exact absurd ⟨_, _, _, rfl, rfl, h, t⟩ hs
        | _ => rfl
      have hz : sh.sized (b.notes.length : Int) (b.notes.length : Int) = false := by
        cases hx with
        | tup h t => exact absurd ⟨_, _, _, rfl, rfl, h, t⟩ hs
        | _ => rfl
      rw [hty]
      walk_at "go"
      refine g_tup' ?_
      walk_at "go"
      exact tell (σ := []) (fun _ _ h => h) (due_form (days_not hz)) (fun _ _ h => h) _ rfl
    obtain ⟨t, us, ss, rfl, rfl, ht, hss⟩ := hs
    rw [show ((Sh.tup ss).ty == "tuple") = true from rfl]
    walk_at "go"
    refine g_len (K := K) (Or.inr ht) ?_
    walk_at "go"
    refine g_ixT (K := K) (SqT.of ha) rfl ?_
    walk_at "go"
    refine g_len (K := K) (Or.inr (SqT.of hna)) ?_
    rw [List.length_map]
    walk_at "go"
    refine ⟨rfl, ?_⟩
    by_cases hl : us.length = b.notes.length
    rotate_left
    · have hz : (Sh.tup ss).sized (b.notes.length : Int) (b.notes.length : Int) = false := by
        show (decide ((b.notes.length : Int) ≤ (ss.length : Int)) && decide ((ss.length : Int) ≤ b.notes.length)) = false
        rw [← hss.length]
        rcases Nat.lt_or_ge us.length b.notes.length with z | z
        · rw [decide_eq_false (show ¬ (b.notes.length : Int) ≤ us.length by omega)]; rfl
        · rw [decide_eq_false (show ¬ (us.length : Int) ≤ b.notes.length by omega), Bool.and_false]
      rw [show (!decide (V.int (us.length : Int) = V.int (b.notes.length : Int))) = true by simp; omega]
      walk_at "go"
      refine g_tup' ?_
      walk_at "go"
      exact tell (σ := []) (fun _ _ h => h) (due_form (days_not hz)) (fun _ _ h => h) _ rfl
    rw [show (!decide (V.int (us.length : Int) = V.int (b.notes.length : Int))) = false by rw [hl]; simp]
    walk_at "go"
    refine g_tq (K := K) ht ?_
    have hsz : (Sh.tup ss).sized (b.notes.length : Int) (b.notes.length : Int) = true := by
      show (decide ((b.notes.length : Int) ≤ (ss.length : Int)) && decide ((ss.length : Int) ≤ b.notes.length)) = true
      rw [← hss.length, hl]
      simp
    have hdays : Sh.days b.notes.length (.tup ss) = ss.all Sh.isInt := by
      unfold Sh.days
      rw [hsz, Bool.true_and]
    refine LcQ.tup (xs := us) (fun D i H' => (∃ acc : List V, H' D = some (.lst acc) ∧ acc.length ≤ i ∧ (acc = [] ↔ (ss.take i).all Sh.isInt = true)) ∧ ∀ b o, H b = some o → H' b = some o) (fun D nD => ⟨⟨[], upd_same, Nat.le_refl _, by simp⟩, same_up nD fun _ _ h => h⟩) (fun D nD i H' _ h => SqT.same ht h.2) ?_ ?_
    · rintro D nD i y H1 hy ⟨⟨acc, h1, hal, hac⟩, s1⟩
      obtain ⟨sy, e1, hsy⟩ := hss.get hy
      have hi : i < us.length := (List.getElem?_eq_some_iff.mp hy).1
      have n16 := ok.n16
      have e2 : (ss.take (i + 1)).all Sh.isInt = ((ss.take i).all Sh.isInt && sy.isInt) := by
        rw [List.take_succ, e1, List.all_append]
        simp
      walk_at "go"
      refine g_isi (K := K) (hsy.same s1) (isi_int K sy) ?_
      refine g_bl ?_
      have put : sy.isInt = false → ∃ acc, H1 D = some (.lst acc) ∧ acc.length < sizeLine ∧ ((∃ acc' : List V, upd H1 D (.lst (acc ++ [y])) D = some (.lst acc') ∧ acc'.length ≤ i + 1 ∧ (acc' = [] ↔ (ss.take (i + 1)).all Sh.isInt = true)) ∧ ∀ b o, H b = some o → upd H1 D (.lst (acc ++ [y])) b = some o) := fun e =>
        ⟨acc, h1, szl (by omega), ⟨acc ++ [y], upd_same, by simp; omega, by rw [e2, e]; simp⟩, fun b o h => by rw [upd_ne (ne_of_none h nD)]; exact s1 _ _ h⟩
      have pass : sy.isInt = true → ((∃ acc' : List V, H1 D = some (.lst acc') ∧ acc'.length ≤ i + 1 ∧ (acc' = [] ↔ (ss.take (i + 1)).all Sh.isInt = true)) ∧ ∀ b o, H b = some o → H1 b = some o) := fun e =>
        ⟨⟨acc, h1, by omega, by rw [e2, e, Bool.and_true]; exact hac⟩, s1⟩
      cases hsi : sy.isInt with
      | true =>
        rw [show (true || sy.ty == "bool") = true from rfl]
        walk_at "go"
        refine g_isi (K := K) (hsy.same s1) (isi_bool K sy) ?_
        refine g_bl ?_
        have eb : (sy.ty == "bool") = false := by cases sy <;> first | rfl | cases hsi
        rw [eb]
        walk_at "go"
        exact pass hsi
      | false =>
        cases hbb : (sy.ty == "bool") with
        | true =>
          rw [show (false || true) = true from rfl]
          walk_at "go"
          refine g_isi (K := K) (hsy.same s1) (isi_bool K sy) ?_
          refine g_bl ?_
          rw [hbb]
          walk_at "go"
          exact put hsi
        | false =>
          rw [show (false || false) = false from rfl]
          walk_at "go"
          exact put hsi
    · rintro D nD H1 ⟨⟨acc, h1, hal, hac⟩, s1⟩
      rw [List.take_of_length_le (by rw [hss.length]; exact Nat.le_refl _)] at hac
      refine g_lst' ?_
      walk_at "go"
      refine ⟨sz (by simp), fun p2 np2 => ?_⟩
      have s2 := same_up (o := .lst []) np2 s1
      refine g_neL0 (kp np2 h1) upd_same ?_
      refine g_bl ?_
      cases hall : ss.all Sh.isInt with
      | false =>
        rw [decide_eq_false (show ¬ acc = [] from fun z => by rw [hac.mp z] at hall; cases hall)]
        refine g_ift ?_
        walk_at "go"
        refine g_tup' ?_
        walk_at "go"
        exact tell (σ := []) s2 (due_form (by rw [hdays]; exact hall)) (fun _ _ h => h) _ rfl
      | true =>
        rw [decide_eq_true (hac.mpr hall)]
        refine g_iff (g_next ?_)
        obtain ⟨is, rfl, rfl⟩ := ints_all hss hall
        rw [List.length_map] at hl
        have hD := due_ints (c := b.c) (ls := b.lines) (hdays.trans hall)
        rw [hD] at tell
        generalize upd H1 p2 (.lst []) = H2 at s2 ⊢
        walk_at "go"
        refine ⟨t, _, rfl, SqT.same ht s2, ?_⟩
        refine ForQ.enumT (xs := is.map V.int) (fun i σ H' => (∃ x y z, σ = [some (.ref a), some (.ref t), x, y, z]) ∧ (∀ j, j < i → wbad b.c b.notes is j = false) ∧ ∀ b o, H b = some o → H' b = some o) ⟨⟨_, _, _, rfl⟩, (fun j hj => absurd hj (by omega)), s2⟩ (fun i σ H' _ h => SqT.same ht h.2.2) ?_ ?_
        · rintro i x T σ H3 hx3 ⟨⟨u1, u2, u3, rfl⟩, al, s3⟩ nT
          obtain ⟨hi, rfl⟩ := map_at hx3
          have hin : i < b.notes.length := by rw [← hl]; exact hi
          have s4 := same_up (o := .tup [.int (i : Nat), .int is[i]]) nT s3
          refine g_tupg (K := K) (SqT.of upd_same) rfl ?_
          generalize upd H3 T (.tup [.int (i : Nat), .int is[i]]) = H4 at s4 ⊢
          walk_at "go"
          refine g_ixT (K := K) (SqT.of (s4 _ _ ha)) rfl ?_
          walk_at "go"
          refine g_ixT (K := K) (SqT.of (s4 _ _ hna)) (WL.atI_nat (v := noteV b.notes[i]) (by rw [List.getElem?_map, List.getElem?_eq_getElem hin]; rfl)) ?_
          walk_at "go"
          have hc := ok.c2
          have go1 : wbad b.c b.notes is i = false → ∀ j, j < i + 1 → wbad b.c b.notes is j = false := fun e j hj => by
            rcases Nat.lt_or_ge j i with z | z
            · exact al j z
            · rw [show j = i by omega]; exact e
          cases hni : b.notes[i] with
          | none =>
            rw [show (!decide (noteV none = V.non)) = false from rfl]
            walk_at "go"
            refine ⟨⟨_, _, _, rfl⟩, go1 ?_, s4⟩
            unfold wbad
            rw [List.getElem?_eq_getElem hin, hni]
          | some k =>
            rw [show (!decide (noteV (some k) = V.non)) = true from rfl]
            walk_at "go"
            refine g_ixT (K := K) (SqT.of (s4 _ _ ha)) rfl ?_
            walk_at "go"
            refine g_ixT (K := K) (SqT.of (s4 _ _ hna)) (WL.atI_nat (v := V.int k) (by rw [List.getElem?_map, List.getElem?_eq_getElem hin, hni]; rfl)) ?_
            walk_at "go"
            refine g_ixT (K := K) (SqT.of (s4 _ _ ha)) rfl ?_
            walk_at "go"
            obtain ⟨k0, k1⟩ := ok.note k (by rw [← hni]; exact List.getElem_mem hin)
            have eb : wbad b.c b.notes is i = !decide (is[i] % b.c = k) := by
              unfold wbad
              rw [List.getElem?_eq_getElem hin, hni, List.getElem?_eq_getElem hi]
            refine ⟨rfl, ?_⟩
            by_cases e : is[i] % b.c = k
            · rw [(mod_same k0 k1).mpr e]
              rw [show (!decide (V.int 0 = V.int 0)) = false from rfl]
              walk_at "go"
              exact ⟨⟨_, _, _, rfl⟩, go1 (by rw [eb, decide_eq_true e]; rfl), s4⟩
            · rw [show (!decide (V.int ((is[i] - k) % b.c) = V.int 0)) = true by simp; exact fun z => e ((mod_same k0 k1).mp z)]
              walk_at "go"
              refine g_tup' ?_
              walk_at "go"
              exact tell (σ := []) (o := some ("weekday", some i)) s4 (by rw [show wFault b.c b.notes is = some i from first_some hin (by rw [eb, decide_eq_false e]; rfl) al]) (fun _ _ h => h) _ rfl
        · rintro σ H3 ⟨⟨u1, u2, u3, rfl⟩, al, s3⟩
          have hw0 : wFault b.c b.notes is = none := first_none (by rw [List.length_map, hl] at al; exact al)
          rw [hw0] at tell
          walk_at "go"
          refine g_ixT (K := K) (SqT.of (s3 _ _ ha)) rfl ?_
          walk_at "go"
          have hrl : rows.length = b.lines.length := by rw [hrows.length, List.length_map]
          refine ⟨la, _, rfl, SqT.of (s3 _ _ hla), ?_⟩
          refine ForQ.enumT (xs := rows) (fun i σ H' => (∃ x y z, σ = [some (.ref a), some (.ref t), x, y, z]) ∧ (∀ j, j < i → bbad b.lines is j = false) ∧ ∀ b o, H b = some o → H' b = some o) ⟨⟨_, _, _, rfl⟩, (fun j hj => absurd hj (by omega)), s3⟩ (fun i σ H' _ h => SqT.of (h.2.2 _ _ hla)) ?_ ?_
          · rintro i x T σ H4 hx4 ⟨⟨v1, v2, v3, rfl⟩, al2, s4⟩ nT
            have hi : i < b.lines.length := by rw [← hrl]; exact (List.getElem?_eq_some_iff.mp hx4).1
            obtain ⟨r, er, hr2⟩ := fzs_row hrows hi
            rw [hx4] at er
            cases er
            have s5 := same_up (o := .tup [.int (i : Nat), .ref r]) nT s4
            refine g_tupg (K := K) (SqT.of upd_same) rfl ?_
            generalize upd H4 T (.tup [.int (i : Nat), .ref r]) = H5 at s5 ⊢
            obtain ⟨l1, l2, _⟩ := ok.line b.lines[i] (List.getElem_mem hi)
            have e1 : b.lines[i].1.toNat < is.length := by rw [hl]; omega
            have e2 : b.lines[i].2.1.toNat < is.length := by rw [hl]; omega
            walk_at "go"
            refine g_ixT (K := K) (SqT.of (s5 _ _ hr2)) rfl ?_
            walk_at "go"
            refine g_ixT (K := K) (SqT.same ht s5) (atI_at l2.1 (map_get_int (List.getElem?_eq_getElem e2))) ?_
            walk_at "go"
            refine g_ixT (K := K) (SqT.of (s5 _ _ hr2)) rfl ?_
            walk_at "go"
            refine g_ixT (K := K) (SqT.same ht s5) (atI_at l1.1 (map_get_int (List.getElem?_eq_getElem e1))) ?_
            walk_at "go"
            refine g_ixT (K := K) (SqT.of (s5 _ _ hr2)) rfl ?_
            walk_at "go"
            have eb : bbad b.lines is i = decide (is[b.lines[i].1.toNat] + b.lines[i].2.2 < is[b.lines[i].2.1.toNat]) := by
              unfold bbad
              rw [List.getElem?_eq_getElem hi]
              show decide (b.lines[i].2.2 < (is[b.lines[i].2.1.toNat]?).getD 0 - (is[b.lines[i].1.toNat]?).getD 0) = _
              rw [List.getElem?_eq_getElem e2, List.getElem?_eq_getElem e1]
              show decide (b.lines[i].2.2 < is[b.lines[i].2.1.toNat] - is[b.lines[i].1.toNat]) = _
              rw [Bool.eq_iff_iff, decide_eq_true_eq, decide_eq_true_eq]
              omega
            cases hb2 : decide (is[b.lines[i].1.toNat] + b.lines[i].2.2 < is[b.lines[i].2.1.toNat]) with
            | false =>
              rw [hb2] at eb
              walk_at "go"
              refine ⟨⟨_, _, _, rfl⟩, fun j hj => ?_, s5⟩
              rcases Nat.lt_or_ge j i with z | z
              · exact al2 j z
              · rw [show j = i by omega]; exact eb
            | true =>
              rw [hb2] at eb
              walk_at "go"
              refine g_tup' ?_
              walk_at "go"
              exact tell (σ := []) (o := some ("bound", some i)) s5 (by rw [show bFault b.lines is = some i from first_some hi eb al2]; rfl) (fun _ _ h => h) _ rfl
          · rintro σ H4 ⟨⟨v1, v2, v3, rfl⟩, al2, s4⟩
            walk_at "go"
            refine g_tup' ?_
            walk_at "go"
            exact tell (σ := []) (o := none) s4 (by rw [show bFault b.lines is = none from first_none (by rw [hrl] at al2; exact al2)]; rfl) (fun _ _ h => h) _ rfl
end
end K06
set_option Elab.async false
set_option linter.all false
set_option maxRecDepth 100000
set_option maxHeartbeats 400000
namespace K06
open PySem PySem.Spec PyProof.Rows L2 WL
local macro_rules | `(tactic| walk_at "side") => `(tactic| first | (show (_ ∧ _) ∨ (_ ∧ _); omega) | (exact ⟨by omega, by omega⟩) | (show (0 : Int) < _; omega) | omega)
local macro_rules | `(tactic| walk_at "go") => `(tactic| (repeat (first
  | with_reducible refine g_seq ?_ | with_reducible refine g_asgN ?_ | with_reducible refine g_ret ?_ | with_reducible refine g_drop ?_ | with_reducible refine g_ifS ?_ | with_reducible refine g_next ?_
  | with_reducible refine g_var rfl ?_ | with_reducible refine g_c ?_ | with_reducible refine g_op ?_ | with_reducible refine g_un ?_ | with_reducible refine g_rI0 ?_ | ((with_reducible refine g_rI ?_ ?_); next => walk_at "side") | with_reducible refine g_test ?_ | with_reducible refine g_bl ?_
  | with_reducible refine g_nil ?_ | with_reducible refine g_cons ?_ | with_reducible refine g_call ?_ | with_reducible refine g_cb ?_ | with_reducible refine g_if ?_ | with_reducible refine g_par ?_ | with_reducible refine g_two ?_
  | with_reducible refine g_asg ?_ | with_reducible refine g_name ?_ | with_reducible refine g_sub ?_ | with_reducible refine g_yes ?_ | with_reducible refine g_gcons ?_ | with_reducible refine g_gnil ?_ | with_reducible refine g_dget ?_ | with_reducible refine g_dput ?_ | with_reducible refine g_rng1 ?_ | with_reducible refine g_rng2 ?_
  | ((with_reducible refine g_one ?_ ?_); next => omega) | ((with_reducible refine g_twoI ?_ ?_); next => omega) | with_reducible refine g_isNon ?_ | with_reducible refine g_andV ?_ | with_reducible refine g_revT ?_ | with_reducible refine g_itup ?_ | with_reducible refine g_methK0 ?_ | with_reducible refine g_methS ?_ | with_reducible refine g_errF ?_ | with_reducible refine g_prop ?_ | with_reducible refine g_con ?_ | with_reducible refine g_make ?_ | with_reducible refine g_fld ?_ | with_reducible refine g_sfld ?_ | with_reducible refine g_iftn ?_ | with_reducible refine g_iffn ?_ | with_reducible refine g_orV ?_ | with_reducible refine g_notV ?_ | with_reducible refine g_tB ?_ | with_reducible refine g_chain ?_ | with_reducible refine g_neg ?_ | with_reducible refine g_cval ?_ | with_reducible refine g_enumT ?_ | with_reducible refine g_andT ?_ | with_reducible refine g_orT ?_ | with_reducible refine g_notT ?_ | with_reducible refine g_sl ?_ | with_reducible refine g_part ?_ | with_reducible refine g_parI ?_ | with_reducible refine g_noPart ?_ | with_reducible refine g_pcons ?_ | with_reducible refine g_pnil ?_ | with_reducible refine g_list ?_ | with_reducible refine g_lc ?_ | with_reducible refine g_for ?_ | with_reducible refine g_enum ?_ | with_reducible refine g_ift ?_ | with_reducible refine g_iff ?_ | with_reducible refine And.intro rfl ?_ | with_reducible refine g_notNon ?_)))
local macro_rules | `(tactic| walk_at "ex") => `(tactic| (repeat (first
  | with_reducible refine g_seqAsg ?_ | with_reducible refine g_seqFld ?_ | with_reducible refine g_seqDrop ?_ | with_reducible refine g_seqPut ?_ | with_reducible refine g_seqPar ?_ | with_reducible refine g_asgN ?_ | with_reducible refine g_ret ?_ | with_reducible refine g_drop ?_ | with_reducible refine g_next ?_
  | with_reducible refine g_var rfl ?_ | with_reducible refine g_c ?_ | with_reducible refine g_op ?_ | with_reducible refine g_un ?_ | with_reducible refine g_rI0 ?_ | ((with_reducible refine g_rI ?_ ?_); next => walk_at "side") | with_reducible refine g_test ?_ | with_reducible refine g_bl ?_
  | with_reducible refine g_nil ?_ | with_reducible refine g_cons ?_ | with_reducible refine g_call ?_ | with_reducible refine g_cb ?_ | with_reducible refine g_if ?_ | with_reducible refine g_par ?_ | with_reducible refine g_two ?_
  | with_reducible refine g_asg ?_ | with_reducible refine g_name ?_ | with_reducible refine g_sub ?_ | with_reducible refine g_yes ?_ | with_reducible refine g_gcons ?_ | with_reducible refine g_gnil ?_ | with_reducible refine g_dget ?_ | with_reducible refine g_dput ?_ | with_reducible refine g_rng1 ?_ | with_reducible refine g_rng2 ?_
  | ((with_reducible refine g_one ?_ ?_); next => omega) | ((with_reducible refine g_twoI ?_ ?_); next => omega) | with_reducible refine g_isNon ?_ | with_reducible refine g_andV ?_ | with_reducible refine g_revT ?_ | with_reducible refine g_itup ?_ | with_reducible refine g_methK0 ?_ | with_reducible refine g_methS ?_ | with_reducible refine g_errF ?_ | with_reducible refine g_prop ?_ | with_reducible refine g_con ?_ | with_reducible refine g_make ?_ | with_reducible refine g_fld ?_ | with_reducible refine g_sfld ?_ | with_reducible refine g_iftn ?_ | with_reducible refine g_iffn ?_ | with_reducible refine g_orV ?_ | with_reducible refine g_notV ?_ | with_reducible refine g_tB ?_ | with_reducible refine g_chain ?_ | with_reducible refine g_neg ?_ | with_reducible refine g_cval ?_ | with_reducible refine g_enumT ?_ | with_reducible refine g_proj ?_ | with_reducible refine g_andT ?_ | with_reducible refine g_orT ?_ | with_reducible refine g_notT ?_ | with_reducible refine g_sl ?_ | with_reducible refine g_part ?_ | with_reducible refine g_parI ?_ | with_reducible refine g_noPart ?_ | with_reducible refine g_pcons ?_ | with_reducible refine g_pnil ?_ | with_reducible refine g_list ?_ | with_reducible refine g_lc ?_ | with_reducible refine g_enum ?_ | with_reducible refine g_ift ?_ | with_reducible refine g_iff ?_ | with_reducible refine And.intro rfl ?_ | with_reducible refine g_notNon ?_)))
section
variable {P : Program} {w : World} {K : PySem.W.Frag} {mg : Str → Option Value} {base : Heap} {f : Addr} {fd : FuncData}
theorem sc_unl : FnScope ["m", "thing_here", "stock"] ["m", "thing_here"] (defScope s_law_unlike) := ⟨rfl, rfl, rfl, by decide +kernel, rfl, by decide +kernel, by decide +kernel⟩
theorem ok_unl (F : FnT K "_law_unlike" s_law_unlike f fd) (T : Blt mg) (hstr : mg "str" = none) (nd : NoDig K) (hDraw : Has P w K mg base 2 "_law_draw" ["m", "top"] spDraw') : FnOk P w K mg base CX0 3 f fd ["m", "thing_here"] (spUnlike K) := by
  refine F.ok sc_unl (fun vs H Q E h => ?_) (fun cdv A outer s H vs Q E hr h => ?_)
  · obtain ⟨m, c, g, B, x, e, n, k, rfl, _⟩ := h
    rfl
  · obtain ⟨m, c, g, B, x, e, n, k, rfl, hP, hB, hG, he, he5, hn, q⟩ := h
    have sc := sc_unl
    refine ⟨_, PSs.nox (pss_cons (ps_set (i := 2) sc.nd rfl (Or.inl rfl) (pe_lst (pa_cons pe_non (pa_cons pe_bl (pa_cons pe_bl (pa_cons (pe_op op_sub pe_int pe_int) (pa_cons pe_str (pa_cons (pe_tup pa_nil) (pa_cons (pe_lst pa_nil) (pa_cons pe_dnewK (pa_cons pe_str (pa_cons (pe_callTy (call_bigI nd) (by rfl) T.int (by decide +kernel) (pa_cons (pe_op op_mulS pe_str pe_int) pa_nil)) (pa_cons (pe_tup (pa_cons (pv 1) pa_nil)) (pa_cons (pe_lst (pa_cons (pv 1) pa_nil)) pa_nil))))))))))))))
      (pss_cons (ps_if (pt_val (pe_callB call_isi (by rfl) T.isinstance (by decide +kernel) (pa_cons (pv 1) (pa_cons (pe_bltn (v := .ty "int") (by rfl) T.int (by decide +kernel) rfl) pa_nil))))
        (pss_one (ps_set (i := 2) sc.nd rfl (Or.inl rfl) (pe_op op_cat (pv 2) (pe_lst (pa_cons (pe_op op_addV (pv 1) pe_int) (pa_cons (pe_op op_subV (pv 1) pe_int) (pa_cons (pe_op op_subR pe_int (pv 1)) (pa_cons (pe_cmpR op_eqV (pv 1) pe_int (nomark _)) (pa_cons (pe_callTy (call_strV nd) (by rfl) hstr (by decide +kernel) (pa_cons (pv 1) pa_nil)) pa_nil)))))))))
        (pss_one (ps_set (i := 2) sc.nd rfl (Or.inl rfl) (pe_op op_cat (pv 2) (pe_lst (pa_cons (pe_tup (pa_cons pe_int pa_nil)) (pa_cons (pe_tup (pa_cons pe_int (pa_cons pe_int pa_nil))) (pa_cons (pe_tup (pa_cons pe_int (pa_cons pe_int pa_nil))) (pa_cons pe_int (pa_cons (pe_tup (pa_cons pe_int (pa_cons pe_int (pa_cons pe_int pa_nil)))) pa_nil))))))))))
      (pss_one (ps_ret (pe_ix (r := rIxL K) ix_list (pv 2) (pe_has hDraw hr (by decide) (pa_cons (pv 0) (pa_cons pe_int pa_nil))) (fun _ _ => rfl)))))), ?_⟩
    obtain ⟨big, hbig, b0, b1⟩ := long7'
    have bg : ∀ {H'}, Gd m g H' (e + 1) (n + 2) (k + 1100) (.int big) := gd_int (Nat.lt_of_lt_of_le (show big.natAbs < 10 ^ 1000 by generalize (10 : Nat) ^ 1000 = BB at *; omega) (Nat.pow_le_pow_right (by decide) (by omega)))
    have sm : ∀ {H'} {i : Int}, -99999 ≤ i ∧ i ≤ 99999 → Gd m g H' (e + 1) (n + 2) (k + 1100) (.int i) := fun h => gd_int (small_int (by omega) h)
    walk_at "go"
    refine g_lst' ?_
    walk_at "go"
    refine g_tup' ?_
    walk_at "go"
    refine ⟨sz (by simp), fun p1 np1 => ?_⟩
    obtain ⟨m1, g1, P1, S1⟩ := hP.grow np1 (.tup [])
    have A1 : Gd m g (upd H p1 (.tup [])) (e + 1) (n + 2) (k + 1100) (.ref p1) := gd_tup (n := n + 1) (k := 0) (xs := []) upd_same m1 g1 (fun x z => nomatch z) (by simp)
    have G1 := hG.go S1
    generalize upd H p1 (.tup []) = H1 at P1 S1 A1 G1 ⊢
    walk_at "go"
    refine g_lst' ?_
    walk_at "go"
    refine ⟨sz (by simp), fun p2 np2 => ?_⟩
    obtain ⟨m2, g2, P2, S2⟩ := P1.grow np2 (.lst [])
    have A2 := gd_all (vs := [.ref p1]) (fun v hv => by rw [List.mem_singleton.mp hv]; exact A1) S2 (y := .ref p2) (gd_lst (n := n + 1) (k := 0) (xs := []) upd_same m2 g2 (fun x z => nomatch z) (by simp))
    have G2 := G1.go S2
    generalize upd H1 p2 (.lst []) = H2 at P2 S2 A2 G2 ⊢
    refine g_cons ?_
    refine g_dnew fun p3 np3 => ?_
    obtain ⟨m3, g3, P3, S3⟩ := P2.grow np3 (.dK [])
    have A3 := gd_all A2 S3 (y := .ref p3) (gd_dct upd_same m3 g3)
    have G3 := G2.go S3
    generalize upd H2 p3 (.dK []) = H3 at P3 S3 A3 G3 ⊢
    walk_at "go"
    refine ⟨"7", 1000, rfl, rfl, by decide, by decide, rfl, many7, ?_⟩
    walk_at "go"
    refine ⟨_, big, rfl, hbig, ?_⟩
    walk_at "go"
    refine g_tup' ?_
    walk_at "go"
    refine ⟨sz (by simp), fun p4 np4 => ?_⟩
    obtain ⟨m4, g4, P4, S4⟩ := P3.grow np4 (.tup [x])
    have one : ∀ {H' : Hp} {z : V}, Gd m g H' e n k z → ∀ v ∈ [z], Gd m g H' (e + 1) (n + 1) k v := fun h v hv => by rw [List.mem_singleton.mp hv]; exact h.more (by omega) (by omega) (by omega)
    have G4 := G3.go S4
    have A4 := gd_all A3 S4 (y := .ref p4) (gd_tup (n := n + 1) (k := k) upd_same m4 g4 (one G4) (by simp))
    generalize upd H3 p4 (.tup [x]) = H4 at P4 S4 A4 G4 ⊢
    walk_at "go"
    refine g_lst' ?_
    walk_at "go"
    refine ⟨sz (by simp), fun p5 np5 => ?_⟩
    obtain ⟨m5, g5, P5, S5⟩ := P4.grow np5 (.lst [x])
    have G5 := G4.go S5
    have A5 := gd_all A4 S5 (y := .ref p5) (gd_lst (n := n + 1) (k := k) upd_same m5 g5 (one G5) (by simp))
    generalize upd H4 p5 (.lst [x]) = H5 at P5 S5 A5 G5 ⊢
    walk_at "go"
    refine ⟨sz (by simp), fun p6 np6 => ?_⟩
    have first : ∀ v ∈ [V.non, .bl true, .bl false, .int (0 - 1), .str "", .ref p1, .ref p2, .ref p3, .str "0", .int big, .ref p4, .ref p5], Gd m g H5 (e + 1) (n + 2) (k + 1100) v := by
      intro v hv
      simp only [List.mem_cons, List.not_mem_nil, or_false] at hv
      rcases hv with rfl | rfl | rfl | rfl | rfl | rfl | rfl | rfl | rfl | rfl | rfl | rfl
      · exact gd_non
      · exact gd_bl
      · exact gd_bl
      · exact sm ⟨by decide, by decide⟩
      · exact gd_str (text_signs "") (Nat.zero_le _)
      · exact A5 _ (by simp)
      · exact A5 _ (by simp)
      · exact A5 _ (by simp)
      · exact gd_str (text_signs "0") (by show 1 ≤ _; omega)
      · exact bg
      · exact A5 _ (by simp)
      · exact A5 _ (by simp)
    have hlen : [V.non, .bl true, .bl false, .int (0 - 1), .str "", .ref p1, .ref p2, .ref p3, .str "0", .int big, .ref p4, .ref p5].length = 12 := rfl
    generalize hst : [V.non, .bl true, .bl false, .int (0 - 1), .str "", .ref p1, .ref p2, .ref p3, .str "0", .int big, .ref p4, .ref p5] = st at first hlen
    obtain ⟨m6, g6, P6, S6⟩ := P5.grow np6 (.lst st)
    have G6 := G5.go S6
    have A6 := gd_keep first S6
    have h6 : upd H5 p6 (.lst st) p6 = some (.lst st) := upd_same
    generalize upd H5 p6 (.lst st) = H6 at P6 S6 A6 G6 h6 ⊢
    refine g_proj ?_
    refine g_join (fun σ' H' => ∃ (L : Addr) (items : List V), σ' = [some (.ref m), some x, some (.ref L)] ∧ H' L = some (.lst items) ∧ items.length = 17 ∧ L ≠ m ∧ L ≠ g ∧ Pr m c g H H' B ∧ ∀ v ∈ items, Gd m g H' (e + 1) (n + 2) (k + 1100) v) (fun D' hD' _ _ _ => ?_) ?_
    · walk_at "go"
      obtain ⟨sx, hsx⟩ := G6.ans (K := K)
      refine g_isi (K := K) hsx (isi_int K sx) ?_
      refine g_bl ?_
      cases hb : (sx.isInt || sx.ty == "bool") with
      | true =>
        obtain ⟨i, hi⟩ := num_of hsx hb
        have hlt := G6.num (by omega) hi
        walk_at "go"
        refine g_lst' ?_
        refine g_cons ?_
        walk_at "go"
        refine ⟨i, 1, hi, rfl, ?_⟩
        walk_at "go"
        refine ⟨i, 1, hi, rfl, ?_⟩
        walk_at "go"
        refine ⟨0, i, rfl, hi, ?_⟩
        walk_at "go"
        refine ⟨i, 1, hi, rfl, ?_⟩
        walk_at "go"
        refine ⟨x, i, rfl, hi, Nat.lt_of_lt_of_le hlt (Nat.pow_le_pow_right (by decide) (by omega)), ?_⟩
        walk_at "go"
        refine ⟨sz (by simp), fun p7 np7 => ?_⟩
        obtain ⟨m7, g7, P7, S7⟩ := P6.grow np7 (.lst [.int (i + 1), .int (i - 1), .int (0 - i), .bl (i == 1), .str (textV x)])
        refine ⟨p6, p7, st, _, rfl, rfl, kp np7 h6, upd_same, sz (by rw [hlen]; simp), fun p8 np8 => ?_⟩
        obtain ⟨m8, g8, P8, S8⟩ := P7.grow np8 (.lst (st ++ [.int (i + 1), .int (i - 1), .int (0 - i), .bl (i == 1), .str (textV x)]))
        refine hD' _ _ ⟨p8, _, rfl, upd_same, by rw [List.length_append, hlen]; rfl, m8, g8, P8, ?_⟩
        refine gd_app (gd_keep A6 (S7.trans S8)) fun v hv => ?_
        simp only [List.mem_cons, List.not_mem_nil, or_false] at hv
        rcases hv with rfl | rfl | rfl | rfl | rfl
        · exact gd_int (near hlt (by omega))
        · exact gd_int (near hlt (by omega))
        · exact gd_int (near hlt (by omega))
        · exact gd_bl
        · exact (gd_textV hi (by omega) hlt).more (by omega) (Nat.le_refl _) (by omega)
      | false =>
        walk_at "go"
        refine g_lst' ?_
        refine g_cons ?_
        refine g_tup' ?_
        walk_at "go"
        refine ⟨sz (by simp), fun p7 np7 => ?_⟩
        obtain ⟨m7, g7, P7, S7⟩ := P6.grow np7 (.tup [.int 0])
        have a7 : Gd m g (upd H6 p7 (.tup [.int 0])) (e + 1) (n + 2) (k + 1100) (.ref p7) := gd_ints (n := n + 1) (is := [0]) upd_same m7 g7 (fun i hi => small_int (by omega) (by simp at hi; omega)) (by simp)
        have A7 := gd_all A6 S7 a7
        have h7 := kp (o' := .tup [.int 0]) np7 h6
        generalize upd H6 p7 (.tup [.int 0]) = H7 at P7 S7 A7 h7 ⊢
        walk_at "go"
        refine g_tup' ?_
        walk_at "go"
        refine ⟨sz (by simp), fun p8 np8 => ?_⟩
        obtain ⟨m8, g8, P8, S8⟩ := P7.grow np8 (.tup [.int 1, .int 0])
        have a8 : Gd m g (upd H7 p8 (.tup [.int 1, .int 0])) (e + 1) (n + 2) (k + 1100) (.ref p8) := gd_ints (n := n + 1) (is := [1, 0]) upd_same m8 g8 (fun i hi => small_int (by omega) (by simp at hi; omega)) (by simp)
        have A8 := gd_all A7 S8 a8
        have h8 := kp (o' := .tup [.int 1, .int 0]) np8 h7
        generalize upd H7 p8 (.tup [.int 1, .int 0]) = H8 at P8 S8 A8 h8 ⊢
        walk_at "go"
        refine g_tup' ?_
        walk_at "go"
        refine ⟨sz (by simp), fun p9 np9 => ?_⟩
        obtain ⟨m9, g9, P9, S9⟩ := P8.grow np9 (.tup [.int 0, .int 0])
        have a9 : Gd m g (upd H8 p9 (.tup [.int 0, .int 0])) (e + 1) (n + 2) (k + 1100) (.ref p9) := gd_ints (n := n + 1) (is := [0, 0]) upd_same m9 g9 (fun i hi => small_int (by omega) (by simp at hi; omega)) (by simp)
        have A9 := gd_all A8 S9 a9
        have h9 := kp (o' := .tup [.int 0, .int 0]) np9 h8
        generalize upd H8 p9 (.tup [.int 0, .int 0]) = H9 at P9 S9 A9 h9 ⊢
        walk_at "go"
        refine g_tup' ?_
        walk_at "go"
        refine ⟨sz (by simp), fun pa npa => ?_⟩
        obtain ⟨ma, ga, Pa, Sa⟩ := P9.grow npa (.tup [.int 0, .int 2, .int 1])
        have aa : Gd m g (upd H9 pa (.tup [.int 0, .int 2, .int 1])) (e + 1) (n + 2) (k + 1100) (.ref pa) := gd_ints (n := n + 1) (is := [0, 2, 1]) upd_same ma ga (fun i hi => small_int (by omega) (by simp at hi; omega)) (by simp)
        have Aa := gd_all A9 Sa aa
        have ha := kp (o' := .tup [.int 0, .int 2, .int 1]) npa h9
        generalize upd H9 pa (.tup [.int 0, .int 2, .int 1]) = Ha at Pa Sa Aa ha ⊢
        walk_at "go"
        refine ⟨sz (by simp), fun pb npb => ?_⟩
        obtain ⟨mb, gb, Pb, Sb⟩ := Pa.grow npb (.lst [.ref p7, .ref p8, .ref p9, .int 5, .ref pa])
        refine ⟨p6, pb, st, _, rfl, rfl, kp npb ha, upd_same, sz (by rw [hlen]; simp), fun pc npc => ?_⟩
        obtain ⟨mc, gc, Pc, Sc⟩ := Pb.grow npc (.lst (st ++ [.ref p7, .ref p8, .ref p9, .int 5, .ref pa]))
        refine hD' _ _ ⟨pc, _, rfl, upd_same, by rw [List.length_append, hlen]; rfl, mc, gc, Pc, ?_⟩
        have Ab := gd_keep Aa (Sb.trans Sc)
        intro v hv
        rcases List.mem_append.mp hv with h | h
        · exact Ab v (by simp [h])
        · simp only [List.mem_cons, List.not_mem_nil, or_false] at h
          rcases h with rfl | rfl | rfl | rfl | rfl
          · exact Ab _ (by simp)
          · exact Ab _ (by simp)
          · exact Ab _ (by simp)
          · exact sm ⟨by decide, by decide⟩
          · exact Ab _ (by simp)
    · rintro σ' H' ⟨L, items, rfl, hL, hil, Lm, Lg, P', A'⟩
      walk_at "go"
      refine ⟨m, c, g, B, 17, rfl, P'.self, by omega, ⟨by decide, by decide⟩, fun kk H'' a0 b0 q' => ?_⟩
      have P2 := P'.trans q'
      refine g_ixPick (SqL.of (q'.keep hL Lm Lg)) a0 (by rw [hil]; exact b0) fun v hv => ?_
      exact q v H'' P2 ((A' v hv).go (Go.pr q'))
end
end K06
set_option Elab.async false
set_option linter.all false
set_option maxRecDepth 100000
set_option maxHeartbeats 400000
namespace K06
open PySem PySem.Spec PyProof.Rows L2 WL
local macro_rules | `(tactic| walk_at "side") => `(tactic| first | (show (_ ∧ _) ∨ (_ ∧ _); omega) | (exact ⟨by omega, by omega⟩) | (show (0 : Int) < _; omega) | omega)
local macro_rules | `(tactic| walk_at "go") => `(tactic| (repeat (first
  | with_reducible refine g_seq ?_ | with_reducible refine g_asgN ?_ | with_reducible refine g_ret ?_ | with_reducible refine g_drop ?_ | with_reducible refine g_ifS ?_ | with_reducible refine g_next ?_
  | with_reducible refine g_var rfl ?_ | with_reducible refine g_c ?_ | with_reducible refine g_op ?_ | with_reducible refine g_un ?_ | with_reducible refine g_rI0 ?_ | ((with_reducible refine g_rI ?_ ?_); next => walk_at "side") | with_reducible refine g_test ?_ | with_reducible refine g_bl ?_
  | with_reducible refine g_nil ?_ | with_reducible refine g_cons ?_ | with_reducible refine g_call ?_ | with_reducible refine g_cb ?_ | with_reducible refine g_if ?_ | with_reducible refine g_par ?_ | with_reducible refine g_two ?_
  | with_reducible refine g_asg ?_ | with_reducible refine g_name ?_ | with_reducible refine g_sub ?_ | with_reducible refine g_yes ?_ | with_reducible refine g_gcons ?_ | with_reducible refine g_gnil ?_ | with_reducible refine g_dget ?_ | with_reducible refine g_dput ?_ | with_reducible refine g_rng1 ?_ | with_reducible refine g_rng2 ?_
  | ((with_reducible refine g_one ?_ ?_); next => omega) | ((with_reducible refine g_twoI ?_ ?_); next => omega) | with_reducible refine g_isNon ?_ | with_reducible refine g_andV ?_ | with_reducible refine g_revT ?_ | with_reducible refine g_itup ?_ | with_reducible refine g_methK0 ?_ | with_reducible refine g_methS ?_ | with_reducible refine g_errF ?_ | with_reducible refine g_prop ?_ | with_reducible refine g_con ?_ | with_reducible refine g_make ?_ | with_reducible refine g_fld ?_ | with_reducible refine g_sfld ?_ | with_reducible refine g_iftn ?_ | with_reducible refine g_iffn ?_ | with_reducible refine g_orV ?_ | with_reducible refine g_notV ?_ | with_reducible refine g_tB ?_ | with_reducible refine g_chain ?_ | with_reducible refine g_neg ?_ | with_reducible refine g_cval ?_ | with_reducible refine g_enumT ?_ | with_reducible refine g_andT ?_ | with_reducible refine g_orT ?_ | with_reducible refine g_notT ?_ | with_reducible refine g_sl ?_ | with_reducible refine g_part ?_ | with_reducible refine g_parI ?_ | with_reducible refine g_noPart ?_ | with_reducible refine g_pcons ?_ | with_reducible refine g_pnil ?_ | with_reducible refine g_list ?_ | with_reducible refine g_lc ?_ | with_reducible refine g_for ?_ | with_reducible refine g_enum ?_ | with_reducible refine g_ift ?_ | with_reducible refine g_iff ?_ | with_reducible refine And.intro rfl ?_ | with_reducible refine g_notNon ?_)))
local macro_rules | `(tactic| walk_at "ex") => `(tactic| (repeat (first
  | with_reducible refine g_seqAsg ?_ | with_reducible refine g_seqFld ?_ | with_reducible refine g_seqDrop ?_ | with_reducible refine g_seqPut ?_ | with_reducible refine g_seqPar ?_ | with_reducible refine g_asgN ?_ | with_reducible refine g_ret ?_ | with_reducible refine g_drop ?_ | with_reducible refine g_next ?_
  | with_reducible refine g_var rfl ?_ | with_reducible refine g_c ?_ | with_reducible refine g_op ?_ | with_reducible refine g_un ?_ | with_reducible refine g_rI0 ?_ | ((with_reducible refine g_rI ?_ ?_); next => walk_at "side") | with_reducible refine g_test ?_ | with_reducible refine g_bl ?_
  | with_reducible refine g_nil ?_ | with_reducible refine g_cons ?_ | with_reducible refine g_call ?_ | with_reducible refine g_cb ?_ | with_reducible refine g_if ?_ | with_reducible refine g_par ?_ | with_reducible refine g_two ?_
  | with_reducible refine g_asg ?_ | with_reducible refine g_name ?_ | with_reducible refine g_sub ?_ | with_reducible refine g_yes ?_ | with_reducible refine g_gcons ?_ | with_reducible refine g_gnil ?_ | with_reducible refine g_dget ?_ | with_reducible refine g_dput ?_ | with_reducible refine g_rng1 ?_ | with_reducible refine g_rng2 ?_
  | ((with_reducible refine g_one ?_ ?_); next => omega) | ((with_reducible refine g_twoI ?_ ?_); next => omega) | with_reducible refine g_isNon ?_ | with_reducible refine g_andV ?_ | with_reducible refine g_revT ?_ | with_reducible refine g_itup ?_ | with_reducible refine g_methK0 ?_ | with_reducible refine g_methS ?_ | with_reducible refine g_errF ?_ | with_reducible refine g_prop ?_ | with_reducible refine g_con ?_ | with_reducible refine g_make ?_ | with_reducible refine g_fld ?_ | with_reducible refine g_sfld ?_ | with_reducible refine g_iftn ?_ | with_reducible refine g_iffn ?_ | with_reducible refine g_orV ?_ | with_reducible refine g_notV ?_ | with_reducible refine g_tB ?_ | with_reducible refine g_chain ?_ | with_reducible refine g_neg ?_ | with_reducible refine g_cval ?_ | with_reducible refine g_enumT ?_ | with_reducible refine g_proj ?_ | with_reducible refine g_andT ?_ | with_reducible refine g_orT ?_ | with_reducible refine g_notT ?_ | with_reducible refine g_sl ?_ | with_reducible refine g_part ?_ | with_reducible refine g_parI ?_ | with_reducible refine g_noPart ?_ | with_reducible refine g_pcons ?_ | with_reducible refine g_pnil ?_ | with_reducible refine g_list ?_ | with_reducible refine g_lc ?_ | with_reducible refine g_enum ?_ | with_reducible refine g_ift ?_ | with_reducible refine g_iff ?_ | with_reducible refine And.intro rfl ?_ | with_reducible refine g_notNon ?_)))
section
variable {P : Program} {w : World} {K : PySem.W.Frag} {mg : Str → Option Value} {base : Heap} {f : Addr} {fd : FuncData}
theorem sc_chg : FnScope ["m", "thing_here", "at", "kind", "ahead", "behind"] ["m", "thing_here"] (defScope s_law_changed) := ⟨rfl, rfl, rfl, by decide +kernel, rfl, by decide +kernel, by decide +kernel⟩
theorem ok_chg (F : FnT K "_law_changed" s_law_changed f fd) (hm : mg "_law_changed" = some (.ref f)) (hb : Binds K fd ["m", "thing_here"] []) (T : Blt mg) (hDraw : Has P w K mg base 2 "_law_draw" ["m", "top"] spDraw') (hUnlike : Has P w K mg base 3 "_law_unlike" ["m", "thing_here"] (spUnlike K)) : ∀ N, FnOk P w K mg base CX0 (3 + N) f fd ["m", "thing_here"] (spChg K N) := by
  intro N
  induction N with
  | zero => exact ⟨fun vs H Q E h => h.elim, fun A outer s H ar us vs Q E _ _ _ _ h => h.elim⟩
  | succ N ih =>
  have hRec : Has P w K mg base (3 + N) "_law_changed" ["m", "thing_here"] (spChg K N) := ⟨f, fd, hm, F.kp, hb, ih⟩
  refine F.ok (k := 3 + N) sc_chg (fun vs H Q E h => ?_) (fun cdv A outer s H vs Q E hr h => ?_)
  · obtain ⟨m, c, g, B, x, e, n, k, rfl, _⟩ := h
    rfl
  · obtain ⟨m, c, g, B, x, e, n, k, rfl, hP, hB, hG, he, he5, hn, hN, hk, q⟩ := h
    have sc := sc_chg
    have hu := hr.units
    refine ⟨_, PSs.nox (pss_cons (ps_if (PW.pt (pw_or (pt_not (pt_val (pe_callB call_isi (by rfl) T.isinstance (by decide +kernel) (pa_cons (pv 1) (pa_cons (pe_bltn (v := .ty "tuple") (by rfl) T.tuple (by decide +kernel) rfl) pa_nil))))) (pw_or (pt_cmpR (op_eqT0 hu) (pv 1) (pe_tup pa_nil) (nomark _)) (pw_or1 (pt_cmpR op_eq (pe_has hDraw hr (by omega) (pa_cons (pv 0) (pa_cons pe_int pa_nil))) pe_int (nomark _))))))
        (pss_one (ps_ret (pe_has hUnlike hr (by omega) (pa_cons (pv 0) (pa_cons (pv 1) pa_nil)))))
        pss_nil)
      (pss_cons (ps_par (i := 2) (j := 3) (by rfl) sc.nd rfl rfl (by decide) rfl rfl (pa_cons (pe_has hDraw hr (by omega) (pa_cons (pv 0) (pa_cons (pe_callB call_len_seq (by rfl) T.len PySem.boot_len (pa_cons (pv 1) pa_nil)) pa_nil))) (pa_cons (pe_has hDraw hr (by omega) (pa_cons (pv 0) (pa_cons pe_int pa_nil))) pa_nil)) (by rfl))
      (pss_cons (ps_par (i := 4) (j := 5) (by rfl) sc.nd rfl rfl (by decide) rfl rfl (pa_cons (pe_slice sl_tupA (pv 1) po_none (po_some (pv 2))) (pa_cons (pe_slice sl_tupA (pv 1) (po_some (pe_op op_add (pv 2) pe_int)) po_none) pa_nil)) (by rfl))
      (pss_cons (ps_if (pt_cmpR op_lt (pv 3) pe_int (nomark _))
        (pss_one (ps_ret (pe_ix (r := rIxL K) ix_list (pe_lst (pa_cons (pe_op op_catA (pv 4) (pv 5)) (pa_cons (pe_op op_catA (pe_op op_catA (pv 4) (pe_op op_repT1 (pe_slice sl_tupA (pv 1) (po_some (pv 2)) (po_some (pe_op op_add (pv 2) pe_int))) pe_int)) (pv 5)) (pa_cons (pe_callTy call_list_of (by rfl) T.list (by decide +kernel) (pa_cons (pv 1) pa_nil)) pa_nil)))) (pv 3) (fun _ _ => rfl))))
        pss_nil)
      (pss_cons (ps_if (pt_cmpR op_eq (pv 3) pe_int (nomark _))
        (pss_one (ps_ret (pe_op op_catA (pe_op op_catA (pv 4) (pe_revT (pe_slice sl_tupA (pv 1) (po_some (pv 2)) (po_some (pe_op op_add (pv 2) pe_int))))) (pe_slice sl_tupA (pv 1) (po_some (pe_op op_add (pv 2) pe_int)) po_none))))
        pss_nil)
      (pss_one (ps_ret (pe_op op_catA (pe_op op_catA (pv 4) (pe_tup (pa_cons (pe_has hRec hr (by omega) (pa_cons (pv 0) (pa_cons (pe_ix (r := rIxT K) ix_tup (pv 1) (pv 2) (fun _ _ => rfl)) pa_nil))) pa_nil))) (pv 5))))))))), ?_⟩
    have unl : ∀ {H' : Hp}, Pr m c g H H' (B + 1) → Gd m g H' e n k x → spUnlike K [.ref m, x] H' Q E0 := fun p' g' =>
      ⟨m, c, g, B + 1, x, e, n, k, rfl, p'.self, by omega, g', he, he5, by omega, fun y H2 p2 g2 => q y H2 ((p'.trans p2).le (by omega)) (g2.more (Nat.le_refl _) (Nat.le_refl _) (by omega))⟩
    walk_at "go"
    obtain ⟨d, hd, hf, hbk⟩ := id hG
    by_cases hs : ∃ a xs ds, x = .ref a ∧ d = .tuple ds ∧ calm m g H a = some (.tup xs) ∧ DqBs (calm m g H) xs ds
    rotate_left
    · have hx : AnS K H x (shOf d) := (hd.same calm_same).ans
      refine g_isi (K := K) hx (isi_tup K _) ?_
      refine g_bl ?_
      have e0 : ((shOf d).ty == "tuple") = false := by
        cases hd with
        | tup a b => exact absurd ⟨_, _, _, rfl, rfl, a, b⟩ hs
        | _ => simp [shOf, Sh.ty]
      rw [e0]
      walk_at "go"
      exact unl (hP.le (by omega)) hG
    obtain ⟨a, xs, ds, rfl, rfl, ca, hds⟩ := hs
    obtain ⟨n', rfl⟩ : ∃ n', n = n' + 1 := by
      cases n with
      | zero => exact hf.elim
      | succ n' => exact ⟨n', rfl⟩
    have hfd : ∀ d ∈ ds, Fit e n' d := hf
    rw [PyData.bulk.eq_3] at hbk
    have hlen : xs.length = ds.length := hds.length
    have hlb := len_bulk ds
    have ha := calm_same _ _ ca
    refine g_isi (K := K) (hd.same calm_same).ans (isi_tup K _) ?_
    refine g_bl ?_
    rw [show ((shOf (PyData.tuple ds)).ty == "tuple") = true by simp [shOf, Sh.ty]]
    walk_at "go"
    refine g_tup' ?_
    walk_at "go"
    refine ⟨sz (by simp), fun p0 np0 => ?_⟩
    obtain ⟨m0, g0, P0, S0⟩ := hP.grow np0 (.tup [])
    refine g_eqT0 (K := K) (SqT.of (kp np0 ha)) upd_same ?_
    generalize upd H p0 (.tup []) = H0 at P0 S0 ⊢
    refine g_bl ?_
    by_cases hxs : xs = []
    · rw [decide_eq_true hxs]
      walk_at "go"
      exact unl (P0.le (by omega)) (hG.go S0)
    rw [decide_eq_false hxs]
    have hpos : 0 < xs.length := by
      cases xs with
      | nil => exact absurd rfl hxs
      | cons => simp
    walk_at "go"
    refine ⟨m, c, g, B, 6, rfl, P0.self, by omega, ⟨by decide, by decide⟩, fun k6 H1 a6 b6 q1 => ?_⟩
    have P1 := P0.trans q1
    have S1 := S0.trans (Go.pr q1)
    walk_at "go"
    refine ⟨rfl, ?_⟩
    refine g_bl ?_
    cases h6 : decide (V.int k6 = V.int 0) with
    | true =>
      walk_at "go"
      exact unl P1 (hG.go S1)
    | false =>
    walk_at "go"
    refine g_len (K := K) (Or.inr (SqT.of (calm_same _ _ (S1 _ _ ca)))) ?_
    walk_at "go"
    refine ⟨m, c, g, B + 1, (xs.length : Int), rfl, P1.self, by omega, ⟨by omega, by omega⟩, fun ka H2 a2 b2 q2 => ?_⟩
    have P2 := P1.trans q2
    have S2 := S1.trans (Go.pr q2)
    obtain ⟨i, rfl⟩ : ∃ i : Nat, ka = i := ⟨ka.toNat, by omega⟩
    have hi : i < xs.length := by omega
    obtain ⟨di, edi⟩ : ∃ di, ds[i]? = some di := ⟨ds[i]'(by omega), List.getElem?_eq_getElem _⟩
    have bi := bulk_at edi
    walk_at "go"
    refine ⟨m, c, g, B + 1 + 1, 12, rfl, P2.self, by omega, ⟨by decide, by decide⟩, fun kk H3 a3 b3 q3 => ?_⟩
    have P3 : Pr m c g H H3 (B + 3) := (P2.trans q3).le (by omega)
    have S3 := S2.trans (Go.pr q3)
    walk_at "go"
    have h3 := calm_same _ _ (S3 _ _ ca)
    refine g_slA (K := K) h3 fun p4 H4 nt4 e4 => ?_
    rw [cut_takeV] at e4
    walk_at "go"
    refine g_slA (K := K) (nt4.same _ _ h3) fun p5 H5 nt5 e5 => ?_
    rw [cut_from xs (i := i + 1) (by omega)] at e5
    have e45 := nt5.same _ _ e4
    have nt35 := nt4.trans nt5
    have P5 := P3.nt nt35
    have S5 := S3.trans (Go.nt nt35)
    have h5 := nt35.same _ _ h3
    -- what is handed back at the end: a tuple of items that are known
    have fin : ∀ {H' : Hp} {p : Addr} {ys : List V} {es : List PyData}, Pr m c g H H' (B + 3) → Go m g H H' → H' p = some (.tup ys) → DqBs (calm m g H') ys es → (∀ d ∈ es, Fit e n' d) → PyData.bulkAll es ≤ 2 * k → Q (.ref p) H' := by
      intro H' p ys es p' s' hp' hz hfz hb'
      obtain ⟨z1, z2⟩ := p'.tup_ne hp'
      exact q _ _ (p'.le (by omega)) ((gd_tupD hp' z1 z2 hz hfz hb').more (by omega) (by omega) (by omega))
    have D5 : DqBs (calm m g H5) xs ds := hds.same S5
    have bt := bulk_td ds i
    have take_ok : ∀ j, ∀ d ∈ ds.take j, Fit e n' d := fun j d h => hfd d (List.mem_of_mem_take h)
    have drop_ok : ∀ j, ∀ d ∈ ds.drop j, Fit e n' d := fun j d h => hfd d (List.mem_of_mem_drop h)
    walk_at "go"
    by_cases k3 : kk < 3
    · rw [decide_eq_true k3]
      walk_at "go"
      refine g_lst' ?_
      refine g_cons ?_
      walk_at "go"
      refine g_catA (K := K) e45 e5 (by simp; omega) fun p6 H6 nt6 e6 => ?_
      walk_at "go"
      refine g_slA (K := K) (nt6.same _ _ h5) fun p7 H7 nt7 e7 => ?_
      rw [cut_mid xs (i := i) (k := 1) (by omega) (show (i : Int) + 1 = (i : Int) + ((1 : Nat) : Int) from rfl)] at e7
      walk_at "go"
      have hone : (xs.drop i).take 1 ≠ [] := by
        intro z
        have := congrArg List.length z
        simp at this
        omega
      refine g_repT1 (K := K) e7 hone (by decide) (by decide) (by simp; omega) fun p8 H8 s8 e8 => ?_
      walk_at "go"
      have e48 := s8 _ _ (nt7.same _ _ (nt6.same _ _ e45))
      refine g_catA (K := K) e48 e8 (by simp; omega) fun p9 H9 nt9 e9 => ?_
      walk_at "go"
      have e59 := nt9.same _ _ (s8 _ _ (nt7.same _ _ (nt6.same _ _ e5)))
      refine g_catA (K := K) e9 e59 (by simp; omega) fun pa Ha nta ea => ?_
      walk_at "go"
      have hA := nta.same _ _ (nt9.same _ _ (s8 _ _ (nt7.same _ _ (nt6.same _ _ h5))))
      refine ⟨a, xs, rfl, Or.inr (SqT.of hA), fun pb npb => ?_⟩
      have sAll : ∀ b o, H5 b = some o → Ha b = some o := fun b o h => nta.same _ _ (nt9.same _ _ (s8 _ _ (nt7.same _ _ (nt6.same _ _ h))))
      have PA := P5.wide sAll
      have SA : Go m g H5 Ha := Go.same sAll
      obtain ⟨mb, gb, Pb, Sb⟩ := PA.grow npb (.lst xs)
      have Sb5 := S5.trans (SA.trans Sb)
      have Db := D5.same (SA.trans Sb)
      have nab : ∀ b o, H5 b = some o → upd Ha pb (.lst xs) b = some o := fun b o h => kp npb (sAll b o h)
      have e6b := kp (o' := .lst xs) npb (nta.same _ _ (nt9.same _ _ (s8 _ _ (nt7.same _ _ e6))))
      have eab := kp (o' := .lst xs) npb ea
      have hpb : upd Ha pb (.lst xs) pb = some (.lst xs) := upd_same
      generalize upd Ha pb (.lst xs) = Hb at Pb Sb Sb5 Db nab e6b eab hpb ⊢
      walk_at "go"
      refine ⟨sz (by simp), fun pc npc => ?_⟩
      obtain ⟨mc, gc, Pc, Sc⟩ := Pb.grow npc (.lst [.ref p6, .ref pa, .ref pb])
      have Sc5 := Sb5.trans Sc
      have Dc := Db.same Sc
      walk_at "go"
      refine g_ixPick (SqL.of upd_same) a3 (by simpa using k3) fun v hv => ?_
      simp only [List.mem_cons, List.not_mem_nil, or_false] at hv
      rcases hv with rfl | rfl | rfl
      · refine fin Pc Sc5 (kp npc e6b) ((Dc.take i).app (Dc.drop (i + 1))) (fun d h => (List.mem_append.mp h).elim (take_ok _ d) (drop_ok _ d)) ?_
        rw [bulk_app]; omega
      · refine fin (es := ds.take i ++ (ds.drop i).take 1 ++ (ds.drop i).take 1 ++ ds.drop (i + 1)) Pc Sc5 (kp npc eab) ?_ (fun d h => ?_) ?_
        · rw [show (List.replicate (2 : Int).toNat ((xs.drop i).take 1)).flatten = (xs.drop i).take 1 ++ (xs.drop i).take 1 by show (List.replicate 2 _).flatten = _; simp [List.replicate]]
          rw [← List.append_assoc]
          exact ((((Dc.take i).app ((Dc.drop i).take 1)).app ((Dc.drop i).take 1)).app (Dc.drop (i + 1)))
        · simp only [List.mem_append] at h
          rcases h with ((h | h) | h) | h
          · exact take_ok _ d h
          · exact drop_ok _ d (List.mem_of_mem_take h)
          · exact drop_ok _ d (List.mem_of_mem_take h)
          · exact drop_ok _ d h
        · have e1 : (ds.drop i).take 1 = [di] := by
            have hi' : i < ds.length := by omega
            rw [List.drop_eq_getElem_cons hi']
            rw [List.getElem?_eq_getElem hi'] at edi
            rw [Option.some.inj edi]
            rfl
          rw [e1]
          simp only [bulk_app, PyData.bulkAll]
          omega
      · exact q _ _ (Pc.le (by omega)) ((gd_lstD (kp npc hpb) mb gb Dc hfd hbk).more (by omega) (by omega) (by omega))
    · rw [decide_eq_false k3]
      walk_at "go"
      refine ⟨rfl, ?_⟩
      refine g_bl ?_
      by_cases k4 : kk = 3
      · rw [decide_eq_true (show V.int kk = V.int 3 by rw [k4])]
        walk_at "go"
        refine g_slA (K := K) h5 fun p6 H6 nt6 e6 => ?_
        rw [cut_mid xs (i := i) (k := 2) (by omega) (show (i : Int) + 2 = (i : Int) + ((2 : Nat) : Int) from rfl)] at e6
        refine ⟨p6, _, rfl, SqT.of e6, fun p7 np7 => ?_⟩
        have s7 : ∀ b o, H5 b = some o → upd H6 p7 (.tup ((xs.drop i).take 2).reverse) b = some o := fun b o h => kp np7 (nt6.same _ _ h)
        have e7 : upd H6 p7 (.tup ((xs.drop i).take 2).reverse) p7 = some (.tup ((xs.drop i).take 2).reverse) := upd_same
        generalize upd H6 p7 (.tup ((xs.drop i).take 2).reverse) = H7 at s7 e7 ⊢
        refine g_catA (K := K) (s7 _ _ e45) e7 (by simp; omega) fun p8 H8 nt8 e8 => ?_
        walk_at "go"
        have s8 : ∀ b o, H5 b = some o → H8 b = some o := fun b o h => nt8.same _ _ (s7 _ _ h)
        refine g_slA (K := K) (s8 _ _ h5) fun p9 H9 nt9 e9 => ?_
        rw [cut_from xs (i := i + 2) (by omega)] at e9
        refine g_catA (K := K) (nt9.same _ _ e8) e9 (by simp; omega) fun pa Ha nta ea => ?_
        have sA : ∀ b o, H5 b = some o → Ha b = some o := fun b o h => nta.same _ _ (nt9.same _ _ (s8 _ _ h))
        have Da := D5.same (Go.same (m := m) (g := g) sA)
        refine fin (P5.wide sA) (S5.trans (Go.same sA)) ea (((Da.take i).app ((Da.drop i).take 2).rev).app (Da.drop (i + 2))) (fun d h => ?_) ?_
        · simp only [List.mem_append, List.mem_reverse] at h
          rcases h with (h | h) | h
          · exact take_ok _ d h
          · exact drop_ok _ d (List.mem_of_mem_take h)
          · exact drop_ok _ d h
        · have z := bulk_td (ds.drop i) 2
          rw [List.drop_drop] at z
          simp only [bulk_app, bulk_rev]
          omega
      · rw [decide_eq_false (show ¬ V.int kk = V.int 3 from fun z => k4 (by injection z))]
        walk_at "go"
        refine g_tup' ?_
        walk_at "go"
        refine g_ixT (K := K) (SqT.of h5) (WL.atI_nat (v := xs[i]) (List.getElem?_eq_getElem hi)) ?_
        walk_at "go"
        obtain ⟨d', ed', hd'⟩ := D5.get (List.getElem?_eq_getElem hi)
        rw [edi] at ed'
        cases ed'
        obtain ⟨N', rfl⟩ : ∃ N', N = N' + 1 := ⟨N - 1, by omega⟩
        refine ⟨m, c, g, B + 3, xs[i], e, n', di.bulk, rfl, P5.self, by omega, ⟨di, hd', hfd di (List.mem_of_getElem? edi), Nat.le_refl _⟩, he, he5, by omega, by omega, by omega, fun y H6 q6 g6 => ?_⟩
        have P6 := P5.trans q6
        have S6 := Go.pr q6
        have tk6 := q6.tk P5.self
        walk_at "go"
        refine ⟨sz (by simp), fun p7 np7 => ?_⟩
        obtain ⟨m7, g7, P7, S7⟩ := P6.grow np7 (.tup [y])
        have s7 : ∀ b zs, H5 b = some (.tup zs) → upd H6 p7 (.tup [y]) b = some (.tup zs) := fun b zs h => kp np7 (tk6 _ _ h)
        have g7 := g6.go S7
        have e7 : upd H6 p7 (.tup [y]) p7 = some (.tup [y]) := upd_same
        have D7 := D5.same (S6.trans S7)
        have S57 := S6.trans S7
        generalize upd H6 p7 (.tup [y]) = H7 at P7 S7 S57 s7 g7 e7 D7 ⊢
        refine g_catA (K := K) (s7 _ _ e45) e7 (by simp; omega) fun p8 H8 nt8 e8 => ?_
        walk_at "go"
        refine g_catA (K := K) e8 (nt8.same _ _ (s7 _ _ e5)) (by simp; omega) fun p9 H9 nt9 e9 => ?_
        have nt := nt8.trans nt9
        obtain ⟨dy, hy, fy, by'⟩ := g7
        have P9 := P7.nt nt
        obtain ⟨z1, z2⟩ := P9.tup_ne e9
        have D9 := D7.same (Go.nt (m := m) (g := g) nt)
        refine q _ _ (P9.le (by omega)) ((gd_tupD (e := e + 1) (n := n' + 2) (k := 2 * k + 1100) (ds := ds.take i ++ [dy] ++ ds.drop (i + 1)) e9 z1 z2 (((D9.take i).app (.cons (hy.same (Go.nt nt)) .nil)).app (D9.drop (i + 1))) (fun d h => ?_) ?_).more (by omega) (by omega) (by omega))
        · simp only [List.mem_append, List.mem_singleton] at h
          rcases h with (h | rfl) | h
          · exact ((take_ok _ d h).mono (by omega)).more (by omega)
          · exact fy
          · exact ((drop_ok _ d h).mono (by omega)).more (by omega)
        · simp only [bulk_app, PyData.bulkAll]
          omega
end
end K06
set_option Elab.async false
set_option linter.all false
set_option maxRecDepth 100000
set_option maxHeartbeats 400000
namespace K06
open PySem PySem.Spec PyProof.Rows L2 WL
local macro_rules | `(tactic| walk_at "side") => `(tactic| first | (show (_ ∧ _) ∨ (_ ∧ _); omega) | (exact ⟨by omega, by omega⟩) | (show (0 : Int) < _; omega) | omega)
local macro_rules | `(tactic| walk_at "go") => `(tactic| (repeat (first
  | with_reducible refine g_seq ?_ | with_reducible refine g_asgN ?_ | with_reducible refine g_ret ?_ | with_reducible refine g_drop ?_ | with_reducible refine g_ifS ?_ | with_reducible refine g_next ?_
  | with_reducible refine g_var rfl ?_ | with_reducible refine g_c ?_ | with_reducible refine g_op ?_ | with_reducible refine g_un ?_ | with_reducible refine g_rI0 ?_ | ((with_reducible refine g_rI ?_ ?_); next => walk_at "side") | with_reducible refine g_test ?_ | with_reducible refine g_bl ?_
  | with_reducible refine g_nil ?_ | with_reducible refine g_cons ?_ | with_reducible refine g_call ?_ | with_reducible refine g_cb ?_ | with_reducible refine g_if ?_ | with_reducible refine g_par ?_ | with_reducible refine g_two ?_
  | with_reducible refine g_asg ?_ | with_reducible refine g_name ?_ | with_reducible refine g_sub ?_ | with_reducible refine g_yes ?_ | with_reducible refine g_gcons ?_ | with_reducible refine g_gnil ?_ | with_reducible refine g_dget ?_ | with_reducible refine g_dput ?_ | with_reducible refine g_rng1 ?_ | with_reducible refine g_rng2 ?_
  | ((with_reducible refine g_one ?_ ?_); next => omega) | ((with_reducible refine g_twoI ?_ ?_); next => omega) | with_reducible refine g_isNon ?_ | with_reducible refine g_andV ?_ | with_reducible refine g_revT ?_ | with_reducible refine g_itup ?_ | with_reducible refine g_methK0 ?_ | with_reducible refine g_methS ?_ | with_reducible refine g_errF ?_ | with_reducible refine g_prop ?_ | with_reducible refine g_con ?_ | with_reducible refine g_make ?_ | with_reducible refine g_fld ?_ | with_reducible refine g_sfld ?_ | with_reducible refine g_iftn ?_ | with_reducible refine g_iffn ?_ | with_reducible refine g_orV ?_ | with_reducible refine g_notV ?_ | with_reducible refine g_tB ?_ | with_reducible refine g_chain ?_ | with_reducible refine g_neg ?_ | with_reducible refine g_cval ?_ | with_reducible refine g_enumT ?_ | with_reducible refine g_andT ?_ | with_reducible refine g_orT ?_ | with_reducible refine g_notT ?_ | with_reducible refine g_sl ?_ | with_reducible refine g_part ?_ | with_reducible refine g_parI ?_ | with_reducible refine g_noPart ?_ | with_reducible refine g_pcons ?_ | with_reducible refine g_pnil ?_ | with_reducible refine g_list ?_ | with_reducible refine g_lc ?_ | with_reducible refine g_for ?_ | with_reducible refine g_enum ?_ | with_reducible refine g_ift ?_ | with_reducible refine g_iff ?_ | with_reducible refine And.intro rfl ?_ | with_reducible refine g_notNon ?_)))
local macro_rules | `(tactic| walk_at "ex") => `(tactic| (repeat (first
  | with_reducible refine g_seqAsg ?_ | with_reducible refine g_seqFld ?_ | with_reducible refine g_seqDrop ?_ | with_reducible refine g_seqPut ?_ | with_reducible refine g_seqPar ?_ | with_reducible refine g_asgN ?_ | with_reducible refine g_ret ?_ | with_reducible refine g_drop ?_ | with_reducible refine g_next ?_
  | with_reducible refine g_var rfl ?_ | with_reducible refine g_c ?_ | with_reducible refine g_op ?_ | with_reducible refine g_un ?_ | with_reducible refine g_rI0 ?_ | ((with_reducible refine g_rI ?_ ?_); next => walk_at "side") | with_reducible refine g_test ?_ | with_reducible refine g_bl ?_
  | with_reducible refine g_nil ?_ | with_reducible refine g_cons ?_ | with_reducible refine g_call ?_ | with_reducible refine g_cb ?_ | with_reducible refine g_if ?_ | with_reducible refine g_par ?_ | with_reducible refine g_two ?_
  | with_reducible refine g_asg ?_ | with_reducible refine g_name ?_ | with_reducible refine g_sub ?_ | with_reducible refine g_yes ?_ | with_reducible refine g_gcons ?_ | with_reducible refine g_gnil ?_ | with_reducible refine g_dget ?_ | with_reducible refine g_dput ?_ | with_reducible refine g_rng1 ?_ | with_reducible refine g_rng2 ?_
  | ((with_reducible refine g_one ?_ ?_); next => omega) | ((with_reducible refine g_twoI ?_ ?_); next => omega) | with_reducible refine g_isNon ?_ | with_reducible refine g_andV ?_ | with_reducible refine g_revT ?_ | with_reducible refine g_itup ?_ | with_reducible refine g_methK0 ?_ | with_reducible refine g_methS ?_ | with_reducible refine g_errF ?_ | with_reducible refine g_prop ?_ | with_reducible refine g_con ?_ | with_reducible refine g_make ?_ | with_reducible refine g_fld ?_ | with_reducible refine g_sfld ?_ | with_reducible refine g_iftn ?_ | with_reducible refine g_iffn ?_ | with_reducible refine g_orV ?_ | with_reducible refine g_notV ?_ | with_reducible refine g_tB ?_ | with_reducible refine g_chain ?_ | with_reducible refine g_neg ?_ | with_reducible refine g_cval ?_ | with_reducible refine g_enumT ?_ | with_reducible refine g_proj ?_ | with_reducible refine g_andT ?_ | with_reducible refine g_orT ?_ | with_reducible refine g_notT ?_ | with_reducible refine g_sl ?_ | with_reducible refine g_part ?_ | with_reducible refine g_parI ?_ | with_reducible refine g_noPart ?_ | with_reducible refine g_pcons ?_ | with_reducible refine g_pnil ?_ | with_reducible refine g_list ?_ | with_reducible refine g_lc ?_ | with_reducible refine g_enum ?_ | with_reducible refine g_ift ?_ | with_reducible refine g_iff ?_ | with_reducible refine And.intro rfl ?_ | with_reducible refine g_notNon ?_)))
section
variable {P : Program} {w : World} {K : PySem.W.Frag} {mg : Str → Option Value} {base : Heap} {f : Addr} {fd : FuncData}
/-- no number, and none in it -/
def NoInts (sh : Sh) : Prop := sh = .lst ∨ ∃ ss : List Sh, sh = .tup ss ∧ ∀ s ∈ ss, s.isInt = false
theorem NoInts.num {sh : Sh} (h : NoInts sh) : sh.isInt = false := by
  rcases h with rfl | ⟨ss, rfl, _⟩ <;> rfl
theorem days_no {n : Nat} {ss : List Sh} (h : ∃ s ∈ ss, s.isInt = false) : Sh.days n (.tup ss) = false := by
  obtain ⟨s, hs, e⟩ := h
  unfold Sh.days
  rw [Bool.and_eq_false_iff]
  right
  show ss.all Sh.isInt = false
  rw [List.all_eq_false]
  exact ⟨s, hs, by rw [e]; decide⟩
theorem NoInts.days {n : Nat} {sh : Sh} (h : NoInts sh) (hn : 1 ≤ n) : Sh.days n sh = false := by
  rcases h with rfl | ⟨ss, rfl, h⟩
  · rfl
  · cases ss with
    | nil =>
      refine days_not ?_
      show (decide ((n : Int) ≤ 0) && _) = false
      rw [decide_eq_false (by omega)]
      rfl
    | cons s ss => exact days_no ⟨s, by simp, h s (by simp)⟩
def spDblN (K : PySem.W.Frag) : Sp := fun vs H Q _ => ∃ k : Int, vs = [.int k] ∧ (k = 0 ∨ k = 1) ∧ ∀ (a : Addr) (H' : Hp) (sh : Sh), NoInts sh → AnS K H' (.ref a) sh → (∀ b o, H b = some o → H' b = some o) → H a = none → Q (.ref a) H'
theorem sc_dblN : FnScope ["kind", "found", "n"] ["kind"] (defScope s_law_doubled) := ⟨rfl, rfl, rfl, by decide +kernel, rfl, by decide +kernel, by decide +kernel⟩
theorem ok_dblN (F : FnT K "_law_doubled" s_law_doubled f fd) (T : Blt mg) : FnOk P w K mg base CX0 1 f fd ["kind"] (spDblN K) := by
  refine F.ok sc_dblN (fun vs H Q E h => ?_) (fun cdv A outer s H vs Q E hr h => ?_)
  · obtain ⟨k, rfl, _⟩ := h
    rfl
  · obtain ⟨k, rfl, hk, q⟩ := h
    have sc := sc_dblN
    refine ⟨_, PSs.nox (pss_cons (ps_set (i := 1) sc.nd rfl (Or.inl rfl) (pe_tup pa_nil))
      (pss_cons (ps_for PassesOwn.never rfl (pi_range1 (by rfl) T.range (pa_cons pe_int pa_nil)) (pg_name (i := 2) sc.nd rfl (Or.inl rfl))
        (pss_one (ps_set (i := 1) sc.nd rfl (Or.inl rfl) (pe_ix ix_list (pe_lst (pa_cons (pe_tup (pa_cons (pv 1) (pa_cons (pv 1) pa_nil))) (pa_cons (pe_lst (pa_cons (pv 1) (pa_cons (pv 1) pa_nil))) pa_nil))) (pv 0) (fun _ _ => rfl)))))
      (pss_one (ps_ret (pv 1))))), ?_⟩
    walk_at "go"
    refine g_tup' ?_
    walk_at "go"
    refine ⟨sz (by simp), fun p np => ?_⟩
    walk_at "go"
    have same_new : ∀ {H1 : Hp} {p : Addr} {o : HO}, H1 p = none → (∀ b o, H b = some o → H1 b = some o) → ∀ b u, H b = some u → upd H1 p o b = some u := fun n h b u hb => by rw [upd_ne (ne_of_none (h _ _ hb) n)]; exact h _ _ hb
    have none_new : ∀ {H1 : Hp} {p : Addr}, H1 p = none → (∀ b o, H b = some o → H1 b = some o) → H p = none := fun {H1 p} n h => by
      cases e : H p with
      | none => rfl
      | some o => rw [h _ _ e] at n; exact absurd n (by simp)
    refine ForQ.range (fun i σ H' => ∃ (a : Addr) (x : Option V) (sh : Sh), σ = [some (.int k), some (.ref a), x] ∧ AnS K H' (.ref a) sh ∧ (∀ b o, H b = some o → H' b = some o) ∧ H a = none ∧ NoInts sh) ⟨p, _, .tup [], rfl, .tup (SqT.of upd_same) .nil, same_new np (fun _ _ h => h), np, Or.inr ⟨[], rfl, fun s z => nomatch z⟩⟩ ?_ ?_
    · rintro i σ H1 hi ⟨a, x, sh, rfl, h1, s1, n1, nt⟩
      walk_at "go"
      refine g_lst' ?_
      walk_at "go"
      refine g_tup' ?_
      walk_at "go"
      refine ⟨sz (by simp), fun p2 np2 => ?_⟩
      refine g_lst' ?_
      walk_at "go"
      refine ⟨sz (by simp), fun p3 np3 => ?_⟩
      walk_at "go"
      refine ⟨sz (by simp), fun p4 np4 => ?_⟩
      have s2 := same_new (o := .tup [.ref a, .ref a]) np2 s1
      have s3 := same_new (o := .lst [.ref a, .ref a]) np3 s2
      have s4 := same_new (o := .lst [.ref p2, .ref p3]) np4 s3
      have n23 : p2 ≠ p3 := ne_of_none upd_same np3
      have n24 : p2 ≠ p4 := ne_of_none (by rw [upd_ne n23]; exact upd_same) np4
      have n34 : p3 ≠ p4 := ne_of_none upd_same np4
      walk_at "go"
      rcases hk with rfl | rfl
      · refine g_ixL (K := K) (xs := [.ref p2, .ref p3]) (v := .ref p2) (SqL.of upd_same) rfl ?_
        walk_at "go"
        have sH : ∀ b o, H1 b = some o → upd (upd (upd H1 p2 (.tup [.ref a, .ref a])) p3 (.lst [.ref a, .ref a])) p4 (.lst [.ref p2, .ref p3]) b = some o := fun b o h => by
          rw [upd_ne (ne_of_none (by rw [upd_ne (ne_of_none (by rw [upd_ne (ne_of_none h np2)]; exact h) np3), upd_ne (ne_of_none h np2)]; exact h) np4), upd_ne (ne_of_none (by rw [upd_ne (ne_of_none h np2)]; exact h) np3), upd_ne (ne_of_none h np2)]; exact h
        exact ⟨p2, _, .tup [sh, sh], rfl, .tup (SqT.of (by rw [upd_ne n24, upd_ne n23]; exact upd_same)) (.cons (h1.same sH) (.cons (h1.same sH) .nil)), s4, none_new np2 s1, Or.inr ⟨_, rfl, fun s hs => by simp at hs; rw [hs]; exact nt.num⟩⟩
      · refine g_ixL (K := K) (xs := [.ref p2, .ref p3]) (v := .ref p3) (SqL.of upd_same) rfl ?_
        walk_at "go"
        exact ⟨p3, _, .lst, rfl, .lst (SqL.of (by rw [upd_ne n34]; exact upd_same)), s4, none_new np3 s2, Or.inl rfl⟩
    · rintro σ H1 ⟨a, x, sh, rfl, h1, s1, n1, nt⟩
      walk_at "go"
      exact q a H1 sh nt h1 s1 n1
end
end K06
set_option Elab.async false
set_option linter.all false
set_option maxRecDepth 100000
set_option maxHeartbeats 400000
namespace K06
open PySem PySem.Spec PyProof.Rows L2 WL
local macro_rules | `(tactic| walk_at "side") => `(tactic| first | (show (_ ∧ _) ∨ (_ ∧ _); omega) | (exact ⟨by omega, by omega⟩) | (show (0 : Int) < _; omega) | omega)
local macro_rules | `(tactic| walk_at "go") => `(tactic| (repeat (first
  | with_reducible refine g_seq ?_ | with_reducible refine g_asgN ?_ | with_reducible refine g_ret ?_ | with_reducible refine g_drop ?_ | with_reducible refine g_ifS ?_ | with_reducible refine g_next ?_
  | with_reducible refine g_var rfl ?_ | with_reducible refine g_c ?_ | with_reducible refine g_op ?_ | with_reducible refine g_un ?_ | with_reducible refine g_rI0 ?_ | ((with_reducible refine g_rI ?_ ?_); next => walk_at "side") | with_reducible refine g_test ?_ | with_reducible refine g_bl ?_
  | with_reducible refine g_nil ?_ | with_reducible refine g_cons ?_ | with_reducible refine g_call ?_ | with_reducible refine g_cb ?_ | with_reducible refine g_if ?_ | with_reducible refine g_par ?_ | with_reducible refine g_two ?_
  | with_reducible refine g_asg ?_ | with_reducible refine g_name ?_ | with_reducible refine g_sub ?_ | with_reducible refine g_yes ?_ | with_reducible refine g_gcons ?_ | with_reducible refine g_gnil ?_ | with_reducible refine g_dget ?_ | with_reducible refine g_dput ?_ | with_reducible refine g_rng1 ?_ | with_reducible refine g_rng2 ?_
  | ((with_reducible refine g_one ?_ ?_); next => omega) | ((with_reducible refine g_twoI ?_ ?_); next => omega) | with_reducible refine g_isNon ?_ | with_reducible refine g_andV ?_ | with_reducible refine g_revT ?_ | with_reducible refine g_itup ?_ | with_reducible refine g_methK0 ?_ | with_reducible refine g_methS ?_ | with_reducible refine g_errF ?_ | with_reducible refine g_prop ?_ | with_reducible refine g_con ?_ | with_reducible refine g_make ?_ | with_reducible refine g_fld ?_ | with_reducible refine g_sfld ?_ | with_reducible refine g_iftn ?_ | with_reducible refine g_iffn ?_ | with_reducible refine g_orV ?_ | with_reducible refine g_notV ?_ | with_reducible refine g_tB ?_ | with_reducible refine g_chain ?_ | with_reducible refine g_neg ?_ | with_reducible refine g_cval ?_ | with_reducible refine g_enumT ?_ | with_reducible refine g_andT ?_ | with_reducible refine g_orT ?_ | with_reducible refine g_notT ?_ | with_reducible refine g_sl ?_ | with_reducible refine g_part ?_ | with_reducible refine g_parI ?_ | with_reducible refine g_noPart ?_ | with_reducible refine g_pcons ?_ | with_reducible refine g_pnil ?_ | with_reducible refine g_list ?_ | with_reducible refine g_lc ?_ | with_reducible refine g_for ?_ | with_reducible refine g_enum ?_ | with_reducible refine g_ift ?_ | with_reducible refine g_iff ?_ | with_reducible refine And.intro rfl ?_ | with_reducible refine g_notNon ?_)))
local macro_rules | `(tactic| walk_at "ex") => `(tactic| (repeat (first
  | with_reducible refine g_seqAsg ?_ | with_reducible refine g_seqFld ?_ | with_reducible refine g_seqDrop ?_ | with_reducible refine g_seqPut ?_ | with_reducible refine g_seqPar ?_ | with_reducible refine g_asgN ?_ | with_reducible refine g_ret ?_ | with_reducible refine g_drop ?_ | with_reducible refine g_next ?_
  | with_reducible refine g_var rfl ?_ | with_reducible refine g_c ?_ | with_reducible refine g_op ?_ | with_reducible refine g_un ?_ | with_reducible refine g_rI0 ?_ | ((with_reducible refine g_rI ?_ ?_); next => walk_at "side") | with_reducible refine g_test ?_ | with_reducible refine g_bl ?_
  | with_reducible refine g_nil ?_ | with_reducible refine g_cons ?_ | with_reducible refine g_call ?_ | with_reducible refine g_cb ?_ | with_reducible refine g_if ?_ | with_reducible refine g_par ?_ | with_reducible refine g_two ?_
  | with_reducible refine g_asg ?_ | with_reducible refine g_name ?_ | with_reducible refine g_sub ?_ | with_reducible refine g_yes ?_ | with_reducible refine g_gcons ?_ | with_reducible refine g_gnil ?_ | with_reducible refine g_dget ?_ | with_reducible refine g_dput ?_ | with_reducible refine g_rng1 ?_ | with_reducible refine g_rng2 ?_
  | ((with_reducible refine g_one ?_ ?_); next => omega) | ((with_reducible refine g_twoI ?_ ?_); next => omega) | with_reducible refine g_isNon ?_ | with_reducible refine g_andV ?_ | with_reducible refine g_revT ?_ | with_reducible refine g_itup ?_ | with_reducible refine g_methK0 ?_ | with_reducible refine g_methS ?_ | with_reducible refine g_errF ?_ | with_reducible refine g_prop ?_ | with_reducible refine g_con ?_ | with_reducible refine g_make ?_ | with_reducible refine g_fld ?_ | with_reducible refine g_sfld ?_ | with_reducible refine g_iftn ?_ | with_reducible refine g_iffn ?_ | with_reducible refine g_orV ?_ | with_reducible refine g_notV ?_ | with_reducible refine g_tB ?_ | with_reducible refine g_chain ?_ | with_reducible refine g_neg ?_ | with_reducible refine g_cval ?_ | with_reducible refine g_enumT ?_ | with_reducible refine g_proj ?_ | with_reducible refine g_andT ?_ | with_reducible refine g_orT ?_ | with_reducible refine g_notT ?_ | with_reducible refine g_sl ?_ | with_reducible refine g_part ?_ | with_reducible refine g_parI ?_ | with_reducible refine g_noPart ?_ | with_reducible refine g_pcons ?_ | with_reducible refine g_pnil ?_ | with_reducible refine g_list ?_ | with_reducible refine g_lc ?_ | with_reducible refine g_enum ?_ | with_reducible refine g_ift ?_ | with_reducible refine g_iff ?_ | with_reducible refine And.intro rfl ?_ | with_reducible refine g_notNon ?_)))
section
variable {P : Program} {w : World} {K : PySem.W.Frag} {mg : Str → Option Value} {base : Heap} {f : Addr} {fd : FuncData} {DC IE ID : Addr} {TT : List (Addr × Str)}
def dueD : Option (Str × Option Nat) → PyData
  | none => .tuple []
  | some (word, it) => .tuple [.str word, match it with
    | none => .none
    | some i => .int (i : Nat)]
theorem dqb_item {H : Hp} : ∀ it : Option Nat, DqB H (itemV it) (match it with
    | none => .none
    | some i => .int (i : Nat))
  | none => .non
  | some i => .int _
theorem dqb_due {H : Hp} {a : Addr} {o : Option (Str × Option Nat)} (h : H a = some (.tup (dueV o))) : DqB H (.ref a) (dueD o) := by
  cases o with
  | none => exact .tup h .nil
  | some z => exact .tup h (.cons (.str _) (.cons (dqb_item z.2) .nil))
/-- what it may be: a word of these, an item below 100 -/
def DueOk (o : Option (Str × Option Nat)) : Prop := o = none ∨ ∃ word it, o = some (word, it) ∧ (word = "form" ∨ word = "weekday" ∨ word = "bound") ∧ ∀ i, it = some i → i < 1000
theorem find_lt {p : Nat → Bool} {n i : Nat} (h : (List.range n).find? p = some i) : i < n := List.mem_range.mp (List.mem_of_find?_eq_some h)
theorem due_okD {c w : Int} {ns : List (Option Int)} {ls : List (Int × Int × Int)} {s : Sh} (ok : DOK c ns ls w) (h60 : ls.length ≤ 100) : DueOk (due c ns ls s) := by
  have n16 := ok.n16
  unfold due
  split
  · cases hw : wFault c ns (intsOf s) with
    | some n => exact Or.inr ⟨_, _, rfl, Or.inr (Or.inl rfl), fun i hi => by have := find_lt hw; cases hi; omega⟩
    | none =>
      cases hb : bFault ls (intsOf s) with
      | some n => exact Or.inr ⟨_, _, rfl, Or.inr (Or.inr rfl), fun i hi => by have := find_lt hb; cases hi; omega⟩
      | none => exact Or.inl rfl
  · exact Or.inr ⟨_, _, rfl, Or.inl rfl, fun i hi => by cases hi⟩
theorem fit_due {o : Option (Str × Option Nat)} (h : DueOk o) : Fit 7 3 (dueD o) ∧ (dueD o).bulk ≤ 20 := by
  rcases h with rfl | ⟨word, it, rfl, hw, hi⟩
  · exact ⟨(fun d z => nomatch z), by simp [dueD, PyData.bulk, PyData.bulkAll]⟩
  · refine ⟨fun d hd => ?_, ?_⟩
    · simp only [List.mem_cons, List.not_mem_nil, or_false] at hd
      rcases hd with rfl | rfl
      · rcases hw with rfl | rfl | rfl <;> exact text_signs _
      · cases it with
        | none => exact fit_non
        | some i => exact fit_int (show ((i : Nat) : Int).natAbs < 10 ^ 7 by have := hi i rfl; omega)
    · have e1 : word.cps.size ≤ 7 := by rcases hw with rfl | rfl | rfl <;> decide
      cases it <;> simp [dueD, PyData.bulk, PyData.bulkAll] <;> omega
theorem fit_two {a : PyData} (h : Fit 7 3 a ∧ a.bulk ≤ 20) : Fit 4300 40 (.list [a, a]) ∧ (PyData.list [a, a]).shown.length ≤ sizeLine := by
  have z : Fit 7 4 (.list [a, a]) := fun d hd => by
    simp only [List.mem_cons, List.not_mem_nil, or_false] at hd
    rcases hd with rfl | rfl <;> exact h.1
  refine ⟨(z.mono (by decide)).more (by decide), z.fits (by decide) (by decide) ?_⟩
  simp only [PyData.bulk, PyData.bulkAll]
  omega
/-- a lambda that asks check_calendar, by _law_told -/
theorem lam_chk {c w : Int} {ns : List (Option Int)} {ls : List (Int × Int × Int)} {sh : Sh} {u x : V} {H3 : Hp} {R : VK} {σ : L2.St} {mt : XK → TE} (t3 : LamX.Tabs TT H3) (hD : ∀ H4, LamX.ExtN H3 H4 → DiaAt DC H4 u c ns ls ∧ AnS K H4 x sh) (ok : DOK c ns ls w)
    (hmt : ∀ (E : XK) H4 (Q1 : VK), spCheck K DC ID [u, x] H4 Q1 E → mt E σ H4 Q1) (hR : ∀ p H6, LamX.ExtN H3 H6 → LamX.Tabs TT H6 → H6 p = some (.tup (dueV (due c ns ls sh))) → R (.ref p) H6) : LamX.tLam TT (TTold ID) mt σ H3 R :=
  g_lam t3 fun H4 e4 t4 Q1 hQ1 => hmt (ETold ID R) H4 Q1 ⟨u, x, sh, c, w, ns, ls, rfl, (hD H4 e4).1, ok, (hD H4 e4).2,
    fun e H5 s5 => hQ1 H5 fun p H6 _ s6 hp => hR p H6 (e4.trans (LamX.ExtN.of fun b o h => s6 _ _ (s5 _ _ h))) (t4.ext fun b o h => s6 _ _ (s5 _ _ h)) (by rw [e]; exact hp),
    fun word it e d H5 s5 nd => ⟨d, .str word, itemV it, rfl, rfl, upd_same, fun p H6 _ s6 hp => hR p H6 (e4.trans (LamX.ExtN.of fun b o h => s6 _ _ (kp nd (s5 _ _ h)))) (t4.ext fun b o h => s6 _ _ (kp nd (s5 _ _ h))) (by rw [e]; exact hp)⟩⟩
def spChkd (DC : Addr) (TT : List (Addr × Str)) : Sp := fun vs H Q _ => ∃ (m g : Addr) (v u x : V) (b : Book) (wd : Int) (e n k : Nat), vs = [v, u, x] ∧ Fz H v b.d ∧ DiaAt DC H u b.c b.notes b.lines ∧ DOK b.c b.notes b.lines wd ∧ b.lines.length ≤ 60 ∧ Gd m g H e n k x ∧ 7 ≤ e ∧ e ≤ 1010 ∧ n ≤ 40 ∧ k ≤ 16000 ∧ LamX.Tabs TT H ∧
  ∀ H', LamX.ExtN H H' → LamX.Tabs TT H' → Q (.bl true) H'
theorem sc_chkd : FnScope ["book", "told", "thing_here", "due", "kept", "told_here", "two"] ["book", "told", "thing_here"] (defScope s_law_checked) := ⟨rfl, rfl, rfl, by decide +kernel, rfl, by decide +kernel, by decide +kernel⟩
theorem ok_chkd {c p : Addr} (hm : (p, (envOfC "_law_checked" (defScope s_law_checked) 0 0 .none).qual ++ "<lambda>") ∈ TT) (hu2 : ∀ r ∈ TT, r.1 = p → r.2 = (envOfC "_law_checked" (defScope s_law_checked) 0 0 .none).qual ++ "<lambda>") (F : FnT K "_law_checked" s_law_checked f fd) (ht : tabA K f = some (c, p)) (tb : LamX.TabB base mg c p) (T : Blt mg) (S : SysB K) (nd : NoDig K) (Tz : TolZ K mg ID)
    (hDue : Has P w K mg base 3 "_law_due" ["book", "thing_here"] (spDueL K)) (hCal : Has P w K mg base 5 "is_calendar" ["diary", "days"] (spIsCal K DC)) (hCalK : HasKn P w K mg base CX0 5 "is_calendar" ["diary", "days"] ["days", "diary"] swap2 (spIsCal K DC)) (hChk : HasE P w K mg base 5 "check_calendar" ["diary", "days"] (spCheck K DC ID)) (hChkK : HasKn P w K mg base (L2.CX P w) 5 "check_calendar" ["diary", "days"] ["days", "diary"] swap2 (spCheck K DC ID)) : GOk P w K mg base 11 f fd ["book", "told", "thing_here"] (spChkd DC TT) := by
  refine gok_bodyC F ht sc_chkd (fun vs H Q E h => ?_) (fun A outer s H vs Q E hg hr h => ?_)
  · obtain ⟨m, g, v, u, x, b, wd, e, n, k, rfl, _⟩ := h
    rfl
  · obtain ⟨m, g, v, u, x, b, wd, e, n, k, rfl, hb, hD, ok, h60, hG, he, he2, hn, hk, tabs, q⟩ := h
    have sc := sc_chkd
    have hu := hr.units
    refine ⟨_, (pss_cons (ps_par (i := 3) (j := 4) (by rfl) sc.nd rfl rfl (by decide) rfl rfl (pa_cons (pe_has hDue hr (by decide) (pa_cons (pv 0) (pa_cons (pv 2) pa_nil))) (pa_cons (pe_callB (call_showF nd S hg hr) (by rfl) T.repr (by decide +kernel) (pa_cons (pv 2) pa_nil)) pa_nil)) (by rfl))
      (pss_cons (ps_set (i := 5) sc.nd rfl (Or.inl rfl) (pe_lst (pa_cons (pe_tolcall (T := TT) (k := 8) (t := fun E => tCall (spCheck K DC ID) [] E (tCons (tVar 1) (tCons (tVar 2) tNil))) Tz (by rfl) tb rfl hm hu2 (by decide) hr (LamX.lamS_by (by rfl)) rfl (fun _ _ _ _ _ => rfl) (fun A outer s H E f c' hr' => by exact (pe_hasEL hChk hr' (by decide) (by exact (pa_cons (pv 1) (pa_cons (pv 2) pa_nil)))))) pa_nil)))
      (pss_cons (ps_expr (pe_bm PySem.F.plainAttrs_list PySem.F.slot_list_append PySem.F.type_list_append mt_append (pv 5) (pa_cons (pe_tolcall (T := TT) (k := 8) (t := fun E => tCallKn (["days", "diary"] : List Str).length swap2 (spCheck K DC ID) E (tCons (tVar 2) (tCons (tVar 1) tNil))) Tz (by rfl) tb rfl hm hu2 (by decide) hr (LamX.lamS_by (by rfl)) rfl (fun _ _ _ _ _ => rfl) (fun A outer s H E f c' hr' => by exact (pe_hasKnL hChkK hr' (by decide) (by exact (pk_cons (pv 2) (pk_cons (pv 1) pk_nil)))))) pa_nil)))
      (pss_cons (ps_if (pt_cmpR op_ne (pe_callB (call_showF nd S hg hr) (by rfl) T.repr (by decide +kernel) (pa_cons (pv 5) pa_nil)) (pe_callB (call_showF nd S hg hr) (by rfl) T.repr (by decide +kernel) (pa_cons (pe_lst (pa_cons (pv 3) (pa_cons (pv 3) pa_nil))) pa_nil)) (nomark _))
        (pss_one (ps_ret pe_bl))
        pss_nil)
      (pss_cons (ps_set (i := 6) sc.nd rfl (Or.inl rfl) (pe_lst (pa_cons (pe_has hCal hr (by decide) (pa_cons (pv 1) (pa_cons (pv 2) pa_nil))) (pa_cons (pe_hasKn (E := E0) hCalK hr (by decide) pass0 (pk_cons (pv 2) (pk_cons (pv 1) pk_nil))) pa_nil))))
      (pss_one (ps_ret (pe_and (pe_cmpR op_eq (pe_callB (call_showF nd S hg hr) (by rfl) T.repr (by decide +kernel) (pa_cons (pv 6) pa_nil)) (pe_callB (call_showF nd S hg hr) (by rfl) T.repr (by decide +kernel) (pa_cons (pe_op op_rep (pe_lst (pa_cons (pe_cmpR (op_eqT0 hu) (pv 3) (pe_tup pa_nil) (nomark _)) pa_nil)) pe_int) pa_nil)) (nomark _)) (pe_one (pe_cmpR op_eq (pe_callB (call_showF nd S hg hr) (by rfl) T.repr (by decide +kernel) (pa_cons (pv 2) pa_nil)) (pv 4) (nomark _))))))))))), ?_⟩
    obtain ⟨d, hd, hf, hbk⟩ := hG
    walk_at "go"
    have shp : ∀ {H'}, Go m g H H' → AnS K H' x (shOf d) := fun go => ((hd.same go).same calm_same).ans
    have fit : Fit 4300 40 d := (hf.mono hn).more (by omega)
    have shn := hf.fits he he2 (by omega)
    have dok : DueOk (due b.c b.notes b.lines (shOf d)) := due_okD ok (by omega)
    refine ⟨v, x, b, wd, _, rfl, hb, ok, shp Go.refl, fun p1 H1 s1 e1 => ?_⟩
    have G1 : Go m g H H1 := Go.same s1
    generalize ho : due b.c b.notes b.lines (shOf d) = o at e1 dok
    walk_at "go"
    refine g_showF ((hd.same G1).same calm_same) fit shn ?_
    walk_at "go"
    have hl1 : ∀ {H2}, LamX.ExtN H1 H2 → ∀ H4, LamX.ExtN H2 H4 → DiaAt DC H4 u b.c b.notes b.lines ∧ AnS K H4 x (shOf d) := fun e2 H4 e4 => ⟨hD.keep (fun b xs h => e4 _ _ (e2 _ _ (s1 _ _ h) (fun ps z => nomatch z)) (fun ps z => nomatch z)) (fun b C dx fs h => e4 _ _ (e2 _ _ (s1 _ _ h) (fun ps z => nomatch z)) (fun ps z => nomatch z)), shp (G1.trans ((Go.ext e2).trans (Go.ext e4)))⟩
    refine g_lst' ?_
    refine g_cons ?_
    refine lam_chk (K := K) (DC := DC) (ID := ID) (u := u) (x := x) (tabs.ext s1) (hl1 (LamX.ExtN.of fun _ _ h => h)) ok (fun E H4 Q1 h => ⟨u, rfl, ⟨x, rfl, h⟩⟩) (fun p2 H2 e2 t2 hp2 => ?_)
    rw [ho] at hp2
    walk_at "go"
    refine ⟨sz (by simp), fun p3 np3 => ?_⟩
    have s3 := same_up (o := .lst [.ref p2]) np3 (fun b o (h : H2 b = some o) => h)
    have E3 : LamX.ExtN H1 (upd H2 p3 (.lst [.ref p2])) := e2.trans (LamX.ExtN.of s3)
    have hp3 : upd H2 p3 (.lst [.ref p2]) p3 = some (.lst [.ref p2]) := upd_same
    have hp23 := s3 _ _ hp2
    have t3 := t2.ext s3
    generalize upd H2 p3 (.lst [.ref p2]) = H3 at E3 hp3 hp23 t3 ⊢
    refine g_proj ?_
    walk_at "go"
    refine g_bmL (K := K) rfl hp3 ?_
    refine g_cons ?_
    refine lam_chk (K := K) (DC := DC) (ID := ID) (u := u) (x := x) t3 (hl1 E3) ok (fun E H4 Q1 h => ⟨x, rfl, ⟨u, rfl, ⟨rfl, h⟩⟩⟩) (fun p4 H4 e4 t4 hp4 => ?_)
    rw [ho] at hp4
    have hp34 := e4 _ _ hp3 (fun ps z => nomatch z)
    have hp24 := e4 _ _ hp23 (fun ps z => nomatch z)
    have E4 := E3.trans e4
    walk_at "go"
    refine g_app hp34 (szl (by simp)) ?_
    have t5 := tabs_put (ys := [.ref p2] ++ [.ref p4]) t4 hp34
    have hp25 : upd H4 p3 (.lst ([.ref p2] ++ [.ref p4])) p2 = some (.tup (dueV o)) := by rw [upd_ne (fun z => by rw [z, hp34] at hp24; cases hp24)]; exact hp24
    have hp45 : upd H4 p3 (.lst ([.ref p2] ++ [.ref p4])) p4 = some (.tup (dueV o)) := by rw [upd_ne (fun z => by rw [z, hp34] at hp4; cases hp4)]; exact hp4
    have hp35 : upd H4 p3 (.lst ([.ref p2] ++ [.ref p4])) p3 = some (.lst [.ref p2, .ref p4]) := upd_same
    have E5 : LamX.ExtN H1 (upd H4 p3 (.lst ([.ref p2] ++ [.ref p4]))) := fun b ob hb' nt => by
      have ne : b ≠ p3 := fun z => by
        rw [z] at hb'
        have z1 := e2 _ _ hb' nt
        rw [np3] at z1
        cases z1
      rw [upd_ne ne]
      exact E4 b ob hb' nt
    generalize upd H4 p3 (.lst ([.ref p2] ++ [.ref p4])) = H5 at E5 hp25 hp45 hp35 t5 ⊢
    obtain ⟨f1, f2⟩ := fit_two (fit_due dok)
    walk_at "go"
    refine g_showF (d := .list [dueD o, dueD o]) (.lst hp35 (.cons (dqb_due hp25) (.cons (dqb_due hp45) .nil))) f1 f2 ?_
    walk_at "go"
    refine g_lst' ?_
    walk_at "go"
    refine ⟨sz (by simp), fun p6 np6 => ?_⟩
    have s6 := same_up (o := .lst [.ref p1, .ref p1]) np6 (fun b o (h : H5 b = some o) => h)
    have hp16 := s6 _ _ (E5 _ _ e1 (fun ps z => nomatch z))
    refine g_nil ?_
    refine g_showF (d := .list [dueD o, dueD o]) (.lst upd_same (.cons (dqb_due hp16) (.cons (dqb_due hp16) .nil))) f1 f2 ?_
    refine ne_same ?_
    have E6 : LamX.ExtN H1 (upd H5 p6 (.lst [.ref p1, .ref p1])) := E5.trans (LamX.ExtN.of s6)
    have t6 := t5.ext s6
    generalize upd H5 p6 (.lst [.ref p1, .ref p1]) = H6 at E6 hp16 t6 ⊢
    refine g_bl (g_iff (g_next ?_))
    walk_at "go"
    refine g_lst' ?_
    refine g_cons ?_
    walk_at "go"
    obtain ⟨hD6, hx6⟩ := hl1 E6 H6 (fun _ _ h _ => h)
    refine ⟨u, x, _, b.c, wd, _, _, rfl, hD6, ok, hx6, fun H7 s7 => ?_⟩
    rw [ho]
    refine g_cons ?_
    refine g_callKn ?_
    walk_at "go"
    obtain ⟨hD7, hx7⟩ := hl1 E6 H7 (LamX.ExtN.of s7)
    refine ⟨u, x, _, b.c, wd, _, _, rfl, hD7, ok, hx7, fun H8 s8 => ?_⟩
    rw [ho]
    walk_at "go"
    refine ⟨sz (by simp), fun p9 np9 => ?_⟩
    have s9 : ∀ b' o', H6 b' = some o' → upd H8 p9 (.lst [.bl o.isNone, .bl o.isNone]) b' = some o' := fun b' o' h => kp np9 (s8 _ _ (s7 _ _ h))
    have hp9 : upd H8 p9 (.lst [.bl o.isNone, .bl o.isNone]) p9 = some (.lst [.bl o.isNone, .bl o.isNone]) := upd_same
    generalize upd H8 p9 (.lst [.bl o.isNone, .bl o.isNone]) = H9 at s9 hp9 ⊢
    have fb : Fit 7 3 (.bool o.isNone) ∧ (PyData.bool o.isNone).bulk ≤ 20 := ⟨fit_bl, by simp [PyData.bulk]⟩
    obtain ⟨f3, f4⟩ := fit_two fb
    refine g_proj ?_
    walk_at "go"
    refine g_showF (d := .list [.bool o.isNone, .bool o.isNone]) (.lst hp9 (.cons (.bl _) (.cons (.bl _) .nil))) f3 f4 ?_
    walk_at "go"
    refine g_lst' ?_
    refine g_cons ?_
    walk_at "go"
    refine g_tup' ?_
    walk_at "go"
    refine ⟨sz (by simp), fun pa npa => ?_⟩
    have sa := same_up (o := .tup []) npa (fun b o (h : H9 b = some o) => h)
    refine g_eqT0 (K := K) (SqT.of (sa _ _ (s9 _ _ hp16))) upd_same ?_
    rw [show decide (dueV o = []) = o.isNone by cases o <;> rfl]
    walk_at "go"
    refine ⟨sz (by simp), fun pb npb => ?_⟩
    walk_at "go"
    refine ⟨pb, 2, [.bl o.isNone], rfl, rfl, upd_same, by decide, by decide, sz (by simp), fun pc npc => ?_⟩
    have sc1 : ∀ b' o', H6 b' = some o' → upd (upd (upd H9 pa (.tup [])) pb (.lst [.bl o.isNone])) pc (.lst (List.replicate (2 : Int).toNat [V.bl o.isNone]).flatten) b' = some o' := fun b' o' h => kp npc (kp npb (sa _ _ (s9 _ _ h)))
    have hpc : upd (upd (upd H9 pa (.tup [])) pb (.lst [.bl o.isNone])) pc (.lst (List.replicate (2 : Int).toNat [V.bl o.isNone]).flatten) pc = some (.lst [.bl o.isNone, .bl o.isNone]) := upd_same
    generalize upd (upd (upd H9 pa (.tup [])) pb (.lst [.bl o.isNone])) pc (.lst (List.replicate (2 : Int).toNat [V.bl o.isNone]).flatten) = Hc at sc1 hpc ⊢
    refine g_nil ?_
    refine g_showF (d := .list [.bool o.isNone, .bool o.isNone]) (.lst hpc (.cons (.bl _) (.cons (.bl _) .nil))) f3 f4 ?_
    refine ⟨rfl, ?_⟩
    rw [decide_eq_true rfl]
    refine g_bl (g_tt ?_)
    walk_at "go"
    have Gc : Go m g H Hc := G1.trans ((Go.ext E6).trans (Go.same sc1))
    refine g_showF ((hd.same Gc).same calm_same) fit shn ?_
    walk_at "go"
    refine ⟨rfl, ?_⟩
    rw [decide_eq_true rfl]
    exact q _ ((LamX.ExtN.of s1).trans (E6.trans (LamX.ExtN.of sc1))) (t6.ext sc1)
end
end K06
set_option Elab.async false
set_option linter.all false
set_option maxRecDepth 100000
set_option maxHeartbeats 400000
namespace K06
open PySem PySem.Spec PyProof.Rows L2 WL
local macro_rules | `(tactic| walk_at "side") => `(tactic| first | (show (_ ∧ _) ∨ (_ ∧ _); omega) | (exact ⟨by omega, by omega⟩) | (show (0 : Int) < _; omega) | omega)
local macro_rules | `(tactic| walk_at "go") => `(tactic| (repeat (first
  | with_reducible refine g_seq ?_ | with_reducible refine g_asgN ?_ | with_reducible refine g_ret ?_ | with_reducible refine g_drop ?_ | with_reducible refine g_ifS ?_ | with_reducible refine g_next ?_
  | with_reducible refine g_var rfl ?_ | with_reducible refine g_c ?_ | with_reducible refine g_op ?_ | with_reducible refine g_un ?_ | with_reducible refine g_rI0 ?_ | ((with_reducible refine g_rI ?_ ?_); next => walk_at "side") | with_reducible refine g_test ?_ | with_reducible refine g_bl ?_
  | with_reducible refine g_nil ?_ | with_reducible refine g_cons ?_ | with_reducible refine g_call ?_ | with_reducible refine g_cb ?_ | with_reducible refine g_if ?_ | with_reducible refine g_par ?_ | with_reducible refine g_two ?_
  | with_reducible refine g_asg ?_ | with_reducible refine g_name ?_ | with_reducible refine g_sub ?_ | with_reducible refine g_yes ?_ | with_reducible refine g_gcons ?_ | with_reducible refine g_gnil ?_ | with_reducible refine g_dget ?_ | with_reducible refine g_dput ?_ | with_reducible refine g_rng1 ?_ | with_reducible refine g_rng2 ?_
  | ((with_reducible refine g_one ?_ ?_); next => omega) | ((with_reducible refine g_twoI ?_ ?_); next => omega) | with_reducible refine g_isNon ?_ | with_reducible refine g_andV ?_ | with_reducible refine g_revT ?_ | with_reducible refine g_itup ?_ | with_reducible refine g_methK0 ?_ | with_reducible refine g_methS ?_ | with_reducible refine g_errF ?_ | with_reducible refine g_prop ?_ | with_reducible refine g_con ?_ | with_reducible refine g_make ?_ | with_reducible refine g_fld ?_ | with_reducible refine g_sfld ?_ | with_reducible refine g_iftn ?_ | with_reducible refine g_iffn ?_ | with_reducible refine g_orV ?_ | with_reducible refine g_notV ?_ | with_reducible refine g_tB ?_ | with_reducible refine g_chain ?_ | with_reducible refine g_neg ?_ | with_reducible refine g_cval ?_ | with_reducible refine g_enumT ?_ | with_reducible refine g_andT ?_ | with_reducible refine g_orT ?_ | with_reducible refine g_notT ?_ | with_reducible refine g_sl ?_ | with_reducible refine g_part ?_ | with_reducible refine g_parI ?_ | with_reducible refine g_noPart ?_ | with_reducible refine g_pcons ?_ | with_reducible refine g_pnil ?_ | with_reducible refine g_list ?_ | with_reducible refine g_lc ?_ | with_reducible refine g_for ?_ | with_reducible refine g_enum ?_ | with_reducible refine g_ift ?_ | with_reducible refine g_iff ?_ | with_reducible refine And.intro rfl ?_ | with_reducible refine g_notNon ?_)))
local macro_rules | `(tactic| walk_at "ex") => `(tactic| (repeat (first
  | with_reducible refine g_seqAsg ?_ | with_reducible refine g_seqFld ?_ | with_reducible refine g_seqDrop ?_ | with_reducible refine g_seqPut ?_ | with_reducible refine g_seqPar ?_ | with_reducible refine g_asgN ?_ | with_reducible refine g_ret ?_ | with_reducible refine g_drop ?_ | with_reducible refine g_next ?_
  | with_reducible refine g_var rfl ?_ | with_reducible refine g_c ?_ | with_reducible refine g_op ?_ | with_reducible refine g_un ?_ | with_reducible refine g_rI0 ?_ | ((with_reducible refine g_rI ?_ ?_); next => walk_at "side") | with_reducible refine g_test ?_ | with_reducible refine g_bl ?_
  | with_reducible refine g_nil ?_ | with_reducible refine g_cons ?_ | with_reducible refine g_call ?_ | with_reducible refine g_cb ?_ | with_reducible refine g_if ?_ | with_reducible refine g_par ?_ | with_reducible refine g_two ?_
  | with_reducible refine g_asg ?_ | with_reducible refine g_name ?_ | with_reducible refine g_sub ?_ | with_reducible refine g_yes ?_ | with_reducible refine g_gcons ?_ | with_reducible refine g_gnil ?_ | with_reducible refine g_dget ?_ | with_reducible refine g_dput ?_ | with_reducible refine g_rng1 ?_ | with_reducible refine g_rng2 ?_
  | ((with_reducible refine g_one ?_ ?_); next => omega) | ((with_reducible refine g_twoI ?_ ?_); next => omega) | with_reducible refine g_isNon ?_ | with_reducible refine g_andV ?_ | with_reducible refine g_revT ?_ | with_reducible refine g_itup ?_ | with_reducible refine g_methK0 ?_ | with_reducible refine g_methS ?_ | with_reducible refine g_errF ?_ | with_reducible refine g_prop ?_ | with_reducible refine g_con ?_ | with_reducible refine g_make ?_ | with_reducible refine g_fld ?_ | with_reducible refine g_sfld ?_ | with_reducible refine g_iftn ?_ | with_reducible refine g_iffn ?_ | with_reducible refine g_orV ?_ | with_reducible refine g_notV ?_ | with_reducible refine g_tB ?_ | with_reducible refine g_chain ?_ | with_reducible refine g_neg ?_ | with_reducible refine g_cval ?_ | with_reducible refine g_enumT ?_ | with_reducible refine g_proj ?_ | with_reducible refine g_andT ?_ | with_reducible refine g_orT ?_ | with_reducible refine g_notT ?_ | with_reducible refine g_sl ?_ | with_reducible refine g_part ?_ | with_reducible refine g_parI ?_ | with_reducible refine g_noPart ?_ | with_reducible refine g_pcons ?_ | with_reducible refine g_pnil ?_ | with_reducible refine g_list ?_ | with_reducible refine g_lc ?_ | with_reducible refine g_enum ?_ | with_reducible refine g_ift ?_ | with_reducible refine g_iff ?_ | with_reducible refine And.intro rfl ?_ | with_reducible refine g_notNon ?_)))
section
variable {P : Program} {w : World} {K : PySem.W.Frag} {mg : Str → Option Value} {base : Heap} {f : Addr} {fd : FuncData} {DC IE ID : Addr} {TT : List (Addr × Str)}
def spDblR (DC : Addr) (TT : List (Addr × Str)) : Sp := fun vs H Q _ => ∃ (u : V) (t : Addr) (c w : Int) (ns : List (Option Int)) (ls : List (Int × Int × Int)) (is : List Int), vs = [u, .ref t] ∧ DiaAt DC H u c ns ls ∧ DOK c ns ls w ∧ H t = some (.tup (is.map V.int)) ∧ is.length = ns.length ∧ LamX.Tabs TT H ∧
  ∀ H', LamX.ExtN H H' → LamX.Tabs TT H' → Q (.bl true) H'
theorem sc_dblR : FnScope ["told", "dates", "kind", "heap", "thing_here"] ["told", "dates"] (defScope s_law_doubled_right) := ⟨rfl, rfl, rfl, by decide +kernel, rfl, by decide +kernel, by decide +kernel⟩
theorem ok_dblR {c p : Addr} (hm : (p, (envOfC "_law_doubled_right" (defScope s_law_doubled_right) 0 0 .none).qual ++ "<lambda>") ∈ TT) (hu2 : ∀ r ∈ TT, r.1 = p → r.2 = (envOfC "_law_doubled_right" (defScope s_law_doubled_right) 0 0 .none).qual ++ "<lambda>") (F : FnT K "_law_doubled_right" s_law_doubled_right f fd) (ht : tabA K f = some (c, p)) (tb : LamX.TabB base mg c p) (T : Blt mg) (Tz : TolZ K mg ID)
    (hDbl : Has P w K mg base 1 "_law_doubled" ["kind"] (spDblN K)) (hCal : Has P w K mg base 5 "is_calendar" ["diary", "days"] (spIsCal K DC)) (hChk : HasE P w K mg base 5 "check_calendar" ["diary", "days"] (spCheck K DC ID)) : GOk P w K mg base 11 f fd ["told", "dates"] (spDblR DC TT) := by
  refine gok_bodyC F ht sc_dblR (fun vs H Q E h => ?_) (fun A outer s H vs Q E hg hr h => ?_)
  · obtain ⟨u, t, c, w, ns, ls, is, rfl, _⟩ := h
    rfl
  · obtain ⟨u, t, cy, wd, ns, ls, is, rfl, hD, ok, hT, hlen, tabs, q⟩ := h
    have sc := sc_dblR
    have hu := hr.units
    refine ⟨_, (pss_cons (ps_for PassesOwn.never rfl (pi_range1 (by rfl) T.range (pa_cons pe_int pa_nil)) (pg_name (i := 2) sc.nd rfl (Or.inl rfl))
        (pss_cons (ps_set (i := 3) sc.nd rfl (Or.inl rfl) (pe_has hDbl hr (by decide) (pa_cons (pv 2) pa_nil)))
        (pss_one (ps_for PassesOwn.never rfl (pi_tup (pe_tup (pa_cons (pv 3) (pa_cons (pe_op op_catA (pe_slice sl_tupA (pv 1) po_none (po_some (pe_un un_neg pe_int))) (pe_tup (pa_cons (pv 3) pa_nil))) (pa_cons (pe_op op_repT1 (pe_tup (pa_cons (pv 3) pa_nil)) (pe_callB call_len_seq (by rfl) T.len PySem.boot_len (pa_cons (pv 1) pa_nil))) pa_nil))))) (pg_name (i := 4) sc.nd rfl (Or.inr rfl))
          (pss_cons (ps_if (pt_cmpR (op_neD hu) (pe_tolcall (T := TT) (k := 8) (t := fun E => tCall (spCheck K DC ID) [] E (tCons (tVar 0) (tCons (tVar 4) tNil))) Tz (by rfl) tb rfl hm hu2 (by decide) hr (LamX.lamS_by (by rfl)) rfl (fun _ _ _ _ _ => rfl) (fun A outer s H E f c' hr' => by exact (pe_hasEL hChk hr' (by decide) (by exact (pa_cons (pv 0) (pa_cons (pv 4) pa_nil)))))) (pe_tup (pa_cons pe_str (pa_cons pe_non pa_nil))) (nomark _))
            (pss_one (ps_ret pe_bl))
            pss_nil)
          (pss_one (ps_if (pt_cmpR op_notBl (pe_has hCal hr (by decide) (pa_cons (pv 0) (pa_cons (pv 4) pa_nil))) pe_bl (nomark _))
            (pss_one (ps_ret pe_bl))
            pss_nil)))))))
      (pss_one (ps_ret pe_bl))), ?_⟩
    have n1 := ok.n1
    have n16 := ok.n16
    walk_at "go"
    refine ForQ.range (fun i σ H' => (∃ x y z, σ = [some u, some (.ref t), x, y, z]) ∧ LamX.ExtN H H' ∧ LamX.Tabs TT H') ⟨⟨_, _, _, rfl⟩, (fun _ _ h _ => h), tabs⟩ ?_ ?_
    · rintro i σ H1 hi ⟨⟨x, y, z, rfl⟩, e1, t1⟩
      have hi2 : i < 2 := hi
      walk_at "go"
      refine ⟨(0 + (i : Int)), rfl, by omega, fun hp H2 sh nsh hsh s2 _ => ?_⟩
      have e2 : LamX.ExtN H H2 := e1.trans (LamX.ExtN.of s2)
      have t2 := t1.ext s2
      have hT2 := e2 _ _ hT (fun ps z => nomatch z)
      walk_at "go"
      refine g_tup' ?_
      refine g_cons ?_
      walk_at "go"
      refine g_slA (K := K) hT2 fun p3 H3 nt3 h3 => ?_
      refine g_tup' ?_
      walk_at "go"
      refine ⟨sz (by simp), fun p4 np4 => ?_⟩
      refine g_catA (K := K) (kp np4 h3) upd_same (by
        have : (cutV (is.map V.int) none (some (-1))).length ≤ (is.map V.int).length := by unfold cutV; rw [List.length_take, List.length_drop]; omega
        rw [List.length_map] at this
        simp
        omega) fun p5 H5 nt5 h5 => ?_
      refine g_cons ?_
      refine g_tup' ?_
      walk_at "go"
      refine ⟨sz (by simp), fun p6 np6 => ?_⟩
      have s6 : ∀ b o, H2 b = some o → upd H5 p6 (.tup [.ref hp]) b = some o := fun b o h => kp np6 (nt5.same _ _ (kp np4 (nt3.same _ _ h)))
      walk_at "go"
      refine g_len (K := K) (Or.inr (SqT.of (s6 _ _ hT2))) ?_
      rw [List.length_map]
      walk_at "go"
      refine g_repT1 (K := K) upd_same (by simp) (by omega) (by omega) (by simp) fun p7 H7 s7 h7 => ?_
      have s67 : ∀ b o, H2 b = some o → H7 b = some o := fun b o h => s7 _ _ (s6 _ _ h)
      have h57 := s7 _ _ (kp np6 h5)
      walk_at "go"
      refine ⟨sz (by simp), fun p8 np8 => ?_⟩
      have s8 : ∀ b o, H2 b = some o → upd H7 p8 (.tup [.ref hp, .ref p5, .ref p7]) b = some o := fun b o h => kp np8 (s67 _ _ h)
      have h58 := kp (o' := .tup [.ref hp, .ref p5, .ref p7]) np8 h57
      have h78 := kp (o' := .tup [.ref hp, .ref p5, .ref p7]) np8 h7
      have h88 : upd H7 p8 (.tup [.ref hp, .ref p5, .ref p7]) p8 = some (.tup [.ref hp, .ref p5, .ref p7]) := upd_same
      generalize upd H7 p8 (.tup [.ref hp, .ref p5, .ref p7]) = H8 at s8 h58 h78 h88 ⊢
      have e8 : LamX.ExtN H H8 := e2.trans (LamX.ExtN.of s8)
      have t8 := t2.ext s8
      have hh8 := hsh.same s8
      have odd : ∀ v ∈ [V.ref hp, .ref p5, .ref p7], ∃ sv, AnS K H8 v sv ∧ Sh.days ns.length sv = false := by
        intro v hv
        simp only [List.mem_cons, List.not_mem_nil, or_false] at hv
        rcases hv with rfl | rfl | rfl
        · exact ⟨sh, hh8, nsh.days n1⟩
        · refine ⟨.tup (_ ++ [sh]), .tup (SqT.of h58) (AnSs.app (((anss_ints is).drop _).take _) (.cons hh8 .nil)), days_no ⟨sh, by simp, nsh.num⟩⟩
        · have rep : ∀ n : Nat, AnSs K H8 (List.replicate n [V.ref hp]).flatten (List.replicate n sh) := by
            intro n
            induction n with
            | zero => exact .nil
            | succ n ih => rw [List.replicate_succ, List.replicate_succ]; exact .cons hh8 ih
          refine ⟨.tup _, .tup (SqT.of h78) (rep _), days_no ⟨sh, ?_, nsh.num⟩⟩
          rw [List.mem_replicate]
          exact ⟨by omega, rfl⟩
      refine g_tq (K := K) (SqT.of h88) ?_
      refine ForQ.tup (xs := [V.ref hp, .ref p5, .ref p7]) (fun j σ H' => (∃ x y z, σ = [some u, some (.ref t), x, y, z]) ∧ LamX.ExtN H8 H' ∧ LamX.Tabs TT H') ⟨⟨_, _, _, rfl⟩, (fun _ _ h _ => h), t8⟩ (fun j σ H' _ h => SqT.of (h.2.1 _ _ h88 (fun ps z => nomatch z))) ?_ ?_
      · rintro j v σ H9 hv ⟨⟨x, y, z, rfl⟩, e9, t9⟩
        obtain ⟨sv, hsv, hno⟩ := odd v (List.mem_of_getElem? hv)
        have hD9 := fun {H'} (e : LamX.ExtN H9 H') => hD.extN (e8.trans (e9.trans e))
        walk_at "go"
        refine lam_chk (K := K) (DC := DC) (ID := ID) (u := u) (x := v) (sh := sv) t9 (fun H4 e4 => ⟨hD9 e4, AnS.extN hsv (e9.trans e4)⟩) ok (fun E H4 Q1 h => ⟨u, rfl, ⟨v, rfl, h⟩⟩) (fun pa Ha ea ta hpa => ?_)
        rw [due_form hno] at hpa
        refine g_tup' ?_
        walk_at "go"
        refine ⟨sz (by simp), fun pb npb => ?_⟩
        have dp : ∀ {H' : Hp} {a : Addr}, H' a = some (.tup [.str "form", .non]) → Dp K H' (.ref a) (.tuple [.str "form", .none]) := fun h => .tup (SqT.of h) (.cons (.str _) (.cons .non .nil))
        refine g_neD (K := K) (dp (kp npb hpa)) (dp upd_same) (by decide +kernel) (by decide +kernel) ?_
        rw [show (PyData.tuple [.str "form", .none]).eqv (.tuple [.str "form", .none]) = true by decide +kernel]
        have sb := same_up (o := .tup [.str "form", .non]) npb (fun b o (h : Ha b = some o) => h)
        refine g_bl (g_iff (g_next ?_))
        walk_at "go"
        refine ⟨u, v, sv, cy, wd, ns, ls, rfl, hD9 (ea.trans (LamX.ExtN.of sb)), ok, AnS.extN hsv (e9.trans (ea.trans (LamX.ExtN.of sb))), fun Hc sc1 => ?_⟩
        rw [due_form hno]
        walk_at "go"
        refine g_notBl ?_
        refine g_bl (g_iff (g_next ?_))
        exact ⟨⟨_, _, _, rfl⟩, e9.trans (ea.trans (LamX.ExtN.of fun b o h => sc1 _ _ (sb _ _ h))), ta.ext fun b o h => sc1 _ _ (sb _ _ h)⟩
      · rintro σ H9 ⟨⟨x, y, z, rfl⟩, e9, t9⟩
        exact ⟨⟨_, _, _, rfl⟩, e8.trans e9, t9⟩
    · rintro σ H1 ⟨⟨x, y, z, rfl⟩, e1, t1⟩
      walk_at "go"
      exact q _ e1 t1
end
end K06
set_option Elab.async false
set_option linter.all false
set_option maxRecDepth 100000
set_option maxHeartbeats 400000
namespace K06
open PySem PySem.Spec PyProof.Rows L2 WL
local macro_rules | `(tactic| walk_at "side") => `(tactic| first | (show (_ ∧ _) ∨ (_ ∧ _); omega) | (exact ⟨by omega, by omega⟩) | (show (0 : Int) < _; omega) | omega)
local macro_rules | `(tactic| walk_at "go") => `(tactic| (repeat (first
  | with_reducible refine g_seq ?_ | with_reducible refine g_asgN ?_ | with_reducible refine g_ret ?_ | with_reducible refine g_drop ?_ | with_reducible refine g_ifS ?_ | with_reducible refine g_next ?_
  | with_reducible refine g_var rfl ?_ | with_reducible refine g_c ?_ | with_reducible refine g_op ?_ | with_reducible refine g_un ?_ | with_reducible refine g_rI0 ?_ | ((with_reducible refine g_rI ?_ ?_); next => walk_at "side") | with_reducible refine g_test ?_ | with_reducible refine g_bl ?_
  | with_reducible refine g_nil ?_ | with_reducible refine g_cons ?_ | with_reducible refine g_call ?_ | with_reducible refine g_cb ?_ | with_reducible refine g_if ?_ | with_reducible refine g_par ?_ | with_reducible refine g_two ?_
  | with_reducible refine g_asg ?_ | with_reducible refine g_name ?_ | with_reducible refine g_sub ?_ | with_reducible refine g_yes ?_ | with_reducible refine g_gcons ?_ | with_reducible refine g_gnil ?_ | with_reducible refine g_dget ?_ | with_reducible refine g_dput ?_ | with_reducible refine g_rng1 ?_ | with_reducible refine g_rng2 ?_
  | ((with_reducible refine g_one ?_ ?_); next => omega) | ((with_reducible refine g_twoI ?_ ?_); next => omega) | with_reducible refine g_isNon ?_ | with_reducible refine g_andV ?_ | with_reducible refine g_revT ?_ | with_reducible refine g_itup ?_ | with_reducible refine g_methK0 ?_ | with_reducible refine g_methS ?_ | with_reducible refine g_errF ?_ | with_reducible refine g_prop ?_ | with_reducible refine g_con ?_ | with_reducible refine g_make ?_ | with_reducible refine g_fld ?_ | with_reducible refine g_sfld ?_ | with_reducible refine g_iftn ?_ | with_reducible refine g_iffn ?_ | with_reducible refine g_orV ?_ | with_reducible refine g_notV ?_ | with_reducible refine g_tB ?_ | with_reducible refine g_chain ?_ | with_reducible refine g_neg ?_ | with_reducible refine g_cval ?_ | with_reducible refine g_enumT ?_ | with_reducible refine g_andT ?_ | with_reducible refine g_orT ?_ | with_reducible refine g_notT ?_ | with_reducible refine g_sl ?_ | with_reducible refine g_part ?_ | with_reducible refine g_parI ?_ | with_reducible refine g_noPart ?_ | with_reducible refine g_pcons ?_ | with_reducible refine g_pnil ?_ | with_reducible refine g_list ?_ | with_reducible refine g_lc ?_ | with_reducible refine g_for ?_ | with_reducible refine g_enum ?_ | with_reducible refine g_ift ?_ | with_reducible refine g_iff ?_ | with_reducible refine And.intro rfl ?_ | with_reducible refine g_notNon ?_)))
local macro_rules | `(tactic| walk_at "ex") => `(tactic| (repeat (first
  | with_reducible refine g_seqAsg ?_ | with_reducible refine g_seqFld ?_ | with_reducible refine g_seqDrop ?_ | with_reducible refine g_seqPut ?_ | with_reducible refine g_seqPar ?_ | with_reducible refine g_asgN ?_ | with_reducible refine g_ret ?_ | with_reducible refine g_drop ?_ | with_reducible refine g_next ?_
  | with_reducible refine g_var rfl ?_ | with_reducible refine g_c ?_ | with_reducible refine g_op ?_ | with_reducible refine g_un ?_ | with_reducible refine g_rI0 ?_ | ((with_reducible refine g_rI ?_ ?_); next => walk_at "side") | with_reducible refine g_test ?_ | with_reducible refine g_bl ?_
  | with_reducible refine g_nil ?_ | with_reducible refine g_cons ?_ | with_reducible refine g_call ?_ | with_reducible refine g_cb ?_ | with_reducible refine g_if ?_ | with_reducible refine g_par ?_ | with_reducible refine g_two ?_
  | with_reducible refine g_asg ?_ | with_reducible refine g_name ?_ | with_reducible refine g_sub ?_ | with_reducible refine g_yes ?_ | with_reducible refine g_gcons ?_ | with_reducible refine g_gnil ?_ | with_reducible refine g_dget ?_ | with_reducible refine g_dput ?_ | with_reducible refine g_rng1 ?_ | with_reducible refine g_rng2 ?_
  | ((with_reducible refine g_one ?_ ?_); next => omega) | ((with_reducible refine g_twoI ?_ ?_); next => omega) | with_reducible refine g_isNon ?_ | with_reducible refine g_andV ?_ | with_reducible refine g_revT ?_ | with_reducible refine g_itup ?_ | with_reducible refine g_methK0 ?_ | with_reducible refine g_methS ?_ | with_reducible refine g_errF ?_ | with_reducible refine g_prop ?_ | with_reducible refine g_con ?_ | with_reducible refine g_make ?_ | with_reducible refine g_fld ?_ | with_reducible refine g_sfld ?_ | with_reducible refine g_iftn ?_ | with_reducible refine g_iffn ?_ | with_reducible refine g_orV ?_ | with_reducible refine g_notV ?_ | with_reducible refine g_tB ?_ | with_reducible refine g_chain ?_ | with_reducible refine g_neg ?_ | with_reducible refine g_cval ?_ | with_reducible refine g_enumT ?_ | with_reducible refine g_proj ?_ | with_reducible refine g_andT ?_ | with_reducible refine g_orT ?_ | with_reducible refine g_notT ?_ | with_reducible refine g_sl ?_ | with_reducible refine g_part ?_ | with_reducible refine g_parI ?_ | with_reducible refine g_noPart ?_ | with_reducible refine g_pcons ?_ | with_reducible refine g_pnil ?_ | with_reducible refine g_list ?_ | with_reducible refine g_lc ?_ | with_reducible refine g_enum ?_ | with_reducible refine g_ift ?_ | with_reducible refine g_iff ?_ | with_reducible refine And.intro rfl ?_ | with_reducible refine g_notNon ?_)))
section
variable {P : Program} {w : World} {K : PySem.W.Frag} {mg : Str → Option Value} {base : Heap} {f : Addr} {fd : FuncData}
def spClose (K : PySem.W.Frag) : Sp := fun vs H Q _ => ∃ (m c g : Addr) (B : Int) (v : V) (t : Addr) (b : Book) (is : List Int), vs = [.ref m, v, .ref t] ∧ Pr m c g H H B ∧ B < 2 ^ 26 ∧ Fz H v b.d ∧ (2 ≤ b.c ∧ b.c ≤ 100) ∧ H t = some (.tup (is.map V.int)) ∧ (2 ≤ is.length ∧ is.length ≤ 16) ∧ (∀ i ∈ is, -200 ≤ i ∧ i < 200) ∧
  ∀ (L : Addr) (items : List V) (H' : Hp), Pr m c g H H' (B + 400) → H' L = some (.lst items) → L ≠ m ∧ L ≠ g → items.length ≤ 100 → (∀ v ∈ items, Gd m g H' 1002 5 3400 v) → Q (.ref L) H'
/-- the list that grows, at L, and the days at t -/
def Grow (m c g L t : Addr) (is : List Int) (H H' : Hp) (B : Int) (n : Nat) : Prop := ∃ items : List V, H' L = some (.lst items) ∧ items.length ≤ n ∧ (∀ v ∈ items, Gd m g (hide L H') 1002 5 3400 v) ∧ Pr m c g H H' B ∧ H' t = some (.tup (is.map V.int))
theorem grow_app {m c g L t : Addr} {is : List Int} {H H1 H5 : Hp} {B : Int} {n : Nat} {y : V} {Q : VK} (h : Grow m c g L t is H H1 B n) (hL : H L = none) (Lc : L ≠ m ∧ L ≠ c ∧ L ≠ g) (hn : n ≤ 1000) (s : ∀ b o, H1 b = some o → H5 b = some o) (hy : Gd m g (hide L H5) 1002 5 3400 y)
    (q : ∀ H6, Grow m c g L t is H H6 B (n + 1) → Tk H1 H6 → Go m g (hide L H1) (hide L H6) → Q .non H6) : rAppend (.ref L) [y] H5 Q := by
  obtain ⟨items, a1, a2, a3, a4, a5⟩ := h
  have P5 := a4.wide s
  have kt : ∀ b xs, H1 b = some (.tup xs) → upd H5 L (.lst (items ++ [y])) b = some (.tup xs) := fun b xs h => by
    rw [upd_ne (fun z => by rw [z, a1] at h; cases h)]; exact s _ _ h
  refine g_app (s _ _ a1) (szl (by omega)) (q _ ⟨items ++ [y], upd_same, by simp; omega, ?_, P5.put hL Lc.1 Lc.2.1 Lc.2.2, kt _ _ a5⟩ kt (by rw [hide_put]; exact Go.hide fun b o _ _ _ h => s b o h))
  rw [hide_put]
  exact gd_all a3 (Go.hide fun b o _ _ _ h => s b o h) hy
theorem Grow.same {m c g L t : Addr} {is : List Int} {H H1 H2 : Hp} {B : Int} {n : Nat} (h : Grow m c g L t is H H1 B n) (s : ∀ b o, H1 b = some o → H2 b = some o) : Grow m c g L t is H H2 B n := by
  obtain ⟨items, a1, a2, a3, a4, a5⟩ := h
  exact ⟨items, s _ _ a1, a2, gd_keep a3 (Go.hide fun b o _ _ _ h => s b o h), a4.wide s, s _ _ a5⟩
theorem sc_clo : FnScope ["m", "book", "dates", "at", "cycle", "found", "spot", "more", "odd", "n", "far", "moved"] ["m", "book", "dates"] (defScope s_law_close_ones) := ⟨rfl, rfl, rfl, by decide +kernel, rfl, by decide +kernel, by decide +kernel⟩
theorem ok_clo (F : FnT K "_law_close_ones" s_law_close_ones f fd) (T : Blt mg) (hstr : mg "str" = none) (hsorted : mg "sorted" = none) (nd : NoDig K) (hDraw : Has P w K mg base 2 "_law_draw" ["m", "top"] spDraw') (hChanged : Has P w K mg base 7 "_law_changed" ["m", "thing_here"] (spChg K 4)) : FnOk P w K mg base CX0 8 f fd ["m", "book", "dates"] (spClose K) := by
  refine F.ok sc_clo (fun vs H Q E h => ?_) (fun cdv A outer s H vs Q E hr h => ?_)
  · obtain ⟨m, c, g, B, v, t, b, is, rfl, _⟩ := h
    rfl
  · obtain ⟨m, c, g, B, v, t, b, is, rfl, hP, hB, hb, hc, hT, hlen, hsm, q⟩ := h
    have sc := sc_clo
    have hu := hr.units
    refine ⟨_, PSs.nox (pss_cons (ps_asg (pe_tup (pa_cons (pe_has hDraw hr (by decide) (pa_cons (pv 0) (pa_cons (pe_callB call_len_seq (by rfl) T.len PySem.boot_len (pa_cons (pv 2) pa_nil)) pa_nil))) (pa_cons (pe_ix (r := rIxT K) ix_tup (pv 1) pe_int (fun _ _ => rfl)) pa_nil))) (pg_tup rfl (pgs_cons (pg_name (i := 3) sc.nd rfl (Or.inl rfl)) (pgs_cons (pg_name (i := 4) sc.nd rfl (Or.inr rfl)) pgs_nil))))
      (pss_cons (ps_set (i := 5) sc.nd rfl (Or.inl rfl) (pe_lst (pa_cons (pe_callTy call_list_of (by rfl) T.list (by decide +kernel) (pa_cons (pv 2) pa_nil)) (pa_cons (pe_slice sl_tupA (pv 2) (po_some pe_int) po_none) (pa_cons (pe_op op_catA (pv 2) (pe_tup (pa_cons pe_int pa_nil))) (pa_cons (pe_op op_catA (pv 2) (pe_slice sl_tupA (pv 2) (po_some (pe_un un_neg pe_int)) po_none)) (pa_cons (pe_revT (pv 2)) (pa_cons (pe_tup pa_nil) (pa_cons pe_non (pa_cons pe_dnewK (pa_cons pe_str (pa_cons pe_int (pa_cons (pe_ix (r := rIxT K) ix_tup (pv 2) pe_int (fun _ _ => rfl)) pa_nil)))))))))))))
      (pss_cons (ps_set (i := 5) sc.nd rfl (Or.inl rfl) (pe_op op_cat (pv 5) (pe_lst (pa_cons (pe_callTy call_tuple_of (by rfl) T.tuple (by decide +kernel) (pa_cons (pe_lc (own := [("spot", 6)]) (g := gName 6) (tt := tYes) (by rfl) sc.nd (pi_tup (pv 2)) (blkOk_by (sc := defScope s_law_close_ones) (N := ["m", "book", "dates", "at", "cycle", "found", "spot", "more", "odd", "n", "far", "moved"]) (own := [("spot", 6)]) (by decide +kernel)) (fun _ _ _ _ _ => (pg_name (i := 6) sc.nd rfl (Or.inl rfl))) (fun _ _ _ _ _ => pts_nil) (fun _ _ _ _ _ => (pe_op op_add (pv 6) (pe_op op_mul pe_int (pv 4))))) pa_nil)) (pa_cons (pe_callTy call_tuple_of (by rfl) T.tuple (by decide +kernel) (pa_cons (pe_lc (own := [("spot", 6)]) (g := gName 6) (tt := tYes) (by rfl) sc.nd (pi_tup (pv 2)) (blkOk_by (sc := defScope s_law_close_ones) (N := ["m", "book", "dates", "at", "cycle", "found", "spot", "more", "odd", "n", "far", "moved"]) (own := [("spot", 6)]) (by decide +kernel)) (fun _ _ _ _ _ => (pg_name (i := 6) sc.nd rfl (Or.inl rfl))) (fun _ _ _ _ _ => pts_nil) (fun _ _ _ _ _ => (pe_op op_add (pv 6) pe_int))) pa_nil)) pa_nil)))))
      (pss_cons (ps_expr (pe_bm PySem.F.plainAttrs_list PySem.F.slot_list_append PySem.F.type_list_append mt_append (pv 5) (pa_cons (pe_callTy call_tuple_of (by rfl) T.tuple (by decide +kernel) (pa_cons (pe_callB call_sortTI (by rfl) hsorted (by decide +kernel) (pa_cons (pv 2) pa_nil)) pa_nil)) pa_nil)))
      (pss_cons (ps_for PassesOwn.never rfl (pi_tup (pe_tup (pa_cons pe_int (pa_cons (pe_op op_sub pe_int pe_int) (pa_cons (pv 4) (pa_cons (pe_op op_sub pe_int (pv 4)) (pa_cons (pe_op op_mul pe_int (pv 4)) (pa_cons (pe_op op_sub pe_int (pe_op op_mul pe_int (pv 4))) (pa_cons (pe_op op_pow pe_int pe_int) (pa_cons (pe_op op_sub pe_int (pe_op op_pow pe_int pe_int)) (pa_cons (pe_op op_add (pe_op op_mul pe_int (pv 4)) pe_int) pa_nil))))))))))) (pg_name (i := 7) sc.nd rfl (Or.inl rfl))
        (pss_one (ps_expr (pe_bm PySem.F.plainAttrs_list PySem.F.slot_list_append PySem.F.type_list_append mt_append (pv 5) (pa_cons (pe_op op_catA (pe_op op_catA (pe_slice sl_tupA (pv 2) po_none (po_some (pv 3))) (pe_tup (pa_cons (pe_op op_add (pe_ix (r := rIxT K) ix_tup (pv 2) (pv 3) (fun _ _ => rfl)) (pv 7)) pa_nil))) (pe_slice sl_tupA (pv 2) (po_some (pe_op op_add (pv 3) pe_int)) po_none)) pa_nil)))))
      (pss_cons (ps_for PassesOwn.never rfl (pi_tup (pe_tup (pa_cons pe_non (pa_cons pe_bl (pa_cons pe_bl (pa_cons (pe_callTy (call_strV nd) (by rfl) hstr (by decide +kernel) (pa_cons (pe_ix (r := rIxT K) ix_tup (pv 2) (pv 3) (fun _ _ => rfl)) pa_nil)) (pa_cons (pe_tup (pa_cons (pe_ix (r := rIxT K) ix_tup (pv 2) (pv 3) (fun _ _ => rfl)) pa_nil)) (pa_cons (pe_lst pa_nil) (pa_cons pe_dnewK pa_nil))))))))) (pg_name (i := 8) sc.nd rfl (Or.inl rfl))
        (pss_one (ps_expr (pe_bm PySem.F.plainAttrs_list PySem.F.slot_list_append PySem.F.type_list_append mt_append (pv 5) (pa_cons (pe_op op_catA (pe_op op_catA (pe_slice sl_tupA (pv 2) po_none (po_some (pv 3))) (pe_tup (pa_cons (pv 8) pa_nil))) (pe_slice sl_tupA (pv 2) (po_some (pe_op op_add (pv 3) pe_int)) po_none)) pa_nil)))))
      (pss_cons (ps_for PassesOwn.never rfl (pi_range1 (by rfl) T.range (pa_cons pe_int pa_nil)) (pg_name (i := 9) sc.nd rfl (Or.inl rfl))
        (pss_cons (ps_set (i := 10) sc.nd rfl (Or.inl rfl) (pe_has hDraw hr (by decide) (pa_cons (pv 0) (pa_cons (pe_callB call_len_seq (by rfl) T.len PySem.boot_len (pa_cons (pv 2) pa_nil)) pa_nil))))
        (pss_cons (ps_set (i := 11) sc.nd rfl (Or.inl rfl) (pe_op op_catA (pe_op op_catA (pe_slice sl_tupA (pv 2) po_none (po_some (pv 10))) (pe_tup (pa_cons (pe_op op_add (pe_ix (r := rIxT K) ix_tup (pv 2) (pv 10) (fun _ _ => rfl)) (pe_op op_mul (pv 4) (pe_op op_sub (pe_has hDraw hr (by decide) (pa_cons (pv 0) (pa_cons pe_int pa_nil))) pe_int))) pa_nil))) (pe_slice sl_tupA (pv 2) (po_some (pe_op op_add (pv 10) pe_int)) po_none)))
        (pss_one (ps_set (i := 5) sc.nd rfl (Or.inl rfl) (pe_op op_cat (pv 5) (pe_lst (pa_cons (pv 11) (pa_cons (pe_has hChanged hr (by decide) (pa_cons (pv 0) (pa_cons (pv 2) pa_nil))) (pa_cons (pe_has hChanged hr (by decide) (pa_cons (pv 0) (pa_cons (pe_has hChanged hr (by decide) (pa_cons (pv 0) (pa_cons (pv 2) pa_nil))) pa_nil))) pa_nil))))))))))
      (pss_one (ps_ret (pv 5)))))))))), ?_⟩
    obtain ⟨bk, na, la, dv, rfl, hbk, hbn, _, _⟩ := book_inv hb
    have big : ∀ {i : Int}, -99999 ≤ i ∧ i ≤ 99999 → i.natAbs < 10 ^ 1002 := fun h => small_int (by omega) h
    have smi : ∀ {H'} {i : Int}, -99999 ≤ i ∧ i ≤ 99999 → Gd m g H' 1002 5 3400 (.int i) := fun h => gd_int (big h)
    -- a tuple of numbers, all of them not too great
    have tupi : ∀ {H' : Hp} {B' : Int} {p : Addr} {ys : List Int}, Pr m c g H H' B' → H' p = some (.tup (ys.map V.int)) → (∀ i ∈ ys, i.natAbs < 10 ^ 1002) → ys.length ≤ 50 → Gd m g H' 1002 5 3400 (.ref p) := fun p' h hi hl => by
      obtain ⟨z1, z2⟩ := p'.tup_ne h
      exact gd_ints (n := 4) h z1 z2 hi (by omega)
    have bigs : ∀ i ∈ is, i.natAbs < 10 ^ 1002 := fun i hi => big (by have := hsm i hi; omega)
    walk_at "go"
    refine g_tup' ?_
    walk_at "go"
    refine g_len (K := K) (Or.inr (SqT.of hT)) ?_
    rw [List.length_map]
    walk_at "go"
    refine ⟨m, c, g, B, (is.length : Int), rfl, hP, by omega, ⟨by omega, by omega⟩, fun at_ H1 a0 a1 P1 => ?_⟩
    have tk1 := P1.tk hP
    walk_at "go"
    refine g_ixT (K := K) (SqT.of (tk1 _ _ hbk)) rfl ?_
    walk_at "go"
    refine ⟨sz (by simp), fun p2 np2 => ?_⟩
    obtain ⟨_, _, P2, S2⟩ := P1.grow np2 (.tup [.int at_, .int b.c])
    have hT2 := kp (o' := .tup [.int at_, .int b.c]) np2 (tk1 _ _ hT)
    refine g_tupg (K := K) (SqT.of upd_same) rfl ?_
    generalize upd H1 p2 (.tup [.int at_, .int b.c]) = H2 at P2 S2 hT2 ⊢
    obtain ⟨at_, rfl⟩ : ∃ i : Nat, at_ = i := ⟨at_.toNat, by omega⟩
    have hat : at_ < is.length := by omega
    walk_at "go"
    refine g_lst' ?_
    refine g_cons ?_
    walk_at "go"
    refine ⟨t, _, rfl, Or.inr (SqT.of hT2), fun p3 np3 => ?_⟩
    obtain ⟨m3, g3, P3, S3⟩ := P2.grow np3 (.lst (is.map V.int))
    have A3 : ∀ v ∈ [V.ref p3], Gd m g (upd H2 p3 (.lst (is.map V.int))) 1002 5 3400 v := fun v hv => by
      rw [List.mem_singleton.mp hv]
      exact gd_lst (n := 4) (k := 0) upd_same m3 g3 (fun x hx => by obtain ⟨i, hi, rfl⟩ := List.mem_map.mp hx; exact gd_int (bigs i hi)) (by simp; omega)
    have hT3 := kp (o' := .lst (is.map V.int)) np3 hT2
    generalize upd H2 p3 (.lst (is.map V.int)) = H3 at P3 S3 A3 hT3 ⊢
    walk_at "go"
    refine g_slA (K := K) hT3 fun p4 H4 nt4 h4 => ?_
    obtain ⟨js4, ej4, in4, lj4⟩ := cut_ints is (some 1) none
    rw [ej4] at h4
    have P4 := P3.nt nt4
    have A4 := gd_all A3 (Go.nt nt4) (tupi P4 h4 (fun i hi => bigs i (in4 i hi)) (by omega))
    have hT4 := nt4.same _ _ hT3
    walk_at "go"
    refine g_tup' ?_
    walk_at "go"
    refine ⟨sz (by simp), fun p5 np5 => ?_⟩
    obtain ⟨_, _, P5, S5⟩ := P4.grow np5 (.tup [.int 0])
    have A5 := gd_keep A4 S5
    have hT5 := kp (o' := .tup [.int 0]) np5 hT4
    refine g_catA (K := K) hT5 upd_same (by simp; omega) fun p6 H6 nt6 h6 => ?_
    have P6 := P5.nt nt6
    have A6 := gd_all (gd_keep A5 Go.refl) (Go.nt nt6) (tupi (ys := is ++ [0]) P6 (by rw [h6, List.map_append]; rfl) (fun i hi => by rcases List.mem_append.mp hi with z | z; exact bigs i z; exact big (by rw [List.mem_singleton.mp z]; decide)) (by simp; omega))
    have hT6 := nt6.same _ _ hT5
    walk_at "go"
    refine g_slA (K := K) hT6 fun p7 H7 nt7 h7 => ?_
    obtain ⟨js7, ej7, in7, lj7⟩ := cut_ints is (some (-1)) none
    rw [ej7] at h7
    refine g_catA (K := K) (nt7.same _ _ hT6) h7 (by simp; omega) fun p8 H8 nt8 h8 => ?_
    have P8 := (P6.nt nt7).nt nt8
    have A8 := gd_all A6 (Go.nt (nt7.trans nt8)) (tupi (ys := is ++ js7) P8 (by rw [h8, List.map_append]) (fun i hi => by rcases List.mem_append.mp hi with z | z; exact bigs i z; exact bigs i (in7 i z)) (by simp; omega))
    have hT8 := nt8.same _ _ (nt7.same _ _ hT6)
    walk_at "go"
    refine ⟨t, _, rfl, SqT.of hT8, fun p9 np9 => ?_⟩
    obtain ⟨_, _, P9, S9⟩ := P8.grow np9 (.tup (is.map V.int).reverse)
    have h9 : upd H8 p9 (.tup (is.map V.int).reverse) p9 = some (.tup (is.reverse.map V.int)) := by rw [upd_same, List.map_reverse]
    have A9 := gd_all A8 S9 (tupi P9 h9 (fun i hi => bigs i (List.mem_reverse.mp hi)) (by simp; omega))
    have hT9 := kp (o' := .tup (is.map V.int).reverse) np9 hT8
    generalize upd H8 p9 (.tup (is.map V.int).reverse) = H9 at P9 S9 A9 hT9 ⊢
    walk_at "go"
    refine g_tup' ?_
    walk_at "go"
    refine ⟨sz (by simp), fun p10 np10 => ?_⟩
    obtain ⟨_, _, P10, S10⟩ := P9.grow np10 (.tup [])
    have A10 := gd_all A9 S10 (y := .ref p10) (tupi (ys := []) P10 upd_same (fun i z => nomatch z) (by simp))
    have hT10 := kp (o' := .tup []) np10 hT9
    generalize upd H9 p10 (.tup []) = H10 at P10 S10 A10 hT10 ⊢
    walk_at "go"
    refine g_dnew fun p11 np11 => ?_
    obtain ⟨m11, g11, P11, S11⟩ := P10.grow np11 (.dK [])
    have A11 := gd_all A10 S11 (y := .ref p11) (gd_dct upd_same m11 g11)
    have hT11 := kp (o' := .dK []) np11 hT10
    generalize upd H10 p11 (.dK []) = H11 at P11 S11 A11 hT11 ⊢
    have h0 : 0 < is.length := by omega
    walk_at "go"
    refine g_ixT (K := K) (SqT.of hT11) (WL.atI_at (v := V.int (is[0]'h0)) (by decide) (map_get_int (List.getElem?_eq_getElem h0))) ?_
    walk_at "go"
    refine ⟨sz (by simp), fun p12 np12 => ?_⟩
    obtain ⟨m12, g12, P12, S12⟩ := P11.grow np12 (.lst [.ref p3, .ref p4, .ref p6, .ref p8, .ref p9, .ref p10, .non, .ref p11, .str "", .int 0, .int (is[0]'h0)])
    have A12 : ∀ v ∈ [V.ref p3, .ref p4, .ref p6, .ref p8, .ref p9, .ref p10, .non, .ref p11, .str "", .int 0, .int (is[0]'h0)], Gd m g (upd H11 p12 (.lst [.ref p3, .ref p4, .ref p6, .ref p8, .ref p9, .ref p10, .non, .ref p11, .str "", .int 0, .int (is[0]'h0)])) 1002 5 3400 v := by
      intro v hv
      simp only [List.mem_cons, List.not_mem_nil, or_false] at hv
      have A := gd_keep A11 S12
      rcases hv with rfl | rfl | rfl | rfl | rfl | rfl | rfl | rfl | rfl | rfl | rfl
      · exact A _ (by simp)
      · exact A _ (by simp)
      · exact A _ (by simp)
      · exact A _ (by simp)
      · exact A _ (by simp)
      · exact A _ (by simp)
      · exact gd_non
      · exact A _ (by simp)
      · exact gd_str (text_signs "") (Nat.zero_le _)
      · exact smi ⟨by decide, by decide⟩
      · exact gd_int (bigs _ (List.getElem_mem h0))
    have hT12 := kp (o' := .lst [.ref p3, .ref p4, .ref p6, .ref p8, .ref p9, .ref p10, .non, .ref p11, .str "", .int 0, .int (is[0]'h0)]) np12 hT11
    have hL12 : upd H11 p12 (.lst [.ref p3, .ref p4, .ref p6, .ref p8, .ref p9, .ref p10, .non, .ref p11, .str "", .int 0, .int (is[0]'h0)]) p12 = some (.lst [.ref p3, .ref p4, .ref p6, .ref p8, .ref p9, .ref p10, .non, .ref p11, .str "", .int 0, .int (is[0]'h0)]) := upd_same
    have l12 : [V.ref p3, .ref p4, .ref p6, .ref p8, .ref p9, .ref p10, .non, .ref p11, .str "", .int 0, .int (is[0]'h0)].length = 11 := rfl
    generalize upd H11 p12 (.lst [.ref p3, .ref p4, .ref p6, .ref p8, .ref p9, .ref p10, .non, .ref p11, .str "", .int 0, .int (is[0]'h0)]) = H12 at P12 S12 A12 hT12 hL12 ⊢
    generalize [V.ref p3, .ref p4, .ref p6, .ref p8, .ref p9, .ref p10, .non, .ref p11, .str "", .int 0, .int (is[0]'h0)] = items at A12 hL12 l12
    refine g_proj ?_
    walk_at "go"
    refine g_lst' ?_
    walk_at "go"
    refine g_tq (K := K) (SqT.of hT12) ?_
    refine LcQ.tup (xs := is.map V.int) (fun D i H' => H' D = some (.lst ((is.take i).map fun x => V.int (x + 7 * b.c))) ∧ ∀ b o, H12 b = some o → H' b = some o) (fun D nD => ⟨upd_same, same_up nD fun _ _ h => h⟩) (fun D nD i H' _ h => SqT.of (h.2 _ _ hT12)) ?_ ?_
    · rintro D nD i y H' hy ⟨h1, s1⟩
      obtain ⟨hi, rfl⟩ := map_at hy
      walk_at "go"
      refine ⟨_, h1, szl (by rw [List.length_map, List.length_take]; omega), ?_, fun b o h => by rw [upd_ne (ne_of_none h nD)]; exact s1 _ _ h⟩
      rw [upd_same, take_map (fun x => V.int (x + 7 * b.c)) is hi]
    rintro d13 nD13 H13 ⟨hd13, sd13⟩
    rw [List.length_map, List.take_length] at hd13
    walk_at "go"
    refine g_tupOfL (K := K) (SqL.of hd13) ?_
    intro p14 np14
    have P13 := P12.wide sd13
    obtain ⟨_, _, P14, S14⟩ := P13.grow np14 (.tup (is.map fun x => V.int (x + 7 * b.c)))
    have G14 : Go m g H12 (upd H13 p14 (.tup (is.map fun x => V.int (x + 7 * b.c)))) := (Go.same sd13).trans S14
    have h14 : upd H13 p14 (.tup (is.map fun x => V.int (x + 7 * b.c))) p14 = some (.tup ((is.map fun x => x + 7 * b.c).map V.int)) := by rw [upd_same, List.map_map]; rfl
    have g14 := tupi P14 h14 (fun i hi => by obtain ⟨x, hx, rfl⟩ := List.mem_map.mp hi; have := hsm x hx; exact big (by omega)) (by simp; omega)
    have hT14 := kp (o' := .tup (is.map fun x => V.int (x + 7 * b.c))) np14 (sd13 _ _ hT12)
    have hL14 := kp (o' := .tup (is.map fun x => V.int (x + 7 * b.c))) np14 (sd13 _ _ hL12)
    generalize upd H13 p14 (.tup (is.map fun x => V.int (x + 7 * b.c))) = H14 at P14 S14 G14 g14 hT14 hL14 ⊢
    walk_at "go"
    refine g_tq (K := K) (SqT.of hT14) ?_
    refine LcQ.tup (xs := is.map V.int) (fun D i H' => H' D = some (.lst ((is.take i).map fun x => V.int (x + 1))) ∧ ∀ b o, H14 b = some o → H' b = some o) (fun D nD => ⟨upd_same, same_up nD fun _ _ h => h⟩) (fun D nD i H' _ h => SqT.of (h.2 _ _ hT14)) ?_ ?_
    · rintro D nD i y H' hy ⟨h1, s1⟩
      obtain ⟨hi, rfl⟩ := map_at hy
      walk_at "go"
      refine ⟨_, h1, szl (by rw [List.length_map, List.length_take]; omega), ?_, fun b o h => by rw [upd_ne (ne_of_none h nD)]; exact s1 _ _ h⟩
      rw [upd_same, take_map (fun x => V.int (x + 1)) is hi]
    rintro d15 nD15 H15 ⟨hd15, sd15⟩
    rw [List.length_map, List.take_length] at hd15
    walk_at "go"
    refine g_tupOfL (K := K) (SqL.of hd15) ?_
    intro p16 np16
    have P15 := P14.wide sd15
    obtain ⟨_, _, P16, S16⟩ := P15.grow np16 (.tup (is.map fun x => V.int (x + 1)))
    have G16 : Go m g H14 (upd H15 p16 (.tup (is.map fun x => V.int (x + 1)))) := (Go.same sd15).trans S16
    have h16 : upd H15 p16 (.tup (is.map fun x => V.int (x + 1))) p16 = some (.tup ((is.map fun x => x + 1).map V.int)) := by rw [upd_same, List.map_map]; rfl
    have g16 := tupi P16 h16 (fun i hi => by obtain ⟨x, hx, rfl⟩ := List.mem_map.mp hi; have := hsm x hx; exact big (by omega)) (by simp; omega)
    have hT16 := kp (o' := .tup (is.map fun x => V.int (x + 1))) np16 (sd15 _ _ hT14)
    have hL16 := kp (o' := .tup (is.map fun x => V.int (x + 1))) np16 (sd15 _ _ hL14)
    generalize upd H15 p16 (.tup (is.map fun x => V.int (x + 1))) = H16 at P16 S16 G16 g16 hT16 hL16 ⊢
    have A16 := gd_all (gd_all (gd_keep A12 G14) G16 (g14.go G16)) Go.refl g16
    walk_at "go"
    refine ⟨sz (by simp), fun p17 np17 => ?_⟩
    obtain ⟨_, _, P17, S17⟩ := P16.grow np17 (.lst [.ref p14, .ref p16])
    have hT17 := kp (o' := .lst [.ref p14, .ref p16]) np17 hT16
    refine ⟨p12, p17, items, [.ref p14, .ref p16], rfl, rfl, kp np17 hL16, upd_same, sz (by rw [l12]; simp), fun L np18 => ?_⟩
    generalize upd H16 p17 (.lst [.ref p14, .ref p16]) = H17 at P17 S17 hT17 np18 ⊢
    obtain ⟨Lm, Lg, P18, _⟩ := P17.grow np18 (.lst (items ++ [.ref p14, .ref p16]))
    have A18 : ∀ v ∈ items ++ [.ref p14, .ref p16], Gd m g (hide L (upd H17 L (.lst (items ++ [.ref p14, .ref p16])))) 1002 5 3400 v := fun v hv => (A16 v (by simpa using hv)).go (S17.trans (Go.into np18))
    have hT18 := kp (o' := .lst (items ++ [.ref p14, .ref p16])) np18 hT17
    have hL18 : upd H17 L (.lst (items ++ [.ref p14, .ref p16])) L = some (.lst (items ++ [.ref p14, .ref p16])) := upd_same
    have l18 : (items ++ [V.ref p14, .ref p16]).length = 13 := by rw [List.length_append, l12]; rfl
    generalize upd H17 L (.lst (items ++ [.ref p14, .ref p16])) = H18 at P18 A18 hT18 hL18 ⊢
    generalize items ++ [V.ref p14, .ref p16] = items2 at A18 hL18 l18
    refine g_proj ?_
    walk_at "go"
    have hLH : H L = none := P17.old np18
    obtain ⟨_, Lc, _⟩ := hP.ne hLH hP
    have W18 : Grow m c g L t is H H18 (B + 1) 13 := ⟨items2, hL18, by omega, A18, P18, hT18⟩
    -- a tuple of numbers beside the list
    have tupH : ∀ {H' : Hp} {B' : Int} {p : Addr} {ys : List Int} {zs : List V}, Pr m c g H H' B' → H' L = some (.lst zs) → H' p = some (.tup (ys.map V.int)) → (∀ i ∈ ys, i.natAbs < 10 ^ 1002) → ys.length ≤ 50 → Gd m g (hide L H') 1002 5 3400 (.ref p) := fun p' hl h hi hk => by
      obtain ⟨z1, z2⟩ := p'.tup_ne h
      exact gd_ints (n := 4) (hide_at h (fun z => by rw [z, hl] at h; cases h)) z1 z2 hi (by omega)
    refine g_bmL (K := K) rfl hL18 ?_
    walk_at "go"
    refine ⟨t, is, rfl, SqT.of hT18, fun ns' p19 perm np19 => ?_⟩
    have s19 := same_up (o := .lst (ns'.map V.int)) np19 (fun b o (h : H18 b = some o) => h)
    have h19 : upd H18 p19 (.lst (ns'.map V.int)) p19 = some (.lst (ns'.map V.int)) := upd_same
    generalize upd H18 p19 (.lst (ns'.map V.int)) = H19 at s19 h19 ⊢
    walk_at "go"
    refine g_tupOfL (K := K) (SqL.of h19) ?_
    intro p20 np20
    have s20 : ∀ b o, H18 b = some o → upd H19 p20 (.tup (ns'.map V.int)) b = some o := fun b o h => kp np20 (s19 _ _ h)
    walk_at "go"
    refine grow_app W18 hLH ⟨Lm, Lc, Lg⟩ (by decide) s20 (tupH (P18.wide s20) (s20 _ _ hL18) upd_same (fun i hi => bigs i (perm.mem_iff.mp hi)) (by rw [perm.length_eq]; omega)) fun H21 W21 tk21 _ => ?_
    walk_at "go"
    refine g_tup' ?_
    walk_at "go"
    refine ⟨sz (by simp), fun p22 np22 => ?_⟩
    have much : ∀ v ∈ [V.int 1, V.int (0 - 1), V.int b.c, V.int (0 - b.c), V.int (50 * b.c), V.int (0 - 50 * b.c), V.int (10 ^ Int.toNat 30), V.int (0 - 10 ^ Int.toNat 40), V.int (2 * b.c + 1)], ∃ j : Int, v = .int j ∧ j.natAbs < 10 ^ 50 := by
      have z : ∀ {j : Int}, -99999 ≤ j ∧ j ≤ 99999 → j.natAbs < 10 ^ 50 := fun h => small_int (by decide) h
      intro v hv
      simp only [List.mem_cons, List.not_mem_nil, or_false] at hv
      rcases hv with rfl | rfl | rfl | rfl | rfl | rfl | rfl | rfl | rfl
      · exact ⟨_, rfl, z ⟨by decide, by decide⟩⟩
      · exact ⟨_, rfl, z ⟨by decide, by decide⟩⟩
      · exact ⟨_, rfl, z ⟨by omega, by omega⟩⟩
      · exact ⟨_, rfl, z ⟨by omega, by omega⟩⟩
      · exact ⟨_, rfl, z ⟨by omega, by omega⟩⟩
      · exact ⟨_, rfl, z ⟨by omega, by omega⟩⟩
      · exact ⟨_, rfl, by decide +kernel⟩
      · exact ⟨_, rfl, by decide +kernel⟩
      · exact ⟨_, rfl, z ⟨by omega, by omega⟩⟩
    generalize hxs9 : [V.int 1, V.int (0 - 1), V.int b.c, V.int (0 - b.c), V.int (50 * b.c), V.int (0 - 50 * b.c), V.int (10 ^ Int.toNat 30), V.int (0 - 10 ^ Int.toNat 40), V.int (2 * b.c + 1)] = xs9 at much ⊢
    have l9 : xs9.length = 9 := by rw [← hxs9]; rfl
    have W22 : Grow m c g L t is H (upd H21 p22 (.tup xs9)) (B + 1) 14 := by
      obtain ⟨items, a1, a2, a3, a4, a5⟩ := W21
      have s := same_up (o := .tup xs9) np22 (fun b o (h : H21 b = some o) => h)
      exact ⟨items, s _ _ a1, a2, gd_keep a3 (Go.hide fun b o _ _ _ h => s b o h), a4.wide s, s _ _ a5⟩
    have h22 : upd H21 p22 (.tup xs9) p22 = some (.tup xs9) := upd_same
    generalize upd H21 p22 (.tup xs9) = H22 at W22 h22 ⊢
    refine g_tq (K := K) (SqT.of h22) ?_
    refine ForQ.tup (xs := xs9) (fun i σ H' => (∃ y6 y7 y8 y9 y10 y11, σ = [some (.ref m), some (.ref bk), some (.ref t), some (.int at_), some (.int b.c), some (.ref L), y6, y7, y8, y9, y10, y11]) ∧ Grow m c g L t is H H' (B + 1) (14 + i) ∧ H' p22 = some (.tup xs9)) ⟨⟨_, _, _, _, _, _, rfl⟩, W22, h22⟩ (fun i σ H' _ h => SqT.of h.2.2) ?_ ?_
    · rintro i x σ H' hx ⟨⟨y6, y7, y8, y9, y10, y11, rfl⟩, W, hp22⟩
      obtain ⟨j, rfl, hj⟩ := much x (List.mem_of_getElem? hx)
      have hi9 : i < 9 := by rw [← l9]; exact (List.getElem?_eq_some_iff.mp hx).1
      obtain ⟨items', hL', _, _, P', hT'⟩ := id W
      walk_at "go"
      refine g_bmL (K := K) rfl hL' ?_
      walk_at "go"
      refine g_slA (K := K) hT' fun q1 K1 t1 e1 => ?_
      obtain ⟨js1, ej1, in1, lj1⟩ := cut_ints is none (some (at_ : Int))
      rw [ej1] at e1
      refine g_tup' ?_
      walk_at "go"
      refine g_ixT (K := K) (SqT.of (t1.same _ _ hT')) (WL.atI_nat (map_get_int (List.getElem?_eq_getElem hat))) ?_
      walk_at "go"
      refine ⟨sz (by simp), fun q2 nq2 => ?_⟩
      refine g_catA (K := K) (kp nq2 e1) upd_same (by simp; omega) fun q3 K3 t3 e3 => ?_
      walk_at "go"
      have s3 : ∀ b o, H' b = some o → K3 b = some o := fun b o h => t3.same _ _ (kp nq2 (t1.same _ _ h))
      refine g_slA (K := K) (s3 _ _ hT') fun q4 K4 t4 e4 => ?_
      obtain ⟨js4', ej4', in4', lj4'⟩ := cut_ints is (some ((at_ : Int) + 1)) none
      rw [ej4'] at e4
      refine g_catA (K := K) (t4.same _ _ e3) e4 (by simp; omega) fun q5 K5 t5 e5 => ?_
      have s5 : ∀ b o, H' b = some o → K5 b = some o := fun b o h => t5.same _ _ (t4.same _ _ (s3 _ _ h))
      walk_at "go"
      have gy := tupH (ys := js1 ++ [is[at_] + j] ++ js4') (P'.wide s5) (s5 _ _ hL') (by rw [e5]; simp) (fun k hk => by
        simp only [List.mem_append, List.mem_singleton] at hk
        rcases hk with (z | rfl) | z
        · exact bigs k (in1 k z)
        · have z1 := hsm is[at_] (List.getElem_mem hat)
          have z2 : (10 : Nat) ^ 51 ≤ 10 ^ 1002 := Nat.pow_le_pow_right (by decide) (by decide)
          have z3 : (10 : Nat) ^ 51 = 10 ^ 50 * 10 := Nat.pow_succ 10 50
          have z4 : (10 : Nat) ^ 3 ≤ 10 ^ 50 := Nat.pow_le_pow_right (by decide) (by decide)
          generalize (10 : Nat) ^ 50 = X at *
          generalize (10 : Nat) ^ 1002 = Y at *
          omega
        · exact bigs k (in4' k z)) (by simp; omega)
      exact grow_app W hLH ⟨Lm, Lc, Lg⟩ (by omega) s5 gy fun H6 W6 tk6 _ => ⟨⟨_, _, _, _, _, _, rfl⟩, W6, tk6 _ _ hp22⟩
    rintro σ H23 ⟨⟨y6, y7, y8, y9, y10, y11, rfl⟩, W23, _⟩
    rw [l9] at W23
    obtain ⟨items3, hL23, _, _, P23, hT23⟩ := id W23
    walk_at "go"
    refine g_tup' ?_
    walk_at "go"
    refine g_ixT (K := K) (SqT.of hT23) (WL.atI_nat (map_get_int (List.getElem?_eq_getElem hat))) ?_
    walk_at "go"
    have hd5 : is[at_].natAbs < 10 ^ 5 := by have := hsm is[at_] (List.getElem_mem hat); omega
    refine ⟨.int is[at_], is[at_], rfl, rfl, Nat.lt_of_lt_of_le hd5 (Nat.pow_le_pow_right (by decide) (by decide)), ?_⟩
    refine g_cons ?_
    refine g_tup' ?_
    walk_at "go"
    refine g_ixT (K := K) (SqT.of hT23) (WL.atI_nat (map_get_int (List.getElem?_eq_getElem hat))) ?_
    walk_at "go"
    refine ⟨sz (by simp), fun p24 np24 => ?_⟩
    have s24 := same_up (o := .tup [.int is[at_]]) np24 (fun b o (h : H23 b = some o) => h)
    have h24 : upd H23 p24 (.tup [.int is[at_]]) p24 = some (.tup [.int is[at_]]) := upd_same
    generalize upd H23 p24 (.tup [.int is[at_]]) = H24 at s24 h24 ⊢
    walk_at "go"
    refine g_lst' ?_
    walk_at "go"
    refine ⟨sz (by simp), fun p25 np25 => ?_⟩
    have h24' := kp (o' := .lst []) np25 h24
    have h25 : upd H24 p25 (.lst []) p25 = some (.lst []) := upd_same
    have s25 : ∀ b o, H23 b = some o → upd H24 p25 (.lst []) b = some o := fun b o h => kp np25 (s24 _ _ h)
    generalize upd H24 p25 (.lst []) = H25 at s25 h24' h25 ⊢
    refine g_cons ?_
    refine g_dnew fun p26 np26 => ?_
    have h24'' := kp (o' := .dK []) np26 h24'
    have h25' := kp (o' := .dK []) np26 h25
    have h26 : upd H25 p26 (.dK []) p26 = some (.dK []) := upd_same
    have s26 : ∀ b o, H23 b = some o → upd H25 p26 (.dK []) b = some o := fun b o h => kp np26 (s25 _ _ h)
    generalize upd H25 p26 (.dK []) = H26 at s26 h24'' h25' h26 ⊢
    walk_at "go"
    refine ⟨sz (by simp), fun p27 np27 => ?_⟩
    have s27 : ∀ b o, H23 b = some o → upd H26 p27 (.tup [.non, .bl true, .bl false, .str (textV (.int is[at_])), .ref p24, .ref p25, .ref p26]) b = some o := fun b o h => kp np27 (s26 _ _ h)
    have a24 := kp (o' := .tup [.non, .bl true, .bl false, .str (textV (.int is[at_])), .ref p24, .ref p25, .ref p26]) np27 h24''
    have a25 := kp (o' := .tup [.non, .bl true, .bl false, .str (textV (.int is[at_])), .ref p24, .ref p25, .ref p26]) np27 h25'
    have a26 := kp (o' := .tup [.non, .bl true, .bl false, .str (textV (.int is[at_])), .ref p24, .ref p25, .ref p26]) np27 h26
    have h27 : upd H26 p27 (.tup [.non, .bl true, .bl false, .str (textV (.int is[at_])), .ref p24, .ref p25, .ref p26]) p27 = some (.tup [.non, .bl true, .bl false, .str (textV (.int is[at_])), .ref p24, .ref p25, .ref p26]) := upd_same
    generalize upd H26 p27 (.tup [.non, .bl true, .bl false, .str (textV (.int is[at_])), .ref p24, .ref p25, .ref p26]) = H27 at s27 a24 a25 a26 h27 ⊢
    have W27 := W23.same s27
    have P27 := P23.wide s27
    have hL27 := s27 _ _ hL23
    have n25 : p25 ≠ m ∧ p25 ≠ g ∧ p25 ≠ L := by
      have z := P23.self.ne (b := p25) (by
        cases e : H23 p25 with
        | none => rfl
        | some o => rw [s24 _ _ e] at np25; cases np25) P23.self
      exact ⟨z.1, z.2.2, fun e => by rw [e, s24 _ _ hL23] at np25; cases np25⟩
    have n26 : p26 ≠ m ∧ p26 ≠ g ∧ p26 ≠ L := by
      have z := P23.self.ne (b := p26) (by
        cases e : H23 p26 with
        | none => rfl
        | some o => rw [s25 _ _ e] at np26; cases np26) P23.self
      exact ⟨z.1, z.2.2, fun e => by rw [e, s25 _ _ hL23] at np26; cases np26⟩
    have odds : ∀ v ∈ [V.non, .bl true, .bl false, .str (textV (.int is[at_])), .ref p24, .ref p25, .ref p26], Gd m g (hide L H27) 1002 3 10 v := by
      intro v hv
      simp only [List.mem_cons, List.not_mem_nil, or_false] at hv
      rcases hv with rfl | rfl | rfl | rfl | rfl | rfl | rfl
      · exact gd_non
      · exact gd_bl
      · exact gd_bl
      · exact (gd_textV (e := 5) (n := 3) (x := .int is[at_]) rfl (by decide) hd5).more (by decide) (by decide) (by decide)
      · obtain ⟨z1, z2⟩ := P27.tup_ne a24
        exact gd_ints (n := 2) (is := [is[at_]]) (hide_at a24 (fun z => by rw [z, hL27] at a24; cases a24)) z1 z2 (fun i hi => by rw [List.mem_singleton.mp hi]; exact bigs _ (List.getElem_mem hat)) (by simp)
      · exact gd_lst (n := 2) (k := 0) (xs := []) (hide_at a25 n25.2.2) n25.1 n25.2.1 (fun x z => nomatch z) (by simp)
      · exact gd_dct (n := 2) (hide_at a26 n26.2.2) n26.1 n26.2.1
    generalize hxs7 : [V.non, .bl true, .bl false, .str (textV (.int is[at_])), .ref p24, .ref p25, .ref p26] = xs7 at odds h27 ⊢
    have l7 : xs7.length = 7 := by rw [← hxs7]; rfl
    refine g_tq (K := K) (SqT.of h27) ?_
    refine ForQ.tup (xs := xs7) (fun i σ H' => (∃ y6 y7 y8 y9 y10 y11, σ = [some (.ref m), some (.ref bk), some (.ref t), some (.int at_), some (.int b.c), some (.ref L), y6, y7, y8, y9, y10, y11]) ∧ Grow m c g L t is H H' (B + 1) (23 + i) ∧ H' p27 = some (.tup xs7) ∧ ∀ v ∈ xs7, Gd m g (hide L H') 1002 3 10 v) ⟨⟨_, _, _, _, _, _, rfl⟩, W27, h27, odds⟩ (fun i σ H' _ h => SqT.of h.2.2.1) ?_ ?_
    · rintro i x σ H' hx ⟨⟨y6, y7, y8, y9, y10, y11, rfl⟩, W, hp27, od⟩
      have hi7 : i < 7 := by rw [← l7]; exact (List.getElem?_eq_some_iff.mp hx).1
      have gx := od x (List.mem_of_getElem? hx)
      obtain ⟨items', hL', _, _, P', hT'⟩ := id W
      walk_at "go"
      refine g_bmL (K := K) rfl hL' ?_
      walk_at "go"
      refine g_slA (K := K) hT' fun q1 K1 t1 e1 => ?_
      obtain ⟨js1, ej1, in1, lj1⟩ := cut_ints is none (some (at_ : Int))
      rw [ej1] at e1
      refine g_tup' ?_
      walk_at "go"
      refine ⟨sz (by simp), fun q2 nq2 => ?_⟩
      refine g_catA (K := K) (kp nq2 e1) upd_same (by simp; omega) fun q3 K3 t3 e3 => ?_
      walk_at "go"
      have s3 : ∀ b o, H' b = some o → K3 b = some o := fun b o h => t3.same _ _ (kp nq2 (t1.same _ _ h))
      refine g_slA (K := K) (s3 _ _ hT') fun q4 K4 t4 e4 => ?_
      obtain ⟨js4', ej4', in4', lj4'⟩ := cut_ints is (some ((at_ : Int) + 1)) none
      rw [ej4'] at e4
      refine g_catA (K := K) (t4.same _ _ e3) e4 (by simp; omega) fun q5 K5 t5 e5 => ?_
      have s5 : ∀ b o, H' b = some o → K5 b = some o := fun b o h => t5.same _ _ (t4.same _ _ (s3 _ _ h))
      walk_at "go"
      have go5 : Go m g (hide L H') (hide L K5) := Go.hide fun b o _ _ _ h => s5 b o h
      obtain ⟨z1, z2⟩ := (P'.wide s5).tup_ne e5
      have gy : Gd m g (hide L K5) 1002 5 3400 (.ref q5) := (gd_tup (e := 1002) (n := 3) (k := 10) (k' := 3400) (hide_at e5 (fun z => by rw [z, s5 _ _ hL'] at e5; cases e5)) z1 z2 (fun v hv => by
        simp only [List.mem_append, List.mem_singleton, List.mem_map] at hv
        rcases hv with (⟨i, hi, rfl⟩ | rfl) | ⟨i, hi, rfl⟩
        · exact gd_int (bigs i (in1 i hi))
        · exact gx.go go5
        · exact gd_int (bigs i (in4' i hi))) (by simp; omega)).more (by decide) (by decide) (by decide)
      refine grow_app W hLH ⟨Lm, Lc, Lg⟩ (by omega) s5 gy fun H6 W6 tk6 go6 => ?_
      exact ⟨⟨_, _, _, _, _, _, rfl⟩, W6, tk6 _ _ hp27, fun v hv => (od v hv).go go6⟩
    rintro σ H28 ⟨⟨y6, y7, y8, y9, y10, y11, rfl⟩, ⟨items4, hL28, l28, A28, P28, hT28⟩, _, _⟩
    rw [l7] at l28
    have A28' := gd_keep A28 Go.out
    walk_at "go"
    refine ForQ.range (fun i σ H' => (∃ (L' : Addr) (items : List V) (y6 y7 y8 y9 y10 y11 : Option V), σ = [some (.ref m), some (.ref bk), some (.ref t), some (.int at_), some (.int b.c), some (.ref L'), y6, y7, y8, y9, y10, y11] ∧ H' L' = some (.lst items) ∧ items.length ≤ 30 + 3 * i ∧ (∀ v ∈ items, Gd m g H' 1002 5 3400 v) ∧ L' ≠ m ∧ L' ≠ g) ∧ Pr m c g H H' (B + 1 + 60 * i) ∧ H' t = some (.tup (is.map V.int))) ⟨⟨L, items4, _, _, _, _, _, _, rfl, hL28, by omega, A28', Lm, Lg⟩, P28.le (by omega), hT28⟩ ?_ ?_
    · rintro r σ H' hr6 ⟨⟨L', items, y6, y7, y8, y9, y10, y11, rfl, hL', li, AI, Lm', Lg'⟩, P', hT'⟩
      have hr6' : r < 6 := hr6
      walk_at "go"
      refine g_len (K := K) (Or.inr (SqT.of hT')) ?_
      rw [List.length_map]
      walk_at "go"
      refine ⟨m, c, g, _, (is.length : Int), rfl, P'.self, by omega, ⟨by omega, by omega⟩, fun k H1' k0 k1 q1 => ?_⟩
      obtain ⟨k, rfl⟩ : ∃ i : Nat, k = i := ⟨k.toNat, by omega⟩
      have hk : k < is.length := by omega
      have P1' := P'.trans q1
      have hT1 := q1.tk P'.self _ _ hT'
      walk_at "go"
      refine g_slA (K := K) hT1 fun q2 K2 t2 e2 => ?_
      obtain ⟨js1, ej1, in1, lj1⟩ := cut_ints is none (some (k : Int))
      rw [ej1] at e2
      refine g_tup' ?_
      walk_at "go"
      refine g_ixT (K := K) (SqT.of (t2.same _ _ hT1)) (WL.atI_nat (map_get_int (List.getElem?_eq_getElem hk))) ?_
      walk_at "go"
      have P2 := P1'.nt t2
      refine ⟨m, c, g, _, 7, rfl, P2.self, by omega, ⟨by decide, by decide⟩, fun k7 H3' k70 k71 q3 => ?_⟩
      have P3 := P2.trans q3
      have e3 := q3.tk P2.self _ _ e2
      have hT3 := q3.tk P2.self _ _ (t2.same _ _ hT1)
      walk_at "go"
      refine ⟨sz (by simp), fun q4 nq4 => ?_⟩
      refine g_catA (K := K) (kp nq4 e3) upd_same (by simp; omega) fun q5 K5 t5 e5 => ?_
      walk_at "go"
      have s5 : ∀ b o, H3' b = some o → K5 b = some o := fun b o h => t5.same _ _ (kp nq4 h)
      refine g_slA (K := K) (s5 _ _ hT3) fun q6 K6 t6 e6 => ?_
      obtain ⟨js6, ej6, in6, lj6⟩ := cut_ints is (some ((k : Int) + 1)) none
      rw [ej6] at e6
      refine g_catA (K := K) (t6.same _ _ e5) e6 (by simp; omega) fun q7 K7 t7 e7 => ?_
      have s7 : ∀ b o, H3' b = some o → K7 b = some o := fun b o h => t7.same _ _ (t6.same _ _ (s5 _ _ h))
      have P7 := P3.wide s7
      have hT7 := s7 _ _ hT3
      have step : Go m g H' K7 := (Go.pr q1).trans ((Go.nt t2).trans ((Go.pr q3).trans (Go.same s7)))
      have g7 : Gd m g K7 1002 5 3400 (.ref q7) := tupi (ys := js1 ++ [is[k] + b.c * (k7 - 3)] ++ js6) P7 (by rw [e7]; simp) (fun i hi => by
        simp only [List.mem_append, List.mem_singleton] at hi
        rcases hi with (z | rfl) | z
        · exact bigs i (in1 i z)
        · have z1 := hsm is[k] (List.getElem_mem hk)
          have z2 : -300 ≤ b.c * (k7 - 3) ∧ b.c * (k7 - 3) ≤ 300 := by
            have h1 : k7 = 0 ∨ k7 = 1 ∨ k7 = 2 ∨ k7 = 3 ∨ k7 = 4 ∨ k7 = 5 ∨ k7 = 6 := by omega
            rcases h1 with rfl | rfl | rfl | rfl | rfl | rfl | rfl <;> constructor <;> omega
          exact big (by omega)
        · exact bigs i (in6 i z)) (by simp; omega)
      have AI7 := gd_keep AI step
      have hL7 : K7 L' = some (.lst items) := s7 _ _ (q3.keep (t2.same _ _ (q1.keep hL' Lm' Lg')) Lm' Lg')
      have P7' : Pr m c g H K7 (B + 1 + 60 * r + 2) := P7.le (by omega)
      have datesG : ∀ {H'' : Hp} {B'' : Int}, Pr m c g H H'' B'' → H'' t = some (.tup (is.map V.int)) → Gd m g H'' 1000 1 16 (.ref t) := fun p' h => by
        obtain ⟨z1, z2⟩ := p'.tup_ne h
        exact gd_ints (n := 0) h z1 z2 (fun i hi => small_int (by decide) (by have := hsm i hi; omega)) (by omega)
      walk_at "go"
      refine g_lst' ?_
      walk_at "go"
      refine g_chg4 P7'.self (by omega) (datesG P7' hT7) (by decide) (by decide) (by decide) (by decide) fun y8 K8 q8 g8 => ?_
      have P8 := P7'.trans q8
      have hT8' := q8.tk P7'.self _ _ hT7
      walk_at "go"
      refine g_chg4 P8.self (by omega) (datesG P8 hT8') (by decide) (by decide) (by decide) (by decide) fun y9 K9 q9 g9 => ?_
      have P9' := P8.trans q9
      have hT9' := q9.tk P8.self _ _ hT8'
      walk_at "go"
      refine g_chg4 P9'.self (by omega) g9 (by decide) (by decide) (by decide) (by decide) fun y10 K10 q10 g10 => ?_
      have P10' := P9'.trans q10
      have hT10' := q10.tk P9'.self _ _ hT9'
      have G810 : Go m g K8 K10 := (Go.pr q9).trans (Go.pr q10)
      have G710 : Go m g K7 K10 := (Go.pr q8).trans G810
      have hL10 := q10.keep (q9.keep (q8.keep hL7 Lm' Lg') Lm' Lg') Lm' Lg'
      walk_at "go"
      refine ⟨sz (by simp), fun q11 nq11 => ?_⟩
      obtain ⟨_, _, P11', S11'⟩ := P10'.grow nq11 (.lst [.ref q7, y8, y10])
      refine ⟨L', q11, items, _, rfl, rfl, kp nq11 hL10, upd_same, sz (by simp; omega), fun L2 nL2 => ?_⟩
      obtain ⟨L2m, L2g, P12', S12'⟩ := P11'.grow nL2 (.lst (items ++ [.ref q7, y8, y10]))
      have G12 := S11'.trans S12'
      refine ⟨⟨L2, items ++ [.ref q7, y8, y10], _, _, _, _, _, _, rfl, upd_same, by simp; omega, fun v hv => ?_, L2m, L2g⟩, P12'.le (by omega), kp nL2 (kp nq11 hT10')⟩
      rcases List.mem_append.mp hv with h | h
      · exact (AI7 v h).go (G710.trans G12)
      · simp only [List.mem_cons, List.not_mem_nil, or_false] at h
        rcases h with rfl | rfl | rfl
        · exact g7.go (G710.trans G12)
        · exact (g8.go (G810.trans G12)).more (by decide) (by decide) (by decide)
        · exact (g10.go G12).more (by decide) (by decide) (by decide)
    · rintro σ H' ⟨⟨L', items, y6, y7, y8, y9, y10, y11, rfl, hL', li, AI, Lm', Lg'⟩, P', hT'⟩
      walk_at "go"
      exact q L' items H' (P'.le (by show _ + 60 * ((Int.toNat 6 : Nat) : Int) ≤ _; have : Int.toNat 6 = 6 := rfl; omega)) hL' ⟨Lm', Lg'⟩ (by have : Int.toNat 6 = 6 := rfl; omega) AI
end
end K06
set_option Elab.async false
set_option linter.all false
set_option maxRecDepth 100000
set_option maxHeartbeats 400000
namespace K06
open PySem PySem.Spec PyProof.Rows L2 WL
local macro_rules | `(tactic| walk_at "side") => `(tactic| first | (show (_ ∧ _) ∨ (_ ∧ _); omega) | (exact ⟨by omega, by omega⟩) | (show (0 : Int) < _; omega) | omega)
local macro_rules | `(tactic| walk_at "go") => `(tactic| (repeat (first
  | with_reducible refine g_seq ?_ | with_reducible refine g_asgN ?_ | with_reducible refine g_ret ?_ | with_reducible refine g_drop ?_ | with_reducible refine g_ifS ?_ | with_reducible refine g_next ?_
  | with_reducible refine g_var rfl ?_ | with_reducible refine g_c ?_ | with_reducible refine g_op ?_ | with_reducible refine g_un ?_ | with_reducible refine g_rI0 ?_ | ((with_reducible refine g_rI ?_ ?_); next => walk_at "side") | with_reducible refine g_test ?_ | with_reducible refine g_bl ?_
  | with_reducible refine g_nil ?_ | with_reducible refine g_cons ?_ | with_reducible refine g_call ?_ | with_reducible refine g_cb ?_ | with_reducible refine g_if ?_ | with_reducible refine g_par ?_ | with_reducible refine g_two ?_
  | with_reducible refine g_asg ?_ | with_reducible refine g_name ?_ | with_reducible refine g_sub ?_ | with_reducible refine g_yes ?_ | with_reducible refine g_gcons ?_ | with_reducible refine g_gnil ?_ | with_reducible refine g_dget ?_ | with_reducible refine g_dput ?_ | with_reducible refine g_rng1 ?_ | with_reducible refine g_rng2 ?_
  | ((with_reducible refine g_one ?_ ?_); next => omega) | ((with_reducible refine g_twoI ?_ ?_); next => omega) | with_reducible refine g_isNon ?_ | with_reducible refine g_andV ?_ | with_reducible refine g_revT ?_ | with_reducible refine g_itup ?_ | with_reducible refine g_methK0 ?_ | with_reducible refine g_methS ?_ | with_reducible refine g_errF ?_ | with_reducible refine g_prop ?_ | with_reducible refine g_con ?_ | with_reducible refine g_make ?_ | with_reducible refine g_fld ?_ | with_reducible refine g_sfld ?_ | with_reducible refine g_iftn ?_ | with_reducible refine g_iffn ?_ | with_reducible refine g_orV ?_ | with_reducible refine g_notV ?_ | with_reducible refine g_tB ?_ | with_reducible refine g_chain ?_ | with_reducible refine g_neg ?_ | with_reducible refine g_cval ?_ | with_reducible refine g_enumT ?_ | with_reducible refine g_andT ?_ | with_reducible refine g_orT ?_ | with_reducible refine g_notT ?_ | with_reducible refine g_sl ?_ | with_reducible refine g_part ?_ | with_reducible refine g_parI ?_ | with_reducible refine g_noPart ?_ | with_reducible refine g_pcons ?_ | with_reducible refine g_pnil ?_ | with_reducible refine g_list ?_ | with_reducible refine g_lc ?_ | with_reducible refine g_for ?_ | with_reducible refine g_enum ?_ | with_reducible refine g_ift ?_ | with_reducible refine g_iff ?_ | with_reducible refine And.intro rfl ?_ | with_reducible refine g_notNon ?_)))
local macro_rules | `(tactic| walk_at "ex") => `(tactic| (repeat (first
  | with_reducible refine g_seqAsg ?_ | with_reducible refine g_seqFld ?_ | with_reducible refine g_seqDrop ?_ | with_reducible refine g_seqPut ?_ | with_reducible refine g_seqPar ?_ | with_reducible refine g_asgN ?_ | with_reducible refine g_ret ?_ | with_reducible refine g_drop ?_ | with_reducible refine g_next ?_
  | with_reducible refine g_var rfl ?_ | with_reducible refine g_c ?_ | with_reducible refine g_op ?_ | with_reducible refine g_un ?_ | with_reducible refine g_rI0 ?_ | ((with_reducible refine g_rI ?_ ?_); next => walk_at "side") | with_reducible refine g_test ?_ | with_reducible refine g_bl ?_
  | with_reducible refine g_nil ?_ | with_reducible refine g_cons ?_ | with_reducible refine g_call ?_ | with_reducible refine g_cb ?_ | with_reducible refine g_if ?_ | with_reducible refine g_par ?_ | with_reducible refine g_two ?_
  | with_reducible refine g_asg ?_ | with_reducible refine g_name ?_ | with_reducible refine g_sub ?_ | with_reducible refine g_yes ?_ | with_reducible refine g_gcons ?_ | with_reducible refine g_gnil ?_ | with_reducible refine g_dget ?_ | with_reducible refine g_dput ?_ | with_reducible refine g_rng1 ?_ | with_reducible refine g_rng2 ?_
  | ((with_reducible refine g_one ?_ ?_); next => omega) | ((with_reducible refine g_twoI ?_ ?_); next => omega) | with_reducible refine g_isNon ?_ | with_reducible refine g_andV ?_ | with_reducible refine g_revT ?_ | with_reducible refine g_itup ?_ | with_reducible refine g_methK0 ?_ | with_reducible refine g_methS ?_ | with_reducible refine g_errF ?_ | with_reducible refine g_prop ?_ | with_reducible refine g_con ?_ | with_reducible refine g_make ?_ | with_reducible refine g_fld ?_ | with_reducible refine g_sfld ?_ | with_reducible refine g_iftn ?_ | with_reducible refine g_iffn ?_ | with_reducible refine g_orV ?_ | with_reducible refine g_notV ?_ | with_reducible refine g_tB ?_ | with_reducible refine g_chain ?_ | with_reducible refine g_neg ?_ | with_reducible refine g_cval ?_ | with_reducible refine g_enumT ?_ | with_reducible refine g_proj ?_ | with_reducible refine g_andT ?_ | with_reducible refine g_orT ?_ | with_reducible refine g_notT ?_ | with_reducible refine g_sl ?_ | with_reducible refine g_part ?_ | with_reducible refine g_parI ?_ | with_reducible refine g_noPart ?_ | with_reducible refine g_pcons ?_ | with_reducible refine g_pnil ?_ | with_reducible refine g_list ?_ | with_reducible refine g_lc ?_ | with_reducible refine g_enum ?_ | with_reducible refine g_ift ?_ | with_reducible refine g_iff ?_ | with_reducible refine And.intro rfl ?_ | with_reducible refine g_notNon ?_)))
section
variable {P : Program} {w : World} {K : PySem.W.Frag} {mg : Str → Option Value} {base : Heap} {f : Addr} {fd : FuncData} {DC IE ID : Addr} {TT : List (Addr × Str)}
theorem due_cal {c w : Int} {ns : List (Option Int)} {ls : List (Int × Int × Int)} {is : List Int} (ok : DOK c ns ls w) (h : Cal c ns ls is) : due c ns ls (.tup (is.map Sh.int)) = none := by
  have hl := h.len
  have hd : Sh.days ns.length (.tup (is.map Sh.int)) = true := by
    unfold Sh.days
    rw [Bool.and_eq_true]
    constructor
    · show (decide ((ns.length : Int) ≤ ((is.map Sh.int).length : Int)) && decide (((is.map Sh.int).length : Int) ≤ ns.length)) = true
      rw [List.length_map, hl]; simp
    · show (is.map Sh.int).all Sh.isInt = true
      rw [List.all_map, List.all_eq_true]
      intro x _
      rfl
  rw [due_ints hd]
  have e1 : wFault c ns is = none := first_none fun j hj => by
    have hj2 : j < is.length := by omega
    unfold wbad
    rw [List.getElem?_eq_getElem hj, List.getElem?_eq_getElem hj2]
    cases e : ns[j] with
    | none => rfl
    | some k =>
      have z := h.days j k is[j] (by rw [List.getElem?_eq_getElem hj, e]) (List.getElem?_eq_getElem hj2)
      show (!decide (is[j] % c = k)) = false
      rw [decide_eq_true z]; rfl
  have e2 : bFault ls is = none := first_none fun j hj => by
    unfold bbad
    rw [List.getElem?_eq_getElem hj]
    obtain ⟨l1, l2, _⟩ := ok.line ls[j] (List.getElem_mem hj)
    have h1 : ls[j].1.toNat < is.length := by omega
    have h2 : ls[j].2.1.toNat < is.length := by omega
    show decide (ls[j].2.2 < (is[ls[j].2.1.toNat]?).getD 0 - (is[ls[j].1.toNat]?).getD 0) = false
    have z := h.gaps ls[j] (List.getElem_mem hj) is[ls[j].1.toNat] is[ls[j].2.1.toNat] (List.getElem?_eq_getElem h1) (List.getElem?_eq_getElem h2)
    rw [List.getElem?_eq_getElem h1, List.getElem?_eq_getElem h2]
    exact decide_eq_false (by show ¬ (_ < is[ls[j].2.1.toNat] - is[ls[j].1.toNat]); omega)
  rw [e1, e2]
  rfl
theorem sc_law : FnScope ["script", "m", "last_dates", "n", "size", "book", "told", "dates", "bent", "far", "thing_here", "rows", "row"] ["script"] (defScope s_law) := ⟨rfl, rfl, rfl, by decide +kernel, rfl, by decide +kernel, by decide +kernel⟩
theorem ok_law (F : FnT K "law" s_law f fd) (T : Blt mg) (D : DiaF P w K mg base DC IE) (hDraw : Has P w K mg base 2 "_law_draw" ["m", "top"] spDraw') (hBegun : Has P w K mg base 2 "_law_begun" ["script"] (spBegun K)) (hBook : Has P w K mg base 4 "_law_book" ["m", "cycle", "crowd", "lines_most"] spBookD) (hBent : Has P w K mg base 3 "_law_bent" ["m", "book"] spBent)
    (hDue : Has P w K mg base 3 "_law_due" ["book", "thing_here"] (spDueL K)) (hCal : Has P w K mg base 5 "is_calendar" ["diary", "days"] (spIsCal K DC)) (hDR : HasG P w K mg base 11 "_law_doubled_right" ["told", "dates"] (spDblR DC TT)) (hClose : Has P w K mg base 8 "_law_close_ones" ["m", "book", "dates"] (spClose K)) (hChk : HasG P w K mg base 11 "_law_checked" ["book", "told", "thing_here"] (spChkd DC TT)) : GOk P w K mg base 12 f fd ["script"] (spLawT K TT) := by
  refine gok_body F sc_law (fun vs H Q E h => ?_) (fun cdv A outer s H vs Q E hg hr h => ?_)
  · obtain ⟨a, ns, rfl, _⟩ := h
    rfl
  · obtain ⟨a, ns, rfl, hS, hlen, tabs, q⟩ := h
    have sc := sc_law
    have hu := hr.units
    refine ⟨_, (pss_cons (ps_set (i := 1) sc.nd rfl (Or.inl rfl) (pe_has hBegun hr (by decide) (pa_cons (pv 0) pa_nil)))
      (pss_cons (ps_set (i := 2) sc.nd rfl (Or.inl rfl) (pe_tup (pa_cons pe_int (pa_cons pe_int pa_nil))))
      (pss_cons (ps_for PassesOwn.never rfl (pi_range1 (by rfl) T.range (pa_cons pe_int pa_nil)) (pg_name (i := 3) sc.nd rfl (Or.inl rfl))
        (pss_cons (ps_set (i := 4) sc.nd rfl (Or.inl rfl) (pe_op op_add pe_int (pe_op op_mod (pe_op op_add (pv 3) (pe_has hDraw hr (by decide) (pa_cons (pv 1) (pa_cons pe_int pa_nil)))) pe_int)))
        (pss_cons (ps_set (i := 5) sc.nd rfl (Or.inl rfl) (pe_has hBook hr (by decide) (pa_cons (pv 1) (pa_cons (pe_ix (r := rIxL K) ix_list (pe_lst (pa_cons pe_int (pa_cons pe_int (pa_cons pe_int (pa_cons pe_int (pa_cons pe_int pa_nil)))))) (pe_has hDraw hr (by decide) (pa_cons (pv 1) (pa_cons pe_int pa_nil))) (fun _ _ => rfl)) (pa_cons (pv 4) (pa_cons (pe_op op_mul pe_int (pv 4)) pa_nil))))))
        (pss_cons (ps_asg (pe_tup (pa_cons (pe_mkD D hr (by decide) (pa_cons (pe_ix (r := rIxT K) ix_tup (pv 5) pe_int (fun _ _ => rfl)) (pa_cons (pe_ix (r := rIxT K) ix_tup (pv 5) pe_int (fun _ _ => rfl)) (pa_cons (pe_ix (r := rIxT K) ix_tup (pv 5) pe_int (fun _ _ => rfl)) pa_nil)))) (pa_cons (pe_ix (r := rIxT K) ix_tup (pv 5) pe_int (fun _ _ => rfl)) (pa_cons (pe_has hBent hr (by decide) (pa_cons (pv 1) (pa_cons (pv 5) pa_nil))) pa_nil)))) (pg_tup rfl (pgs_cons (pg_name (i := 6) sc.nd rfl (Or.inr rfl)) (pgs_cons (pg_name (i := 7) sc.nd rfl (Or.inl rfl)) (pgs_cons (pg_name (i := 8) sc.nd rfl (Or.inl rfl)) pgs_nil)))))
        (pss_cons (ps_set (i := 9) sc.nd rfl (Or.inl rfl) (pe_mkD D hr (by decide) (pa_cons (pe_ix (r := rIxT K) ix_tup (pv 8) pe_int (fun _ _ => rfl)) (pa_cons (pe_ix (r := rIxT K) ix_tup (pv 8) pe_int (fun _ _ => rfl)) (pa_cons (pe_ix (r := rIxT K) ix_tup (pv 8) pe_int (fun _ _ => rfl)) pa_nil)))))
        (pss_cons (ps_if (PW.pt (pw_or (pt_cmpR (op_neD hu) (pe_has hDue hr (by decide) (pa_cons (pv 5) (pa_cons (pv 7) pa_nil))) (pe_tup pa_nil) (nomark _)) (pw_or (pt_cmpR op_notBl (pe_has hCal hr (by decide) (pa_cons (pv 6) (pa_cons (pv 7) pa_nil))) pe_bl (nomark _)) (pw_or1 (pt_not (pt_val (pe_hasG hDR hg hr (by decide) (pa_cons (pv 6) (pa_cons (pv 7) pa_nil)))))))))
          (pss_one (ps_ret pe_bl))
          pss_nil)
        (pss_cons (ps_for PassesOwn.never rfl (pi_list (pe_op op_cat (pe_lst (pa_cons (pv 7) (pa_cons (pv 2) pa_nil))) (pe_has hClose hr (by decide) (pa_cons (pv 1) (pa_cons (pv 5) (pa_cons (pv 7) pa_nil)))))) (pg_name (i := 10) sc.nd rfl (Or.inl rfl))
          (pss_one (ps_if (PW.pt (pw_or (pt_not (pt_val (pe_hasG hChk hg hr (by decide) (pa_cons (pv 5) (pa_cons (pv 6) (pa_cons (pv 10) pa_nil)))))) (pw_or1 (pt_not (pt_val (pe_hasG hChk hg hr (by decide) (pa_cons (pv 8) (pa_cons (pv 9) (pa_cons (pv 10) pa_nil)))))))))
            (pss_one (ps_ret pe_bl))
            pss_nil)))
        (pss_one (ps_set (i := 2) sc.nd rfl (Or.inl rfl) (pv 7))))))))))
      (pss_cons (ps_set (i := 6) sc.nd rfl (Or.inr rfl) (pe_mkD D hr (by decide) (pa_cons pe_int (pa_cons (pe_tup (pa_cons pe_int (pa_cons pe_non pa_nil))) (pa_cons (pe_tup (pa_cons (pe_tup (pa_cons pe_int (pa_cons pe_int (pa_cons pe_int pa_nil)))) (pa_cons (pe_tup (pa_cons pe_int (pa_cons pe_int (pa_cons (pe_op op_sub pe_int pe_int) pa_nil)))) pa_nil))) pa_nil)))))
      (pss_cons (ps_set (i := 11) sc.nd rfl (Or.inl rfl) (pe_tup (pa_cons (pe_tup (pa_cons pe_int (pa_cons pe_int pa_nil))) (pa_cons (pe_tup (pa_cons pe_int (pa_cons pe_int pa_nil))) (pa_cons (pe_tup (pa_cons (pe_op op_sub pe_int pe_int) (pa_cons (pe_op op_sub pe_int pe_int) pa_nil))) pa_nil)))))
      (pss_one (ps_ret (pe_cmpR (op_eqD hu) (pe_lc (own := [("row", 12)]) (g := gName 12) (tt := tYes) (te := tCall (spIsCal K DC) [] E0 (tCons (tVar 6) (tCons (tVar 12) tNil))) (by rfl) sc.nd (pi_tup (pv 11)) (blkOk_by (sc := defScope s_law) (N := ["script", "m", "last_dates", "n", "size", "book", "told", "dates", "bent", "far", "thing_here", "rows", "row"]) (own := [("row", 12)]) (by decide +kernel)) (fun _ _ _ _ _ => (pg_name (i := 12) sc.nd rfl (Or.inl rfl))) (fun _ _ _ _ _ => pts_nil) (fun _ _ _ _ _ => (pe_has hCal hr (by decide) (pa_cons (pv 6) (pa_cons (pv 12) pa_nil))))) (pe_lst (pa_cons pe_bl (pa_cons pe_bl (pa_cons pe_bl pa_nil)))) (nomark _))))))))), ?_⟩
    walk_at "ex"
    refine ⟨a, ns, rfl, hS, hlen, fun m cc g H1 d1 s1 => ?_⟩
    have P1 : Pr m cc g H1 H1 0 := Pr.refl d1 (by decide)
    have T1 := tabs.ext s1
    walk_at "ex"
    refine g_tup' ?_
    walk_at "go"
    refine ⟨sz (by simp), fun p2 np2 => ?_⟩
    have s2 := same_up (o := .tup [.int 0, .int 0]) np2 (fun b o (h : H1 b = some o) => h)
    have P2 := (P1.wide s2).self
    have T2 := T1.ext s2
    have h2 : upd H1 p2 (.tup [.int 0, .int 0]) p2 = some (.tup (([0, 0] : List Int).map V.int)) := upd_same
    generalize upd H1 p2 (.tup [.int 0, .int 0]) = H2 at P2 T2 h2 ⊢
    refine g_proj ?_
    walk_at "go"
    refine ForQ.range (fun i σ H' => (∃ (td : Addr) (ms : List Int) (y3 y4 y5 y6 y7 y8 y9 y10 : Option V), σ = [some (.ref a), some (.ref m), some (.ref td), y3, y4, y5, y6, y7, y8, y9, y10, none, none] ∧ H' td = some (.tup (ms.map V.int)) ∧ ms.length ≤ 16 ∧ ∀ x ∈ ms, -200 ≤ x ∧ x < 200) ∧ Pr m cc g H' H' (1000 * i) ∧ LamX.Tabs TT H') ⟨⟨p2, [0, 0], _, _, _, _, _, _, _, _, rfl, h2, by decide, fun x hx => by simp at hx; omega⟩, P2.le (by omega), T2⟩ ?_ ?_
    · rintro r σ H3 hr8 ⟨⟨td, ms, y3, y4, y5, y6, y7, y8, y9, y10, rfl, htd, hml, hms⟩, P3, T3⟩
      have hr8' : r < 8 := hr8
      walk_at "go"
      refine ⟨m, cc, g, _, 15, rfl, P3, by omega, ⟨by decide, by decide⟩, fun k H4 a4 b4 q4 => ?_⟩
      have T4 := Tabs.pr T3 q4 P3
      have htd4 := q4.tk P3 _ _ htd
      walk_at "go"
      have em0 := Int.emod_nonneg (0 + (r : Int) + k) (show (15 : Int) ≠ 0 by decide)
      have em1 := Int.emod_lt_of_pos (0 + (r : Int) + k) (show (0 : Int) < 15 by decide)
      generalize hsz : 2 + (0 + (r : Int) + k) % 15 = size
      have hs2 : 2 ≤ size ∧ size ≤ 16 := by omega
      refine g_lst' ?_
      walk_at "go"
      refine ⟨sz (by simp), fun p5 np5 => ?_⟩
      have P4 : Pr m cc g H4 H4 (1000 * r + 1) := q4.self.le (by omega)
      obtain ⟨m5, g5, P5, _⟩ := P4.grow np5 (.lst [.int 2, .int 7, .int 7, .int 12, .int 100])
      have s5 := same_up (o := .lst [.int 2, .int 7, .int 7, .int 12, .int 100]) np5 (fun b o (h : H4 b = some o) => h)
      have T5 := T4.ext s5
      have htd5 := s5 _ _ htd4
      have h5 : upd H4 p5 (.lst [.int 2, .int 7, .int 7, .int 12, .int 100]) p5 = some (.lst [.int 2, .int 7, .int 7, .int 12, .int 100]) := upd_same
      generalize upd H4 p5 (.lst [.int 2, .int 7, .int 7, .int 12, .int 100]) = H5 at P5 T5 htd5 h5 ⊢
      walk_at "go"
      refine ⟨m, cc, g, _, 5, rfl, P5.self, by omega, ⟨by decide, by decide⟩, fun k6 H6 a6 b6 q6 => ?_⟩
      have T6 := Tabs.pr T5 q6 P5.self
      have htd6 := q6.tk P5.self _ _ htd5
      refine g_ixPick (SqL.of (q6.keep h5 m5 g5)) a6 (by simpa using b6) fun v hv => ?_
      obtain ⟨cy, rfl, hcy⟩ : ∃ cy : Int, v = .int cy ∧ 2 ≤ cy ∧ cy ≤ 100 := by
        simp only [List.mem_cons, List.not_mem_nil, or_false] at hv
        rcases hv with rfl | rfl | rfl | rfl | rfl <;> exact ⟨_, rfl, by decide, by decide⟩
      walk_at "go"
      refine ⟨m, cc, g, _, cy, size, 3 * size, rfl, q6.self, by omega, hcy, ⟨by omega, by omega⟩, ⟨by omega, by omega⟩, fun v b H7 fb ebc ebn okb hds q7 => ?_⟩
      obtain ⟨ds, eds, hds⟩ := hds
      have T7 := Tabs.pr T6 q7 q6.self
      have htd7 := q7.tk q6.self _ _ htd6
      have P7 : Pr m cc g H7 H7 (1000 * r + 402) := q7.self.le (by omega)
      have l48 : b.lines.length ≤ 48 := by have := okb.many; omega
      have nlen : 2 ≤ b.notes.length ∧ b.notes.length ≤ 16 := by omega
      have dok := okb.dok
      have cal := okb.cal ds eds
      obtain ⟨bk, na, la, dv, rfl, hbk, hbn, ⟨rows, hbl, hrows⟩, hdv⟩ := book_inv fb
      rw [eds] at hdv
      obtain ⟨dt, xs, rfl, hdt, hxs⟩ := Fz.tup_inv hdv
      obtain rfl := Fzs.ints hxs
      walk_at "go"
      refine g_tup' ?_
      walk_at "go"
      refine g_ixT (K := K) (SqT.of hbk) rfl ?_
      walk_at "go"
      refine g_ixT (K := K) (SqT.of hbk) rfl ?_
      walk_at "go"
      refine g_ixT (K := K) (SqT.of hbk) rfl ?_
      walk_at "go"
      refine g_makeD (fz_notes hbn) (.tup hbl hrows) dok (by decide) (by omega) fun tl H8 ntl d8 s8 => ?_
      have P8 := (P7.wide s8).self
      have T8 := T7.ext s8
      have hdt8 := s8 _ _ hdt
      have htd8 := s8 _ _ htd7
      have fb8 := fb.tk (Tk.same s8)
      walk_at "go"
      refine g_ixT (K := K) (SqT.of (s8 _ _ hbk)) rfl ?_
      walk_at "go"
      refine ⟨m, cc, g, _, .ref bk, b, 1000, 48, rfl, P8, by omega, fb8, okb.le (by decide) (by omega), by decide, by decide, fun v9 b9 H9 fb9 _ eb9 okb9 _ q9 => ?_⟩
      have P9 : Pr m cc g H9 H9 (1000 * r + 405) := q9.self.le (by omega)
      have T9 := Tabs.pr T8 q9 P8
      have hdt9 := q9.tk P8 _ _ hdt8
      have htd9 := q9.tk P8 _ _ htd8
      have d9 := d8.keep (q9.tk P8) (q9.ik P8)
      have fbb := fb8.tk (q9.tk P8)
      walk_at "go"
      refine ⟨sz (by simp), fun p10 np10 => ?_⟩
      have s10 := same_up (o := .tup [.ref tl, .ref dt, v9]) np10 (fun b o (h : H9 b = some o) => h)
      refine g_tupg (K := K) (SqT.of upd_same) rfl ?_
      have P10 := (P9.wide s10).self
      have T10 := T9.ext s10
      have hdt10 := s10 _ _ hdt9
      have htd10 := s10 _ _ htd9
      have d10 := d9.same s10
      have fb10 := fbb.tk (Tk.same s10)
      have fbent := fb9.tk (Tk.same s10)
      generalize upd H9 p10 (.tup [.ref tl, .ref dt, v9]) = H10 at P10 T10 hdt10 htd10 d10 fb10 fbent ⊢
      have dokb := okb9.dok
      have l48b := okb9.many
      obtain ⟨bk9, na9, la9, dv9, rfl, hbk9, hbn9, ⟨rows9, hbl9, hrows9⟩, _⟩ := book_inv fbent
      walk_at "go"
      refine g_ixT (K := K) (SqT.of hbk9) rfl ?_
      walk_at "go"
      refine g_ixT (K := K) (SqT.of hbk9) rfl ?_
      walk_at "go"
      refine g_ixT (K := K) (SqT.of hbk9) rfl ?_
      walk_at "go"
      refine g_makeD (fz_notes hbn9) (.tup hbl9 hrows9) dokb (by decide) (by omega) fun tf H11 ntf d11 s11 => ?_
      have P11 := (P10.wide s11).self
      have T11 := T10.ext s11
      have hdt11 := s11 _ _ hdt10
      have htd11 := s11 _ _ htd10
      have dl11 := d10.same s11
      have fb11 := fb10.tk (Tk.same s11)
      have fbent11 := fbent.tk (Tk.same s11)
      have due0 := due_cal dok cal
      have ansd : ∀ {H'}, H' dt = some (.tup (ds.map V.int)) → AnS K H' (.ref dt) (.tup (ds.map Sh.int)) := fun h => .tup (SqT.of h) (anss_ints ds)
      walk_at "go"
      refine ⟨.ref bk, .ref dt, b, 1000, _, rfl, fb11, dok, ansd hdt11, fun p12 H12 s12 e12 => ?_⟩
      rw [due0] at e12
      refine g_tup' ?_
      walk_at "go"
      refine ⟨sz (by simp), fun p13 np13 => ?_⟩
      have s13 : ∀ b o, H11 b = some o → upd H12 p13 (.tup []) b = some o := fun b o h => kp np13 (s12 _ _ h)
      refine g_neD (K := K) (dp_nilT (SqT.of (kp np13 e12))) (dp_nilT (SqT.of upd_same)) (by decide +kernel) (by decide +kernel) ?_
      rw [show (PyData.tuple []).eqv (.tuple []) = true by decide +kernel]
      generalize upd H12 p13 (.tup []) = H13 at s13 ⊢
      refine g_bl ?_
      walk_at "go"
      refine ⟨.ref tl, .ref dt, _, b.c, 1000, _, _, rfl, dl11.same s13, dok, ansd (s13 _ _ hdt11), fun H14 s14 => ?_⟩
      rw [due0]
      have s114 : ∀ b o, H11 b = some o → H14 b = some o := fun b o h => s14 _ _ (s13 _ _ h)
      walk_at "go"
      refine g_notBl ?_
      refine g_bl ?_
      walk_at "go"
      rw [show (!decide ((none : Option (Str × Option Nat)).isNone = true)) = false from rfl]
      walk_at "go"
      have T14 := T11.ext s114
      refine ⟨.ref tl, dt, b.c, 1000, _, _, ds, rfl, dl11.same s114, dok, s114 _ _ hdt11, cal.len, T14, fun H15 e15 T15 => ?_⟩
      have e115 : LamX.ExtN H11 H15 := (LamX.ExtN.of s114).trans e15
      have P15 : Pr m cc g H15 H15 (1000 * r + 405) := P11.ext e115
      have hdt15 := e115 _ _ hdt11 (fun ps z => nomatch z)
      have htd15 := e115 _ _ htd11 (fun ps z => nomatch z)
      have dl15 := DiaAt.extN dl11 e115
      have df15 := DiaAt.extN d11 e115
      have tk15 : Tk H11 H15 := fun b xs h => e115 _ _ h (fun ps z => nomatch z)
      have fb15 := fb11.tk tk15
      have fbent15 := fbent11.tk tk15
      walk_at "go"
      refine g_lst' ?_
      walk_at "go"
      refine ⟨sz (by simp), fun p16 np16 => ?_⟩
      obtain ⟨m16, g16, P16, _⟩ := P15.grow np16 (.lst [.ref dt, .ref td])
      have s16 := same_up (o := .lst [.ref dt, .ref td]) np16 (fun b o (h : H15 b = some o) => h)
      have T16 := T15.ext s16
      have h16 : upd H15 p16 (.lst [.ref dt, .ref td]) p16 = some (.lst [.ref dt, .ref td]) := upd_same
      have hdt16 := s16 _ _ hdt15
      have htd16 := s16 _ _ htd15
      have dl16 := dl15.same s16
      have df16 := df15.same s16
      have fb16 := fb15.tk (Tk.same s16)
      have fbent16 := fbent15.tk (Tk.same s16)
      generalize upd H15 p16 (.lst [.ref dt, .ref td]) = H16 at P16 T16 h16 hdt16 htd16 dl16 df16 fb16 fbent16 ⊢
      have P16s := P16.self
      walk_at "go"
      refine ⟨m, cc, g, _, .ref bk, dt, b, ds, rfl, P16s, by omega, fb16, ⟨by omega, by omega⟩, hdt16, ⟨by have := cal.len; omega, by have := cal.len; omega⟩, hds, fun L items H17 q17 hL Lne li AI => ?_⟩
      have P17 : Pr m cc g H17 H17 (1000 * r + 805) := q17.self.le (by omega)
      have T17 := Tabs.pr T16 q17 P16s
      have tk17 := q17.tk P16s
      have ik17 := q17.ik P16s
      have hdt17 := tk17 _ _ hdt16
      have htd17 := tk17 _ _ htd16
      have dl17 := dl16.keep tk17 ik17
      have df17 := df16.keep tk17 ik17
      have fb17 := fb16.tk tk17
      have fbent17 := fbent16.tk tk17
      refine ⟨p16, L, [.ref dt, .ref td], items, rfl, rfl, q17.keep h16 m16 g16, hL, sz (by simp; omega), fun p18 np18 => ?_⟩
      obtain ⟨m18, g18, P18, S18⟩ := P17.grow np18 (.lst ([.ref dt, .ref td] ++ items))
      have s18 := same_up (o := .lst ([.ref dt, .ref td] ++ items)) np18 (fun b o (h : H17 b = some o) => h)
      have h18 : upd H17 p18 (.lst ([.ref dt, .ref td] ++ items)) p18 = some (.lst ([.ref dt, .ref td] ++ items)) := upd_same
      have T18 := T17.ext s18
      have small : ∀ {H' : Hp} {B' : Int} {p : Addr} {ys : List Int}, Pr m cc g H' H' B' → H' p = some (.tup (ys.map V.int)) → ys.length ≤ 16 → (∀ x ∈ ys, -200 ≤ x ∧ x < 200) → Gd m g H' 1002 5 3400 (.ref p) := fun p' h hl hy => by
        obtain ⟨z1, z2⟩ := p'.tup_ne h
        exact gd_ints (n := 4) h z1 z2 (fun i hi => small_int (by decide) (by have := hy i hi; omega)) (by omega)
      have all18 : ∀ v ∈ [V.ref dt, .ref td] ++ items, Gd m g (upd H17 p18 (.lst ([.ref dt, .ref td] ++ items))) 1002 5 3400 v := fun v hv => by
        rcases List.mem_append.mp hv with h | h
        · simp only [List.mem_cons, List.not_mem_nil, or_false] at h
          rcases h with rfl | rfl
          · exact (small P17 hdt17 (by have := cal.len; omega) hds).go S18
          · exact (small P17 htd17 hml hms).go S18
        · exact (AI v h).go S18
      have hdt18 := s18 _ _ hdt17
      have dl18 := dl17.same s18
      have df18 := df17.same s18
      have fb18 := fb17.tk (Tk.same s18)
      have fbent18 := fbent17.tk (Tk.same s18)
      generalize upd H17 p18 (.lst ([.ref dt, .ref td] ++ items)) = H18 at P18 T18 h18 all18 hdt18 dl18 df18 fb18 fbent18 ⊢
      generalize [V.ref dt, .ref td] ++ items = things at h18 all18
      refine g_lq (K := K) (SqL.of h18) ?_
      refine ForQ.list (xs := things) (fun j σ H' => (∃ y, σ = [some (.ref a), some (.ref m), some (.ref td), some (.int (0 + (r : Int))), some (.int size), some (.ref bk), some (.ref tl), some (.ref dt), some (.ref bk9), some (.ref tf), y, none, none]) ∧ LamX.ExtN H18 H' ∧ LamX.Tabs TT H') ⟨⟨_, by rfl⟩, (fun _ _ h _ => h), T18⟩ (fun j σ H' _ h => SqL.of (h.2.1 _ _ h18 (fun ps z => nomatch z))) ?_ ?_
      · rintro j v σ H19 hv ⟨⟨y, rfl⟩, e19, T19⟩
        have gv := all18 v (List.mem_of_getElem? hv)
        have tk19 : ∀ {H'}, LamX.ExtN H19 H' → Tk H18 H' := fun e b xs h => e _ _ (e19 _ _ h (fun ps z => nomatch z)) (fun ps z => nomatch z)
        walk_at "go"
        refine ⟨m, g, .ref bk, .ref tl, v, b, 1000, 1002, 5, 3400, rfl, fb18.tk (tk19 (fun _ _ h _ => h)), DiaAt.extN dl18 e19, dok, by omega, gv.go (Go.ext e19), by decide, by decide, by decide, by decide, T19, fun H20 e20 T20 => ?_⟩
        walk_at "go"
        refine ⟨m, g, .ref bk9, .ref tf, v, b9, _, 1002, 5, 3400, rfl, fbent18.tk (tk19 e20), DiaAt.extN df18 (e19.trans e20), dokb, by omega, gv.go (Go.ext (e19.trans e20)), by decide, by decide, by decide, by decide, T20, fun H21 e21 T21 => ?_⟩
        walk_at "go"
        exact ⟨⟨_, rfl⟩, e19.trans (e20.trans e21), T21⟩
      · rintro σ H19 ⟨⟨y, rfl⟩, e19, T19⟩
        walk_at "go"
        exact ⟨⟨dt, ds, _, _, _, _, _, _, _, _, rfl, e19 _ _ hdt18 (fun ps z => nomatch z), by have := cal.len; omega, hds⟩, ((P18.self).ext e19).le (by omega), T19⟩
    rintro σ H3 ⟨⟨td, ms, y3, y4, y5, y6, y7, y8, y9, y10, rfl, htd, hml, hms⟩, P3, T3⟩
    walk_at "go"
    refine g_tup' ?_
    walk_at "go"
    refine ⟨sz (by simp), fun q1 nq1 => ?_⟩
    have e1 : upd H3 q1 (.tup [.int 1, .non]) q1 = some (.tup [.int 1, .non]) := upd_same
    generalize upd H3 q1 (.tup [.int 1, .non]) = K1 at e1 ⊢
    refine g_cons ?_
    refine g_tup' ?_
    refine g_cons ?_
    refine g_tup' ?_
    walk_at "go"
    refine ⟨sz (by simp), fun q2 nq2 => ?_⟩
    have e12 := kp (o' := .tup [.int 0, .int 1, .int 3]) nq2 e1
    have e2 : upd K1 q2 (.tup [.int 0, .int 1, .int 3]) q2 = some (.tup [.int 0, .int 1, .int 3]) := upd_same
    generalize upd K1 q2 (.tup [.int 0, .int 1, .int 3]) = K2 at e12 e2 ⊢
    walk_at "go"
    refine g_tup' ?_
    walk_at "go"
    refine ⟨sz (by simp), fun q3 nq3 => ?_⟩
    have e13 := kp (o' := .tup [.int 1, .int 0, .int (0 - 3)]) nq3 e12
    have e23 := kp (o' := .tup [.int 1, .int 0, .int (0 - 3)]) nq3 e2
    have e3 : upd K2 q3 (.tup [.int 1, .int 0, .int (0 - 3)]) q3 = some (.tup [.int 1, .int 0, .int (0 - 3)]) := upd_same
    generalize upd K2 q3 (.tup [.int 1, .int 0, .int (0 - 3)]) = K3 at e13 e23 e3 ⊢
    walk_at "go"
    refine ⟨sz (by simp), fun q4 nq4 => ?_⟩
    have e14 := kp (o' := .tup [.ref q2, .ref q3]) nq4 e13
    have e24 := kp (o' := .tup [.ref q2, .ref q3]) nq4 e23
    have e34 := kp (o' := .tup [.ref q2, .ref q3]) nq4 e3
    have e4 : upd K3 q4 (.tup [.ref q2, .ref q3]) q4 = some (.tup [.ref q2, .ref q3]) := upd_same
    generalize upd K3 q4 (.tup [.ref q2, .ref q3]) = K4 at e14 e24 e34 e4 ⊢
    have dok7 : DOK 7 [some 1, none] [(0, 1, 3), (1, 0, 0 - 3)] 1000 := by
      refine ⟨by decide, by decide, by decide, by decide, fun i hi => ?_, fun l hl => ?_⟩
      · simp at hi
        subst hi
        exact ⟨by decide, by decide⟩
      · simp only [List.mem_cons, List.not_mem_nil, or_false] at hl
        rcases hl with rfl | rfl
        · exact ⟨⟨by decide, by decide⟩, ⟨by decide, by decide⟩, by decide, by decide⟩
        · exact ⟨⟨by decide, by decide⟩, ⟨by decide, by decide⟩, by decide, by decide⟩
    refine g_nil ?_
    refine g_makeD (K := K) (ns := [some 1, none]) (ls := [(0, 1, 3), (1, 0, 0 - 3)]) (fz_notes e14) (.tup e4 (.cons (fz_line e24) (.cons (fz_line e34) .nil))) dok7 (by decide) (by decide) fun tt H5 ntt d5 s5 => ?_
    walk_at "go"
    refine g_tup' ?_
    refine g_cons ?_
    refine g_tup' ?_
    walk_at "go"
    refine ⟨sz (by simp), fun q6 nq6 => ?_⟩
    have d6 := d5.same (same_up (o := .tup [.int 8, .int 11]) nq6 (fun b o (h : H5 b = some o) => h))
    have e6 : upd H5 q6 (.tup [.int 8, .int 11]) q6 = some (.tup (([8, 11] : List Int).map V.int)) := upd_same
    generalize upd H5 q6 (.tup [.int 8, .int 11]) = H6 at d6 e6 ⊢
    walk_at "go"
    refine g_tup' ?_
    walk_at "go"
    refine ⟨sz (by simp), fun q7 nq7 => ?_⟩
    have d7 := d6.same (same_up (o := .tup [.int 8, .int 12]) nq7 (fun b o (h : H6 b = some o) => h))
    have e67 := kp (o' := .tup [.int 8, .int 12]) nq7 e6
    have e7 : upd H6 q7 (.tup [.int 8, .int 12]) q7 = some (.tup (([8, 12] : List Int).map V.int)) := upd_same
    generalize upd H6 q7 (.tup [.int 8, .int 12]) = H7 at d7 e67 e7 ⊢
    walk_at "go"
    refine g_tup' ?_
    walk_at "go"
    refine ⟨sz (by simp), fun q8 nq8 => ?_⟩
    have d8 := d7.same (same_up (o := .tup [.int (0 - 6), .int (0 - 3)]) nq8 (fun b o (h : H7 b = some o) => h))
    have e68 := kp (o' := .tup [.int (0 - 6), .int (0 - 3)]) nq8 e67
    have e78 := kp (o' := .tup [.int (0 - 6), .int (0 - 3)]) nq8 e7
    have e8 : upd H7 q8 (.tup [.int (0 - 6), .int (0 - 3)]) q8 = some (.tup (([0 - 6, 0 - 3] : List Int).map V.int)) := upd_same
    generalize upd H7 q8 (.tup [.int (0 - 6), .int (0 - 3)]) = H8 at d8 e68 e78 e8 ⊢
    walk_at "go"
    refine ⟨sz (by simp), fun q9 nq9 => ?_⟩
    have s9 := same_up (o := .tup [.ref q6, .ref q7, .ref q8]) nq9 (fun b o (h : H8 b = some o) => h)
    have d9 := d8.same s9
    have e69 := s9 _ _ e68
    have e79 := s9 _ _ e78
    have e89 := s9 _ _ e8
    have e9 : upd H8 q9 (.tup [.ref q6, .ref q7, .ref q8]) q9 = some (.tup [.ref q6, .ref q7, .ref q8]) := upd_same
    generalize upd H8 q9 (.tup [.ref q6, .ref q7, .ref q8]) = H9 at d9 e69 e79 e89 e9 ⊢
    walk_at "go"
    refine g_tq (K := K) (SqT.of e9) ?_
    refine LcQ.tup (xs := [.ref q6, .ref q7, .ref q8]) (fun Dd i H' => H' Dd = some (.lst ((([true, false, true] : List Bool).take i).map V.bl)) ∧ ∀ b o, H9 b = some o → H' b = some o) (fun Dd nD => ⟨upd_same, same_up nD fun _ _ h => h⟩) (fun Dd nD i H' _ h => SqT.of (h.2 _ _ e9)) ?_ ?_
    · rintro Dd nD i x Ha hx ⟨h1, sa⟩
      have row : ∀ (q : Addr) (is : List Int) (z : Bool), H9 q = some (.tup (is.map V.int)) → (due 7 [some 1, none] [(0, 1, 3), (1, 0, 0 - 3)] (.tup (is.map Sh.int))).isNone = z → ∀ (Q : VK), (∀ H', (∀ b o, Ha b = some o → H' b = some o) → Q (.bl z) H') → spIsCal K DC [.ref tt, .ref q] Ha Q E0 := fun q is z hq e Q k =>
        ⟨.ref tt, .ref q, _, 7, 1000, _, _, rfl, d9.same sa, dok7, .tup (SqT.of (sa _ _ hq)) (anss_ints is), fun H' s' => by rw [e]; exact k H' s'⟩
      have put : ∀ (z : Bool) (Hb : Hp), ([true, false, true] : List Bool)[i]? = some z → (∀ b o, Ha b = some o → Hb b = some o) → ∃ acc, Hb Dd = some (.lst acc) ∧ acc.length < sizeLine ∧ (upd Hb Dd (.lst (acc ++ [V.bl z])) Dd = some (.lst ((([true, false, true] : List Bool).take (i + 1)).map V.bl)) ∧ ∀ b o, H9 b = some o → upd Hb Dd (.lst (acc ++ [V.bl z])) b = some o) := fun z Hb ez sb =>
        ⟨_, sb _ _ h1, szl (by rw [List.length_map, List.length_take]; simp; omega), by rw [upd_same, List.take_succ, ez, List.map_append]; rfl, fun b o h => by rw [upd_ne (ne_of_none h nD)]; exact sb _ _ (sa _ _ h)⟩
      match i, hx with
      | 0, hx =>
        cases hx
        walk_at "go"
        exact row q6 _ true e69 (by decide +kernel) _ fun H' s' => put true H' rfl s'
      | 1, hx =>
        cases hx
        walk_at "go"
        exact row q7 _ false e79 (by decide +kernel) _ fun H' s' => put false H' rfl s'
      | 2, hx =>
        cases hx
        walk_at "go"
        exact row q8 _ true e89 (by decide +kernel) _ fun H' s' => put true H' rfl s'
      | i + 3, hx => cases hx
    rintro Dd nD Ha ⟨h1, sa⟩
    refine g_lst' ?_
    walk_at "go"
    refine ⟨sz (by simp), fun qz nqz => ?_⟩
    have dl : ∀ {H' : Hp} {p : Addr}, H' p = some (.lst [.bl true, .bl false, .bl true]) → Dp K H' (.ref p) (.list [.bool true, .bool false, .bool true]) := fun h => .lst (SqL.of h) (.cons (.bl _) (.cons (.bl _) (.cons (.bl _) .nil)))
    refine g_eqD (K := K) (dl (kp nqz h1)) (dl upd_same) (by decide +kernel) (by decide +kernel) ?_
    rw [show (PyData.list [.bool true, .bool false, .bool true]).eqv (.list [.bool true, .bool false, .bool true]) = true by decide +kernel]
    exact q _
end
end K06
set_option Elab.async false
set_option linter.all false
set_option maxRecDepth 100000
set_option maxHeartbeats 4000000
namespace K06
open PySem PySem.Spec PyProof.Rows L2 WL
section
variable {P : Program} {w : World} {K : PySem.W.Frag} {mg : Str → Option Value} {base : Heap} {h : Heap}
theorem f_ck (c : SaysX chk3 fns xs K) (i : Nat) {f : PySem.W.Frag → Bool} (e : cks[i]? = some f) : f K = true := List.all_eq_true.mp c.w.chk f (List.mem_of_getElem? e)
theorem f_fa (c : SaysX chk3 fns xs K) : ∀ f ∈ fa, f.ok K = true := fun f hf => List.all_eq_true.mp (f_ck c 0 rfl) f hf
theorem f_fa2 (c : SaysX chk3 fns xs K) : ∀ f ∈ fa2, f.ok K = true := fun f hf => List.all_eq_true.mp (f_ck c 1 rfl) f hf
theorem f_free (X : K.In h) (G : h.Ns mainGlobals mg) (c : SaysX chk3 fns xs K) {x : Str} (hx : x ∈ builtins_) : mg x = none :=
  He.free_ok X G (f_fa c (.free x) (List.mem_append_right _ (List.mem_map.mpr ⟨x, hx, rfl⟩)))
theorem f_glo (X : K.In h) (G : h.Ns mainGlobals mg) (c : SaysX chk3 fns xs K) {x : Str} (hx : x ∈ names) : mg x = some (.ref (He.ga K x)) :=
  He.glo_ok X G (f_fa c (.glo x) (List.mem_append_left _ (List.mem_map.mpr ⟨x, hx, rfl⟩)))
theorem f_blt (X : K.In h) (G : h.Ns mainGlobals mg) (c : SaysX chk3 fns xs K) : Blt mg := by
  constructor <;> exact f_free X G c (by decide +kernel)
theorem mkFn {x : Str} {st : Stmt} (X : K.In h) (G : h.Ns mainGlobals mg) (c : SaysX chk3 fns xs K) (i : Nat) (hx : x ∈ names) (hi : fns[i]? = some ⟨.g x, x, x, st, [], []⟩) : ∃ fd, mg x = some (.ref (He.ga K x)) ∧ FnT K x st (He.ga K x) fd := by
  obtain ⟨fd, F⟩ := c.w.def_ i hi
  exact ⟨fd, f_glo X G c hx, F⟩
theorem mkHas {k : Nat} {x : Str} {st : Stmt} {ps : List Str} {sp : Sp} (X : K.In h) (G : h.Ns mainGlobals mg) (c : SaysX chk3 fns xs K) (i : Nat) (hx : x ∈ names) (hi : fns[i]? = some ⟨.g x, x, x, st, [], []⟩)
    (b : ∀ (kV doc pm : Value) (an : Option Addr) (cdv ct : Value) (us : List Value), us.length = ps.length → bindArgs (PySem.W.fnOf x x (defArgs st) (defBody st) (defScope st) .none kV doc pm an cdv ct) { pos := us } = pure (ps.zip us))
    (ok : ∀ fd, FnT K x st (He.ga K x) fd → FnOk P w K mg base CX0 k (He.ga K x) fd ps sp) : Has P w K mg base k x ps sp := by
  obtain ⟨fd, m, F⟩ := mkFn X G c i hx hi
  exact ⟨He.ga K x, fd, m, F.kp, F.bindsN b, ok fd F⟩
theorem mkHasE {k : Nat} {x : Str} {st : Stmt} {ps : List Str} {sp : Sp} (X : K.In h) (G : h.Ns mainGlobals mg) (c : SaysX chk3 fns xs K) (i : Nat) (hx : x ∈ names) (hi : fns[i]? = some ⟨.g x, x, x, st, [], []⟩)
    (b : ∀ (kV doc pm : Value) (an : Option Addr) (cdv ct : Value) (us : List Value), us.length = ps.length → bindArgs (PySem.W.fnOf x x (defArgs st) (defBody st) (defScope st) .none kV doc pm an cdv ct) { pos := us } = pure (ps.zip us))
    (ok : ∀ fd, FnT K x st (He.ga K x) fd → FnOk P w K mg base (L2.CX P w) k (He.ga K x) fd ps sp) : HasE P w K mg base k x ps sp := by
  obtain ⟨fd, m, F⟩ := mkFn X G c i hx hi
  exact ⟨He.ga K x, fd, m, F.kp, F.bindsN b, ok fd F⟩
theorem mkHasG {k : Nat} {x : Str} {st : Stmt} {ps : List Str} {sp : Sp} (X : K.In h) (G : h.Ns mainGlobals mg) (c : SaysX chk3 fns xs K) (i : Nat) (hx : x ∈ names) (hi : fns[i]? = some ⟨.g x, x, x, st, [], []⟩)
    (b : ∀ (kV doc pm : Value) (an : Option Addr) (cdv ct : Value) (us : List Value), us.length = ps.length → bindArgs (PySem.W.fnOf x x (defArgs st) (defBody st) (defScope st) .none kV doc pm an cdv ct) { pos := us } = pure (ps.zip us))
    (ok : ∀ fd, FnT K x st (He.ga K x) fd → GOk P w K mg base k (He.ga K x) fd ps sp) : HasG P w K mg base k x ps sp := by
  obtain ⟨fd, m, F⟩ := mkFn X G c i hx hi
  exact ⟨He.ga K x, fd, m, F.kp, F.bindsN b, ok fd F⟩
theorem mkDef {CX : CXT} {k : Nat} {d : DefW} {ps : List Str} {sp : Sp} (c : SaysX chk3 fns xs K) (i : Nat) (hi : fns[i]? = some d) (h1 : d.dfl = []) (h2 : d.kwd = [])
    (b : ∀ (kV doc pm : Value) (an : Option Addr) (cdv ct : Value) (us : List Value), us.length = ps.length → bindArgs (PySem.W.fnOf d.name d.qual (defArgs d.st) (defBody d.st) (defScope d.st) .none kV doc pm an cdv ct) { pos := us } = pure (ps.zip us))
    (ok : ∀ fd, FunD K d.name d.qual (defArgs d.st) (defBody d.st) (defScope d.st) [] [] (d.at_.ad K) fd → FnOk P w K mg base CX k (d.at_.ad K) fd ps sp) : ∃ fd, Binds K fd ps [] ∧ FnOk P w K mg base CX k (d.at_.ad K) fd ps sp ∧ FunD K d.name d.qual (defArgs d.st) (defBody d.st) (defScope d.st) [] [] (d.at_.ad K) fd := by
  obtain ⟨fd, F⟩ := c.w.def_ i hi
  have F' : FunD K d.name d.qual (defArgs d.st) (defBody d.st) (defScope d.st) [] [] (d.at_.ad K) fd := by
    have e1 : d.dvs K = [] := by unfold DefW.dvs; rw [h1]; rfl
    have e2 : d.kws K = [] := by unfold DefW.kws; rw [h2]; rfl
    rw [e1, e2] at F
    exact F
  exact ⟨fd, F'.bindsN b, ok fd F', F'⟩

theorem f_dia (X : K.In h) (G : h.Ns mainGlobals mg) (c : SaysX chk3 fns xs K) : Dia K mg (He.ga K "Diary") := diaB_ok (f_glo X G c (by decide +kernel)) (f_ck c 11 rfl)
theorem f_diaO (c : SaysX chk3 fns xs K) : DiaO K (He.ga K "Diary") := by
  have f := f_fa2 c
  exact diaOB_ok (He.cls_ok (f (.cls "Diary") (by simp [fa2]))) (He.noat_ok (f (.noat "Diary" "_modulus") (by simp [fa2]))) (He.noat_ok (f (.noat "Diary" "_weekdays") (by simp [fa2]))) (He.noat_ok (f (.noat "Diary" "_bounds") (by simp [fa2]))) (f_ck c 12 rfl)
variable (X : K.In h) (G : h.Ns mainGlobals mg) (c : SaysX chk3 fns xs K)
include X G c
theorem f_num : Has P w K mg base 1 "is_number" ["value"] (spNum K) := mkHas X G c 0 (by decide +kernel) rfl (fun _ _ _ _ _ _ us hl => match us, hl with | [_], _ => rfl) fun fd F => ok_num F (f_blt X G c)
theorem f_within : Has P w K mg base 2 "is_within" ["value", "low", "high"] (spWithin K) := mkHas X G c 1 (by decide +kernel) rfl (fun _ _ _ _ _ _ us hl => match us, hl with | [_, _, _], _ => rfl) fun fd F => ok_within F (f_num X G c)
theorem f_tupOf : Has P w K mg base 1 "is_tuple_of" ["value", "low", "high"] (spTupOf K) := mkHas X G c 2 (by decide +kernel) rfl (fun _ _ _ _ _ _ us hl => match us, hl with | [_, _, _], _ => rfl) fun fd F => ok_tupOf F (f_blt X G c)
theorem f_bound : Has P w K mg base 3 "is_bound" ["value", "many"] (spBound K) := mkHas X G c 3 (by decide +kernel) rfl (fun _ _ _ _ _ _ us hl => match us, hl with | [_, _], _ => rfl) fun fd F => ok_bound F (f_dia X G c) (f_tupOf X G c) (f_within X G c)
theorem f_wf : Has P w K mg base 3 "weekdays_fault" ["modulus", "weekdays"] (spRowF K (fun x c => [c, x]) "weekdays" 1 16 Sh.note) := mkHas X G c 4 (by decide +kernel) rfl (fun _ _ _ _ _ _ us hl => match us, hl with | [_, _], _ => rfl) fun fd F => ok_wf F (f_blt X G c) (f_dia X G c) (f_tupOf X G c) (f_within X G c)
theorem f_bf : Has P w K mg base 4 "bounds_fault" ["many", "bounds"] (spRowF K (fun x c => [c, x]) "bounds" 0 60 Sh.bound) := mkHas X G c 5 (by decide +kernel) rfl (fun _ _ _ _ _ _ us hl => match us, hl with | [_, _], _ => rfl) fun fd F => ok_bf F (f_blt X G c) (f_dia X G c) (f_tupOf X G c) (f_bound X G c)
theorem f_df : Has P w K mg base 5 "diary_fault" ["modulus", "weekdays", "bounds"] (spDiaryF K) := mkHas X G c 6 (by decide +kernel) rfl (fun _ _ _ _ _ _ us hl => match us, hl with | [_, _, _], _ => rfl) fun fd F => ok_df F (f_blt X G c) (f_dia X G c) (f_within X G c) (f_wf X G c) (f_bf X G c)
variable (hf : P.main.file = file) (hs : (List.lookup ("super" : Str) P.main.scope.names).isSome = false)
include hf hs

theorem f_ex_InvalidEvent : (∃ fI fd, ExT P K mg ["value"] (He.ga K "InvalidEvent") fI ∧ ExI P K ["value"] (He.ga K "InvalidEvent") fI fd ∧ ∀ (s : Shared) (u v : Value), K.In s.heap → BindsTo s fd ⟨[u, v], []⟩ [("self", u), ("value", v)]) ∧ XfC K (He.ga K "InvalidEvent") ∧ PySem.W.exmOne K (.ref (He.ga K "InvalidEvent")) (.ref (He.ga K "InvalidEvent")) = some true := by
  have a1 := f_ck c 2 rfl
  have a2 := f_ck c 3 rfl
  have a3 := f_ck c 4 rfl
  have hi := f_ck c 5 rfl
  have ex := c.ex 0 (d := ⟨"InvalidEvent", s_InvalidEvent_init, true⟩) rfl
  rw [← hf] at hi
  obtain ⟨fd, J, ep, en⟩ := exI_ok (P := P) (fs := ["value"]) (C := He.ga K "InvalidEvent") (d := ⟨"InvalidEvent", s_InvalidEvent_init, true⟩) rfl hi ex ⟨_, rfl, rfl⟩ rfl rfl rfl (by decide +kernel) ⟨_, _, fun n => match n with | 0 => _ | 1 => _ | 2 => _ | 3 => _ | _ => _, [fun n => match n with | 0 => _ | 1 => _ | 2 => _ | _ => _], rfl, rfl, by decide +kernel⟩
  refine ⟨⟨_, fd, exTB_ok (f_free X G c (by decide +kernel)) hs a1, J, ?_⟩, xfacB_ok a2, emB_ok a3⟩
  intro s u v _
  obtain ⟨c1, c2, c3, c4, c5, c6, c7, c8, c9, d1, d2, d3, d4, d5, d6⟩ := fd
  simp only at ep
  subst ep
  have e8 : c8 = .none := by
    cases c8 <;> first | rfl | exact absurd (show false = true from en) (by decide)
  subst e8
  exact BindsTo.of_eq rfl

theorem f_ex_InvalidDays : (∃ fI fd, ExT P K mg ["part", "item"] (He.ga K "InvalidDays") fI ∧ ExI P K ["part", "item"] (He.ga K "InvalidDays") fI fd ∧ (∀ (s : Shared) (u v1 v2 : Value), K.In s.heap → BindsTo s fd ⟨[u, v1, v2], []⟩ [("self", u), ("part", v1), ("item", v2)]) ∧ ∀ (s : Shared) (u v1 : Value), K.In s.heap → BindsTo s fd ⟨[u, v1], []⟩ [("self", u), ("part", v1), ("item", Value.none)]) ∧ XfC K (He.ga K "InvalidDays") := by
  have a1 := f_ck c 6 rfl
  have a2 := f_ck c 7 rfl
  have hi := f_ck c 9 rfl
  have hd := f_ck c 10 rfl
  have ex := c.ex 1 (d := ⟨"InvalidDays", s_InvalidDays_init, false⟩) rfl
  rw [← hf] at hi
  obtain ⟨fd, J, ep, en⟩ := exI_ok (P := P) (fs := ["part", "item"]) (C := He.ga K "InvalidDays") (d := ⟨"InvalidDays", s_InvalidDays_init, false⟩) rfl hi ex ⟨_, rfl, rfl⟩ rfl rfl rfl (by decide +kernel) ⟨_, _, fun n => match n with | 0 => _ | 1 => _ | 2 => _ | 3 => _ | _ => _, [fun n => match n with | 0 => _ | 1 => _ | 2 => _ | _ => _, fun n => match n with | 0 => _ | 1 => _ | 2 => _ | _ => _], rfl, rfl, by decide +kernel⟩
  refine ⟨⟨_, fd, exTB_ok (f_free X G c (by decide +kernel)) hs a1, J, ?_, ?_⟩, xfacB_ok a2⟩
  · intro s u v1 v2 hK
    obtain ⟨T, o, n, ed, lT, oT⟩ := exDB_okN J.at_ hd
    obtain ⟨c1, c2, c3, c4, c5, c6, c7, c8, c9, d1, d2, d3, d4, d5, d6⟩ := fd
    simp only at ep ed
    subst ep
    subst ed
    exact bind_dfl hK lT oT ⟨_, rfl, rfl⟩
  · intro s u v1 hK
    obtain ⟨T, o, n, ed, lT, oT⟩ := exDB_okN J.at_ hd
    obtain ⟨c1, c2, c3, c4, c5, c6, c7, c8, c9, d1, d2, d3, d4, d5, d6⟩ := fd
    simp only at ep ed
    subst ep
    subst ed
    exact bind_dfl hK lT oT ⟨_, rfl, rfl⟩
theorem f_diaF : DiaF P w K mg base (He.ga K "Diary") (He.ga K "InvalidEvent") := by
  have f := f_fa2 c
  have O := f_diaO c
  have D := f_dia X G c
  have T := f_blt X G c
  obtain ⟨_, aoth⟩ := He.ba (f_ck c 12 rfl)
  obtain ⟨aoth, _⟩ := He.ba aoth
  obtain ⟨q1, a⟩ := He.ba (f_ck c 13 rfl)
  obtain ⟨q2, a⟩ := He.ba a
  obtain ⟨q3, a⟩ := He.ba a
  obtain ⟨q4, a⟩ := He.ba a
  obtain ⟨q5, a⟩ := He.ba a
  obtain ⟨q6, a⟩ := He.ba a
  obtain ⟨q7, a⟩ := He.ba a
  obtain ⟨q8, a⟩ := He.ba a
  obtain ⟨q9, q10⟩ := He.ba a
  have ev : EvX P K mg (He.ga K "InvalidEvent") := ⟨f_glo X G c (by decide +kernel), (f_ex_InvalidEvent (P := P) X G c hf hs).1⟩
  have mt1 := He.meth_ok (f (.meth "Diary" "need_event") (by simp [fa2]))
  have mt2 := He.meth_ok (f (.meth "Diary" "__len__") (by simp [fa2]))
  have mt3 := He.meth_ok (f (.meth "Diary" "__eq__") (by simp [fa2]))
  obtain ⟨fd1, bi1, ok1, F1⟩ := mkDef (P := P) (w := w) (mg := mg) (base := base) (CX := CX0) (k := 6) (ps := ["self", "modulus", "weekdays", "bounds"]) (sp := spDInit K (He.ga K "Diary")) c 7 rfl rfl rfl (fun _ _ _ _ _ _ us hl => match us, hl with | [_, _, _, _], _ => rfl) fun fd F => ok_dinit F O (f_df X G c)
  obtain ⟨fd2, bi2, ok2, F2⟩ := mkDef (P := P) (w := w) (mg := mg) (base := base) (CX := CX0) (k := 1) (ps := ["self"]) (sp := spGetF (He.ga K "Diary") "_modulus") c 8 rfl rfl rfl (fun _ _ _ _ _ _ us hl => match us, hl with | [_], _ => rfl) fun fd F => ok_dmod F O
  obtain ⟨fd3, bi3, ok3, F3⟩ := mkDef (P := P) (w := w) (mg := mg) (base := base) (CX := CX0) (k := 1) (ps := ["self"]) (sp := spGetF (He.ga K "Diary") "_weekdays") c 9 rfl rfl rfl (fun _ _ _ _ _ _ us hl => match us, hl with | [_], _ => rfl) fun fd F => ok_dwds F O
  obtain ⟨fd4, bi4, ok4, F4⟩ := mkDef (P := P) (w := w) (mg := mg) (base := base) (CX := CX0) (k := 1) (ps := ["self"]) (sp := spGetF (He.ga K "Diary") "_bounds") c 10 rfl rfl rfl (fun _ _ _ _ _ _ us hl => match us, hl with | [_], _ => rfl) fun fd F => ok_dbds F O
  obtain ⟨fd5, bi5, ok5, F5⟩ := mkDef (P := P) (w := w) (mg := mg) (base := base) (CX := CX0) (k := 1) (ps := ["self"]) (sp := spDLen (He.ga K "Diary") K) c 11 rfl rfl rfl (fun _ _ _ _ _ _ us hl => match us, hl with | [_], _ => rfl) fun fd F => ok_dlen F T O
  obtain ⟨fd6, bi6, ok6, F6⟩ := mkDef (P := P) (w := w) (mg := mg) (base := base) (CX := CX0) (k := 1) (ps := ["self", "other"]) (sp := spDEq K (He.ga K "Diary")) c 12 rfl rfl rfl (fun _ _ _ _ _ _ us hl => match us, hl with | [_, _], _ => rfl) fun fd F => ok_deq F T O D
  obtain ⟨fd7, bi7, ok7, F7⟩ := mkDef (P := P) (w := w) (mg := mg) (base := base) (CX := L2.CX P w) (k := 3) (ps := ["self", "event"]) (sp := spNeed K (He.ga K "Diary") (He.ga K "InvalidEvent")) c 13 rfl rfl rfl (fun _ _ _ _ _ _ us hl => match us, hl with | [_, _], _ => rfl) fun fd F => ok_need F T O ev (f_within X G c)
  refine ⟨D, O, ⟨_, fd1, He.mkr_ok (f (.mkr "Diary") (by simp [fa2])), bi1, ok1⟩, ⟨_, _, fd2, propB_ok q1, bi2, ok2⟩, ⟨_, _, fd3, propB_ok q2, bi3, ok3⟩, ⟨_, _, fd4, propB_ok q3, bi4, ok4⟩, ⟨_, fd5, mt2.at_, mt2.fn, bi5, ok5⟩, ⟨_, fd6, mt3.at_, mt3.fn, bi6, ok6⟩, He.eqO_ok q4, sbB_ok q5, fun s => (othB_ok aoth s).2, q6, ⟨_, fd7, mt1, bi7, ok7, ?_⟩, conB_ok q7, conB_ok q8, conB_ok q9, conB_ok q10⟩
  obtain ⟨oc, od, dV, kV, dc, pm, an, cdv, ct, osl, e, _, _, hdV, _⟩ := F7.ex
  refine ⟨fun s us ws _ h1 h2 => ?_, fun h1 h2 => Vals.append h1 h2⟩
  match us, ws, h1, h2 with
  | [u], [v], _, _ =>
    have ed : dV = .none := hdV.elim (fun z => z.2) (fun z => absurd rfl z.1)
    subst ed
    have eb : bindArgs (PySem.W.fnOf "need_event" "Diary.need_event" (defArgs s_Diary_need_event) (defBody s_Diary_need_event) (defScope s_Diary_need_event) .none kV dc pm an cdv ct) { pos := [u], kw := [(("event" : Str), v)] } = pure [(("self" : Str), u), (("event" : Str), v)] := rfl
    rw [e]
    intro M A E Q q
    show wpAny M A (bindArgs (PySem.W.fnOf "need_event" "Diary.need_event" (defArgs s_Diary_need_event) (defBody s_Diary_need_event) (defScope s_Diary_need_event) .none kV dc pm an cdv ct) { pos := [u], kw := [(("event" : Str), v)] }) Q E s
    rw [eb]
    exact wpAny_pure q

theorem f_evI : Ev2 P K mg "InvalidDays" "part" "item" (He.ga K "InvalidDays") := ⟨f_glo X G c (by decide +kernel), (f_ex_InvalidDays (P := P) X G c hf hs).1⟩
theorem f_tol : TolZ K mg (He.ga K "InvalidDays") := by
  have f := f_fa2 c
  obtain ⟨fd, m, F⟩ := mkFn (st := s_law_told) (x := "_law_told") X G c 31 (by decide +kernel) rfl
  exact ⟨⟨_, fd, m, F, F.bindsN (fun _ _ _ _ _ _ us hl => match us, hl with | [_], _ => rfl)⟩, ⟨f_glo X G c (by decide +kernel), errcB_ok (f_ex_InvalidDays (P := P) X G c hf hs).2 (show errcB K _ = true from f_ck c 16 rfl), He.noat_ok (f (.noat "InvalidDays" "part") (by simp [fa2])), He.noat_ok (f (.noat "InvalidDays" "item") (by simp [fa2])), emB_ok (f_ck c 8 rfl)⟩⟩
theorem h_days : Has P w K mg base 3 "is_days" ["diary", "value"] (spDaysX K (He.ga K "Diary")) := mkHas X G c 14 (by decide +kernel) rfl (fun _ _ _ _ _ _ us hl => match us, hl with | [_, _], _ => rfl) fun fd F => ok_days F (f_blt X G c) (f_free X G c (by decide +kernel)) (f_diaF X G c hf hs) (f_tupOf X G c) (f_num X G c)
theorem h_wfl : Has P w K mg base 3 "weekday_fault" ["diary", "days"] (spFaultX K (He.ga K "Diary") fun c ns _ is => wFault c ns is) := mkHas X G c 15 (by decide +kernel) rfl (fun _ _ _ _ _ _ us hl => match us, hl with | [_, _], _ => rfl) fun fd F => ok_wfl F (f_blt X G c) (f_diaF X G c hf hs)
theorem h_bfl : Has P w K mg base 3 "bound_fault" ["diary", "days"] (spFaultX K (He.ga K "Diary") fun _ _ ls is => bFault ls is) := mkHas X G c 16 (by decide +kernel) rfl (fun _ _ _ _ _ _ us hl => match us, hl with | [_, _], _ => rfl) fun fd F => ok_bfl F (f_blt X G c) (f_diaF X G c hf hs)
theorem h_dfl : Has P w K mg base 4 "days_fault" ["diary", "days"] (spDayF K (He.ga K "Diary")) := mkHas X G c 17 (by decide +kernel) rfl (fun _ _ _ _ _ _ us hl => match us, hl with | [_, _], _ => rfl) fun fd F => ok_dfl F (h_days X G c hf hs) (h_wfl X G c hf hs) (h_bfl X G c hf hs)
theorem h_cal : Has P w K mg base 5 "is_calendar" ["diary", "days"] (spIsCal K (He.ga K "Diary")) := mkHas X G c 19 (by decide +kernel) rfl (fun _ _ _ _ _ _ us hl => match us, hl with | [_, _], _ => rfl) fun fd F => ok_cal F (h_dfl X G c hf hs)
theorem h_chk : HasE P w K mg base 5 "check_calendar" ["diary", "days"] (spCheck K (He.ga K "Diary") (He.ga K "InvalidDays")) := mkHasE X G c 18 (by decide +kernel) rfl (fun _ _ _ _ _ _ us hl => match us, hl with | [_, _], _ => rfl) fun fd F => ok_chk F (f_evI X G c hf hs) (h_dfl X G c hf hs)
theorem h_calK : HasKn P w K mg base CX0 5 "is_calendar" ["diary", "days"] ["days", "diary"] swap2 (spIsCal K (He.ga K "Diary")) := by
  obtain ⟨fd, m, F⟩ := mkFn (st := s_is_calendar) (x := "is_calendar") X G c 19 (by decide +kernel) rfl
  refine ⟨_, fd, swap2V, m, F.kp, ?_, ok_cal F (h_dfl X G c hf hs)⟩
  obtain ⟨oc, od, dV, kV, dc, pm, an, cdv, ct, osl, e, _, _, hdV, _⟩ := F.ex
  have ed : dV = .none := hdV.elim (fun z => z.2) (fun z => absurd rfl z.1)
  subst ed
  refine ⟨fun s us ws _ h1 h2 => ?_, fun h1 h2 => vals_swap2 h2⟩
  rw [e]
  match us, ws, h1, h2 with
  | [], [w0, w1], _, _ =>
    have eb : bindArgs (PySem.W.fnOf "is_calendar" "is_calendar" (defArgs s_is_calendar) (defBody s_is_calendar) (defScope s_is_calendar) .none kV dc pm an cdv ct) { pos := [], kw := [(("days" : Str), w0), (("diary" : Str), w1)] } = pure [(("diary" : Str), w1), (("days" : Str), w0)] := rfl
    intro M A E Q q
    show wpAny M A (bindArgs (PySem.W.fnOf "is_calendar" "is_calendar" (defArgs s_is_calendar) (defBody s_is_calendar) (defScope s_is_calendar) .none kV dc pm an cdv ct) { pos := [], kw := [(("days" : Str), w0), (("diary" : Str), w1)] }) Q E s
    rw [eb]
    exact wpAny_pure q
theorem h_chkK : HasKn P w K mg base (L2.CX P w) 5 "check_calendar" ["diary", "days"] ["days", "diary"] swap2 (spCheck K (He.ga K "Diary") (He.ga K "InvalidDays")) := by
  obtain ⟨fd, m, F⟩ := mkFn (st := s_check_calendar) (x := "check_calendar") X G c 18 (by decide +kernel) rfl
  refine ⟨_, fd, swap2V, m, F.kp, ?_, ok_chk F (f_evI X G c hf hs) (h_dfl X G c hf hs)⟩
  obtain ⟨oc, od, dV, kV, dc, pm, an, cdv, ct, osl, e, _, _, hdV, _⟩ := F.ex
  have ed : dV = .none := hdV.elim (fun z => z.2) (fun z => absurd rfl z.1)
  subst ed
  refine ⟨fun s us ws _ h1 h2 => ?_, fun h1 h2 => vals_swap2 h2⟩
  rw [e]
  match us, ws, h1, h2 with
  | [], [w0, w1], _, _ =>
    have eb : bindArgs (PySem.W.fnOf "check_calendar" "check_calendar" (defArgs s_check_calendar) (defBody s_check_calendar) (defScope s_check_calendar) .none kV dc pm an cdv ct) { pos := [], kw := [(("days" : Str), w0), (("diary" : Str), w1)] } = pure [(("diary" : Str), w1), (("days" : Str), w0)] := rfl
    intro M A E Q q
    show wpAny M A (bindArgs (PySem.W.fnOf "check_calendar" "check_calendar" (defArgs s_check_calendar) (defBody s_check_calendar) (defScope s_check_calendar) .none kV dc pm an cdv ct) { pos := [], kw := [(("days" : Str), w0), (("diary" : Str), w1)] }) Q E s
    rw [eb]
    exact wpAny_pure q
omit hf hs
theorem h_mixed : Has P w K mg base 1 "_law_mixed" ["cell", "n"] (spMixed) := mkHas X G c 20 (by decide +kernel) rfl (fun _ _ _ _ _ _ us hl => match us, hl with | [_, _], _ => rfl) fun fd F => ok_mixed F
theorem h_folded : Has P w K mg base 1 "_law_folded" ["script"] (spFolded K) := mkHas X G c 21 (by decide +kernel) rfl (fun _ _ _ _ _ _ us hl => match us, hl with | [_], _ => rfl) fun fd F => ok_folded F (f_blt X G c)
theorem h_draw : Has P w K mg base 2 "_law_draw" ["m", "top"] (spDraw') := mkHas X G c 22 (by decide +kernel) rfl (fun _ _ _ _ _ _ us hl => match us, hl with | [_, _], _ => rfl) fun fd F => ok_draw F (f_blt X G c) (h_mixed X G c)
theorem h_begun : Has P w K mg base 2 "_law_begun" ["script"] (spBegun K) := mkHas X G c 23 (by decide +kernel) rfl (fun _ _ _ _ _ _ us hl => match us, hl with | [_], _ => rfl) fun fd F => ok_begun F (f_blt X G c) (h_folded X G c)
theorem h_slack : Has P w K mg base 3 "_law_slack" ["m", "cycle"] (spSlack) := mkHas X G c 24 (by decide +kernel) rfl (fun _ _ _ _ _ _ us hl => match us, hl with | [_, _], _ => rfl) fun fd F => ok_slack F (h_draw X G c)
theorem h_book : Has P w K mg base 4 "_law_book" ["m", "cycle", "crowd", "lines_most"] (spBookD) := mkHas X G c 25 (by decide +kernel) rfl (fun _ _ _ _ _ _ us hl => match us, hl with | [_, _, _, _], _ => rfl) fun fd F => ok_book F (f_blt X G c) (h_draw X G c) (h_slack X G c)
theorem h_bent : Has P w K mg base 3 "_law_bent" ["m", "book"] (spBent) := mkHas X G c 26 (by decide +kernel) rfl (fun _ _ _ _ _ _ us hl => match us, hl with | [_, _], _ => rfl) fun fd F => ok_bent F (f_blt X G c) (h_draw X G c)
theorem h_dbl : Has P w K mg base 1 "_law_doubled" ["kind"] (spDblN K) := mkHas X G c 27 (by decide +kernel) rfl (fun _ _ _ _ _ _ us hl => match us, hl with | [_], _ => rfl) fun fd F => ok_dblN F (f_blt X G c)
theorem h_unl : Has P w K mg base 3 "_law_unlike" ["m", "thing_here"] (spUnlike K) := mkHas X G c 28 (by decide +kernel) rfl (fun _ _ _ _ _ _ us hl => match us, hl with | [_, _], _ => rfl) fun fd F => ok_unl F (f_blt X G c) (f_free X G c (by decide +kernel)) (He.eqO_ok (f_ck c 15 rfl)) (h_draw X G c)
theorem h_chg : Has P w K mg base 7 "_law_changed" ["m", "thing_here"] (spChg K 4) := by
  obtain ⟨fd, m, F⟩ := mkFn (st := s_law_changed) (x := "_law_changed") X G c 29 (by decide +kernel) rfl
  have b := F.bindsN (ps := ["m", "thing_here"]) (fun _ _ _ _ _ _ us hl => match us, hl with | [_, _], _ => rfl)
  exact ⟨_, fd, m, F.kp, b, ok_chg F m b (f_blt X G c) (h_draw X G c) (h_unl X G c) 4⟩
theorem h_due : Has P w K mg base 3 "_law_due" ["book", "thing_here"] (spDueL K) := mkHas X G c 30 (by decide +kernel) rfl (fun _ _ _ _ _ _ us hl => match us, hl with | [_, _], _ => rfl) fun fd F => ok_due F (f_blt X G c)
theorem h_clo : Has P w K mg base 8 "_law_close_ones" ["m", "book", "dates"] (spClose K) := mkHas X G c 33 (by decide +kernel) rfl (fun _ _ _ _ _ _ us hl => match us, hl with | [_, _, _], _ => rfl) fun fd F => ok_clo F (f_blt X G c) (f_free X G c (by decide +kernel)) (f_free X G c (by decide +kernel)) (He.eqO_ok (f_ck c 15 rfl)) (h_draw X G c) (h_chg X G c)
omit X G c
def qC : Str := (envOfC "_law_checked" (defScope s_law_checked) 0 0 .none).qual ++ "<lambda>"
def qD : Str := (envOfC "_law_doubled_right" (defScope s_law_doubled_right) 0 0 .none).qual ++ "<lambda>"
def TT (p1 p2 : Addr) : List (Addr × Str) := [(p1, qC), (p2, qD)]
theorem TT_u : ∀ {T : List (Addr × Str)} (nd : (T.map (·.1)).Nodup) {p : Addr} {q : Str} (h : (p, q) ∈ T), ∀ r ∈ T, r.1 = p → r.2 = q
  | [], _, _, _, h, _, _, _ => by cases h
  | t :: T, nd, p, q, h, r, hr, e => by
    rw [List.map_cons, List.nodup_cons] at nd
    rcases List.mem_cons.mp h with e1 | h1
    · rcases List.mem_cons.mp hr with e2 | h2
      · rw [e2, ← e1]
      · exact absurd (List.mem_map.mpr ⟨r, h2, by rw [e, ← e1]⟩) nd.1
    · rcases List.mem_cons.mp hr with e2 | h2
      · exact absurd (List.mem_map.mpr ⟨(p, q), h1, by rw [← e2, e]⟩) nd.1
      · exact TT_u nd.2 h1 r h2 e
include X G c hf hs
theorem h_chkd {c1 p1 p2 : Addr} (nd : ((TT p1 p2).map (·.1)).Nodup) (ht : tabA K (He.ga K "_law_checked") = some (c1, p1)) (tb : LamX.TabB base mg c1 p1) : HasG P w K mg base 11 "_law_checked" ["book", "told", "thing_here"] (spChkd (He.ga K "Diary") (TT p1 p2)) :=
  mkHasG X G c 32 (by decide +kernel) rfl (fun _ _ _ _ _ _ us hl => match us, hl with | [_, _, _], _ => rfl) fun fd F => ok_chkd (TT := TT p1 p2) List.mem_cons_self (TT_u nd List.mem_cons_self) F ht tb (f_blt X G c) (sysB_ok (f_ck c 14 rfl)) (He.eqO_ok (f_ck c 15 rfl)) (f_tol X G c hf hs) (h_due X G c) (h_cal X G c hf hs) (h_calK X G c hf hs) (h_chk X G c hf hs) (h_chkK X G c hf hs)
theorem h_dblR {c1 p1 p2 : Addr} (nd : ((TT p1 p2).map (·.1)).Nodup) (ht : tabA K (He.ga K "_law_doubled_right") = some (c1, p2)) (tb : LamX.TabB base mg c1 p2) : HasG P w K mg base 11 "_law_doubled_right" ["told", "dates"] (spDblR (He.ga K "Diary") (TT p1 p2)) :=
  mkHasG X G c 34 (by decide +kernel) rfl (fun _ _ _ _ _ _ us hl => match us, hl with | [_, _], _ => rfl) fun fd F => ok_dblR (TT := TT p1 p2) (List.mem_cons_of_mem _ List.mem_cons_self) (TT_u nd (List.mem_cons_of_mem _ List.mem_cons_self)) F ht tb (f_blt X G c) (f_tol X G c hf hs) (h_dbl X G c) (h_cal X G c hf hs) (h_chk X G c hf hs)
theorem facts {f c1 p1 c2 p2 : Addr} (hfa : mg ("law" : Str) = some (.ref f)) (h1 : tabA K (He.ga K "_law_checked") = some (c1, p1)) (h2 : tabA K (He.ga K "_law_doubled_right") = some (c2, p2)) :
    ∃ fd : FuncData, (∀ (s : Shared) (v : Value), BindsTo s fd ⟨[v], []⟩ [("script", v)]) ∧ ∀ base : Heap, K.In base → base.Ns mainGlobals mg → (∀ q ∈ [(c1, p1), (c2, p2)], LamX.TabB base mg q.1 q.2) → GOk P w K mg base 12 f fd ["script"] (spLawT K (TT p1 p2)) := by
  have nd : ((TT p1 p2).map (·.1)).Nodup := by
    have z := f_ck c 17 rfl
    unfold tabND at z
    have z := of_decide_eq_true z
    have tp : ∀ {g cc pp : Addr}, tabA K g = some (cc, pp) → tabP K g = pp := fun h => by unfold tabP; rw [h]
    simp only [List.map_cons, List.map_nil, tp h1, tp h2] at z
    exact z
  obtain ⟨fd, F⟩ := c.w.def_ 35 rfl
  have F' : FnT K "law" s_law (He.ga K "law") fd := F
  have e := hfa.symm.trans (He.glo_ok X G (f_fa2 c (.glo "law") (by simp [fa2])))
  cases e
  have b := FunD.bindsA (ps := ["script"]) F' fun _ _ _ _ _ _ us hl => match us, hl with | [_], _ => rfl
  exact ⟨fd, fun s v => b s [v] rfl, fun base _ _ tb => ok_law (TT := TT p1 p2) F' (f_blt X G c) (f_diaF X G c hf hs) (h_draw X G c) (h_begun X G c) (h_book X G c) (h_bent X G c) (h_due X G c) (h_cal X G c hf hs)
    (h_dblR X G c hf hs nd h2 (tb (c2, p2) (List.mem_cons_of_mem _ List.mem_cons_self))) (h_clo X G c) (h_chkd X G c hf hs nd h1 (tb (c1, p1) List.mem_cons_self))⟩
end
end K06
open PySem PySem.W PySem.Calls PyProof.Rows
theorem PySem.Challenge.cw_weekdaylegs_k06_calendars_checked_holds : PySem.Challenge.rw_weekdaylegs_k06_calendars_checked.Holds := by
  w_on; o_law
  refine HandSHeadRun.head_any (r := OpenLaw.row PySem.Challenge.rw_weekdaylegs_k06_calendars_checked) (q := view (OpenLaw.row PySem.Challenge.rw_weekdaylegs_k06_calendars_checked).prog [41]) (H := K06.hk) (ob := K06.ob) (M := 12000) (loose := K06.loose) (d := HandSHeadRun.topDef (OpenLaw.row PySem.Challenge.rw_weekdaylegs_k06_calendars_checked).prog 41) (kwd := []) K06.ob_eq
    (by kernel_rfl) (fun s => by kernel_rfl) K06.run (by kernel_rfl) (by kernel_rfl) (by kernel_rfl) (by rfl) (by first | assumption | decide +kernel) (by decide +kernel) ⟨rfl, rfl, rfl, rfl, rfl, by decide +kernel⟩ ?hw ?hc
  case hw => w_witness2
  case hc =>
    refine WL.walk_gT (l := PySem.Challenge.rw_weekdaylegs_k06_calendars_checked) (n := 63) (k := 12) (x := "script") rfl (by decide) (by kernel_rfl) ⟨rfl, by decide, by decide⟩ ?F
    intro w mg fa h Y G hmg0
    obtain ⟨K, KX, c⟩ := Y
    have hmg : mg ("law" : PySem.Str) = some (.ref fa) := by
      have e : (HandSHeadRun.topDef (OpenLaw.row PySem.Challenge.rw_weekdaylegs_k06_calendars_checked).prog 41).name = ("law" : PySem.Str) := by kernel_rfl
      rw [← e]
      exact hmg0
    obtain ⟨c1, p1, ht1, hcd1, hk1, hp1⟩ := c.tabs (.g "_law_checked") List.mem_cons_self
    obtain ⟨c2, p2, ht2, hcd2, hk2, hp2⟩ := c.tabs (.g "_law_doubled_right") (List.mem_cons_of_mem _ List.mem_cons_self)
    obtain ⟨fd, hb, hF⟩ := K06.facts (P := PySem.Challenge.rw_weekdaylegs_k06_calendars_checked.prog) (w := w) KX G c.x rfl (by decide +kernel) hmg ht1 ht2
    have two : ∀ {P : PySem.Addr × PySem.Addr → Prop}, P (c1, p1) → P (c2, p2) → ∀ q ∈ [(c1, p1), (c2, p2)], P q := fun a b q hq => by
      rcases List.mem_cons.mp hq with rfl | hq
      · exact a
      · rw [List.mem_singleton.mp hq]; exact b
    refine ⟨K, fd, WL.spLawT K (K06.TT p1 p2), [(c1, p1), (c2, p2)], KX, two hp1 hp2, two hk1 hk2, two hcd1 hcd2, hb, fun H a ns hl hT hS => ⟨a, ns, rfl, hS, hl, fun r hr => ?_, fun _ => rfl⟩, hF⟩
    rcases List.mem_cons.mp hr with rfl | hr
    · exact LamX.TabS.nil (hT (c1, p1) List.mem_cons_self)
    · rw [List.mem_singleton.mp hr]
      exact LamX.TabS.nil (hT (c2, p2) (List.mem_cons_of_mem _ List.mem_cons_self))
