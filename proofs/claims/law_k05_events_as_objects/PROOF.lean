import PyProof.Rows.All
import Wide.All
import OpenK.AllK
import Wide.FinOn
import HandS.ForMost
import HandS.Exc
import HandS.TryOnly
import HandS.ExcOwn
import HandS.WordsExc
import HandS.Defaults
import HandS.Property
import HandS.OwnEq
import HandS.ExcSuper
import HandS.ExcField
import HandS.IsInst
import HandS.TupAny
import HandS.Star
import HandS.ClsMeth
import HandS.Wide
import HandS.Zip
import HandS.Head0
import HandS.Head1
import HandS.Head2
import HandS.HeadEnd
import HandS.HeadHook1
import HandS.HeadHook2
import HandS.HeadHook3
import HandS.HeadHook4
import KE.KExcSuper
import HandS.ExcInit
import KE.GoesEnum
import KE.GoesOver
import HandS.MakeKw
import HandS.Style
import HandS.TupMul
import HandS.HeadNt
import HandS.Lambda
import HandS.Text
import KE.KIntText
import KE.LcSums
import KE.KEqNest
import HandS.MakeKwOnly
import HandS.DictComp
import HandS.Dict
import KE.GoesMore
import KE.GoesZip
import HandS.Conv
import HandS.FStr
import HandS.StrMore
import KE.IntTextLaws
import KE.GoesEnumKw
import KE.KExcIs
import HandS.GenCall
import HandS.GenList
import KE.KSuper
import HandS.Nested
import PySem.Challenge.RW_weekdaylegs_k05_events_as_objects
set_option Elab.async false
set_option linter.all false
set_option maxRecDepth 100000
set_option maxHeartbeats 4000000
/-! Words of our own over the hand layer: promises that know that nothing is being shown around them (guards), the text of a value, caught errors that are kept, the end of a law. -/
namespace WL
open PySem PySem.Spec PyProof.Rows L2

/-! ### promises of defs that show values: nothing is being shown around the call -/
structure GOk (P : Program) (w : World) (K : PySem.W.Frag) (mg : Str → Option Value) (base : Heap) (k : Nat) (f : Addr) (fd : FuncData) (ps : List Str) (sp : Sp) : Prop where
  size : ∀ vs H Q E, sp vs H Q E → vs.length = ps.length
  go : ∀ (A : Around) (up : List Env) (s : Shared) (H : Hp) (ar : Args) (us : List Value) (vs : List V) (Q : VK) (E : XK), A.guards = some [] → Room k A → Env0 P w K mg base A up s H →
    BindsTo s fd ar (ps.zip us) → Vals vs us → sp vs H Q E → codeAny (model P w) A (.call (.ref f) ar) (CR CX0 up P w H s Q E) s
theorem GOk.of {P : Program} {w : World} {K : PySem.W.Frag} {mg : Str → Option Value} {base : Heap} {k : Nat} {f : Addr} {fd : FuncData} {ps : List Str} {sp : Sp} (F : FnOk P w K mg base CX0 k f fd ps sp) : GOk P w K mg base k f fd ps sp :=
  ⟨F.len, fun A up s H ar us vs Q E _ hr he hb hv h => F.run A up s H ar us vs Q E hr he hb hv h⟩
theorem GOk.mono {P : Program} {w : World} {K : PySem.W.Frag} {mg : Str → Option Value} {base : Heap} {j k : Nat} {f : Addr} {fd : FuncData} {ps : List Str} {sp : Sp} (F : GOk P w K mg base j f fd ps sp) (h : j ≤ k) : GOk P w K mg base k f fd ps sp :=
  ⟨F.size, fun A up s H ar us vs Q E hg hr => F.go A up s H ar us vs Q E hg (hr.mono h)⟩

section
variable {P : Program} {w : World} {K : PySem.W.Frag} {mg : Str → Option Value} {base : Heap}
/-- a def by its body, where nothing is being shown -/
theorem gok_body {x qual : Str} {pr : Arguments} {bd : List Stmt} {sc : Scope} {dvs : List V} {kws : List (Str × V)} {f : Addr} {fd : FuncData} {N ps : List Str} {k : Nat} {sp : Sp}
    (F : FunD K x qual pr bd sc dvs kws f fd) (S : FnScope N ps sc) (size : ∀ vs H Q E, sp vs H Q E → vs.length = ps.length)
    (body : ∀ (cdv : Value) (A : Around) (up : List Env) (s : Shared) (H : Hp) (vs : List V) (Q : VK) (E : XK), A.guards = some [] → Room k (A.deeper (envOfC qual sc s.heap.objs.size f cdv)) → sp vs H Q E →
      ∃ t, PSs (cxOf CX0 P w K mg base N qual sc f cdv A up s H E).nox bd t ∧ t { nx := fun _ H' => Q .non H', rt := Q } (start N vs) H) : GOk P w K mg base (k + 1) f fd ps sp := by
  obtain ⟨oc, od, dV, kV, dc, pm, an, cdv, ct, osl, e, lk, hcd, _, _⟩ := F.ex
  subst e
  refine ⟨size, ?_⟩
  intro A up s H ar us vs Q E hg hr e0 hb rv hsp
  have kin : K.In s.heap := e0.mod.kin.keeps (fun b o q => (e0.bs b o q).1)
  have kinds : ∀ z ∈ ps.zip us, sc.names.lookup z.1 = some .local ∨ (sc.names.lookup z.1 = some .cell ∧ ((cellsFrom (s.heap.objs.size + 1) sc.names []).lookup z.1).isSome = true) := by
    intro z hz
    have hm : z.1 ∈ ps := (List.of_mem_zip (a := z.1) (b := z.2) hz).1
    cases S.par z.1 hm with
    | inl q => exact Or.inl q
    | inr q => exact Or.inr ⟨q, PySem.W.cellsFrom_some _ _ _ (Or.inl q)⟩
  refine codeAny_call_function hr.depth (kin _ _ lk) rfl S.co S.gen rfl (PySem.W.codeRec_of kin hcd) (hb _ _ _ _ ?_)
  refine wpAny_newFunctionEnv_cells S.kind kinds ?_
  intro env he s1 x1
  subst he
  have lim : s.heap.NoLimit := e0.mod.nolimit.keeps (fun b o q => (e0.bs b o q).1)
  refine And.intro (lim.keeps x1.toInCall.keep) (codeAny_func ?_)
  obtain ⟨t, ht, hq⟩ := body cdv A up s H vs Q E hg (hr.deeper _) hsp
  have J : Inv (cxOf CX0 P w K mg base N qual sc f cdv A up s H E) [] (start N vs) H s1 := inv_start S hr.hd e0 (size _ _ _ _ hsp) rv x1
  refine wpAny_mono (ht.nox.run [] s1 (start N vs) H _ J hq) ?_ (fun _ _ z => z)
  intro fl s2 hs
  have ends : ∀ {σ : L2.St} {H2 : Hp} {v : V} {u : Value}, Inv (cxOf CX0 P w K mg base N qual sc f cdv A up s H E) [] σ H2 s2 → RelV v u → Q v H2 → CE up P w H s Q u s2 :=
    fun I2 r2 q2 => ⟨_, _, I2.os, I2.bare, I2.base, I2.hok, r2, q2⟩
  match fl, hs with
  | .ret _, ⟨_, _, _, I2, r2, q2⟩ => exact ends I2 r2 q2
  | .next, ⟨_, _, I2, q2⟩ => exact ends (v := V.non) (u := Value.none) I2 rfl q2
  | .brk, ⟨_, _, _, q2⟩ => exact q2.elim
  | .cont, ⟨_, _, _, q2⟩ => exact q2.elim
end

section
variable {X : Cx} {k : Nat} {f : Addr} {fd : FuncData} {ps : List Str} {sp : Sp} {dvs : List V} {ds : List Value} {x : Str} {p pos : Pos} {e : Expr} {es : List Expr} {t : TA}
theorem gok_run {pins : List (Addr × Obj)} {σ : L2.St} {H : Hp} {s : Shared} {Q : VK} {us : List Value} {vs : List V} (F : GOk X.prog X.w X.K X.mg X.base k f fd ps sp) (hg : X.A.guards = some []) (hr : Room k X.A) (hb : Binds X.K fd ps ds) (hd : Vals dvs ds)
    (I : Inv X pins σ H s) (r : Vals vs us) (h : sp (vs ++ dvs) H Q E0) : wpAny (model X.prog X.w) X.A (call (.ref f) us) (EP X pins σ Q) X.xe s := by
  have rr : Vals (vs ++ dvs) (us ++ ds) := Vals.append r hd
  have el : (us ++ ds).length = ps.length := rr.length.symm.trans (F.size _ _ _ _ h)
  refine wpAny_call (codeAny_mono (F.go X.A X.stack s H ⟨us, []⟩ (us ++ ds) (vs ++ dvs) Q E0 hg hr I.env0 (hb s us I.kIn el) rr h) ?_)
  intro res s2 hq
  match res, hq with
  | .error _, z => exact False.elim z
  | .ok (.ret _), z => exact I.after z
  | .ok .next, z => exact False.elim z
  | .ok .brk, z => exact False.elim z
  | .ok .cont, z => exact False.elim z
theorem pe_gcall (F : GOk X.prog X.w X.K X.mg X.base k f fd ps sp) (hg : X.A.guards = some []) (hr : Room k X.A) (gl : Gl X x) (hm : X.mg x = some (.ref f)) (kp : PySem.W.keepIn X.K (.ref f) = true) (hb : Binds X.K fd ps ds) (hd : Vals dvs ds)
    (ha : PA X (e :: es) t) (hdb : (x == ("__debug__" : Str)) = false := by decide) (h1 : starEach (e :: es) X.env = (false, eval e X.env) :: starEach es X.env := by rfl) (h2 : (backTo pos (starEach es X.env)).any (·.1) = false := by rfl) :
    PE X (.Call (.Name x p) (e :: es) [] pos) (tCall sp dvs E0 t) := by
  constructor
  intro pins s σ H Q I h
  refine wpAny_Call_Name_kw (ld_glob I gl hm ?_ hdb)
  exact PySem.W.callWith_K (h₀ := X.base) I.ok.mod.kin kp (thn (ha.run pos pins s σ H _ I h) fun us s1 ⟨vs, H1, I1, r1, q1⟩ => ⟨I1.kIn, gok_run F hg hr hb hd I1 r1 q1⟩) h1 h2
end

/-! ### values as data, for showing and comparing -/
mutual
inductive Dq (H : Hp) : V → PyData → Prop
  | non : Dq H .non .none
  | bl (b : Bool) : Dq H (.bl b) (.bool b)
  | int (i : Int) : Dq H (.int i) (.int i)
  | str (x : Str) : Dq H (.str x) (.str x)
  | tup {a : Addr} {xs : List V} {ds : List PyData} : H a = some (.tup xs) → Dqs H xs ds → Dq H (.ref a) (.tuple ds)
  | lst {a : Addr} {xs : List V} {ds : List PyData} : H a = some (.lst xs) → a ≠ sysModules → Dqs H xs ds → Dq H (.ref a) (.list ds)
  | mtd {a : Addr} : H a = some (.dK []) → Dq H (.ref a) (.dict [])
inductive Dqs (H : Hp) : List V → List PyData → Prop
  | nil : Dqs H [] []
  | cons {v : V} {vs : List V} {d : PyData} {ds : List PyData} : Dq H v d → Dqs H vs ds → Dqs H (v :: vs) (d :: ds)
end
theorem Dqs.length {H : Hp} : ∀ {xs : List V} {ds : List PyData}, Dqs H xs ds → xs.length = ds.length
  | _, _, .nil => rfl
  | _, _, .cons _ h => congrArg Nat.succ h.length
section
variable {X : Cx} {pins : List (Addr × Obj)} {σ : L2.St} {H : Hp} {s : Shared}
mutual
theorem Dq.reads (I : Inv X pins σ H s) : ∀ {v : V} {d : PyData} {u : Value}, Dq H v d → RelV v u → ∃ as, Reads s.heap u d as ∧ sysModules ∉ as
  | _, _, _, .non, r => ⟨[], by cases r; exact .none, List.not_mem_nil⟩
  | _, _, _, .bl b, r => ⟨[], by cases r; exact .bool b, List.not_mem_nil⟩
  | _, _, _, .int i, r => ⟨[], by obtain ⟨t, q⟩ := r; subst q; exact .int i t, List.not_mem_nil⟩
  | _, _, _, .str x, r => ⟨[], by obtain ⟨t, q⟩ := r; subst q; exact .str x t, List.not_mem_nil⟩
  | _, _, _, .tup ha hs, r => by
    cases r
    obtain ⟨_, its, rv, ⟨o, eo, oc, n, od⟩⟩ := I.hok _ _ ha
    obtain ⟨as, q, hn⟩ := Dqs.reads I hs rv
    exact ⟨as, .tuple eo oc od (by simpa using q), hn⟩
  | _, _, _, .lst (a := a) ha hna hs, r => by
    cases r
    obtain ⟨_, its, n, rv, eo⟩ := I.hok _ _ ha
    obtain ⟨as, q, hn⟩ := Dqs.reads I hs rv
    exact ⟨a :: as, .list eo rfl rfl (by simpa using q), fun hm => (List.mem_cons.mp hm).elim (fun z => hna z.symm) hn⟩
  | _, _, _, .mtd (a := a) ha, r => by
    cases r
    obtain ⟨_, hsm, vs, kv, o, es, ep, eo, ex, od, _, pr, _⟩ := dk_of I.hok ha
    cases kv
    have e0 : es.toList = [] := List.eq_nil_of_length_eq_zero pr.length
    refine ⟨a :: [] ++ [], .dict (es := es) (kvs := []) eo ex.1 od (by rw [e0]; exact .nil) (by rw [e0]; exact .nil), fun hm => ?_⟩
    have hz : sysModules = a := by simpa using hm
    rw [← hz] at hsm
    exact absurd hsm (by decide)
theorem Dqs.reads (I : Inv X pins σ H s) : ∀ {vs : List V} {ds : List PyData} {us : List Value}, Dqs H vs ds → Vals vs us → ∃ as, ReadsAll s.heap us ds as ∧ sysModules ∉ as
  | _, _, _, .nil, r => ⟨[], by cases r; exact .nil, List.not_mem_nil⟩
  | _, _, _, .cons h hs, r => by
    cases r with
    | cons r1 r2 =>
      obtain ⟨as, q1, n1⟩ := Dq.reads I h r1
      obtain ⟨bs, q2, n2⟩ := Dqs.reads I hs r2
      exact ⟨as ++ bs, .cons q1 q2, fun hm => (List.mem_append.mp hm).elim n1 n2⟩
end
end
section
variable {X : Cx}
/-- repr(x) -/
def rShow : List V → Hp → VK → Prop := fun vs H Q => ∃ (a : Addr) (d : PyData), vs = [.ref a] ∧ Dq H (.ref a) d ∧ d.showable = true ∧ d.shown.length ≤ sizeLine ∧ d.depth ≤ 50 ∧ Q (.str d.shown) H
theorem call_show {k : Nat} (hg : X.A.guards = some []) (hr : Room k X.A) : CallR X (.builtin "repr") rShow := by
  intro pins s σ H vs us Q I r h
  obtain ⟨a, d, e, hd, hs, hz, hp, q⟩ := h
  subst e
  cases r with
  | cons r1 r2 =>
    cases r2
    cases r1
    obtain ⟨as, rd, hn⟩ := hd.reads I (u := .ref a) rfl
    have hu := hr.units
    exact repr_of_reads' rd hs (fun _ => hn) hg (by omega) (fun _ _ z => z) (fun h' u tk kp => ⟨.str d.shown, H, I.kept (t' := tk) kp, ⟨u, rfl⟩, q⟩) hz
end
end WL
set_option Elab.async false
set_option linter.all false
set_option maxRecDepth 100000
set_option maxHeartbeats 4000000
namespace WL
open PySem PySem.Spec PyProof.Rows L2
/-! ### the end of a law whose def shows values -/
section
variable {P : Program} {w : World} {K : PySem.W.Frag} {mg mb : Str → Option Value} {k : Nat} {fa a : Addr} {fd : FuncData} {x : Str} {sp : Sp} {s : Shared} {vs : List Value} {ns : List Int}
/-- the abstract heap at the law's entry: the script alone, unless it is the module's own -/
def atLaw (K : PySem.W.Frag) (a : Addr) (vs : List Value) (ns : List Int) : Hp := fun b =>
  if b = a ∧ K.lookup a = none then some (.frz { cls := .type "list", data := .seq vs.toArray } (.lst (ns.map V.int))) else none
theorem atLaw_some {b : Addr} {o : HO} (h : atLaw K a vs ns b = some o) : b = a ∧ K.lookup a = none ∧ o = .frz { cls := .type "list", data := .seq vs.toArray } (.lst (ns.map V.int)) := by
  unfold atLaw at h
  by_cases c : b = a ∧ K.lookup a = none
  · rw [if_pos c] at h
    exact ⟨c.1, c.2, (Option.some.inj h).symm⟩
  · rw [if_neg c] at h
    cases h
theorem law_g (kin : K.In s.heap) (gl : s.heap.Ns mainGlobals mg) (bl : s.heap.Ns builtinsNs mb) (bb : ∀ x : Str, x ≠ "__name__" → mb x = bootBuiltins x) (lim : s.heap.NoLimit) (gens : s.gens = #[])
    (ha : s.heap.get? a = some { cls := .type "list", data := .seq vs.toArray }) (hi : IntsAre vs ns) (hl : ns.length ≤ sizeLine) (hr : Room k callerA)
    (F : ∀ base : Heap, K.In base → base.Ns mainGlobals mg → GOk P w K mg base k fa fd [x] sp) (bind : ∀ (s : Shared) (u : Value), BindsTo s fd ⟨[u], []⟩ [(x, u)])
    (hsp : ∀ H : Hp, Only H → SqL K H a (ns.map V.int) → sp [.ref a] H (fun v _ => v = .bl true) fun _ _ _ => False) :
    codeAny (model P w) callerA (.call (.ref fa) ⟨[.ref a], []⟩) (fun r s' => r = .ok (.ret (.bool true)) ∧ PySem.OldK s.heap s'.heap ∧ s'.os = s.os ∧ AllBare s'.gens) s := by
  have hv := vals_ints hi
  have hok : HOk P w (atLaw K a vs ns) s.heap := by
    intro b o hb
    obtain ⟨rfl, _, rfl⟩ := atLaw_some hb
    exact ⟨ha, by rw [List.length_map]; exact hl, vs, _, hv, ha⟩
  have only : Only (atLaw K a vs ns) := fun b => by
    cases q : atLaw K a vs ns b with
    | none => exact .inl rfl
    | some o =>
      obtain ⟨_, _, rfl⟩ := atLaw_some q
      exact .inr ⟨_, _, rfl⟩
  have seen : SqL K (atLaw K a vs ns) a (ns.map V.int) := by
    cases q : K.lookup a with
    | none => exact .inl (.inr ⟨_, if_pos ⟨rfl, q⟩⟩)
    | some o =>
      have e := (kin a o q).symm.trans ha
      cases e
      exact .inr ⟨_, vs.toArray, _, q, rfl, rfl, rfl, by rw [List.size_toArray, hi.length]; exact hl, by simpa using hv⟩
  -- what is not the script is on the ground
  have ground : ∀ {b : Addr} {o : Obj}, s.heap.get? b = some o → (b = a → K.lookup a ≠ none) → (hidT s.heap (atLaw K a vs ns)).get? b = some o := fun {b o} e n => hidT_get e (by
    unfold atLaw
    exact if_neg fun c => n c.1 c.2)
  have noList : ∀ {b : Addr} {o : Obj} {es : Array DictEntry} {ep : Nat}, s.heap.get? b = some o → o.data = .dict es ep → b ≠ a := fun {b o es ep} e d z => by
    rw [z, ha] at e
    cases e
    cases d
  have nsG : ∀ {b : Addr} {m : Str → Option Value}, s.heap.Ns b m → (hidT s.heap (atLaw K a vs ns)).Ns b m := fun {b m} ⟨o, es, ep, e, d, r⟩ => ⟨o, es, ep, ground e fun z => absurd z (noList e d), d, r⟩
  have kin' : K.In (hidT s.heap (atLaw K a vs ns)) := fun b o e => ground (kin b o e) fun z n => by rw [z, n] at e; cases e
  obtain ⟨ml, l1, l2⟩ := lim
  have e0 : Env0 P w K mg (hidT s.heap (atLaw K a vs ns)) callerA [] s (atLaw K a vs ns) :=
    ⟨rfl, ⟨kin', nsG gl, ⟨mb, nsG bl, bb⟩, ⟨ml, nsG l1, l2⟩⟩, fun _ _ e => of_hidT e, Nat.le_of_eq (hidT_size _ _), trivial, fun b hb => absurd hb List.not_mem_nil, hok, .of_eq gens⟩
  refine codeAny_mono ((F _ kin' (nsG gl)).go callerA [] s _ ⟨[.ref a], []⟩ [.ref a] [.ref a] _ _ rfl hr e0 (bind s (.ref a)) (.cons rfl .nil) (hsp _ only seen)) ?_
  intro r s2 h
  match r, h with
  | .error _, z => exact False.elim z
  | .ok .next, z => exact False.elim z
  | .ok .brk, z => exact False.elim z
  | .ok .cont, z => exact False.elim z
  | .ok (.ret u), ⟨v, H2, os, bare, un, hok2, rv, q⟩ =>
    subst q
    cases rv
    refine ⟨rfl, PySem.OldK.of_keep fun b o e => ?_, os, bare⟩
    cases q : atLaw K a vs ns b with
    | none => exact un.keep b o e q List.not_mem_nil List.not_mem_nil
    | some u =>
      obtain ⟨rfl, _, rfl⟩ := atLaw_some q
      have z := (hok2 b _ (un.frzs b _ _ q)).1
      rw [ha] at e
      cases e
      exact z
end
theorem walk_g {l : PySem.W.OpenLaw} {n k : Nat} {q : Program} {loose : List Str} {XP : (Str → Option Value) → Heap → Prop} {YP : World → Heap → Prop} {d : DefRec} {x : Str}
    (hn : l.most = some n) (hn2 : n ≤ sizeLine) (hdf : d.params.defaults = []) (hr : Room k callerA)
    (F : ∀ (w : World) (mg : Str → Option Value) (fa : Addr) (h : Heap), YP w h → h.Ns mainGlobals mg → mg d.name = some (.ref fa) →
      ∃ (K : PySem.W.Frag) (fd : FuncData) (sp : Sp), K.In h ∧ (∀ (s : Shared) (u : Value), BindsTo s fd ⟨[u], []⟩ [(x, u)]) ∧
        (∀ (H : Hp) (a : Addr) (ns : List Int), ns.length ≤ n → Only H → SqL K H a (ns.map V.int) → sp [.ref a] H (fun v _ => v = .bl true) fun _ _ _ => False) ∧
        ∀ base : Heap, K.In base → base.Ns mainGlobals mg → GOk l.prog w K mg base k fa fd [x] sp) :
    PySem.W.WalkO q loose XP YP l.row.toRowW d [] (fun f vs => PySem.call f vs) := by
  refine Att.attach_call hn hdf ?_
  intro w s0 s1 mg mb fa o pm cd doc a vs ns G Y ho hd hcd hmg hobj hints hlen hg
  obtain ⟨K, fd, sp, kin, hb, hsp, hF⟩ := F w mg fa _ Y G.T.g hmg
  exact law_g kin G.T.g G.T.b G.T.builtins G.T.nolimit hg hobj hints (Nat.le_trans hlen hn2) hr hF hb fun H hO hS => hsp H a ns hlen hO hS
/-! ### facts of the top: where an object stands, what is looked at -/
inductive At where
  | g (x : Str)
  | m (C x : Str)
  | pr (C x : Str)
  | st (C x : Str)
  | cm (C x : Str)
def recAd (K : PySem.W.Frag) (p : Addr) (T : String) : Addr := match PySem.W.recIn K p T with
  | some (.ref g :: _) => g
  | _ => 0
def At.ad (K : PySem.W.Frag) : At → Addr
  | .g x => He.ga K x
  | .m C x => He.ma K (He.ga K C) x
  | .pr C x => recAd K (He.ma K (He.ga K C) x) "property"
  | .st C x => recAd K (He.ma K (He.ga K C) x) "staticmethod"
  | .cm C x => recAd K (He.ma K (He.ga K C) x) "classmethod"
def fnA (K : PySem.W.Frag) (a : Addr) : He.FnW := match K.lookup a with
  | some ⟨_, _, .func fd, _⟩ => some (fd.name, fd.qualname, fd.params, fd.body, fd.scope, fd.globals, fd.closure, fd.builtins)
  | _ => none
structure DefW where
  at_ : At
  name : Str
  qual : Str
  st : Stmt
  dfl : List He.Dv := []
  kwd : List (Str × He.Dv) := []
def DefW.val (d : DefW) : He.FnW := some (d.name, d.qual, defArgs d.st, .stmts (defBody d.st), defScope d.st, mainGlobals, [], builtinsNs)
def DefW.dvs (K : PySem.W.Frag) (d : DefW) : List V := d.dfl.map (He.Dv.v K)
def DefW.kws (K : PySem.W.Frag) (d : DefW) : List (Str × V) := d.kwd.map fun q => (q.1, q.2.v K)
def DefW.ok (K : PySem.W.Frag) (d : DefW) : Bool := PySem.W.keepIn K (.ref (d.at_.ad K)) && (match K.lookup (d.at_.ad K) with
  | some ⟨_, _, .func fd, _⟩ => PySem.W.codeIn K fd.code d.qual && (He.dflB K fd.defaults (d.dvs K) && He.kwdB K fd.kwdefaults (d.kws K))
  | _ => false)
theorem DefW.funD {K : PySem.W.Frag} {d : DefW} (e : fnA K (d.at_.ad K) = d.val) (c : d.ok K = true) : ∃ fd, FunD K d.name d.qual (defArgs d.st) (defBody d.st) (defScope d.st) (d.dvs K) (d.kws K) (d.at_.ad K) fd := by
  obtain ⟨c1, c2⟩ := He.ba c
  unfold fnA at e
  cases q : K.lookup (d.at_.ad K) with
  | none =>
    rw [q] at c2
    cases c2
  | some o =>
    obtain ⟨oc, od, dt, sl⟩ := o
    rw [q] at c2 e
    cases dt with
    | func z =>
      obtain ⟨a1, a2, a3, a4, a5, a6, a7, a8, a9, b1, b2, b3, b4, b5, b6⟩ := z
      have e2 : (some (a1, a2, a3, a4, a5, a6, a7, b6) : He.FnW) = some (d.name, d.qual, defArgs d.st, .stmts (defBody d.st), defScope d.st, mainGlobals, [], builtinsNs) := e
      simp only [Option.some.injEq, Prod.mk.injEq] at e2
      obtain ⟨h1, h2, h3, h4, h5, h6, h7, h8⟩ := e2
      subst h1 h2 h3 h4 h5 h6 h7 h8
      obtain ⟨k1, k2⟩ := He.ba (show (PySem.W.codeIn K b4 d.qual && (He.dflB K a8 (d.dvs K) && He.kwdB K a9 (d.kws K))) = true from c2)
      obtain ⟨k3, k4⟩ := He.ba k2
      exact ⟨_, ⟨oc, od, _, _, _, _, _, _, _, sl, rfl, q, k1, He.dflB_ok k3, He.kwdB_ok k4⟩, c1⟩
    | _ => cases c2
/-! ### what the run of the top shows -/
abbrev AlW : Type := Bool × List He.FnW
/-- the addresses of the fragment: what the module reaches, the table of modules, the model's statics -/
def asW (g : Addr → Option Obj) (n : Nat) : List Addr := sysModules :: cStatics :: He.asD g n
def obsW (n : Nat) (chk : PySem.W.Frag → Bool) (fn : List DefW) (g : Addr → Option Obj) : AlW := let K := He.frG g (asW g n); (chk K && fn.all fun d => d.ok K, fn.map fun d => fnA K (d.at_.ad K))
def valW (fn : List DefW) : AlW := (true, fn.map DefW.val)
structure SaysW (chk : PySem.W.Frag → Bool) (fn : List DefW) (K : PySem.W.Frag) : Prop where
  chk : chk K = true
  oks : ∀ d ∈ fn, d.ok K = true
  eqs : fn.map (fun d => fnA K (d.at_.ad K)) = fn.map DefW.val
theorem saysW_of {n : Nat} {chk : PySem.W.Frag → Bool} {fn : List DefW} {g : Addr → Option Obj} (e : obsW n chk fn g = valW fn) : SaysW chk fn (He.frG g (asW g n)) := by
  have e1 := congrArg Prod.fst e
  have e2 := congrArg Prod.snd e
  obtain ⟨h1, h2⟩ := He.ba (show (chk (He.frG g (asW g n)) && fn.all fun d => d.ok (He.frG g (asW g n))) = true from e1)
  exact ⟨h1, fun d hd => List.all_eq_true.mp h2 d hd, e2⟩
theorem SaysW.def_ {chk : PySem.W.Frag → Bool} {fn : List DefW} {K : PySem.W.Frag} (c : SaysW chk fn K) (i : Nat) {d : DefW} (h : fn[i]? = some d) :
    ∃ fd, FunD K d.name d.qual (defArgs d.st) (defBody d.st) (defScope d.st) (d.dvs K) (d.kws K) (d.at_.ad K) fd := by
  have z : (fn.map fun d => fnA K (d.at_.ad K))[i]? = (fn.map DefW.val)[i]? := by rw [c.eqs]
  rw [List.getElem?_map, List.getElem?_map, h] at z
  exact DefW.funD (Option.some.inj z) (c.oks d (List.mem_of_getElem? h))
def hookW (n : Nat) (chk : PySem.W.Frag → Bool) (fn : List DefW) : PySem.W.Hook where
  α := AlW
  obs := fun s => obsW n chk fn s.heap.get?
  val := fun _ => valW fn
  says := fun _ h => ∃ K : PySem.W.Frag, K.In h ∧ SaysW chk fn K
  of := fun _ _ e => ⟨_, He.frG_in, saysW_of e⟩
  keeps := fun _ _ _ ⟨K, hK, c⟩ k => ⟨K, PySem.W.Frag.In.keeps hK k, c⟩
theorem obsW_eq {n : Nat} {chk : PySem.W.Frag → Bool} {fn : List DefW} {g : Addr → Option Obj} {s : Shared} (h : ∀ a, g a = s.heap.get? a) : obsW n chk fn g = (hookW n chk fn).obs s := by
  have e : g = s.heap.get? := funext h
  rw [e]
  rfl
end WL
set_option Elab.async false
set_option linter.all false
set_option maxRecDepth 100000
set_option maxHeartbeats 4000000
namespace WL
open PySem PySem.Spec PyProof.Rows L2
/-! ### errors of the program's own whose __init__ says super().__init__("..") and stores its parameters -/
/-- super().__init__("..") as a statement -/
def supSt (msg : Str) (k : Nat) (q : Nat → Pos) : Stmt := .Expr (.Call (.Attribute (.Call (.Name "super" (q 0)) [] [] (q 1)) "__init__" (q 2)) [.Constant (.str msg) k (q 3)] [] (q 4)) (q 5)
/-- self.f = f -/
def fldSt (f : Str) (q : Nat → Pos) : Stmt := .Assign [.Attribute (.Name "self" (q 0)) f (q 1)] (.Name f (q 2)) (q 3)
def scOk (sc : Scope) (fs : List Str) : Bool := decide (sc.names.lookup ("self" : Str) = some .local) && (decide (sc.names.lookup ("super" : Str) = some .globalImplicit) && (decide (sc.names.lookup ("__class__" : Str) = some .free) &&
  ((fs.all fun f => decide (sc.names.lookup f = some .local)) && sc.names.all fun y => decide (y.2 ≠ .cell))))
structure ExT (P : Program) (K : PySem.W.Frag) (mg : Str → Option Value) (fs : List Str) (C fI : Addr) : Prop where
  cls : ∃ nm q N bs bm sn sub ab col dd k0 k1 k2 k3 k5, K.lookup C = some (excClassObj nm q C N bs bm true sn sub ab col dd k0 k1 k2 k3 k5 "ValueError.__new__") ∧ HandSPX.refsVE bm = true
  sup : PySem.W.ks_superIn K C C "__init__" = some (some (.builtin "ValueError.__init__"))
  opq : PySem.W.nsIn K cStatics "thirdparty.any" = some none
  slf : PySem.W.mroIn K C (.ref C) = some true
  vErr : PySem.W.subIn K (.ref C) (.type "ValueError") = some true
  sa : PySem.W.findIn K (.ref C) "__setattr__" = some (some (.builtin "object.__setattr__"))
  no : ∀ f ∈ fs, PySem.W.findIn K (.ref C) f = some none
  iC : PySem.W.findIn K (.ref C) "__init__" = some (some (.ref fI))
  tI : PySem.W.typeIn K (.ref fI) = some (.type "function")
  kC : PySem.W.keepIn K (.ref C) = true
  exC : PySem.W.subIn K (.ref C) (.type "BaseException") = some true
  tyC : PySem.W.typeIn K (.ref C) = some (.type "type")
  free : mg "super" = none
  top : (P.main.scope.names.lookup ("super" : Str)).isSome = false
/-- the __init__ of such a class -/
structure ExI (P : Program) (K : PySem.W.Frag) (fs : List Str) (C fI : Addr) (fd : FuncData) : Prop where
  at_ : ∃ oc od osl, K.lookup fI = some ⟨oc, od, .func fd, osl⟩
  clo : ∃ cc cl cld csl, fd.closure = [(("__class__" : Str), cc)] ∧ K.lookup cc = some ⟨cl, cld, .cell (some (.ref C)), csl⟩
  code : ∃ cda ccl cdd vs ccs file tf, fd.code = .ref cda ∧ K.lookup cda = some ⟨ccl, cdd, .fields vs, ccs⟩ ∧ vs[2]? = some (.str file tf) ∧ ((P.main.file : Str) == file) = true
  rec_ : PySem.W.codeIn K fd.code fd.qualname = true
  bltn : fd.builtins = builtinsNs
  glob : fd.globals = mainGlobals
  first : ∃ ar, (fd.params.posonlyargs ++ fd.params.args).head? = some ar ∧ ar.arg = ("self" : Str)
  kind : fd.scope.kind = .function
  co : fd.scope.isCoroutine = false
  gen : fd.scope.isGenerator = false
  ok : scOk fd.scope fs = true
  body : ∃ msg k q qs, fd.body = .stmts (supSt msg k q :: (fs.zip qs).map fun p => fldSt p.1 p.2) ∧ qs.length = fs.length ∧ ((q 2).endLine == (q 4).line) = true
section
variable {prog : Program} {w : World} {A : Around} {E : Value → Shared → Prop} {K : PySem.W.Frag} {mg : Str → Option Value} {fs : List Str} {C fI : Addr} {fd : FuncData} {h : Heap} {g : Array GenState} {d : Drawn} {t : Nat} {os : OsState}
/-- the built-in __init__, bound, called: the object's arguments are laid anew -/
theorem mw_call {u e t0 : Addr} {rest : List Value} {Q : Value → Shared → Prop} (T : ExT prog K mg fs C fI) (X : K.In h) (he : h.get? e = some (HandSPX.excO C t0)) (hu : h.get? u = some (PySem.W.kxs_mw "ValueError.__init__" e)) (hz : rest.length ≤ sizeLine)
    (hq : ∀ h' t1, (∀ b o, b ≠ e → h.get? b = some o → h'.get? b = some o) → h'.get? e = some (HandSPX.excO C t1) → Q .none ⟨h', g, d, t, os⟩) : wpAny (model prog w) A (call (.ref u) rest) Q E ⟨h, g, d, t, os⟩ := by
  obtain ⟨nm, q, N, bs, bm, sn, sub, ab, col, dd, k0, k1, k2, k3, k5, hC, _⟩ := T.cls
  have FB := F.excBase_ValueError
  refine wpAny_call (codeAny_of_tree (show wpAny (model prog w) A.in1 (callAny (.ref u) ⟨rest, []⟩) _ _ ⟨h, g, d, t, os⟩ from ?_))
  have c1 : (Value.type "method-wrapper" == Value.type "method" || Value.type "method-wrapper" == Value.type "builtin_function_or_method" || Value.type "method-wrapper" == Value.type "method-wrapper") = true := by decide
  simp only [callAny]
  refine wpAny_bind (wpAny_load hu ?_)
  simp only [PySem.W.kxs_mw, c1, if_true]
  refine PySem.W.KFB.if_so (by decide) ?_
  refine wpAny_bind (PySem.W.check_bound_init FB.toExcCallFacts (X _ _ hC) he rfl (wpAny_bind (wpAny_pure (wpAny_pure ?_))))
  refine ⟨plainId_quiet FB.init.plain _, codeAny_builtin FB.initEntry ?_⟩
  exact PySem.W.exc_init_tree (cls := .ref C) (t0 := t0) (dv := none) (c2 := .none) (c3 := .none) (b4 := .bool false) he hz fun h' k1 k2 _ => hq h' _ k1 k2
/-- the statement super().__init__("..") in such an __init__ -/
theorem sup_step {L x t0 : Addr} {m mb : Str → Option Value} {bd : List Stmt} {msg : Str} {k : Nat} {q : Nat → Pos} {Q : Flow → Shared → Prop} (T : ExT prog K mg fs C fI) (J : ExI prog K fs C fI fd) (X : K.In h) (G : h.Ns mainGlobals mg) (B : h.Ns builtinsNs mb) (bb : ∀ x : Str, x ≠ "__name__" → mb x = bootBuiltins x)
    (hpos : ((q 2).endLine == (q 4).line) = true) (hn : h.Ns L m) (hv : m "self" = some (.ref x)) (hx : h.get? x = some (HandSPX.excO C t0))
    (hq : ∀ h' t' t1, (∀ b o, b ≠ x → h.get? b = some o → h'.get? b = some o) → h'.get? x = some (HandSPX.excO C t1) → Q .next ⟨h', g, d, t', os⟩) :
    PySem.wpAt (model prog w) A (.func bd (callEnv fd L fI)) (exec (supSt msg k q) (callEnv fd L fI)) Q E ⟨h, g, d, t, os⟩ := by
  obtain ⟨oc, od, osl, lk⟩ := J.at_
  obtain ⟨cc, cl, cld, csl, hclo, hcell⟩ := J.clo
  obtain ⟨cda, ccl, cdd, vs, ccs, file, tf, hcode, hcd, hvs, hfile⟩ := J.code
  obtain ⟨ar, har, hself⟩ := J.first
  obtain ⟨nm, qn, N, bs, bm, sn, sub, ab, col, dd, k0, k1, k2, k3, k5, hC, hbm⟩ := T.cls
  have hok := J.ok
  unfold scOk at hok
  obtain ⟨o1, hok⟩ := He.ba hok
  obtain ⟨o2, hok⟩ := He.ba hok
  obtain ⟨o3, _⟩ := He.ba hok
  have ks : (callEnv fd L fI).kindOf "super" = some .globalImplicit := of_decide_eq_true o2
  have kc : (callEnv fd L fI).kindOf "__class__" = some .free := of_decide_eq_true o3
  have kself : (callEnv fd L fI).kindOf "self" = some .local := of_decide_eq_true o1
  have kf : (callEnv fd L fI).scope.kind = .function := J.kind
  have hcl : PySem.W.clsIn K C = some { name := nm, bases := bs, mro := .ref C :: bm, ns := N, qualname := qn, hasDict := true, slotNames := sn, subclasses := sub, abstract := ab, collection := col, hasDel := false } := by
    unfold PySem.W.clsIn
    rw [hC]
  have hsup := T.sup
  unfold PySem.W.ks_superIn at hsup
  rw [hcl] at hsup
  have I0 : PySem.W.InstAt h x (HandSPX.excO C t0) C none := ⟨hx, rfl, rfl, trivial⟩
  have hxC : x ≠ C := PySem.W.ks_ne X I0 hcl
  have oneArg : starEach [Expr.Constant (.str msg) k (q 3)] (callEnv fd L fI) = (false, eval (.Constant (.str msg) k (q 3)) (callEnv fd L fI)) :: starEach [] (callEnv fd L fI) := rfl
  refine PySem.ks_wpAt_Expr_any ?_ (by simp [interactive, kf]) rfl
  refine PySem.ks_wpAt_MethodCall (pl := do return (← importBound (.Call (.Name "super" (q 0)) [] [] (q 1)) (callEnv fd L fI)).getD true) ?_ ?he
  case he =>
    have few : methodCallForm ([Expr.Constant (.str msg) k (q 3)].length + ([] : List Keyword).length) (backTo (q 4) (starEach [Expr.Constant (.str msg) k (q 3)] (callEnv fd L fI))) (backToKw (q 4) (keywordEach [] (callEnv fd L fI))) = true := rfl
    show (attributeBase _ _ _ _ >>= fun ov => standAt _ >>= fun _ => methodCall _ _ _ _ _ ov _ _ _) = _
    unfold methodCall
    rw [few]
    unfold methodCallPos calleeOf
    simp only [Bool.not_true, Bool.false_or, hpos, if_true, pure_bind, bind_assoc]
    rfl
  refine PySem.ks_wpAt_super_base ks kc (by decide) rfl (X _ _ lk) rfl har hcode (X _ _ hcd) rfl hvs hfile T.top ?_
  refine PySem.W.ks_loadName_global kf ks (Calls.loadGlobal_builtin (by show Heap.Ns h fd.globals mg; rw [J.glob]; exact G) T.free (by show Heap.Ns h fd.builtins mb; rw [J.bltn]; exact B) ((bb _ (by decide +kernel)).trans PyProof.Rows.Boot.«super») ⟨rfl, ?_⟩)
  refine wpAny_loadName_free kf kc (by show fd.closure.lookup ("__class__" : Str) = some cc; rw [hclo]; rfl) ⟨_, X _ _ hcell, rfl⟩ ?_
  rw [hself]
  refine wpAny_loadName_local kf kself hn hv ?_
  refine PySem.ks_wpAny_isType_cls (X _ _ hC) rfl ⟨rfl, ?_⟩
  refine PySem.ks_wpAny_call_super (X _ _ hC) rfl hx rfl (fun c e => nomatch e) (PySem.W.looks_mroIn X T.slf) ?_
  intro h1 e1 k1'
  have X1 : K.In h1 := X.keeps k1'
  have hx1 := k1' _ _ hx
  have I1 : PySem.W.InstAt h1 x (HandSPX.excO C t0) C none := ⟨hx1, rfl, rfl, trivial⟩
  refine PySem.W.kxs_getMethod PySem.W.kxs_ValueError e1 (PySem.W.looks_opaque X1 T.opq) (l₀ := .ref C :: bm) (fun A Q E s kp z => wpAny_bind ((PySem.W.looks_clsIn X1 hcl) A _ E s kp (wpAny_pure z))) rfl X1 hsup (I1.type.andThen (PySem.W.looks_subIn X1 T.vErr)) hxC (by decide) ?_
  have keep2 : ∀ b o, h1.get? b = some o → (h1.push (PySem.W.kxs_mw "ValueError.__init__" x)).get? b = some o := fun b o z => Heap.get?_push_of_some _ z
  have hu : (h1.push (PySem.W.kxs_mw "ValueError.__init__" x)).get? h1.objs.size = some (PySem.W.kxs_mw "ValueError.__init__" x) := Heap.get?_push_at rfl rfl
  refine PySem.W.kxs_callWith (i := "ValueError.__init__") (x := x) rfl ?_
  refine Calls.evalArgs_plain ?_
  refine Calls.spliced_cons (Calls.Constant_str (x := msg) (k := k) (pos := q 3) (Calls.spliced_nil ⟨hu, ?_⟩))
  refine mw_call T (X1.keeps keep2) (keep2 _ _ hx1) hu (show 1 ≤ sizeLine by decide) ?_
  intro h3 t3 k3' hx3
  refine hq h3 _ t3 (fun b o hb z => k3' b o hb (keep2 _ _ (k1' _ _ z))) hx3

/-- an error with fields: where it stands, its dict -/
structure ExAt (h : Heap) (x C dx : Addr) (mA : Str → Option Value) : Prop where
  ob : ∃ t1 : Addr, h.get? x = some { cls := .ref C, dict := some dx, data := .fields #[.ref t1, .none, .none, .none, .bool false, .none] }
  ns : h.Ns1 dx mA
theorem fld_first {L x t0 : Addr} {m : Str → Option Value} {f : Str} {v : Value} {q : Nat → Pos} {Q : Flow → Shared → Prop} (T : ExT prog K mg fs C fI) (hf : f ∈ fs) (X : K.In h) (kf : fd.scope.kind = .function) (ls : fd.scope.names.lookup ("self" : Str) = some .local) (lf : fd.scope.names.lookup f = some .local) (nd : (f == ("__debug__" : Str)) = false)
    (hn : h.Ns L m) (hv : m "self" = some (.ref x)) (hw : m f = some v) (hx : h.get? x = some (HandSPX.excO C t0))
    (hq : ∀ h' t' dx, (∀ b o, b ≠ x → h.get? b = some o → h'.get? b = some o) → h.objs.size ≤ dx → dx ≠ x → ExAt h' x C dx (fun y => if y = f then some v else none) → Q .next ⟨h', g, d, t', os⟩) :
    wpAny (model prog w) A (exec (fldSt f q) (callEnv fd L fI)) Q E ⟨h, g, d, t, os⟩ := by
  obtain ⟨nm, qn, N, bs, bm, sn, sub, ab, col, dd, k0, k1, k2, k3, k5, hC, hbm⟩ := T.cls
  have hcl : PySem.W.clsIn K C = some { name := nm, bases := bs, mro := .ref C :: bm, ns := N, qualname := qn, hasDict := true, slotNames := sn, subclasses := sub, abstract := ab, collection := col, hasDel := false } := by
    unfold PySem.W.clsIn
    rw [hC]
  refine plainObj_wpAny_Assign_Attribute (wpAny_Name (wpAny_loadName_local kf lf hn hw ?_) nd)
  refine wpAny_Name (wpAny_loadName_local kf ls hn hv ?_)
  refine PySem.W.set_plain X (ox := HandSPX.excO C t0) (od := none) ⟨hx, rfl, rfl, trivial⟩ T.sa ?_
  refine HandSPX.exc_osa X hx hcl (show HandSPX.refsVE (.ref C :: bm) = true from hbm) rfl (T.no f hf) ?_
  intro h' t' dx k dn dne hx' hn'
  exact hq h' t' dx k dn dne ⟨⟨t0, hx'⟩, hn'⟩
theorem fld_next {L x dx : Addr} {m m0 : Str → Option Value} {f : Str} {v : Value} {nl : List Str} {q : Nat → Pos} {Q : Flow → Shared → Prop} (T : ExT prog K mg fs C fI) (hf : f ∈ fs) (X : K.In h) (kf : fd.scope.kind = .function) (ls : fd.scope.names.lookup ("self" : Str) = some .local) (lf : fd.scope.names.lookup f = some .local) (nd : (f == ("__debug__" : Str)) = false)
    (hn : h.Ns L m) (hv : m "self" = some (.ref x)) (hw : m f = some v) (hx : ExAt h x C dx m0) (hwi : Within m0 nl) (hl : nl.length ≤ 1000)
    (hq : ∀ h' t', (∀ b o, b ≠ dx → h.get? b = some o → h'.get? b = some o) → ExAt h' x C dx (fun y => if y = f then some v else m0 y) → Q .next ⟨h', g, d, t', os⟩) :
    wpAny (model prog w) A (exec (fldSt f q) (callEnv fd L fI)) Q E ⟨h, g, d, t, os⟩ := by
  obtain ⟨nm, qn, N, bs, bm, sn, sub, ab, col, dd, k0, k1, k2, k3, k5, hC, hbm⟩ := T.cls
  have hcl : PySem.W.clsIn K C = some { name := nm, bases := bs, mro := .ref C :: bm, ns := N, qualname := qn, hasDict := true, slotNames := sn, subclasses := sub, abstract := ab, collection := col, hasDel := false } := by
    unfold PySem.W.clsIn
    rw [hC]
  obtain ⟨⟨t1, ho⟩, hns⟩ := hx
  obtain ⟨oD, es, ep, hoD, r1, r2⟩ := id hns
  have dxx : dx ≠ x := fun z => by
    rw [z, ho] at hoD
    cases hoD
    cases r1
  refine plainObj_wpAny_Assign_Attribute (wpAny_Name (wpAny_loadName_local kf lf hn hw ?_) nd)
  refine wpAny_Name (wpAny_loadName_local kf ls hn hv ?_)
  refine PySem.W.set_plain X (ox := { cls := .ref C, dict := some dx, data := .fields #[.ref t1, .none, .none, .none, .bool false, .none] }) (od := some oD) ⟨ho, rfl, rfl, hoD⟩ T.sa ?_
  refine OEX.osa_old X ho hns hwi hl hcl (show HandSPX.refsVE (.ref C :: bm) = true from hbm) rfl (T.no f hf) ?_
  intro h' t' k hn'
  exact hq h' t' k ⟨⟨t1, k x _ (Ne.symm dxx) ho⟩, hn'⟩
theorem look2 {f : Str} {a b : Value} (ns : f ≠ ("self" : Str)) : ([(("self" : Str), a), (f, b)].reverse.lookup ("self" : Str) = some a) ∧ ([(("self" : Str), a), (f, b)].reverse.lookup f = some b) := by
  have e1 : (("self" : Str) == f) = false := beq_eq_false_iff_ne.mpr ns.symm
  constructor
  · show List.lookup ("self" : Str) [(f, b), (("self" : Str), a)] = some a
    rw [List.lookup_cons, e1]
    simp [List.lookup]
  · show List.lookup f [(f, b), (("self" : Str), a)] = some b
    rw [List.lookup_cons, beq_self_eq_true]
/-- the names of one, of two fields -/
def exMap : List Str → List Value → Str → Option Value
  | f :: fs, v :: vs, y => match exMap fs vs y with
    | some u => some u
    | none => if y = f then some v else none
  | _, _, _ => none
theorem ex_init {x t0 : Addr} {v1 : Value} {f1 : Str} {mb : Str → Option Value} {R : Result → Shared → Prop} (T : ExT prog K mg [f1] C fI) (J : ExI prog K [f1] C fI fd) (X : K.In h) (G : h.Ns mainGlobals mg) (B : h.Ns builtinsNs mb) (bb : ∀ x : Str, x ≠ "__name__" → mb x = bootBuiltins x)
    (lim : h.NoLimit) (room : A.depth < recursionLimit) (hx : h.get? x = some (HandSPX.excO C t0)) (hxK : K.lookup x = none) (nd : (f1 == ("__debug__" : Str)) = false) (ns : f1 ≠ ("self" : Str)) (hb : ∀ s : Shared, K.In s.heap → BindsTo s fd ⟨[.ref x, v1], []⟩ [("self", .ref x), (f1, v1)])
    (hq : ∀ h' t' dx, (∀ b o, b ≠ x → h.get? b = some o → h'.get? b = some o) → h.objs.size ≤ dx → dx ≠ x → ExAt h' x C dx (fun y => if y = f1 then some v1 else none) → R (.ok (.ret .none)) ⟨h', g, d, t', os⟩) :
    codeAny (model prog w) A (.call (.ref fI) ⟨[.ref x, v1], []⟩) R ⟨h, g, d, t, os⟩ := by
  obtain ⟨oc, od, osl, lk⟩ := J.at_
  obtain ⟨msg, k, q, qs, hbody, hlen, hpos⟩ := J.body
  have hok := J.ok
  unfold scOk at hok
  obtain ⟨o1, hok⟩ := He.ba hok
  obtain ⟨_, hok⟩ := He.ba hok
  obtain ⟨_, hok⟩ := He.ba hok
  obtain ⟨o4, o5⟩ := He.ba hok
  have ls : fd.scope.names.lookup ("self" : Str) = some .local := of_decide_eq_true o1
  have lf : fd.scope.names.lookup f1 = some .local := of_decide_eq_true (List.all_eq_true.mp o4 f1 List.mem_cons_self)
  match qs, hlen with
  | [q1], _ =>
    refine ks_codeAny_call_defAt (binds := [("self", .ref x), (f1, v1)]) room (X _ _ lk) rfl lim (PySem.W.codeRec_of X J.rec_) hbody (hb _ X) (fun y hy => of_decide_eq_true (List.all_eq_true.mp o5 y hy)) (fun y hy => ?_) ?_ J.co J.gen J.kind
    · rcases List.mem_cons.mp hy with e | hy
      · rw [e]; exact ls
      · rw [List.mem_singleton.mp hy]; exact lf
    · intro h0 hn0 k0
      have Lx : h.objs.size ≠ x := Nat.ne_of_gt (Heap.lt_size hx)
      refine ks_wpAt_execs_cons (sup_step T J (X.keeps k0) (G.keeps k0) (B.keeps k0) bb hpos hn0 (look2 ns).1 (k0 _ _ hx) ?_)
      intro h1 t1 tt k1 hx1
      have k1K : ∀ b o, K.lookup b = some o → b ≠ x := fun b o e z => by rw [z, hxK] at e; cases e
      have X1 : K.In h1 := fun b o e => k1 b o (k1K b o e) (k0 _ _ (X b o e))
      obtain ⟨oL, es, ep, hoL, r1, r2⟩ := hn0
      have hn1 : h1.Ns h.objs.size _ := ⟨oL, es, ep, k1 _ _ Lx hoL, r1, r2⟩
      refine wpAt_of_wpAny (wpAny_execs_cons (fld_first T List.mem_cons_self X1 J.kind ls lf nd hn1 (look2 ns).1 (look2 ns).2 hx1 ?_))
      intro h2 t2 dx k2 dn dne ex
      have hsz : h.objs.size ≤ h1.objs.size := Nat.le_of_lt (Heap.lt_size (k1 _ _ Lx hoL))
      exact wpAny_execs_nil (hq h2 t2 dx (fun b o hb e => k2 b o hb (k1 b o hb (k0 b o e))) (Nat.le_trans hsz dn) dne ex)
end
end WL
set_option Elab.async false
set_option linter.all false
set_option maxRecDepth 100000
set_option maxHeartbeats 4000000
namespace WL
open PySem PySem.Spec PyProof.Rows L2
/-! ### raise X(e), X such a class of one field -/
section
variable {X : Cx} {f : Str} {C fI : Addr} {fd : FuncData}
def tMkEx (C : Addr) (f : Str) (ta : TA) : L2.St → Hp → XK → Prop := fun σ H Q => ta σ H fun vs H1 => ∃ v, vs = [v] ∧ ∀ d, H1 d = none → Q (.ref C) (some d) (upd H1 d (.xd [(f, v)]))
theorem relO_one {f : Str} {v : V} {u : Value} (r : RelV v u) (y : Str) : RelO ([(f, v)].lookup y) (if y = f then some u else none) := by
  rw [lookup_put]
  by_cases e : y = f
  · rw [if_pos e, if_pos e]
    exact r
  · rw [if_neg e, if_neg e]
    exact True.intro
theorem pmk_ex {x : Str} {a : Expr} {ta : TA} {p pos : Pos} {k : Nat} (T : ExT X.prog X.K X.mg [f] C fI) (J : ExI X.prog X.K [f] C fI fd) (hr : Room k X.A) (gC : X.mg x = some (.ref C)) (nd : (f == ("__debug__" : Str)) = false) (ns : f ≠ ("self" : Str))
    (hb : ∀ (s : Shared) (u v : Value), X.K.In s.heap → BindsTo s fd ⟨[u, v], []⟩ [(("self" : Str), u), (f, v)]) (ha : PA X [a] ta) (hg : Gl X x := by rfl) (hd : (x == ("__debug__" : Str)) = false := by decide)
    (h1 : starEach (a :: []) X.env = (false, eval a X.env) :: starEach [] X.env := by rfl) (h2 : (backTo pos (starEach [] X.env)).any (·.1) = false := by rfl) :
    PMk X (.Call (.Name x p) [a] [] pos) (tMkEx C f ta) := by
  intro pins s σ H Q I h
  refine wpAny_Call_Name_kw (ld_glob I hg gC ?_ hd)
  refine PySem.W.callWith_K (h₀ := X.base) I.ok.mod.kin T.kC (thn (ha.run pos pins s σ H _ I h) ?_) h1 h2
  rintro us s1 ⟨vs, H1, I1, r1, v, ev, q1⟩
  subst ev
  refine ⟨I1.kIn, ?_⟩
  obtain ⟨u, rfl, ru⟩ := Vals.one r1
  obtain ⟨nm, qn, N, bs, bm, sn, sub, ab, col, dd, k0, k1, k2, k3, k5, hC, hbm⟩ := T.cls
  have lim := I1.nolimit
  have glo := I1.ok.mod.glob.keeps I1.bk
  obtain ⟨mb, bl, bb⟩ := I1.ok.mod.blt
  have bl' := bl.keeps I1.bk
  have XK := I1.kIn
  have fresh : ∀ b : Addr, s1.heap.objs.size ≤ b → H1 b = none := fun b hb => I1.hok.fresh hb
  obtain ⟨hp, g, dr, tk, os⟩ := s1
  show wpAny _ _ (call (.ref C) [u]) _ _ _
  have up : ∀ b o, hp.get? b = some o → ((hp.push (PySem.W.kdv_tup [u])).push (HandSPX.excO C hp.objs.size)).get? b = some o := fun b o e => Heap.get?_push_of_some _ (Heap.get?_push_of_some _ e)
  have at1 : ((hp.push (PySem.W.kdv_tup [u])).push (HandSPX.excO C hp.objs.size)).get? (hp.objs.size + 1) = some (HandSPX.excO C hp.objs.size) := by heap_get
  have nK : X.K.lookup (hp.objs.size + 1) = none := by
    cases e : X.K.lookup (hp.objs.size + 1) with
    | none => rfl
    | some o => exact absurd (Nat.lt_of_succ_lt (Heap.lt_size (XK _ _ e))) (Nat.lt_irrefl _)
  refine wpAny_call (HandSPX.call_own F.excBase_ValueError (fun Y => HandSPX.refsVE_contains Y bm hbm) (XK _ _ hC) (PySem.W.looks_findIn XK T.iC) (fun self => PySem.W.bind_fn XK self T.tI) (show 1 ≤ sizeLine by decide) ?_)
  refine ex_init T J (XK.keeps up) (glo.keeps up) (bl'.keeps up) bb (lim.keeps up) ?_ at1 nK nd ns (fun s hs => hb s _ _ hs) ?_
  · have := hr.dp
    rw [make_depth]
    omega
  intro h' t' dx kp dn dne ex
  refine ⟨rfl, ?_⟩
  show MkP X pins σ Q (.ref (hp.objs.size + 1)) _
  obtain ⟨⟨t1, he⟩, hns⟩ := ex
  obtain ⟨G', g1, g2⟩ := restrict h' fun b => decide (b ≠ hp.objs.size + 1)
  have gk : ∀ b, b ≠ hp.objs.size + 1 → G'.get? b = h'.get? b := fun b hb => g1 b (decide_eq_true hb)
  have ge : G'.get? (hp.objs.size + 1) = none := g2 _ (by simp)
  have old : ∀ b o, hp.get? b = some o → G'.get? b = some o := fun b o e => by
    have nb : b ≠ hp.objs.size + 1 := Nat.ne_of_lt (Nat.lt_succ_of_lt (Heap.lt_size e))
    rw [gk b nb]
    exact kp b o nb (up b o e)
  have dsz : hp.objs.size ≤ dx := by
    have e : hp.objs.size + 1 + 1 ≤ dx := by
      have z := dn
      rw [Heap.size_push, Heap.size_push] at z
      exact z
    exact Nat.le_trans (Nat.le_trans (Nat.le_succ _) (Nat.le_succ _)) e
  have ob : ObjOk X.prog X.w (upd H1 dx (.xd [(f, v)])) G' dx (.xd [(f, v)]) := ⟨_, hns.at (fun o e => (gk dx dne).trans e), fun y => relO_one ru y⟩
  have Jv : Inv X pins σ (upd H1 dx (.xd [(f, v)])) ⟨G', g, dr, t', os⟩ := I1.laid (t' := t') old dsz ob
  refine ⟨hp.objs.size + 1, _, _, ⟨G', g, dr, t', os⟩, _, .ref C, some dx, rfl, Jv, fun b o e => ?_, ge, he, ⟨rfl, rfl⟩, rfl, rfl, ?_, rfl, Jv.bare, raises_own T.exC T.tyC, q1 dx (fresh dx dsz)⟩
  · by_cases hb : b = hp.objs.size + 1
    · have e' : G'.get? b = some o := e
      rw [hb, ge] at e'
      cases e'
    · exact (gk b hb).symm.trans e
  · rw [upd_ne (Ne.symm dne)]
    exact fresh _ (Nat.le_succ _)
end
/-! ### try: body except X as n: suite, the error kept behind it -/
/-- an error that is held: its class, its own dict -/
def held (a : Addr) (cls : Value) (d : Option Addr) : Heap → Prop := fun h => ∃ (o : Obj) (vs : Array Value), h.get? a = some o ∧ o.cls = cls ∧ o.dict = d ∧ o.data = .fields vs
def Err (a : Addr) (cls : Value) (d : Option Addr) : HO := .ext (held a cls d)
theorem err_ok {P : Program} {w : World} {H : Hp} {h : Heap} {a : Addr} {cls : Value} {d : Option Addr} {o : Obj} {vs : Array Value} (e : h.get? a = some o) (z : Zc cls d o) (f : o.data = .fields vs) : ObjOk P w H h a (Err a cls d) :=
  ⟨⟨o, vs, e, z.1, z.2, f⟩, ⟨o, e⟩, fun _ _ ⟨o, vs, e, r⟩ k => ⟨o, vs, k _ e, r⟩⟩
theorem err_at {P : Program} {w : World} {H : Hp} {h : Heap} {a : Addr} {cls : Value} {d : Option Addr} (hok : HOk P w H h) (e : H a = some (Err a cls d)) : held a cls d h := by
  have x : ObjOk P w H h a (.ext (held a cls d)) := hok a _ e
  exact x.1
section
variable {X : Cx} {pins : List (Addr × Obj)} {σ : L2.St} {H : Hp} {s : Shared}
/-- an error that was new and is pinned may be tracked -/
theorem inv_keepErr {a : Addr} {oe : Obj} {vs : Array Value} {cls : Value} {d : Option Addr} (I : Inv X ((a, oe) :: pins) σ H s) (z : Zc cls d oe) (f : oe.data = .fields vs) (h0 : X.s_0.heap.get? a = none) (hp : ∀ p ∈ X.pn ++ pins, p.1 ≠ a) :
    Inv X pins σ (upd H a (Err a cls d)) s := by
  obtain ⟨e, n, nL, nF, nc⟩ := I.pin (a, oe) (List.mem_append_right _ List.mem_cons_self)
  have ne0 : ∀ {b : Addr} {o : Obj}, X.s_0.heap.get? b = some o → b ≠ a := fun {b o} q z => by rw [z, h0] at q; cases q
  have nes : ∀ {b : Addr} {o : HO}, H b = some o → b ≠ a := fun {b o} q => ne_of_none q n
  refine ⟨I.ok, I.os, I.bare, ⟨I.base.keep, I.base.slot, fun b o q n' hx => ?_, I.base.there, fun b xs q => ?_, fun b o u q => ?_, fun b ps q => ?_⟩, I.loc, I.cell, ?_, fun x c hc => ?_, fun p hp' => ?_, fun b u q => ?_, I.len⟩
  · rw [upd_ne (ne0 q)]
    exact I.base.free b o q n' hx
  · have z := I.base.tups b xs q
    rw [upd_ne (nes z)]
    exact z
  · have z := I.base.frzs b o u q
    rw [upd_ne (nes z)]
    exact z
  · obtain ⟨m, z⟩ := I.base.tbls b ps q
    exact ⟨m, by rw [upd_ne (nes z)]; exact z⟩
  · rw [upd_ne (Ne.symm nL)]
    exact I.free
  · have hca : c ≠ a := fun z => by
      obtain ⟨v, o, q1, q2⟩ := I.cell x c hc
      rw [z, e] at q1
      cases q1
      exact nc v q2
    rw [upd_ne hca]
    exact I.freeC x c hc
  · have hm : p ∈ X.pn ++ ((a, oe) :: pins) := (List.mem_append.mp hp').elim (fun z => List.mem_append_left _ z) fun z => List.mem_append_right _ (List.mem_cons_of_mem _ z)
    obtain ⟨q1, q2, q3⟩ := I.pin p hm
    exact ⟨q1, by rw [upd_ne (hp p hp')]; exact q2, q3⟩
  · by_cases hb : b = a
    · subst hb
      rw [upd_same] at q
      cases q
      exact err_ok e z f
    · rw [upd_ne hb] at q
      exact (I.hok b u q).stay (fun _ _ _ y => y) (fun c y => by rw [upd_ne (nes y)]; exact y) fun c xs y => by rw [upd_ne (nes y)]; exact y
end
/-- what the clause wishes: it takes every error of the body; behind the suite the error is tracked -/
def wKept (K : PySem.W.Frag) (c : Value) (i : Nat) (ts : Addr → Value → Option Addr → TS) (D : Ends) : WX := fun cls d σ H =>
  PySem.W.exmOne K cls c = some true ∧ ∀ a, H a = none → ts a cls d { nx := fun σ' H' => H' a = none → D.nx (σ'.set i none) (upd H' a (Err a cls d)), rt := fun _ _ => False } (σ.set i (some (.ref a))) H
section
variable {X : Cx} {x n : Str} {c : Value} {i : Nat} {body suite : List Stmt} {np pos pos' : Pos} {tb : WX → TS} {ts : Addr → Value → Option Addr → TS} {b0 : Stmt}
theorem ps_try_kept (hs : X.stack = X.env :: X.outer) (hf : X.env.frame = some X.env.locals) (hex : X.ex = []) (hN : X.N.Nodup) (hi : X.N[i]? = some n) (hln : X.env.kindOf n = some .local) (hc : Names X x c)
    (hb : ∀ (W : WX) (pn : List (Addr × Obj)) (xe : Value → Shared → Prop), Takes (X.tr pn xe) W → PassesOwn (model X.prog X.w) X.A X.env xe → PSs (X.tr pn xe) body (tb W))
    (hsu : ∀ (a : Addr) (oe : Obj) (cls : Value) (d : Option Addr) (pn : List (Addr × Obj)), Zc cls d oe → (∃ vs, oe.data = .fields vs) → PSs (X.suite a ((a, oe) :: pn)) (b0 :: suite) (ts a cls d)) :
    PS X (.Try body [.ExceptHandler (some (.Name x np)) (some n) (b0 :: suite) pos'] [] [] pos) (fun D σ H => tb (wKept X.K c i ts D) D σ H) := by
  constructor
  intro pins s σ H D I h
  have ok := I.ok
  have fr : X.A.frames = some (X.env :: X.outer) := ok.frames.trans (congrArg some hs)
  refine wpAny_Try_except (wpAny_mono ((hb (wKept X.K c i ts D) (X.pn ++ pins) _ ?_ PassesOwn.looking).run [] s σ H D (I.toTry _) h) ?_ fun _ _ z => z)
  rotate_left
  · -- nothing was raised
    intro f s1 hsp
    match f, hsp with
    | .next, ⟨_, _, J, q⟩ => exact wpAny_execs_nil ⟨_, _, J.ofTry ok, q⟩
    | .brk, ⟨_, _, J, q⟩ => exact ⟨_, _, J.ofTry ok, q⟩
    | .cont, ⟨_, _, J, q⟩ => exact ⟨_, _, J.ofTry ok, q⟩
    | .ret _, ⟨_, _, _, J, r, q⟩ => exact ⟨_, _, _, J.ofTry ok, r, q⟩
  -- an error came
  rintro u s' ⟨a, B, sI, pl, σ', H', cls, d, rfl, J', nb, up, sky, na, os, ag, hm, hyes⟩
  have J : Inv X pins σ' H' sI := J'.ofTry ok
  rw [show (X.tr (X.pn ++ pins) _).stack = X.env :: X.outer from hs] at sky
  refine Sky.land Zc.steady fr hf sky ?_
  intro h3 fl3 up3
  have J3 : Inv X pins σ' H' { s' with heap := h3 } := J.landed nb fl3.1 (up.trans up3) os ag
  obtain ⟨o3, v3, e3, z3, d3⟩ := fl3.there
  have out : a ∉ frs (X.env :: X.outer) := fun hm => by
    obtain ⟨_, o', e', hnf⟩ := fl3.2.2.1.mem hm
    rw [e3] at e'
    cases e'
    exact hnf _ d3
  have nL : a ≠ X.env.locals := fun z => out (List.mem_filterMap.mpr ⟨X.env, List.mem_cons_self, by rw [hf, z]⟩)
  have nF : a ∉ X.fs := fun hm => by
    obtain ⟨en, he, q⟩ := List.mem_filterMap.mp hm
    exact out (List.mem_filterMap.mpr ⟨en, List.mem_cons_of_mem _ he, q⟩)
  -- it is new
  have newI : sI.heap.get? a = none := by
    cases q : sI.heap.get? a with
    | none => rfl
    | some o =>
      have z := nb a o q (by rw [show (X.tr (X.pn ++ pins) _).stack = X.env :: X.outer from hs]; exact out)
      rw [fl3.2.1] at z
      cases z
  have new0 : X.s_0.heap.get? a = none := by
    cases q : X.s_0.heap.get? a with
    | none => rfl
    | some o =>
      obtain ⟨o', z⟩ := J.base.there a o q (by rw [hex]; exact List.not_mem_nil)
      rw [newI] at z
      cases z
  have newP : ∀ p ∈ X.pn ++ pins, p.1 ≠ a := fun p hp z => by
    have y := (J.pin p hp).1
    rw [z, newI] at y
    cases y
  have S3 := J3.suite e3 d3 na nL nF
  refine wpAny_handleBy_cons (codeAny_handlers_test ?_) (fun q => nomatch q)
  have look : PySem.W.Looks (model X.prog X.w) h3 (typeOf (.ref a)) cls := fun A Q E s k q => wpAny_typeOf_ref (k _ _ e3) (by rw [z3.1]; exact q)
  have lm := PySem.W.exm_one (M := model X.prog X.w) J3.kIn look hm
  have tst : ∀ {Q : Value → Shared → Prop} {E : Value → Shared → Prop}, Q c { s' with heap := h3 } → wpAny (model X.prog X.w) (X.A.mark (some (.ref a))) (eval (.Name x np) X.env) Q E { s' with heap := h3 } := by
    intro Q E q
    obtain ⟨hg, hdbg, hm | ⟨hm, hv, hnn⟩⟩ := hc
    · exact ld_glob (X := X.suite a ((a, o3) :: (X.pn ++ pins))) S3 hg hm q hdbg
    · exact ld_blt (X := X.suite a ((a, o3) :: (X.pn ++ pins))) S3 hg hm hv q hnn hdbg
  refine tst (lm.here (codeAny_handlers_suite_as (HandSPX.lands_againZ fl3 ?_)))
  intro h4 fl4 up4
  have J4 : Inv X pins σ' H' { s' with heap := h4 } := J.landed nb fl4.1 ((up.trans up3).trans up4) os ag
  obtain ⟨o4, v4, e4, z4, d4⟩ := fl4.there
  refine store_ok (X := X.suite a ((a, o4) :: (X.pn ++ pins))) (v := .ref a) (J4.suite e4 d4 na nL nF) hN hi (.inl hln) rfl ?_ (.inr hln)
  intro s5 S5
  refine wpAny_mono ((hsu a o4 cls d (X.pn ++ pins) z4 ⟨_, d4⟩).run [] s5 _ H' _ S5 (hyes a na)) ?_ fun _ _ z => z.elim
  intro f s6 hsp
  match f, hsp with
  | .brk, ⟨_, _, _, q⟩ => exact q.elim
  | .cont, ⟨_, _, _, q⟩ => exact q.elim
  | .ret _, ⟨_, _, _, _, _, q⟩ => exact q.elim
  | .next, ⟨σ6, H6, S6, q6⟩ =>
    have P6 : Inv X ((a, o4) :: pins) σ6 H6 s6 :=
      ⟨ok, S6.os, S6.bare, S6.base, S6.loc, S6.cell, S6.free, S6.freeC, fun p hp => S6.pin p (by
        refine List.mem_append_left _ ?_
        rcases List.mem_append.mp hp with hp | hp
        · exact List.mem_cons_of_mem _ (List.mem_append_left _ hp)
        · rcases List.mem_cons.mp hp with hp | hp
          · rw [hp]; exact List.mem_cons_self
          · exact List.mem_cons_of_mem _ (List.mem_append_right _ hp)), S6.hok, S6.len⟩
    have n6 : H6 a = none := (S6.pin (a, o4) (List.mem_append_left _ List.mem_cons_self)).2.1
    refine gone_ok P6 hN hi hln ?_
    intro s7 J7
    exact ⟨_, _, inv_keepErr J7 z4 d4 new0 newP, q6 n6⟩
end
/-- error.f, error a held one -/
def tErrF (C : Addr) (f : Str) (te : TE) : TE := fun σ H Q => te σ H fun x H1 => ∃ a d fs v, x = .ref a ∧ H1 a = some (Err a (.ref C) (some d)) ∧ H1 d = some (.xd fs) ∧ fs.lookup f = some v ∧ Q v H1
theorem pe_errf {X : Cx} {C : Addr} {e : Expr} {te : TE} {pos : Pos} {f : Str} (T : XfC X.K C) (no : PySem.W.findIn X.K (.ref C) f = some none) (he : PE X e te) (hb : attributeBase e f X.env (eval e X.env) = eval e X.env := by rfl) :
    PE X (.Attribute e f pos) (tErrF C f te) := by
  constructor
  intro pins s σ H Q I h
  refine attr_of hb (thn (he.run pins s σ H _ I h) ?_)
  rintro u s1 ⟨x, H1, I1, rx, a, d, fs, v, ex, ea, ed, l, q⟩
  subst ex
  cases rx
  obtain ⟨o, vs, eo, oc, od, of⟩ := err_at I1.hok ea
  obtain ⟨mA, hns, hr⟩ := (I1.hok d _ ed : ObjOk X.prog X.w H1 s1.heap d (.xd fs))
  obtain ⟨oD, hoD, hl⟩ := lookIn_ns hns
  obtain ⟨u, hu, ru⟩ := RelO.some_of (v := v) (o := mA f) (by rw [← l]; exact hr f)
  have Ji : PySem.W.InstAt s1.heap a o C (some oD) := ⟨eo, oc, by unfold PySem.W.notCls; rw [of], by rw [od]; exact hoD⟩
  exact HandSPX.exc_get I1.kIn Ji T.ga T.gg T.exC (PySem.W.findObj_own T.hdC no rfl (by rw [hl, hu])) (handed_of ru) ⟨v, H1, I1.tok _, ru, q⟩
end WL
set_option Elab.async false
set_option linter.all false
set_option maxRecDepth 100000
set_option maxHeartbeats 4000000
namespace WL
open PySem PySem.Spec PyProof.Rows L2
/-! ### what kind of thing a value is -/
def Ty (H : Hp) : V → Value → Prop
  | .non, t => t = .type "NoneType"
  | .bl _, t => t = .type "bool"
  | .int _, t => t = .type "int"
  | .str _, t => t = .type "str"
  | .ref p, t => (t = .type "list" ∧ ∃ xs, H p = some (.lst xs)) ∨ (t = .type "tuple" ∧ ∃ xs, H p = some (.tup xs)) ∨ (t = .type "dict" ∧ ∃ kvs, H p = some (.dK kvs)) ∨ ∃ C dx fs, t = .ref C ∧ H p = some (.ins C dx fs)
  | _, _ => False
section
variable {X : Cx} {pins : List (Addr × Obj)} {σ : L2.St} {H : Hp} {s : Shared}
theorem ty_looks {x : V} {u t : Value} (I : Inv X pins σ H s) (r : RelV x u) (ty : Ty H x t) : PySem.W.Looks (model X.prog X.w) s.heap (typeOf u) t := by
  cases x with
  | non =>
    cases r
    cases (show t = .type "NoneType" from ty)
    exact .now
  | bl b =>
    cases r
    cases (show t = .type "bool" from ty)
    exact .now
  | int i =>
    obtain ⟨tk, rfl⟩ := r
    cases (show t = .type "int" from ty)
    exact .now
  | str z =>
    obtain ⟨tk, rfl⟩ := r
    cases (show t = .type "str" from ty)
    exact .now
  | ref p =>
    cases r
    rcases ty with ⟨rfl, xs, h⟩ | ⟨rfl, xs, h⟩ | ⟨rfl, kvs, h⟩ | ⟨C, dx, fs, rfl, h⟩
    · obtain ⟨_, its, n, _, e⟩ := I.hok p _ h
      exact fun A Q E s k q => wpAny_typeOf_ref (k _ _ e) q
    · obtain ⟨_, its, _, ⟨o, e, c, n, d⟩⟩ := I.hok p _ h
      exact fun A Q E s k q => wpAny_typeOf_ref (k _ _ e) (by rw [c]; exact q)
    · obtain ⟨_, _, _, _, o, _, _, e, ex, _⟩ := I.hok p _ h
      exact fun A Q E s k q => wpAny_typeOf_ref (k _ _ e) (by rw [ex.1]; exact q)
    · obtain ⟨_, J, _⟩ := ins_get I.hok h
      obtain ⟨_, J, _⟩ := J.look
      exact J.type
  | byt b => exact (show False from ty).elim
  | flt b => exact (show False from ty).elim
  | ty n => exact (show False from ty).elim
end
/-! ### == and != by a class's own __eq__ -/
section
variable {X : Cx} {C g : Addr} {fd : FuncData} {ps : List Str} {sp : Sp} {k : Nat}
/-- the own __eq__ gives a truth value -/
def rOwnEq (K : PySem.W.Frag) (C : Addr) (sp : Sp) (f : Bool → Bool) : R2 := fun x y H Q => ∃ a dx fs t, x = .ref a ∧ H a = some (.ins C dx fs) ∧ Ty H y t ∧ PySem.W.notFirst K C t = true ∧ sp [x, y] H (fun z H' => ∃ b, z = .bl b ∧ Q (.bl (f b)) H') E0
theorem eq_run {pins : List (Addr × Obj)} {σ : L2.St} {H : Hp} {s : Shared} {A : Around} {a : Addr} {y : V} {u : Value} {Q : VK} {R : Value → Shared → Prop} (F : FnOk X.prog X.w X.K X.mg X.base CX0 k g fd ps sp) (hb : Binds X.K fd ps []) (hr : Room k A) (hf : A.frames = X.A.frames)
    (I : Inv X pins σ H s) (ry : RelV y u) (h : sp [.ref a, y] H Q E0) (hq : ∀ v s', EP X pins σ Q v s' → R v s') : wpAny (model X.prog X.w) A (call (.ref g) [.ref a, u]) R X.xe s := by
  have e1 := I.env0
  have e0 : Env0 X.prog X.w X.K X.mg X.base A X.stack s H := ⟨hf.trans e1.frames, e1.mod, e1.bs, e1.bsz, e1.funs, e1.frf, e1.hok, e1.bare⟩
  have el : 2 = ps.length := F.len _ _ _ _ h
  refine wpAny_call (codeAny_mono (F.run A X.stack s H ⟨[.ref a, u], []⟩ [.ref a, u] [.ref a, y] Q E0 hr e0 (by simpa using hb s [.ref a, u] I.kIn (by simpa using el)) (.cons rfl (.cons ry .nil)) h) ?_)
  intro r s' z
  match r, z with
  | .error _, z => exact False.elim z
  | .ok (.ret v), z => exact hq v s' (I.after z)
  | .ok .next, z => exact False.elim z
  | .ok .brk, z => exact False.elim z
  | .ok .cont, z => exact False.elim z
theorem op_ownEq (F : FnOk X.prog X.w X.K X.mg X.base CX0 k g fd ps sp) (hb : Binds X.K fd ps []) (hr : Room k X.A) (he : PySem.W.findIn X.K (.ref C) "__eq__" = some (some (.ref g))) (hfn : PySem.W.isFn X.K (.ref g) = true) : OpR X (compareOp .Eq) (rOwnEq X.K C sp id) := by
  intro pins s σ H x y v u Q I rx ry h
  obtain ⟨a, dx, fs, t, ex, ea, ty, hn, q⟩ := h
  subst ex
  cases rx
  obtain ⟨_, J, _⟩ := ins_get I.hok ea
  obtain ⟨_, J, _⟩ := J.look
  obtain ⟨m, fr⟩ := I.fr
  refine PySem.W.cmp_K (op := .Eq) hr.units0 fr I.ok.mod.kin J (ty_looks I ry ty) hn he hfn ?_
  refine eq_run F hb hr rfl I ry q ?_
  rintro w s' ⟨z, H', I', rz, b, ez, qz⟩
  subst ez
  cases rz
  exact ⟨.bl b, H', I', rfl, qz⟩
theorem op_ownNe (Fe : FnOk X.prog X.w X.K X.mg X.base CX0 k g fd ps sp) (hb : Binds X.K fd ps []) (hr : Room (k + 1) X.A) (he : PySem.W.findIn X.K (.ref C) "__eq__" = some (some (.ref g))) (hfn : PySem.W.isFn X.K (.ref g) = true)
    (hne : PySem.W.findIn X.K (.ref C) "__ne__" = some (some (.builtin "object.__ne__"))) (hob : PySem.W.subIn X.K (.ref C) (.type "object") = some true) : OpR X (compareOp .NotEq) (rOwnEq X.K C sp not) := by
  intro pins s σ H x y v u Q I rx ry h
  obtain ⟨a, dx, fs, t, ex, ea, ty, hn, q⟩ := h
  subst ex
  cases rx
  obtain ⟨_, J, _⟩ := ins_get I.hok ea
  obtain ⟨_, J, _⟩ := J.look
  have XK := I.kIn
  have hu := hr.units
  -- the built-in's body: the own __eq__, turned
  have body : wpAny (model X.prog X.w) X.A.in1 (Builtin.«object.__ne__» ⟨[.ref a, u], []⟩) (fun fin s' => ∃ b, fin = .done (.ret (.bool b)) ∧ EP X pins σ Q (.bool b) s') X.xe s := by
    unfold Builtin.«object.__ne__»
    refine wpAny_bind (wpAny_pure ?_)
    refine wpAny_bind (wpAny_cRoomFor (by show X.A.units + 1 < cLine; omega) ?_)
    refine wpAny_bind (PySem.W.ifBound_K XK J he hfn (eq_run Fe hb hr.in1 rfl I ry q ?_))
    rintro w s' ⟨z, H', I', rz, b, ez, qz⟩
    subst ez
    cases rz
    show wpAny _ _ (do ret (.bool (!(← truthy (.bool b))))) _ _ _
    refine wpAny_bind (wpAny_truthy_bool (wpAny_pure ⟨!b, rfl, .bl (!b), H', I', rfl, qz⟩))
  have one : wpAny (model X.prog X.w) X.A (tryCompare (.ref a) "__ne__" u) (fun r s' => ∃ w, r = some w ∧ EP X pins σ Q w s') X.xe s := by
    unfold tryCompare
    refine wpAny_bind ?_
    simp only [callSpecialIfBound?, bindSpecialIfBound?]
    refine wpAny_holding (wpAny_bind (wpAny_bind (wpAny_bind (J.type.here ((PySem.W.looks_findIn XK hne).here ?_)))))
    have fin : wpAny (model X.prog X.w) X.A (call (.builtin "object.__ne__") ([.ref a] ++ [u]) >>= fun v => pure (some v)) (fun r s' => wpAny (model X.prog X.w) X.A (match r with | some .notImplemented | none => pure none | some v => pure (some v)) (fun r s' => ∃ w, r = some w ∧ EP X pins σ Q w s') X.xe s') X.xe s := by
      refine wpAny_bind (wpAny_call (codeAny_call_builtin F.cmp_object.ne.plain F.cmpEntry_ne (PySem.W.check_slot F.cmpKind_ne F.cmpSplit_ne (J.type.andThen (PySem.W.looks_subIn XK hob)) (F.cmpArgs_ne _ _) (wpAny_mono body ?_ fun _ _ z => z))))
      rintro fin s' ⟨b, rfl, z⟩
      exact wpAny_pure (wpAny_pure ⟨_, rfl, z⟩)
    have bd : bindSpecial (.builtin "object.__ne__") (.ref a) = pure (.builtin "object.__ne__", [.ref a]) := F.cmp_object.ne.bind _
    refine wpAny_bind (wpAny_askSetting (wpAny_ite ?_))
    split
    · exact wpAny_bind (wpAny_of_eq bd (wpAny_pure fin))
    · exact wpAny_tryCatch (wpAny_bind (wpAny_of_eq bd (wpAny_pure fin)))
  show wpAny _ _ (richCompare .NotEq (.ref a) u) _ _ _
  unfold richCompare
  simp only [oneThing_ref]
  refine wpAny_holding (wpAny_bind (wpAny_cRoomFor (by omega) ?_))
  refine wpAny_bind (J.type.here (wpAny_bind ((ty_looks I ry ty).here ?_)))
  split
  · rename_i c
    have e : PySem.W.subIn X.K t (.ref C) = some false := by
      rcases Bool.or_eq_true_iff.mp hn with e | e
      · rw [beq_iff_eq.mp e] at c
        simp at c
      · exact beq_iff_eq.mp e
    refine wpAny_bind ((PySem.W.looks_subIn XK e).here ?_)
    simp only [Bool.false_eq_true, if_false]
    refine wpAny_bind (wpAny_mono one ?_ fun _ _ z => z)
    rintro r s' ⟨w, rfl, z⟩
    exact wpAny_pure z
  · refine wpAny_bind (wpAny_pure ?_)
    simp only [Bool.false_eq_true, if_false]
    refine wpAny_bind (wpAny_mono one ?_ fun _ _ z => z)
    rintro r s' ⟨w, rfl, z⟩
    exact wpAny_pure z
end
end WL
set_option Elab.async false
set_option linter.all false
set_option maxRecDepth 100000
set_option maxHeartbeats 4000000
namespace WL
open PySem PySem.Spec PyProof.Rows L2
section
variable {X : Cx} {CX : CXT} {k : Nat} {f C : Addr} {fd : FuncData} {ps : List Str} {sp : Sp} {m : Str} {e o : Expr} {es : List Expr} {ta : TE} {t : TA} {pos apos : Pos}
/-- len(o), o of a class with its own __len__ -/
def rLenOwn (C : Addr) (sp : Sp) : List V → Hp → VK → Prop := fun vs H Q => ∃ a dx fs, vs = [.ref a] ∧ H a = some (.ins C dx fs) ∧ sp [.ref a] H (fun z H' => ∃ n : Int, z = .int n ∧ (0 ≤ n ∧ n < 2 ^ 63) ∧ Q (.int n) H') E0
theorem call_lenOwn (Fl : FnOk X.prog X.w X.K X.mg X.base CX0 k f fd ps sp) (hb : Binds X.K fd ps []) (hr : Room (k + 1) X.A) (hl : PySem.W.findIn X.K (.ref C) "__len__" = some (some (.ref f))) (hfn : PySem.W.isFn X.K (.ref f) = true) : CallR X (.builtin "len") (rLenOwn C sp) := by
  intro pins s σ H vs us Q I r h
  obtain ⟨a, dx, fs, e, ea, q⟩ := h
  subst e
  obtain ⟨u, rfl, ru⟩ := Vals.one r
  cases ru
  obtain ⟨_, J, _⟩ := ins_get I.hok ea
  obtain ⟨_, J, _⟩ := J.look
  obtain ⟨m, fr⟩ := I.fr
  have e1 := I.env0
  have e0 : Env0 X.prog X.w X.K X.mg X.base X.A.in1 X.stack s H := e1.in1
  have el : 1 = ps.length := Fl.len _ _ _ _ q
  refine PySem.W.len_K fr I.ok.mod.kin J hl hfn ?_
  refine wpAny_call (codeAny_mono (Fl.run X.A.in1 X.stack s H ⟨[.ref a], []⟩ [.ref a] [.ref a] _ E0 hr.in1 e0 (by simpa using hb s [.ref a] I.kIn (by simpa using el)) (.cons rfl .nil) q) ?_)
  intro res s' z
  match res, z with
  | .error _, z => exact False.elim z
  | .ok .next, z => exact False.elim z
  | .ok .brk, z => exact False.elim z
  | .ok .cont, z => exact False.elim z
  | .ok (.ret v), z =>
    obtain ⟨y, H', I', ry, n, ey, hn, qn⟩ := I.after z
    subst ey
    obtain ⟨tk, rfl⟩ := ry
    exact ⟨hn, .int n, H', I'.tok _, ⟨_, rfl⟩, qn⟩
/-- o.m(e, ..) in a try's body: the wish of errors may speak of the slots -/
def tMethS (C : Addr) (m : Str) (sp : Sp) (E : L2.St → XK) (ta : TE) (t : TA) : TE := fun σ H Q => ta σ H fun x H1 => ∃ a dx fs, x = .ref a ∧ H1 a = some (.ins C dx fs) ∧ fs.lookup m = none ∧ t σ H1 fun vs H2 => sp (x :: vs) H2 Q (E σ)
theorem pe_methS {E : L2.St → XK} {pl : Sem Bool} (he : PE X o ta) (c : Cls X.K C) (hm : Meth X.K C m f) (Fm : FnOk X.prog X.w X.K X.mg X.base CX k f fd ps sp) (hr : Room k X.A) (hb : Binds X.K fd ps []) (hx : ∀ σ, PassesAt CX X σ (E σ)) (ha : PA X (e :: es) t)
    (h1 : starEach (e :: es) X.env = (false, eval e X.env) :: starEach es X.env := by rfl) (h2 : (backTo pos (starEach es X.env)).any (·.1) = false := by rfl)
    (ht : eval (.Call (.Attribute o m apos) (e :: es) [] pos) X.env = (do
      let ov ← eval o X.env
      standAt apos.atName
      let (f, first) ← holding [ov] (getMethod ov m pl)
      callWith pos f first (backTo pos (starEach (e :: es) X.env)) (backToKw pos (keywordEach [] X.env))) := by rfl) :
    PE X (.Call (.Attribute o m apos) (e :: es) [] pos) (tMethS C m sp E ta t) := by
  constructor
  intro pins s σ H Q I h
  refine PySem.W.methodCall_KW (pl := pl) (thn (he.run pins s σ H _ I h) ?_) ht
  rintro u s1 ⟨x, H1, I1, rx, a, dx, fs, ex, ea, l, q⟩
  subst ex
  cases rx
  refine getmeth_ok I1 ea c hm l (PySem.W.callWith_K (first := [.ref a]) (h₀ := X.base) I.ok.mod.kin hm.kp (thn (ha.run pos pins s1 σ H1 _ I1 q) ?_) h1 h2)
  rintro us s2 ⟨vs, H2, I2, r, q2⟩
  exact ⟨I2.kIn, run_fnS (us := .ref a :: us) (vs := .ref a :: vs) Fm hr hb (hx σ) I2 (.cons rfl r) q2⟩
/-- o.m(k = v, ..) -/
def tMethK0 (C : Addr) (m : Str) (n : Nat) (sp : Sp) (gV : List V → List V → List V) (E : XK) (ta : TE) (tk : TA) : TE := fun σ H Q => ta σ H fun x H1 => ∃ a dx fs, x = .ref a ∧ H1 a = some (.ins C dx fs) ∧ fs.lookup m = none ∧
  tk σ H1 fun zs H2 => zs.length = n ∧ sp (gV [x] zs) H2 Q E
theorem pe_methK0 {E : XK} {pl : Sem Bool} {kws : List Keyword} {ks : List Str} {tk : TA} {g : List Value → List Value → List Value} {gV : List V → List V → List V} (he : PE X o ta) (c : Cls X.K C) (hm : Meth X.K C m f) (Fm : FnOk X.prog X.w X.K X.mg X.base CX k f fd ps sp) (hr : Room k X.A)
    (hb : KBn X.K fd ps 1 ks g gV) (hx : Passes CX X E) (hkw : PK X kws tk) (hall : (backToKw pos (keywordEach kws X.env)).all (·.1.isSome) = true := by rfl) (hks : (backToKw pos (keywordEach kws X.env)).filterMap (·.1) = ks := by rfl)
    (hpl : ((backTo pos (starEach [] X.env)).any (·.1) || (backToKw pos (keywordEach kws X.env)).any (·.1.isNone)) = false := by rfl)
    (ht : eval (.Call (.Attribute o m apos) [] kws pos) X.env = (do
      let ov ← eval o X.env
      standAt apos.atName
      let (f, first) ← holding [ov] (getMethod ov m pl)
      callWith pos f first (backTo pos (starEach [] X.env)) (backToKw pos (keywordEach kws X.env))) := by rfl) :
    PE X (.Call (.Attribute o m apos) [] kws pos) (tMethK0 C m ks.length sp gV E ta tk) := by
  constructor
  intro pins s σ H Q I h
  refine PySem.W.methodCall_KW (pl := pl) (thn (he.run pins s σ H _ I h) ?_) ht
  rintro u s1 ⟨x, H1, I1, rx, a, dx, fs, ex, ea, l, q⟩
  subst ex
  cases rx
  refine getmeth_ok I1 ea c hm l (PySem.W.callWith_KW0 (first := [.ref a]) (h₀ := X.base) I.ok.mod.kin hm.kp hall (thn (hkw.run pos pins s1 σ H1 _ I1 q) ?_) hpl)
  rintro ws s2 ⟨zs, H2, I2, rz, l2, q2⟩
  refine ⟨I2.kIn, ?_⟩
  rw [hks]
  exact run_fnN (us := [.ref a]) (vs := [.ref a]) Fm hr hb hx I2 (.cons rfl .nil) rz rfl l2 q2
end
/-! ### a new list whose place is not that of the modules' table -/
def tLstS (t : TA) : TE := fun σ H Q => t σ H fun xs H1 => xs.length ≤ sizeLine ∧ ∀ p, H1 p = none → p ≠ sysModules → Q (.ref p) (upd H1 p (.lst xs))
section
variable {X : Cx} {es : List Expr} {t : TA} {pos : Pos}
theorem pe_lstS (h : PA X es t) : PE X (.List es pos) (tLstS t) := by
  constructor
  intro pins s σ H Q I hq
  refine wpAny_List_spliced (thn (h.run pos pins s σ H _ I hq) ?_)
  rintro us s1 ⟨xs, H1, I1, r, z, q⟩
  refine ⟨by rw [← r.length]; exact z, ?_⟩
  have hf : H1 s1.heap.objs.size = none := I1.hok.fresh (Nat.le_refl _)
  exact ⟨.ref s1.heap.objs.size, upd H1 s1.heap.objs.size (.lst xs), I1.laid (t' := s1.toks) (fun b u e => Heap.get?_push_of_some _ e) (Nat.le_refl _) ⟨z, us, 0, r, Heap.get?_push_size _ rfl⟩, rfl, q _ hf (Nat.ne_of_gt I1.big)⟩
end
end WL
set_option Elab.async false
set_option linter.all false
set_option maxRecDepth 100000
set_option maxHeartbeats 4000000
namespace WL
open PySem PySem.Spec PyProof.Rows L2
/-! ### a def of the module, by its name -/
structure Has (P : Program) (w : World) (K : PySem.W.Frag) (mg : Str → Option Value) (base : Heap) (k : Nat) (x : Str) (ps : List Str) (sp : Sp) : Prop where
  ex : ∃ fa fd, mg x = some (.ref fa) ∧ PySem.W.keepIn K (.ref fa) = true ∧ Binds K fd ps [] ∧ FnOk P w K mg base CX0 k fa fd ps sp
structure HasG (P : Program) (w : World) (K : PySem.W.Frag) (mg : Str → Option Value) (base : Heap) (k : Nat) (x : Str) (ps : List Str) (sp : Sp) : Prop where
  ex : ∃ fa fd, mg x = some (.ref fa) ∧ PySem.W.keepIn K (.ref fa) = true ∧ Binds K fd ps [] ∧ GOk P w K mg base k fa fd ps sp
theorem HasG.of {P : Program} {w : World} {K : PySem.W.Frag} {mg : Str → Option Value} {base : Heap} {k : Nat} {x : Str} {ps : List Str} {sp : Sp} (h : Has P w K mg base k x ps sp) : HasG P w K mg base k x ps sp := by
  obtain ⟨fa, fd, h1, h2, h3, h4⟩ := h.ex
  exact ⟨fa, fd, h1, h2, h3, GOk.of h4⟩
section
variable {X : Cx} {k j : Nat} {x : Str} {ps : List Str} {sp : Sp} {e : Expr} {es : List Expr} {t : TA} {p pos : Pos}
theorem pe_has (h : Has X.prog X.w X.K X.mg X.base k x ps sp) (hr : Room j X.A) (hk : k ≤ j) (ha : PA X (e :: es) t) (gl : Gl X x := by rfl) (hdb : (x == ("__debug__" : Str)) = false := by decide)
    (h1 : starEach (e :: es) X.env = (false, eval e X.env) :: starEach es X.env := by rfl) (h2 : (backTo pos (starEach es X.env)).any (·.1) = false := by rfl) : PE X (.Call (.Name x p) (e :: es) [] pos) (tCall sp [] E0 t) := by
  obtain ⟨fa, fd, m, kp, b, F⟩ := h.ex
  exact pe_call F (hr.mono hk) gl m kp b .nil pass0 ha hdb h1 h2
theorem pe_hasG (h : HasG X.prog X.w X.K X.mg X.base k x ps sp) (hg : X.A.guards = some []) (hr : Room j X.A) (hk : k ≤ j) (ha : PA X (e :: es) t) (gl : Gl X x := by rfl) (hdb : (x == ("__debug__" : Str)) = false := by decide)
    (h1 : starEach (e :: es) X.env = (false, eval e X.env) :: starEach es X.env := by rfl) (h2 : (backTo pos (starEach es X.env)).any (·.1) = false := by rfl) : PE X (.Call (.Name x p) (e :: es) [] pos) (tCall sp [] E0 t) := by
  obtain ⟨fa, fd, m, kp, b, F⟩ := h.ex
  exact pe_gcall F hg (hr.mono hk) gl m kp b .nil ha hdb h1 h2
end
/-- the built-ins that the texts use -/
structure Blt (mg : Str → Option Value) : Prop where
  range : mg "range" = none
  len : mg "len" = none
  tuple : mg "tuple" = none
  list : mg "list" = none
  enumerate : mg "enumerate" = none
  zip : mg "zip" = none
  repr : mg "repr" = none
  min : mg "min" = none
  isinstance : mg "isinstance" = none
  int : mg "int" = none
  bool : mg "bool" = none
/-! ### reading, step by step -/
section
variable {σ : L2.St} {H : Hp} {Q : VK} {D : Ends}
theorem g_seq {t u : TS} (h : t { D with nx := u D } σ H) : tSeq t u D σ H := h
theorem g_asgN {te : TE} {i : Nat} (h : te σ H fun x H1 => D.nx (σ.set i (some x)) H1) : tAsg te (gName i) D σ H := h
theorem g_ret {te : TE} (h : te σ H D.rt) : tRet te D σ H := h
theorem g_drop {te : TE} (h : te σ H fun _ H1 => D.nx σ H1) : tDrop te D σ H := h
theorem g_ifS {c : TT} {t u : TS} (h : c σ H fun b H1 => if b = true then t D σ H1 else u D σ H1) : tIfS c t u D σ H := h
theorem g_next (h : D.nx σ H) : tNext D σ H := h
theorem g_var {i : Nat} {v : V} (e : σ[i]? = some (some v)) (h : Q v H) : tVar i σ H Q := ⟨v, e, h⟩
theorem g_c {v : V} (h : Q v H) : tC v σ H Q := h
theorem g_op {r : R2} {ta tb : TE} (h : ta σ H fun x H1 => tb σ H1 fun y H2 => r x y H2 Q) : tOp r ta tb σ H Q := h
theorem g_un {r : V → Hp → VK → Prop} {ta : TE} (h : ta σ H fun x H1 => r x H1 Q) : tUn r ta σ H Q := h
theorem g_rI0 {g : Int → Int → V} {i j : Int} (h : Q (g i j) H) : rI0 g (.int i) (.int j) H Q := ⟨i, j, rfl, rfl, h⟩
theorem g_rI {C : Int → Int → Prop} {g : Int → Int → V} {i j : Int} (c : C i j) (h : Q (g i j) H) : rI C g (.int i) (.int j) H Q := ⟨i, j, rfl, rfl, c, h⟩
theorem g_test {t : TE} {Q : Bool → Hp → Prop} (h : t σ H fun x H' => ∃ k, x = .bl k ∧ Q k H') : tTest t σ H Q := h
theorem g_bl {k : Bool} {P : Bool → Prop} (h : P k) : ∃ k', V.bl k = V.bl k' ∧ P k' := ⟨k, rfl, h⟩
theorem g_nil {Q : List V → Hp → Prop} (h : Q [] H) : tNil σ H Q := h
theorem g_cons {ta : TE} {tr : TA} {Q : List V → Hp → Prop} (h : ta σ H fun x H1 => tr σ H1 fun xs H2 => Q (x :: xs) H2) : tCons ta tr σ H Q := h
theorem g_call {sp : Sp} {t : TA} {E : XK} (h : t σ H fun vs H1 => sp vs H1 Q E) : tCall sp [] E t σ H Q := by
  show t σ H fun vs H1 => sp (vs ++ []) H1 Q E
  simpa using h
theorem g_tup {t : TA} (h : t σ H fun xs H1 => xs.length ≤ sizeLine ∧ ∀ p, H1 p = none → Q (.ref p) (upd H1 p (.tup xs))) : tTup t σ H Q := h
theorem g_lst {t : TA} (h : t σ H fun xs H1 => xs.length ≤ sizeLine ∧ ∀ p, H1 p = none → Q (.ref p) (upd H1 p (.lst xs))) : tLst t σ H Q := h
theorem g_cb {r : List V → Hp → VK → Prop} {t : TA} (h : t σ H fun vs H1 => r vs H1 Q) : tCB r t σ H Q := h
theorem g_if {t : TT} {ta tb : TE} (h : t σ H fun c H1 => if c = true then ta σ H1 Q else tb σ H1 Q) : tIf t ta tb σ H Q := h
theorem g_par {i j : Nat} {ta : TA} (h : ta σ H fun vs H1 => ∃ v w, vs = [v, w] ∧ D.nx ((σ.set i (some v)).set j (some w)) H1) : tPar i j ta D σ H := h
theorem g_two {v w : V} {P : V → V → Prop} (h : P v w) : ∃ v' w', [v, w] = [v', w'] ∧ P v' w' := ⟨v, w, rfl, h⟩
theorem g_isN {y : V} (h : Q (.bl (decide (y = .non))) H) : (V.non = .non ∧ Q (.bl (decide (y = .non))) H) := ⟨rfl, h⟩
end
/-! ### drawn numbers -/
def spMixed : Sp := fun vs H Q _ => ∃ c n : Int, vs = [.int c, .int n] ∧ (0 ≤ c ∧ c < 2 ^ 40) ∧ (0 ≤ n ∧ n < 2 ^ 40) ∧ ∀ r : Int, 0 ≤ r → r < 2 ^ 31 → Q (.int r) H
/-- a list of 64 numbers -/
def Cells (l : List Int) : Prop := l.length = 64 ∧ ∀ c ∈ l, 0 ≤ c ∧ c < 2147483647
def spFolded (K : PySem.W.Frag) : Sp := fun vs H Q _ => ∃ (a : Addr) (ns : List Int), vs = [.ref a] ∧ SqL K H a (ns.map V.int) ∧ ns.length ≤ 63 ∧ ∀ (p : Addr) (l : List Int) (H' : Hp), Cells l → H p = none → H' p = some (.lst (l.map V.int)) → (∀ b, b ≠ p → ∀ o, H b = some o → H' b = some o) → Q (.ref p) H'
/-- the state from which numbers are drawn: at m, its cells at c, its great cells at g, n numbers drawn -/
structure Dr (H : Hp) (m c g : Addr) (n : Int) : Prop where
  dict : H m = some (.dK [(Sum.inr "cells", .ref c), (Sum.inr "great", .ref g), (Sum.inr "spot", .int n)])
  cells : ∃ l, Cells l ∧ H c = some (.lst (l.map V.int))
  great : ∃ l : List Int, l.length ≤ 63 ∧ H g = some (.lst (l.map V.int))
  ne : c ≠ g
  pos : 0 ≤ n
/-- all but m and g is as it was -/
def But (m g : Addr) (H H' : Hp) : Prop := ∀ b o, b ≠ m → b ≠ g → H b = some o → H' b = some o
theorem But.refl {m g : Addr} {H : Hp} : But m g H H := fun _ _ _ _ h => h
theorem But.trans {m g : Addr} {H H1 H2 : Hp} (a : But m g H H1) (b : But m g H1 H2) : But m g H H2 := fun c o h1 h2 h => b c o h1 h2 (a c o h1 h2 h)
theorem But.same {m g : Addr} {H H1 H2 : Hp} (a : But m g H H1) (b : ∀ b o, H1 b = some o → H2 b = some o) : But m g H H2 := fun c o h1 h2 h => b c o (a c o h1 h2 h)
theorem But.of_same {m g : Addr} {H H1 : Hp} (a : ∀ b o, H b = some o → H1 b = some o) : But m g H H1 := fun c o _ _ h => a c o h
/-- what is free afterwards was free -/
def Old (H H' : Hp) : Prop := ∀ b, H' b = none → H b = none
def spDraw : Sp := fun vs H Q _ => ∃ (m c g : Addr) (n top : Int), vs = [.ref m, .int top] ∧ Dr H m c g n ∧ n < 2 ^ 30 ∧ (0 < top ∧ top < 1073741824) ∧
  ∀ (k : Int) (H' : Hp), 0 ≤ k → k < top → Dr H' m c g (n + 1) → But m g H H' → Old H H' → Q (.int k) H'
end WL
set_option Elab.async false
set_option linter.all false
set_option maxRecDepth 100000
set_option maxHeartbeats 4000000
namespace WL
open PySem PySem.Spec PyProof.Rows L2
/-! ### tuples stay what they are -/
def Tk (H H' : Hp) : Prop := ∀ b xs, H b = some (.tup xs) → H' b = some (.tup xs)
theorem Tk.refl {H : Hp} : Tk H H := fun _ _ h => h
theorem Tk.trans {H H1 H2 : Hp} (a : Tk H H1) (b : Tk H1 H2) : Tk H H2 := fun c o h => b c o (a c o h)
theorem Tk.new {H : Hp} {p : Addr} {o : HO} (n : H p = none) : Tk H (upd H p o) := fun b xs h => by
  unfold upd
  by_cases e : b = p
  · subst e; rw [n] at h; exact absurd h (by simp)
  · simpa [e] using h
theorem Tk.same {H H' : Hp} (a : ∀ b o, H b = some o → H' b = some o) : Tk H H' := fun b xs h => a b _ h
theorem Tk.upd {H : Hp} {p : Addr} {o : HO} {u : HO} (q : H p = some u) (n : ∀ xs, u ≠ .tup xs) : Tk H (upd H p o) := fun b xs h => by
  unfold L2.upd
  by_cases e : b = p
  · subst e; rw [q] at h; exact absurd (Option.some.inj h) (n xs)
  · simpa [e] using h
mutual
/-- data of tuples and plain values -/
inductive Fz (H : Hp) : V → PyData → Prop
  | non : Fz H .non .none
  | bl (b : Bool) : Fz H (.bl b) (.bool b)
  | int (i : Int) : Fz H (.int i) (.int i)
  | str (x : Str) : Fz H (.str x) (.str x)
  | tup {a : Addr} {xs : List V} {ds : List PyData} : H a = some (.tup xs) → Fzs H xs ds → Fz H (.ref a) (.tuple ds)
inductive Fzs (H : Hp) : List V → List PyData → Prop
  | nil : Fzs H [] []
  | cons {v : V} {vs : List V} {d : PyData} {ds : List PyData} : Fz H v d → Fzs H vs ds → Fzs H (v :: vs) (d :: ds)
end
section
variable {H H' : Hp}
mutual
theorem Fz.tk (k : Tk H H') : ∀ {v : V} {d : PyData}, Fz H v d → Fz H' v d
  | _, _, .non => .non
  | _, _, .bl b => .bl b
  | _, _, .int i => .int i
  | _, _, .str x => .str x
  | _, _, .tup h q => .tup (k _ _ h) (q.tk k)
theorem Fzs.tk (k : Tk H H') : ∀ {vs : List V} {ds : List PyData}, Fzs H vs ds → Fzs H' vs ds
  | _, _, .nil => .nil
  | _, _, .cons h q => .cons (h.tk k) (q.tk k)
end
mutual
theorem Fz.dq : ∀ {v : V} {d : PyData}, Fz H v d → Dq H v d
  | _, _, .non => .non
  | _, _, .bl b => .bl b
  | _, _, .int i => .int i
  | _, _, .str x => .str x
  | _, _, .tup h q => .tup h q.dqs
theorem Fzs.dqs : ∀ {vs : List V} {ds : List PyData}, Fzs H vs ds → Dqs H vs ds
  | _, _, .nil => .nil
  | _, _, .cons h q => .cons h.dq q.dqs
end
mutual
theorem Fz.dp {K : PySem.W.Frag} : ∀ {v : V} {d : PyData}, Fz H v d → Dp K H v d
  | _, _, .non => .non
  | _, _, .bl b => .bl b
  | _, _, .int i => .int i
  | _, _, .str x => .str x
  | _, _, .tup h q => .tup (SqT.of h) q.dps
theorem Fzs.dps {K : PySem.W.Frag} : ∀ {vs : List V} {ds : List PyData}, Fzs H vs ds → DpAll K H vs ds
  | _, _, .nil => .nil
  | _, _, .cons h q => .cons h.dp q.dps
end
theorem Fzs.length : ∀ {vs : List V} {ds : List PyData}, Fzs H vs ds → vs.length = ds.length
  | _, _, .nil => rfl
  | _, _, .cons _ h => congrArg Nat.succ h.length
theorem Fzs.get : ∀ {vs : List V} {ds : List PyData}, Fzs H vs ds → ∀ {i : Nat} {v : V}, vs[i]? = some v → ∃ d, ds[i]? = some d ∧ Fz H v d
  | _, _, .nil, _, _, e => by simp at e
  | _, _, .cons h q, 0, v, e => ⟨_, rfl, by simp at e; subst e; exact h⟩
  | _, _, .cons h q, i + 1, v, e => by
    obtain ⟨d, e1, f⟩ := q.get (i := i) (v := v) (by simpa using e)
    exact ⟨d, by simpa using e1, f⟩
theorem Fzs.append : ∀ {vs us : List V} {ds es : List PyData}, Fzs H vs ds → Fzs H us es → Fzs H (vs ++ us) (ds ++ es)
  | _, _, _, _, .nil, h => h
  | _, _, _, _, .cons a b, h => .cons a (b.append h)
theorem Fzs.take : ∀ {vs : List V} {ds : List PyData}, Fzs H vs ds → ∀ n, Fzs H (vs.take n) (ds.take n)
  | _, _, _, 0 => by simpa using Fzs.nil
  | _, _, .nil, n + 1 => by simpa using Fzs.nil
  | _, _, .cons a b, n + 1 => by simpa using Fzs.cons a (b.take n)
theorem Fzs.drop : ∀ {vs : List V} {ds : List PyData}, Fzs H vs ds → ∀ n, Fzs H (vs.drop n) (ds.drop n)
  | _, _, h, 0 => by simpa using h
  | _, _, .nil, n + 1 => by simpa using Fzs.nil
  | _, _, .cons a b, n + 1 => by simpa using b.drop n
theorem Fzs.reverse : ∀ {vs : List V} {ds : List PyData}, Fzs H vs ds → Fzs H vs.reverse ds.reverse
  | _, _, .nil => by simpa using Fzs.nil
  | _, _, .cons a b => by simpa using b.reverse.append (.cons a .nil)
theorem Fz.tup_inv {v : V} {ds : List PyData} (h : Fz H v (.tuple ds)) : ∃ a xs, v = .ref a ∧ H a = some (.tup xs) ∧ Fzs H xs ds := by
  cases h with
  | tup a b => exact ⟨_, _, rfl, a, b⟩
theorem Fz.int_inv {v : V} {i : Int} (h : Fz H v (.int i)) : v = .int i := by cases h; rfl
theorem Fz.non_inv {v : V} (h : Fz H v .none) : v = .non := by cases h; rfl
theorem Fzs.get_d : ∀ {vs : List V} {ds : List PyData}, Fzs H vs ds → ∀ {i : Nat} {d : PyData}, ds[i]? = some d → ∃ v, vs[i]? = some v ∧ Fz H v d
  | _, _, .nil, _, _, e => by simp at e
  | _, _, .cons h q, 0, d, e => ⟨_, rfl, by simp at e; subst e; exact h⟩
  | _, _, .cons h q, i + 1, d, e => by
    obtain ⟨v, e1, f⟩ := q.get_d (i := i) (d := d) (by simpa using e)
    exact ⟨v, by simpa using e1, f⟩
theorem Fzs.ints : ∀ {vs : List V} {is : List Int}, Fzs H vs (is.map PyData.int) → vs = is.map V.int
  | _, [], h => by cases h; rfl
  | _, i :: is, h => by
    cases h with
    | cons a b => rw [a.int_inv, b.ints]; rfl
theorem Fzs.of_ints : ∀ (is : List Int), Fzs H (is.map V.int) (is.map PyData.int)
  | [] => .nil
  | i :: is => .cons (.int i) (Fzs.of_ints is)
end
/-! ### drawing goes on: all but the drawn state is as it was, and so many numbers were drawn at most -/
structure Pr (m c g : Addr) (H0 H : Hp) (B : Int) : Prop where
  dr : ∃ n, n ≤ B ∧ Dr H m c g n
  but : But m g H0 H
section
variable {m c g : Addr} {H0 H H1 H2 : Hp} {B B' : Int}
theorem Pr.old (p : Pr m c g H0 H B) {b : Addr} (n : H b = none) : H0 b = none := by
  obtain ⟨k, _, d⟩ := p.dr
  obtain ⟨l, _, hg⟩ := d.great
  have hm := d.dict
  cases h : H0 b with
  | none => rfl
  | some o =>
    have nm : b ≠ m := fun e => by subst e; rw [n] at hm; exact absurd hm (by simp)
    have ng : b ≠ g := fun e => by subst e; rw [n] at hg; exact absurd hg (by simp)
    exact absurd (p.but _ _ nm ng h) (by rw [n]; simp)
theorem Dr.upd {n : Int} {p : Addr} {o : HO} (d : Dr H m c g n) (h1 : p ≠ m) (h2 : p ≠ c) (h3 : p ≠ g) : Dr (upd H p o) m c g n := by
  obtain ⟨d1, ⟨l, hl, d2⟩, ⟨l', hl', d3⟩, d4, d5⟩ := d
  refine ⟨?_, ⟨l, hl, ?_⟩, ⟨l', hl', ?_⟩, d4, d5⟩
  · rw [upd_ne (Ne.symm h1)]; exact d1
  · rw [upd_ne (Ne.symm h2)]; exact d2
  · rw [upd_ne (Ne.symm h3)]; exact d3
theorem Dr.off {n : Int} {p : Addr} (d : Dr H m c g n) (h : H p = none) : p ≠ m ∧ p ≠ c ∧ p ≠ g := by
  obtain ⟨d1, ⟨l, hl, d2⟩, ⟨l', hl', d3⟩, d4, d5⟩ := d
  refine ⟨fun e => ?_, fun e => ?_, fun e => ?_⟩
  · subst e; rw [h] at d1; exact absurd d1 (by simp)
  · subst e; rw [h] at d2; exact absurd d2 (by simp)
  · subst e; rw [h] at d3; exact absurd d3 (by simp)
theorem Pr.refl {n : Int} (d : Dr H m c g n) (h : n ≤ B) : Pr m c g H H B := ⟨⟨n, h, d⟩, But.refl⟩
/-- something new, or something made since, is written -/
theorem Pr.put (p : Pr m c g H0 H B) {b : Addr} {o : HO} (n : H0 b = none) (h1 : b ≠ m) (h2 : b ≠ c) (h3 : b ≠ g) : Pr m c g H0 (upd H b o) B := by
  obtain ⟨⟨k, hk, d⟩, q⟩ := p
  refine ⟨⟨k, hk, d.upd h1 h2 h3⟩, fun a u n1 n2 h => ?_⟩
  have : a ≠ b := fun e => by subst e; rw [n] at h; exact absurd h (by simp)
  rw [upd_ne this]; exact q _ _ n1 n2 h
theorem Pr.new (p : Pr m c g H0 H B) {b : Addr} {o : HO} (n : H b = none) : Pr m c g H0 (upd H b o) B := by
  obtain ⟨k, _, d⟩ := p.dr
  obtain ⟨h1, h2, h3⟩ := d.off n
  exact p.put (p.old n) h1 h2 h3
theorem Pr.trans (p : Pr m c g H0 H B) (q : Pr m c g H H1 B') : Pr m c g H0 H1 B' := ⟨q.dr, p.but.trans q.but⟩
theorem Pr.le (p : Pr m c g H0 H B) (h : B ≤ B') : Pr m c g H0 H B' := by
  obtain ⟨⟨k, hk, d⟩, q⟩ := p
  exact ⟨⟨k, by omega, d⟩, q⟩
theorem Pr.self (p : Pr m c g H0 H B) : Pr m c g H H B := ⟨p.dr, But.refl⟩
theorem Pr.keep (p : Pr m c g H0 H B) {b : Addr} {o : HO} (h : H0 b = some o) (n1 : b ≠ m) (n2 : b ≠ g) : H b = some o := p.but _ _ n1 n2 h
theorem Pr.tk (p : Pr m c g H0 H B) (q : Pr m c g H0 H0 B') : Tk H0 H := fun b xs h => by
  obtain ⟨k, _, d⟩ := q.dr
  obtain ⟨l, _, hg⟩ := d.great
  have hm := d.dict
  refine p.but _ _ (fun e => ?_) (fun e => ?_) h
  · subst e; rw [h] at hm; exact absurd hm (by simp)
  · subst e; rw [h] at hg; exact absurd hg (by simp)
theorem Pr.ne (p : Pr m c g H0 H B) {b : Addr} (n : H0 b = none) {B' : Int} (q : Pr m c g H0 H0 B') : b ≠ m ∧ b ≠ c ∧ b ≠ g := by
  obtain ⟨k, _, d⟩ := q.dr
  exact d.off n
end
/-- a number is drawn -/
def spDraw' : Sp := fun vs H Q _ => ∃ (m c g : Addr) (B top : Int), vs = [.ref m, .int top] ∧ Pr m c g H H B ∧ B < 2 ^ 29 ∧ (0 < top ∧ top < 1073741824) ∧
  ∀ (k : Int) (H' : Hp), 0 ≤ k → k < top → Pr m c g H H' (B + 1) → Q (.int k) H'
end WL
set_option Elab.async false
set_option linter.all false
set_option maxRecDepth 100000
set_option maxHeartbeats 4000000
namespace WL
open PySem PySem.Spec PyProof.Rows L2
/-- for n, x in enumerate(xs) -/
theorem for_enum {K : PySem.W.Frag} {a : Addr} {xs : List V} {g : TG} {tb : TS} {D : Ends} {σ : L2.St} {H : Hp} (Pv : Nat → L2.St → Hp → Prop) (h0 : Pv 0 σ H) (hl : ∀ i σ H, i ≤ xs.length → Pv i σ H → SqL K H a xs)
    (hs : ∀ (i : Nat) (x : V) (T : Addr) (σ : L2.St) (H : Hp), xs[i]? = some x → Pv i σ H → H T = none → g (.ref T) σ (upd H T (.tup [.int (i : Nat), x])) fun σ2 H2 => tb { D with nx := Pv (i + 1), ct := Pv (i + 1), bk := D.nx } σ2 H2) (hd : ∀ σ H, Pv xs.length σ H → D.nx σ H) :
    ∃ W : Nat → Nat → L2.St → Hp → Prop, (∃ m, W 0 m σ H) ∧ ∀ i m σ H, W i m σ H → ((Ite K a).stop i H ∧ D.nx σ H) ∨ ((Ite K a).go i H ∧ ∃ N : L2.St → Hp → Prop, (∀ σ' H', N σ' H' → ∃ m', m' < m ∧ W (i + 1) m' σ' H') ∧
      ∀ x H', (Ite K a).yld i H x H' → g x σ H' fun σ2 H2 => tb { D with nx := N, ct := N, bk := D.nx } σ2 H2) := by
  refine ⟨fun i m σ H => i ≤ xs.length ∧ m = xs.length - i ∧ Pv i σ H, ⟨_, Nat.zero_le _, rfl, h0⟩, ?_⟩
  intro i m σ H ⟨hi, hm, hp⟩
  have hS := hl i σ H hi hp
  by_cases e : i = xs.length
  · subst e
    exact Or.inl ⟨⟨xs, hS, Nat.le_refl _⟩, hd _ _ hp⟩
  · have hlt : i < xs.length := by omega
    refine Or.inr ⟨⟨xs, xs[i], hS, by simp [hlt]⟩, Pv (i + 1), fun σ' H' h => ⟨xs.length - (i + 1), by omega, by omega, rfl, h⟩, ?_⟩
    intro v H' hy
    obtain ⟨T, x, e1, hT, e2, hx⟩ := hy
    subst e1; subst e2
    exact hs i x T σ H (hx xs hS) hp hT
/-! ### places -/
theorem ixN_at {n : Nat} {i : Int} (h0 : 0 ≤ i) (h : i < n) : ixN n i = some i.toNat := by
  unfold ixN
  rw [if_pos h0, if_pos h]
theorem atI_at {α : Type} {xs : List α} {i : Int} {v : α} (h0 : 0 ≤ i) (h : xs[i.toNat]? = some v) : atI xs i = some v := by
  have hl : i.toNat < xs.length := by
    rcases Nat.lt_or_ge i.toNat xs.length with q | q
    · exact q
    · rw [List.getElem?_eq_none q] at h; exact absurd h (by simp)
  unfold atI
  rw [ixN_at h0 (by omega)]
  exact h
theorem atI_nat {α : Type} {xs : List α} {i : Nat} {v : α} (h : xs[i]? = some v) : atI xs (i : Int) = some v := atI_at (by omega) (by simpa using h)
section
variable {σ : L2.St} {H : Hp} {Q : VK} {D : Ends} {K : PySem.W.Frag}
theorem g_asg {te : TE} {g : TG} (h : te σ H fun x H1 => g x σ H1 D.nx) : tAsg te g D σ H := h
theorem g_name {i : Nat} {v : V} {Q : L2.St → Hp → Prop} (h : Q (σ.set i (some v)) H) : gName i v σ H Q := h
theorem g_sub {to ti : TE} {t : TSet} {v : V} {Q : L2.St → Hp → Prop} (h : to σ H fun o H1 => ti σ H1 fun i H2 => t o i v H2 fun H3 => Q σ H3) : gSub to ti t v σ H Q := h
theorem g_tupg {n : Nat} {t : TGs} {a : Addr} {xs : List V} {Q : L2.St → Hp → Prop} (h1 : SqT K H a xs) (h2 : xs.length = n) (h3 : t xs σ H Q) : gTup K n t (.ref a) σ H Q := ⟨a, xs, rfl, h1, h2, h3⟩
theorem g_ixL {p : Addr} {xs : List V} {i : Int} {v : V} (h1 : SqL K H p xs) (h2 : atI xs i = some v) (h : Q v H) : rIxL K (.ref p) (.int i) H Q := ⟨p, xs, i, v, rfl, rfl, h1, h2, h⟩
theorem g_ixT {p : Addr} {xs : List V} {i : Int} {v : V} (h1 : SqT K H p xs) (h2 : atI xs i = some v) (h : Q v H) : rIxT K (.ref p) (.int i) H Q := ⟨p, xs, i, v, rfl, rfl, h1, h2, h⟩
theorem g_setL {p : Addr} {xs : List V} {i : Int} {v : V} {Q : Hp → Prop} (h1 : H p = some (.lst xs)) (h0 : 0 ≤ i) (h2 : i < xs.length) (h : Q (upd H p (.lst (xs.set i.toNat v)))) : rSetL (.ref p) (.int i) v H Q := ⟨p, xs, i, i.toNat, rfl, rfl, h1, ixN_at h0 h2, h⟩
theorem g_app {p : Addr} {xs : List V} {v : V} (h1 : H p = some (.lst xs)) (h2 : xs.length < sizeLine) (h : Q .non (upd H p (.lst (xs ++ [v])))) : rAppend (.ref p) [v] H Q := ⟨p, xs, v, rfl, rfl, h1, h2, h⟩
theorem g_eqD {x y : V} {d e : PyData} (h1 : Dp K H x d) (h2 : Dp K H y e) (s1 : SeqAt.shaped d = true) (s2 : SeqAt.shaped e = true) (h : Q (.bl (d.eqv e)) H) : rEqD K x y H Q := ⟨d, e, h1, h2, s1, s2, h⟩
theorem g_neD {x y : V} {d e : PyData} (h1 : Dp K H x d) (h2 : Dp K H y e) (s1 : SeqAt.shaped d = true) (s2 : SeqAt.shaped e = true) (h : Q (.bl (!d.eqv e)) H) : rNeD K x y H Q := ⟨d, e, h1, h2, s1, s2, h⟩
theorem g_isNon {x : V} (h : Q (.bl (decide (x = .non))) H) : (V.non = .non ∧ Q (.bl (decide (x = .non))) H) := ⟨rfl, h⟩
theorem g_notNon {x : V} (h : Q (.bl (!decide (x = .non))) H) : (V.non = .non ∧ Q (.bl (!decide (x = .non))) H) := ⟨rfl, h⟩
theorem g_rng1 {ta : TA} {R : It → Hp → Prop} (h : ta σ H fun vs H1 => ∃ j, vs = [V.int j] ∧ -2 ^ 62 ≤ j ∧ j < 2 ^ 62 ∧ R (Itr 0 j.toNat) H1) : iRng1 ta σ H R := h
theorem g_rng2 {ta : TA} {R : It → Hp → Prop} (h : ta σ H fun vs H1 => ∃ i j, vs = [V.int i, V.int j] ∧ (-2 ^ 62 ≤ i ∧ i < 2 ^ 62 ∧ -2 ^ 62 ≤ j ∧ j < 2 ^ 62) ∧ R (Itr i (j - i).toNat) H1) : iRng2 ta σ H R := h
theorem g_one {j : Int} {P : Int → Prop} (h1 : -2 ^ 62 ≤ j ∧ j < 2 ^ 62) (h : P j) : ∃ k, [V.int j] = [V.int k] ∧ -2 ^ 62 ≤ k ∧ k < 2 ^ 62 ∧ P k := ⟨j, rfl, h1.1, h1.2, h⟩
theorem g_twoI {i j : Int} {P : Int → Int → Prop} (h1 : -2 ^ 62 ≤ i ∧ i < 2 ^ 62 ∧ -2 ^ 62 ≤ j ∧ j < 2 ^ 62) (h : P i j) : ∃ k l, [V.int i, V.int j] = [V.int k, V.int l] ∧ (-2 ^ 62 ≤ k ∧ k < 2 ^ 62 ∧ -2 ^ 62 ≤ l ∧ l < 2 ^ 62) ∧ P k l := ⟨i, j, rfl, h1, h⟩
theorem g_dget {td ty : TE} (h : td σ H fun x H1 => ty σ H1 fun y H2 => ∃ a v, x = V.ref a ∧ DGet H2 a y (some v) ∧ Q v H2) : tDGet td ty σ H Q := h
theorem g_dg {a : Addr} {x : Str} {v : V} {kvs : List (Key × V)} (h1 : H a = some (.dK kvs)) (h2 : valV kvs (Sum.inr x) = some v) {P : V → Prop} (h : P v) : ∃ a' v', V.ref a = V.ref a' ∧ DGet H a' (.str x) (some v') ∧ P v' :=
  ⟨a, v, rfl, Or.inl ⟨kvs, Sum.inr x, Or.inl h1, rfl, h2.symm⟩, h⟩
theorem g_dput {td ty tv : TE} (h : tv σ H fun v H1 => td σ H1 fun x H2 => ty σ H2 fun y H3 => ∃ a H4, x = V.ref a ∧ DPut H3 a y v H4 ∧ D.nx σ H4) : sDPut td ty tv D σ H := h
theorem g_dp {a : Addr} {x : Str} {v : V} {kvs : List (Key × V)} (h1 : H a = some (.dK kvs)) (h2 : kvs.length < sizeLine) {P : Hp → Prop} (h : P (upd H a (.dK (putK kvs (Sum.inr x) v)))) : ∃ a' H', V.ref a = V.ref a' ∧ DPut H a' (.str x) v H' ∧ P H' :=
  ⟨a, _, rfl, Or.inl ⟨kvs, Sum.inr x, h1, rfl, h2, rfl⟩, h⟩
theorem g_len {p : Addr} {xs : List V} {P : Addr → List V → Prop} (h1 : SqL K H p xs ∨ SqT K H p xs) (h : P p xs) : ∃ p' ys, [V.ref p] = [V.ref p'] ∧ (SqL K H p' ys ∨ SqT K H p' ys) ∧ P p' ys := ⟨p, xs, rfl, h1, h⟩
theorem g_tupOfL {p : Addr} {xs : List V} {P : Addr → List V → Prop} {R : Addr → Prop} (h1 : SqL K H p xs) (h : P p xs) : ∃ p' ys, [V.ref p] = [V.ref p'] ∧ ((SqL K H p' ys ∧ P p' ys) ∨ SqT K H p' ys ∧ R p') := ⟨p, xs, rfl, Or.inl ⟨h1, h⟩⟩
theorem g_tupOfT {p : Addr} {xs : List V} {P : Addr → List V → Prop} {R : Addr → Prop} (h1 : SqT K H p xs) (h : R p) : ∃ p' ys, [V.ref p] = [V.ref p'] ∧ ((SqL K H p' ys ∧ P p' ys) ∨ SqT K H p' ys ∧ R p') := ⟨p, xs, rfl, Or.inr ⟨h1, h⟩⟩
theorem g_lstOf {p : Addr} {xs : List V} {P : Addr → List V → Prop} (h1 : SqL K H p xs ∨ SqT K H p xs) (h : P p xs) : ∃ p' ys, [V.ref p] = [V.ref p'] ∧ (SqL K H p' ys ∨ SqT K H p' ys) ∧ P p' ys := ⟨p, xs, rfl, h1, h⟩
theorem g_yes {Q : Bool → Hp → Prop} (h : Q true H) : tYes σ H Q := h
theorem g_gnil {Q : L2.St → Hp → Prop} (h : Q σ H) : gNil [] σ H Q := ⟨rfl, h⟩
theorem g_gcons {t : TG} {u : TGs} {v : V} {vs : List V} {Q : L2.St → Hp → Prop} (h : t v σ H fun σ' H' => u vs σ' H' Q) : gCons t u (v :: vs) σ H Q := ⟨v, vs, rfl, h⟩
end
/-! ### loops, from what is walked on -/
def LcQ (g : TG) (tt : TT) (te : TE) (vs : List Nat) (σ : L2.St) (Q : VK) (J : It) (H1 : Hp) : Prop :=
  ∀ D : Addr, H1 D = none → ∃ W : Nat → Nat → Hp → Prop, (∃ m, W 0 m (upd H1 D (.lst []))) ∧ ∀ i m H, W i m H → (J.stop i H ∧ Q (.ref D) H) ∨ (J.go i H ∧ ∃ Nx : Hp → Prop, (∀ H', Nx H' → ∃ m', m' < m ∧ W (i + 1) m' H') ∧
    ∀ x H', J.yld i H x H' → g x (wipe σ vs) H' fun σ2 H2 => wipe σ2 vs = wipe σ vs ∧ tt σ2 H2 fun b H3 => if b = true then te σ2 H3 fun y H4 => ∃ acc, H4 D = some (.lst acc) ∧ acc.length < sizeLine ∧ Nx (upd H4 D (.lst (acc ++ [y]))) else Nx H3)
def ForQ (g : TG) (tb : TS) (D : Ends) (σ : L2.St) (J : It) (H1 : Hp) : Prop :=
  ∃ W : Nat → Nat → L2.St → Hp → Prop, (∃ m, W 0 m σ H1) ∧ ∀ i m σ H, W i m σ H → (J.stop i H ∧ D.nx σ H) ∨ (J.go i H ∧ ∃ N : L2.St → Hp → Prop, (∀ σ' H', N σ' H' → ∃ m', m' < m ∧ W (i + 1) m' σ' H') ∧
    ∀ x H', J.yld i H x H' → g x σ H' fun σ2 H2 => tb { D with nx := N, ct := N, bk := D.nx } σ2 H2)
section
variable {σ : L2.St} {H H1 : Hp} {Q : VK} {D : Ends} {K : PySem.W.Frag} {g : TG} {tt : TT} {te : TE} {vs : List Nat} {tb : TS} {wi : TI}
theorem g_lc (h : wi σ H (LcQ g tt te vs σ Q)) : tLc wi g tt te vs σ H Q := h
theorem g_for (h : wi σ H (ForQ g tb D σ)) : tFor wi g tb D σ H := h
theorem g_and {α : Type} {a : α} {P : Prop} (h : P) : a = a ∧ P := ⟨rfl, h⟩
theorem g_ift {A B : Prop} (h : A) : if true = true then A else B := by rw [if_pos rfl]; exact h
theorem g_iff {A B : Prop} (h : B) : if false = true then A else B := by rw [if_neg (by decide)]; exact h
theorem g_tt {A B : Prop} (h : A) : if (true : Bool) = true then A else B := by rw [if_pos rfl]; exact h
theorem LcQ.range {lo : Int} {n : Nat} (I : Addr → Nat → Hp → Prop) (h0 : ∀ D, H1 D = none → I D 0 (upd H1 D (.lst [])))
    (hs : ∀ D, H1 D = none → ∀ i H, i < n → I D i H → g (.int (lo + (i : Nat))) (wipe σ vs) H fun σ2 H2 => wipe σ2 vs = wipe σ vs ∧ tt σ2 H2 fun b H3 => if b = true then te σ2 H3 fun y H4 => ∃ acc, H4 D = some (.lst acc) ∧ acc.length < sizeLine ∧ I D (i + 1) (upd H4 D (.lst (acc ++ [y]))) else I D (i + 1) H3)
    (hd : ∀ D, H1 D = none → ∀ H, I D n H → Q (.ref D) H) : LcQ g tt te vs σ Q (Itr lo n) H1 :=
  fun D nD => lc_range (I D) (h0 D nD) (hs D nD) (hd D nD)
theorem LcQ.list {a : Addr} {xs : List V} (I : Addr → Nat → Hp → Prop) (h0 : ∀ D, H1 D = none → I D 0 (upd H1 D (.lst [])))
    (hl : ∀ D, H1 D = none → ∀ i H, i ≤ xs.length → I D i H → SqL K H a xs)
    (hs : ∀ D, H1 D = none → ∀ (i : Nat) x H, xs[i]? = some x → I D i H → g x (wipe σ vs) H fun σ2 H2 => wipe σ2 vs = wipe σ vs ∧ tt σ2 H2 fun b H3 => if b = true then te σ2 H3 fun y H4 => ∃ acc, H4 D = some (.lst acc) ∧ acc.length < sizeLine ∧ I D (i + 1) (upd H4 D (.lst (acc ++ [y]))) else I D (i + 1) H3)
    (hd : ∀ D, H1 D = none → ∀ H, I D xs.length H → Q (.ref D) H) : LcQ g tt te vs σ Q (Itl K a) H1 :=
  fun D nD => lc_list (I D) (h0 D nD) (hl D nD) (hs D nD) (hd D nD)
theorem ForQ.range {lo : Int} {n : Nat} (I : Nat → L2.St → Hp → Prop) (h0 : I 0 σ H1)
    (hs : ∀ i σ H, i < n → I i σ H → g (.int (lo + (i : Nat))) σ H fun σ2 H2 => tb { D with nx := I (i + 1), ct := I (i + 1), bk := D.nx } σ2 H2) (hd : ∀ σ H, I n σ H → D.nx σ H) : ForQ g tb D σ (Itr lo n) H1 := for_range I h0 hs hd
theorem ForQ.list {a : Addr} {xs : List V} (I : Nat → L2.St → Hp → Prop) (h0 : I 0 σ H1) (hl : ∀ i σ H, i ≤ xs.length → I i σ H → SqL K H a xs)
    (hs : ∀ (i : Nat) x σ H, xs[i]? = some x → I i σ H → g x σ H fun σ2 H2 => tb { D with nx := I (i + 1), ct := I (i + 1), bk := D.nx } σ2 H2) (hd : ∀ σ H, I xs.length σ H → D.nx σ H) : ForQ g tb D σ (Itl K a) H1 := for_list I h0 hl hs hd
theorem ForQ.tup {a : Addr} {xs : List V} (I : Nat → L2.St → Hp → Prop) (h0 : I 0 σ H1) (hl : ∀ i σ H, i ≤ xs.length → I i σ H → SqT K H a xs)
    (hs : ∀ (i : Nat) x σ H, xs[i]? = some x → I i σ H → g x σ H fun σ2 H2 => tb { D with nx := I (i + 1), ct := I (i + 1), bk := D.nx } σ2 H2) (hd : ∀ σ H, I xs.length σ H → D.nx σ H) : ForQ g tb D σ (Itt K a) H1 := for_tup I h0 hl hs hd
theorem ForQ.enum {a : Addr} {xs : List V} (I : Nat → L2.St → Hp → Prop) (h0 : I 0 σ H1) (hl : ∀ i σ H, i ≤ xs.length → I i σ H → SqL K H a xs)
    (hs : ∀ (i : Nat) (x : V) (T : Addr) (σ : L2.St) (H : Hp), xs[i]? = some x → I i σ H → H T = none → g (.ref T) σ (upd H T (.tup [.int (i : Nat), x])) fun σ2 H2 => tb { D with nx := I (i + 1), ct := I (i + 1), bk := D.nx } σ2 H2) (hd : ∀ σ H, I xs.length σ H → D.nx σ H) : ForQ g tb D σ (Ite K a) H1 := for_enum I h0 hl hs hd
theorem g_enum {ta : TA} {R : It → Hp → Prop} (h : ta σ H fun vs H1 => ∃ a xs, vs = [.ref a] ∧ SqL K H1 a xs ∧ R (Ite K a) H1) : iEnum K ta σ H R := h
theorem g_list {tl : TE} {R : It → Hp → Prop} (h : tl σ H fun x H1 => ∃ a, x = V.ref a ∧ (∃ xs, SqL K H1 a xs) ∧ R (Itl K a) H1) : iList K tl σ H R := h
theorem g_lq {a : Addr} {xs : List V} {P : Addr → Prop} (h1 : SqL K H a xs) (h : P a) : ∃ a', V.ref a = V.ref a' ∧ (∃ xs, SqL K H a' xs) ∧ P a' := ⟨a, rfl, ⟨xs, h1⟩, h⟩
theorem g_oneL {a : Addr} {xs : List V} {P : Addr → Prop} (h1 : SqL K H a xs) (h : P a) : ∃ a' xs', [V.ref a] = [V.ref a'] ∧ SqL K H a' xs' ∧ P a' := ⟨a, xs, rfl, h1, h⟩
end
theorem SqL.same {K : PySem.W.Frag} {H H' : Hp} {a : Addr} {xs : List V} (h : SqL K H a xs) (s : ∀ b o, H b = some o → H' b = some o) : SqL K H' a xs := by
  rcases h with (h | ⟨o, h⟩) | h
  · exact Or.inl (Or.inl (s _ _ h))
  · exact Or.inl (Or.inr ⟨o, s _ _ h⟩)
  · exact Or.inr h
theorem SqT.same {K : PySem.W.Frag} {H H' : Hp} {a : Addr} {xs : List V} (h : SqT K H a xs) (s : ∀ b o, H b = some o → H' b = some o) : SqT K H' a xs := by
  rcases h with (h | ⟨o, h⟩) | h
  · exact Or.inl (Or.inl (s _ _ h))
  · exact Or.inl (Or.inr ⟨o, s _ _ h⟩)
  · exact Or.inr h
theorem g_one' {K : PySem.W.Frag} {a : Addr} {xs : List V} {H : Hp} {P : Addr → Prop} (h1 : SqL K H a xs) (h : P a) : ∃ a' xs', [V.ref a] = [V.ref a'] ∧ SqL K H a' xs' ∧ P a' := ⟨a, xs, rfl, h1, h⟩
theorem Cells.get {l : List Int} (h : Cells l) {i : Nat} (hi : i < 64) : ∃ c, l[i]? = some c ∧ 0 ≤ c ∧ c < 2147483647 := by
  have hl : i < l.length := by rw [h.1]; exact hi
  exact ⟨l[i], by simp [hl], h.2 _ (List.getElem_mem hl)⟩
theorem Cells.set {l : List Int} (h : Cells l) (i : Nat) {c : Int} (h0 : 0 ≤ c) (h1 : c < 2147483647) : Cells (l.set i c) := by
  refine ⟨by rw [List.length_set]; exact h.1, fun x hx => ?_⟩
  rcases List.mem_or_eq_of_mem_set hx with q | q
  · exact h.2 _ q
  · subst q; exact ⟨h0, h1⟩
theorem map_set_int (l : List Int) (i : Nat) (c : Int) : (l.map V.int).set i (.int c) = (l.set i c).map V.int := by rw [List.map_set]
theorem map_get_int {l : List Int} {i : Nat} {c : Int} (h : l[i]? = some c) : (l.map V.int)[i]? = some (.int c) := by rw [List.getElem?_map, h]; rfl
theorem Dr.spot {H : Hp} {m c g : Addr} {n : Int} (d : Dr H m c g n) : H m = some (.dK [(Sum.inr "cells", .ref c), (Sum.inr "great", .ref g), (Sum.inr "spot", .int n)]) := d.dict
end WL
set_option Elab.async false
set_option linter.all false
set_option maxRecDepth 100000
set_option maxHeartbeats 4000000
namespace WL
open PySem PySem.Spec PyProof.Rows L2
/-! ### plain data: None, whole numbers, and lists and tuples of such, so many levels deep -/
def pl : Nat → PyData → Prop
  | _, .none => True
  | _, .int _ => True
  | n + 1, .list ds => ∀ d ∈ ds, pl n d
  | n + 1, .tuple ds => ∀ d ∈ ds, pl n d
  | _, _ => False
theorem pl_mono : ∀ {n : Nat} {d : PyData}, pl n d → pl (n + 1) d := by
  intro n
  induction n with
  | zero => intro d h; cases d <;> simp_all [pl]
  | succ n ih =>
    intro d h
    cases d with
    | none => simp [pl]
    | int i => simp [pl]
    | bool b => simp [pl] at h
    | str x => simp [pl] at h
    | dict kvs => simp [pl] at h
    | list ds => simp only [pl] at h ⊢; exact fun d hd => ih (h d hd)
    | tuple ds => simp only [pl] at h ⊢; exact fun d hd => ih (h d hd)
theorem all_lay : ∀ (ds : List PyData), (∀ d ∈ ds, d.canLay0 = true) → PyData.canLayAll0 ds = true
  | [], _ => rfl
  | d :: ds, h => by
    show (PyData.canLay0 d && PyData.canLayAll0 ds) = true
    rw [h d (by simp), all_lay ds (fun e he => h e (by simp [he]))]; rfl
theorem all_depth {n : Nat} : ∀ (ds : List PyData), (∀ d ∈ ds, d.depth ≤ n) → PyData.depthAll ds ≤ n
  | [], _ => by rw [PyData.depthAll.eq_1]; omega
  | d :: ds, h => by
    rw [PyData.depthAll.eq_2]
    have h1 := h d (by simp)
    have h2 := all_depth ds (fun e he => h e (by simp [he]))
    omega
theorem pl_lay : ∀ {n : Nat} {d : PyData}, pl n d → d.canLay0 = true ∧ d.depth ≤ n := by
  intro n
  induction n with
  | zero => 
    intro d h
    cases d <;> simp [pl] at h
    · exact ⟨rfl, by rw [PyData.depth.eq_4] <;> simp⟩
    · exact ⟨rfl, by rw [PyData.depth.eq_6]; omega⟩
  | succ n ih =>
    intro d h
    cases d with
    | none => exact ⟨rfl, by rw [PyData.depth.eq_4]; omega⟩
    | int i => exact ⟨rfl, by rw [PyData.depth.eq_6]; omega⟩
    | bool b => simp [pl] at h
    | str x => simp [pl] at h
    | dict kvs => simp [pl] at h
    | list ds =>
      simp only [pl] at h
      refine ⟨all_lay ds (fun e he => (ih (h e he)).1), ?_⟩
      have := all_depth ds (fun e he => (ih (h e he)).2)
      rw [PyData.depth.eq_1]; omega
    | tuple ds =>
      simp only [pl] at h
      refine ⟨all_lay ds (fun e he => (ih (h e he)).1), ?_⟩
      have := all_depth ds (fun e he => (ih (h e he)).2)
      rw [PyData.depth.eq_2]; omega
theorem pl_shaped {n : Nat} {d : PyData} (h : pl n d) (hn : n ≤ 64) : SeqAt.shaped d = true := by
  obtain ⟨a, b⟩ := pl_lay h
  unfold SeqAt.shaped
  rw [a, Bool.true_and]
  exact decide_eq_true (by omega)
theorem eqvAll_iff : ∀ (ds es : List PyData), (∀ d ∈ ds, ∀ e ∈ es, (d.eqv e = true ↔ d = e)) → (PyData.eqvAll ds es = true ↔ ds = es)
  | [], [], _ => by simp [PyData.eqvAll.eq_1]
  | [], e :: es, _ => by simp [PyData.eqvAll.eq_3]
  | d :: ds, [], _ => by
    have : PyData.eqvAll (d :: ds) [] = false := rfl
    simp [this]
  | d :: ds, e :: es, h => by
    rw [PyData.eqvAll.eq_2, Bool.and_eq_true, h d (by simp) e (by simp), eqvAll_iff ds es (fun a ha b hb => h a (by simp [ha]) b (by simp [hb]))]
    simp
theorem pl_eqv : ∀ {n : Nat} {d e : PyData}, pl n d → pl n e → (d.eqv e = true ↔ d = e) := by
  intro n
  induction n with
  | zero =>
    intro d e h1 h2
    cases d <;> simp [pl] at h1 <;> cases e <;> simp [pl] at h2
    · simp [PyData.eqv.eq_1]
    · have : ∀ i : Int, PyData.none.eqv (.int i) = false := fun _ => rfl
      simp [this]
    · have : ∀ i : Int, (PyData.int i).eqv .none = false := fun _ => rfl
      simp [this]
    · simp [PyData.eqv.eq_5]
  | succ n ih =>
    intro d e h1 h2
    cases d with
    | bool b => simp [pl] at h1
    | str x => simp [pl] at h1
    | dict kvs => simp [pl] at h1
    | none => cases e <;> first | (simp [pl] at h2; done) | (simp [PyData.eqv.eq_1]; done) | (exact ⟨fun h => absurd (show false = true from h) (by decide), fun h => by cases h⟩)
    | int i => cases e <;> first | (simp [pl] at h2; done) | (simp [PyData.eqv.eq_5]; done) | (exact ⟨fun h => absurd (show false = true from h) (by decide), fun h => by cases h⟩)
    | list ds =>
      simp only [pl] at h1
      cases e with
      | list es =>
        simp only [pl] at h2
        rw [PyData.eqv.eq_7, eqvAll_iff ds es (fun a ha b hb => ih (h1 a ha) (h2 b hb))]
        simp
      | _ => first | (simp [pl] at h2; done) | (exact ⟨fun h => absurd (show false = true from h) (by decide), fun h => by cases h⟩)
    | tuple ds =>
      simp only [pl] at h1
      cases e with
      | tuple es =>
        simp only [pl] at h2
        rw [PyData.eqv.eq_8, eqvAll_iff ds es (fun a ha b hb => ih (h1 a ha) (h2 b hb))]
        simp
      | _ => first | (simp [pl] at h2; done) | (exact ⟨fun h => absurd (show false = true from h) (by decide), fun h => by cases h⟩)
theorem pl_ints (l : List Int) : pl 1 (.list (l.map PyData.int)) := by
  simp only [pl]
  intro d hd
  obtain ⟨i, _, rfl⟩ := List.mem_map.mp hd
  simp [pl]
theorem pl_intsT (l : List Int) : pl 1 (.tuple (l.map PyData.int)) := by
  simp only [pl]
  intro d hd
  obtain ⟨i, _, rfl⟩ := List.mem_map.mp hd
  simp [pl]
section
variable {K : PySem.W.Frag} {H : Hp}
theorem dps_ints : ∀ (l : List Int), DpAll K H (l.map V.int) (l.map PyData.int)
  | [] => .nil
  | i :: l => .cons (.int i) (dps_ints l)
theorem dp_ints {a : Addr} {l : List Int} (h : SqL K H a (l.map V.int)) : Dp K H (.ref a) (.list (l.map PyData.int)) := .lst h (dps_ints l)
theorem dp_nilL {a : Addr} (h : SqL K H a []) : Dp K H (.ref a) (.list []) := .lst h .nil
theorem dp_nilT {a : Addr} (h : SqT K H a []) : Dp K H (.ref a) (.tuple []) := .tup h .nil
end
theorem room1 {k : Nat} {A : Around} (h : Room k A) : A.units + 1 < cLine := by have := h.units; omega
/-- the state after a put at "spot" -/
theorem g_spot {H : Hp} {m c g : Addr} {n : Int} {k : Int} (d : Dr H m c g n) {P : Hp → Prop} (h : ∀ H1, H1 = upd H m (.dK [(Sum.inr "cells", .ref c), (Sum.inr "great", .ref g), (Sum.inr "spot", .int k)]) → P H1) :
    ∃ a' H', V.ref m = V.ref a' ∧ DPut H a' (.str "spot") (.int k) H' ∧ P H' :=
  ⟨m, _, rfl, Or.inl ⟨_, Sum.inr "spot", d.dict, rfl, by show (3 : Nat) < sizeLine; decide, rfl⟩, h _ rfl⟩
theorem pl_nilL : pl 1 (.list []) := by simp [pl]
theorem pl_nilT : pl 1 (.tuple []) := by simp [pl]
section
variable {σ : L2.St} {H : Hp}
theorem g_disp {trs : List (TE × TE)} {Q : VK} (h : ∀ p, H p = none → tPairs trs σ (upd H p (.dK [])) fun ps H2 => H2 p = some (.dK []) ∧ ∃ kvs, ps = List.map (fun kv => (kV kv.fst, kv.snd)) kvs ∧ kvs.length ≤ 15 ∧ Q (.ref p) (upd H2 p (.dK (mergeK [] kvs)))) : tDisp trs σ H Q := h
theorem g_pcons {tk tv : TE} {r : List (TE × TE)} {Q : List (V × V) → Hp → Prop} (h : tk σ H fun x H1 => tv σ H1 fun y H2 => tPairs r σ H2 fun ps H3 => Q ((x, y) :: ps) H3) : tPairs ((tk, tv) :: r) σ H Q := h
theorem g_pnil {Q : List (V × V) → Hp → Prop} (h : Q [] H) : tPairs [] σ H Q := h
theorem g_lst' {t : TA} {Q : VK} (h : t σ H fun xs H1 => xs.length ≤ sizeLine ∧ ∀ p, H1 p = none → Q (.ref p) (upd H1 p (.lst xs))) : tLst t σ H Q := h
end
abbrev drK (c g : Addr) (n : Int) : List (Key × V) := [(Sum.inr "cells", .ref c), (Sum.inr "great", .ref g), (Sum.inr "spot", .int n)]
theorem merge_dr (c g : Addr) (n : Int) : mergeK [] (drK c g n) = drK c g n := rfl
theorem len_dr (c g : Addr) (n : Int) : (drK c g n).length ≤ 15 := by show 3 ≤ 15; decide
def spBegun (K : PySem.W.Frag) : Sp := fun vs H Q _ => ∃ (a : Addr) (ns : List Int), vs = [.ref a] ∧ SqL K H a (ns.map V.int) ∧ ns.length ≤ 63 ∧
  ∀ (m c g : Addr) (H' : Hp), Dr H' m c g 0 → (∀ b o, H b = some o → H' b = some o) → Q (.ref m) H'
end WL
set_option Elab.async false
set_option linter.all false
set_option maxRecDepth 100000
set_option maxHeartbeats 4000000
namespace WL
open PySem PySem.Spec PyProof.Rows L2
theorem sz {n : Nat} (h : n ≤ 100000) : n ≤ sizeLine := Nat.le_trans h (by decide)
theorem szl {n : Nat} (h : n ≤ 100000) : n < sizeLine := Nat.lt_of_le_of_lt h (by decide)
theorem g_tup' {σ : L2.St} {H : Hp} {t : TA} {Q : VK} (h : t σ H fun xs H1 => xs.length ≤ sizeLine ∧ ∀ p, H1 p = none → Q (.ref p) (upd H1 p (.tup xs))) : tTup t σ H Q := h
theorem g_bmL {K : PySem.W.Frag} {σ : L2.St} {H : Hp} {t : TA} {Q : VK} {p : Addr} {i : Nat} {xs : List V} {r : V → List V → Hp → VK → Prop} (e : σ[i]? = some (some (.ref p))) (h1 : H p = some (.lst xs)) (h : t σ H fun ys H2 => r (.ref p) ys H2 Q) : tBM K "list" r (tVar i) t σ H Q :=
  ⟨_, e, Or.inl ⟨rfl, xs, SqL.of h1⟩, h⟩
theorem g_ixPick {K : PySem.W.Frag} {H : Hp} {Q : VK} {p : Addr} {xs : List V} {i : Int} (h1 : SqL K H p xs) (h0 : 0 ≤ i) (h2 : i < xs.length) (h : ∀ v ∈ xs, Q v H) : rIxL K (.ref p) (.int i) H Q := by
  have hl : i.toNat < xs.length := by omega
  exact g_ixL h1 (atI_at (v := xs[i.toNat]) h0 (by simp [hl])) (h _ (List.getElem_mem hl))
/-! ### nothing new but tuples -/
inductive Nt (H : Hp) : Hp → Prop
  | refl : Nt H H
  | new {H' : Hp} {p : Addr} {xs : List V} : Nt H H' → H' p = none → Nt H (upd H' p (.tup xs))
theorem Nt.same {H H' : Hp} (h : Nt H H') : ∀ b o, H b = some o → H' b = some o := by
  induction h with
  | refl => exact fun _ _ h => h
  | new _ n ih => intro b o h; rw [upd_ne (ne_of_none (ih b o h) n)]; exact ih b o h
theorem Nt.tk {H H' : Hp} (h : Nt H H') : Tk H H' := Tk.same h.same
theorem Nt.trans {H H1 H2 : Hp} (a : Nt H H1) (b : Nt H1 H2) : Nt H H2 := by
  induction b with
  | refl => exact a
  | new _ n ih => exact .new ih n
theorem Nt.pr {m c g : Addr} {H0 H H' : Hp} {B : Int} (p : Pr m c g H0 H B) (h : Nt H H') : Pr m c g H0 H' B := by
  induction h with
  | refl => exact p
  | new _ n ih => exact ih.new n
theorem g_slA {K : PySem.W.Frag} {H : Hp} {Q : VK} {a : Addr} {xs : List V} {lo hi : Option Int} (h : H a = some (.tup xs)) (q : ∀ a' H', Nt H H' → H' a' = some (.tup (cutV xs lo hi)) → Q (.ref a') H') : rSlA K (.ref a) lo hi H Q := by
  refine ⟨a, xs, rfl, SqT.of h, fun e => q a H .refl ?_, fun _ p np => q p _ (.new .refl np) upd_same⟩
  rw [h]
  unfold cutV
  rw [e.1, e.2]
  simp
theorem g_catA {K : PySem.W.Frag} {H : Hp} {Q : VK} {a b : Addr} {xs ys : List V} (h1 : H a = some (.tup xs)) (h2 : H b = some (.tup ys)) (hl : xs.length + ys.length ≤ 100000) (q : ∀ a' H', Nt H H' → H' a' = some (.tup (xs ++ ys)) → Q (.ref a') H') : rCatA K (.ref a) (.ref b) H Q := by
  refine ⟨a, b, xs, ys, rfl, rfl, SqT.of h1, SqT.of h2, sz hl, fun e => q b H .refl ?_, fun _ e => q a H .refl ?_, fun _ _ p np => q p _ (.new .refl np) upd_same⟩
  · rw [h2, e]; rfl
  · rw [h1, e, List.append_nil]
theorem g_tupN {σ : L2.St} {H : Hp} {t : TA} {Q : VK} (h : t σ H fun xs H1 => xs.length ≤ 100000 ∧ ∀ p H', Nt H1 H' → H' p = some (.tup xs) → Q (.ref p) H') (mt : ∀ (P P' : List V → Hp → Prop), (∀ xs H, P xs H → P' xs H) → t σ H P → t σ H P') : tTup t σ H Q :=
  mt _ _ (fun xs H1 ⟨h1, h2⟩ => ⟨sz h1, fun p np => h2 p _ (.new .refl np) upd_same⟩) h
theorem cut_take (xs : List V) {i : Int} (h0 : 0 ≤ i) : cutV xs none (some i) = xs.take i.toNat := by
  unfold cutV HT.sIx
  simp only [Nat.sub_zero, List.drop_zero]
  rw [if_neg (by omega)]
  rcases Nat.le_total i.toNat xs.length with q | q
  · rw [Nat.min_eq_left q]
  · rw [Nat.min_eq_right q, List.take_length, List.take_of_length_le q]
theorem cut_drop (xs : List V) {i : Int} (h0 : 0 ≤ i) : cutV xs (some i) none = xs.drop i.toNat := by
  unfold cutV HT.sIx
  simp only
  rw [if_neg (by omega)]
  rcases Nat.le_total i.toNat xs.length with q | q
  · rw [Nat.min_eq_left q, List.take_of_length_le (by simp)]
  · rw [Nat.min_eq_right q]; simp [q]
theorem g_andT {t u : TT} {σ : L2.St} {H : Hp} {Q : Bool → Hp → Prop} (h : t σ H fun c H1 => if c = true then u σ H1 Q else Q false H1) : tAnd t u σ H Q := h
theorem g_orT {t u : TT} {σ : L2.St} {H : Hp} {Q : Bool → Hp → Prop} (h : t σ H fun c H1 => if c = true then Q true H1 else u σ H1 Q) : tOr t u σ H Q := h
theorem g_notT {t : TT} {σ : L2.St} {H : Hp} {Q : Bool → Hp → Prop} (h : t σ H fun c H1 => Q (!c) H1) : tNot t σ H Q := h
theorem g_sl {r : V → Option Int → Option Int → Hp → VK → Prop} {te : TE} {tl th : TO} {σ : L2.St} {H : Hp} {Q : VK} (h : te σ H fun x H1 => tl σ H1 fun l H2 => th σ H2 fun u H3 => r x l u H3 Q) : tSl r te tl th σ H Q := h
theorem g_part {t : TE} {σ : L2.St} {H : Hp} {Q : Option Int → Hp → Prop} (h : t σ H fun x H1 => ∃ i, x = V.int i ∧ Q (some i) H1) : tPart t σ H Q := h
theorem g_parI {i : Int} {P : Int → Prop} (h : P i) : ∃ j, V.int i = V.int j ∧ P j := ⟨i, rfl, h⟩
theorem g_noPart {σ : L2.St} {H : Hp} {Q : Option Int → Hp → Prop} (h : Q none H) : tNoPart σ H Q := h
theorem g_ifR {c : TT} {t u : TS} {D : Ends} {σ : L2.St} {H : Hp} (R : Bool → Hp → Prop) (h : ∀ Q : Bool → Hp → Prop, (∀ b H', R b H' → Q b H') → c σ H Q) (h2 : ∀ b H', R b H' → if b = true then t D σ H' else u D σ H') : tIfS c t u D σ H := h _ h2
theorem g_join {t u : TS} {D : Ends} {σ : L2.St} {H : Hp} (R : L2.St → Hp → Prop) (h : ∀ D' : Ends, (∀ σ' H', R σ' H' → D'.nx σ' H') → D'.rt = D.rt → D'.bk = D.bk → D'.ct = D.ct → t D' σ H) (h2 : ∀ σ' H', R σ' H' → u D σ' H') : tSeq t u D σ H := h { D with nx := u D } h2 rfl rfl rfl
theorem g_teR {te : TE} {σ : L2.St} {H : Hp} {Q : VK} (R : V → Hp → Prop) (h : ∀ Q : VK, (∀ v H', R v H' → Q v H') → te σ H Q) (h2 : ∀ v H', R v H' → Q v H') : te σ H Q := h _ h2
section
variable {u : TS} {D : Ends} {σ : L2.St} {H : Hp}
theorem g_proj {nx : L2.St → Hp → Prop} {rt : VK} {bk ct : L2.St → Hp → Prop} (h : nx σ H) : (Ends.mk nx rt bk ct).nx σ H := h
theorem g_seqAsg {te : TE} {g : TG} (h : tAsg te g { D with nx := u D } σ H) : tSeq (tAsg te g) u D σ H := h
theorem g_seqDrop {te : TE} (h : tDrop te { D with nx := u D } σ H) : tSeq (tDrop te) u D σ H := h
theorem g_seqPut {a b c : TE} (h : sDPut a b c { D with nx := u D } σ H) : tSeq (sDPut a b c) u D σ H := h
theorem g_seqPar {i j : Nat} {ta : TA} (h : tPar i j ta { D with nx := u D } σ H) : tSeq (tPar i j ta) u D σ H := h
end
/-! ### what a diary is made of, and perhaps one of its calendars -/
structure Book where
  c : Int
  notes : List (Option Int)
  lines : List (Int × Int × Int)
  dates : Option (List Int)
def noteV : Option Int → V
  | none => .non
  | some i => .int i
def noteD : Option Int → PyData
  | none => .none
  | some i => .int i
def lineD (l : Int × Int × Int) : PyData := .tuple [.int l.1, .int l.2.1, .int l.2.2]
def datesD : Option (List Int) → PyData
  | none => .none
  | some xs => .tuple (xs.map .int)
def notesD (ns : List (Option Int)) : PyData := .tuple (ns.map noteD)
def linesD (ls : List (Int × Int × Int)) : PyData := .tuple (ls.map lineD)
def Book.d (b : Book) : PyData := .tuple [.int b.c, notesD b.notes, linesD b.lines, datesD b.dates]
/-- the days are a calendar -/
structure Cal (c : Int) (notes : List (Option Int)) (lines : List (Int × Int × Int)) (xs : List Int) : Prop where
  len : xs.length = notes.length
  days : ∀ (n : Nat) (i x : Int), notes[n]? = some (some i) → xs[n]? = some x → x % c = i
  gaps : ∀ l ∈ lines, ∀ x y : Int, xs[l.1.toNat]? = some x → xs[l.2.1.toNat]? = some y → y - x ≤ l.2.2
/-- values of a diary -/
structure DOK (c : Int) (notes : List (Option Int)) (lines : List (Int × Int × Int)) (w : Int) : Prop where
  c2 : 2 ≤ c
  c100 : c ≤ 100
  n1 : 1 ≤ notes.length
  n16 : notes.length ≤ 16
  note : ∀ i : Int, some i ∈ notes → 0 ≤ i ∧ i < c
  line : ∀ l ∈ lines, (0 ≤ l.1 ∧ l.1 < notes.length) ∧ (0 ≤ l.2.1 ∧ l.2.1 < notes.length) ∧ -w ≤ l.2.2 ∧ l.2.2 ≤ w
structure Book.OK (b : Book) (w : Int) (most : Nat) : Prop where
  dok : DOK b.c b.notes b.lines w
  many : b.lines.length ≤ most
  cal : ∀ xs, b.dates = some xs → Cal b.c b.notes b.lines xs
theorem Book.OK.le {b : Book} {w w' : Int} {q q' : Nat} (h : b.OK w q) (h1 : w ≤ w') (h2 : q ≤ q') : b.OK w' q' := by
  obtain ⟨⟨a1, a2, a3, a4, a5, a6⟩, h3, h4⟩ := h
  refine ⟨⟨a1, a2, a3, a4, a5, fun l hl => ?_⟩, by omega, h4⟩
  obtain ⟨x, y, z, u⟩ := a6 l hl
  exact ⟨x, y, by omega, by omega⟩
section
variable {H : Hp}
theorem fz_note : ∀ n : Option Int, Fz H (noteV n) (noteD n)
  | none => .non
  | some i => .int i
theorem fzs_notes : ∀ ns : List (Option Int), Fzs H (ns.map noteV) (ns.map noteD)
  | [] => .nil
  | n :: ns => .cons (fz_note n) (fzs_notes ns)
theorem fzs_notes_inv : ∀ {ns : List (Option Int)} {vs : List V}, Fzs H vs (ns.map noteD) → vs = ns.map noteV
  | [], _, h => by cases h; rfl
  | none :: ns, _, h => by
    cases h with
    | cons a b => rw [a.non_inv, fzs_notes_inv b]; rfl
  | some i :: ns, _, h => by
    cases h with
    | cons a b => rw [a.int_inv, fzs_notes_inv b]; rfl
theorem fz_line_inv {v : V} {l : Int × Int × Int} (h : Fz H v (lineD l)) : ∃ a, v = .ref a ∧ H a = some (.tup [.int l.1, .int l.2.1, .int l.2.2]) := by
  obtain ⟨a, xs, rfl, h1, h2⟩ := Fz.tup_inv h
  have e : xs = [V.int l.1, .int l.2.1, .int l.2.2] := Fzs.ints (is := [l.1, l.2.1, l.2.2]) h2
  exact ⟨a, rfl, by rw [h1, e]⟩
theorem fz_line {a : Addr} {o f h : Int} (e : H a = some (.tup [.int o, .int f, .int h])) : Fz H (.ref a) (lineD (o, f, h)) := .tup e (Fzs.of_ints [o, f, h])
theorem fz_notes_inv {v : V} {ns : List (Option Int)} (h : Fz H v (notesD ns)) : ∃ a, v = .ref a ∧ H a = some (.tup (ns.map noteV)) := by
  obtain ⟨a, xs, rfl, h1, h2⟩ := Fz.tup_inv h
  exact ⟨a, rfl, by rw [h1, fzs_notes_inv h2]⟩
theorem fz_notes {a : Addr} {ns : List (Option Int)} (e : H a = some (.tup (ns.map noteV))) : Fz H (.ref a) (notesD ns) := .tup e (fzs_notes ns)
theorem book_inv {v : V} {b : Book} (h : Fz H v b.d) : ∃ a na la dv, v = .ref a ∧ H a = some (.tup [.int b.c, .ref na, .ref la, dv]) ∧ H na = some (.tup (b.notes.map noteV)) ∧ (∃ rows, H la = some (.tup rows) ∧ Fzs H rows (b.lines.map lineD)) ∧ Fz H dv (datesD b.dates) := by
  obtain ⟨a, xs, rfl, h1, h2⟩ := Fz.tup_inv h
  cases h2 with
  | cons c1 h2 => cases h2 with
    | cons c2 h2 => cases h2 with
      | cons c3 h2 => cases h2 with
        | cons c4 h2 =>
          cases h2
          obtain ⟨na, rfl, hn⟩ := fz_notes_inv c2
          obtain ⟨la, rows, rfl, hl, hr⟩ := Fz.tup_inv c3
          rw [c1.int_inv] at h1
          exact ⟨a, na, la, _, rfl, h1, hn, ⟨rows, hl, hr⟩, c4⟩
theorem book_mk {a : Addr} {c : Int} {n l d : V} {ns : List (Option Int)} {ls : List (Int × Int × Int)} {ds : Option (List Int)} (h : H a = some (.tup [.int c, n, l, d])) (hn : Fz H n (notesD ns)) (hl : Fz H l (linesD ls)) (hd : Fz H d (datesD ds)) : Fz H (.ref a) (Book.d ⟨c, ns, ls, ds⟩) :=
  .tup h (.cons (.int c) (.cons hn (.cons hl (.cons hd .nil))))
end
theorem pl_mono' {n k : Nat} {d : PyData} (h : pl n d) (hk : n ≤ k) : pl k d := by
  induction hk with
  | refl => exact h
  | step _ ih => exact pl_mono ih
theorem pl_notes (ns : List (Option Int)) : pl 1 (notesD ns) := by
  show ∀ d ∈ ns.map noteD, pl 0 d
  intro d hd
  obtain ⟨n, _, rfl⟩ := List.mem_map.mp hd
  cases n <;> simp [noteD, pl]
theorem pl_line (l : Int × Int × Int) : pl 1 (lineD l) := by simp [lineD, pl]
theorem pl_lines (ls : List (Int × Int × Int)) : pl 2 (linesD ls) := by
  show ∀ d ∈ ls.map lineD, pl 1 d
  intro d hd
  obtain ⟨l, _, rfl⟩ := List.mem_map.mp hd
  exact pl_line l
theorem fzs_row {H : Hp} {rows : List V} {ls : List (Int × Int × Int)} (h : Fzs H rows (ls.map lineD)) {i : Nat} (hi : i < ls.length) : ∃ r, rows[i]? = some (.ref r) ∧ H r = some (.tup [.int ls[i].1, .int ls[i].2.1, .int ls[i].2.2]) := by
  obtain ⟨v, h1, h2⟩ := h.get_d (i := i) (d := lineD ls[i]) (by simp [hi])
  obtain ⟨r, rfl, h3⟩ := fz_line_inv h2
  exact ⟨r, h1, h3⟩
theorem dok_lines {c w w' : Int} {ns : List (Option Int)} {ls ls' : List (Int × Int × Int)} (h : DOK c ns ls w) (q : ∀ l ∈ ls', (l ∈ ls ∧ w ≤ w') ∨ ((0 ≤ l.1 ∧ l.1 < ns.length) ∧ (0 ≤ l.2.1 ∧ l.2.1 < ns.length) ∧ -w' ≤ l.2.2 ∧ l.2.2 ≤ w')) : DOK c ns ls' w' := by
  obtain ⟨a1, a2, a3, a4, a5, a6⟩ := h
  refine ⟨a1, a2, a3, a4, a5, fun l hl => ?_⟩
  rcases q l hl with ⟨h, hw⟩ | h
  · obtain ⟨x, y, z, u⟩ := a6 l h
    exact ⟨x, y, by omega, by omega⟩
  · exact h
theorem dok_notes {c w w' : Int} {ns ns' : List (Option Int)} {ls : List (Int × Int × Int)} (h : DOK c ns ls w) (hw : w ≤ w') (hl : ns'.length = ns.length) (q : ∀ i : Int, some i ∈ ns' → some i ∈ ns ∨ (0 ≤ i ∧ i < c)) : DOK c ns' ls w' := by
  obtain ⟨a1, a2, a3, a4, a5, a6⟩ := h
  refine ⟨a1, a2, by omega, by omega, fun i hi => ?_, fun l h => ?_⟩
  · rcases q i hi with h | h
    · exact a5 i h
    · exact h
  · obtain ⟨x, y, z, u⟩ := a6 l h
    rw [hl]
    exact ⟨x, y, by omega, by omega⟩
theorem cut_len {α : Type} (xs : List α) (i : Nat) (x : α) (h : i < xs.length) : (xs.take i ++ [x] ++ xs.drop (i + 1)).length = xs.length := by
  simp only [List.length_append, List.length_take, List.length_cons, List.length_nil, List.length_drop]
  omega
theorem cut_mem {α : Type} {xs : List α} {i : Nat} {x y : α} (h : y ∈ xs.take i ++ [x] ++ xs.drop (i + 1)) : y ∈ xs ∨ y = x := by
  simp only [List.mem_append, List.mem_cons, List.not_mem_nil, or_false] at h
  rcases h with (h | h) | h
  · exact Or.inl (List.mem_of_mem_take h)
  · exact Or.inr h
  · exact Or.inl (List.mem_of_mem_drop h)
/-! ### promises -/
def spSlack : Sp := fun vs H Q _ => ∃ (m c g : Addr) (B cy : Int), vs = [.ref m, .int cy] ∧ Pr m c g H H B ∧ B < 2 ^ 28 ∧ (2 ≤ cy ∧ cy ≤ 100) ∧ ∀ (k : Int) (H' : Hp), 0 ≤ k → k < 5 * cy → Pr m c g H H' (B + 4) → Q (.int k) H'
def spBook : Sp := fun vs H Q _ => ∃ (m c g : Addr) (B cy cr lm : Int), vs = [.ref m, .int cy, .int cr, .int lm] ∧ Pr m c g H H B ∧ B < 2 ^ 27 ∧ (2 ≤ cy ∧ cy ≤ 100) ∧ (1 ≤ cr ∧ cr ≤ 16) ∧ (0 ≤ lm ∧ lm ≤ 60) ∧
  ∀ (v : V) (b : Book) (H' : Hp), Fz H' v b.d → b.c = cy → b.notes.length = cr.toNat → b.OK 1000 lm.toNat → b.dates.isSome = true → Pr m c g H H' (B + 400) → Q v H'
def spBent : Sp := fun vs H Q _ => ∃ (m c g : Addr) (B : Int) (v : V) (b : Book) (wd : Int) (most : Nat), vs = [.ref m, v] ∧ Pr m c g H H B ∧ B < 2 ^ 27 ∧ Fz H v b.d ∧ b.OK wd most ∧ most ≤ 1000 ∧ wd < 2 ^ 40 ∧
  ∀ (v' : V) (b' : Book) (H' : Hp), Fz H' v' b'.d → b'.c = b.c → b'.notes.length = b.notes.length → b'.OK (wd + 201) most → b'.dates = none → Pr m c g H H' (B + 3) → Q v' H'
def spAnyBook : Sp := fun vs H Q _ => ∃ (m c g : Addr) (B peak : Int), vs = [.ref m, .int peak] ∧ Pr m c g H H B ∧ B < 2 ^ 26 ∧ (2 ≤ peak ∧ peak ≤ 16) ∧
  ∀ (v : V) (b : Book) (H' : Hp), Fz H' v b.d → 2 ≤ b.notes.length → b.OK 2000 48 → Pr m c g H H' (B + 500) → Q v H'
theorem Fzs.snoc {H : Hp} {vs : List V} {ds : List PyData} {v : V} {d : PyData} (h : Fzs H vs ds) (q : Fz H v d) : Fzs H (vs ++ [v]) (ds ++ [d]) := h.append (.cons q .nil)
end WL
set_option Elab.async false
set_option linter.all false
set_option maxRecDepth 100000
set_option maxHeartbeats 4000000
namespace WL
open PySem PySem.Spec PyProof.Rows L2
/-! ### enumerate over whatever begins a walk (a tuple too), without a start -/
theorem meets_enum1 {v : Value} {o : Obj} {Hb : Heap → Prop} (b : Begins v o Hb) : Meets (Builtin.«enumerate.__new__» { pos := [.type "enumerate", v] }) fun x R s => Hb s.heap ∧
    R (.ok (.ret (.ref (s.heap.push o).objs.size))) { heap := (s.heap.push o).push { cls := .type "enumerate", data := .fields #[.none, .bool false, .ref s.heap.objs.size, rawInt 0, .none, .none] }, gens := s.gens, drawn := s.drawn, toks := s.toks, os := s.os } := by
  refine Meets.of_wp fun prog w A R s h => ?_
  obtain ⟨hl, h⟩ := h
  refine wpAny_bind (id (wpAny_bind (id (wpAny_pure (wpAny_ite_false rfl (wpAny_bind (wpAny_of_eq sub_enumerate (wpAny_ite_false rfl (wpAny_pure (wpAny_ite_true rfl (wpAny_bind (id (wpAny_bind (wpAny_stack_any fun st => wpAny_pure ?_))))))))))))))
  have fin : wpAny (model prog w) A.in1 (pyIter v >>= fun it => Builtin.SmallTypes.newRecord (Value.type "enumerate") (Builtin.SmallTypes.ownedTupleFields ++ [it, rawInt 0, Value.none, Value.none]) >>= fun r => ret r) (fun fin s' => ∃ v, fin = Fin.done (Flow.ret v) ∧ R (Except.ok (Flow.ret v)) s') (fun e s' => R (Except.error e) s') s := by
    refine wpAny_bind (b.iter _ _ _ _ _ _ hl ?_)
    refine wpAny_bind ?_
    unfold Builtin.SmallTypes.newRecord
    show wpAny _ _ (newObj _ _) _ _ _
    unfold newObj
    show wpAny _ _ (if (Builtin.SmallTypes.ownedTupleFields ++ [Value.ref s.heap.objs.size, rawInt 0, Value.none, Value.none]).toArray.size > sizeLine + 2 then _ else newObjAsIs (.type "enumerate") (.fields (Builtin.SmallTypes.ownedTupleFields ++ [Value.ref s.heap.objs.size, rawInt 0, Value.none, Value.none]).toArray)) _ _ _
    refine wpAny_ite_false rfl ?_
    refine wpAny_bind (wpAny_alloc' (wpAny_pure ?_))
    exact wpAny_pure ⟨_, rfl, h⟩
  split
  · next c tl kw snd t2 _ =>
    cases hc : (c == Value.type "enumerate") with
    | false =>
      refine wpAny_ite_false rfl (wpAny_bind ?_)
      show wpAny _ _ (pure (v, none)) _ _ _
      exact wpAny_pure fin
    | true =>
      refine wpAny_ite_true rfl (wpAny_bind ?_)
      exact wpAny_pure fin
  · refine wpAny_ite_false rfl (wpAny_bind ?_)
    show wpAny _ _ (pure (v, none)) _ _ _
    exact wpAny_pure fin
theorem call_enum1 {prog : Program} {w : World} {A : Around} {E : Value → Shared → Prop} {s : Shared} {v : Value} {o : Obj} {Hb : Heap → Prop} {Q : Value → Shared → Prop} (b : Begins v o Hb) (hH : Hb s.heap)
    (h : ∀ h' : Heap, IsEnum h' (s.heap.objs.size + 1) s.heap.objs.size 0 .none → h'.get? s.heap.objs.size = some o → (∀ (b : Addr) (u : Obj), s.heap.get? b = some u → h'.get? b = some u) → Q (.ref (s.heap.objs.size + 1)) { heap := h', gens := s.gens, drawn := s.drawn, toks := s.toks, os := s.os }) :
    wpAny (model prog w) A (call (.type "enumerate") [v]) Q E s := by
  refine callType_new F.called_enumerate (of_decide_eq_true (id (Eq.refl true))) (F.typeCall_enumerate_1 v) (F.newCall_enumerate_1 v) (fun obj => F.args_object_init_2 obj v) F.entry_enumerate_new (meets_enum1 b) ⟨hH, ?_⟩
  have hz := Heap.size_push s.heap o
  have he := Heap.get?_push_size (s.heap.push o) (o := { cls := .type "enumerate", data := .fields #[.none, .bool false, .ref s.heap.objs.size, rawInt 0, .none, .none] }) rfl
  rw [hz] at he ⊢
  refine ⟨⟨_, he, rfl⟩, h _ he ?_ ?_⟩
  · rw [Heap.get?_push_ne _ _ _ (by rw [hz]; exact Nat.ne_of_lt (Nat.lt_succ_self _))]
    exact Heap.get?_push_size s.heap b.free
  · intro c u hc
    exact Heap.get?_push_of_some _ (Heap.get?_push_of_some _ hc)
/-- what enumerate of the tuple at a gives -/
def IteT (K : PySem.W.Frag) (a : Addr) (xs : List V) : It where
  go := fun i H => SqT K H a xs ∧ i < xs.length
  yld := fun i H v H' => ∃ T x, v = .ref T ∧ H T = none ∧ H' = upd H T (.tup [.int (i : Nat), x]) ∧ xs[i]? = some x
  stop := fun i H => SqT K H a xs ∧ i = xs.length
def iEnumT (K : PySem.W.Frag) (ta : TA) : TI := fun σ H R => ta σ H fun vs H1 => ∃ a xs, vs = [.ref a] ∧ SqT K H1 a xs ∧ R (IteT K a xs) H1
theorem turn_enumT {P : Program} {w : World} {K : PySem.W.Frag} {elts : List Expr} {kk : Nat} {tpos : Pos} (a e it : Addr) (xs : List V) :
    Turn P w K (.Tuple elts kk tpos) (IteT K a xs) [e, it] e fun i h => (∃ old, IsEnum h e it (i : Nat) old) ∧ h.IsTupleIter it a i ∧ e ≠ it ∧ a ≠ it ∧ a ≠ e where
  mem := by simp
  obj := by
    rintro i h ⟨⟨old, he⟩, ⟨o, ho, hc, hd⟩, _⟩ b hb
    simp only [List.mem_cons, List.not_mem_nil, or_false] at hb
    rcases hb with rfl | rfl
    · exact ⟨_, he, fun v q => by cases q⟩
    · exact ⟨_, ho, fun v q => by rw [hd] at q; cases q⟩
  keep := by
    rintro i h h' ⟨⟨old, he⟩, hi, hne⟩ k
    exact ⟨⟨old, k e (by simp) _ he⟩, Heap.IsTupleIter.at hi (fun o q => k it (by simp) o q), hne⟩
  item := by
    intro X hP hw hK hc i pins s σ H E I hf st hg
    subst hP; subst hw; subst hK
    obtain ⟨⟨old, he⟩, hit, hne, h1, h2⟩ := st
    obtain ⟨hq, hlt⟩ := hg
    obtain ⟨its, rv, ht, hz⟩ := Inv.tuple I hq
    obtain ⟨u, hu, ru⟩ := Vals.get rv (i := i) (x := xs[i]) (by simp [hlt])
    have hel := Heap.lt_size he
    have hil : it < s.heap.objs.size := by obtain ⟨o, ho, _⟩ := hit; exact Heap.lt_size ho
    have hln := rv.length
    have htt : s.heap.IsTuple a its.toArray := ht
    refine wpAny_pyNext_enum_itemD (Draws.tuple (A := X.A.in1) (show X.A.in1.handled = none from I.ok.hd hc) it a h1 its.toArray) he ⟨hit, htt⟩ (by simp only [List.size_toArray]; omega) hne (by simp [hne, Ne.symm h2]) fun x h' tk hx ho hst hT hsz hk => ?_
    have ex : x = u := by
      have : its[i]? = some x := by simpa using hx
      rw [hu] at this
      exact (Option.some.inj this).symm
    subst ex
    refine ⟨_, rfl, wpAny_letOwnedTupleGo_enum ho fun h'' he' sb => ?_⟩
    have hT2 := (sb.2 s.heap.objs.size (Nat.ne_of_gt hel)).trans hT
    have I1 := Inv.turnedNew (h' := h'') (ch := [e, it]) (T := s.heap.objs.size) (ob := .tup [.int (i : Nat), xs[i]]) (t' := tk + 1) I
      (fun b ob hb q => (sb.2 b (fun z => hb (by simp [z]))).trans (hk b ob (fun z => hb (by simp [z])) (fun z => hb (by simp [z])) q)) hf (Nat.le_refl _)
      ⟨sz (by simp), [.int (i : Nat) tk, x], .cons ⟨tk, rfl⟩ (.cons ru .nil), _, hT2, rfl, 0, rfl⟩
    refine ⟨.ref s.heap.objs.size, _, I1, rfl, ⟨_, _, rfl, HOk.fresh I.hok (Nat.le_refl _), rfl, by simp [hlt]⟩, ⟨⟨x, he'⟩, ?_, hne, h1, h2⟩, fun b hb => ?_⟩
    · exact Heap.IsTupleIter.at hst.1 (fun o q => (sb.2 it (Ne.symm hne)).trans q)
    · have hb' : b < s.heap.objs.size := by
        simp only [List.mem_cons, List.not_mem_nil, or_false] at hb
        rcases hb with rfl | rfl
        · exact hel
        · exact hil
      rw [upd_ne (Nat.ne_of_lt hb')]
      exact (hf b hb).1
  done := by
    intro X hP hw hK hc i pins s σ H E I hf st hg
    subst hP; subst hw; subst hK
    obtain ⟨⟨old, he⟩, hit, hne, h1, h2⟩ := st
    obtain ⟨hq, hle⟩ := hg
    obtain ⟨its, rv, ht, hz⟩ := Inv.tuple I hq
    have hln := rv.length
    obtain ⟨f0, f1, f2, f3, f4, f5⟩ := hf it (by simp)
    have hi : i = its.toArray.size := by simp only [List.size_toArray]; omega
    subst hi
    refine wpAny_pyNext_enum_endD (Draws.tuple (A := X.A.in1) (show X.A.in1.handled = none from I.ok.hd hc) it a h1 its.toArray) he ⟨hit, ht⟩ fun h' eb => ⟨rfl, ?_⟩
    exact Inv.turned I (fun b o hb q => eb b o hb q) f0 f1 f3 f4 f5
  self := by
    rintro A i s Q E ⟨⟨old, he⟩, _⟩ h
    exact wpAny_pyIter_enum he h
theorem pi_enumT {X : Cx} {e : Expr} {ta : TA} {p pos tpos : Pos} {elts : List Expr} {kk : Nat} (hg : Gl X "enumerate") (hm : X.mg "enumerate" = none) (ha : PA X [e] ta) (hs : starEach [e] X.env = [(false, eval e X.env)] := by rfl) :
    PI X (.Tuple elts kk tpos) (.Call (.Name "enumerate" p) [e] [] pos) (iEnumT X.K ta) := by
  constructor
  intro pins s σ H R I h
  refine PyProof.Rows.Call_ (ld_blt I hg hm PyProof.Rows.boot_enumerate (PyProof.Rows.callWith_type1 (thn (ha.run pos pins s σ H _ I h) ?_) hs rfl))
  rintro us s1 ⟨vs, H1, I1, r1, a, xs, rfl, hq, q⟩
  cases r1 with
  | cons r rr =>
    cases rr
    cases r
    obtain ⟨its, rv, ht, hz⟩ := Inv.tuple I1 hq
    have hlt : a < s1.heap.objs.size := by obtain ⟨o, ho, _⟩ := ht; exact Heap.lt_size ho
    refine call_enum1 (begins_tuple a its.toArray) ht fun h' he hit hk => ?_
    refine wpAny_pyIter_enum he ?_
    have I2 := Inv.kept (t' := s1.toks) I1 hk
    refine ⟨_, [s1.heap.objs.size + 1, s1.heap.objs.size], _, IteT X.K a xs, H1, rfl, I2, turn_enumT a (s1.heap.objs.size + 1) s1.heap.objs.size xs, ⟨⟨_, he⟩, ⟨_, hit, rfl, rfl⟩, Nat.succ_ne_self _, Nat.ne_of_lt hlt, Nat.ne_of_lt (Nat.lt_succ_of_lt hlt)⟩, fun b hb => ?_, q⟩
    have hle : s1.heap.objs.size ≤ b := by
      simp only [List.mem_cons, List.not_mem_nil, or_false] at hb
      rcases hb with rfl | rfl
      · exact Nat.le_succ _
      · exact Nat.le_refl _
    exact Inv.fpOk I1 hle (HOk.fresh I1.hok hle)
theorem g_enumT {K : PySem.W.Frag} {σ : L2.St} {H : Hp} {ta : TA} {R : It → Hp → Prop} (h : ta σ H fun vs H1 => ∃ a xs, vs = [.ref a] ∧ SqT K H1 a xs ∧ R (IteT K a xs) H1) : iEnumT K ta σ H R := h
theorem g_one'T {K : PySem.W.Frag} {a : Addr} {xs : List V} {H : Hp} {P : Addr → List V → Prop} (h1 : SqT K H a xs) (h : P a xs) : ∃ a' xs', [V.ref a] = [V.ref a'] ∧ SqT K H a' xs' ∧ P a' xs' := ⟨a, xs, rfl, h1, h⟩
theorem ForQ.enumT {K : PySem.W.Frag} {g : TG} {tb : TS} {D : Ends} {σ : L2.St} {H1 : Hp} {a : Addr} {xs : List V} (I : Nat → L2.St → Hp → Prop) (h0 : I 0 σ H1) (hl : ∀ i σ H, i ≤ xs.length → I i σ H → SqT K H a xs)
    (hs : ∀ (i : Nat) (x : V) (T : Addr) (σ : L2.St) (H : Hp), xs[i]? = some x → I i σ H → H T = none → g (.ref T) σ (upd H T (.tup [.int (i : Nat), x])) fun σ2 H2 => tb { D with nx := I (i + 1), ct := I (i + 1), bk := D.nx } σ2 H2) (hd : ∀ σ H, I xs.length σ H → D.nx σ H) : ForQ g tb D σ (IteT K a xs) H1 := by
  refine ⟨fun i m σ H => i ≤ xs.length ∧ m = xs.length - i ∧ I i σ H, ⟨_, Nat.zero_le _, rfl, h0⟩, ?_⟩
  intro i m σ H ⟨hi, hm, hp⟩
  have hS := hl i σ H hi hp
  by_cases e : i = xs.length
  · subst e
    exact Or.inl ⟨⟨hS, rfl⟩, hd _ _ hp⟩
  · have hlt : i < xs.length := by omega
    refine Or.inr ⟨⟨hS, hlt⟩, I (i + 1), fun σ' H' h => ⟨xs.length - (i + 1), by omega, by omega, rfl, h⟩, ?_⟩
    intro v H' hy
    obtain ⟨T, x, e1, hT, e2, hx⟩ := hy
    subst e1; subst e2
    exact hs i x T σ H hx hp hT
end WL
set_option Elab.async false
set_option linter.all false
set_option maxRecDepth 100000
set_option maxHeartbeats 4000000
namespace WL
open PySem PySem.Spec PyProof.Rows L2
/-! ### any value, by its shape -/
inductive Sh where
  | non | bl | str | lst | dct
  | int (i : Int)
  | tup (ss : List Sh)
def Sh.isInt : Sh → Bool
  | .int _ => true
  | _ => false
def Sh.isNon : Sh → Bool
  | .non => true
  | _ => false
def Sh.within (lo hi : Int) : Sh → Bool
  | .int i => decide (lo ≤ i) && decide (i ≤ hi)
  | _ => false
def Sh.sized (lo hi : Int) : Sh → Bool
  | .tup ss => decide (lo ≤ (ss.length : Int)) && decide ((ss.length : Int) ≤ hi)
  | _ => false
mutual
inductive AnS (K : PySem.W.Frag) (H : Hp) : V → Sh → Prop
  | non : AnS K H .non .non
  | bl (b : Bool) : AnS K H (.bl b) .bl
  | int (i : Int) : AnS K H (.int i) (.int i)
  | str (x : Str) : AnS K H (.str x) .str
  | lst {a : Addr} {xs : List V} : SqL K H a xs → AnS K H (.ref a) .lst
  | dct {a : Addr} {kvs : List (Key × V)} : H a = some (.dK kvs) → AnS K H (.ref a) .dct
  | tup {a : Addr} {xs : List V} {ss : List Sh} : SqT K H a xs → AnSs K H xs ss → AnS K H (.ref a) (.tup ss)
inductive AnSs (K : PySem.W.Frag) (H : Hp) : List V → List Sh → Prop
  | nil : AnSs K H [] []
  | cons {v : V} {s : Sh} {vs : List V} {ss : List Sh} : AnS K H v s → AnSs K H vs ss → AnSs K H (v :: vs) (s :: ss)
end
section
variable {K : PySem.W.Frag} {H H' : Hp}
mutual
theorem AnS.same (k : ∀ b o, H b = some o → H' b = some o) : ∀ {v : V} {s : Sh}, AnS K H v s → AnS K H' v s
  | _, _, .non => .non
  | _, _, .bl b => .bl b
  | _, _, .int i => .int i
  | _, _, .str x => .str x
  | _, _, .lst h => .lst (SqL.same h k)
  | _, _, .dct h => .dct (k _ _ h)
  | _, _, .tup h q => .tup (SqT.same h k) (q.same k)
theorem AnSs.same (k : ∀ b o, H b = some o → H' b = some o) : ∀ {vs : List V} {ss : List Sh}, AnSs K H vs ss → AnSs K H' vs ss
  | _, _, .nil => .nil
  | _, _, .cons h q => .cons (h.same k) (q.same k)
end
theorem AnSs.length : ∀ {vs : List V} {ss : List Sh}, AnSs K H vs ss → vs.length = ss.length
  | _, _, .nil => rfl
  | _, _, .cons _ h => congrArg Nat.succ h.length
theorem AnSs.get : ∀ {vs : List V} {ss : List Sh}, AnSs K H vs ss → ∀ {i : Nat} {v : V}, vs[i]? = some v → ∃ s, ss[i]? = some s ∧ AnS K H v s
  | _, _, .nil, _, _, e => by simp at e
  | _, _, .cons h q, 0, v, e => ⟨_, rfl, by simp at e; subst e; exact h⟩
  | _, _, .cons h q, i + 1, v, e => by
    obtain ⟨s, e1, f⟩ := q.get (i := i) (v := v) (by simpa using e)
    exact ⟨s, by simpa using e1, f⟩
/-- the class of a value, by its shape -/
def Sh.ty : Sh → String
  | .non => "NoneType"
  | .bl => "bool"
  | .str => "str"
  | .lst => "list"
  | .dct => "dict"
  | .int _ => "int"
  | .tup _ => "tuple"
theorem AnS.ty : ∀ {v : V} {s : Sh}, AnS K H v s → TyX K H v (.type s.ty)
  | _, _, .non => .base .non
  | _, _, .bl b => .base (.bl b)
  | _, _, .int i => .base (.int i)
  | _, _, .str x => .base (.str x)
  | _, _, .lst (.inl (.inl h)) => .base (.lst h)
  | _, _, .lst (.inl (.inr ⟨_, h⟩)) => .base (.frz h)
  | _, _, .lst (.inr ⟨o, _, _, h, c, _⟩) => .kList h c
  | _, _, .dct h => .base (.dK h)
  | _, _, .tup (.inl (.inl h)) _ => .base (.tup h)
  | _, _, .tup (.inl (.inr ⟨_, h⟩)) _ => .fTuple h
  | _, _, .tup (.inr ⟨o, _, _, h, c, _⟩) _ => .kTuple h c
theorem isi_int (K : PySem.W.Frag) : ∀ s : Sh, PySem.W.kitOne K (.type s.ty) (.type "int") = some (s.isInt || s.ty == "bool")
  | .non => rfl
  | .bl => rfl
  | .str => rfl
  | .lst => rfl
  | .dct => rfl
  | .int _ => rfl
  | .tup _ => rfl
theorem isi_bool (K : PySem.W.Frag) : ∀ s : Sh, PySem.W.kitOne K (.type s.ty) (.type "bool") = some (s.ty == "bool")
  | .non => rfl
  | .bl => rfl
  | .str => rfl
  | .lst => rfl
  | .dct => rfl
  | .int _ => rfl
  | .tup _ => rfl
theorem isi_tup (K : PySem.W.Frag) : ∀ s : Sh, PySem.W.kitOne K (.type s.ty) (.type "tuple") = some (s.ty == "tuple")
  | .non => rfl
  | .bl => rfl
  | .str => rfl
  | .lst => rfl
  | .dct => rfl
  | .int _ => rfl
  | .tup _ => rfl
end
section
variable {K : PySem.W.Frag} {σ : L2.St} {H : Hp} {Q : VK}
theorem g_isi {x : V} {s : Sh} {T : String} {b : Bool} (h : AnS K H x s) (e : PySem.W.kitOne K (.type s.ty) (.type T) = some b) (q : Q (.bl b) H) : rIsi K [x, .ty T] H Q := ⟨x, .ty T, _, _, b, rfl, .ty T, h.ty, e, q⟩
theorem g_andV {ta tb : TE} (h : ta σ H fun x H1 => ∃ c, x = V.bl c ∧ if c = true then tb σ H1 Q else Q (.bl false) H1) : tAndV ta tb σ H Q := h
theorem g_orV {ta tb : TE} (h : ta σ H fun x H1 => ∃ c, x = V.bl c ∧ if c = true then Q (.bl true) H1 else tb σ H1 Q) : tOrV ta tb σ H Q := h
theorem g_notV {ta : TE} (h : ta σ H fun x H1 => ∃ c, x = V.bl c ∧ Q (.bl !c) H1) : tNotV ta σ H Q := h
theorem g_tB {t : TE} {Q : Bool → Hp → Prop} (h : t σ H fun x H1 => ∃ c, x = V.bl c ∧ Q c H1) : tB t σ H Q := h
theorem g_chain {r r' : R2} {ta tb tc : TE} (h : ta σ H fun x H1 => tb σ H1 fun y H2 => r x y H2 fun z H3 => ∃ k, z = V.bl k ∧ if k = true then tc σ H3 fun w' H4 => r' y w' H4 Q else Q (V.bl false) H3) : tChain r r' ta tb tc σ H Q := h
theorem g_neg {i : Int} {g : Int → V} (h : Q (g i) H) : rU g (.int i) H Q := ⟨i, rfl, h⟩
theorem g_cval {K : PySem.W.Frag} {ta : TE} {f : Str} (h : ta σ H fun x H1 => ∃ C mc v u, x = .ref C ∧ ClX.CRead K C mc ∧ ClX.CVal K C mc f v u ∧ Q v H1) : ClX.tCVal K ta f σ H Q := h
end
theorem g_iftn {A B : Prop} (h : A) : if (!false) = true then A else B := h
theorem g_iffn {A B : Prop} (h : B) : if (!true) = true then A else B := h
theorem ps_no {X : Cx} {s : Stmt} : PS X s (fun _ _ _ => False) := by
  constructor
  intros
  contradiction
theorem pe_ref {X : Cx} {x : Str} {a : Addr} {pos : Pos} (hm : X.mg x = some (.ref a)) (hg : Gl X x := by rfl) (h1 : x ≠ "__name__" := by decide) (h2 : (x == ("__debug__" : Str)) = false := by decide) : PE X (.Name x pos) (tC (.ref a)) := by first | exact pe_glob hg hm rfl h1 h2 | exact pe_glob hg hm rfl h2
/-- the class Diary: where it stands, its class values -/
structure Dia (K : PySem.W.Frag) (mg : Str → Option Value) (DC : Addr) : Prop where
  at_ : mg "Diary" = some (.ref DC)
  rd : ∃ mc, ClX.CRead K DC mc ∧ (∃ u, ClX.CVal K DC mc "MAX_MODULUS" (.int 100) u) ∧ (∃ u, ClX.CVal K DC mc "MAX_EVENTS" (.int 16) u) ∧ (∃ u, ClX.CVal K DC mc "MAX_BOUNDS" (.int 60) u) ∧ ∃ u, ClX.CVal K DC mc "MAX_DAYS" (.int 1000000000) u
section
variable {K : PySem.W.Frag} {mg : Str → Option Value} {DC : Addr} (h : Dia K mg DC) {P : V → Prop}
include h
theorem Dia.modulus (q : P (.int 100)) : ∃ C mc v u, V.ref DC = .ref C ∧ ClX.CRead K C mc ∧ ClX.CVal K C mc "MAX_MODULUS" v u ∧ P v := by
  obtain ⟨mc, r, ⟨u, c⟩, _⟩ := h.rd
  exact ⟨DC, mc, _, u, rfl, r, c, q⟩
theorem Dia.events (q : P (.int 16)) : ∃ C mc v u, V.ref DC = .ref C ∧ ClX.CRead K C mc ∧ ClX.CVal K C mc "MAX_EVENTS" v u ∧ P v := by
  obtain ⟨mc, r, _, ⟨u, c⟩, _⟩ := h.rd
  exact ⟨DC, mc, _, u, rfl, r, c, q⟩
theorem Dia.bounds (q : P (.int 60)) : ∃ C mc v u, V.ref DC = .ref C ∧ ClX.CRead K C mc ∧ ClX.CVal K C mc "MAX_BOUNDS" v u ∧ P v := by
  obtain ⟨mc, r, _, _, ⟨u, c⟩, _⟩ := h.rd
  exact ⟨DC, mc, _, u, rfl, r, c, q⟩
theorem Dia.days (q : P (.int 1000000000)) : ∃ C mc v u, V.ref DC = .ref C ∧ ClX.CRead K C mc ∧ ClX.CVal K C mc "MAX_DAYS" v u ∧ P v := by
  obtain ⟨mc, r, _, _, _, u, c⟩ := h.rd
  exact ⟨DC, mc, _, u, rfl, r, c, q⟩
end
/-! ### what is wrong with a diary's values, by their shapes -/
def Sh.bound (many : Int) : Sh → Bool
  | .tup [a, b, c] => a.within 0 (many - 1) && b.within 0 (many - 1) && c.within (-1000000000) 1000000000
  | _ => false
def Sh.note (c : Int) (s : Sh) : Bool := s.isNon || s.within 0 (c - 1)
def firstNot (p : Sh → Bool) (ss : List Sh) : Option Nat := ss.findIdx? fun s => !p s
/-- none: nothing is wrong; some none: the whole; some (some i): item i -/
def rowFault (lo hi : Int) (p : Sh → Bool) (s : Sh) : Option (Option Nat) :=
  if s.sized lo hi then
    match s with
    | .tup ss => (firstNot p ss).map some
    | _ => some none
  else some none
theorem firstNot_some {p : Sh → Bool} {ss : List Sh} {i : Nat} {s : Sh} (h : ss[i]? = some s) (hp : p s = false) (ha : ∀ j s', j < i → ss[j]? = some s' → p s' = true) : firstNot p ss = some i := by
  have hi : i < ss.length := by
    rcases Nat.lt_or_ge i ss.length with q | q
    · exact q
    · rw [List.getElem?_eq_none q] at h; exact absurd h (by simp)
  have e : ss[i] = s := by rw [List.getElem?_eq_getElem hi] at h; exact Option.some.inj h
  refine List.findIdx?_eq_some_iff_getElem.mpr ⟨hi, by rw [e, hp]; rfl, fun j hj => ?_⟩
  rw [ha j ss[j] hj (by simp)]
  decide
theorem firstNot_none {p : Sh → Bool} {ss : List Sh} (ha : ∀ (j : Nat) s', ss[j]? = some s' → p s' = true) : firstNot p ss = none := by
  refine List.findIdx?_eq_none_iff.mpr fun s hs => ?_
  obtain ⟨j, hj, e⟩ := List.getElem_of_mem hs
  rw [ha j s (by rw [List.getElem?_eq_getElem hj, e])]
  decide
theorem firstNot_inv {p : Sh → Bool} {ss : List Sh} (h : firstNot p ss = none) {s : Sh} (hs : s ∈ ss) : p s = true := by
  have := List.findIdx?_eq_none_iff.mp h s hs
  cases hp : p s with
  | true => rfl
  | false => rw [hp] at this; exact absurd this (by decide)
def itemV : Option Nat → V
  | none => .non
  | some i => .int (i : Nat)
def spNum (K : PySem.W.Frag) : Sp := fun vs H Q _ => ∃ (x : V) (s : Sh), vs = [x] ∧ AnS K H x s ∧ Q (.bl s.isInt) H
def spWithin (K : PySem.W.Frag) : Sp := fun vs H Q _ => ∃ (x : V) (s : Sh) (lo hi : Int), vs = [x, .int lo, .int hi] ∧ AnS K H x s ∧ Q (.bl (s.within lo hi)) H
def spTupOf (K : PySem.W.Frag) : Sp := fun vs H Q _ => ∃ (x : V) (s : Sh) (lo hi : Int), vs = [x, .int lo, .int hi] ∧ AnS K H x s ∧ Q (.bl (s.sized lo hi)) H
def spBound (K : PySem.W.Frag) : Sp := fun vs H Q _ => ∃ (x : V) (s : Sh) (many : Int), vs = [x, .int many] ∧ AnS K H x s ∧ Q (.bl (s.bound many)) H
def spRowF (K : PySem.W.Frag) (first : V → V → List V) (word : Str) (lo hi : Int) (p : Int → Sh → Bool) : Sp := fun vs H Q _ => ∃ (x : V) (s : Sh) (c : Int), vs = first x (.int c) ∧ AnS K H x s ∧
  (rowFault lo hi (p c) s = none → ∀ H', Nt H H' → Q .non H') ∧ (∀ it, rowFault lo hi (p c) s = some it → ∀ a H', Nt H H' → H' a = some (.tup [.str word, itemV it]) → Q (.ref a) H')
def restFault (w b : Sh) : Option (Str × Option Nat) := match w with
  | .tup ss => (rowFault 0 60 (Sh.bound ss.length) b).map fun it => ("bounds", it)
  | _ => some ("weekdays", none)
def wordFault (c : Int) (w b : Sh) : Option (Str × Option Nat) := match rowFault 1 16 (Sh.note c) w with
  | some it => some ("weekdays", it)
  | none => restFault w b
/-- the word and the item of what is wrong first -/
def diaryFault (m w b : Sh) : Option (Str × Option Nat) :=
  if m.within 2 100 then
    match m with
    | .int c => wordFault c w b
    | _ => some ("modulus", none)
  else some ("modulus", none)
theorem diaryFault_int {c : Int} {w b : Sh} (h : Sh.within 2 100 (.int c) = true) : diaryFault (.int c) w b = wordFault c w b := by
  unfold diaryFault
  rw [if_pos h]
theorem wordFault_some {c : Int} {w b : Sh} {it : Option Nat} (h : rowFault 1 16 (Sh.note c) w = some it) : wordFault c w b = some (("weekdays" : Str), it) := by
  unfold wordFault
  rw [h]
theorem wordFault_tup {c : Int} {ss : List Sh} {b : Sh} (h : rowFault 1 16 (Sh.note c) (.tup ss) = none) : wordFault c (.tup ss) b = (rowFault 0 60 (Sh.bound ss.length) b).map fun it => (("bounds" : Str), it) := by
  unfold wordFault
  rw [h]
  rfl
def spDiaryF (K : PySem.W.Frag) : Sp := fun vs H Q _ => ∃ (x y z : V) (m w b : Sh), vs = [x, y, z] ∧ AnS K H x m ∧ AnS K H y w ∧ AnS K H z b ∧
  (diaryFault m w b = none → ∀ H', Nt H H' → Q .non H') ∧ (∀ word it, diaryFault m w b = some (word, it) → ∀ a H', Nt H H' → H' a = some (.tup [.str word, itemV it]) → Q (.ref a) H')
end WL
set_option Elab.async false
set_option linter.all false
set_option maxRecDepth 100000
set_option maxHeartbeats 4000000
namespace WL
open PySem PySem.Spec PyProof.Rows L2
/-! ### objects of the class Diary -/
/-- what the model's facts say of the class -/
structure DiaO (K : PySem.W.Frag) (DC : Addr) : Prop where
  cls : Cls K DC
  n1 : NoAttr K DC "_modulus"
  n2 : NoAttr K DC "_weekdays"
  n3 : NoAttr K DC "_bounds"
  same : PySem.W.kitOne K (.ref DC) (.ref DC) = some true
  other : ∀ s : Sh, PySem.W.kitOne K (.type s.ty) (.ref DC) = some false
  g1 : PySem.W.findIn K (.ref DC) "__class__" = some (some (.builtin "object.__class__"))
  g2 : PySem.W.specialIn K (.builtin "object.__class__") "__get__" = some (some (.builtin "getset_descriptor.__get__"))
  g3 : PySem.W.takesIn K (.builtin "object.__class__") = some true
  g4 : PySem.W.mroIn K DC (.type "object") = some true
theorem DiaO.ty {K : PySem.W.Frag} {DC a dx : Addr} {fs : List (Str × V)} {H : Hp} (D : DiaO K DC) (h : H a = some (.ins DC dx fs)) : TyX K H (.ref a) (.ref DC) := .base (.ins h D.cls D.g1 D.g2 D.g3 D.g4)
/-- the fields of a diary -/
def dFs (x y z : V) : List (Str × V) := [("_modulus", x), ("_weekdays", y), ("_bounds", z)]
/-- objects stay what they are -/
def Ik (H H' : Hp) : Prop := ∀ b C dx fs, H b = some (.ins C dx fs) → H' b = some (.ins C dx fs)
theorem Ik.refl {H : Hp} : Ik H H := fun _ _ _ _ h => h
theorem Ik.trans {H H1 H2 : Hp} (a : Ik H H1) (b : Ik H1 H2) : Ik H H2 := fun _ _ _ _ h => b _ _ _ _ (a _ _ _ _ h)
theorem Ik.same {H H' : Hp} (a : ∀ b o, H b = some o → H' b = some o) : Ik H H' := fun b _ _ _ h => a b _ h
theorem Ik.new {H : Hp} {p : Addr} {o : HO} (n : H p = none) : Ik H (upd H p o) := fun b _ _ _ h => by
  rw [upd_ne (ne_of_none h n)]; exact h
theorem Pr.ik {m c g : Addr} {H0 H : Hp} {B B' : Int} (p : Pr m c g H0 H B) (q : Pr m c g H0 H0 B') : Ik H0 H := fun b C dx fs h => by
  obtain ⟨k, _, d⟩ := q.dr
  obtain ⟨l, _, hg⟩ := d.great
  have hm := d.dict
  refine p.but _ _ (fun e => ?_) (fun e => ?_) h
  · subst e; rw [h] at hm; exact absurd hm (by simp)
  · subst e; rw [h] at hg; exact absurd hg (by simp)
def spDInit (K : PySem.W.Frag) (DC : Addr) : Sp := fun vs H Q _ => ∃ (a dx : Addr) (x y z : V) (m w b : Sh), vs = [.ref a, x, y, z] ∧ H a = some (.ins DC dx []) ∧ AnS K H x m ∧ AnS K H y w ∧ AnS K H z b ∧ diaryFault m w b = none ∧
  ∀ H', H' a = some (.ins DC dx (dFs x y z)) → (∀ b o, b ≠ a → H b = some o → H' b = some o) → Q .non H'
def spGetF (DC : Addr) (f : Str) : Sp := fun vs H Q _ => ∃ (a dx : Addr) (fs : List (Str × V)) (v : V), vs = [.ref a] ∧ H a = some (.ins DC dx fs) ∧ fs.lookup f = some v ∧ Q v H
/-- a diary of these values at v -/
def DiaAt (DC : Addr) (H : Hp) (v : V) (c : Int) (ns : List (Option Int)) (ls : List (Int × Int × Int)) : Prop := ∃ a dx wv bv, v = .ref a ∧ H a = some (.ins DC dx (dFs (.int c) wv bv)) ∧ Fz H wv (notesD ns) ∧ Fz H bv (linesD ls)
theorem DiaAt.keep {DC : Addr} {H H' : Hp} {v : V} {c : Int} {ns : List (Option Int)} {ls : List (Int × Int × Int)} (h : DiaAt DC H v c ns ls) (t : Tk H H') (i : Ik H H') : DiaAt DC H' v c ns ls := by
  obtain ⟨a, dx, wv, bv, e, h1, h2, h3⟩ := h
  exact ⟨a, dx, wv, bv, e, i _ _ _ _ h1, h2.tk t, h3.tk t⟩
section
variable {K : PySem.W.Frag} {σ : L2.St} {H : Hp} {Q : VK} {D : Ends}
theorem g_fld {ta : TE} {f : Str} (h : ta σ H fun x H1 => ∃ a C dx fs v, x = .ref a ∧ H1 a = some (.ins C dx fs) ∧ Cls K C ∧ NoAttr K C f ∧ fs.lookup f = some v ∧ Q v H1) : tFld K ta f σ H Q := h
theorem g_f1 {DC a dx : Addr} {x y z : V} {P : V → Prop} (d : DiaO K DC) (h : H a = some (.ins DC dx (dFs x y z))) (q : P x) : ∃ a' C dx' fs v, V.ref a = .ref a' ∧ H a' = some (.ins C dx' fs) ∧ Cls K C ∧ NoAttr K C "_modulus" ∧ fs.lookup ("_modulus" : Str) = some v ∧ P v := ⟨a, DC, dx, _, x, rfl, h, d.cls, d.n1, rfl, q⟩
theorem g_f2 {DC a dx : Addr} {x y z : V} {P : V → Prop} (d : DiaO K DC) (h : H a = some (.ins DC dx (dFs x y z))) (q : P y) : ∃ a' C dx' fs v, V.ref a = .ref a' ∧ H a' = some (.ins C dx' fs) ∧ Cls K C ∧ NoAttr K C "_weekdays" ∧ fs.lookup ("_weekdays" : Str) = some v ∧ P v := ⟨a, DC, dx, _, y, rfl, h, d.cls, d.n2, rfl, q⟩
theorem g_f3 {DC a dx : Addr} {x y z : V} {P : V → Prop} (d : DiaO K DC) (h : H a = some (.ins DC dx (dFs x y z))) (q : P z) : ∃ a' C dx' fs v, V.ref a = .ref a' ∧ H a' = some (.ins C dx' fs) ∧ Cls K C ∧ NoAttr K C "_bounds" ∧ fs.lookup ("_bounds" : Str) = some v ∧ P v := ⟨a, DC, dx, _, z, rfl, h, d.cls, d.n3, rfl, q⟩
theorem g_sfld {ta tv : TE} {f : Str} (h : tv σ H fun y H1 => ta σ H1 fun x H2 => ∃ a C dx fs, x = .ref a ∧ H2 a = some (.ins C dx fs) ∧ Cls K C ∧ NoAttr K C f ∧ fs.length < 1000 ∧ D.nx σ (upd H2 a (.ins C dx (putF f y fs)))) : sFld K ta tv f D σ H := h
theorem g_seqFld {ta tv : TE} {f : Str} {u : TS} (h : sFld K ta tv f { D with nx := u D } σ H) : tSeq (sFld K ta tv f) u D σ H := h
theorem g_put {C a dx : Addr} {f : Str} {fs : List (Str × V)} {P : Hp → Prop} {y : V} (c : Cls K C) (n : NoAttr K C f) (h : H a = some (.ins C dx fs)) (hl : fs.length < 1000) (q : P (upd H a (.ins C dx (putF f y fs)))) : ∃ a' C' dx' fs', V.ref a = .ref a' ∧ H a' = some (.ins C' dx' fs') ∧ Cls K C' ∧ NoAttr K C' f ∧ fs'.length < 1000 ∧ P (upd H a' (.ins C' dx' (putF f y fs'))) := ⟨a, C, dx, fs, rfl, h, c, n, hl, q⟩
end
def spDLen (DC : Addr) (K : PySem.W.Frag) : Sp := fun vs H Q _ => ∃ (a dx : Addr) (x z : V) (wa : Addr) (ws : List V), vs = [.ref a] ∧ H a = some (.ins DC dx (dFs x (.ref wa) z)) ∧ SqT K H wa ws ∧ Q (.int ws.length) H
theorem noteD_inj {a b : Option Int} (h : noteD a = noteD b) : a = b := by
  cases a <;> cases b <;> simp_all [noteD]
theorem lineD_inj {a b : Int × Int × Int} (h : lineD a = lineD b) : a = b := by
  obtain ⟨a1, a2, a3⟩ := a
  obtain ⟨b1, b2, b3⟩ := b
  simp [lineD] at h
  simp [h]
theorem map_inj {α β : Type} {f : α → β} (hf : ∀ a b, f a = f b → a = b) : ∀ {xs ys : List α}, xs.map f = ys.map f → xs = ys
  | [], [], _ => rfl
  | [], y :: ys, h => by simp at h
  | x :: xs, [], h => by simp at h
  | x :: xs, y :: ys, h => by
    simp only [List.map_cons, List.cons.injEq] at h
    rw [hf _ _ h.1, map_inj hf h.2]
theorem notesD_inj {a b : List (Option Int)} (h : notesD a = notesD b) : a = b := map_inj (fun _ _ => noteD_inj) (PyData.tuple.inj h)
theorem linesD_inj {a b : List (Int × Int × Int)} (h : linesD a = linesD b) : a = b := map_inj (fun _ _ => lineD_inj) (PyData.tuple.inj h)
def spDEq (K : PySem.W.Frag) (DC : Addr) : Sp := fun vs H Q _ => ∃ (v x : V) (c : Int) (ns : List (Option Int)) (ls : List (Int × Int × Int)), vs = [v, x] ∧ DiaAt DC H v c ns ls ∧
  ((∃ (c2 : Int) (ns2 : List (Option Int)) (ls2 : List (Int × Int × Int)), DiaAt DC H x c2 ns2 ls2 ∧ ∀ r : Bool, (r = true ↔ (c = c2 ∧ ns = ns2 ∧ ls = ls2)) → Q (.bl r) H) ∨ (∃ s, AnS K H x s ∧ Q (.bl false) H))
/-- the class InvalidEvent -/
structure EvX (P : Program) (K : PySem.W.Frag) (mg : Str → Option Value) (IE : Addr) : Prop where
  at_ : mg "InvalidEvent" = some (.ref IE)
  ex : ∃ fI fd, ExT P K mg ["value"] IE fI ∧ ExI P K ["value"] IE fI fd ∧ ∀ (s : Shared) (u v : Value), K.In s.heap → BindsTo s fd ⟨[u, v], []⟩ [("self", u), ("value", v)]
def spNeed (K : PySem.W.Frag) (DC IE : Addr) : Sp := fun vs H Q E => ∃ (a dx : Addr) (x z y : V) (wa : Addr) (ws : List V) (s : Sh), vs = [.ref a, y] ∧ H a = some (.ins DC dx (dFs x (.ref wa) z)) ∧ SqT K H wa ws ∧ AnS K H y s ∧
  (s.within 0 ((ws.length : Int) - 1) = true → Q .non H) ∧ (s.within 0 ((ws.length : Int) - 1) = false → ∀ d, H d = none → E (.ref IE) (some d) (upd H d (.xd [("value", y)])))
theorem g_mkex {C : Addr} {f : Str} {ta : TA} {σ : L2.St} {H : Hp} {Q : XK} (h : ta σ H fun vs H1 => ∃ v, vs = [v] ∧ ∀ (d : Addr), H1 d = none → Q (.ref C) (some d) (upd H1 d (.xd [(f, v)]))) : tMkEx C f ta σ H Q := h
end WL
set_option Elab.async false
set_option linter.all false
set_option maxRecDepth 100000
set_option maxHeartbeats 4000000
namespace WL
open PySem PySem.Spec PyProof.Rows L2
/-! ### the class Diary for its callers -/
structure PropF (P : Program) (w : World) (K : PySem.W.Frag) (mg : Str → Option Value) (base : Heap) (DC : Addr) (n f : Str) : Prop where
  ex : ∃ p g fd, PropOf K DC n p g ∧ Binds K fd ["self"] [] ∧ FnOk P w K mg base CX0 1 g fd ["self"] (spGetF DC f)
structure DiaF (P : Program) (w : World) (K : PySem.W.Frag) (mg : Str → Option Value) (base : Heap) (DC IE : Addr) : Prop where
  at_ : Dia K mg DC
  obj : DiaO K DC
  make : ∃ f fd, Mk K DC f ∧ Binds K fd ["self", "modulus", "weekdays", "bounds"] [] ∧ FnOk P w K mg base CX0 6 f fd ["self", "modulus", "weekdays", "bounds"] (spDInit K DC)
  pm : PropF P w K mg base DC "modulus" "_modulus"
  pw : PropF P w K mg base DC "weekdays" "_weekdays"
  pb : PropF P w K mg base DC "bounds" "_bounds"
  len : ∃ f fd, PySem.W.findIn K (.ref DC) "__len__" = some (some (.ref f)) ∧ PySem.W.isFn K (.ref f) = true ∧ Binds K fd ["self"] [] ∧ FnOk P w K mg base CX0 1 f fd ["self"] (spDLen DC K)
  eq : ∃ g fd, PySem.W.findIn K (.ref DC) "__eq__" = some (some (.ref g)) ∧ PySem.W.isFn K (.ref g) = true ∧ Binds K fd ["self", "other"] [] ∧ FnOk P w K mg base CX0 1 g fd ["self", "other"] (spDEq K DC)
  ne : PySem.W.findIn K (.ref DC) "__ne__" = some (some (.builtin "object.__ne__"))
  ob : PySem.W.subIn K (.ref DC) (.type "object") = some true
  nf : ∀ s : Sh, PySem.W.notFirst K DC (.type s.ty) = true
  nfD : PySem.W.notFirst K DC (.ref DC) = true
  need : ∃ f fd, Meth K DC "need_event" f ∧ Binds K fd ["self", "event"] [] ∧ FnOk P w K mg base (CX P w) 3 f fd ["self", "event"] (spNeed K DC IE) ∧ KBn K fd ["self", "event"] 1 ["event"] (fun us ws => us ++ ws) (fun vs zs => vs ++ zs)
  cm : ∃ u, Con K DC "MAX_MODULUS" (.int 100) u
  ce : ∃ u, Con K DC "MAX_EVENTS" (.int 16) u
  cb : ∃ u, Con K DC "MAX_BOUNDS" (.int 60) u
  cd : ∃ u, Con K DC "MAX_DAYS" (.int 1000000000) u
/-! ### right values have no fault -/
def noteSh : Option Int → Sh
  | none => .non
  | some i => .int i
def lineSh (l : Int × Int × Int) : Sh := .tup [.int l.1, .int l.2.1, .int l.2.2]
section
variable {K : PySem.W.Frag} {H : Hp}
theorem ans_note : ∀ n : Option Int, AnS K H (noteV n) (noteSh n)
  | none => .non
  | some i => .int i
theorem anss_notes : ∀ ns : List (Option Int), AnSs K H (ns.map noteV) (ns.map noteSh)
  | [] => .nil
  | n :: ns => .cons (ans_note n) (anss_notes ns)
theorem ans_notes {v : V} {ns : List (Option Int)} (h : Fz H v (notesD ns)) : AnS K H v (.tup (ns.map noteSh)) := by
  obtain ⟨a, rfl, ha⟩ := fz_notes_inv h
  exact .tup (SqT.of ha) (anss_notes ns)
theorem anss_lines : ∀ {ls : List (Int × Int × Int)} {rows : List V}, Fzs H rows (ls.map lineD) → AnSs K H rows (ls.map lineSh)
  | [], _, h => by cases h; exact .nil
  | l :: ls, _, h => by
    cases h with
    | cons a b =>
      obtain ⟨r, rfl, hr⟩ := fz_line_inv a
      exact .cons (.tup (SqT.of hr) (.cons (.int _) (.cons (.int _) (.cons (.int _) .nil)))) (anss_lines b)
theorem ans_lines {v : V} {ls : List (Int × Int × Int)} (h : Fz H v (linesD ls)) : AnS K H v (.tup (ls.map lineSh)) := by
  obtain ⟨a, rows, rfl, ha, hr⟩ := Fz.tup_inv h
  exact .tup (SqT.of ha) (anss_lines hr)
end
theorem and2 {a b : Bool} (h : a = true) (k : b = true) : (a && b) = true := by rw [h, k]; rfl
theorem within_int {lo hi i : Int} (h : lo ≤ i ∧ i ≤ hi) : Sh.within lo hi (.int i) = true := and2 (decide_eq_true h.1) (decide_eq_true h.2)
theorem sized_tup {lo hi : Int} {ss : List Sh} (h : lo ≤ (ss.length : Int) ∧ (ss.length : Int) ≤ hi) : Sh.sized lo hi (.tup ss) = true := by
  show (decide (lo ≤ (ss.length : Int)) && decide ((ss.length : Int) ≤ hi)) = true
  rw [decide_eq_true h.1, decide_eq_true h.2]; rfl
theorem no_fault {c : Int} {ns : List (Option Int)} {ls : List (Int × Int × Int)} {w : Int} (h : DOK c ns ls w) (hw : w ≤ 1000000000) (hl : ls.length ≤ 60) : diaryFault (.int c) (.tup (ns.map noteSh)) (.tup (ls.map lineSh)) = none := by
  obtain ⟨a1, a2, a3, a4, a5, a6⟩ := h
  rw [diaryFault_int (within_int ⟨a1, a2⟩)]
  have e1 : rowFault 1 16 (Sh.note c) (.tup (ns.map noteSh)) = none := by
    unfold rowFault
    rw [if_pos (show Sh.sized 1 16 (.tup (ns.map noteSh)) = true from sized_tup ⟨by rw [List.length_map]; omega, by rw [List.length_map]; omega⟩)]
    show (firstNot (Sh.note c) (ns.map noteSh)).map some = none
    rw [firstNot_none fun j s' e => ?_]
    · rfl
    · rw [List.getElem?_map] at e
      cases hn : ns[j]? with
      | none => rw [hn] at e; exact absurd e (by simp)
      | some n =>
        rw [hn] at e
        have e' := Option.some.inj e
        subst e'
        cases n with
        | none => rfl
        | some i =>
          have := a5 i (List.mem_of_getElem? hn)
          show (Sh.isNon (.int i) || Sh.within 0 (c - 1) (.int i)) = true
          rw [within_int ⟨this.1, by omega⟩]
          rfl
  rw [wordFault_tup e1]
  have e2 : rowFault 0 60 (Sh.bound (ns.map noteSh).length) (.tup (ls.map lineSh)) = none := by
    unfold rowFault
    rw [if_pos (show Sh.sized 0 60 (.tup (ls.map lineSh)) = true from sized_tup ⟨by rw [List.length_map]; omega, by rw [List.length_map]; omega⟩)]
    show (firstNot (Sh.bound (ns.map noteSh).length) (ls.map lineSh)).map some = none
    rw [firstNot_none fun j s' e => ?_]
    · rfl
    · rw [List.getElem?_map] at e
      cases hn : ls[j]? with
      | none => rw [hn] at e; exact absurd e (by simp)
      | some l =>
        rw [hn] at e
        have e' := Option.some.inj e
        subst e'
        obtain ⟨g1, g2, g3⟩ := a6 l (List.mem_of_getElem? hn)
        rw [List.length_map]
        exact and2 (and2 (within_int ⟨g1.1, by omega⟩) (within_int ⟨g2.1, by omega⟩)) (within_int ⟨by omega, by omega⟩)
  rw [e2]
  rfl
section
variable {K : PySem.W.Frag} {σ : L2.St} {H : Hp} {Q : VK} {DC : Addr}
theorem g_make {C : Addr} {sp : Sp} {dvs : List V} {E : XK} {t : TA} (h : t σ H fun vs H1 => ∀ (x dx : Addr), H1 x = none → H1 dx = none → dx ≠ x → sp (.ref x :: (vs ++ dvs)) (upd (upd H1 dx (.own x)) x (.ins C dx [])) (fun v H2 => v = .non ∧ Q (.ref x) H2) E) : tMake C sp dvs E t σ H Q := h
/-- a diary of right values is made -/
theorem g_makeD {wv bv : V} {c w : Int} {ns : List (Option Int)} {ls : List (Int × Int × Int)} {E : XK} {R : Addr → Hp → Prop} (hn : Fz H wv (notesD ns)) (hl : Fz H bv (linesD ls)) (ok : DOK c ns ls w) (hw : w ≤ 1000000000) (h60 : ls.length ≤ 60)
    (q : ∀ (x : Addr) (H' : Hp), H x = none → DiaAt DC H' (.ref x) c ns ls → (∀ b o, H b = some o → H' b = some o) → R x H') :
    ∀ (x dx : Addr), H x = none → H dx = none → dx ≠ x → spDInit K DC (.ref x :: ([.int c, wv, bv] ++ [])) (upd (upd H dx (.own x)) x (.ins DC dx [])) (fun v H2 => v = .non ∧ R x H2) E := by
  intro x dx nx ndx ne
  have s1 : ∀ b o, H b = some o → upd (upd H dx (.own x)) x (.ins DC dx []) b = some o := fun b o h => by
    rw [upd_ne (ne_of_none h nx), upd_ne (ne_of_none h ndx)]; exact h
  refine ⟨x, dx, .int c, wv, bv, .int c, _, _, rfl, upd_same, .int c, (ans_notes hn).same s1, (ans_lines hl).same s1, no_fault ok hw h60, fun H' h1 h2 => ⟨rfl, ?_⟩⟩
  have s2 : ∀ b o, H b = some o → H' b = some o := fun b o h => h2 b o (ne_of_none h nx) (s1 b o h)
  exact q x H' nx ⟨x, dx, wv, bv, rfl, h1, hn.tk (Tk.same s2), hl.tk (Tk.same s2)⟩ s2
theorem g_prop {C : Addr} {sp : Sp} {dvs : List V} {E : XK} {ta : TE} (h : ta σ H fun x H1 => ∃ a dx fs, x = .ref a ∧ H1 a = some (.ins C dx fs) ∧ sp (.ref a :: dvs) H1 Q E) : tProp C sp dvs E ta σ H Q := h
theorem g_p1 {a dx : Addr} {x y z : V} {E : XK} {Q : VK} (h : H a = some (.ins DC dx (dFs x y z))) (q : Q x H) : ∃ a' dx' fs, V.ref a = .ref a' ∧ H a' = some (.ins DC dx' fs) ∧ spGetF DC "_modulus" (.ref a' :: []) H Q E := ⟨a, dx, _, rfl, h, a, dx, _, x, rfl, h, rfl, q⟩
theorem g_p2 {a dx : Addr} {x y z : V} {E : XK} {Q : VK} (h : H a = some (.ins DC dx (dFs x y z))) (q : Q y H) : ∃ a' dx' fs, V.ref a = .ref a' ∧ H a' = some (.ins DC dx' fs) ∧ spGetF DC "_weekdays" (.ref a' :: []) H Q E := ⟨a, dx, _, rfl, h, a, dx, _, y, rfl, h, rfl, q⟩
theorem g_p3 {a dx : Addr} {x y z : V} {E : XK} {Q : VK} (h : H a = some (.ins DC dx (dFs x y z))) (q : Q z H) : ∃ a' dx' fs, V.ref a = .ref a' ∧ H a' = some (.ins DC dx' fs) ∧ spGetF DC "_bounds" (.ref a' :: []) H Q E := ⟨a, dx, _, rfl, h, a, dx, _, z, rfl, h, rfl, q⟩
theorem g_lenO {a dx : Addr} {x z : V} {wa : Addr} {ws : List V} (h : H a = some (.ins DC dx (dFs x (.ref wa) z))) (hw : SqT K H wa ws) (hl : ws.length ≤ 100000) (q : Q (.int ws.length) H) : rLenOwn DC (spDLen DC K) [.ref a] H Q :=
  ⟨a, dx, _, rfl, h, a, dx, x, z, wa, ws, rfl, h, hw, _, rfl, ⟨by omega, by omega⟩, q⟩
theorem g_con {ta : TE} {f : Str} (h : ta σ H fun x H1 => ∃ a C dx fs v u, x = .ref a ∧ H1 a = some (.ins C dx fs) ∧ Cls K C ∧ Con K C f v u ∧ fs.lookup f = none ∧ Q v H1) : tCon K ta f σ H Q := h
theorem g_c1 {a dx : Addr} {f : Str} {fs : List (Str × V)} {v : V} {P : V → Prop} (O : DiaO K DC) (h : H a = some (.ins DC dx fs)) (c : ∃ u, Con K DC f v u) (n : fs.lookup f = none) (q : P v) : ∃ a' C dx' fs' v' u, V.ref a = .ref a' ∧ H a' = some (.ins C dx' fs') ∧ Cls K C ∧ Con K C f v' u ∧ fs'.lookup f = none ∧ P v' := by
  obtain ⟨u, c⟩ := c
  exact ⟨a, DC, dx, fs, v, u, rfl, h, O.cls, c, n, q⟩
theorem g_ownEq {a : Addr} {y : V} {f : Bool → Bool} {c : Int} {ns : List (Option Int)} {ls : List (Int × Int × Int)} {t : Value} (d : DiaAt DC H (.ref a) c ns ls) (ht : WL.Ty H y t) (nf : PySem.W.notFirst K DC t = true)
    (q : spDEq K DC [.ref a, y] H (fun z H' => ∃ b, z = V.bl b ∧ Q (.bl (f b)) H') E0) : rOwnEq K DC (spDEq K DC) f (.ref a) y H Q := by
  obtain ⟨a', dx, wv, bv, e, h1, _, _⟩ := d
  cases e
  exact ⟨a, dx, _, t, rfl, h1, ht, nf, q⟩
end
section
variable {X : Cx} {DC IE : Addr} {k : Nat} {n f : Str} {e : Expr} {te : TE} {pos : Pos}
theorem pe_pm (F : PropF X.prog X.w X.K X.mg X.base DC n f) (O : DiaO X.K DC) (hr : Room k X.A) (hk : 2 ≤ k) (he : PE X e te) (hab : attributeBase e n X.env (eval e X.env) = eval e X.env := by rfl) : PE X (.Attribute e n pos) (tProp DC (spGetF DC f) [] E0 te) := by
  obtain ⟨p, g, fd, h1, h2, h3⟩ := F.ex
  exact pe_prop he O.cls h1 h3 (hr.mono hk) h2 .nil pass0 hab
theorem call_lenD (F : DiaF X.prog X.w X.K X.mg X.base DC IE) (hr : Room k X.A) (hk : 2 ≤ k) : CallR X (.builtin "len") (rLenOwn DC (spDLen DC X.K)) := by
  obtain ⟨f, fd, h1, h2, h3, h4⟩ := F.len
  exact call_lenOwn h4 h3 (hr.mono hk) h1 h2
theorem op_dEq (F : DiaF X.prog X.w X.K X.mg X.base DC IE) (hr : Room k X.A) (hk : 1 ≤ k) : OpR X (compareOp .Eq) (rOwnEq X.K DC (spDEq X.K DC) id) := by
  obtain ⟨f, fd, h1, h2, h3, h4⟩ := F.eq
  exact op_ownEq h4 h3 (hr.mono hk) h1 h2
theorem op_dNe (F : DiaF X.prog X.w X.K X.mg X.base DC IE) (hr : Room k X.A) (hk : 2 ≤ k) : OpR X (compareOp .NotEq) (rOwnEq X.K DC (spDEq X.K DC) not) := by
  obtain ⟨f, fd, h1, h2, h3, h4⟩ := F.eq
  exact op_ownNe h4 h3 (hr.mono hk) h1 h2 F.ne F.ob
theorem pe_mkD (F : DiaF X.prog X.w X.K X.mg X.base DC IE) (hr : Room k X.A) (hk : 7 ≤ k) {es : List Expr} {t : TA} {p : Pos} (ha : PA X (e :: es) t) (hg : Gl X "Diary" := by rfl)
    (h1 : starEach (e :: es) X.env = (false, eval e X.env) :: starEach es X.env := by rfl) (h2 : (backTo pos (starEach es X.env)).any (·.1) = false := by rfl) : PE X (.Call (.Name "Diary" p) (e :: es) [] pos) (tMake DC (spDInit X.K DC) [] E0 t) := by
  obtain ⟨f, fd, m, b, Fn⟩ := F.make
  exact pe_make m Fn (hr.mono hk) hg F.at_.at_ b .nil pass0 ha (by decide) h1 h2
end
/-! ### promises of the law's own defs -/
def readV (c : Int) (wv bv : V) (n : Nat) : List V := [.int c, wv, bv, .int n, .int 100, .int 16, .int 60]
def spRead (DC : Addr) : Sp := fun vs H Q _ => ∃ (v : V) (c : Int) (ns : List (Option Int)) (ls : List (Int × Int × Int)), vs = [v] ∧ DiaAt DC H v c ns ls ∧ ns.length ≤ 100 ∧
  ∀ (p : Addr) (wv bv : V), H p = none → Fz H wv (notesD ns) → Fz H bv (linesD ls) → Q (.ref p) (upd H p (.lst (readV c wv bv ns.length)))
def spShown : Sp := fun vs H Q _ => ∃ (v : V) (b : Book), vs = [v] ∧ Fz H v b.d ∧
  ∀ (p : Addr) (wv bv : V), H p = none → Fz H wv (notesD b.notes) → Fz H bv (linesD b.lines) → Q (.ref p) (upd H p (.lst (readV b.c wv bv b.notes.length)))
def spValue (K : PySem.W.Frag) (DC : Addr) : Sp := fun vs H Q _ => ∃ (v y : V) (c : Int) (ns : List (Option Int)) (ls : List (Int × Int × Int)) (s : Sh), vs = [v, y] ∧ DiaAt DC H v c ns ls ∧ AnS K H y s ∧ ns.length ≤ 100 ∧
  ∀ (p : Addr) (H' : Hp), H p = none → (∀ b o, H b = some o → H' b = some o) → H' p = some (.lst (if s.within 0 ((ns.length : Int) - 1) then [] else [y])) → Q (.ref p) H'
section
variable {K : PySem.W.Frag} {σ : L2.St} {H : Hp} {Q : VK}
theorem g_methS {C : Addr} {m : Str} {sp : Sp} {E : L2.St → XK} {ta : TE} {t : TA} (h : ta σ H fun x H1 => ∃ a dx fs, x = .ref a ∧ H1 a = some (.ins C dx fs) ∧ fs.lookup m = none ∧ t σ H1 fun vs H2 => sp (x :: vs) H2 Q (E σ)) : WL.tMethS C m sp E ta t σ H Q := h
theorem g_errF {C : Addr} {f : Str} {te : TE} (h : te σ H fun x H1 => ∃ a d fs v, x = .ref a ∧ H1 a = some (Err a (.ref C) (some d)) ∧ H1 d = some (.xd fs) ∧ fs.lookup f = some v ∧ Q v H1) : tErrF C f te σ H Q := h
theorem none_up {H1 : Hp} {p : Addr} (n : H1 p = none) (h : ∀ b o, H b = some o → H1 b = some o) : H p = none := by
  cases e : H p with
  | none => rfl
  | some o => rw [h _ _ e] at n; exact absurd n (by simp)
theorem same_up {H1 : Hp} {p : Addr} {o : HO} (n : H1 p = none) (h : ∀ b o, H b = some o → H1 b = some o) : ∀ b u, H b = some u → upd H1 p o b = some u := fun b u hb => by rw [upd_ne (ne_of_none (h _ _ hb) n)]; exact h _ _ hb
end
theorem g_methK0 {C : Addr} {m : Str} {n : Nat} {sp : Sp} {gV : List V → List V → List V} {E : XK} {ta : TE} {tk : TA} {σ : L2.St} {H : Hp} {Q : VK} (h : ta σ H fun x H1 => ∃ a dx fs, x = .ref a ∧ H1 a = some (.ins C dx fs) ∧ fs.lookup m = none ∧ tk σ H1 fun zs H2 => zs.length = n ∧ sp (gV [x] zs) H2 Q E) : tMethK0 C m n sp gV E ta tk σ H Q := h
end WL
set_option Elab.async false
set_option linter.all false
set_option maxRecDepth 100000
set_option maxHeartbeats 4000000
namespace WL
open PySem PySem.Spec PyProof.Rows L2
/-! ### the class facts, asked of the model's fragment -/
def crB (K : PySem.W.Frag) (C : Addr) : Bool := PySem.W.readsIn K C (.type "type") && He.eqO (PySem.W.specialIn K (.ref C) "__getattribute__") (some (some (.builtin "type.__getattribute__")))
def cvB (K : PySem.W.Frag) (C : Addr) (f : Str) (i : Int) : Bool := match PySem.W.findCls K (.ref C) (.type "type") f with
  | some (.val (.int j _)) => decide (j = i)
  | _ => false
def conB (K : PySem.W.Frag) (C : Addr) (f : Str) (i : Int) : Bool := match PySem.W.findIn K (.ref C) f with
  | some (some (.int j t)) => decide (j = i) && (He.eqO (PySem.W.specialIn K (.int j t) "__get__") (some none) && !(PySem.W.copiedNames.contains f))
  | _ => false
def shTys : List String := ["NoneType", "bool", "str", "list", "dict", "int", "tuple"]
def isB (K : PySem.W.Frag) (t c : Value) (b : Bool) : Bool := match PySem.W.kitOne K t c with
  | some true => b
  | some false => !b
  | none => false
def othB (K : PySem.W.Frag) (C : Addr) : Bool := shTys.all fun T => isB K (.type T) (.ref C) false && PySem.W.notFirst K C (.type T)
def tkB (K : PySem.W.Frag) (v : Value) : Bool := match PySem.W.takesIn K v with
  | some true => true
  | _ => false
def sbB (K : PySem.W.Frag) (v c : Value) : Bool := match PySem.W.subIn K v c with
  | some true => true
  | _ => false
def mrB (K : PySem.W.Frag) (C : Addr) (c : Value) : Bool := match PySem.W.mroIn K C c with
  | some true => true
  | _ => false
def propB (K : PySem.W.Frag) (C : Addr) (n : Str) : Bool := He.eqO (PySem.W.findIn K (.ref C) n) (some (some (.ref (He.ma K C n)))) && (He.eqO (PySem.W.specialIn K (.ref (He.ma K C n)) "__get__") (some (some (.builtin "property.__get__"))) && (tkB K (.ref (He.ma K C n)) && (match PySem.W.recIn K (He.ma K C n) "property" with
  | some (.ref _ :: _) => true
  | _ => false)))
def diaB (K : PySem.W.Frag) (C : Addr) : Bool :=
  crB K C && (cvB K C "MAX_MODULUS" 100 && (cvB K C "MAX_EVENTS" 16 && (cvB K C "MAX_BOUNDS" 60 && cvB K C "MAX_DAYS" 1000000000)))
def diaOB (K : PySem.W.Frag) (C : Addr) : Bool :=
  isB K (.ref C) (.ref C) true && (othB K C && (He.eqO (PySem.W.findIn K (.ref C) "__class__") (some (some (.builtin "object.__class__"))) && (He.eqO (PySem.W.specialIn K (.builtin "object.__class__") "__get__") (some (some (.builtin "getset_descriptor.__get__"))) && (tkB K (.builtin "object.__class__") && mrB K C (.type "object")))))
def diaFB (K : PySem.W.Frag) (C : Addr) : Bool :=
  propB K C "modulus" && (propB K C "weekdays" && (propB K C "bounds" && (He.eqO (PySem.W.findIn K (.ref C) "__ne__") (some (some (.builtin "object.__ne__"))) && (sbB K (.ref C) (.type "object") && (PySem.W.notFirst K C (.ref C) && (conB K C "MAX_MODULUS" 100 && (conB K C "MAX_EVENTS" 16 && (conB K C "MAX_BOUNDS" 60 && conB K C "MAX_DAYS" 1000000000))))))))
/-- an exception class with fields and an __init__ of its own -/
def exB (K : PySem.W.Frag) (C : Addr) : Bool := match K.lookup C with
  | some ⟨.type T, _, .cls cd, sl⟩ => decide (T = "type") && (match cd.mro, sl.toList with
    | .ref C' :: bm, [_, _, _, _, some (.builtin n), _] => decide (C' = C) && (decide (n = "ValueError.__new__") && (!cd.hasDel && (cd.hasDict && HandSPX.refsVE bm)))
    | _, _ => false)
  | _ => false
def tyB (K : PySem.W.Frag) (v : Value) (t : String) : Bool := match PySem.W.typeIn K v with
  | some (.type T) => decide (T = t)
  | _ => false
def exTB (K : PySem.W.Frag) (fs : List Str) (C fI : Addr) : Bool :=
  exB K C && (He.eqO (PySem.W.ks_superIn K C C "__init__") (some (some (.builtin "ValueError.__init__"))) && (He.eqO (PySem.W.nsIn K cStatics "thirdparty.any") (some none) && (mrB K C (.ref C) && (sbB K (.ref C) (.type "ValueError") && (He.eqO (PySem.W.findIn K (.ref C) "__setattr__") (some (some (.builtin "object.__setattr__"))) && ((fs.all fun f => He.eqO (PySem.W.findIn K (.ref C) f) (some none)) &&
  (He.eqO (PySem.W.findIn K (.ref C) "__init__") (some (some (.ref fI))) && (tyB K (.ref fI) "function" && (PySem.W.keepIn K (.ref C) && (sbB K (.ref C) (.type "BaseException") && tyB K (.ref C) "type"))))))))))
def xfacB (K : PySem.W.Frag) (C : Addr) : Bool := He.eqO (PySem.W.findIn K (.ref C) "__getattribute__") (some (some (.builtin "BaseException.__getattribute__"))) && (He.eqO (PySem.W.findIn K (.ref C) "__getattr__") (some none) && (sbB K (.ref C) (.type "BaseException") && PySem.W.hasDictIn K C))
def emB (K : PySem.W.Frag) (a b : Value) : Bool := match PySem.W.exmOne K a b with
  | some true => true
  | _ => false
section
variable {K : PySem.W.Frag} {C : Addr}
theorem crB_ok (h : crB K C = true) : ClX.CRead K C (.type "type") := by
  obtain ⟨a, b⟩ := He.ba h
  exact ⟨a, He.eqO_ok b⟩
theorem cvB_ok {f : Str} {i : Int} (h : cvB K C f i = true) : ∃ u, ClX.CVal K C (.type "type") f (.int i) u := by
  unfold cvB at h
  split at h
  · next j t e => exact ⟨_, e, t, by rw [of_decide_eq_true h]⟩
  · cases h
theorem conB_ok {f : Str} {i : Int} (h : conB K C f i = true) : ∃ u, Con K C f (.int i) u := by
  unfold conB at h
  split at h
  · next j t e =>
    obtain ⟨a, h⟩ := He.ba h
    obtain ⟨b, c⟩ := He.ba h
    have e1 := of_decide_eq_true a
    subst e1
    exact ⟨_, e, ⟨t, rfl⟩, He.eqO_ok b, by simpa using c⟩
  · cases h
theorem isB_ok {t c : Value} {b : Bool} (h : isB K t c b = true) : PySem.W.kitOne K t c = some b := by
  unfold isB at h
  split at h
  · next e => rw [e, h]
  · next e => rw [e]; cases b <;> simp_all
  · cases h
theorem othB_ok (h : othB K C = true) : ∀ s : Sh, PySem.W.kitOne K (.type s.ty) (.ref C) = some false ∧ PySem.W.notFirst K C (.type s.ty) = true := by
  intro s
  have hs : s.ty ∈ shTys := by cases s <;> simp [Sh.ty, shTys]
  obtain ⟨a, b⟩ := He.ba (List.all_eq_true.mp h _ hs)
  exact ⟨isB_ok a, b⟩
theorem tkB_ok {v : Value} (h : tkB K v = true) : PySem.W.takesIn K v = some true := by
  unfold tkB at h
  split at h
  · next e => exact e
  · cases h
theorem sbB_ok {v c : Value} (h : sbB K v c = true) : PySem.W.subIn K v c = some true := by
  unfold sbB at h
  split at h
  · next e => exact e
  · cases h
theorem mrB_ok {c : Value} (h : mrB K C c = true) : PySem.W.mroIn K C c = some true := by
  unfold mrB at h
  split at h
  · next e => exact e
  · cases h
theorem emB_ok {a b : Value} (h : emB K a b = true) : PySem.W.exmOne K a b = some true := by
  unfold emB at h
  split at h
  · next e => exact e
  · cases h
theorem tyB_ok {v : Value} {t : String} (h : tyB K v t = true) : PySem.W.typeIn K v = some (.type t) := by
  unfold tyB at h
  split at h
  · next T e => rw [e, of_decide_eq_true h]
  · cases h
theorem propB_ok {n : Str} (h : propB K C n = true) : PropOf K C n (He.ma K C n) (recAd K (He.ma K C n) "property") := by
  obtain ⟨a, h⟩ := He.ba h
  obtain ⟨b, h⟩ := He.ba h
  obtain ⟨c, d⟩ := He.ba h
  refine ⟨He.eqO_ok a, He.eqO_ok b, tkB_ok c, ?_⟩
  unfold recAd
  split at d
  · next g r e => rw [e]; exact ⟨r, rfl⟩
  · cases d
theorem diaB_ok {mg : Str → Option Value} (m : mg "Diary" = some (.ref C)) (h : diaB K C = true) : Dia K mg C := by
  obtain ⟨a, h⟩ := He.ba h
  obtain ⟨b, h⟩ := He.ba h
  obtain ⟨c, h⟩ := He.ba h
  obtain ⟨d, e⟩ := He.ba h
  exact ⟨m, _, crB_ok a, cvB_ok b, cvB_ok c, cvB_ok d, cvB_ok e⟩
theorem diaOB_ok (c : Cls K C) (n1 : NoAttr K C "_modulus") (n2 : NoAttr K C "_weekdays") (n3 : NoAttr K C "_bounds") (h : diaOB K C = true) : DiaO K C := by
  obtain ⟨a, h⟩ := He.ba h
  obtain ⟨b, h⟩ := He.ba h
  obtain ⟨c1, h⟩ := He.ba h
  obtain ⟨c2, h⟩ := He.ba h
  obtain ⟨c3, c4⟩ := He.ba h
  exact ⟨c, n1, n2, n3, isB_ok a, fun s => (othB_ok b s).1, He.eqO_ok c1, He.eqO_ok c2, tkB_ok c3, mrB_ok c4⟩
theorem exB_ok (h : exB K C = true) : ∃ nm q N bs bm sn sub ab col dd k0 k1 k2 k3 k5, K.lookup C = some (excClassObj nm q C N bs bm true sn sub ab col dd k0 k1 k2 k3 k5 "ValueError.__new__") ∧ HandSPX.refsVE bm = true := by
  unfold exB at h
  split at h
  · next T dd cd sl e =>
    obtain ⟨a, h⟩ := He.ba h
    split at h
    · next C' bm k0 k1 k2 k3 n k5 em es =>
      obtain ⟨b, h⟩ := He.ba h
      obtain ⟨c, h⟩ := He.ba h
      obtain ⟨d, h⟩ := He.ba h
      obtain ⟨f, g⟩ := He.ba h
      have e1 := of_decide_eq_true a
      have e2 := of_decide_eq_true b
      have e3 := of_decide_eq_true c
      subst e1 e2 e3
      obtain ⟨nm, bs, mro, N, q, hd, sn, sub, ab, col, del⟩ := cd
      simp only at em d f
      have d' : del = false := by simpa using d
      subst em d' f
      have e4 : sl = #[k0, k1, k2, k3, some (.builtin "ValueError.__new__"), k5] := by
        rw [← Array.toList_inj]; exact es
      subst e4
      exact ⟨nm, q, N, bs, bm, sn, sub, ab, col, dd, k0, k1, k2, k3, k5, e, g⟩
    · cases h
  · cases h
theorem exTB_ok {P : Program} {mg : Str → Option Value} {fs : List Str} {fI : Addr} (free : mg "super" = none) (top : (List.lookup ("super" : Str) P.main.scope.names).isSome = false) (h : exTB K fs C fI = true) : ExT P K mg fs C fI := by
  obtain ⟨a1, h⟩ := He.ba h
  obtain ⟨a2, h⟩ := He.ba h
  obtain ⟨a3, h⟩ := He.ba h
  obtain ⟨a4, h⟩ := He.ba h
  obtain ⟨a5, h⟩ := He.ba h
  obtain ⟨a6, h⟩ := He.ba h
  obtain ⟨a7, h⟩ := He.ba h
  obtain ⟨a8, h⟩ := He.ba h
  obtain ⟨a9, h⟩ := He.ba h
  obtain ⟨b1, h⟩ := He.ba h
  obtain ⟨b2, b3⟩ := He.ba h
  exact ⟨exB_ok a1, He.eqO_ok a2, He.eqO_ok a3, mrB_ok a4, sbB_ok a5, He.eqO_ok a6, fun f hf => He.eqO_ok (List.all_eq_true.mp a7 f hf), He.eqO_ok a8, tyB_ok a9, b1, sbB_ok b2, tyB_ok b3, free, top⟩
theorem xfacB_ok (h : xfacB K C = true) : XfC K C := by
  obtain ⟨a1, h⟩ := He.ba h
  obtain ⟨a2, h⟩ := He.ba h
  obtain ⟨a3, a4⟩ := He.ba h
  exact ⟨He.eqO_ok a1, He.eqO_ok a2, sbB_ok a3, a4⟩
end
end WL
set_option Elab.async false
set_option linter.all false
set_option maxRecDepth 100000
set_option maxHeartbeats 4000000
namespace WL
open PySem PySem.Spec PyProof.Rows L2
/-! ### defs of exception classes: __init__ with super() -/
abbrev XnW : Type := Option (Arguments × FuncBody × Scope × Addr × Addr × Bool)
def noDfl (fd : FuncData) : Bool := match fd.defaults, fd.kwdefaults with
  | .none, .none => true
  | _, _ => false
structure DefX where
  cls : Str
  st : Stmt
  nd : Bool := true
def DefX.C (K : PySem.W.Frag) (d : DefX) : Addr := He.ga K d.cls
def DefX.ad (K : PySem.W.Frag) (d : DefX) : Addr := He.ma K (He.ga K d.cls) "__init__"
def DefX.val (d : DefX) : XnW := some (defArgs d.st, .stmts (defBody d.st), defScope d.st, mainGlobals, builtinsNs, d.nd)
def fnX (K : PySem.W.Frag) (a : Addr) : XnW := match K.lookup a with
  | some ⟨_, _, .func fd, _⟩ => some (fd.params, fd.body, fd.scope, fd.globals, fd.builtins, noDfl fd)
  | _ => none
def exIB (K : PySem.W.Frag) (file : Str) (C fI : Addr) : Bool := match K.lookup fI with
  | some ⟨_, _, .func fd, _⟩ => (match fd.closure with
      | [(x, cc)] => decide (x = ("__class__" : Str)) && (match K.lookup cc with
        | some ⟨_, _, .cell (some (.ref C')), _⟩ => decide (C' = C)
        | _ => false)
      | _ => false) && ((match fd.code with
      | .ref cda => (match K.lookup cda with
        | some ⟨_, _, .fields vs, _⟩ => (match (vs[2]? : Option Value) with
          | some (.str fl _) => file == fl
          | _ => false)
        | _ => false)
      | _ => false) && PySem.W.codeIn K fd.code fd.qualname)
  | _ => false
theorem exI_ok {P : Program} {K : PySem.W.Frag} {fs : List Str} {C : Addr} {d : DefX} (hC : d.C K = C) (h : exIB K P.main.file C (d.ad K) = true) (e : fnX K (d.ad K) = d.val)
    (first : ∃ ar, ((defArgs d.st).posonlyargs ++ (defArgs d.st).args).head? = some ar ∧ ar.arg = ("self" : Str)) (kind : (defScope d.st).kind = .function) (co : (defScope d.st).isCoroutine = false) (gen : (defScope d.st).isGenerator = false) (ok : scOk (defScope d.st) fs = true)
    (body : ∃ msg k q qs, defBody d.st = supSt msg k q :: List.map (fun p => fldSt p.1 p.2) (fs.zip qs) ∧ qs.length = fs.length ∧ ((q 2).endLine == (q 4).line) = true) :
    ∃ fd, ExI P K fs C (d.ad K) fd ∧ fd.params = defArgs d.st ∧ noDfl fd = d.nd := by
  unfold exIB at h
  unfold fnX at e
  split at h
  · next oc od fd osl lk =>
    rw [lk] at e
    simp only [DefX.val, Option.some.injEq, Prod.mk.injEq] at e
    obtain ⟨e1, e2, e3, e4, e5, e6⟩ := e
    obtain ⟨h1, h⟩ := He.ba h
    obtain ⟨h2, h3⟩ := He.ba h
    refine ⟨fd, ⟨⟨oc, od, osl, lk⟩, ?_, ?_, h3, e5, e4, by rw [e1]; exact first, by rw [e3]; exact kind, by rw [e3]; exact co, by rw [e3]; exact gen, by rw [e3]; exact ok, ?_⟩, e1, e6⟩
    · split at h1
      · next x cc ec =>
        obtain ⟨a, b⟩ := He.ba h1
        split at b
        · next cl cld C' csl el =>
          rw [of_decide_eq_true a] at ec
          rw [of_decide_eq_true b] at el
          exact ⟨cc, cl, cld, csl, ec, el⟩
        · cases b
      · cases h1
    · split at h2
      · next cda ec =>
        split at h2
        · next ccl cdd vs ccs el =>
          split at h2
          · next fl tf ev => exact ⟨cda, ccl, cdd, vs, ccs, fl, tf, ec, el, ev, h2⟩
          · cases h2
        · cases h2
      · cases h2
    · obtain ⟨msg, k, q, qs, b1, b2, b3⟩ := body
      exact ⟨msg, k, q, qs, by rw [e2, b1], b2, b3⟩
  · cases h
/-! ### the hook with both kinds of defs -/
abbrev AlX : Type := AlW × List XnW
def obsX (n : Nat) (chk : PySem.W.Frag → Bool) (fn : List DefW) (xs : List DefX) (g : Addr → Option Obj) : AlX := (obsW n chk fn g, let K := He.frG g (asW g n); xs.map fun d => fnX K (d.ad K))
def valX (fn : List DefW) (xs : List DefX) : AlX := (valW fn, xs.map DefX.val)
structure SaysX (chk : PySem.W.Frag → Bool) (fn : List DefW) (xs : List DefX) (K : PySem.W.Frag) : Prop where
  w : SaysW chk fn K
  eqs : xs.map (fun d => fnX K (d.ad K)) = xs.map DefX.val
theorem SaysX.ex {chk : PySem.W.Frag → Bool} {fn : List DefW} {xs : List DefX} {K : PySem.W.Frag} (c : SaysX chk fn xs K) (i : Nat) {d : DefX} (h : xs[i]? = some d) : fnX K (d.ad K) = d.val := by
  have z : (xs.map fun d => fnX K (d.ad K))[i]? = (xs.map DefX.val)[i]? := by rw [c.eqs]
  rw [List.getElem?_map, List.getElem?_map, h] at z
  exact Option.some.inj z
def hookX (n : Nat) (chk : PySem.W.Frag → Bool) (fn : List DefW) (xs : List DefX) : PySem.W.Hook where
  α := AlX
  obs := fun s => obsX n chk fn xs s.heap.get?
  val := fun _ => valX fn xs
  says := fun _ h => ∃ K : PySem.W.Frag, K.In h ∧ SaysX chk fn xs K
  of := fun _ _ e => ⟨_, He.frG_in, saysW_of (congrArg Prod.fst e), congrArg Prod.snd e⟩
  keeps := fun _ _ _ ⟨K, hK, c⟩ k => ⟨K, PySem.W.Frag.In.keeps hK k, c⟩
theorem obsX_eq {n : Nat} {chk : PySem.W.Frag → Bool} {fn : List DefW} {xs : List DefX} {g : Addr → Option Obj} {s : Shared} (h : ∀ a, g a = s.heap.get? a) : obsX n chk fn xs g = (hookX n chk fn xs).obs s := by
  have e : g = s.heap.get? := funext h
  rw [e]
  rfl
end WL
set_option Elab.async false
set_option linter.all false
set_option maxRecDepth 100000
set_option maxHeartbeats 4000000
namespace WL
open PySem PySem.Spec PyProof.Rows L2
/-- list(xs): the new list is not the module table -/
def rListS (K : PySem.W.Frag) : List V → Hp → VK → Prop := fun xs H Q => ∃ p ys, xs = [V.ref p] ∧ (SqL K H p ys ∨ SqT K H p ys) ∧ ∀ l, H l = none → l ≠ sysModules → Q (.ref l) (upd H l (.lst ys))
theorem call_list_ofS {X : Cx} : CallR X (.type "list") (rListS X.K) := by
  intro pins s σ H xs us Q I r h
  obtain ⟨p, ys, rfl, hq, q⟩ := h
  cases r with
  | cons r rr =>
    cases rr
    cases r
    have fin : ∀ (its : List Value), Vals ys its → ys.length ≤ sizeLine → ∀ (h' : Heap) (c' : Nat), (∀ (b : Addr) (o' : Obj), s.heap.get? b = some o' → h'.get? b = some o') → h'.get? s.heap.objs.size = some { cls := .type "list", data := .seq its.toArray c' } →
        EP X pins σ Q (.ref s.heap.objs.size) { heap := h', gens := s.gens, drawn := s.drawn, toks := s.toks, os := s.os } := fun its r' hz h' c' kp e =>
      ⟨.ref s.heap.objs.size, upd H s.heap.objs.size (.lst ys), I.laid kp (Nat.le_refl _) ⟨hz, its, c', r', e⟩, rfl, q _ (I.hok.fresh (Nat.le_refl _)) (Nat.ne_of_gt I.big)⟩
    rcases hq with hq | hq
    · obtain ⟨its, r', pl, hz⟩ := Inv.list I hq
      have hlen := r'.length
      obtain ⟨o, ho, hc, n, hd⟩ := PlainL.isList pl
      exact call_list_seq p (.inl rfl) ho hc hd (fun h' c' kp e => fin its r' hz h' c' kp e) (by rw [List.size_toArray]; omega)
    · obtain ⟨its, r', pl, hz⟩ := Inv.tuple I hq
      have hlen := r'.length
      obtain ⟨o, ho, hc, n, hd⟩ := pl
      exact call_list_seq p (.inr rfl) ho hc hd (fun h' c' kp e => fin its r' hz h' c' kp e) (by rw [List.size_toArray]; omega)
/-! ### data for showing, without a word on where lists stand -/
mutual
inductive DqB (H : Hp) : V → PyData → Prop
  | non : DqB H .non .none
  | bl (b : Bool) : DqB H (.bl b) (.bool b)
  | int (i : Int) : DqB H (.int i) (.int i)
  | str (x : Str) : DqB H (.str x) (.str x)
  | tup {a : Addr} {xs : List V} {ds : List PyData} : H a = some (.tup xs) → DqBs H xs ds → DqB H (.ref a) (.tuple ds)
  | lst {a : Addr} {xs : List V} {ds : List PyData} : H a = some (.lst xs) → DqBs H xs ds → DqB H (.ref a) (.list ds)
  | mtd {a : Addr} : H a = some (.dK []) → DqB H (.ref a) (.dict [])
inductive DqBs (H : Hp) : List V → List PyData → Prop
  | nil : DqBs H [] []
  | cons {v : V} {vs : List V} {d : PyData} {ds : List PyData} : DqB H v d → DqBs H vs ds → DqBs H (v :: vs) (d :: ds)
end
section
variable {H : Hp}
mutual
theorem DqB.dq (h : ∀ xs, H sysModules ≠ some (.lst xs)) : ∀ {v : V} {d : PyData}, DqB H v d → Dq H v d
  | _, _, .non => .non
  | _, _, .bl b => .bl b
  | _, _, .int i => .int i
  | _, _, .str x => .str x
  | _, _, .tup a b => .tup a (b.dqs h)
  | _, _, .lst (xs := xs) a b => .lst a (fun e => h xs (by rw [← e]; exact a)) (b.dqs h)
  | _, _, .mtd a => .mtd a
theorem DqBs.dqs (h : ∀ xs, H sysModules ≠ some (.lst xs)) : ∀ {vs : List V} {ds : List PyData}, DqBs H vs ds → Dqs H vs ds
  | _, _, .nil => .nil
  | _, _, .cons a b => .cons (a.dq h) (b.dqs h)
end
mutual
theorem Fz.dqB : ∀ {v : V} {d : PyData}, Fz H v d → DqB H v d
  | _, _, .non => .non
  | _, _, .bl b => .bl b
  | _, _, .int i => .int i
  | _, _, .str x => .str x
  | _, _, .tup h q => .tup h q.dqBs
theorem Fzs.dqBs : ∀ {vs : List V} {ds : List PyData}, Fzs H vs ds → DqBs H vs ds
  | _, _, .nil => .nil
  | _, _, .cons h q => .cons h.dqB q.dqBs
end
end
/-- the table of modules is a thing of the model's own, and no list -/
def SysB (K : PySem.W.Frag) : Prop := ∃ o, K.lookup sysModules = some o ∧ (o.cls == .type "list") = false
def rShowB : List V → Hp → VK → Prop := fun vs H Q => ∃ a d, vs = [V.ref a] ∧ DqB H (V.ref a) d ∧ d.showable = true ∧ d.shown.length ≤ sizeLine ∧ d.depth ≤ 50 ∧ Q (V.str d.shown) H
theorem call_showB {X : Cx} {k : Nat} (hs : SysB X.K) (hg : X.A.guards = some []) (hr : Room k X.A) : CallR X (.builtin "repr") rShowB := by
  intro pins s σ H xs us Q I r h
  obtain ⟨a, d, e, hd, h1, h2, h3, q⟩ := h
  refine call_show hg hr pins s σ H xs us Q I r ⟨a, d, e, hd.dq fun ys hy => ?_, h1, h2, h3, q⟩
  obtain ⟨o, ho, hc⟩ := hs
  obtain ⟨_, its, n, _, _, eo⟩ := Inv.lstM I hy
  have e2 := Option.some.inj ((I.kIn _ _ ho).symm.trans eo)
  subst e2
  exact absurd (show true = false from hc) (by decide)
def sysB (K : PySem.W.Frag) : Bool := match K.lookup sysModules with
  | some o => !(o.cls == .type "list")
  | none => false
theorem sysB_ok {K : PySem.W.Frag} (h : sysB K = true) : SysB K := by
  unfold sysB at h
  split at h
  · next o e => exact ⟨o, e, by simpa using h⟩
  · cases h
section
variable {H H' : Hp}
mutual
theorem DqB.same (k : ∀ b o, H b = some o → H' b = some o) : ∀ {v : V} {d : PyData}, DqB H v d → DqB H' v d
  | _, _, .non => .non
  | _, _, .bl b => .bl b
  | _, _, .int i => .int i
  | _, _, .str x => .str x
  | _, _, .tup a b => .tup (k _ _ a) (b.same k)
  | _, _, .lst a b => .lst (k _ _ a) (b.same k)
  | _, _, .mtd a => .mtd (k _ _ a)
theorem DqBs.same (k : ∀ b o, H b = some o → H' b = some o) : ∀ {vs : List V} {ds : List PyData}, DqBs H vs ds → DqBs H' vs ds
  | _, _, .nil => .nil
  | _, _, .cons a b => .cons (a.same k) (b.same k)
end
end
/-- a value that is no event of so many, and can be shown in a list -/
structure Odd (K : PySem.W.Frag) (H : Hp) (n : Int) (x : V) : Prop where
  ex : ∃ s d, AnS K H x s ∧ s.within 0 (n - 1) = false ∧ DqB H x d ∧ (PyData.list [d]).showable = true ∧ (PyData.list [d]).shown.length ≤ sizeLine ∧ (PyData.list [d]).depth ≤ 50
theorem Odd.same {K : PySem.W.Frag} {H H' : Hp} {n : Int} {x : V} (k : ∀ b o, H b = some o → H' b = some o) (h : Odd K H n x) : Odd K H' n x := by
  obtain ⟨s, d, h1, h2, h3, h4⟩ := h.ex
  exact ⟨s, d, h1.same k, h2, h3.same k, h4⟩
theorem g_showB {H : Hp} {Q : VK} {a : Addr} {d : PyData} (h : DqB H (.ref a) d) (h1 : d.showable = true) (h2 : d.shown.length ≤ sizeLine) (h3 : d.depth ≤ 50) (q : Q (.str d.shown) H) : rShowB [.ref a] H Q := ⟨a, d, rfl, h, h1, h2, h3, q⟩
def spEvents (K : PySem.W.Frag) (DC : Addr) : Sp := fun vs H Q _ => ∃ (v : V) (c : Int) (ns : List (Option Int)) (ls : List (Int × Int × Int)), vs = [v] ∧ DiaAt DC H v c ns ls ∧ 1 ≤ ns.length ∧ ns.length ≤ 16 ∧ ∀ H', (∀ b o, H b = some o → H' b = some o) → Q (.bl true) H'
theorem DiaAt.same {DC : Addr} {H H' : Hp} {v : V} {c : Int} {ns : List (Option Int)} {ls : List (Int × Int × Int)} (h : DiaAt DC H v c ns ls) (k : ∀ b o, H b = some o → H' b = some o) : DiaAt DC H' v c ns ls := h.keep (Tk.same k) (Ik.same k)
theorem show_int16 {n : Nat} (h : n ≤ 16) : (PyData.list [.int n]).showable = true ∧ (PyData.list [.int n]).shown.length ≤ sizeLine ∧ (PyData.list [.int n]).depth ≤ 50 := by
  have : n = 0 ∨ n = 1 ∨ n = 2 ∨ n = 3 ∨ n = 4 ∨ n = 5 ∨ n = 6 ∨ n = 7 ∨ n = 8 ∨ n = 9 ∨ n = 10 ∨ n = 11 ∨ n = 12 ∨ n = 13 ∨ n = 14 ∨ n = 15 ∨ n = 16 := by omega
  rcases this with rfl | rfl | rfl | rfl | rfl | rfl | rfl | rfl | rfl | rfl | rfl | rfl | rfl | rfl | rfl | rfl | rfl <;> refine ⟨?_, ?_, ?_⟩ <;> decide +kernel
def rLenS (K : PySem.W.Frag) : List V → Hp → VK → Prop := fun xs H Q => ∃ p ys, xs = [V.ref p] ∧ (SqL K H p ys ∨ SqT K H p ys) ∧ Q (V.int ys.length) H
theorem call_lenS {X : Cx} : CallR X (.builtin "len") (rLenS X.K) := call_len_seq
theorem neD_nil {K : PySem.W.Frag} {H : Hp} {Q : VK} {a b : Addr} (h1 : H a = some (.lst [])) (h2 : H b = some (.lst [])) (q : Q (.bl false) H) : rNeD K (.ref a) (.ref b) H Q :=
  g_neD (K := K) (dp_nilL (SqL.of h1)) (dp_nilL (SqL.of h2)) (pl_shaped pl_nilL (by decide)) (pl_shaped pl_nilL (by decide)) q
theorem g_itup {K : PySem.W.Frag} {σ : L2.St} {H : Hp} {tl : TE} {R : It → Hp → Prop} (h : tl σ H fun x H1 => ∃ a, x = V.ref a ∧ (∃ xs, SqT K H1 a xs) ∧ R (Itt K a) H1) : iTup K tl σ H R := h
theorem g_tq {K : PySem.W.Frag} {H : Hp} {a : Addr} {xs : List V} {P : Addr → Prop} (h1 : SqT K H a xs) (h : P a) : ∃ a', V.ref a = V.ref a' ∧ (∃ xs, SqT K H a' xs) ∧ P a' := ⟨a, rfl, ⟨xs, h1⟩, h⟩
theorem g_dnew {σ : L2.St} {H : Hp} {Q : VK} (h : ∀ p, H p = none → Q (.ref p) (upd H p (.dK []))) : tDNewK σ H Q := h
theorem ne_same {H : Hp} {Q : VK} {x : Str} (q : Q (.bl false) H) : rNe (.str x) (.str x) H Q := ⟨rfl, by rw [decide_eq_true rfl]; exact q⟩
theorem odd_int {K : PySem.W.Frag} {H : Hp} {n i : Int} (h : i < 0 ∨ n ≤ i) (h1 : (PyData.list [.int i]).showable = true ∧ (PyData.list [.int i]).shown.length ≤ sizeLine ∧ (PyData.list [.int i]).depth ≤ 50) : Odd K H n (.int i) := by
  refine ⟨.int i, .int i, .int i, ?_, .int i, h1⟩
  show (decide (0 ≤ i) && decide (i ≤ n - 1)) = false
  rcases h with h | h
  · rw [decide_eq_false (show ¬ 0 ≤ i by omega)]; rfl
  · rw [decide_eq_false (show ¬ i ≤ n - 1 by omega), Bool.and_false]
theorem kp {H : Hp} {p q : Addr} {o o' : HO} (n : H q = none) (h : H p = some o) : upd H q o' p = some o := by rw [upd_ne (ne_of_none h n)]; exact h
end WL
set_option Elab.async false
set_option linter.all false
set_option maxRecDepth 100000
set_option maxHeartbeats 4000000
namespace WL
open PySem PySem.Spec PyProof.Rows L2
/-! ### what the data of a diary may be shown as: small numbers, few parts -/
def smI (i : Int) : Prop := -999999999999 ≤ i ∧ i ≤ 999999999999
structure Sm (d : PyData) : Prop where
  short : PyData.leavesShort 13 d = true
  show_ : d.showable = true
theorem sm_int {i : Int} (h : smI i) : Sm (.int i) := by
  have hl := PyData.shown_int_le2 h.1 h.2
  refine ⟨?_, ?_⟩
  · first
      | exact decide_eq_true hl
      | (show decide _ = true; exact decide_eq_true hl)
  · rw [PyData.showable.eq_4]
    refine decide_eq_true ?_
    by_cases z : i.natAbs = 0
    · rw [z]; decide
    · have : i.natAbs < 2 ^ 1920 := Nat.lt_of_lt_of_le (show i.natAbs < 2 ^ 40 by have := h.1; have := h.2; omega) (Nat.pow_le_pow_right (by decide) (by decide))
      exact (Nat.log2_lt z).mpr this
theorem sm_non : Sm .none := ⟨rfl, rfl⟩
theorem sm_all {ds : List PyData} (h : ∀ d ∈ ds, Sm d) : PyData.leavesShortAll 13 ds = true ∧ PyData.showableAll ds = true := by
  induction ds with
  | nil => exact ⟨rfl, rfl⟩
  | cons d ds ih =>
    obtain ⟨a, b⟩ := ih (fun e he => h e (by simp [he]))
    have hd := h d (by simp)
    refine ⟨?_, ?_⟩
    · rw [PyData.leavesShortAll.eq_2, hd.short, a]; rfl
    · rw [PyData.showableAll.eq_2, hd.show_, b]; rfl
theorem sm_tup {ds : List PyData} (h : ∀ d ∈ ds, Sm d) : Sm (.tuple ds) := ⟨(sm_all h).1, by rw [PyData.showable.eq_6]; exact (sm_all h).2⟩
theorem sm_lst {ds : List PyData} (h : ∀ d ∈ ds, Sm d) : Sm (.list ds) := ⟨(sm_all h).1, by rw [PyData.showable.eq_5]; exact (sm_all h).2⟩
theorem sm_fits {d : PyData} (h : Sm d) (hb : d.bulk ≤ 100000) : d.shown.length ≤ sizeLine := by
  have := PyData.shown_le_bulk 13 (by decide) d h.short
  exact sz' (Nat.le_trans this (by omega))
where sz' {n : Nat} (h : n ≤ 1600000) : n ≤ sizeLine := Nat.le_trans h (by decide)
theorem bulk_all0 {α : Type} (f : α → PyData) (k : Nat) (hf : ∀ a, (f a).bulk = k) : ∀ xs : List α, PyData.bulkAll (xs.map f) = (k + 1) * xs.length
  | [] => by simp [PyData.bulkAll.eq_1]
  | x :: xs => by
    rw [List.map_cons, PyData.bulkAll.eq_2, hf, bulk_all0 f k hf xs, List.length_cons, Nat.mul_add]
    omega
theorem bulk_notes (ns : List (Option Int)) : (notesD ns).bulk = ns.length := by
  show (PyData.tuple (ns.map noteD)).bulk = _
  rw [PyData.bulk.eq_3, bulk_all0 noteD 0 (fun a => by cases a <;> rfl)]
  omega
theorem bulk_lines (ls : List (Int × Int × Int)) : (linesD ls).bulk = 4 * ls.length := by
  show (PyData.tuple (ls.map lineD)).bulk = _
  rw [PyData.bulk.eq_3, bulk_all0 lineD 3 (fun a => rfl)]
theorem sm_notes {c : Int} {ns : List (Option Int)} {ls : List (Int × Int × Int)} {w : Int} (h : DOK c ns ls w) : Sm (notesD ns) := by
  refine sm_tup fun d hd => ?_
  obtain ⟨n, hn, rfl⟩ := List.mem_map.mp hd
  cases n with
  | none => exact sm_non
  | some i =>
    obtain ⟨a, b⟩ := h.note i hn
    have := h.c100
    exact sm_int ⟨by omega, by omega⟩
theorem sm_lines {c : Int} {ns : List (Option Int)} {ls : List (Int × Int × Int)} {w : Int} (h : DOK c ns ls w) (hw : w ≤ 999999999999) : Sm (linesD ls) := by
  refine sm_tup fun d hd => ?_
  obtain ⟨l, hl, rfl⟩ := List.mem_map.mp hd
  obtain ⟨⟨a1, a2⟩, ⟨b1, b2⟩, c1, c2⟩ := h.line l hl
  have := h.n16
  refine sm_tup fun d hd => ?_
  simp only [List.mem_cons, List.not_mem_nil, or_false] at hd
  rcases hd with rfl | rfl | rfl
  · exact sm_int ⟨by omega, by omega⟩
  · exact sm_int ⟨by omega, by omega⟩
  · exact sm_int ⟨by omega, by omega⟩
/-- what a diary is read as -/
def readD (c : Int) (ns : List (Option Int)) (ls : List (Int × Int × Int)) : PyData := .list [.int c, notesD ns, linesD ls, .int ns.length, .int 100, .int 16, .int 60]
def rowD (c : Int) (ns : List (Option Int)) (ls : List (Int × Int × Int)) : List PyData := [.int c, notesD ns, linesD ls]
theorem dok_c {c : Int} {ns : List (Option Int)} {ls : List (Int × Int × Int)} {w : Int} (h : DOK c ns ls w) : Sm (.int c) := sm_int ⟨by have := h.c2; omega, by have := h.c100; omega⟩
theorem sm_read {c : Int} {ns : List (Option Int)} {ls : List (Int × Int × Int)} {w : Int} (h : DOK c ns ls w) (hw : w ≤ 999999999999) : Sm (readD c ns ls) := by
  refine sm_lst fun d hd => ?_
  have := h.n16
  simp only [List.mem_cons, List.not_mem_nil, or_false] at hd
  rcases hd with rfl | rfl | rfl | rfl | rfl | rfl | rfl
  · exact dok_c h
  · exact sm_notes h
  · exact sm_lines h hw
  · exact sm_int ⟨by omega, by omega⟩
  · exact sm_int ⟨by omega, by omega⟩
  · exact sm_int ⟨by omega, by omega⟩
  · exact sm_int ⟨by omega, by omega⟩
theorem bulk_read {c : Int} {ns : List (Option Int)} {ls : List (Int × Int × Int)} : (readD c ns ls).bulk = 7 + ns.length + 4 * ls.length := by
  show (PyData.list _).bulk = _
  rw [PyData.bulk.eq_2]
  simp only [PyData.bulkAll.eq_2, PyData.bulkAll.eq_1, PyData.bulk.eq_7, bulk_notes, bulk_lines]
  omega
theorem sm_row {c : Int} {ns : List (Option Int)} {ls : List (Int × Int × Int)} {w : Int} (h : DOK c ns ls w) (hw : w ≤ 999999999999) : Sm (.list (rowD c ns ls)) := by
  refine sm_lst fun d hd => ?_
  simp only [rowD, List.mem_cons, List.not_mem_nil, or_false] at hd
  rcases hd with rfl | rfl | rfl
  · exact dok_c h
  · exact sm_notes h
  · exact sm_lines h hw
theorem bulk_row {c : Int} {ns : List (Option Int)} {ls : List (Int × Int × Int)} : (PyData.list (rowD c ns ls)).bulk = 3 + ns.length + 4 * ls.length := by
  rw [PyData.bulk.eq_2]
  simp only [rowD, PyData.bulkAll.eq_2, PyData.bulkAll.eq_1, PyData.bulk.eq_7, bulk_notes, bulk_lines]
  omega
theorem pl_read (c : Int) (ns : List (Option Int)) (ls : List (Int × Int × Int)) : pl 3 (readD c ns ls) := by
  intro d hd
  simp only [List.mem_cons, List.not_mem_nil, or_false] at hd
  rcases hd with rfl | rfl | rfl | rfl | rfl | rfl | rfl
  · simp [pl]
  · exact pl_mono' (pl_notes ns) (by decide)
  · exact pl_lines ls
  · simp [pl]
  · simp [pl]
  · simp [pl]
  · simp [pl]
theorem pl_row (c : Int) (ns : List (Option Int)) (ls : List (Int × Int × Int)) : pl 3 (.list (rowD c ns ls)) := by
  intro d hd
  simp only [rowD, List.mem_cons, List.not_mem_nil, or_false] at hd
  rcases hd with rfl | rfl | rfl
  · simp [pl]
  · exact pl_mono' (pl_notes ns) (by decide)
  · exact pl_lines ls
/-- all that repr asks of what is read -/
theorem show_read {c : Int} {ns : List (Option Int)} {ls : List (Int × Int × Int)} {w : Int} (h : DOK c ns ls w) (hw : w ≤ 999999999999) (hl : ls.length ≤ 1000) : (readD c ns ls).showable = true ∧ (readD c ns ls).shown.length ≤ sizeLine ∧ (readD c ns ls).depth ≤ 50 :=
  ⟨(sm_read h hw).show_, sm_fits (sm_read h hw) (by rw [bulk_read]; have := h.n16; omega), Nat.le_trans (pl_lay (pl_read c ns ls)).2 (by decide)⟩
theorem show_row {c : Int} {ns : List (Option Int)} {ls : List (Int × Int × Int)} {w : Int} (h : DOK c ns ls w) (hw : w ≤ 999999999999) (hl : ls.length ≤ 1000) : (PyData.list (rowD c ns ls)).showable = true ∧ (PyData.list (rowD c ns ls)).shown.length ≤ sizeLine ∧ (PyData.list (rowD c ns ls)).depth ≤ 50 :=
  ⟨(sm_row h hw).show_, sm_fits (sm_row h hw) (by rw [bulk_row]; have := h.n16; omega), Nat.le_trans (pl_lay (pl_row c ns ls)).2 (by decide)⟩
end WL
set_option Elab.async false
set_option linter.all false
set_option maxRecDepth 100000
set_option maxHeartbeats 4000000
namespace WL
open PySem PySem.Spec PyProof.Rows L2
/-! ### a diary beside another value -/
structure OddE (K : PySem.W.Frag) (H : Hp) (x : V) : Prop where
  ex : ∃ s, AnS K H x s ∧ WL.Ty H x (.type s.ty)
section
variable {P : Program} {w : World} {K : PySem.W.Frag} {mg : Str → Option Value} {base : Heap} {DC IE : Addr} {H : Hp} {Q : VK} {f : Bool → Bool} {a : Addr} {c : Int} {ns : List (Option Int)} {ls : List (Int × Int × Int)}
theorem g_eqOdd {x : V} (D : DiaF P w K mg base DC IE) (d : DiaAt DC H (.ref a) c ns ls) (o : OddE K H x) (q : Q (.bl (f false)) H) : rOwnEq K DC (spDEq K DC) f (.ref a) x H Q := by
  obtain ⟨s, h1, h2⟩ := o.ex
  exact g_ownEq d h2 (D.nf s) ⟨_, x, c, ns, ls, rfl, d, .inr ⟨s, h1, false, rfl, q⟩⟩
theorem g_eqDia {b : Addr} {c2 : Int} {ns2 : List (Option Int)} {ls2 : List (Int × Int × Int)} (D : DiaF P w K mg base DC IE) (d : DiaAt DC H (.ref a) c ns ls) (e : DiaAt DC H (.ref b) c2 ns2 ls2)
    (q : ∀ r : Bool, (r = true ↔ (c = c2 ∧ ns = ns2 ∧ ls = ls2)) → Q (.bl (f r)) H) : rOwnEq K DC (spDEq K DC) f (.ref a) (.ref b) H Q := by
  obtain ⟨b', dx, wv, bv, eb, hb, _⟩ := e
  cases eb
  refine g_ownEq d (t := .ref DC) (Or.inr (Or.inr (Or.inr ⟨DC, dx, _, rfl, hb⟩))) D.nfD ⟨_, .ref b, c, ns, ls, rfl, d, .inl ⟨c2, ns2, ls2, ⟨b, dx, wv, bv, rfl, hb, ‹_›⟩, fun r hr => ⟨r, rfl, q r hr⟩⟩⟩
end
/-- the row of another diary's values -/
structure RowAt (H : Hp) (v : V) : Prop where
  ex : ∃ c ns ls, Fz H v (.tuple (rowD c ns ls)) ∧ DOK c ns ls 4000 ∧ ls.length ≤ 60
theorem RowAt.tk {H H' : Hp} {v : V} (k : Tk H H') (h : RowAt H v) : RowAt H' v := by
  obtain ⟨c, ns, ls, a, b⟩ := h.ex
  exact ⟨c, ns, ls, a.tk k, b⟩
def spOthers : Sp := fun vs H Q _ => ∃ (m c g : Addr) (B : Int) (v : V) (b : Book), vs = [.ref m, v] ∧ Pr m c g H H B ∧ B < 2 ^ 25 ∧ Fz H v b.d ∧ b.OK 3000 48 ∧ 2 ≤ b.notes.length ∧
  ∀ (p : Addr) (rows : List V) (H' : Hp), H p = none → Pr m c g H H' (B + 2) → H' p = some (.lst rows) → rows.length ≤ 100 → (∀ r ∈ rows, RowAt H' r) → Q (.ref p) H'
def spEqual (K : PySem.W.Frag) (DC : Addr) : Sp := fun vs H Q _ => ∃ (m cc g : Addr) (B : Int) (v d : V) (b : Book), vs = [.ref m, v, d] ∧ Pr m cc g H H B ∧ B < 2 ^ 24 ∧ Fz H v b.d ∧ b.OK 3000 48 ∧ 2 ≤ b.notes.length ∧ DiaAt DC H d b.c b.notes b.lines ∧
  ∀ H', Pr m cc g H H' (B + 2) → Q (.bl true) H'
theorem row_inv {H : Hp} {v : V} {c : Int} {ns : List (Option Int)} {ls : List (Int × Int × Int)} (h : Fz H v (.tuple (rowD c ns ls))) : ∃ a wv bv, v = .ref a ∧ H a = some (.tup [.int c, wv, bv]) ∧ Fz H wv (notesD ns) ∧ Fz H bv (linesD ls) := by
  obtain ⟨a, xs, rfl, h1, h2⟩ := Fz.tup_inv h
  cases h2 with
  | cons c1 h2 => cases h2 with
    | cons c2 h2 => cases h2 with
      | cons c3 h2 =>
        cases h2
        rw [c1.int_inv] at h1
        exact ⟨a, _, _, rfl, h1, c2, c3⟩
def rTupS (K : PySem.W.Frag) : List V → Hp → VK → Prop := fun xs H Q => ∃ p ys, xs = [V.ref p] ∧ ((SqL K H p ys ∧ ∀ l, H l = none → Q (.ref l) (upd H l (.tup ys))) ∨ SqT K H p ys ∧ Q (.ref p) H)
theorem call_tuple_ofS {X : Cx} : CallR X (.type "tuple") (rTupS X.K) := call_tuple_of
theorem LcQ.tup {K : PySem.W.Frag} {g : TG} {tt : TT} {te : TE} {vs : List Nat} {σ : L2.St} {Q : VK} {H1 : Hp} {a : Addr} {xs : List V} (I : Addr → Nat → Hp → Prop) (h0 : ∀ D, H1 D = none → I D 0 (upd H1 D (.lst [])))
    (hl : ∀ D, H1 D = none → ∀ i H, i ≤ xs.length → I D i H → SqT K H a xs)
    (hs : ∀ D, H1 D = none → ∀ (i : Nat) x H, xs[i]? = some x → I D i H → g x (wipe σ vs) H fun σ2 H2 => wipe σ2 vs = wipe σ vs ∧ tt σ2 H2 fun b H3 => if b = true then te σ2 H3 fun y H4 => ∃ acc, H4 D = some (.lst acc) ∧ acc.length < sizeLine ∧ I D (i + 1) (upd H4 D (.lst (acc ++ [y]))) else I D (i + 1) H3)
    (hd : ∀ D, H1 D = none → ∀ H, I D xs.length H → Q (.ref D) H) : LcQ g tt te vs σ Q (Itt K a) H1 :=
  fun D nD => lc_tup (I D) (h0 D nD) (hl D nD) (hs D nD) (hd D nD)
section
variable {K : PySem.W.Frag} {H : Hp}
theorem odde_non : OddE K H .non := ⟨.non, .non, rfl⟩
theorem odde_int (i : Int) : OddE K H (.int i) := ⟨.int i, .int i, rfl⟩
theorem odde_str (x : Str) : OddE K H (.str x) := ⟨.str, .str x, rfl⟩
theorem odde_lst {a : Addr} {xs : List V} (h : H a = some (.lst xs)) : OddE K H (.ref a) := ⟨.lst, .lst (SqL.of h), Or.inl ⟨rfl, _, h⟩⟩
theorem odde_dct {a : Addr} {kvs : List (Key × V)} (h : H a = some (.dK kvs)) : OddE K H (.ref a) := ⟨.dct, .dct h, Or.inr (Or.inr (Or.inl ⟨rfl, _, h⟩))⟩
theorem odde_tup {a : Addr} {xs : List V} {ss : List Sh} (h : H a = some (.tup xs)) (q : AnSs K H xs ss) : OddE K H (.ref a) := ⟨.tup ss, .tup (SqT.of h) q, Or.inr (Or.inl ⟨rfl, _, h⟩)⟩
mutual
theorem Fz.ans : ∀ {v : V} {d : PyData}, Fz H v d → ∃ s, AnS K H v s
  | _, _, .non => ⟨_, .non⟩
  | _, _, .bl b => ⟨_, .bl b⟩
  | _, _, .int i => ⟨_, .int i⟩
  | _, _, .str x => ⟨_, .str x⟩
  | _, _, .tup h q => by
    obtain ⟨ss, z⟩ := q.anss
    exact ⟨_, .tup (SqT.of h) z⟩
theorem Fzs.anss : ∀ {vs : List V} {ds : List PyData}, Fzs H vs ds → ∃ ss, AnSs K H vs ss
  | _, _, .nil => ⟨_, .nil⟩
  | _, _, .cons h q => by
    obtain ⟨s, y⟩ := h.ans
    obtain ⟨ss, z⟩ := q.anss
    exact ⟨_, .cons y z⟩
end
theorem odde_fz {a : Addr} {ds : List PyData} (h : Fz H (.ref a) (.tuple ds)) : OddE K H (.ref a) := by
  obtain ⟨a', xs, e, h1, h2⟩ := Fz.tup_inv h
  cases e
  obtain ⟨ss, z⟩ := h2.anss (K := K)
  exact odde_tup h1 z
theorem g_notBl {a b : Bool} {Q : VK} (q : Q (.bl (!decide (a = b))) H) : rNotB (.bl a) (.bl b) H Q := ⟨a, b, rfl, rfl, q⟩
end
theorem OddE.same {K : PySem.W.Frag} {H H' : Hp} {x : V} (k : ∀ b o, H b = some o → H' b = some o) (h : OddE K H x) : OddE K H' x := by
  obtain ⟨s, a, b⟩ := h.ex
  refine ⟨s, a.same k, ?_⟩
  cases x with
  | ref p =>
    rcases b with ⟨e, xs, z⟩ | ⟨e, xs, z⟩ | ⟨e, xs, z⟩ | ⟨C, dx, fs, e, z⟩
    · exact Or.inl ⟨e, xs, k _ _ z⟩
    · exact Or.inr (Or.inl ⟨e, xs, k _ _ z⟩)
    · exact Or.inr (Or.inr (Or.inl ⟨e, xs, k _ _ z⟩))
    · exact Or.inr (Or.inr (Or.inr ⟨C, dx, fs, e, k _ _ z⟩))
  | _ => exact b
theorem Pr.of_same {m c g : Addr} {H H' : Hp} {B : Int} (p : Pr m c g H H B) (k : ∀ b o, H b = some o → H' b = some o) : Pr m c g H H' B := by
  obtain ⟨⟨n, hn, d1, ⟨l, hl, d2⟩, ⟨l', hl', d3⟩, d4, d5⟩, _⟩ := p
  exact ⟨⟨n, hn, k _ _ d1, ⟨l, hl, k _ _ d2⟩, ⟨l', hl', k _ _ d3⟩, d4, d5⟩, fun b o _ _ h => k b o h⟩
theorem row_eqv {c c2 : Int} {ns ns2 : List (Option Int)} {ls ls2 : List (Int × Int × Int)} : (PyData.tuple (rowD c ns ls)).eqv (.tuple (rowD c2 ns2 ls2)) = true ↔ (c = c2 ∧ ns = ns2 ∧ ls = ls2) := by
  have p1 : pl 3 (.tuple (rowD c ns ls)) := pl_row c ns ls
  have p2 : pl 3 (.tuple (rowD c2 ns2 ls2)) := pl_row c2 ns2 ls2
  rw [pl_eqv p1 p2]
  constructor
  · intro h
    simp only [rowD, PyData.tuple.injEq, List.cons.injEq, PyData.int.injEq, and_true] at h
    exact ⟨h.1, notesD_inj h.2.1, linesD_inj h.2.2⟩
  · rintro ⟨rfl, rfl, rfl⟩; rfl
theorem b_ext {a b : Bool} {P : Prop} (h : a = true ↔ P) (k : b = true ↔ P) : a = b := by
  cases a <;> cases b <;> simp_all
theorem neD_bools {K : PySem.W.Frag} {H : Hp} {Q : VK} {p q : Addr} {r : Bool} (h1 : H p = some (.lst [.bl r, .bl r, .bl (!r)])) (h2 : H q = some (.lst [.bl r, .bl r, .bl (!r)])) (k : Q (.bl false) H) : rNeD K (.ref p) (.ref q) H Q := by
  refine g_neD (K := K) (d := .list [.bool r, .bool r, .bool (!r)]) (e := .list [.bool r, .bool r, .bool (!r)]) (.lst (SqL.of h1) (.cons (.bl _) (.cons (.bl _) (.cons (.bl _) .nil)))) (.lst (SqL.of h2) (.cons (.bl _) (.cons (.bl _) (.cons (.bl _) .nil)))) (by cases r <;> decide +kernel) (by cases r <;> decide +kernel) ?_
  rw [show (PyData.list [.bool r, .bool r, .bool (!r)]).eqv (.list [.bool r, .bool r, .bool (!r)]) = true by cases r <;> decide +kernel]
  exact k
end WL
set_option Elab.async false
set_option linter.all false
set_option maxRecDepth 100000
set_option maxHeartbeats 4000000
namespace WL
open PySem PySem.Spec PyProof.Rows L2
theorem places_rev (n : Nat) : Builtin.Slice.slicePlaces ((n : Int) - 1) (-1) (-1) = n := by
  unfold Builtin.Slice.slicePlaces
  rw [if_neg (by decide)]
  by_cases h : (n : Int) - 1 > -1
  · rw [if_pos h]; simp
  · rw [if_neg h]
    have : n = 0 := by omega
    subst this; rfl
theorem pick_self {α : Type} : ∀ l : List α, (List.range l.length).filterMap (fun k => l[k]?) = l
  | [] => rfl
  | a :: t => by
    rw [List.length_cons, List.range_succ_eq_map, List.filterMap_cons, List.filterMap_map]
    show a :: (List.range t.length).filterMap (fun k => (a :: t)[k + 1]?) = a :: t
    have := pick_self t
    simp only [List.getElem?_cons_succ]
    rw [this]
theorem fm_congr {α β : Type} {f g : α → Option β} : ∀ {l : List α}, (∀ x ∈ l, f x = g x) → l.filterMap f = l.filterMap g
  | [], _ => rfl
  | x :: l, h => by
    rw [List.filterMap_cons, List.filterMap_cons, h x (by simp), fm_congr (l := l) fun y hy => h y (by simp [hy])]
theorem pick_rev {α : Type} (xs : Array α) : ((List.range xs.size).filterMap fun (k : Nat) => xs[((xs.size : Int) - 1 + (k : Int) * -1).toNat]?).toArray = xs.toList.reverse.toArray := by
  congr 1
  have h := pick_self xs.toList.reverse
  rw [List.length_reverse, Array.length_toList] at h
  refine Eq.trans (fm_congr fun k hk => ?_) h
  have hk' : k < xs.size := List.mem_range.mp hk
  rw [List.getElem?_reverse (by simpa using hk'), show ((xs.size : Int) - 1 + (k : Int) * -1).toNat = xs.toList.length - 1 - k by rw [Array.length_toList]; omega]
  simp
theorem slice_rev {prog : Program} {w : World} {A : Around} {E : Value → Shared → Prop} {s : Shared} {sl : Addr} {vl vu vs : Value} {n : Nat} {Q : Int × Int × Nat → Shared → Prop} (hs : s.heap.IsSliceOf sl vl vu vs) (pl : IsPart vl none) (pu : IsPart vu none) (ps : IsPart vs (some (-1))) (h : Q ((n : Int) - 1, -1, n) s) :
    wpAny (model prog w) A (Builtin.Slice.sliceApplied (.ref sl) (pure (n : Int))) Q E s := by
  obtain ⟨o, ho, hc, hd⟩ := hs
  unfold Builtin.Slice.sliceApplied
  refine wpAny_bind ?_
  unfold Builtin.Slice.sliceFields
  refine wpAny_bind (wpAny_field ho hd rfl (wpAny_bind (wpAny_field ho hd rfl (wpAny_bind (wpAny_field ho hd rfl (wpAny_pure ?_))))))
  refine wpAny_bind (HT.slicePart_ ps ?_)
  refine wpAny_ite_false (by rfl) ?_
  refine wpAny_bind (HT.slicePart_ pl (wpAny_bind (HT.slicePart_ pu (wpAny_bind (wpAny_pure ?_)))))
  show wpAny _ _ (pure ((n : Int) - 1, -1, Builtin.Slice.slicePlaces ((n : Int) - 1) (-1) (-1))) Q E s
  rw [places_rev]
  exact wpAny_pure h
theorem getItem_tuple_rev {prog : Program} {w : World} {A : Around} {E : Value → Shared → Prop} {s : Shared} {t sl : Addr} {items : Array Value} {vl vu vs : Value} {Q : Value → Shared → Prop} (ht : PyProof.Rows.IsTup s.heap t items) (hs : s.heap.IsSliceOf sl vl vu vs) (pl : IsPart vl none) (pu : IsPart vu none) (ps : IsPart vs (some (-1))) (hsz : items.size ≤ sizeLine)
    (h : Q (.ref s.heap.objs.size) { heap := s.heap.push { cls := .type "tuple", data := .seq items.toList.reverse.toArray }, gens := s.gens, drawn := s.drawn, toks := s.toks, os := s.os }) : wpAny (model prog w) A (getItem (.ref t) (.ref sl)) Q E s := by
  have hs0 := hs
  obtain ⟨os, hos, hcs, hds⟩ := hs0
  have hTs : s.TypeIs (.ref sl) "slice" := ⟨os, hos, hcs⟩
  refine id (wpAny_holding (wpAny_bind (wpAny_sequenceKey (IsTup.typeIs ht) (by decide) (wpAny_bind (wpAny_callSpecial?_slot (IsTup.typeIs ht) slot_tuple_getitem (wpAny_call_entry slot_tuple_getitem (IsTup.typeIs ht) entry_tuple_getitem ?_))))))
  refine wpAny_bind ?_
  show wpAny _ _ (pure (Value.ref t, [Value.ref sl])) _ _ _
  refine wpAny_pure ?_
  refine wpAny_bind (tupleItemsOf_ ht (wpAny_bind (wpAny_typeOf hTs ?_)))
  refine wpAny_ite_true (by rfl) ?_
  refine wpAny_bind (slice_rev hs pl pu ps ?_)
  refine wpAny_ite_false ?_ ?_
  · show decide (((items.size : Int) - 1 == 0 && (-1 : Int) == 1 && items.size == items.size) = true) = false
    refine decide_eq_false ?_
    simp
  · rw [pick_rev]
    unfold Builtin.Tuple.tupleExact
    refine wpAny_bind (wpAny_newObj_type ?_ ?_)
    · exact wpAny_pure ⟨_, rfl, wpAny_pure h⟩
    · show items.toList.reverse.toArray.size ≤ sizeLine
      simpa using hsz
/-- xs[::-1] of a tuple -/
def tRevT (K : PySem.W.Frag) (te : TE) : TE := fun σ H Q => te σ H fun x H1 => ∃ a xs, x = V.ref a ∧ SqT K H1 a xs ∧ ∀ p, H1 p = none → Q (V.ref p) (upd H1 p (.tup xs.reverse))
theorem pe_revT {X : Cx} {e : Expr} {te : TE} {k : Nat} {p1 p2 p3 pos : Pos} (he : PE X e te) : PE X (e.Subscript (Expr.Slice none none (some (Expr.UnaryOp UnaryOp.USub (Expr.Constant (Const.int 1) k p1) p2)) p3) pos) (tRevT X.K te) := by
  constructor
  intro pins s σ H Q I h
  refine PyProof.Rows.Subscript_ (thn (he.run pins s σ H _ I h) ?_)
  rintro v s1 ⟨x, H1, I1, r1, a, xs, rfl, hx, q⟩
  cases r1
  have hst : PO X (some (Expr.UnaryOp UnaryOp.USub (Expr.Constant (Const.int 1) k p1) p2)) _ := po_some (pe_un un_neg pe_int)
  refine wpAny_Slice (thn (po_none.run pins s1 σ H1 (fun o H2 => o = none ∧ H2 = H1) I1 ⟨rfl, rfl⟩) ?_)
  rintro vl s2 ⟨l, H2, I2, pl, rfl, e2⟩
  subst e2
  refine thn (po_none.run pins s2 σ H2 (fun o H3 => o = none ∧ H3 = H2) I2 ⟨rfl, rfl⟩) ?_
  rintro vu s3 ⟨u, H3, I3, pu, rfl, e3⟩
  subst e3
  refine thn (hst.run pins s3 σ H3 (fun o H4 => o = some (-1) ∧ H4 = H3) I3 ⟨1, rfl, -1, rfl, rfl, rfl⟩) ?_
  rintro vs s4 ⟨o, H4, I4, ps, rfl, e4⟩
  subst e4
  have I5 := Inv.kept (t' := s4.toks) (h' := s4.heap.push { cls := .type "slice", data := .fields #[vl, vu, vs] }) I4 fun b ob q => Heap.get?_push_of_some _ q
  obtain ⟨its, r, ht, hz⟩ := Inv.tuple I5 hx
  have hlen := r.length
  refine tail_any (IsTup.typeIs ht) slot_tuple_getitem.lookup (getItem_tuple_rev ht (Heap.IsSliceOf.new s4.heap vl vu vs) pl pu ps (by rw [List.size_toArray]; omega) ?_) rfl
  refine ⟨.ref (s4.heap.push { cls := .type "slice", data := .fields #[vl, vu, vs] }).objs.size, upd H4 (s4.heap.push { cls := .type "slice", data := .fields #[vl, vu, vs] }).objs.size (.tup xs.reverse), Inv.laid I5 (fun b ob q => Heap.get?_push_of_some _ q) (Nat.le_refl _) ⟨by rw [List.length_reverse]; exact hz, its.reverse, Vals.reverse r, _, Heap.get?_push_size _ rfl, rfl, 0, rfl⟩, rfl, q _ (I5.hok.fresh (Nat.le_refl _))⟩
theorem g_revT {K : PySem.W.Frag} {te : TE} {σ : L2.St} {H : Hp} {Q : VK} (h : te σ H fun x H1 => ∃ a xs, x = V.ref a ∧ SqT K H1 a xs ∧ ∀ p, H1 p = none → Q (V.ref p) (upd H1 p (.tup xs.reverse))) : tRevT K te σ H Q := h
/-! ### rows of values before those too great are left out -/
structure RowC (c : Int) (ns : List (Option Int)) (ls : List (Int × Int × Int)) : Prop where
  c2 : 2 ≤ c
  c101 : c ≤ 1000
  n1 : 1 ≤ ns.length
  note : ∀ i : Int, some i ∈ ns → 0 ≤ i ∧ i < c
  line : ∀ l ∈ ls, (0 ≤ l.1 ∧ l.1 < ns.length) ∧ (0 ≤ l.2.1 ∧ l.2.1 < ns.length) ∧ -4000 ≤ l.2.2 ∧ l.2.2 ≤ 4000
structure RowB (H : Hp) (v : V) : Prop where
  ex : ∃ c ns ls, Fz H v (.tuple (rowD c ns ls)) ∧ RowC c ns ls
theorem RowB.tk {H H' : Hp} {v : V} (k : Tk H H') (h : RowB H v) : RowB H' v := by
  obtain ⟨c, ns, ls, a, b⟩ := h.ex
  exact ⟨c, ns, ls, a.tk k, b⟩
theorem rowC_of {b : Book} (h : b.OK 3000 48) : RowC b.c b.notes b.lines := by
  obtain ⟨⟨a1, a2, a3, a4, a5, a6⟩, _, _⟩ := h
  refine ⟨a1, by omega, a3, a5, fun l hl => ?_⟩
  obtain ⟨x, y, z, u⟩ := a6 l hl
  exact ⟨x, y, by omega, by omega⟩
theorem mk_row {H : Hp} {a : Addr} {c : Int} {n l : V} {ns : List (Option Int)} {ls : List (Int × Int × Int)} (h : H a = some (.tup [.int c, n, l])) (hn : Fz H n (notesD ns)) (hl : Fz H l (linesD ls)) (r : RowC c ns ls) : RowB H (.ref a) := ⟨c, ns, ls, .tup h (.cons (.int c) (.cons hn (.cons hl .nil))), r⟩
theorem RowC.notes {c : Int} {ns ns' : List (Option Int)} {ls : List (Int × Int × Int)} (r : RowC c ns ls) (hl : ns.length ≤ ns'.length) (h : ∀ i : Int, some i ∈ ns' → some i ∈ ns ∨ (0 ≤ i ∧ i < c)) : RowC c ns' ls := by
  obtain ⟨a1, a2, a3, a4, a5⟩ := r
  refine ⟨a1, a2, by omega, fun i hi => (h i hi).elim (a4 i) id, fun l hl' => ?_⟩
  obtain ⟨x, y, z⟩ := a5 l hl'
  exact ⟨⟨x.1, by omega⟩, ⟨y.1, by omega⟩, z⟩
theorem RowC.lines {c : Int} {ns : List (Option Int)} {ls ls' : List (Int × Int × Int)} (r : RowC c ns ls) (h : ∀ l ∈ ls', l ∈ ls ∨ ((0 ≤ l.1 ∧ l.1 < ns.length) ∧ (0 ≤ l.2.1 ∧ l.2.1 < ns.length) ∧ -4000 ≤ l.2.2 ∧ l.2.2 ≤ 4000)) : RowC c ns ls' := by
  obtain ⟨a1, a2, a3, a4, a5⟩ := r
  exact ⟨a1, a2, a3, a4, fun l hl => (h l hl).elim (a5 l) id⟩
theorem RowC.up {c : Int} {ns : List (Option Int)} {ls : List (Int × Int × Int)} (r : RowC c ns ls) (h : c < 1000) : RowC (c + 1) ns ls := by
  obtain ⟨a1, a2, a3, a4, a5⟩ := r
  exact ⟨by omega, by omega, a3, fun i hi => by have := a4 i hi; omega, a5⟩
theorem RowB.at_ {H : Hp} {c : Int} {ns : List (Option Int)} {ls : List (Int × Int × Int)} (r : RowC c ns ls) (h1 : c < 101) (h2 : ns.length < 17) (h3 : ls.length < 61) : DOK c ns ls 4000 ∧ ls.length ≤ 60 := by
  obtain ⟨a1, a2, a3, a4, a5⟩ := r
  exact ⟨⟨a1, by omega, a3, by omega, a4, a5⟩, by omega⟩
theorem notes_rev (ns : List (Option Int)) : (ns.map noteV).reverse = ns.reverse.map noteV := by rw [List.map_reverse]
def spLaw (K : PySem.W.Frag) : Sp := fun vs H Q _ => ∃ (a : Addr) (ns : List Int), vs = [.ref a] ∧ SqL K H a (ns.map V.int) ∧ ns.length ≤ 63 ∧ ∀ H', Q (.bl true) H'
/-- Diary.of(2, 1) -/
def spOf (DC : Addr) : Sp := fun vs H Q _ => ∃ i j : Int, vs = [.ref DC, .int i, .int j] ∧ (2 ≤ i ∧ i ≤ 100) ∧ (0 ≤ j ∧ j < i) ∧ ∀ (x : Addr) (H' : Hp), H x = none → DiaAt DC H' (.ref x) i [some j] [] → (∀ b o, H b = some o → H' b = some o) → Q (.ref x) H'
end WL
set_option Elab.async false
set_option linter.all false
set_option maxRecDepth 100000
set_option maxHeartbeats 4000000
namespace WL
open PySem PySem.Spec PyProof.Rows L2
/-! ### zip of two lists -/
section
variable {σ : L2.St} {H H1 : Hp} {Q : VK} {D : Ends} {K : PySem.W.Frag} {g : TG} {tt : TT} {te : TE} {vs : List Nat} {tb : TS}
theorem g_zip {ta : TA} {R : It → Hp → Prop} (h : ta σ H fun vs H1 => ∃ a b xs ys, vs = [.ref a, .ref b] ∧ SqL K H1 a xs ∧ SqL K H1 b ys ∧ R (Itz K a b) H1) : iZip K ta σ H R := h
theorem g_zq {a b : Addr} {xs ys : List V} {P : Addr → Addr → Prop} (h1 : SqL K H a xs) (h2 : SqL K H b ys) (h : P a b) : ∃ a' b' xs' ys', [V.ref a, V.ref b] = [V.ref a', V.ref b'] ∧ SqL K H a' xs' ∧ SqL K H b' ys' ∧ P a' b' := ⟨a, b, xs, ys, rfl, h1, h2, h⟩
theorem ForQ.zip {a b : Addr} {xs ys : List V} (hl : xs.length = ys.length) (I : Nat → L2.St → Hp → Prop) (h0 : I 0 σ H1) (hq : ∀ i σ H, I i σ H → SqL K H a xs ∧ SqL K H b ys)
    (hs : ∀ (i : Nat) (x y : V) (T : Addr) (σ : L2.St) (H : Hp), xs[i]? = some x → ys[i]? = some y → I i σ H → H T = none → g (.ref T) σ (upd H T (.tup [x, y])) fun σ2 H2 => tb { D with nx := I (i + 1), ct := I (i + 1), bk := D.nx } σ2 H2) (hd : ∀ σ H, I xs.length σ H → D.nx σ H) : ForQ g tb D σ (Itz K a b) H1 := RZ.for_zipL hl I h0 hq hs hd
theorem LcQ.zip {a b : Addr} {xs ys : List V} (hl : xs.length = ys.length) (I : Addr → Nat → Hp → Prop) (h0 : ∀ D, H1 D = none → I D 0 (upd H1 D (.lst [])))
    (hq : ∀ D, H1 D = none → ∀ i H, I D i H → SqL K H a xs ∧ SqL K H b ys)
    (hs : ∀ D, H1 D = none → ∀ (i : Nat) (x y : V) (T : Addr) (H : Hp), xs[i]? = some x → ys[i]? = some y → I D i H → H T = none → g (.ref T) (wipe σ vs) (upd H T (.tup [x, y])) fun σ2 H2 => wipe σ2 vs = wipe σ vs ∧ tt σ2 H2 fun b H3 => if b = true then te σ2 H3 fun y H4 => ∃ acc, H4 D = some (.lst acc) ∧ acc.length < sizeLine ∧ I D (i + 1) (upd H4 D (.lst (acc ++ [y]))) else I D (i + 1) H3)
    (hd : ∀ D, H1 D = none → ∀ H, I D xs.length H → Q (.ref D) H) : LcQ g tt te vs σ Q (Itz K a b) H1 := by
  intro D nD
  refine ⟨fun i m H => m = xs.length - i ∧ i ≤ xs.length ∧ I D i H, ⟨xs.length, rfl, Nat.zero_le _, h0 D nD⟩, ?_⟩
  rintro i m H ⟨rfl, hi, p⟩
  obtain ⟨qx, qy⟩ := hq D nD i H p
  by_cases hlt : i < xs.length
  · have hx : xs[i]? = some xs[i] := List.getElem?_eq_getElem hlt
    have hlt2 : i < ys.length := by omega
    have hy : ys[i]? = some ys[i] := List.getElem?_eq_getElem hlt2
    refine .inr ⟨⟨xs, ys, _, _, qx, qy, hx, hy⟩, I D (i + 1), fun H' p' => ⟨xs.length - (i + 1), by omega, rfl, hlt, p'⟩, fun v H' y => ?_⟩
    obtain ⟨T, x', y', rfl, hT, rfl, f1, f2⟩ := y
    exact hs D nD i x' y' T H (f1 xs qx) (f2 ys qy) p hT
  · have e : i = xs.length := by omega
    subst e
    exact .inl ⟨⟨xs, ys, qx, qy, Or.inl (Nat.le_refl _)⟩, hd D nD H p⟩
theorem g_cmeth {C : Addr} {sp : Sp} {E : XK} {ta : TE} {t : TA} (h : ta σ H fun x H1 => x = .ref C ∧ t σ H1 fun vs H2 => sp (.ref C :: vs) H2 Q E) : ClX.tCMeth C sp E ta t σ H Q := h
theorem g_rep {l : Addr} {k : Int} {xs : List V} (h : H l = some (.lst xs)) (h1 : 0 ≤ k) (h2 : k ≤ 1000) (h3 : xs.length ≤ 100) (q : ∀ p, H p = none → Q (.ref p) (upd H p (.lst (List.replicate k.toNat xs).flatten))) : rRep (.ref l) (.int k) H Q := by
  refine ⟨l, k, xs, rfl, rfl, h, by omega, by omega, ?_, q⟩
  have e : xs.length * k.toNat ≤ 100 * 1000 := Nat.mul_le_mul h3 (by omega)
  exact Nat.le_trans e (by decide)
theorem g_repT {l : Addr} {k : Int} {xs : List V} (h : SqT K H l xs) (h0 : xs ≠ []) (h1 : 2 ≤ k) (h2 : k ≤ 1000) (h3 : xs.length ≤ 1000) (q : ∀ p, H p = none → Q (.ref p) (upd H p (.tup (List.replicate k.toNat xs).flatten))) : rRepT K (.ref l) (.int k) H Q := ⟨l, k, xs, rfl, rfl, h, h0, h1, h2, h3, q⟩
end
/-! ### books and their diaries -/
structure BkAt (H : Hp) (v : V) : Prop where
  ex : ∃ b : Book, Fz H v b.d ∧ 2 ≤ b.notes.length ∧ b.OK 3000 48
theorem BkAt.tk {H H' : Hp} {v : V} (k : Tk H H') (h : BkAt H v) : BkAt H' v := by
  obtain ⟨b, f, n, o⟩ := h.ex
  exact ⟨b, f.tk k, n, o⟩
structure PairAt (DC : Addr) (H : Hp) (x y : V) : Prop where
  ex : ∃ b : Book, Fz H x b.d ∧ 2 ≤ b.notes.length ∧ b.OK 3000 48 ∧ DiaAt DC H y b.c b.notes b.lines
theorem PairAt.keep {DC : Addr} {H H' : Hp} {x y : V} (t : Tk H H') (i : Ik H H') (h : PairAt DC H x y) : PairAt DC H' x y := by
  obtain ⟨b, f, n, o, d⟩ := h.ex
  exact ⟨b, f.tk t, n, o, d.keep t i⟩
theorem Ik.updL {H : Hp} {p : Addr} {o : HO} {xs : List V} (q : H p = some (.lst xs)) : Ik H (upd H p o) := fun b C dx fs h => by
  rw [upd_ne (fun e => by subst e; rw [q] at h; cases h)]; exact h
theorem fzs_rep {H : Hp} {v : V} {d : PyData} (h : Fz H v d) : ∀ n : Nat, Fzs H (List.replicate n v) (List.replicate n d)
  | 0 => .nil
  | n + 1 => .cons h (fzs_rep h n)
theorem bulk_two (d : PyData) : (PyData.list [d, d]).bulk = 2 + 2 * d.bulk := by
  rw [PyData.bulk.eq_2]
  simp only [PyData.bulkAll.eq_2, PyData.bulkAll.eq_1]
  omega
theorem show_two {c : Int} {ns : List (Option Int)} {ls : List (Int × Int × Int)} {w : Int} (h : DOK c ns ls w) (hw : w ≤ 999999999999) (hl : ls.length ≤ 1000) : (PyData.list [readD c ns ls, readD c ns ls]).showable = true ∧ (PyData.list [readD c ns ls, readD c ns ls]).shown.length ≤ sizeLine ∧ (PyData.list [readD c ns ls, readD c ns ls]).depth ≤ 50 := by
  have s : Sm (.list [readD c ns ls, readD c ns ls]) := sm_lst fun d hd => by
    simp only [List.mem_cons, List.not_mem_nil, or_false, or_self] at hd
    subst hd
    exact sm_read h hw
  have p : pl 4 (.list [readD c ns ls, readD c ns ls]) := fun d hd => by
    simp only [List.mem_cons, List.not_mem_nil, or_false, or_self] at hd
    subst hd
    exact pl_read c ns ls
  exact ⟨s.show_, sm_fits s (by rw [bulk_two, bulk_read]; have := h.n16; omega), Nat.le_trans (pl_lay p).2 (by decide)⟩
/-! ### a class held by a local name is called -/
def tMakeL (i : Nat) (C : Addr) (sp : Sp) (dvs : List V) (E : XK) (t : TA) : TE := fun σ H Q => σ[i]? = some (some (.ref C)) ∧ tMake C sp dvs E t σ H Q
theorem g_makeL {i : Nat} {C : Addr} {sp : Sp} {dvs : List V} {E : XK} {t : TA} {σ : L2.St} {H : Hp} {Q : VK} (h1 : σ[i]? = some (some (.ref C))) (h : tMake C sp dvs E t σ H Q) : tMakeL i C sp dvs E t σ H Q := ⟨h1, h⟩
theorem pe_makeL {X : Cx} {CX : CXT} {k i : Nat} {f C : Addr} {fd : FuncData} {ps : List Str} {sp : Sp} {dvs : List V} {ds : List Value} {E : XK} {x : Str} {p pos : Pos} {e : Expr} {es : List Expr} {t : TA} (M : Mk X.K C f) (F : FnOk X.prog X.w X.K X.mg X.base CX k f fd ps sp) (hr : Room (k + 1) X.A) (hN : X.N[i]? = some x) (hv : Vis X.env.scope x)
    (hb : Binds X.K fd ps ds) (hd : Vals dvs ds) (hx : Passes CX X E) (ha : PA X (e :: es) t) (hdb : (x == ("__debug__" : Str)) = false := by decide) (hcd : (x == ("__classdict__" : Str)) = false := by decide)
    (he : starEach (e :: es) X.env = (false, eval e X.env) :: starEach es X.env := by rfl) (hpl : (backTo pos (starEach es X.env)).any (·.1) = false := by rfl) : PE X (.Call (.Name x p) (e :: es) [] pos) (tMakeL i C sp dvs E t) := by
  refine ⟨fun pins s σ H Q I h => ?_⟩
  obtain ⟨hs, ht⟩ := h
  refine wpAny_Call_Name_kw (thn ((pe_var (pos := p) hN hv hdb hcd).run pins s σ H (fun v H1 => v = .ref C ∧ H1 = H) I ⟨.ref C, hs, rfl, rfl⟩) fun u s1 ⟨v, H1, I1, r1, q1⟩ => ?_)
  obtain ⟨rfl, rfl⟩ := q1
  cases r1
  refine PySem.W.callWith_K (h₀ := X.base) I.ok.mod.kin M.kp (thn (ha.run pos pins s1 σ _ _ I1 ht) fun us s2 ⟨vs, H2, I2, r, q⟩ => ⟨I2.kIn, ?_⟩) he hpl
  exact run_make M F hr hb hd hx I2 r q
/-- Diary.of(2, 1), what is behind the first two in a tuple -/
def spOfT (DC : Addr) : Sp := fun vs H Q _ => ∃ (i j : Int) (p : Addr), vs = [.ref DC, .int i, .ref p] ∧ H p = some (.tup [.int j]) ∧ (2 ≤ i ∧ i ≤ 100) ∧ (0 ≤ j ∧ j < i) ∧ ∀ (x : Addr) (H' : Hp), H x = none → DiaAt DC H' (.ref x) i [some j] [] → (∀ b o, H b = some o → H' b = some o) → Q (.ref x) H'
theorem of_star {DC : Addr} : ∀ vs H Q E, spOf DC vs H Q E → ∃ ws rest, vs = ws ++ rest ∧ ws.length = (["cls", "modulus"] : List Str).length ∧ rest.length ≤ sizeLine ∧ ∀ p, H p = Option.none → spOfT DC (ws ++ [V.ref p]) (upd H p (.tup rest)) Q E := by
  rintro vs H Q E ⟨i, j, rfl, hi, hj, q⟩
  refine ⟨[.ref DC, .int i], [.int j], rfl, rfl, by simp [sizeLine_eq], fun p np => ⟨i, j, p, rfl, upd_same, hi, hj, fun x H' nx d s => ?_⟩⟩
  have u := same_up (o := .tup [.int j]) np (H := H) (fun _ _ h => h)
  exact q x H' (none_up nx u) d fun b o h => s _ _ (u _ _ h)
/-- a class method as the head sees it -/
def cmB (K : PySem.W.Frag) (C : Addr) (m : Str) : Bool := He5.wrapB K C "classmethod" "classmethod.__get__" m && PySem.W.fnIn K (He5.wf K C "classmethod" m)
theorem cmB_ok {K : PySem.W.Frag} {C : Addr} {m : Str} (h : cmB K C m = true) : ClX.CMet K C (.type "type") m (He.ma K C m) (He5.wf K C "classmethod" m) := by
  obtain ⟨a, b⟩ := He.ba h
  exact He5.cmet_of a b
theorem wf_rec {K : PySem.W.Frag} {C : Addr} {T : String} {m : Str} : He5.wf K C T m = recAd K (He.ma K C m) T := by
  unfold He5.wf recAd
  rfl
end WL
set_option Elab.async false
set_option linter.all false
set_option maxRecDepth 100000
set_option maxHeartbeats 4000000
namespace WL
open PySem PySem.Spec PyProof.Rows L2
/-! ### the end of a law that shows values and makes lambdas -/
/-- the module that the builtins stand in -/
def BmW (mg : Str → Option Value) (h : Heap) : Prop := ∃ (b : Addr) (o : Obj), mg "__builtins__" = some (.ref b) ∧ b ≠ builtinsNs ∧ h.get? b = some o ∧ o.cls = .type "module" ∧ o.dict = some builtinsNs ∧ o.data = .plain
section
variable {P : Program} {w : World} {K : PySem.W.Frag} {mg mb : Str → Option Value} {k : Nat} {fa a : Addr} {fd : FuncData} {x : Str} {sp : Sp} {s : Shared} {vs : List Value} {ns : List Int} {cs : List (Addr × Addr)}
/-- the script and the empty tables -/
def atLawT (K : PySem.W.Frag) (cs : List (Addr × Addr)) (a : Addr) (vs : List Value) (ns : List Int) : Hp := fun b => if b ∈ cs.map Prod.snd then some (.tbl #[]) else atLaw K a vs ns b
theorem law_gT (kin : K.In s.heap) (gl : s.heap.Ns mainGlobals mg) (bl : s.heap.Ns builtinsNs mb) (bb : ∀ x : Str, x ≠ "__name__" → mb x = bootBuiltins x) (lim : s.heap.NoLimit) (gens : s.gens = #[]) (bm : BmW mg s.heap)
    (tE : ∀ p ∈ cs, s.heap.get? p.2 = some (PySem.W.tabObj #[])) (tK : ∀ p ∈ cs, K.lookup p.2 = none) (tC : ∀ p ∈ cs, PySem.W.CodeHd s.heap p.1 p.2)
    (ha : s.heap.get? a = some { cls := .type "list", data := .seq vs.toArray }) (hi : IntsAre vs ns) (hl : ns.length ≤ sizeLine) (hr : Room k callerA)
    (F : ∀ base : Heap, K.In base → base.Ns mainGlobals mg → (∀ p ∈ cs, LamX.TabB base mg p.1 p.2) → GOk P w K mg base k fa fd [x] sp) (bind : ∀ (s : Shared) (u : Value), BindsTo s fd ⟨[u], []⟩ [(x, u)])
    (hsp : ∀ H : Hp, (∀ p ∈ cs, H p.2 = some (.tbl #[])) → SqL K H a (ns.map V.int) → sp [.ref a] H (fun v _ => v = .bl true) fun _ _ _ => False) :
    codeAny (model P w) callerA (.call (.ref fa) ⟨[.ref a], []⟩) (fun r s' => r = .ok (.ret (.bool true)) ∧ PySem.OldK s.heap s'.heap ∧ s'.os = s.os ∧ AllBare s'.gens) s := by
  have hv := vals_ints hi
  have isTab : ∀ {b : Addr}, b ∈ cs.map Prod.snd → s.heap.get? b = some (PySem.W.tabObj #[]) := fun {b} m => by
    obtain ⟨p, hp, rfl⟩ := List.mem_map.mp m
    exact tE p hp
  have notTab : ∀ {b : Addr} {o : Obj}, s.heap.get? b = some o → o.data ≠ .fields #[] → b ∉ cs.map Prod.snd := fun {b o} e d m => by
    rw [isTab m] at e
    cases e
    exact d rfl
  have aNo : a ∉ cs.map Prod.snd := notTab ha (fun z => nomatch z)
  have atA : ∀ {b : Addr}, b ∉ cs.map Prod.snd → atLawT K cs a vs ns b = atLaw K a vs ns b := fun m => if_neg m
  have atT : ∀ {b : Addr}, b ∈ cs.map Prod.snd → atLawT K cs a vs ns b = some (.tbl #[]) := fun m => if_pos m
  have hok : HOk P w (atLawT K cs a vs ns) s.heap := by
    intro b o hb
    by_cases m : b ∈ cs.map Prod.snd
    · rw [atT m] at hb
      cases hb
      exact isTab m
    · rw [atA m] at hb
      obtain ⟨rfl, _, rfl⟩ := atLaw_some hb
      exact ⟨ha, by rw [List.length_map]; exact hl, vs, _, hv, ha⟩
  have seen : SqL K (atLawT K cs a vs ns) a (ns.map V.int) := by
    cases q : K.lookup a with
    | none => exact .inl (.inr ⟨_, (atA aNo).trans (if_pos ⟨rfl, q⟩)⟩)
    | some o =>
      have e := (kin a o q).symm.trans ha
      cases e
      exact .inr ⟨_, vs.toArray, _, q, rfl, rfl, rfl, by rw [List.size_toArray, hi.length]; exact hl, by simpa using hv⟩
  have ground : ∀ {b : Addr} {o : Obj}, s.heap.get? b = some o → (b = a → K.lookup a ≠ none) → b ∉ cs.map Prod.snd → (hidT s.heap (atLawT K cs a vs ns)).get? b = some o := fun {b o} e n m => hidT_get e (by
    rw [atA m]
    exact if_neg fun c => n c.1 c.2)
  have notA : ∀ {b : Addr} {o : Obj}, s.heap.get? b = some o → (∀ ys n, o.data ≠ .seq ys n) → b ≠ a := fun {b o} e d z => by
    rw [z, ha] at e
    cases e
    exact d _ _ rfl
  have nsG : ∀ {b : Addr} {m : Str → Option Value}, s.heap.Ns b m → (hidT s.heap (atLawT K cs a vs ns)).Ns b m := fun {b m} ⟨o, es, ep, e, d, r⟩ =>
    ⟨o, es, ep, ground e (fun z => absurd z (notA e (by rw [d]; exact fun _ _ z => nomatch z))) (notTab e (by rw [d]; exact fun z => nomatch z)), d, r⟩
  have kin' : K.In (hidT s.heap (atLawT K cs a vs ns)) := fun b o e => ground (kin b o e) (fun z n => by rw [z, n] at e; cases e) (fun m => by
    obtain ⟨p, hp, rfl⟩ := List.mem_map.mp m
    rw [tK p hp] at e
    cases e)
  have tb : ∀ p ∈ cs, LamX.TabB (hidT s.heap (atLawT K cs a vs ns)) mg p.1 p.2 := fun p hp => by
    have eP := tE p hp
    constructor
    · obtain ⟨o, us, file, tf, flags, tg, inF, text, tt, e1, r1, r2, r3, rest⟩ := tC p hp
      refine ⟨o, us, file, tf, flags, tg, inF, text, tt, ground e1 (fun z => absurd z (notA e1 (by rw [r2]; exact fun _ _ z => nomatch z))) (notTab e1 (by
        rw [r2]
        intro z
        cases z
        simp at r3)), r1, r2, r3, rest⟩
    · obtain ⟨b, o, b1, b2, b3, b4, b5, b6⟩ := bm
      have n1 : b ≠ mainGlobals := fun z => by
        obtain ⟨og, es, ep, e, d, _⟩ := gl
        rw [z, e] at b3
        cases b3
        rw [d] at b6
        cases b6
      have n2 : b ≠ p.2 := fun z => by
        rw [z, eP] at b3
        cases b3
        cases b6
      exact ⟨b, o, b1, b2, n1, n2, ground b3 (fun z => absurd z (notA b3 (by rw [b6]; exact fun _ _ z => nomatch z))) (notTab b3 (by rw [b6]; exact fun z => nomatch z)), b4, b5, b6⟩
    · intro z
      obtain ⟨og, es, ep, e, d, _⟩ := gl
      rw [z, eP] at e
      cases e
      cases d
  obtain ⟨ml, l1, l2⟩ := lim
  have e0 : Env0 P w K mg (hidT s.heap (atLawT K cs a vs ns)) callerA [] s (atLawT K cs a vs ns) :=
    ⟨rfl, ⟨kin', nsG gl, ⟨mb, nsG bl, bb⟩, ⟨ml, nsG l1, l2⟩⟩, fun _ _ e => of_hidT e, Nat.le_of_eq (hidT_size _ _), trivial, fun b hb => absurd hb List.not_mem_nil, hok, .of_eq gens⟩
  have fin := (F _ kin' (nsG gl) tb).go callerA [] s _ ⟨[.ref a], []⟩ [.ref a] [.ref a] _ _ rfl hr e0 (bind s (.ref a)) (.cons rfl .nil) (hsp _ (fun p hp => atT (List.mem_map.mpr ⟨p, hp, rfl⟩)) seen)
  refine codeAny_mono fin ?_
  intro r s2 h
  match r, h with
  | .error _, z => exact False.elim z
  | .ok .next, z => exact False.elim z
  | .ok .brk, z => exact False.elim z
  | .ok .cont, z => exact False.elim z
  | .ok (.ret u), ⟨v, H2, os, bare, un, hok2, rv, q⟩ =>
    subst q
    cases rv
    have kept : ∀ b o, b ∉ cs.map Prod.snd → s.heap.get? b = some o → s2.heap.get? b = some o := fun b o m e => by
      cases q : atLaw K a vs ns b with
      | none => exact un.keep b o e ((atA m).trans q) List.not_mem_nil List.not_mem_nil
      | some u =>
        obtain ⟨rfl, _, rfl⟩ := atLaw_some q
        have z := (hok2 b _ (un.frzs b _ _ ((atA m).trans q))).1
        rw [ha] at e
        cases e
        exact z
    have grew : ∀ p ∈ cs, ∃ more : Array Value, s2.heap.get? p.2 = some (PySem.W.tabObj more) := fun p hp => by
      obtain ⟨more, z⟩ := un.tbls p.2 #[] (atT (List.mem_map.mpr ⟨p, hp, rfl⟩))
      exact ⟨_, hok2 p.2 _ z⟩
    have both : ∀ b o, s.heap.get? b = some o → PySem.asItWas s.heap s2.heap b o ∧ ∃ o', s2.heap.get? b = some o' := fun b o e => by
      by_cases m : b ∈ cs.map Prod.snd
      · obtain ⟨p, hp, rfl⟩ := List.mem_map.mp m
        obtain ⟨more, g⟩ := grew p hp
        have eP := tE p hp
        rw [eP] at e
        cases e
        exact ⟨.inr (.inl ⟨((tC p hp).tab eP).isCodeTable, rfl, #[], more, rfl, by rw [Array.empty_append]; exact g⟩), _, g⟩
      · exact ⟨.inl (kept b o m e), o, kept b o m e⟩
    exact ⟨rfl, ⟨fun b o e => (both b o e).1, fun b o e => (both b o e).2⟩, os, bare⟩
end
theorem walk_gT {l : PySem.W.OpenLaw} {n k : Nat} {q : Program} {loose : List Str} {XP : (Str → Option Value) → Heap → Prop} {YP : World → Heap → Prop} {d : DefRec} {x : Str}
    (hn : l.most = some n) (hn2 : n ≤ sizeLine) (hdf : d.params.defaults = []) (hr : Room k callerA)
    (F : ∀ (w : World) (mg : Str → Option Value) (fa : Addr) (h : Heap), YP w h → h.Ns mainGlobals mg → mg d.name = some (.ref fa) →
      ∃ (K : PySem.W.Frag) (fd : FuncData) (sp : Sp) (cs : List (Addr × Addr)), K.In h ∧ (∀ p ∈ cs, h.get? p.2 = some (PySem.W.tabObj #[])) ∧ (∀ p ∈ cs, K.lookup p.2 = none) ∧ (∀ p ∈ cs, PySem.W.CodeHd h p.1 p.2) ∧ (∀ (s : Shared) (u : Value), BindsTo s fd ⟨[u], []⟩ [(x, u)]) ∧
        (∀ (H : Hp) (a : Addr) (ns : List Int), ns.length ≤ n → (∀ p ∈ cs, H p.2 = some (.tbl #[])) → SqL K H a (ns.map V.int) → sp [.ref a] H (fun v _ => v = .bl true) fun _ _ _ => False) ∧
        ∀ base : Heap, K.In base → base.Ns mainGlobals mg → (∀ p ∈ cs, LamX.TabB base mg p.1 p.2) → GOk l.prog w K mg base k fa fd [x] sp) :
    PySem.W.WalkO q loose XP YP l.row.toRowW d [] (fun f vs => PySem.call f vs) := by
  refine Att.attach_call hn hdf ?_
  intro w s0 s1 mg mb fa o pm cd doc a vs ns G Y ho hd hcd hmg hobj hints hlen hg
  obtain ⟨K, fd, sp, cs, kin, tE, tK, tC, hb, hsp, hF⟩ := F w mg fa _ Y G.T.g hmg
  exact law_gT kin G.T.g G.T.b G.T.builtins G.T.nolimit hg G.T.bmain tE tK tC hobj hints (Nat.le_trans hlen hn2) hr hF hb fun H hT hS => hsp H a ns hlen hT hS
/-! ### the hook with empty tables -/
/-- the code object of the def at f, its table -/
def tabA (K : PySem.W.Frag) (f : Addr) : Option (Addr × Addr) := match K.lookup f with
  | some ⟨_, _, .func fd, _⟩ => (match fd.code with
    | .ref c => (match K.lookup c with
      | some ⟨_, _, .fields us, _⟩ => (match (us[11]? : Option Value) with
        | some (.ref p) => some (c, p)
        | _ => none)
      | _ => none)
    | _ => none)
  | _ => none
def emptyTab (o : Option Obj) : Bool := match o with
  | some ⟨.none, none, .fields us, sl⟩ => us.size == 0 && sl.size == 0
  | _ => false
theorem emptyTab_ok {o : Option Obj} (h : emptyTab o = true) : o = some (PySem.W.tabObj #[]) := by
  unfold emptyTab at h
  split at h
  · rename_i us sl
    obtain ⟨h1, h2⟩ := He.ba h
    rw [Array.eq_empty_of_size_eq_zero (beq_iff_eq.mp h1), Array.eq_empty_of_size_eq_zero (beq_iff_eq.mp h2)]
  · cases h
def asT (g : Addr → Option Obj) (n : Nat) : List Addr := (asW g n).filter fun a => !emptyTab (g a)
def tabOk (K : PySem.W.Frag) (t : At) : Bool := match tabA K (t.ad K) with
  | some (c, p) => PySem.W.codeHdIn K c p && (K.lookup p).isNone
  | none => false
def tabG (K : PySem.W.Frag) (g : Addr → Option Obj) (t : At) : Bool := match tabA K (t.ad K) with
  | some (_, p) => emptyTab (g p)
  | none => false
abbrev AlT : Type := AlX × List Bool
def obsT (n : Nat) (chk : PySem.W.Frag → Bool) (fn : List DefW) (xs : List DefX) (ls : List At) (g : Addr → Option Obj) : AlT :=
  let K := He.frG g (asT g n)
  (((chk K && fn.all fun d => d.ok K, fn.map fun d => fnA K (d.at_.ad K)), xs.map fun d => fnX K (d.ad K)), ls.map fun t => tabOk K t && tabG K g t)
def valT (fn : List DefW) (xs : List DefX) (ls : List At) : AlT := (valX fn xs, ls.map fun _ => true)
structure SaysT (chk : PySem.W.Frag → Bool) (fn : List DefW) (xs : List DefX) (ls : List At) (K : PySem.W.Frag) (h : Heap) : Prop where
  x : SaysX chk fn xs K
  tabs : ∀ t ∈ ls, ∃ c p, tabA K (t.ad K) = some (c, p) ∧ PySem.W.CodeHd h c p ∧ K.lookup p = none ∧ h.get? p = some (PySem.W.tabObj #[])
theorem saysT_of {n : Nat} {chk : PySem.W.Frag → Bool} {fn : List DefW} {xs : List DefX} {ls : List At} {h : Heap} (e : obsT n chk fn xs ls h.get? = valT fn xs ls) : SaysT chk fn xs ls (He.frG h.get? (asT h.get? n)) h := by
  have e1 := congrArg (fun z : AlT => z.1.1.1) e
  have e2 := congrArg (fun z : AlT => z.1.1.2) e
  have e3 := congrArg (fun z : AlT => z.1.2) e
  have e4 := congrArg Prod.snd e
  obtain ⟨h1, h2⟩ := He.ba (show (chk (He.frG h.get? (asT h.get? n)) && fn.all fun d => d.ok (He.frG h.get? (asT h.get? n))) = true from e1)
  refine ⟨⟨⟨h1, fun d hd => List.all_eq_true.mp h2 d hd, e2⟩, e3⟩, fun t ht => ?_⟩
  have z : (tabOk (He.frG h.get? (asT h.get? n)) t && tabG (He.frG h.get? (asT h.get? n)) h.get? t) = true := List.map_inj_left.mp (show ls.map (fun t => tabOk (He.frG h.get? (asT h.get? n)) t && tabG (He.frG h.get? (asT h.get? n)) h.get? t) = ls.map fun _ => true from e4) t ht
  obtain ⟨z1, z2⟩ := He.ba z
  unfold tabOk at z1
  unfold tabG at z2
  cases q : tabA (He.frG h.get? (asT h.get? n)) (t.ad (He.frG h.get? (asT h.get? n))) with
  | none => rw [q] at z1; cases z1
  | some cp =>
    obtain ⟨c, p⟩ := cp
    rw [q] at z1 z2
    obtain ⟨k1, k2⟩ := He.ba z1
    have z3 : emptyTab (h.get? p) = true := z2
    clear z2
    exact ⟨c, p, rfl, PySem.W.codeHd_of_K He.frG_in k1, Option.isNone_iff_eq_none.mp k2, emptyTab_ok z3⟩
def hookT (n : Nat) (chk : PySem.W.Frag → Bool) (fn : List DefW) (xs : List DefX) (ls : List At) : PySem.W.Hook where
  α := AlT
  obs := fun s => obsT n chk fn xs ls s.heap.get?
  val := fun _ => valT fn xs ls
  says := fun _ h => ∃ K : PySem.W.Frag, K.In h ∧ SaysT chk fn xs ls K h
  of := fun _ _ e => ⟨_, He.frG_in, saysT_of e⟩
  keeps := fun _ _ _ ⟨K, hK, c⟩ k => ⟨K, PySem.W.Frag.In.keeps hK k, c.x, fun t ht => by
    obtain ⟨a, p, h1, h2, h3, h4⟩ := c.tabs t ht
    exact ⟨a, p, h1, h2.keeps k, h3, k _ _ h4⟩⟩
theorem obsT_eq {n : Nat} {chk : PySem.W.Frag → Bool} {fn : List DefW} {xs : List DefX} {ls : List At} {g : Addr → Option Obj} {s : Shared} (h : ∀ a, g a = s.heap.get? a) : obsT n chk fn xs ls g = (hookT n chk fn xs ls).obs s := by
  have e : g = s.heap.get? := funext h
  rw [e]
  rfl
end WL
set_option Elab.async false
set_option linter.all false
set_option maxRecDepth 100000
set_option maxHeartbeats 4000000
namespace WL
open PySem PySem.Spec PyProof.Rows L2
/-! ### an exception's __init__ whose last parameter has the default None -/
def exDB (K : PySem.W.Frag) (fI : Addr) : Bool := match K.lookup fI with
  | some ⟨_, _, .func fd, _⟩ => He.dflB K fd.defaults [.non]
  | _ => false
theorem exDB_ok {K : PySem.W.Frag} {fI : Addr} {fd : FuncData} (at_ : ∃ oc od osl, K.lookup fI = some ⟨oc, od, .func fd, osl⟩) (h : exDB K fI = true) :
    ∃ (T : Addr) (x : Value) (o : Obj) (n : Nat), fd.defaults = .ref T ∧ K.lookup T = some o ∧ o.data = .seq [x].toArray n := by
  obtain ⟨oc, od, osl, lk⟩ := at_
  unfold exDB at h
  rw [lk] at h
  rcases He.dflB_ok h with ⟨e, _⟩ | ⟨_, T, o, its, n, e1, e2, e3, e4⟩
  · cases e
  · obtain ⟨u, rfl, _⟩ := Vals.one e4
    exact ⟨T, u, o, n, e1, e2, e3⟩
theorem bind_dfl {K : PySem.W.Frag} {s : Shared} {fd : FuncData} {args : Args} {T : Addr} {o : Obj} {its : Array Value} {n : Nat} {binds : List (Str × Value)} (hK : K.In s.heap) (lT : K.lookup T = some o) (oT : o.data = .seq its n)
    (h : ∃ k, bindArgs fd args = seqItems? (.ref T) >>= k ∧ k (some its) = pure binds) : BindsTo s fd args binds := by
  obtain ⟨k, e1, e2⟩ := h
  refine BindsTo.of_looks fun M => ?_
  rw [e1]
  exact looks_items hK lT oT (.of_pure e2)
end WL
set_option Elab.async false
set_option linter.all false
set_option maxRecDepth 100000
set_option maxHeartbeats 0
namespace K05
open PySem PySem.Spec PyProof.Rows L2 WL
def top (i : Nat) : Stmt := PySem.Challenge.pw_weekdaylegs_k05_events_as_objects.main.body.getD i (.Pass ⟨0, 0, 0, 0⟩)
abbrev s_wall : Stmt := top 0
abbrev s_InvalidDiary_init : Stmt := inClass (top 3) 0
abbrev s_InvalidEvent_init : Stmt := inClass (top 4) 0
abbrev s_InvalidNumber_init : Stmt := inClass (top 5) 0
abbrev s_is_number : Stmt := top 7
abbrev s_is_within : Stmt := top 8
abbrev s_need_number : Stmt := top 9
abbrev s_is_tuple_of : Stmt := top 10
abbrev s_is_bound : Stmt := top 11
abbrev s_weekdays_fault : Stmt := top 12
abbrev s_bounds_fault : Stmt := top 13
abbrev s_diary_fault : Stmt := top 14
abbrev s_Event_init : Stmt := inClass (top 15) 1
abbrev s_Event_number : Stmt := inClass (top 15) 2
abbrev s_Event_latest : Stmt := inClass (top 15) 3
abbrev s_Event_fits : Stmt := inClass (top 15) 4
abbrev s_Event_choices : Stmt := inClass (top 15) 5
abbrev s_DatedEvent_init : Stmt := inClass (top 16) 1
abbrev s_DatedEvent_weekday : Stmt := inClass (top 16) 2
abbrev s_DatedEvent_latest : Stmt := inClass (top 16) 3
abbrev s_Diary_init : Stmt := inClass (top 18) 4
abbrev s_Diary_is_diary : Stmt := inClass (top 18) 5
abbrev s_Diary_limits : Stmt := inClass (top 18) 6
abbrev s_Diary_of : Stmt := inClass (top 18) 7
abbrev s_Diary_modulus : Stmt := inClass (top 18) 8
abbrev s_Diary_weekdays : Stmt := inClass (top 18) 9
abbrev s_Diary_bounds : Stmt := inClass (top 18) 10
abbrev s_Diary_len : Stmt := inClass (top 18) 11
abbrev s_Diary_eq : Stmt := inClass (top 18) 12
abbrev s_Diary_event : Stmt := inClass (top 18) 13
abbrev s_Diary_events : Stmt := inClass (top 18) 14
abbrev s_Diary_need_event : Stmt := inClass (top 18) 15
abbrev s_Diary_adding : Stmt := inClass (top 18) 16
abbrev s_Diary_noting : Stmt := inClass (top 18) 17
abbrev s_Diary_between : Stmt := inClass (top 18) 18
abbrev s_Diary_mirrored : Stmt := inClass (top 18) 19
abbrev s_Diary_shifted : Stmt := inClass (top 18) 20
abbrev s_law_mixed : Stmt := top 20
abbrev s_law_folded : Stmt := top 21
abbrev s_law_draw : Stmt := top 22
abbrev s_law_begun : Stmt := top 23
abbrev s_law_slack : Stmt := top 24
abbrev s_law_book : Stmt := top 25
abbrev s_law_bent : Stmt := top 26
abbrev s_law_any_book : Stmt := top 27
abbrev s_law_doubled : Stmt := top 28
abbrev s_law_shown : Stmt := top 29
abbrev s_law_due : Stmt := top 30
abbrev s_law_back : Stmt := top 31
abbrev s_law_days_right : Stmt := top 32
abbrev s_law_caught : Stmt := top 33
abbrev s_law_refused_right : Stmt := top 34
abbrev s_law : Stmt := top 35
end K05
set_option Elab.async false
set_option linter.all false
set_option maxRecDepth 100000
set_option maxHeartbeats 0
namespace K05
open PySem PySem.Spec PyProof.Rows L2 WL
def names : List Str := (["_wall", "WeekdaylegsError", "InvalidDiary", "InvalidEvent", "InvalidNumber", "is_number", "is_within", "need_number", "is_tuple_of", "is_bound", "weekdays_fault", "bounds_fault", "diary_fault", "Event", "DatedEvent", "UndatedEvent", "Diary", "_law_mixed"] : List Str) ++ (["_law_folded", "_law_draw", "_law_begun", "_law_slack", "_law_book", "_law_bent", "_law_any_book", "_law_doubled", "_law_shown", "_law_due", "_law_back", "_law_days_right", "_law_caught", "_law_refused_right"] : List Str)
def loose : List Str := names ++ ([] : List Str)
def builtins_ : List Str := (["ValueError", "bool", "classmethod", "enumerate", "int", "isinstance", "len", "list", "min", "property", "range", "repr", "staticmethod", "super", "tuple", "zip"] : List Str)
def fns : List DefW := ([
  ⟨.g "is_number", "is_number", "is_number", s_is_number, [], []⟩,
  ⟨.g "is_within", "is_within", "is_within", s_is_within, [], []⟩,
  ⟨.g "need_number", "need_number", "need_number", s_need_number, [], []⟩,
  ⟨.g "is_tuple_of", "is_tuple_of", "is_tuple_of", s_is_tuple_of, [], []⟩,
  ⟨.g "is_bound", "is_bound", "is_bound", s_is_bound, [], []⟩,
  ⟨.g "weekdays_fault", "weekdays_fault", "weekdays_fault", s_weekdays_fault, [], []⟩,
  ⟨.g "bounds_fault", "bounds_fault", "bounds_fault", s_bounds_fault, [], []⟩,
  ⟨.g "diary_fault", "diary_fault", "diary_fault", s_diary_fault, [], []⟩,
  ⟨.m "Event" "__init__", "__init__", "Event.__init__", s_Event_init, [], []⟩,
  ⟨.pr "Event" "number", "number", "Event.number", s_Event_number, [], []⟩,
  ⟨.m "Event" "latest", "latest", "Event.latest", s_Event_latest, [], []⟩,
  ⟨.m "Event" "fits", "fits", "Event.fits", s_Event_fits, [], []⟩,
  ⟨.m "Event" "choices", "choices", "Event.choices", s_Event_choices, [], []⟩,
  ⟨.pr "DatedEvent" "weekday", "weekday", "DatedEvent.weekday", s_DatedEvent_weekday, [], []⟩,
  ⟨.m "DatedEvent" "latest", "latest", "DatedEvent.latest", s_DatedEvent_latest, [], []⟩,
  ⟨.m "Diary" "__init__", "__init__", "Diary.__init__", s_Diary_init, [], []⟩,
  ⟨.pr "Diary" "modulus", "modulus", "Diary.modulus", s_Diary_modulus, [], []⟩,
  ⟨.pr "Diary" "weekdays", "weekdays", "Diary.weekdays", s_Diary_weekdays, [], []⟩] : List DefW) ++ ([
  ⟨.pr "Diary" "bounds", "bounds", "Diary.bounds", s_Diary_bounds, [], []⟩,
  ⟨.m "Diary" "__len__", "__len__", "Diary.__len__", s_Diary_len, [], []⟩,
  ⟨.m "Diary" "__eq__", "__eq__", "Diary.__eq__", s_Diary_eq, [], []⟩,
  ⟨.m "Diary" "event", "event", "Diary.event", s_Diary_event, [], []⟩,
  ⟨.m "Diary" "events", "events", "Diary.events", s_Diary_events, [], []⟩,
  ⟨.m "Diary" "need_event", "need_event", "Diary.need_event", s_Diary_need_event, [], []⟩,
  ⟨.m "Diary" "noting", "noting", "Diary.noting", s_Diary_noting, [], []⟩,
  ⟨.g "_law_mixed", "_law_mixed", "_law_mixed", s_law_mixed, [], []⟩,
  ⟨.g "_law_folded", "_law_folded", "_law_folded", s_law_folded, [], []⟩,
  ⟨.g "_law_draw", "_law_draw", "_law_draw", s_law_draw, [], []⟩,
  ⟨.g "_law_begun", "_law_begun", "_law_begun", s_law_begun, [], []⟩,
  ⟨.g "_law_slack", "_law_slack", "_law_slack", s_law_slack, [], []⟩,
  ⟨.g "_law_book", "_law_book", "_law_book", s_law_book, [], []⟩,
  ⟨.g "_law_bent", "_law_bent", "_law_bent", s_law_bent, [], []⟩,
  ⟨.g "_law_any_book", "_law_any_book", "_law_any_book", s_law_any_book, [], []⟩,
  ⟨.g "_law_doubled", "_law_doubled", "_law_doubled", s_law_doubled, [], []⟩,
  ⟨.g "_law_shown", "_law_shown", "_law_shown", s_law_shown, [], []⟩,
  ⟨.g "_law_due", "_law_due", "_law_due", s_law_due, [], []⟩] : List DefW) ++ ([
  ⟨.g "_law_back", "_law_back", "_law_back", s_law_back, [], []⟩,
  ⟨.g "_law_days_right", "_law_days_right", "_law_days_right", s_law_days_right, [], []⟩,
  ⟨.g "_law_caught", "_law_caught", "_law_caught", s_law_caught, [], []⟩,
  ⟨.g "_law_refused_right", "_law_refused_right", "_law_refused_right", s_law_refused_right, [], []⟩,
  ⟨.g "law", "law", "law", s_law, [], []⟩] : List DefW)
def fa : List He.Fa := names.map (fun x => He.Fa.glo x) ++ builtins_.map (fun x => He.Fa.free x)
def fa2 : List He.Fa := [.cls "Diary", .noat "Diary" "_modulus", .noat "Diary" "_weekdays", .noat "Diary" "_bounds", .mkr "Diary", .meth "Diary" "need_event", .meth "Diary" "__len__", .meth "Diary" "__eq__", .meth "Diary" "event", .meth "Diary" "events", .meth "Diary" "noting", .cls "DatedEvent", .cls "UndatedEvent", .noat "DatedEvent" "_number", .noat "DatedEvent" "_modulus", .noat "DatedEvent" "_weekday", .noat "UndatedEvent" "_number", .noat "UndatedEvent" "_modulus", .noat "UndatedEvent" "_weekday", .mkr "DatedEvent", .mkr "UndatedEvent", .meth "DatedEvent" "latest", .meth "DatedEvent" "fits", .meth "DatedEvent" "choices", .meth "UndatedEvent" "latest", .meth "UndatedEvent" "fits", .meth "UndatedEvent" "choices", .noat "InvalidEvent" "value", .noat "InvalidNumber" "value", .glo "law"]
def file : Str := PySem.Challenge.rw_weekdaylegs_k05_events_as_objects.prog.main.file
def errB05 (K : PySem.W.Frag) (D : Addr) : Bool := He.eqO (PySem.W.findIn K (.ref D) "__class__") (some (some (.builtin "object.__class__"))) && (He.eqO (PySem.W.specialIn K (.builtin "object.__class__") "__get__") (some (some (.builtin "getset_descriptor.__get__"))) && (tkB K (.builtin "object.__class__") && mrB K D (.type "object")))
def conBB (K : PySem.W.Frag) (C : Addr) (f : Str) (b : Bool) : Bool := match PySem.W.findIn K (.ref C) f with
  | some (some (.bool j)) => decide (j = b) && (He.eqO (PySem.W.specialIn K (.bool j) "__get__") (some none) && !(PySem.W.copiedNames.contains f))
  | _ => false
def cvBB (K : PySem.W.Frag) (C : Addr) (f : Str) (b : Bool) : Bool := match PySem.W.findCls K (.ref C) (.type "type") f with
  | some (.val (.bool j)) => decide (j = b)
  | _ => false
def supB (K : PySem.W.Frag) (C f2 : Addr) : Bool := He.eqO (PySem.W.ks_superIn K C C "__init__") (some (some (.ref f2))) && (tyB K (.ref f2) "function" && (PySem.W.fnIn K f2 && (He.eqO (PySem.W.nsIn K cStatics "thirdparty.any") (some none) && (mrB K C (.ref C) && (PySem.W.clsIn K C).isSome))))
def cks : List (PySem.W.Frag → Bool) := ([fun K => fa.all fun f => f.ok K, fun K => fa2.all fun f => f.ok K, fun K => exTB K ["value"] (He.ga K "InvalidEvent") (He.ma K (He.ga K "InvalidEvent") "__init__"), fun K => xfacB K (He.ga K "InvalidEvent"), fun K => emB K (.ref (He.ga K "InvalidEvent")) (.ref (He.ga K "InvalidEvent")), fun K => exIB K file (He.ga K "InvalidEvent") (He.ma K (He.ga K "InvalidEvent") "__init__"), fun K => exTB K ["value"] (He.ga K "InvalidNumber") (He.ma K (He.ga K "InvalidNumber") "__init__"), fun K => xfacB K (He.ga K "InvalidNumber"), fun K => emB K (.ref (He.ga K "InvalidNumber")) (.ref (He.ga K "InvalidNumber")), fun K => exIB K file (He.ga K "InvalidNumber") (He.ma K (He.ga K "InvalidNumber") "__init__"), fun K => exIB K file (He.ga K "DatedEvent") (He.ma K (He.ga K "DatedEvent") "__init__"), fun K => diaB K (He.ga K "Diary"), fun K => diaOB K (He.ga K "Diary"), fun K => diaFB K (He.ga K "Diary"), fun K => sysB K, fun K => He.eqO (PySem.W.nsIn K cStatics "sys.int_max_str_digits") (some none), fun K => errB05 K (He.ga K "DatedEvent"), fun K => errB05 K (He.ga K "UndatedEvent")] : List (PySem.W.Frag → Bool)) ++ ([fun K => conBB K (He.ga K "DatedEvent") "IS_DATED" true, fun K => conBB K (He.ga K "UndatedEvent") "IS_DATED" false, fun K => crB K (He.ga K "DatedEvent") && cvBB K (He.ga K "DatedEvent") "IS_DATED" true, fun K => crB K (He.ga K "UndatedEvent") && cvBB K (He.ga K "UndatedEvent") "IS_DATED" false, fun K => isB K (.ref (He.ga K "DatedEvent")) (.ref (He.ga K "Event")) true, fun K => isB K (.ref (He.ga K "UndatedEvent")) (.ref (He.ga K "Event")) true, fun K => isB K (.ref (He.ga K "DatedEvent")) (.ref (He.ga K "DatedEvent")) true, fun K => isB K (.ref (He.ga K "UndatedEvent")) (.ref (He.ga K "DatedEvent")) false, fun K => isB K (.ref (He.ga K "DatedEvent")) (.ref (He.ga K "UndatedEvent")) false, fun K => isB K (.ref (He.ga K "UndatedEvent")) (.ref (He.ga K "UndatedEvent")) true, fun K => propB K (He.ga K "DatedEvent") "number", fun K => propB K (He.ga K "UndatedEvent") "number", fun K => propB K (He.ga K "DatedEvent") "weekday", fun K => supB K (He.ga K "DatedEvent") (He.ma K (He.ga K "Event") "__init__"), fun K => errB05 K (He.ga K "InvalidEvent"), fun K => errB05 K (He.ga K "InvalidNumber"), fun K => isB K (.ref (He.ga K "InvalidEvent")) (.ref (He.ga K "InvalidEvent")) true, fun K => isB K (.ref (He.ga K "InvalidNumber")) (.ref (He.ga K "InvalidEvent")) false] : List (PySem.W.Frag → Bool)) ++ ([fun K => isB K (.ref (He.ga K "InvalidNumber")) (.ref (He.ga K "InvalidNumber")) true, fun K => emB K (.ref (He.ga K "InvalidEvent")) (.ref (He.ga K "WeekdaylegsError")), fun K => emB K (.ref (He.ga K "InvalidNumber")) (.ref (He.ga K "WeekdaylegsError")), fun K => decide (He.ma K (He.ga K "UndatedEvent") "__init__" = He.ma K (He.ga K "Event") "__init__"), fun K => decide (He.ma K (He.ga K "UndatedEvent") "latest" = He.ma K (He.ga K "Event") "latest"), fun K => decide (He.ma K (He.ga K "UndatedEvent") "fits" = He.ma K (He.ga K "Event") "fits"), fun K => decide (He.ma K (He.ga K "UndatedEvent") "choices" = He.ma K (He.ga K "Event") "choices"), fun K => decide (He.ma K (He.ga K "DatedEvent") "fits" = He.ma K (He.ga K "Event") "fits"), fun K => decide (He.ma K (He.ga K "DatedEvent") "choices" = He.ma K (He.ga K "Event") "choices"), fun K => decide (He.ma K (He.ga K "UndatedEvent") "number" = He.ma K (He.ga K "Event") "number"), fun K => decide (He.ma K (He.ga K "DatedEvent") "number" = He.ma K (He.ga K "Event") "number")] : List (PySem.W.Frag → Bool))
def xs : List DefX := [⟨"InvalidEvent", s_InvalidEvent_init, true⟩, ⟨"InvalidNumber", s_InvalidNumber_init, true⟩, ⟨"DatedEvent", s_DatedEvent_init, true⟩]
def ls : List At := [.g "_law_refused_right"]
def chk3 (K : PySem.W.Frag) : Bool := cks.all fun f => f K
abbrev hk : PySem.W.Hook := hookT 6 chk3 fns xs ls
def ob (s : PySem.W.SharedT) : AlT := obsT 6 chk3 fns xs ls (HandSHeadRun.getT s)
theorem ob_eq (s : PySem.W.SharedT) : ob s = hk.obs s.abs := obsT_eq (HandSHeadRun.getT_eq s)
abbrev R : PySem.W.OpenRow := PySem.W.OpenLaw.row PySem.Challenge.rw_weekdaylegs_k05_events_as_objects
theorem run (w : World) : HandSHeadRun.RunEq R (PySem.W.view R.prog [35]) hk ob 12000 loose w := by
  intro os
  kernel_rfl
end K05
set_option Elab.async false
set_option linter.all false
set_option maxRecDepth 100000
set_option maxHeartbeats 4000000
namespace WL
open PySem PySem.Spec PyProof.Rows L2
/-! ### a def that makes lambdas: its code object is known -/
section
variable {P : Program} {w : World} {K : PySem.W.Frag} {mg : Str → Option Value} {base : Heap}
theorem gok_bodyC {x qual : Str} {pr : Arguments} {bd : List Stmt} {sc : Scope} {dvs : List V} {kws : List (Str × V)} {f c p : Addr} {fd : FuncData} {N ps : List Str} {k : Nat} {sp : Sp}
    (F : FunD K x qual pr bd sc dvs kws f fd) (ht : tabA K f = some (c, p)) (S : FnScope N ps sc) (size : ∀ vs H Q E, sp vs H Q E → vs.length = ps.length)
    (body : ∀ (A : Around) (up : List Env) (s : Shared) (H : Hp) (vs : List V) (Q : VK) (E : XK), A.guards = some [] → Room k (A.deeper (envOfC qual sc s.heap.objs.size f (.ref c))) → sp vs H Q E →
      ∃ t, PSs (cxOf CX0 P w K mg base N qual sc f (.ref c) A up s H E).nox bd t ∧ t { nx := fun _ H' => Q .non H', rt := Q } (start N vs) H) : GOk P w K mg base (k + 1) f fd ps sp := by
  obtain ⟨oc, od, dV, kV, dc, pm, an, cdv, ct, osl, e, lk, hcd, _, _⟩ := F.ex
  have ec : cdv = .ref c := by
    unfold tabA at ht
    rw [lk, e] at ht
    simp only [PySem.W.fnOf] at ht
    split at ht
    · rename_i c1
      split at ht
      · split at ht
        · cases ht; rfl
        · cases ht
      · cases ht
    · cases ht
  subst e ec
  refine ⟨size, ?_⟩
  intro A up s H ar us vs Q E hg hr e0 hb rv hsp
  have kin : K.In s.heap := e0.mod.kin.keeps (fun b o q => (e0.bs b o q).1)
  have kinds : ∀ z ∈ ps.zip us, sc.names.lookup z.1 = some .local ∨ (sc.names.lookup z.1 = some .cell ∧ ((cellsFrom (s.heap.objs.size + 1) sc.names []).lookup z.1).isSome = true) := by
    intro z hz
    cases S.par z.1 (List.of_mem_zip (a := z.1) (b := z.2) hz).1 with
    | inl q => exact Or.inl q
    | inr q => exact Or.inr ⟨q, PySem.W.cellsFrom_some _ _ _ (Or.inl q)⟩
  refine codeAny_call_function hr.depth (kin _ _ lk) rfl S.co S.gen rfl (PySem.W.codeRec_of kin hcd) (hb _ _ _ _ (wpAny_newFunctionEnv_cells S.kind kinds ?_))
  intro env he s1 x1
  subst he
  refine And.intro ((e0.mod.nolimit.keeps (fun b o q => (e0.bs b o q).1)).keeps x1.toInCall.keep) (codeAny_func ?_)
  obtain ⟨t, ht', hq⟩ := body A up s H vs Q E hg (hr.deeper _) hsp
  have J : Inv (cxOf CX0 P w K mg base N qual sc f (.ref c) A up s H E) [] (start N vs) H s1 := inv_start S hr.hd e0 (size _ _ _ _ hsp) rv x1
  refine wpAny_mono (ht'.nox.run [] s1 (start N vs) H _ J hq) ?_ (fun _ _ z => z)
  intro fl s2 hs
  have ends : ∀ {σ : L2.St} {H2 : Hp} {v : V} {u : Value}, Inv (cxOf CX0 P w K mg base N qual sc f (.ref c) A up s H E) [] σ H2 s2 → RelV v u → Q v H2 → CE up P w H s Q u s2 :=
    fun I2 r2 q2 => ⟨_, _, I2.os, I2.bare, I2.base, I2.hok, r2, q2⟩
  match fl, hs with
  | .ret _, ⟨_, _, _, I2, r2, q2⟩ => exact ends I2 r2 q2
  | .next, ⟨_, _, I2, q2⟩ => exact ends (v := V.non) (u := Value.none) I2 rfl q2
  | .brk, ⟨_, _, _, q2⟩ => exact q2.elim
  | .cont, ⟨_, _, _, q2⟩ => exact q2.elim
end
/-! ### all but the tables stays -/
theorem Tk.ext {H H' : Hp} (e : LamX.ExtN H H') : Tk H H' := fun b xs h => e b _ h (fun ps z => nomatch z)
theorem Ik.ext {H H' : Hp} (e : LamX.ExtN H H') : Ik H H' := fun b C dx fs h => e b _ h (fun ps z => nomatch z)
theorem Dr.ext {H H' : Hp} {m c g : Addr} {n : Int} (d : Dr H m c g n) (e : LamX.ExtN H H') : Dr H' m c g n := by
  obtain ⟨l, hl, hc⟩ := d.cells
  obtain ⟨l2, hl2, hg⟩ := d.great
  exact ⟨e _ _ d.dict (fun ps z => nomatch z), ⟨l, hl, e _ _ hc (fun ps z => nomatch z)⟩, ⟨l2, hl2, e _ _ hg (fun ps z => nomatch z)⟩, d.ne, d.pos⟩
theorem Tabs.pr {T : List (Addr × Str)} {m c g : Addr} {H H' : Hp} {B B' : Int} (t : LamX.Tabs T H) (p : Pr m c g H H' B) (q : Pr m c g H H B') : LamX.Tabs T H' := fun r hr => by
  obtain ⟨ps, e, ok, h⟩ := t r hr
  obtain ⟨_, _, d⟩ := q.dr
  obtain ⟨l, _, hg⟩ := d.great
  have n1 : r.1 ≠ m := fun z => by rw [z, d.dict] at e; cases e
  have n2 : r.1 ≠ g := fun z => by rw [z, hg] at e; cases e
  refine ⟨ps, p.but _ _ n1 n2 e, ok, fun pos cv hc => ?_⟩
  obtain ⟨c', e1, e2⟩ := h pos cv hc
  refine ⟨c', e1, p.but _ _ (fun z => ?_) (fun z => ?_) e2⟩
  · rw [z, d.dict] at e2; cases e2
  · rw [z, hg] at e2; cases e2
/-! ### told: error = None; try: a() except C as e: error = e; return [] if error is None else [error.f] -/
def TVal (f : Str) (C : Addr) : (XK → Hp → VK → Prop) → Hp → VK → Prop := fun tl H Q => ∀ Q1 : VK, (∀ v H', (∀ p, H' p = none → Q (.ref p) (upd H' p (.lst []))) → Q1 v H') →
  tl (fun cls d H' => cls = .ref C ∧ ∃ dd y, d = some dd ∧ H' dd = some (.xd [(f, y)]) ∧ ∀ (p : Addr) (H2 : Hp), H' p = none → (∀ b o, H' b = some o → H2 b = some o) → H2 p = some (.lst [y]) → Q (.ref p) H2) H Q1
theorem takes_len {X : Cx} {W : WX} (t : Takes X W) : Takes X (fun cls d σ H => σ.length = X.N.length → W cls d σ H) := fun u s' ⟨a, B, sI, pins, σ, H, cls, d, e, I, nb, up, sky, na, os, ag, w⟩ =>
  t u s' ⟨a, B, sI, pins, σ, H, cls, d, e, I, nb, up, sky, na, os, ag, w I.len⟩
theorem passLam {X : Cx} {A : Around} {outer : List Env} {s : Shared} {H : Hp} {E : XK} {scope : Scope} {f c' : Addr} : Passes (L2.CX X.prog X.w) (LamX.lamCx X A outer s H E scope f c') E :=
  passes_call (takes_of rfl rfl rfl rfl) (fun _ _ _ _ h => h)
end WL
set_option Elab.async false
set_option linter.all false
set_option maxRecDepth 100000
set_option maxHeartbeats 4000000
namespace WL
open PySem PySem.Spec PyProof.Rows L2
/-! ### mirrored and shifted diaries -/
def mirN (c : Int) (ns : List (Option Int)) : List (Option Int) := ns.map fun n => n.map fun w => (-w) % c
def mirL (ls : List (Int × Int × Int)) : List (Int × Int × Int) := ls.map fun l => (l.2.1, l.1, l.2.2)
def shN (c i : Int) (ns : List (Option Int)) : List (Option Int) := ns.map fun n => n.map fun w => (w + i) % c
theorem mirN_ok {c w : Int} {ns : List (Option Int)} {ls : List (Int × Int × Int)} (h : DOK c ns ls w) : DOK c (mirN c ns) (mirL ls) w := by
  obtain ⟨a1, a2, a3, a4, a5, a6⟩ := h
  refine ⟨a1, a2, by simp [mirN]; exact a3, by simp [mirN]; exact a4, fun i hi => ?_, fun l hl => ?_⟩
  · obtain ⟨n, hn, e⟩ := List.mem_map.mp hi
    cases n with
    | none => cases e
    | some w => cases e; exact ⟨Int.emod_nonneg _ (by omega), Int.emod_lt_of_pos _ (by omega)⟩
  · obtain ⟨l', hl', rfl⟩ := List.mem_map.mp hl
    obtain ⟨x, y, z⟩ := a6 l' hl'
    have e : (mirN c ns).length = ns.length := by simp [mirN]
    rw [e]
    exact ⟨y, x, z⟩
theorem shN_ok {c w i : Int} {ns : List (Option Int)} {ls : List (Int × Int × Int)} (h : DOK c ns ls w) : DOK c (shN c i ns) ls w := by
  obtain ⟨a1, a2, a3, a4, a5, a6⟩ := h
  have e : (shN c i ns).length = ns.length := by simp [shN]
  refine ⟨a1, a2, by rw [e]; exact a3, by rw [e]; exact a4, fun j hj => ?_, fun l hl => by rw [e]; exact a6 l hl⟩
  obtain ⟨n, hn, e⟩ := List.mem_map.mp hj
  cases n with
  | none => cases e
  | some w => cases e; exact ⟨Int.emod_nonneg _ (by omega), Int.emod_lt_of_pos _ (by omega)⟩
theorem pe_fldK {K : PySem.W.Frag} {X : Cx} {e : Expr} {f : Str} {pos : Pos} {ta : TE} (he : PE X e ta) (hK : X.K = K := by rfl) (hb : attributeBase e f X.env (eval e X.env) = eval e X.env := by rfl) : PE X (.Attribute e f pos) (tFld K ta f) := by
  subst hK
  exact pe_fld he hb
theorem map_at {α : Type} {f : α → V} {xs : List α} {i : Nat} {x : V} (h : (xs.map f)[i]? = some x) : ∃ (hi : i < xs.length), x = f xs[i] := by
  rw [List.getElem?_map] at h
  rcases Nat.lt_or_ge i xs.length with q | q
  · rw [List.getElem?_eq_getElem q] at h
    exact ⟨q, (Option.some.inj h).symm⟩
  · rw [List.getElem?_eq_none q] at h; cases h
theorem take_map {α β : Type} (f : α → β) (xs : List α) {i : Nat} (h : i < xs.length) : (xs.take (i + 1)).map f = (xs.take i).map f ++ [f xs[i]] := by
  rw [List.take_succ, List.getElem?_eq_getElem h, List.map_append]; rfl
/-- the class InvalidNumber -/
structure EvN (P : Program) (K : PySem.W.Frag) (mg : Str → Option Value) (IN : Addr) : Prop where
  at_ : mg "InvalidNumber" = some (.ref IN)
  ex : ∃ fI fd, ExT P K mg ["value"] IN fI ∧ ExI P K ["value"] IN fI fd ∧ ∀ (s : Shared) (u v : Value), K.In s.heap → BindsTo s fd ⟨[u, v], []⟩ [("self", u), ("value", v)]
/-- a def by its name that may raise -/
structure HasE (P : Program) (w : World) (K : PySem.W.Frag) (mg : Str → Option Value) (base : Heap) (k : Nat) (x : Str) (ps : List Str) (sp : Sp) : Prop where
  ex : ∃ fa fd, mg x = some (.ref fa) ∧ PySem.W.keepIn K (.ref fa) = true ∧ Binds K fd ps [] ∧ FnOk P w K mg base (L2.CX P w) k fa fd ps sp
theorem pe_hasE {X : Cx} {k j : Nat} {x : Str} {ps : List Str} {sp : Sp} {E : XK} {e : Expr} {es : List Expr} {t : TA} {p pos : Pos} (h : HasE X.prog X.w X.K X.mg X.base k x ps sp) (hr : Room j X.A) (hk : k ≤ j) (hx : Passes (L2.CX X.prog X.w) X E) (ha : PA X (e :: es) t) (gl : Gl X x := by rfl) (hdb : (x == ("__debug__" : Str)) = false := by decide)
    (h1 : starEach (e :: es) X.env = (false, eval e X.env) :: starEach es X.env := by rfl) (h2 : (backTo pos (starEach es X.env)).any (·.1) = false := by rfl) : PE X (.Call (.Name x p) (e :: es) [] pos) (tCall sp [] E t) := by
  obtain ⟨fa, fd, m, kp, b, F⟩ := h.ex
  exact pe_call F (hr.mono hk) gl m kp b .nil hx ha hdb h1 h2
def spNeedNum (K : PySem.W.Frag) (IN : Addr) : Sp := fun vs H Q E => ∃ (y : V) (s : Sh), vs = [y] ∧ AnS K H y s ∧ (s.isInt = true → Q .non H) ∧ (s.isInt = false → ∀ d, H d = none → E (.ref IN) (some d) (upd H d (.xd [("value", y)])))
def spMir (DC : Addr) : Sp := fun vs H Q _ => ∃ (v : V) (c w : Int) (ns : List (Option Int)) (ls : List (Int × Int × Int)), vs = [v] ∧ DiaAt DC H v c ns ls ∧ DOK c ns ls w ∧ w ≤ 1000000000 ∧ ls.length ≤ 60 ∧
  ∀ (x : Addr) (H' : Hp), H x = none → DiaAt DC H' (.ref x) c (mirN c ns) (mirL ls) → (∀ b o, H b = some o → H' b = some o) → Q (.ref x) H'
def spShift (K : PySem.W.Frag) (DC IN : Addr) : Sp := fun vs H Q E => ∃ (v y : V) (c w : Int) (ns : List (Option Int)) (ls : List (Int × Int × Int)) (s : Sh), vs = [v, y] ∧ DiaAt DC H v c ns ls ∧ AnS K H y s ∧ DOK c ns ls w ∧ w ≤ 1000000000 ∧ ls.length ≤ 60 ∧
  (∀ i, y = .int i → ∀ (x : Addr) (H' : Hp), H x = none → DiaAt DC H' (.ref x) c (shN c i ns) ls → (∀ b o, H b = some o → H' b = some o) → Q (.ref x) H') ∧
  (s.isInt = false → ∀ d, H d = none → E (.ref IN) (some d) (upd H d (.xd [("value", y)])))
/-! ### all of a list of truth values -/
def rAllB (K : PySem.W.Frag) : List V → Hp → VK → Prop := fun xs H Q => ∃ (p : Addr) (bs : List Bool), xs = [.ref p] ∧ SqL K H p (bs.map V.bl) ∧ Q (.bl (bs.all id)) H
theorem bools_at : ∀ {bs : List Bool} {us : List Value}, Vals (bs.map V.bl) us → ∀ (i : Nat) (u : Value), us[i]? = some u → ∃ b, bs[i]? = some b ∧ u = .bool b
  | [], _, .nil, i, u, h => by simp at h
  | b :: bs, _, .cons r t, 0, u, h => by
    cases r
    simp only [List.getElem?_cons_zero, Option.some.injEq] at h
    exact ⟨b, rfl, h.symm⟩
  | b :: bs, _, .cons r t, i + 1, u, h => by
    simp only [List.getElem?_cons_succ] at h ⊢
    exact bools_at t i u h
theorem call_allB {X : Cx} (calm : X.calm = true) : CallR X (.builtin "all") (rAllB X.K) := by
  intro pins s σ H xs us Q I r h
  obtain ⟨p, bs, rfl, hq, q⟩ := h
  obtain ⟨u, rfl, rx⟩ := vals1 r
  cases rx
  obtain ⟨its, rv, pl, _⟩ := I.list hq
  have len : its.length = bs.length := by rw [← rv.length, List.length_map]
  have low : p < s.heap.objs.size := by obtain ⟨_, e, _⟩ := pl.isList; exact Heap.lt_size e
  refine call_all_walk (wpAny_pyIter_list pl.isList ?_)
  refine ⟨s.heap.objs.size, [s.heap.objs.size, p], [s.heap.objs.size], its.toArray.size, _, _, fun i => (bs[i]?).getD true, rfl, Walks.list (A := X.A.in1) (I.ok.hd calm) _ p (Nat.ne_of_lt low) its.toArray, ⟨⟨_, Heap.get?_push_size _ rfl, rfl, rfl⟩, pl.isList.push _⟩, ?_, ?_⟩
  · intro i v s' Q' E' hP hQ
    obtain ⟨b, e, rfl⟩ := bools_at rv i v (by simpa using hP)
    simp only [e, Option.getD_some] at hQ
    exact wpAny_truthy_bool hQ
  · intro h' tk hk
    have e : ((List.range its.toArray.size).all fun i => (bs[i]?).getD true) = bs.all id := by
      rw [List.size_toArray, len]
      exact LSm.range_all bs
    rw [e]
    exact ⟨.bl (bs.all id), H, I.kept (t' := tk) (LSm.kept_iter hk), rfl, q⟩
theorem anss_ints {K : PySem.W.Frag} {H : Hp} : ∀ xs : List Int, AnSs K H (xs.map V.int) (xs.map Sh.int)
  | [] => .nil
  | x :: xs => .cons (.int x) (anss_ints xs)
theorem all_true (n : Nat) : (List.replicate n true).all id = true := by simp
/-- the days are a calendar of this diary -/
def spDays (DC : Addr) : Sp := fun vs H Q _ => ∃ (v : V) (t : Addr) (c : Int) (ns : List (Option Int)) (ls : List (Int × Int × Int)) (xs : List Int), vs = [v, .ref t] ∧ DiaAt DC H v c ns ls ∧ H t = some (.tup (xs.map V.int)) ∧ xs.length = ns.length ∧ ns.length ≤ 16 ∧
  ∀ H', (∀ b o, H b = some o → H' b = some o) → Q (.bl true) H'
def spFault (DC : Addr) : Sp := fun vs H Q _ => ∃ (v : V) (t : Addr) (c w : Int) (ns : List (Option Int)) (ls : List (Int × Int × Int)) (xs : List Int), vs = [v, .ref t] ∧ DiaAt DC H v c ns ls ∧ DOK c ns ls w ∧ ls.length ≤ 100 ∧ H t = some (.tup (xs.map V.int)) ∧ Cal c ns ls xs ∧
  ∀ H', (∀ b o, H b = some o → H' b = some o) → Q .non H'
def spCal (DC : Addr) : Sp := fun vs H Q _ => ∃ (v : V) (t : Addr) (c w : Int) (ns : List (Option Int)) (ls : List (Int × Int × Int)) (xs : List Int), vs = [v, .ref t] ∧ DiaAt DC H v c ns ls ∧ DOK c ns ls w ∧ ls.length ≤ 100 ∧ H t = some (.tup (xs.map V.int)) ∧ Cal c ns ls xs ∧
  ∀ H', (∀ b o, H b = some o → H' b = some o) → Q (.bl true) H'
/-! ### the law's own turning and moving -/
def spRow (f : Int → List (Option Int) → List (Option Int)) (g : List (Int × Int × Int) → List (Int × Int × Int)) (H : Hp) (b : Book) (Q : VK) : Prop :=
  ∀ (p : Addr) (wv bv : V) (H' : Hp), H p = none → H' p = some (.lst [.int b.c, wv, bv]) → Fz H' wv (notesD (f b.c b.notes)) → Fz H' bv (linesD (g b.lines)) → (∀ b o, H b = some o → H' b = some o) → Q (.ref p) H'
def spTurned : Sp := fun vs H Q _ => ∃ (v : V) (b : Book) (w : Int), vs = [v] ∧ Fz H v b.d ∧ DOK b.c b.notes b.lines w ∧ b.lines.length ≤ 100 ∧ spRow mirN mirL H b Q
def spMoved : Sp := fun vs H Q _ => ∃ (v : V) (b : Book) (w i : Int), vs = [v, .int i] ∧ Fz H v b.d ∧ DOK b.c b.notes b.lines w ∧ b.lines.length ≤ 100 ∧ spRow (fun c ns => shN c i ns) id H b Q
def spRead3 (DC : Addr) : Sp := fun vs H Q _ => ∃ (v : V) (c : Int) (ns : List (Option Int)) (ls : List (Int × Int × Int)), vs = [v] ∧ DiaAt DC H v c ns ls ∧
  ∀ (p : Addr) (wv bv : V) (H' : Hp), H p = none → H' p = some (.lst [.int c, wv, bv]) → Fz H' wv (notesD ns) → Fz H' bv (linesD ls) → (∀ b o, H b = some o → H' b = some o) → Q (.ref p) H'
theorem turn_eq {c k : Int} (h0 : 0 ≤ k) (h1 : k < c) : (if k = 0 then 0 else c - k) = (-k) % c := by
  by_cases e : k = 0
  · rw [if_pos e, e]; simp
  · rw [if_neg e]
    have : (-k) % c = (-k + c) % c := by simp
    rw [this, Int.emod_eq_of_lt (by omega) (by omega)]
    omega
/-! ### heaps without their tables -/
def noTab (H : Hp) : Hp := fun b => match H b with
  | some (.tbl _) => none
  | o => o
theorem noTab_at {H : Hp} {b : Addr} {o : HO} (h : H b = some o) (n : ∀ ps, o ≠ .tbl ps) : noTab H b = some o := by
  unfold noTab
  rw [h]
  split
  · rename_i ps e
    exact absurd (Option.some.inj e) (n ps)
  · rfl
theorem noTab_of {H : Hp} {b : Addr} {o : HO} (h : noTab H b = some o) : H b = some o ∧ ∀ ps, o ≠ .tbl ps := by
  unfold noTab at h
  split at h
  · cases h
  · rename_i q
    refine ⟨h, fun ps e => ?_⟩
    subst e
    exact q ps h
theorem noTab_same {H : Hp} : ∀ b o, noTab H b = some o → H b = some o := fun _ _ h => (noTab_of h).1
theorem noTab_ext {H H1 H2 : Hp} (s : ∀ b o, noTab H b = some o → H1 b = some o) (e : LamX.ExtN H1 H2) : ∀ b o, noTab H b = some o → H2 b = some o := fun b o h => e b o (s b o h) (noTab_of h).2
theorem noTab_out {H H1 : Hp} (s : ∀ b o, noTab H b = some o → H1 b = some o) : LamX.ExtN H H1 := fun b o h n => s b o (noTab_at h n)
/-- a value that is no number and can be shown -/
structure OddN (K : PySem.W.Frag) (H : Hp) (x : V) : Prop where
  ex : ∃ s d, AnS K H x s ∧ s.isInt = false ∧ DqB H x d ∧ (PyData.list [d]).showable = true ∧ (PyData.list [d]).shown.length ≤ sizeLine ∧ (PyData.list [d]).depth ≤ 50
theorem OddN.same {K : PySem.W.Frag} {H H' : Hp} {x : V} (k : ∀ b o, H b = some o → H' b = some o) (h : OddN K H x) : OddN K H' x := by
  obtain ⟨s, d, h1, h2, h3, h4⟩ := h.ex
  exact ⟨s, d, h1.same k, h2, h3.same k, h4⟩
/-- the methods mirrored and shifted -/
structure DiaS (P : Program) (w : World) (K : PySem.W.Frag) (mg : Str → Option Value) (base : Heap) (DC IN : Addr) : Prop where
  mir : ∃ f fd, Meth K DC "mirrored" f ∧ Binds K fd ["self"] [] ∧ FnOk P w K mg base CX0 8 f fd ["self"] (spMir DC)
  sh : ∃ f fd, Meth K DC "shifted" f ∧ Binds K fd ["self", "days"] [] ∧ FnOk P w K mg base (L2.CX P w) 8 f fd ["self", "days"] (spShift K DC IN) ∧ KBn K fd ["self", "days"] 1 ["days"] (fun us ws => us ++ ws) (fun vs ws => vs ++ ws)
theorem g_meth {C : Addr} {m : Str} {sp : Sp} {dvs : List V} {E : XK} {ta : TE} {t : TA} {σ : L2.St} {H : Hp} {Q : VK} (h : ta σ H fun x H1 => ∃ a dx fs, x = .ref a ∧ H1 a = some (.ins C dx fs) ∧ fs.lookup m = none ∧ t σ H1 fun vs H2 => sp (x :: (vs ++ dvs)) H2 Q E) : tMeth C m sp dvs E ta t σ H Q := h
theorem g_lam {T : List (Addr × Str)} {TT : (XK → Hp → VK → Prop) → Hp → VK → Prop} {t : XK → TE} {σ : L2.St} {H : Hp} {Q : VK} (h : LamX.Tabs T H) (h2 : ∀ H1, LamX.ExtN H H1 → LamX.Tabs T H1 → TT (fun E H' Q' => t E σ H' Q') H1 Q) : LamX.tLam T TT t σ H Q := ⟨h, h2⟩
def spRefused (DC : Addr) (T : List (Addr × Str)) : Sp := fun vs H Q _ => ∃ (v : V) (c w : Int) (ns : List (Option Int)) (ls : List (Int × Int × Int)), vs = [v] ∧ DiaAt DC H v c ns ls ∧ DOK c ns ls w ∧ w ≤ 1000000000 ∧ ls.length ≤ 60 ∧ LamX.Tabs T H ∧
  ∀ H', LamX.ExtN H H' → LamX.Tabs T H' → Q (.bl true) H'
end WL
set_option Elab.async false
set_option linter.all false
set_option maxRecDepth 100000
set_option maxHeartbeats 4000000
namespace PySem.W
open PySem PySem.Calls PySem.NumText PyProof.Rows
/-- int of a text of more than 640 signs, where the limit of digits is what it is at first -/
theorem wp_textL {M : Model} {A : Around} {E : Value → Shared → Prop} {s : Shared} {Q : Value → Shared → Prop} {v : Value} {text : List Nat} {n : Int} (nd : s.heap.NoDigits)
    (hs : ¬ (text.takeWhile (· != 0)).length ≤ 640) (hr : (int_private% "readNumeral") 4300 10 (text.takeWhile (· != 0)) = (int_private% "Numeral.value") n)
    (ha : ((text.takeWhile (· != 0)).length == text.length) = true) (h : Q (.int n s.toks) { s with toks := s.toks + 1 }) :
    wpAny M A ((int_private% "intFromText") v text 10) Q E s := by
  obtain ⟨mc, hns, hnone⟩ := nd
  obtain ⟨hp, g, d, tk, os⟩ := s
  wp_step
  refine wpAny_ite_false (decide_eq_false hs) ?_
  refine wpAny_bind ?_
  unfold Builtin.intMaxStrDigits
  refine wpAny_bind (wpAny_nsGet hns ?_)
  rw [hnone]
  refine wpAny_pure ?_
  dsimp only
  rw [hr]
  dsimp only
  refine wpAny_ite_true (decide_eq_true ha) ?_
  wp_step
  all_goals exact h
structure LongT (x : PySem.Str) (n : Int) : Prop where
  long : ¬ (numSeenOf x).length ≤ 640
  reads : (int_private% "readNumeral") 4300 10 (numSeenOf x) = (int_private% "Numeral.value") n
  all : ((numSeenOf x).length == (numTextOf x).length) = true
theorem long_meets {x : PySem.Str} {u : Tok} {n : Int} (L : LongT x n) : Meets (Builtin.«int.__new__» ⟨[.type "int", .str x u], []⟩) (fun _ R s => s.heap.NoDigits ∧ R (.ok (.ret (.int n s.toks))) { s with toks := s.toks + 1 }) :=
  .of_wp fun prog w A R s z => by
    obtain ⟨nd, z⟩ := z
    obtain ⟨hp, g, d, tk, os⟩ := s
    have q1 := F.conv_sub_int
    have q2 := F.madeHere_int
    have q3 := KIN.str_int
    have q4 := KIN.str_idx
    have q5 := KIN.str_trunc
    have q6 : typeOf (.str x u) = pure (.type "str") := rfl
    have hk := KIN.Hid.mk L
    clear L
    repeat (any_goals (first
      | assumption
      | ((with_reducible show wpAny _ _ ((int_private% "intFromText") _ _ _) _ _ _); refine wp_textL nd hk.out.long hk.out.reads hk.out.all ?_)
      | wp_step))
    all_goals first | exact ⟨_, rfl, z⟩ | trace_state
end PySem.W
namespace WL
open PySem PySem.Spec PyProof.Rows L2
/-- the module of the model that says how many digits are read has nothing of it -/
def NoDig (K : PySem.W.Frag) : Prop := PySem.W.nsIn K cStatics "sys.int_max_str_digits" = some none
def rBigI : List V → Hp → VK → Prop := fun xs H Q => ∃ (a : Str) (n : Int), xs = [.str a] ∧ PySem.W.LongT a n ∧ Q (.int n) H
theorem call_bigI {X : Cx} (nd : NoDig X.K) : CallR X (.type "int") rBigI := by
  intro pins s σ H xs us Q I r h
  obtain ⟨a, n, rfl, hL, q⟩ := h
  obtain ⟨u, rfl, rx⟩ := vals1 r
  obtain ⟨t, rfl⟩ := rx
  obtain ⟨mc, hns, _⟩ := I.nolimit
  have hd : s.heap.NoDigits := ⟨mc, hns, PySem.W.ns_none_of I.kIn hns nd⟩
  refine call_int_1 (PySem.W.long_meets hL) ⟨hd, ?_⟩
  exact ⟨typeIs_int _ _ _, .int n, H, I.tok _, ⟨_, rfl⟩, q⟩
/-- so many of a text -/
def manyS (a : Str) (k : Nat) : Str := ⟨(List.replicate k a.cps).foldl (· ++ ·) #[]⟩
def rMulS : R2 := fun x y H Q => ∃ (a : Str) (k : Int), x = .str a ∧ y = .int k ∧ 2 ≤ k ∧ k ≤ 2000 ∧ a.length = 1 ∧ (manyS a k.toNat).length ≤ sizeLine ∧ Q (.str (manyS a k.toNat)) H
theorem op_mulS {X : Cx} : OpR X (binaryOp .Mult) rMulS := by
  intro pins s σ H x y v u Q I rx ry h
  obtain ⟨a, k, rfl, rfl, h1, h2, hl, hz, q⟩ := h
  obtain ⟨t, rfl⟩ := rx
  obtain ⟨t2, rfl⟩ := ry
  refine PySem.P.mul_str ?_ (fun _ _ => ?_) (fun _ _ => ?_) ?_
  · rw [decide_eq_false (by omega), decide_eq_false (by omega)]; rfl
  · rw [hl]
    intro z
    have : (1 : Int) ≤ (2 ^ 63 - 1) / k := Int.le_ediv_of_mul_le (by omega) (by omega)
    omega
  · rw [hl]
    exact decide_eq_false (Nat.not_lt.mpr (Nat.le_trans (show 1 * k.toNat ≤ 2000 by omega) (by decide)))
  · rw [if_neg (by omega), if_neg (by rw [hl]; simp; omega)]
    exact ⟨hz, .str _, H, I.tok _, ⟨_, rfl⟩, q⟩
end WL
set_option Elab.async false
set_option linter.all false
set_option maxRecDepth 100000
set_option maxHeartbeats 4000000
namespace WL
open PySem PySem.W PySem.Calls PySem.NumText PySem.Spec PyProof.Rows L2
theorem fold_many (c : Nat) : ∀ (m : Nat) (acc : Array Nat), (List.replicate m #[c]).foldl (· ++ ·) acc = acc ++ (List.replicate m c).toArray
  | 0, acc => by simp
  | m + 1, acc => by
    rw [List.replicate_succ, List.foldl_cons, fold_many c m, List.replicate_succ]
    apply Array.ext'
    simp
theorem many_cps {a : Str} {c : Nat} (h : a.cps = #[c]) (m : Nat) : (manyS a m).cps.toList = List.replicate m c := by
  show ((List.replicate m a.cps).foldl (· ++ ·) #[]).toList = _
  rw [h, fold_many]
  simp
theorem many_len {a : Str} {c : Nat} (h : a.cps = #[c]) (m : Nat) : (manyS a m).length = m := by
  show (manyS a m).cps.size = m
  rw [← Array.length_toList, many_cps h, List.length_replicate]
theorem text_many {a : Str} {c : Nat} (h : a.cps = #[c]) (hc : c < 128) (m : Nat) : numTextOf (manyS a m) = List.replicate m c := by
  have e := many_cps h m
  have al : (manyS a m).cps.all (· < 128) = true := by
    rw [← Array.all_toList, e]
    simp [hc]
  unfold numTextOf
  first
    | rw [if_pos al, e]
    | (simp only [al, if_true]; exact e)
theorem seen_many {a : Str} {c : Nat} (h : a.cps = #[c]) (hc : c < 128) (h0 : c ≠ 0) (m : Nat) : numSeenOf (manyS a m) = List.replicate m c := by
  unfold numSeenOf
  rw [text_many h hc]
  have : ∀ m, (List.replicate m c).takeWhile (· != 0) = List.replicate m c := by
    intro m
    induction m with
    | zero => rfl
    | succ m ih => rw [List.replicate_succ, List.takeWhile_cons, ih]; simp [h0]
  exact this m
theorem long_many {a : Str} {c m : Nat} {n : Int} (h : a.cps = #[c]) (hc : c < 128) (h0 : c ≠ 0) (hm : 640 < m) (r : (int_private% "readNumeral") 4300 10 (List.replicate m c) = (int_private% "Numeral.value") n) : PySem.W.LongT (manyS a m) n := by
  constructor
  · rw [seen_many h hc h0, List.length_replicate]; omega
  · rw [seen_many h hc h0]; exact r
  · rw [seen_many h hc h0, text_many h hc]; simp
theorem digits_fold {c e : Nat} (hs : ∀ arr b, NumText.step 10 (arr, b) c = some (arr.push e, true)) : ∀ (k : Nat) (arr : Array Nat) (b : Bool), ∃ arr', (List.replicate (k + 1) c).foldlM (NumText.step 10) (arr, b) = some (arr', true) ∧ arr'.size = arr.size + (k + 1)
  | 0, arr, b => ⟨arr.push e, by rw [List.replicate_succ, List.foldlM_cons, hs]; rfl, by simp⟩
  | k + 1, arr, b => by
    obtain ⟨arr', h1, h2⟩ := digits_fold hs k (arr.push e) true
    refine ⟨arr', ?_, by rw [h2, Array.size_push]; omega⟩
    rw [List.replicate_succ, List.foldlM_cons, hs]
    exact h1
theorem drop_rep {c : Nat} (hb : NumText.blank c = false) (m : Nat) : (List.replicate m c).dropWhile NumText.blank = List.replicate m c := by
  cases m with
  | zero => rfl
  | succ m => rw [List.replicate_succ, List.dropWhile_cons, hb]; rfl
theorem core_rep {c : Nat} (hb : NumText.blank c = false) (h1 : c ≠ 45) (h2 : c ≠ 43) (m : Nat) : NumText.core (List.replicate m c) = List.replicate m c ∧ (NumText.sign (List.replicate m c)).1 = false := by
  have s : NumText.sign (List.replicate m c) = (false, List.replicate m c) := by
    cases m with
    | zero => rfl
    | succ m =>
      rw [List.replicate_succ]
      unfold NumText.sign
      split
      · rename_i r e; exact absurd (List.cons.inj e).1 h1
      · rename_i r e; exact absurd (List.cons.inj e).1 h2
      · rfl
  refine ⟨?_, by rw [s]⟩
  unfold NumText.core
  rw [drop_rep hb, s, List.reverse_replicate, drop_rep hb, List.reverse_replicate]
theorem reads_many {c e m : Nat} (hb : NumText.blank c = false) (h1 : c ≠ 45) (h2 : c ≠ 43) (hs : ∀ arr b, NumText.step 10 (arr, b) c = some (arr.push e, true)) (hm : m + 1 ≤ 4300) : ∃ n, (int_private% "readNumeral") 4300 10 (List.replicate (m + 1) c) = (int_private% "Numeral.value") n := by
  obtain ⟨ds, f1, f2⟩ := digits_fold hs m #[] false
  obtain ⟨c1, c2⟩ := core_rep hb h1 h2 (m + 1)
  have dg : NumText.digits? 10 (NumText.core (List.replicate (m + 1) c)) = some ds := by
    rw [c1]
    unfold NumText.digits?
    rw [f1]
    rfl
  refine ⟨NumText.worth (NumText.sign ((List.replicate (m + 1) c).dropWhile NumText.blank)).1 ds, (NumText.readNumeral_ten 4300 _).trans ?_⟩
  rw [dg]
  exact NumText.judge_ok (Or.inr (by rw [f2]; simp; omega)) (by rw [f2]; simp; omega)
theorem long7 : ∃ n, PySem.W.LongT (manyS "7" 1000) n := by
  obtain ⟨n, h⟩ := reads_many (c := 55) (e := 7) (m := 999) rfl (by decide) (by decide) (fun _ _ => rfl) (by decide)
  exact ⟨n, long_many (a := "7") rfl (by decide) (by decide) (by decide) h⟩
theorem long3 : ∃ n, PySem.W.LongT (manyS "3" 999) n := by
  obtain ⟨n, h⟩ := reads_many (c := 51) (e := 3) (m := 998) rfl (by decide) (by decide) (fun _ _ => rfl) (by decide)
  exact ⟨n, long_many (a := "3") rfl (by decide) (by decide) (by decide) h⟩
theorem many7 : (manyS "7" 1000).length ≤ sizeLine := by
  rw [many_len (a := "7") (c := 55) rfl]; decide
theorem many3 : (manyS "3" 999).length ≤ sizeLine := by
  rw [many_len (a := "3") (c := 51) rfl]; decide
end WL
set_option Elab.async false
set_option linter.all false
set_option maxRecDepth 100000
set_option maxHeartbeats 4000000
namespace WL
open PySem PySem.Spec PyProof.Rows L2
/-! ### what mirroring and shifting do together -/
theorem map_opt_id {f : Int → Int} {ns : List (Option Int)} (h : ∀ k : Int, some k ∈ ns → f k = k) : ns.map (fun n => n.map f) = ns := by
  induction ns with
  | nil => rfl
  | cons n ns ih =>
    rw [List.map_cons, ih fun k hk => h k (List.mem_cons_of_mem _ hk)]
    cases n with
    | none => rfl
    | some k => rw [Option.map_some, h k List.mem_cons_self]
theorem mir_mir {c w : Int} {ns : List (Option Int)} {ls : List (Int × Int × Int)} (ok : DOK c ns ls w) : mirN c (mirN c ns) = ns := by
  unfold mirN
  rw [List.map_map]
  have e : ((fun n : Option Int => n.map fun w => (-w) % c) ∘ fun n : Option Int => n.map fun w => (-w) % c) = fun n => n.map fun w => (-((-w) % c)) % c := by
    funext n; cases n <;> rfl
  rw [e]
  refine map_opt_id fun k hk => ?_
  obtain ⟨h0, h1⟩ := ok.note k hk
  rw [Int.neg_emod_emod_neg k c h0 h1]
where
  Int.neg_emod_emod_neg (k c : Int) (h0 : 0 ≤ k) (h1 : k < c) : (-((-k) % c)) % c = k := by
    have e := Int.emod_add_mul_ediv (-k) c
    have : -((-k) % c) = k + c * ((-k) / c) := by omega
    rw [this, Int.add_mul_emod_self_left, Int.emod_eq_of_lt h0 h1]
theorem mirL_mirL (ls : List (Int × Int × Int)) : mirL (mirL ls) = ls := by
  unfold mirL
  rw [List.map_map]
  exact List.map_id' _
theorem sh_sh {c w i : Int} {ns : List (Option Int)} {ls : List (Int × Int × Int)} (ok : DOK c ns ls w) : shN c (0 - i) (shN c i ns) = ns := by
  unfold shN
  rw [List.map_map]
  have e : ((fun n : Option Int => n.map fun w => (w + (0 - i)) % c) ∘ fun n : Option Int => n.map fun w => (w + i) % c) = fun n => n.map fun w => ((w + i) % c + (0 - i)) % c := by
    funext n; cases n <;> rfl
  rw [e]
  refine map_opt_id fun k hk => ?_
  obtain ⟨h0, h1⟩ := ok.note k hk
  rw [Int.emod_add_emod, show k + i + (0 - i) = k by omega, Int.emod_eq_of_lt h0 h1]
theorem mir_sh (c i : Int) (ns : List (Option Int)) : mirN c (shN c i ns) = shN c (0 - i) (mirN c ns) := by
  unfold mirN shN
  rw [List.map_map, List.map_map]
  congr 1
  funext n
  cases n with
  | none => rfl
  | some k =>
    show some _ = some _
    congr 1
    show (-((k + i) % c)) % c = ((-k) % c + (0 - i)) % c
    rw [Int.emod_add_emod]
    have e := Int.emod_add_mul_ediv (k + i) c
    have : -((k + i) % c) = (-k + (0 - i)) + c * ((k + i) / c) := by omega
    rw [this, Int.add_mul_emod_self_left]
theorem get_note {f : Int → Int} {ns : List (Option Int)} {n : Nat} {i : Int} (h : (ns.map fun m => m.map f)[n]? = some (some i)) : ∃ k, ns[n]? = some (some k) ∧ f k = i := by
  rw [List.getElem?_map] at h
  cases e : ns[n]? with
  | none => rw [e] at h; cases h
  | some m =>
    rw [e] at h
    cases m with
    | none => cases h
    | some k => cases h; exact ⟨k, rfl, rfl⟩
theorem get_int {f : Int → Int} {xs : List Int} {n : Nat} {y : Int} (h : (xs.map f)[n]? = some y) : ∃ x, xs[n]? = some x ∧ f x = y := by
  rw [List.getElem?_map] at h
  cases e : xs[n]? with
  | none => rw [e] at h; cases h
  | some x => rw [e] at h; cases h; exact ⟨x, rfl, rfl⟩
theorem cal_mir {c : Int} {ns : List (Option Int)} {ls : List (Int × Int × Int)} {xs : List Int} (h : Cal c ns ls xs) : Cal c (mirN c ns) (mirL ls) (xs.map fun x => 0 - x) := by
  refine ⟨by simp [mirN, h.len], fun n i x hn hx => ?_, fun l hl x y hx hy => ?_⟩
  · obtain ⟨k, ek, rfl⟩ := get_note hn
    obtain ⟨x', ex, rfl⟩ := get_int hx
    have e := h.days n k x' ek ex
    rw [← e]
    have q := Int.emod_add_mul_ediv x' c
    have : 0 - x' = -(x' % c) + c * (-(x' / c)) := by rw [Int.mul_neg]; omega
    rw [this, Int.add_mul_emod_self_left]
  · obtain ⟨l', hl', rfl⟩ := List.mem_map.mp hl
    obtain ⟨x', ex, rfl⟩ := get_int hx
    obtain ⟨y', ey, rfl⟩ := get_int hy
    have := h.gaps l' hl' y' x' ey ex
    show 0 - y' - (0 - x') ≤ l'.2.2
    omega
theorem cal_sh {c i : Int} {ns : List (Option Int)} {ls : List (Int × Int × Int)} {xs : List Int} (h : Cal c ns ls xs) : Cal c (shN c i ns) ls (xs.map fun x => x + i) := by
  refine ⟨by simp [shN, h.len], fun n j x hn hx => ?_, fun l hl x y hx hy => ?_⟩
  · obtain ⟨k, ek, rfl⟩ := get_note hn
    obtain ⟨x', ex, rfl⟩ := get_int hx
    rw [← h.days n k x' ek ex, Int.emod_add_emod]
  · obtain ⟨x', ex, rfl⟩ := get_int hx
    obtain ⟨y', ey, rfl⟩ := get_int hy
    have := h.gaps l hl x' y' ex ey
    omega
theorem show_twoR {c : Int} {ns : List (Option Int)} {ls : List (Int × Int × Int)} {w : Int} (h : DOK c ns ls w) (hw : w ≤ 999999999999) (hl : ls.length ≤ 1000) : (PyData.list [.list (rowD c ns ls), .list (rowD c ns ls)]).showable = true ∧ (PyData.list [.list (rowD c ns ls), .list (rowD c ns ls)]).shown.length ≤ sizeLine ∧ (PyData.list [.list (rowD c ns ls), .list (rowD c ns ls)]).depth ≤ 50 := by
  have s : Sm (.list [.list (rowD c ns ls), .list (rowD c ns ls)]) := sm_lst fun d hd => by
    simp only [List.mem_cons, List.not_mem_nil, or_false, or_self] at hd
    subst hd
    exact sm_row h hw
  have p : pl 4 (.list [.list (rowD c ns ls), .list (rowD c ns ls)]) := fun d hd => by
    simp only [List.mem_cons, List.not_mem_nil, or_false, or_self] at hd
    subst hd
    exact pl_row c ns ls
  exact ⟨s.show_, sm_fits s (by rw [bulk_two, bulk_row]; have := h.n16; omega), Nat.le_trans (pl_lay p).2 (by decide)⟩
theorem g_shI {K : PySem.W.Frag} {DC IN a : Addr} {H : Hp} {c w i : Int} {ns : List (Option Int)} {ls : List (Int × Int × Int)} {Q : VK} {E : XK} (hD : DiaAt DC H (.ref a) c ns ls) (ok : DOK c ns ls w) (hw : w ≤ 1000000000) (h60 : ls.length ≤ 60)
    (q : ∀ (x : Addr) (H' : Hp), H x = none → DiaAt DC H' (.ref x) c (shN c i ns) ls → (∀ b o, H b = some o → H' b = some o) → Q (.ref x) H') : spShift K DC IN [.ref a, .int i] H Q E :=
  ⟨.ref a, .int i, c, w, ns, ls, .int i, rfl, hD, .int i, ok, hw, h60, fun j e => by cases e; exact q, fun h => by cases h⟩
theorem g_mirI {DC a : Addr} {H : Hp} {c w : Int} {ns : List (Option Int)} {ls : List (Int × Int × Int)} {Q : VK} {E : XK} (hD : DiaAt DC H (.ref a) c ns ls) (ok : DOK c ns ls w) (hw : w ≤ 1000000000) (h60 : ls.length ≤ 60)
    (q : ∀ (x : Addr) (H' : Hp), H x = none → DiaAt DC H' (.ref x) c (mirN c ns) (mirL ls) → (∀ b o, H b = some o → H' b = some o) → Q (.ref x) H') : spMir DC [.ref a] H Q E :=
  ⟨.ref a, c, w, ns, ls, rfl, hD, ok, hw, h60, q⟩
/-- a method of a diary is asked for -/
theorem g_mAt {DC a : Addr} {H : Hp} {c : Int} {ns : List (Option Int)} {ls : List (Int × Int × Int)} {m : Str} {R : Prop} (hD : DiaAt DC H (.ref a) c ns ls) (hm : ∀ x y z, (dFs x y z).lookup m = none) (r : R) : ∃ a' dx fs, V.ref a = .ref a' ∧ H a' = some (.ins DC dx fs) ∧ fs.lookup m = none ∧ R := by
  obtain ⟨a0, dx, wv, bv, e, h1, _, _⟩ := hD
  cases e
  exact ⟨a, dx, _, rfl, h1, hm _ _ _, r⟩
def spRight (DC : Addr) : Sp := fun vs H Q _ => ∃ (m cc g : Addr) (B : Int) (v : V) (b : Book), vs = [.ref m, v] ∧ Pr m cc g H H B ∧ B < 2 ^ 24 ∧ Fz H v b.d ∧ b.OK 3000 48 ∧ 2 ≤ b.notes.length ∧ ∀ H', Pr m cc g H H' (B + 3) → Q (.bl true) H'
theorem Pr.ext {m c g : Addr} {H H' : Hp} {B : Int} (p : Pr m c g H H B) (e : LamX.ExtN H H') : Pr m c g H' H' B := by
  obtain ⟨n, h, d⟩ := p.dr
  exact ⟨⟨n, h, d.ext e⟩, But.refl⟩
def spLawT (K : PySem.W.Frag) (T : List (Addr × Str)) : Sp := fun vs H Q _ => ∃ (a : Addr) (ns : List Int), vs = [.ref a] ∧ SqL K H a (ns.map V.int) ∧ ns.length ≤ 63 ∧ LamX.Tabs T H ∧ ∀ H', Q (.bl true) H'
end WL
set_option Elab.async false
set_option linter.all false
set_option maxRecDepth 100000
set_option maxHeartbeats 4000000
namespace WL
open PySem PySem.Spec PyProof.Rows L2
/-! ### walks: what a row of values is as one -/
def placeV : Option Int → V
  | none => .non
  | some i => .int i
/-- the first value, counted from n, that does not go on from this place -/
def walkF (ls : List (Int × Int × Int)) : List Sh → Nat → Option Int → Option Nat
  | [], _, _ => none
  | s :: ss, n, place => match s with
    | .int i => if 0 ≤ i ∧ i < ls.length then (match ls[i.toNat]? with
        | some l => if place.isSome ∧ place ≠ some l.1 then some n else walkF ls ss (n + 1) (some l.2.1)
        | none => some n) else some n
    | _ => some n
theorem walkF_int {ls : List (Int × Int × Int)} {i : Int} {ss : List Sh} {n : Nat} {place : Option Int} (h0 : 0 ≤ i) (h1 : i.toNat < ls.length) : walkF ls (.int i :: ss) n place = if place.isSome ∧ place ≠ some ls[i.toNat].1 then some n else walkF ls ss (n + 1) (some ls[i.toNat].2.1) := by
  have e : walkF ls (.int i :: ss) n place = (if 0 ≤ i ∧ i < (ls.length : Int) then (match ls[i.toNat]? with
        | some l => if place.isSome ∧ place ≠ some l.1 then some n else walkF ls ss (n + 1) (some l.2.1)
        | none => some n) else some n) := rfl
  rw [e, if_pos (show 0 ≤ i ∧ i < (ls.length : Int) from ⟨h0, by omega⟩), List.getElem?_eq_getElem h1]
theorem walkF_out {ls : List (Int × Int × Int)} {s : Sh} {ss : List Sh} {n : Nat} {place : Option Int} (h : s.within 0 ((ls.length : Int) - 1) = false) : walkF ls (s :: ss) n place = some n := by
  cases s with
  | int i =>
    have e : walkF ls (.int i :: ss) n place = (if 0 ≤ i ∧ i < (ls.length : Int) then (match ls[i.toNat]? with
        | some l => if place.isSome ∧ place ≠ some l.1 then some n else walkF ls ss (n + 1) (some l.2.1)
        | none => some n) else some n) := rfl
    rw [e]
    have : ¬ (0 ≤ i ∧ i < ls.length) := fun ⟨a, b⟩ => by
      rw [within_int ⟨a, by omega⟩] at h
      cases h
    rw [if_neg this]
  | _ => rfl
/-- the class InvalidWalk -/
structure EvK (P : Program) (K : PySem.W.Frag) (mg : Str → Option Value) (IW : Addr) : Prop where
  at_ : mg "InvalidWalk" = some (.ref IW)
  ex : ∃ fI fd, ExT P K mg ["spot"] IW fI ∧ ExI P K ["spot"] IW fI fd ∧ ∀ (s : Shared) (u v : Value), K.In s.heap → BindsTo s fd ⟨[u, v], []⟩ [("self", u), ("spot", v)]
def spotV : Option Nat → V
  | none => .non
  | some n => .int n
def spWalkF (K : PySem.W.Frag) (DC : Addr) : Sp := fun vs H Q _ => ∃ (v : V) (t : Addr) (us : List V) (ss : List Sh) (c w : Int) (ns : List (Option Int)) (ls : List (Int × Int × Int)), vs = [v, .ref t] ∧ DiaAt DC H v c ns ls ∧ DOK c ns ls w ∧ ls.length ≤ 100 ∧ SqT K H t us ∧ AnSs K H us ss ∧
  ∀ H', (∀ b o, H b = some o → H' b = some o) → Q (spotV (walkF ls ss 0 none)) H'
def spNoFault (IW : Addr) : Sp := fun vs H Q E => ∃ (o : Option Nat), vs = [spotV o] ∧ (o = none → Q .non H) ∧ ∀ n, o = some n → ∀ d, H d = none → E (.ref IW) (some d) (upd H d (.xd [("spot", .int n)]))
def wFs (x y : V) : List (Str × V) := [("_diary", x), ("_numbers", y)]
/-- Walk's __init__, what is behind the diary in a tuple -/
def spWInitT (K : PySem.W.Frag) (DC WC IW : Addr) : Sp := fun vs H Q E => ∃ (a dx t : Addr) (v : V) (us : List V) (ss : List Sh) (c w : Int) (ns : List (Option Int)) (ls : List (Int × Int × Int)), vs = [.ref a, v, .ref t] ∧ H a = some (.ins WC dx []) ∧ DiaAt DC H v c ns ls ∧ DOK c ns ls w ∧ ls.length ≤ 100 ∧ SqT K H t us ∧ us.length ≤ 100000 ∧ AnSs K H us ss ∧
  (us = [] → ∀ d, H d = none → E (.ref IW) (some d) (upd H d (.xd [("spot", .non)]))) ∧
  (∀ n, us ≠ [] → walkF ls ss 0 none = some n → ∀ H' d, (∀ b o, H b = some o → H' b = some o) → H' d = none → E (.ref IW) (some d) (upd H' d (.xd [("spot", .int n)]))) ∧
  (us ≠ [] → walkF ls ss 0 none = none → ∀ H', H' a = some (.ins WC dx (wFs v (.ref t))) → (∀ b o, b ≠ a → H b = some o → H' b = some o) → Q .non H')
/-- Walk(diary, ..): what is behind the diary goes into a tuple -/
def spWInit (K : PySem.W.Frag) (DC WC IW : Addr) : Sp := fun vs H Q E => ∃ ws rest, vs = ws ++ rest ∧ ws.length = (["self", "diary"] : List Str).length ∧ rest.length ≤ sizeLine ∧ ∀ p, H p = Option.none → spWInitT K DC WC IW (ws ++ [V.ref p]) (upd H p (.tup rest)) Q E
/-- the class Walk -/
structure WkO (K : PySem.W.Frag) (WC : Addr) : Prop where
  cls : Cls K WC
  n1 : NoAttr K WC "_diary"
  n2 : NoAttr K WC "_numbers"
end WL
set_option Elab.async false
set_option linter.all false
set_option maxRecDepth 100000
set_option maxHeartbeats 4000000
namespace WL
open PySem PySem.Spec PyProof.Rows L2
/-! ### the sum of a list of numbers -/
def rSumI (K : PySem.W.Frag) : List V → Hp → VK → Prop := fun xs H Q => ∃ (p : Addr) (is : List Int), xs = [.ref p] ∧ SqL K H p (is.map V.int) ∧ Q (.int is.sum) H
theorem ints_at : ∀ {is : List Int} {us : List Value}, Vals (is.map V.int) us → ∀ (i : Nat) (u : Value), us[i]? = some u → ∃ n t, is[i]? = some n ∧ u = .int n t
  | [], _, .nil, i, u, h => by simp at h
  | b :: bs, _, .cons r t, 0, u, h => by
    obtain ⟨k, rfl⟩ := r
    simp only [List.getElem?_cons_zero, Option.some.injEq] at h
    exact ⟨b, k, rfl, h.symm⟩
  | b :: bs, _, .cons r t, i + 1, u, h => by
    simp only [List.getElem?_cons_succ] at h ⊢
    exact ints_at t i u h
theorem sum_at (is : List Int) : ∀ k, k ≤ is.length → preSum (fun i => (is[i]?).getD 0) k = (is.take k).sum
  | 0, _ => by simp [preSum]
  | k + 1, h => by
    have hk : k < is.length := h
    have e : preSum (fun i => (is[i]?).getD 0) (k + 1) = preSum (fun i => (is[i]?).getD 0) k + (is[k]?).getD 0 := by
      first
        | rfl
        | simp [preSum]
    rw [e, sum_at is k (Nat.le_of_lt hk), List.take_succ, List.getElem?_eq_getElem hk, List.sum_append]
    simp
theorem call_sumI {X : Cx} (calm : X.calm = true) : CallR X (.builtin "sum") (rSumI X.K) := by
  intro pins s σ H xs us Q I r h
  obtain ⟨p, is, rfl, hq, q⟩ := h
  obtain ⟨u, rfl, rx⟩ := vals1 r
  cases rx
  obtain ⟨its, rv, pl, _⟩ := I.list hq
  have len : its.length = is.length := by rw [← rv.length, List.length_map]
  have low : p < s.heap.objs.size := by obtain ⟨_, e, _⟩ := pl.isList; exact Heap.lt_size e
  refine call_sum_walkG (wpAny_pyIter_list pl.isList ?_)
  refine ⟨s.heap.objs.size, [s.heap.objs.size, p], [s.heap.objs.size], its.toArray.size, _, _, fun i => (is[i]?).getD 0, rfl, Walks.list (A := X.A.in1) (I.ok.hd calm) _ p (Nat.ne_of_lt low) its.toArray, ⟨⟨_, Heap.get?_push_size _ rfl, rfl, rfl⟩, pl.isList.push _⟩, ?_, ?_, ?_⟩
  · intro b hb
    show b < (s.heap.push _).objs.size
    rw [Heap.size_push]
    rcases List.mem_cons.mp hb with rfl | hb
    · exact Nat.lt_succ_self _
    · rw [List.mem_singleton.mp hb]; exact Nat.lt_succ_of_lt low
  · intro i v hP
    obtain ⟨n, t, e, rfl⟩ := ints_at rv i v (by simpa using hP)
    exact ⟨t, by show Value.int n t = Value.int ((is[i]?).getD 0) t; rw [e]; rfl⟩
  · intro h' tk t' hk
    have e : preSum (fun i => (is[i]?).getD 0) its.toArray.size = is.sum := by
      rw [List.size_toArray, len, sum_at is _ (Nat.le_refl _), List.take_length]
    rw [e]
    exact ⟨.int is.sum, H, I.kept (t' := tk) (LSm.kept_iter hk), ⟨_, rfl⟩, q⟩
end WL
set_option Elab.async false
set_option linter.all false
set_option maxRecDepth 100000
set_option maxHeartbeats 4000000
namespace WL
open PySem PySem.Spec PyProof.Rows L2
/-! ### walks as objects -/
def lineAt (ls : List (Int × Int × Int)) (i : Int) : Int × Int × Int := ls.getD i.toNat (0, 0, 0)
def stopsOf (ls : List (Int × Int × Int)) (is : List Int) : List Int := (is.take 1).map (fun i => (lineAt ls i).1) ++ is.map fun i => (lineAt ls i).2.1
def totalOf (ls : List (Int × Int × Int)) (is : List Int) : Int := (is.map fun i => (lineAt ls i).2.2).sum
def InR (ls : List (Int × Int × Int)) (is : List Int) : Prop := ∀ i ∈ is, 0 ≤ i ∧ i.toNat < ls.length
theorem lineAt_get {ls : List (Int × Int × Int)} {i : Int} (h : i.toNat < ls.length) : lineAt ls i = ls[i.toNat] := by
  unfold lineAt
  rw [List.getD_eq_getElem?_getD, List.getElem?_eq_getElem h]; rfl
def WkAt (DC WC : Addr) (H : Hp) (v : V) (c : Int) (ns : List (Option Int)) (ls : List (Int × Int × Int)) (is : List Int) : Prop := ∃ a dx dv t, v = .ref a ∧ H a = some (.ins WC dx (wFs dv (.ref t))) ∧ DiaAt DC H dv c ns ls ∧ H t = some (.tup (is.map V.int))
theorem WkAt.keep {DC WC : Addr} {H H' : Hp} {v : V} {c : Int} {ns : List (Option Int)} {ls : List (Int × Int × Int)} {is : List Int} (h : WkAt DC WC H v c ns ls is) (t : Tk H H') (i : Ik H H') : WkAt DC WC H' v c ns ls is := by
  obtain ⟨a, dx, dv, u, e, h1, h2, h3⟩ := h
  exact ⟨a, dx, dv, u, e, i _ _ _ _ h1, h2.keep t i, t _ _ h3⟩
theorem WkAt.same {DC WC : Addr} {H H' : Hp} {v : V} {c : Int} {ns : List (Option Int)} {ls : List (Int × Int × Int)} {is : List Int} (h : WkAt DC WC H v c ns ls is) (k : ∀ b o, H b = some o → H' b = some o) : WkAt DC WC H' v c ns ls is := h.keep (Tk.same k) (Ik.same k)
section
variable {K : PySem.W.Frag} {WC : Addr} {H : Hp}
theorem g_w1 {a dx : Addr} {x y : V} {P : V → Prop} (d : WkO K WC) (h : H a = some (.ins WC dx (wFs x y))) (q : P x) : ∃ a' C dx' fs v, V.ref a = .ref a' ∧ H a' = some (.ins C dx' fs) ∧ Cls K C ∧ NoAttr K C "_diary" ∧ fs.lookup ("_diary" : Str) = some v ∧ P v := ⟨a, WC, dx, _, x, rfl, h, d.cls, d.n1, rfl, q⟩
theorem g_w2 {a dx : Addr} {x y : V} {P : V → Prop} (d : WkO K WC) (h : H a = some (.ins WC dx (wFs x y))) (q : P y) : ∃ a' C dx' fs v, V.ref a = .ref a' ∧ H a' = some (.ins C dx' fs) ∧ Cls K C ∧ NoAttr K C "_numbers" ∧ fs.lookup ("_numbers" : Str) = some v ∧ P v := ⟨a, WC, dx, _, y, rfl, h, d.cls, d.n2, rfl, q⟩
end
def spStops (DC WC : Addr) : Sp := fun vs H Q _ => ∃ (v : V) (c : Int) (ns : List (Option Int)) (ls : List (Int × Int × Int)) (is : List Int), vs = [v] ∧ WkAt DC WC H v c ns ls is ∧ InR ls is ∧ is ≠ [] ∧ is.length ≤ 1000 ∧
  ∀ (p : Addr) (H' : Hp), H' p = some (.tup ((stopsOf ls is).map V.int)) → (∀ b o, H b = some o → H' b = some o) → Q (.ref p) H'
def spTotal (DC WC : Addr) : Sp := fun vs H Q _ => ∃ (v : V) (c : Int) (ns : List (Option Int)) (ls : List (Int × Int × Int)) (is : List Int), vs = [v] ∧ WkAt DC WC H v c ns ls is ∧ InR ls is ∧ is.length ≤ 1000 ∧
  ∀ H', (∀ b o, H b = some o → H' b = some o) → Q (.int (totalOf ls is)) H'
def spWLen (DC WC : Addr) : Sp := fun vs H Q _ => ∃ (v : V) (c : Int) (ns : List (Option Int)) (ls : List (Int × Int × Int)) (is : List Int), vs = [v] ∧ WkAt DC WC H v c ns ls is ∧ Q (.int is.length) H
/-- a property of a class of one's own -/
structure PropE (P : Program) (w : World) (K : PySem.W.Frag) (mg : Str → Option Value) (base : Heap) (k : Nat) (C : Addr) (n : Str) (sp : Sp) : Prop where
  ex : ∃ p g fd, PropOf K C n p g ∧ Binds K fd ["self"] [] ∧ FnOk P w K mg base CX0 k g fd ["self"] sp
theorem pe_pe {X : Cx} {C : Addr} {k j : Nat} {n : Str} {sp : Sp} {e : Expr} {te : TE} {pos : Pos} (F : PropE X.prog X.w X.K X.mg X.base k C n sp) (O : Cls X.K C) (hr : Room j X.A) (hk : k + 1 ≤ j) (he : PE X e te) (hab : attributeBase e n X.env (eval e X.env) = eval e X.env := by rfl) : PE X (.Attribute e n pos) (tProp C sp [] E0 te) := by
  obtain ⟨p, g, fd, h1, h2, h3⟩ := F.ex
  exact pe_prop he O h1 h3 (hr.mono hk) h2 .nil pass0 hab
end WL
set_option Elab.async false
set_option linter.all false
set_option maxRecDepth 100000
set_option maxHeartbeats 4000000
namespace WL
open PySem PySem.Spec PyProof.Rows L2
/-! ### more of walks: equality; diaries with one bound, one note more -/
structure WkQ (K : PySem.W.Frag) (DC WC : Addr) : Prop where
  same : PySem.W.kitOne K (.ref WC) (.ref WC) = some true
  other : ∀ s : Sh, PySem.W.kitOne K (.type s.ty) (.ref WC) = some false
  dia : PySem.W.kitOne K (.ref DC) (.ref WC) = some false
  g1 : PySem.W.findIn K (.ref WC) "__class__" = some (some (.builtin "object.__class__"))
  g2 : PySem.W.specialIn K (.builtin "object.__class__") "__get__" = some (some (.builtin "getset_descriptor.__get__"))
  g3 : PySem.W.takesIn K (.builtin "object.__class__") = some true
  g4 : PySem.W.mroIn K WC (.type "object") = some true
theorem WkQ.ty {K : PySem.W.Frag} {DC WC a dx : Addr} {fs : List (Str × V)} {H : Hp} (D : WkQ K DC WC) (O : WkO K WC) (h : H a = some (.ins WC dx fs)) : TyX K H (.ref a) (.ref WC) := .base (.ins h O.cls D.g1 D.g2 D.g3 D.g4)
/-- a value that is no walk -/
inductive NoWk (K : PySem.W.Frag) (DC : Addr) (H : Hp) : V → Prop
  | an {x : V} {s : Sh} : AnS K H x s → OddE K H x → NoWk K DC H x
  | dia {x : V} {c : Int} {ns : List (Option Int)} {ls : List (Int × Int × Int)} : DiaAt DC H x c ns ls → NoWk K DC H x
def spWEq (K : PySem.W.Frag) (DC WC : Addr) : Sp := fun vs H Q _ => ∃ (v x : V) (c : Int) (ns : List (Option Int)) (ls : List (Int × Int × Int)) (is : List Int), vs = [v, x] ∧ WkAt DC WC H v c ns ls is ∧
  ((∃ c2 ns2 ls2 is2, WkAt DC WC H x c2 ns2 ls2 is2 ∧ ∀ r : Bool, (r = true ↔ (c = c2 ∧ ns = ns2 ∧ ls = ls2 ∧ is = is2)) → Q (.bl r) H) ∨ (NoWk K DC H x ∧ Q (.bl false) H))
def spAdd (DC : Addr) : Sp := fun vs H Q _ => ∃ (v : V) (rest : List V) (c w : Int) (ns : List (Option Int)) (ls ls2 : List (Int × Int × Int)), vs = v :: rest ∧ DiaAt DC H v c ns ls ∧ Fzs H rest (ls2.map lineD) ∧ DOK c ns (ls ++ ls2) w ∧ w ≤ 1000000000 ∧ (ls ++ ls2).length ≤ 60 ∧
  ∀ (x : Addr) (H' : Hp), H x = none → DiaAt DC H' (.ref x) c ns (ls ++ ls2) → (∀ b o, H b = some o → H' b = some o) → Q (.ref x) H'
def spAddT (DC : Addr) : Sp := fun vs H Q _ => ∃ (v : V) (t : Addr) (c w : Int) (ns : List (Option Int)) (ls ls2 : List (Int × Int × Int)), vs = [v, .ref t] ∧ DiaAt DC H v c ns ls ∧ Fz H (.ref t) (linesD ls2) ∧ DOK c ns (ls ++ ls2) w ∧ w ≤ 1000000000 ∧ (ls ++ ls2).length ≤ 60 ∧
  ∀ (x : Addr) (H' : Hp), H x = none → DiaAt DC H' (.ref x) c ns (ls ++ ls2) → (∀ b o, H b = some o → H' b = some o) → Q (.ref x) H'
theorem add_star {DC : Addr} : ∀ vs H Q E, spAdd DC vs H Q E → ∃ ws rest, vs = ws ++ rest ∧ ws.length = (["self"] : List Str).length ∧ rest.length ≤ sizeLine ∧ ∀ p, H p = Option.none → spAddT DC (ws ++ [V.ref p]) (upd H p (.tup rest)) Q E := by
  rintro vs H Q E ⟨v, rest, c, w, ns, ls, ls2, rfl, hD, hr, ok, hw, h60, q⟩
  refine ⟨[v], rest, rfl, rfl, ?_, fun p np => ⟨v, p, c, w, ns, ls, ls2, rfl, hD.same (same_up np fun _ _ h => h), .tup upd_same (hr.tk (Tk.new np)), ok, hw, h60, fun x H' nx d s => ?_⟩⟩
  · rw [hr.length, List.length_map]
    rw [List.length_append] at h60
    exact sz (by omega)
  · have u := same_up (o := .tup rest) np (H := H) (fun _ _ h => h)
    exact q x H' (none_up nx u) d fun b o h => s _ _ (u _ _ h)
def spNoting (DC : Addr) : Sp := fun vs H Q _ => ∃ (v : V) (i : Int) (n : Option Int) (c w : Int) (ns : List (Option Int)) (ls : List (Int × Int × Int)), vs = [v, .int i, noteV n] ∧ DiaAt DC H v c ns ls ∧ DOK c ns ls w ∧ w ≤ 1000000000 ∧ ls.length ≤ 60 ∧ (0 ≤ i ∧ i.toNat < ns.length) ∧ (∀ k, n = some k → 0 ≤ k ∧ k < c) ∧
  ∀ (x : Addr) (H' : Hp), H x = none → DiaAt DC H' (.ref x) c (ns.set i.toNat n) ls → (∀ b o, H b = some o → H' b = some o) → Q (.ref x) H'
theorem note_ok {c w : Int} {ns : List (Option Int)} {ls : List (Int × Int × Int)} {i : Nat} {n : Option Int} (h : DOK c ns ls w) (hn : ∀ k, n = some k → 0 ≤ k ∧ k < c) : DOK c (ns.set i n) ls w := by
  obtain ⟨a1, a2, a3, a4, a5, a6⟩ := h
  refine ⟨a1, a2, by rw [List.length_set]; exact a3, by rw [List.length_set]; exact a4, fun k hk => ?_, fun l hl => by rw [List.length_set]; exact a6 l hl⟩
  rcases List.mem_or_eq_of_mem_set hk with q | q
  · exact a5 k q
  · exact hn k q.symm
end WL
set_option Elab.async false
set_option linter.all false
set_option maxRecDepth 100000
set_option maxHeartbeats 4000000
namespace WL
open PySem PySem.Spec PyProof.Rows L2
/-! ### a def with a star parameter, called by keywords only -/
def FnRK (P : Program) (w : World) (K : PySem.W.Frag) (mg : Str → Option Value) (base : Heap) (CX : CXT) (k : Nat) (f : Addr) (n : Nat) (ks : List Str) (sp : Sp) : Prop :=
  ∀ (A : Around) (outer : List Env) (s : Shared) (H : Hp) (us ws : List Value) (vs zs : List V) (Q : VK) (E : XK), Room k A → Env0 P w K mg base A outer s H → Vals vs us → Vals zs ws → vs.length = n → zs.length = ks.length → sp (vs ++ zs) H Q E →
    codeAny (model P w) A (.call (.ref f) ⟨us, ks.zip ws⟩) (CR CX outer P w H s Q E) s
section
variable {CX : CXT} {P : Program} {w : World} {K : PySem.W.Frag} {mg : Str → Option Value} {base : Heap} {k : Nat} {f : Addr} {name qual : Str} {params : Arguments} {body : List Stmt} {scope : Scope} {dV kV doc pm cdv ct oc : Value} {an od : Option Addr}
  {osl : Array (Option Value)} {N ps ks : List Str} {sp : Sp} {n : Nat}
theorem fn_starK {pv : Str} (lk : K.lookup f = some ⟨oc, od, .func (PySem.W.fnOf name qual params body scope dV kV doc pm an cdv ct), osl⟩) (hcd : PySem.W.codeIn K cdv qual = true) (S : FnScope N (ps ++ [pv]) scope) (hCX : StX.CXUp CX) (hps : n + ks.length = ps.length)
    (hb : ∀ us ws : List Value, us.length = n → ws.length = ks.length → bindArgs (PySem.W.fnOf name qual params body scope dV kV doc pm an cdv ct) ⟨us, ks.zip ws⟩ = (newTuple [] >>= fun t => pure (ps.zip (us ++ ws) ++ [(pv, t)])))
    (hbody : ∀ (A : Around) (outer : List Env) (s : Shared) (H : Hp) (vs : List V) (Q : VK) (E : XK), Room k (A.deeper (envOfC qual scope s.heap.objs.size f cdv)) → sp vs H Q E →
      ∃ t, PSs (cxOf CX P w K mg base N qual scope f cdv A outer s H E) body t ∧ t { nx := fun _ H' => Q .non H', rt := Q } (start N vs) H) :
    FnRK P w K mg base CX (k + 1) f n ks (fun vs H Q E => ∀ p, H p = Option.none → sp (vs ++ [V.ref p]) (upd H p (.tup [])) Q E) := by
  intro A outer s H us ws vs zs Q E hr e0 r rz l1 l2 hq
  have hn : H s.heap.objs.size = Option.none := e0.hok.fresh (Nat.le_refl _)
  have h1 : us.length = n := by rw [← r.length]; exact l1
  have h2 : ws.length = ks.length := by rw [← rz.length]; exact l2
  have rr : Vals (vs ++ zs) (us ++ ws) := r.append rz
  have hl1 : (us ++ ws).length = ps.length := by rw [List.length_append, h1, h2]; exact hps
  refine StX.run_bnd lk hcd S hr e0 (G := fun xs H2 => ∃ p, H p = Option.none ∧ xs = (vs ++ zs) ++ [V.ref p] ∧ H2 = upd H p (.tup [])) (fun A' Ex Q' h => ?_) fun s2 H2 xs ⟨p, hp, ex, eH⟩ hr' => ?_
  · rw [hb us ws h1 h2]
    refine wpAny_bind (wpAny_newTuple (wpAny_pure ?_) (Nat.zero_le _))
    have new : ObjOk P w (upd H s.heap.objs.size (.tup [])) (s.heap.push ({ cls := .type "tuple", data := .seq ([] : List Value).toArray } : Obj)) s.heap.objs.size (.tup []) := ⟨Nat.zero_le _, [], .nil, ⟨_, Heap.get?_push_size _ rfl, rfl, _, rfl⟩⟩
    have un := StX.un_laid (fs := frs outer) (s := s) (o := ({ cls := .type "tuple", data := .seq ([] : List Value).toArray } : Obj)) (u := .tup []) hn
    have z := h _ _ ((vs ++ zs) ++ [V.ref s.heap.objs.size]) ((us ++ ws) ++ [Value.ref s.heap.objs.size]) (StX.env0_laid e0 new) un rfl (fun e s' => hCX outer s H _ _ E e s' un (fun b o q => Heap.get?_push_of_some _ q) rfl) (rr.append (.cons rfl .nil))
      (by rw [List.length_append, rr.length, hl1, List.length_append] <;> rfl) ⟨_, hn, rfl, rfl⟩
    rw [List.zip_append hl1.symm] at z
    exact z
  · subst ex eH
    exact hbody A outer s2 _ _ Q E hr' (hq p hp)
end
def tMakeRK (C : Addr) (m : Nat) (sp : Sp) (E : XK) (tk : TA) : TE := fun σ H Q => tk σ H fun zs H2 => zs.length = m ∧ ∀ x dx, H2 x = none → H2 dx = none → dx ≠ x →
  sp (V.ref x :: zs) (upd (upd H2 dx (.own x)) x (.ins C dx [])) (fun v H3 => v = .non ∧ Q (.ref x) H3) E
section
variable {X : Cx} {CX : CXT} {k : Nat} {f C : Addr} {ks : List Str} {sp : Sp} {E : XK} {x : Str} {p pos : Pos} {kws : List Keyword} {tk : TA}
theorem run_makeRK {pins : List (Addr × Obj)} {σ : L2.St} {H : Hp} {s : Shared} {Q : VK} {ws : List Value} {zs : List V} (M : Mk X.K C f) (F : FnRK X.prog X.w X.K X.mg X.base CX k f 1 ks sp) (hr : Room (k + 1) X.A) (hx : Passes CX X E)
    (I : Inv X pins σ H s) (rz : Vals zs ws) (l2 : zs.length = ks.length)
    (h : ∀ x dx, H x = none → H dx = none → dx ≠ x → sp (V.ref x :: zs) (upd (upd H dx (.own x)) x (.ins C dx [])) (fun v H2 => v = .non ∧ Q (.ref x) H2) E) :
    wpAny (model X.prog X.w) X.A (call (.ref C) [] (ks.zip ws)) (EP X pins σ Q) X.xe s := by
  have hq := h (s.heap.objs.size + 1) s.heap.objs.size (I.hok.fresh (Nat.le_succ _)) (I.hok.fresh (Nat.le_refl _)) (Nat.ne_of_lt (Nat.lt_succ_self _))
  have I2 := Inv.made (C := C) I
  have r1 : Vals [V.ref (s.heap.objs.size + 1)] [Value.ref (s.heap.objs.size + 1)] := .cons rfl .nil
  refine wpAny_call (make_map (f := f) I.kIn M.makes M.init (beq_iff_eq.mp M.fn) (codeAny_mono (F _ X.stack _ _ [Value.ref (s.heap.objs.size + 1)] ws [V.ref (s.heap.objs.size + 1)] zs _ E (hr.make C [] (ks.zip ws))
    (I2.env0.make C [] (ks.zip ws)) r1 rz rfl l2 hq) fun r s' hq' => ?_))
  cases r with
  | error e => exact hx pins σ _ _ e s' I2 hq'
  | ok fl =>
    cases fl with
    | ret u =>
      obtain ⟨v, H', I3, rv, ev, q3⟩ := I2.after hq'
      subst ev
      exact ⟨rv, ⟨V.ref (s.heap.objs.size + 1), H', I3, rfl, q3⟩⟩
    | next => exact False.elim hq'
    | brk => exact False.elim hq'
    | cont => exact False.elim hq'
theorem pe_makeRK0 (M : Mk X.K C f) (F : FnRK X.prog X.w X.K X.mg X.base CX k f 1 ks sp) (hr : Room (k + 1) X.A) (hg : Gl X x) (hm : X.mg x = some (.ref C)) (hx : Passes CX X E) (hkw : PK X kws tk)
    (hall : (backToKw pos (keywordEach kws X.env)).all (·.1.isSome) = true := by rfl) (hks : (backToKw pos (keywordEach kws X.env)).filterMap (·.1) = ks := by rfl) (hdb : (x == ("__debug__" : Str)) = false := by decide)
    (hpl : ((backTo pos (starEach [] X.env)).any (·.1) || (backToKw pos (keywordEach kws X.env)).any (·.1.isNone)) = false := by rfl) :
    PE X (.Call (.Name x p) [] kws pos) (tMakeRK C ks.length sp E tk) := by
  refine ⟨fun pins s σ H Q I h => ?_⟩
  refine wpAny_Call_Name_kw (ld_glob I hg hm ?_ hdb)
  refine PySem.W.callWith_KW0 (h₀ := X.base) I.ok.mod.kin M.kp hall ?_ hpl
  refine thn (hkw.run pos pins s σ H _ I h) fun ws s2 ⟨zs, H2, I2, rz, l2, q2⟩ => ⟨I2.kIn, ?_⟩
  rw [hks]
  exact run_makeRK M F hr hx I2 rz l2 q2
end
/-! ### a tuple beside the empty one -/
def rEqT0 (K : PySem.W.Frag) : R2 := fun x y H Q => ∃ a b xs, x = .ref a ∧ y = .ref b ∧ SqT K H a xs ∧ SqT K H b [] ∧ Q (.bl (decide (xs = []))) H
theorem op_eqT0 {X : Cx} (hu : X.A.units + 64 < cLine) : OpR X (compareOp .Eq) (rEqT0 X.K) := by
  intro pins s σ H x y v u Q I rx ry h
  obtain ⟨a, b, xs, rfl, rfl, ha, hb, q⟩ := h
  cases rx
  cases ry
  obtain ⟨its, rv, pl, _⟩ := I.tuple ha
  obtain ⟨its2, rv2, pl2, _⟩ := I.tuple hb
  cases rv2
  have t1 : s.heap.IsTuple a its.toArray := pl
  have t2 : s.heap.IsTuple b #[] := pl2
  refine PySem.W.eq_tuplesT (e := fun _ => true) (n := 0) t1 t2 (fun j h1 h2 => absurd h2 (by simp)) (by omega) ?_
  have e : ((List.range (min its.toArray.size (#[] : Array Value).size)).all (fun _ => true) && its.toArray.size == (#[] : Array Value).size) = decide (xs = []) := by
    have hl := rv.length
    cases xs with
    | nil => cases rv; rfl
    | cons x xs =>
      cases its with
      | nil => simp at hl
      | cons i its => simp
  rw [e]
  exact ⟨.bl _, H, I, rfl, q⟩
theorem g_eqT0 {K : PySem.W.Frag} {H : Hp} {Q : VK} {a b : Addr} {xs : List V} (h : SqT K H a xs) (k : H b = some (.tup [])) (q : Q (.bl (decide (xs = []))) H) : rEqT0 K (.ref a) (.ref b) H Q := ⟨a, b, xs, rfl, rfl, h, SqT.of k, q⟩
/-! ### walks of a book -/
/-- numbers of bounds that go on from one another -/
def WOK (ls : List (Int × Int × Int)) (is : List Int) : Prop := is ≠ [] ∧ InR ls is ∧ ∀ j (h : j + 1 < is.length), (lineAt ls (is[j]'(by omega))).2.1 = (lineAt ls is[j + 1]).1
theorem stopsOf_snoc (ls : List (Int × Int × Int)) (is : List Int) (x : Int) : stopsOf ls (is ++ [x]) = stopsOf ls is ++ (if is = [] then [(lineAt ls x).1] else []) ++ [(lineAt ls x).2.1] := by
  cases is with
  | nil => simp [stopsOf]
  | cons i is => simp [stopsOf]
theorem stopsOf_take {ls : List (Int × Int × Int)} {is : List Int} {i : Nat} (h : i < is.length) : stopsOf ls (is.take (i + 1)) = stopsOf ls (is.take i) ++ (if i = 0 then [(lineAt ls is[i]).1] else []) ++ [(lineAt ls is[i]).2.1] := by
  have e : is.take (i + 1) = is.take i ++ [is[i]] := by rw [List.take_succ, List.getElem?_eq_getElem h]; rfl
  rw [e, stopsOf_snoc]
  by_cases z : i = 0
  · subst z; simp
  · have : is.take i ≠ [] := by
      intro q
      have := congrArg List.length q
      rw [List.length_take, List.length_nil] at this
      omega
    rw [if_neg z, if_neg this]
theorem stopsOf_len {ls : List (Int × Int × Int)} {is : List Int} (h : is ≠ []) : (stopsOf ls is).length = is.length + 1 := by
  cases is with
  | nil => exact absurd rfl h
  | cons i is => simp [stopsOf]
theorem stopsOf_last {ls : List (Int × Int × Int)} {is : List Int} {i : Nat} (h : i < is.length) : (stopsOf ls (is.take (i + 1)))[i + 1]? = some (lineAt ls is[i]).2.1 := by
  rw [stopsOf_take h]
  have e : (stopsOf ls (is.take i) ++ if i = 0 then [(lineAt ls is[i]).1] else []).length = i + 1 := by
    by_cases z : i = 0
    · subst z; simp [stopsOf]
    · have : is.take i ≠ [] := by
        intro q
        have := congrArg List.length q
        rw [List.length_take, List.length_nil] at this
        omega
      rw [List.length_append, stopsOf_len this, if_neg z, List.length_take]
      simp; omega
  rw [List.getElem?_append_right (by rw [e]; exact Nat.le_refl _), e]
  simp
/-- a walk of ints is seen as one -/
theorem walkF_go {ls : List (Int × Int × Int)} : ∀ (is : List Int) (n : Nat) (pl : Option Int), InR ls is → (∀ j (h : j + 1 < is.length), (lineAt ls (is[j]'(by omega))).2.1 = (lineAt ls is[j + 1]).1) → (∀ (h : 0 < is.length), pl = none ∨ pl = some (lineAt ls is[0]).1) → walkF ls (is.map Sh.int) n pl = none
  | [], _, _, _, _, _ => rfl
  | i :: is, n, pl, hin, hc, hp => by
    obtain ⟨i0, i1⟩ := hin i (List.mem_cons_self)
    rw [List.map_cons, walkF_int i0 i1]
    have z := hp (by simp)
    have e : ls[i.toNat].1 = (lineAt ls i).1 := by rw [lineAt_get i1]
    have e2 : ls[i.toNat].2.1 = (lineAt ls i).2.1 := by rw [lineAt_get i1]
    rw [if_neg (by
      rintro ⟨h1, h2⟩
      rcases z with z | z
      · rw [z] at h1; cases h1
      · exact h2 (by rw [z, e]; rfl))]
    refine walkF_go is (n + 1) _ (fun k hk => hin k (List.mem_cons_of_mem _ hk)) (fun j h => hc (j + 1) (by simpa using h)) fun h => Or.inr ?_
    rw [e2]
    exact congrArg some (hc 0 (by simpa using h))
theorem WOK.walk {ls : List (Int × Int × Int)} {is : List Int} (h : WOK ls is) : walkF ls (is.map Sh.int) 0 none = none := walkF_go is 0 none h.2.1 h.2.2 fun _ => Or.inl rfl
/-- what has no fault is a row of whole numbers -/
theorem walkF_none {ls : List (Int × Int × Int)} : ∀ (ss : List Sh) (n : Nat) (pl : Option Int), walkF ls ss n pl = none → ∃ is : List Int, ss = is.map Sh.int ∧ InR ls is ∧ (∀ j (h : j + 1 < is.length), (lineAt ls (is[j]'(by omega))).2.1 = (lineAt ls is[j + 1]).1) ∧ ∀ (h : 0 < is.length), pl = none ∨ pl = some (lineAt ls is[0]).1
  | [], _, _, _ => ⟨[], rfl, fun i hi => absurd hi (by simp), fun j h => absurd h (by simp), fun h => absurd h (by simp)⟩
  | s :: ss, n, pl, h => by
    cases hin : s.within 0 ((ls.length : Int) - 1) with
    | false => rw [walkF_out hin] at h; cases h
    | true =>
      obtain ⟨i, rfl⟩ : ∃ i, s = .int i := by
        cases s with
        | int i => exact ⟨i, rfl⟩
        | _ => cases hin
      have z : (decide (0 ≤ i) && decide (i ≤ (ls.length : Int) - 1)) = true := hin
      rw [Bool.and_eq_true, decide_eq_true_eq, decide_eq_true_eq] at z
      have i1 : i.toNat < ls.length := by omega
      rw [walkF_int z.1 i1] at h
      have e : ls[i.toNat].1 = (lineAt ls i).1 := by rw [lineAt_get i1]
      have e2 : ls[i.toNat].2.1 = (lineAt ls i).2.1 := by rw [lineAt_get i1]
      by_cases q : pl.isSome ∧ pl ≠ some ls[i.toNat].1
      · rw [if_pos q] at h; cases h
      · rw [if_neg q] at h
        obtain ⟨is, rfl, a1, a2, a3⟩ := walkF_none ss (n + 1) _ h
        refine ⟨i :: is, rfl, fun k hk => ?_, fun j hj => ?_, fun _ => ?_⟩
        · rcases List.mem_cons.mp hk with rfl | hk
          · exact ⟨z.1, i1⟩
          · exact a1 k hk
        · cases j with
          | zero =>
            have hj' : 0 < is.length := by simpa using hj
            rcases a3 hj' with w | w
            · cases w
            · rw [e2] at w
              exact Option.some.inj w
          | succ j => exact a2 j (by simpa using hj)
        · cases pl with
          | none => exact Or.inl rfl
          | some p =>
            right
            by_cases w : some p = some ls[i.toNat].1
            · rw [w, e]; rfl
            · exact absurd ⟨rfl, w⟩ q
theorem walkF_wok {ls : List (Int × Int × Int)} {ss : List Sh} (h : walkF ls ss 0 none = none) (hn : ss ≠ []) : ∃ is : List Int, ss = is.map Sh.int ∧ WOK ls is := by
  obtain ⟨is, rfl, a1, a2, _⟩ := walkF_none ss 0 none h
  exact ⟨is, rfl, fun e => hn (by rw [e]; rfl), a1, a2⟩
theorem anss_of_ints {K : PySem.W.Frag} {H : Hp} : ∀ {us : List V} {is : List Int}, AnSs K H us (is.map Sh.int) → us = is.map V.int
  | [], [], _ => rfl
  | [], _ :: _, h => by cases h
  | _ :: _, [], h => by cases h
  | u :: us, i :: is, h => by
    cases h with
    | cons a b =>
      cases a
      rw [anss_of_ints b]; rfl
theorem atI_neg1 {α : Type} {xs : List α} {n : Nat} {v : α} (hl : xs.length = n + 1) (h : xs[n]? = some v) : atI xs (-1) = some v := by
  have e : ixN xs.length (-1) = some n := by
    unfold ixN
    simp only [hl]
    split <;> first | (simp; omega) | (rename_i z; exact absurd z (by omega))
  unfold atI
  rw [e]
  exact h
/-! ### the law's own reading of walks -/
def spSumL : Sp := fun vs H Q _ => ∃ (v : V) (t : Addr) (b : Book) (is : List Int), vs = [v, .ref t] ∧ Fz H v b.d ∧ H t = some (.tup (is.map V.int)) ∧ InR b.lines is ∧ is.length ≤ 1000 ∧ ∀ H', (∀ b o, H b = some o → H' b = some o) → Q (.int (totalOf b.lines is)) H'
def spStopsL : Sp := fun vs H Q _ => ∃ (v : V) (t : Addr) (b : Book) (is : List Int), vs = [v, .ref t] ∧ Fz H v b.d ∧ H t = some (.tup (is.map V.int)) ∧ WOK b.lines is ∧ is.length ≤ 1000 ∧
  ∀ (p : Addr) (H' : Hp), H' p = some (.lst ((stopsOf b.lines is).map V.int)) → (∀ b o, H b = some o → H' b = some o) → Q (.ref p) H'
def dueOf (ls : List (Int × Int × Int)) (ss : List Sh) : List V := if ss = [] then [.non] else match walkF ls ss 0 none with
  | none => []
  | some n => [.int n]
def spDue (K : PySem.W.Frag) : Sp := fun vs H Q _ => ∃ (v : V) (t : Addr) (us : List V) (ss : List Sh) (b : Book), vs = [v, .ref t] ∧ Fz H v b.d ∧ SqT K H t us ∧ AnSs K H us ss ∧ us.length ≤ 1000 ∧
  ∀ (p : Addr) (H' : Hp), H' p = some (.lst (dueOf b.lines ss)) → (∀ b o, H b = some o → H' b = some o) → Q (.ref p) H'
end WL
set_option Elab.async false
set_option linter.all false
set_option maxRecDepth 100000
set_option maxHeartbeats 4000000
namespace WL
open PySem PySem.Spec PyProof.Rows L2
/-! ### the class Walk for its callers -/
/-- Walk(diary = ..): nothing is left over -/
def spWInitK (K : PySem.W.Frag) (DC WC IW : Addr) : Sp := fun vs H Q E => ∀ p, H p = Option.none → spWInitT K DC WC IW (vs ++ [V.ref p]) (upd H p (.tup [])) Q E
structure WkF (P : Program) (w : World) (K : PySem.W.Frag) (mg : Str → Option Value) (base : Heap) (DC WC IW : Addr) : Prop where
  at_ : mg "Walk" = some (.ref WC)
  obj : WkO K WC
  q : WkQ K DC WC
  make : ∃ f, Mk K WC f ∧ FnR P w K mg base (L2.CX P w) 5 f (spWInit K DC WC IW)
  makeK : ∃ f, Mk K WC f ∧ FnRK P w K mg base (L2.CX P w) 5 f 1 ["diary"] (spWInitK K DC WC IW)
  diary : PropE P w K mg base 1 WC "diary" (spGetF WC "_diary")
  numbers : PropE P w K mg base 1 WC "numbers" (spGetF WC "_numbers")
  stops : PropE P w K mg base 3 WC "stops" (spStops DC WC)
  total : PropE P w K mg base 3 WC "total" (spTotal DC WC)
  len : ∃ f fd, PySem.W.findIn K (.ref WC) "__len__" = some (some (.ref f)) ∧ PySem.W.isFn K (.ref f) = true ∧ Binds K fd ["self"] [] ∧ FnOk P w K mg base CX0 1 f fd ["self"] (spWLen DC WC)
  eq : ∃ g fd, PySem.W.findIn K (.ref WC) "__eq__" = some (some (.ref g)) ∧ PySem.W.isFn K (.ref g) = true ∧ Binds K fd ["self", "other"] [] ∧ FnOk P w K mg base CX0 3 g fd ["self", "other"] (spWEq K DC WC)
  ne : PySem.W.findIn K (.ref WC) "__ne__" = some (some (.builtin "object.__ne__"))
  ob : PySem.W.subIn K (.ref WC) (.type "object") = some true
  nf : ∀ s : Sh, PySem.W.notFirst K WC (.type s.ty) = true
  nfW : PySem.W.notFirst K WC (.ref WC) = true
  nfD : PySem.W.notFirst K WC (.ref DC) = true
  most : ∃ f fd, Meth K WC "most" f ∧ Binds K fd ["self"] [] ∧ FnOk P w K mg base CX0 5 f fd ["self"] (spTotal DC WC)
section
variable {X : Cx} {DC WC IW : Addr} {k : Nat} {e : Expr} {te : TE} {pos : Pos}
theorem pe_mkW (F : WkF X.prog X.w X.K X.mg X.base DC WC IW) (hr : Room k X.A) (hk : 6 ≤ k) {E : XK} (hx : Passes (L2.CX X.prog X.w) X E) {es : List Expr} {t : TA} {p : Pos} (ha : PA X (e :: es) t) (hg : Gl X "Walk" := by rfl)
    (h1 : starEach (e :: es) X.env = (false, eval e X.env) :: starEach es X.env := by rfl) (h2 : (backTo pos (starEach es X.env)).any (·.1) = false := by rfl) : PE X (.Call (.Name "Walk" p) (e :: es) [] pos) (StX.tMakeR WC (spWInit X.K DC WC IW) E t) := by
  obtain ⟨f, m, Fn⟩ := F.make
  exact StX.pe_makeR m Fn (hr.mono hk) hg F.at_ hx ha (by decide) h1 h2
end
/-- a walk made of these values -/
def spWalkL (K : PySem.W.Frag) (DC WC IW : Addr) : Sp := fun vs H Q E => ∃ (v : V) (t : Addr) (us : List V) (ss : List Sh) (c w : Int) (ns : List (Option Int)) (ls : List (Int × Int × Int)), vs = [v, .ref t] ∧ DiaAt DC H v c ns ls ∧ DOK c ns ls w ∧ ls.length ≤ 100 ∧ H t = some (.tup us) ∧ AnSs K H us ss ∧ (us.length ≤ 6 ∨ us.length = 9) ∧
  (us = [] → ∀ H' d, (∀ b o, H b = some o → H' b = some o) → H' d = none → E (.ref IW) (some d) (upd H' d (.xd [("spot", .non)]))) ∧
  (∀ n, us ≠ [] → walkF ls ss 0 none = some n → ∀ H' d, (∀ b o, H b = some o → H' b = some o) → H' d = none → E (.ref IW) (some d) (upd H' d (.xd [("spot", .int n)]))) ∧
  (∀ is : List Int, us = is.map V.int → WOK ls is → ∀ x H', H x = none → WkAt DC WC H' (.ref x) c ns ls is → (∀ b o, H b = some o → H' b = some o) → Q (.ref x) H')
theorem g_mkW {K : PySem.W.Frag} {DC WC IW : Addr} {H H1 : Hp} {Q : VK} {E : XK} {v : V} {us : List V} {ss : List Sh} {c w : Int} {ns : List (Option Int)} {ls : List (Int × Int × Int)} (s1 : ∀ b o, H b = some o → H1 b = some o) (hD : DiaAt DC H v c ns ls) (ok : DOK c ns ls w) (h60 : ls.length ≤ 100) (hss : AnSs K H us ss) (hl : us.length ≤ 1000)
    (q1 : us = [] → ∀ H' d, (∀ b o, H b = some o → H' b = some o) → H' d = none → E (.ref IW) (some d) (upd H' d (.xd [("spot", .non)])))
    (q2 : ∀ n, us ≠ [] → walkF ls ss 0 none = some n → ∀ H' d, (∀ b o, H b = some o → H' b = some o) → H' d = none → E (.ref IW) (some d) (upd H' d (.xd [("spot", .int n)])))
    (q3 : ∀ is : List Int, us = is.map V.int → WOK ls is → ∀ x H', H x = none → WkAt DC WC H' (.ref x) c ns ls is → (∀ b o, H b = some o → H' b = some o) → Q (.ref x) H') :
    ∀ (x dx : Addr), H1 x = none → H1 dx = none → dx ≠ x → spWInit K DC WC IW (V.ref x :: v :: us) (upd (upd H1 dx (.own x)) x (.ins WC dx [])) (fun v H2 => v = .non ∧ Q (.ref x) H2) E := by
  intro x dx nx ndx hne
  have s2 : ∀ b o, H b = some o → upd (upd H1 dx (.own x)) x (.ins WC dx []) b = some o := fun b o h => by
    have k := s1 _ _ h
    rw [upd_ne (ne_of_none k nx), upd_ne (ne_of_none k ndx)]
    exact k
  refine ⟨[.ref x, v], us, rfl, rfl, sz (by omega), fun p np => ?_⟩
  have s3 := same_up (o := .tup us) np s2
  have hx : x ≠ p := fun z => by rw [← z, upd_same] at np; cases np
  refine ⟨x, dx, p, v, us, ss, c, w, ns, ls, rfl, by rw [upd_ne hx, upd_same], hD.same s3, ok, h60, SqT.of upd_same, by omega, hss.same s3, fun e d nd => ?_, fun n hn hw H' d s4 nd => ?_, fun hn hw H' hx' s4 => ⟨rfl, ?_⟩⟩
  · exact q1 e _ d s3 nd
  · exact q2 n hn hw H' d (fun b o h => s4 _ _ (s3 _ _ h)) nd
  · have hsn : ss ≠ [] := by
      rintro rfl
      cases hss
      exact hn rfl
    obtain ⟨is, rfl, hwok⟩ := walkF_wok hw hsn
    have eu := anss_of_ints hss
    have s5 : ∀ b o, H b = some o → H' b = some o := fun b o h => s4 _ _ (fun z => by rw [z] at h; exact absurd (s1 _ _ h) (by rw [nx]; simp)) (s3 _ _ h)
    refine q3 is eu hwok x H' (none_up nx s1) ⟨x, dx, v, p, rfl, hx', hD.same s5, ?_⟩ s5
    rw [s4 p _ (fun z => hx z.symm) upd_same, eu]
theorem g_mkR {C : Addr} {sp : Sp} {E : XK} {t : TA} {σ : L2.St} {H : Hp} {Q : VK} (h : t σ H fun vs H1 => ∀ x dx, H1 x = Option.none → H1 dx = Option.none → dx ≠ x → sp (V.ref x :: vs) (upd (upd H1 dx (.own x)) x (.ins C dx [])) (fun v H2 => v = .non ∧ Q (.ref x) H2) E) : StX.tMakeR C sp E t σ H Q := h
theorem g_ifD {b : Bool} {A B : Prop} (h : b = true) (a : A) : if b = true then A else B := by rw [if_pos h]; exact a
theorem g_elD {b : Bool} {A B : Prop} (h : b = false) (a : B) : if b = true then A else B := by rw [if_neg (by rw [h]; decide)]; exact a
/-! ### a comprehension over enumerate of a tuple -/
theorem LcQ.enumT {K : PySem.W.Frag} {g : TG} {tt : TT} {te : TE} {vs : List Nat} {σ : L2.St} {Q : VK} {H1 : Hp} {a : Addr} {xs : List V} (I : Addr → Nat → Hp → Prop) (h0 : ∀ D, H1 D = none → I D 0 (upd H1 D (.lst [])))
    (hl : ∀ D, H1 D = none → ∀ i H, i ≤ xs.length → I D i H → SqT K H a xs)
    (hs : ∀ D, H1 D = none → ∀ (i : Nat) (x : V) (T : Addr) (H : Hp), xs[i]? = some x → I D i H → H T = none → g (.ref T) (wipe σ vs) (upd H T (.tup [.int (i : Nat), x])) fun σ2 H2 => wipe σ2 vs = wipe σ vs ∧ tt σ2 H2 fun b H3 => if b = true then te σ2 H3 fun y H4 => ∃ acc, H4 D = some (.lst acc) ∧ acc.length < sizeLine ∧ I D (i + 1) (upd H4 D (.lst (acc ++ [y]))) else I D (i + 1) H3)
    (hd : ∀ D, H1 D = none → ∀ H, I D xs.length H → Q (.ref D) H) : LcQ g tt te vs σ Q (IteT K a xs) H1 := by
  intro D nD
  refine ⟨fun i m H => m = xs.length - i ∧ i ≤ xs.length ∧ I D i H, ⟨xs.length, by simp, Nat.zero_le _, h0 D nD⟩, ?_⟩
  rintro i m H ⟨rfl, hi, p⟩
  have q := hl D nD i H hi p
  by_cases e : i = xs.length
  · subst e
    exact Or.inl ⟨⟨q, rfl⟩, hd D nD H p⟩
  · refine Or.inr ⟨⟨q, by omega⟩, I D (i + 1), fun H' h => ⟨xs.length - (i + 1), by omega, rfl, by omega, h⟩, ?_⟩
    rintro v H' ⟨T, x, rfl, hT, rfl, hx⟩
    exact hs D nD i x T H hx p hT
theorem eqv_nilInts (is : List Int) : (PyData.list (is.map PyData.int)).eqv (.list []) = decide (is = []) := by
  cases is with
  | nil => rfl
  | cons i is =>
    rw [show decide (i :: is = []) = false by simp]
    cases hb : (PyData.list ((i :: is).map PyData.int)).eqv (.list []) with
    | false => rfl
    | true =>
      have := (pl_eqv (pl_ints (i :: is)) pl_nilL).mp hb
      simp at this
/-! ### drawn walks -/
def Chain (ls : List (Int × Int × Int)) (is : List Int) : Prop := ∀ (j : Nat) (x y : Int), is[j]? = some x → is[j + 1]? = some y → (lineAt ls x).2.1 = (lineAt ls y).1
theorem Chain.snoc {ls : List (Int × Int × Int)} {is : List Int} {r : Int} (h : Chain ls is) (k : ∀ z, is.getLast? = some z → (lineAt ls z).2.1 = (lineAt ls r).1) : Chain ls (is ++ [r]) := by
  intro j x y hx hy
  rcases Nat.lt_or_ge (j + 1) is.length with q | q
  · rw [List.getElem?_append_left (by omega)] at hx
    rw [List.getElem?_append_left q] at hy
    exact h j x y hx hy
  · rcases Nat.lt_or_ge j is.length with z | z
    · rw [List.getElem?_append_left z] at hx
      rw [List.getElem?_append_right q, show j + 1 - is.length = 0 by omega] at hy
      have ey : r = y := by simpa using hy
      subst ey
      refine k x ?_
      rw [List.getLast?_eq_getElem?, show is.length - 1 = j by omega]
      exact hx
    · rw [List.getElem?_append_right (by omega)] at hy
      rw [show j + 1 - is.length = (j - is.length) + 1 by omega] at hy
      simp at hy
theorem Chain.wok {ls : List (Int × Int × Int)} {is : List Int} (h : Chain ls is) (hn : is ≠ []) (hi : InR ls is) : WOK ls is := ⟨hn, hi, fun j hj => h j _ _ (List.getElem?_eq_getElem (by omega)) (List.getElem?_eq_getElem hj)⟩
def spWalked : Sp := fun vs H Q _ => ∃ (m c g : Addr) (B size : Int) (v : V) (b : Book), vs = [.ref m, v, .int size] ∧ Pr m c g H H B ∧ B < 2 ^ 28 ∧ Fz H v b.d ∧ b.lines ≠ [] ∧ b.lines.length ≤ 100 ∧ (1 ≤ size ∧ size ≤ 100) ∧
  ∀ (t : Addr) (is : List Int) (H' : Hp), H t = none → Pr m c g H H' (B + size) → H' t = some (.tup (is.map V.int)) → WOK b.lines is → is.length ≤ size → Q (.ref t) H'
theorem pe_mkWK {X : Cx} {DC WC IW : Addr} {k : Nat} {pos p : Pos} (F : WkF X.prog X.w X.K X.mg X.base DC WC IW) (hr : Room k X.A) (hk : 6 ≤ k) {E : XK} (hx : Passes (L2.CX X.prog X.w) X E) {kws : List Keyword} {tk : TA} (hkw : PK X kws tk) (hg : Gl X "Walk" := by rfl)
    (hall : (backToKw pos (keywordEach kws X.env)).all (·.1.isSome) = true := by rfl) (hks : (backToKw pos (keywordEach kws X.env)).filterMap (·.1) = (["diary"] : List Str) := by rfl)
    (hpl : ((backTo pos (starEach [] X.env)).any (·.1) || (backToKw pos (keywordEach kws X.env)).any (·.1.isNone)) = false := by rfl) : PE X (.Call (.Name "Walk" p) [] kws pos) (tMakeRK WC 1 (spWInitK X.K DC WC IW) E tk) := by
  obtain ⟨f, m, Fn⟩ := F.makeK
  exact pe_makeRK0 m Fn (hr.mono hk) hg F.at_ hx hkw hall hks (by decide) hpl
theorem g_mkRK {C : Addr} {m : Nat} {sp : Sp} {E : XK} {t : TA} {σ : L2.St} {H : Hp} {Q : VK} (h : t σ H fun zs H2 => zs.length = m ∧ ∀ x dx, H2 x = none → H2 dx = none → dx ≠ x → sp (V.ref x :: zs) (upd (upd H2 dx (.own x)) x (.ins C dx [])) (fun v H3 => v = .non ∧ Q (.ref x) H3) E) : tMakeRK C m sp E t σ H Q := h
theorem g_mkWK {K : PySem.W.Frag} {DC WC IW : Addr} {H H1 : Hp} {Q : VK} {E : XK} {v : V} {c w : Int} {ns : List (Option Int)} {ls : List (Int × Int × Int)} (s1 : ∀ b o, H b = some o → H1 b = some o) (hD : DiaAt DC H v c ns ls) (ok : DOK c ns ls w) (h60 : ls.length ≤ 100)
    (q1 : ∀ H' d, (∀ b o, H b = some o → H' b = some o) → H' d = none → E (.ref IW) (some d) (upd H' d (.xd [("spot", .non)]))) :
    ∀ (x dx : Addr), H1 x = none → H1 dx = none → dx ≠ x → spWInitK K DC WC IW [V.ref x, v] (upd (upd H1 dx (.own x)) x (.ins WC dx [])) (fun v H2 => v = .non ∧ Q (.ref x) H2) E := by
  intro x dx nx ndx hne p np
  have s2 : ∀ b o, H b = some o → upd (upd H1 dx (.own x)) x (.ins WC dx []) b = some o := fun b o h => by
    have k := s1 _ _ h
    rw [upd_ne (ne_of_none k nx), upd_ne (ne_of_none k ndx)]
    exact k
  have s3 := same_up (o := .tup []) np s2
  have hx : x ≠ p := fun z => by rw [← z, upd_same] at np; cases np
  exact ⟨x, dx, p, v, [], [], c, w, ns, ls, rfl, by rw [upd_ne hx, upd_same], hD.same s3, ok, h60, SqT.of upd_same, Nat.zero_le _, .nil, fun _ d nd => q1 _ d s3 nd, fun n hn => absurd rfl hn, fun hn => absurd rfl hn⟩
end WL
set_option Elab.async false
set_option linter.all false
set_option maxRecDepth 100000
set_option maxHeartbeats 4000000
namespace WL
open PySem PySem.Spec PyProof.Rows L2
/-! ### what a walk is read as, and what it ought to be -/
def wD (ls : List (Int × Int × Int)) (is : List Int) : PyData := .list [.tuple (is.map .int), .tuple ((stopsOf ls is).map .int), .int (totalOf ls is), .int (totalOf ls is), .int is.length]
def WRow (H : Hp) (p : Addr) (ls : List (Int × Int × Int)) (is : List Int) : Prop := ∃ t u, H p = some (.lst [.ref t, .ref u, .int (totalOf ls is), .int (totalOf ls is), .int is.length]) ∧ H t = some (.tup (is.map V.int)) ∧ H u = some (.tup ((stopsOf ls is).map V.int))
theorem WRow.same {H H' : Hp} {p : Addr} {ls : List (Int × Int × Int)} {is : List Int} (k : ∀ b o, H b = some o → H' b = some o) (h : WRow H p ls is) : WRow H' p ls is := by
  obtain ⟨t, u, a, b, c⟩ := h
  exact ⟨t, u, k _ _ a, k _ _ b, k _ _ c⟩
theorem fzs_dqb {H : Hp} : ∀ is : List Int, DqBs H (is.map V.int) (is.map PyData.int)
  | [] => .nil
  | i :: is => .cons (.int i) (fzs_dqb is)
theorem WRow.dq {H : Hp} {p : Addr} {ls : List (Int × Int × Int)} {is : List Int} (h : WRow H p ls is) : DqB H (.ref p) (wD ls is) := by
  obtain ⟨t, u, a, b, c⟩ := h
  exact .lst a (.cons (.tup b (fzs_dqb is)) (.cons (.tup c (fzs_dqb _)) (.cons (.int _) (.cons (.int _) (.cons (.int _) .nil)))))
def spReadW (DC WC : Addr) : Sp := fun vs H Q _ => ∃ (v : V) (c : Int) (ns : List (Option Int)) (ls : List (Int × Int × Int)) (is : List Int), vs = [v] ∧ WkAt DC WC H v c ns ls is ∧ InR ls is ∧ is ≠ [] ∧ is.length ≤ 1000 ∧
  ∀ (p : Addr) (H' : Hp), H p = none → WRow H' p ls is → (∀ b o, H b = some o → H' b = some o) → Q (.ref p) H'
def spShownW : Sp := fun vs H Q _ => ∃ (v : V) (t : Addr) (b : Book) (is : List Int), vs = [v, .ref t] ∧ Fz H v b.d ∧ H t = some (.tup (is.map V.int)) ∧ WOK b.lines is ∧ is.length ≤ 1000 ∧
  ∀ (p : Addr) (H' : Hp), H p = none → WRow H' p b.lines is → (∀ b o, H b = some o → H' b = some o) → Q (.ref p) H'
section
variable {X : Cx} {DC WC IW : Addr} {k : Nat}
theorem call_lenW (F : WkF X.prog X.w X.K X.mg X.base DC WC IW) (hr : Room k X.A) (hk : 2 ≤ k) : CallR X (.builtin "len") (rLenOwn WC (spWLen DC WC)) := by
  obtain ⟨f, fd, h1, h2, h3, h4⟩ := F.len
  exact call_lenOwn h4 h3 (hr.mono hk) h1 h2
theorem op_wEq (F : WkF X.prog X.w X.K X.mg X.base DC WC IW) (hr : Room k X.A) (hk : 3 ≤ k) : OpR X (compareOp .Eq) (rOwnEq X.K WC (spWEq X.K DC WC) id) := by
  obtain ⟨f, fd, h1, h2, h3, h4⟩ := F.eq
  exact op_ownEq h4 h3 (hr.mono hk) h1 h2
theorem op_wNe (F : WkF X.prog X.w X.K X.mg X.base DC WC IW) (hr : Room k X.A) (hk : 4 ≤ k) : OpR X (compareOp .NotEq) (rOwnEq X.K WC (spWEq X.K DC WC) not) := by
  obtain ⟨f, fd, h1, h2, h3, h4⟩ := F.eq
  exact op_ownNe h4 h3 (hr.mono hk) h1 h2 F.ne F.ob
end
theorem g_lenW {K : PySem.W.Frag} {DC WC : Addr} {H : Hp} {Q : VK} {v : V} {c : Int} {ns : List (Option Int)} {ls : List (Int × Int × Int)} {is : List Int} (h : WkAt DC WC H v c ns ls is) (hl : is.length ≤ 1000) (q : Q (.int is.length) H) : rLenOwn WC (spWLen DC WC) [v] H Q := by
  obtain ⟨a, dx, dv, t, rfl, ha, hd, ht⟩ := h
  exact ⟨a, dx, _, rfl, ha, .ref a, c, ns, ls, is, rfl, ⟨a, dx, dv, t, rfl, ha, hd, ht⟩, _, rfl, ⟨by omega, by omega⟩, q⟩
end WL
set_option Elab.async false
set_option linter.all false
set_option maxRecDepth 100000
set_option maxHeartbeats 4000000
namespace WL
open PySem PySem.Spec PyProof.Rows L2
/-! ### any value in a heap without its tables -/
theorem SqL.noT {K : PySem.W.Frag} {H : Hp} {a : Addr} {xs : List V} (h : SqL K H a xs) : SqL K (noTab H) a xs := by
  rcases h with h | h
  · left
    rcases h with h | ⟨o, h⟩
    · exact Or.inl (noTab_at h (fun ps z => nomatch z))
    · exact Or.inr ⟨o, noTab_at h (fun ps z => nomatch z)⟩
  · exact Or.inr h
theorem SqT.noT {K : PySem.W.Frag} {H : Hp} {a : Addr} {xs : List V} (h : SqT K H a xs) : SqT K (noTab H) a xs := by
  rcases h with h | h
  · left
    rcases h with h | ⟨o, h⟩
    · exact Or.inl (noTab_at h (fun ps z => nomatch z))
    · exact Or.inr ⟨o, noTab_at h (fun ps z => nomatch z)⟩
  · exact Or.inr h
mutual
theorem AnS.noT {K : PySem.W.Frag} {H : Hp} : ∀ {v : V} {s : Sh}, AnS K H v s → AnS K (noTab H) v s
  | _, _, .non => .non
  | _, _, .bl b => .bl b
  | _, _, .int i => .int i
  | _, _, .str x => .str x
  | _, _, .lst h => .lst (SqL.noT h)
  | _, _, .dct h => .dct (noTab_at h (fun ps z => nomatch z))
  | _, _, .tup h q => .tup (SqT.noT h) q.noT
theorem AnSs.noT {K : PySem.W.Frag} {H : Hp} : ∀ {vs : List V} {ss : List Sh}, AnSs K H vs ss → AnSs K (noTab H) vs ss
  | _, _, .nil => .nil
  | _, _, .cons h q => .cons h.noT q.noT
end
theorem Fz.noT {H : Hp} {v : V} {d : PyData} (h : Fz H v d) : Fz (noTab H) v d := h.tk fun b xs h => noTab_at h (fun ps z => nomatch z)
theorem DiaAt.noT {DC : Addr} {H : Hp} {v : V} {c : Int} {ns : List (Option Int)} {ls : List (Int × Int × Int)} (h : DiaAt DC H v c ns ls) : DiaAt DC (noTab H) v c ns ls := by
  obtain ⟨a, dx, wv, bv, e, ha, hn, hl⟩ := h
  exact ⟨a, dx, wv, bv, e, noTab_at ha (fun ps z => nomatch z), hn.noT, hl.noT⟩
theorem noTab_tup {H : Hp} {a : Addr} {xs : List V} (h : H a = some (.tup xs)) : noTab H a = some (.tup xs) := noTab_at h (fun ps z => nomatch z)
theorem noTab_lst {H : Hp} {a : Addr} {xs : List V} (h : H a = some (.lst xs)) : noTab H a = some (.lst xs) := noTab_at h (fun ps z => nomatch z)
theorem AnSs.app {K : PySem.W.Frag} {H : Hp} : ∀ {a b : List V} {x y : List Sh}, AnSs K H a x → AnSs K H b y → AnSs K H (a ++ b) (x ++ y)
  | _, _, _, _, .nil, q => q
  | _, _, _, _, .cons h t, q => .cons h (t.app q)
theorem AnSs.take {K : PySem.W.Frag} {H : Hp} : ∀ {a : List V} {x : List Sh} (n : Nat), AnSs K H a x → AnSs K H (a.take n) (x.take n)
  | _, _, 0, _ => by simpa using AnSs.nil
  | _, _, n + 1, .nil => .nil
  | _, _, n + 1, .cons h t => .cons h (t.take n)
theorem AnSs.drop {K : PySem.W.Frag} {H : Hp} : ∀ {a : List V} {x : List Sh} (n : Nat), AnSs K H a x → AnSs K H (a.drop n) (x.drop n)
  | _, _, 0, h => by simpa using h
  | _, _, n + 1, .nil => .nil
  | _, _, n + 1, .cons h t => t.drop n
def spWrong (DC : Addr) (T : List (Addr × Str)) : Sp := fun vs H Q _ => ∃ (m c g : Addr) (B : Int) (v d : V) (t : Addr) (b : Book) (wd : Int) (is : List Int), vs = [.ref m, v, d, .ref t] ∧ Pr m c g H H B ∧ B < 2 ^ 27 ∧ Fz H v b.d ∧ DOK b.c b.notes b.lines wd ∧ b.lines.length ≤ 60 ∧ DiaAt DC H d b.c b.notes b.lines ∧ H t = some (.tup (is.map V.int)) ∧ is.length ≤ 6 ∧ LamX.Tabs T H ∧
  ∀ H', Pr m c g (noTab H) H' (B + 4) → LamX.Tabs T H' → Q (.bl true) H'
/-! ### calls that may raise, in a lambda -/
section
variable {X : Cx} {A : Around} {outer : List Env} {s : Shared} {H : Hp} {E : XK} {scope : Scope} {f c' : Addr}
theorem pe_hasEL {k j : Nat} {x : Str} {ps : List Str} {sp : Sp} {e : Expr} {es : List Expr} {t : TA} {p pos : Pos} (h : HasE X.prog X.w X.K X.mg X.base k x ps sp) (hr : Room j (LamX.lamCx X A outer s H E scope f c').A) (hk : k ≤ j) (ha : PA (LamX.lamCx X A outer s H E scope f c') (e :: es) t) (gl : Gl (LamX.lamCx X A outer s H E scope f c') x := by rfl) (hdb : (x == ("__debug__" : Str)) = false := by decide)
    (h1 : starEach (e :: es) (LamX.lamCx X A outer s H E scope f c').env = (false, eval e (LamX.lamCx X A outer s H E scope f c').env) :: starEach es (LamX.lamCx X A outer s H E scope f c').env := by rfl) (h2 : (backTo pos (starEach es (LamX.lamCx X A outer s H E scope f c').env)).any (·.1) = false := by rfl) : PE (LamX.lamCx X A outer s H E scope f c') (.Call (.Name x p) (e :: es) [] pos) (tCall sp [] E t) :=
  pe_hasE (X := LamX.lamCx X A outer s H E scope f c') (E := E) h hr hk (passLam (X := X)) ha gl hdb h1 h2
theorem pe_mkWKL {DC WC IW : Addr} {k : Nat} {pos p : Pos} (F : WkF X.prog X.w X.K X.mg X.base DC WC IW) (hr : Room k (LamX.lamCx X A outer s H E scope f c').A) (hk : 6 ≤ k) {kws : List Keyword} {tk : TA} (hkw : PK (LamX.lamCx X A outer s H E scope f c') kws tk) (hg : Gl (LamX.lamCx X A outer s H E scope f c') "Walk" := by rfl)
    (hall : (backToKw pos (keywordEach kws (LamX.lamCx X A outer s H E scope f c').env)).all (·.1.isSome) = true := by rfl) (hks : (backToKw pos (keywordEach kws (LamX.lamCx X A outer s H E scope f c').env)).filterMap (·.1) = (["diary"] : List Str) := by rfl)
    (hpl : ((backTo pos (starEach [] (LamX.lamCx X A outer s H E scope f c').env)).any (·.1) || (backToKw pos (keywordEach kws (LamX.lamCx X A outer s H E scope f c').env)).any (·.1.isNone)) = false := by rfl) : PE (LamX.lamCx X A outer s H E scope f c') (.Call (.Name "Walk" p) [] kws pos) (tMakeRK WC 1 (spWInitK X.K DC WC IW) E tk) :=
  pe_mkWK (X := LamX.lamCx X A outer s H E scope f c') (E := E) F hr hk (passLam (X := X)) hkw hg hall hks hpl
end
/-! ### what goes on over lambdas -/
theorem Pr.out {m c g : Addr} {H HA H' : Hp} {B : Int} (p : Pr m c g H HA B) (s : ∀ b o, noTab HA b = some o → H' b = some o) : Pr m c g (noTab H) H' B := by
  obtain ⟨n, h, d⟩ := p.dr
  exact ⟨⟨n, h, d.ext (noTab_out s)⟩, fun b o n1 n2 h => s b o (noTab_at (p.but b o n1 n2 (noTab_of h).1) (noTab_of h).2)⟩
theorem anss_ints_inv {K : PySem.W.Frag} {H : Hp} : ∀ {is : List Int} {ss : List Sh}, AnSs K H (is.map V.int) ss → ss = is.map Sh.int
  | [], _, .nil => rfl
  | i :: is, _, .cons a q => by
    cases a
    rw [anss_ints_inv q]; rfl
theorem due_cases (ls : List (Int × Int × Int)) (ss : List Sh) : dueOf ls ss = [] ∨ dueOf ls ss = [.non] ∨ ∃ n : Nat, dueOf ls ss = [.int n] := by
  unfold dueOf
  by_cases e : ss = []
  · rw [if_pos e]; exact Or.inr (Or.inl rfl)
  · rw [if_neg e]
    cases walkF ls ss 0 none with
    | none => exact Or.inl rfl
    | some n => exact Or.inr (Or.inr ⟨n, rfl⟩)
theorem due_ne {K : PySem.W.Frag} {H : Hp} {Q : VK} {p q : Addr} {ls : List (Int × Int × Int)} {ss : List Sh} (h1 : H p = some (.lst (dueOf ls ss))) (h2 : H q = some (.lst (dueOf ls ss))) (k : Q (.bl false) H) : rNeD K (.ref p) (.ref q) H Q := by
  rcases due_cases ls ss with e | e | ⟨n, e⟩
  · rw [e] at h1 h2
    refine g_neD (K := K) (d := .list []) (e := .list []) (.lst (SqL.of h1) .nil) (.lst (SqL.of h2) .nil) (by decide +kernel) (by decide +kernel) ?_
    exact k
  · rw [e] at h1 h2
    refine g_neD (K := K) (d := .list [.none]) (e := .list [.none]) (.lst (SqL.of h1) (.cons .non .nil)) (.lst (SqL.of h2) (.cons .non .nil)) (by decide +kernel) (by decide +kernel) ?_
    rw [show (PyData.list [.none]).eqv (.list [.none]) = true by decide +kernel]
    exact k
  · rw [e] at h1 h2
    have pln : pl 1 (.list [PyData.int n]) := pl_ints [(n : Int)]
    refine g_neD (K := K) (d := .list [.int n]) (e := .list [.int n]) (.lst (SqL.of h1) (.cons (.int _) .nil)) (.lst (SqL.of h2) (.cons (.int _) .nil)) (pl_shaped pln (by decide)) (pl_shaped pln (by decide)) ?_
    rw [(pl_eqv pln pln).mpr rfl]
    exact k
theorem due_nil (ls : List (Int × Int × Int)) : dueOf ls [] = [.non] := rfl
theorem SqT.pr {K : PySem.W.Frag} {m c g : Addr} {H0 H : Hp} {B B' : Int} (p : Pr m c g H0 H B) (q : Pr m c g H0 H0 B') {a : Addr} {xs : List V} (h : SqT K H0 a xs) : SqT K H a xs := by
  obtain ⟨_, _, d⟩ := q.dr
  obtain ⟨l, _, hg⟩ := d.great
  rcases h with h | h
  · left
    rcases h with h | ⟨o, h⟩
    · exact Or.inl (p.tk q _ _ h)
    · exact Or.inr ⟨o, p.but _ _ (fun z => by rw [z, d.dict] at h; cases h) (fun z => by rw [z, hg] at h; cases h) h⟩
  · exact Or.inr h
theorem SqL.pr {K : PySem.W.Frag} {m c g : Addr} {H0 H : Hp} {B B' : Int} (p : Pr m c g H0 H B) (q : Pr m c g H0 H0 B') {a : Addr} {xs : List V} (h : SqL K H0 a xs) : ∃ ys, SqL K H a ys := by
  obtain ⟨_, _, d⟩ := q.dr
  obtain ⟨l, _, hg⟩ := d.great
  obtain ⟨_, _, d2⟩ := p.dr
  obtain ⟨l2, _, hg2⟩ := d2.great
  by_cases z : a = g
  · rw [z]; exact ⟨_, SqL.of hg2⟩
  rcases h with h | h
  · rcases h with h | ⟨o, h⟩
    · exact ⟨xs, Or.inl (Or.inl (p.but _ _ (fun z => by rw [z, d.dict] at h; cases h) z h))⟩
    · exact ⟨xs, Or.inl (Or.inr ⟨o, p.but _ _ (fun z => by rw [z, d.dict] at h; cases h) z h⟩)⟩
  · exact ⟨xs, Or.inr h⟩
mutual
theorem AnS.pr {K : PySem.W.Frag} {m c g : Addr} {H0 H : Hp} {B B' : Int} (p : Pr m c g H0 H B) (q : Pr m c g H0 H0 B') : ∀ {v : V} {s : Sh}, AnS K H0 v s → AnS K H v s
  | _, _, .non => .non
  | _, _, .bl b => .bl b
  | _, _, .int i => .int i
  | _, _, .str x => .str x
  | _, _, .lst h => by
    obtain ⟨ys, k⟩ := SqL.pr p q h
    exact .lst k
  | _, _, .dct (a := a) h => by
    obtain ⟨_, _, d⟩ := q.dr
    obtain ⟨l, _, hg⟩ := d.great
    obtain ⟨_, _, d2⟩ := p.dr
    by_cases z : a = m
    · rw [z]; exact .dct d2.dict
    · exact .dct (p.but _ _ z (fun z => by rw [z, hg] at h; cases h) h)
  | _, _, .tup h t => .tup (SqT.pr p q h) (AnSs.pr p q t)
theorem AnSs.pr {K : PySem.W.Frag} {m c g : Addr} {H0 H : Hp} {B B' : Int} (p : Pr m c g H0 H B) (q : Pr m c g H0 H0 B') : ∀ {vs : List V} {ss : List Sh}, AnSs K H0 vs ss → AnSs K H vs ss
  | _, _, .nil => .nil
  | _, _, .cons h t => .cons (AnS.pr p q h) (AnSs.pr p q t)
end
end WL
set_option Elab.async false
set_option linter.all false
set_option maxRecDepth 100000
set_option maxHeartbeats 4000000
namespace WL
open PySem PySem.Spec PyProof.Rows L2
/-! ### walks beside other values -/
def OddWk (K : PySem.W.Frag) (DC WC : Addr) (H : Hp) (x : V) (c : Int) (ns : List (Option Int)) (ls : List (Int × Int × Int)) (is : List Int) : Prop := NoWk K DC H x ∨ ∃ c2 ns2 ls2 is2, WkAt DC WC H x c2 ns2 ls2 is2 ∧ ¬ (c = c2 ∧ ns = ns2 ∧ ls = ls2 ∧ is = is2)
theorem NoWk.same {K : PySem.W.Frag} {DC : Addr} {H H' : Hp} {x : V} (k : ∀ b o, H b = some o → H' b = some o) (h : NoWk K DC H x) : NoWk K DC H' x := by
  cases h with
  | an a b => exact .an (a.same k) (b.same k)
  | dia d => exact .dia (d.same k)
theorem OddWk.same {K : PySem.W.Frag} {DC WC : Addr} {H H' : Hp} {x : V} {c : Int} {ns : List (Option Int)} {ls : List (Int × Int × Int)} {is : List Int} (k : ∀ b o, H b = some o → H' b = some o) (h : OddWk K DC WC H x c ns ls is) : OddWk K DC WC H' x c ns ls is := by
  rcases h with h | ⟨c2, ns2, ls2, is2, a, b⟩
  · exact .inl (h.same k)
  · exact .inr ⟨c2, ns2, ls2, is2, a.same k, b⟩
section
variable {P : Program} {w : World} {K : PySem.W.Frag} {mg : Str → Option Value} {base : Heap} {DC WC IW IE : Addr} {H : Hp} {Q : VK} {f : Bool → Bool} {v : V} {c : Int} {ns : List (Option Int)} {ls : List (Int × Int × Int)} {is : List Int}
theorem g_wEqW (W : WkF P w K mg base DC WC IW) {y : V} {c2 : Int} {ns2 : List (Option Int)} {ls2 : List (Int × Int × Int)} {is2 : List Int} (d : WkAt DC WC H v c ns ls is) (e : WkAt DC WC H y c2 ns2 ls2 is2) (q : ∀ r : Bool, (r = true ↔ (c = c2 ∧ ns = ns2 ∧ ls = ls2 ∧ is = is2)) → Q (.bl (f r)) H) : rOwnEq K WC (spWEq K DC WC) f v y H Q := by
  have d' := d
  have e' := e
  obtain ⟨a, dx, dv, t, rfl, ha, _, _⟩ := d
  obtain ⟨a2, dx2, dv2, t2, rfl, ha2, _, _⟩ := e
  exact ⟨a, dx, _, .ref WC, rfl, ha, Or.inr (Or.inr (Or.inr ⟨WC, dx2, _, rfl, ha2⟩)), W.nfW, .ref a, .ref a2, c, ns, ls, is, rfl, d', .inl ⟨c2, ns2, ls2, is2, e', fun r hr => ⟨r, rfl, q r hr⟩⟩⟩
theorem g_wEqO (W : WkF P w K mg base DC WC IW) {y : V} (d : WkAt DC WC H v c ns ls is) (e : OddWk K DC WC H y c ns ls is) (q : Q (.bl (f false)) H) : rOwnEq K WC (spWEq K DC WC) f v y H Q := by
  rcases e with e | ⟨c2, ns2, ls2, is2, e, hne⟩
  · have d' := d
    have e' := e
    obtain ⟨a, dx, dv, t, rfl, ha, _, _⟩ := d
    cases e with
    | an h1 h2 =>
      obtain ⟨s, h3, h4⟩ := h2.ex
      exact ⟨a, dx, _, _, rfl, ha, h4, W.nf s, .ref a, y, c, ns, ls, is, rfl, d', .inr ⟨e', false, rfl, q⟩⟩
    | dia h =>
      obtain ⟨a2, dx2, wv, bv, rfl, ha2, _, _⟩ := h
      exact ⟨a, dx, _, .ref DC, rfl, ha, Or.inr (Or.inr (Or.inr ⟨DC, dx2, _, rfl, ha2⟩)), W.nfD, .ref a, .ref a2, c, ns, ls, is, rfl, d', .inr ⟨e', false, rfl, q⟩⟩
  · refine g_wEqW W d e fun r hr => ?_
    cases r with
    | false => exact q
    | true => exact absurd (hr.mp rfl) hne
theorem walkL_ok {E : XK} {t : Addr} {wd : Int} (hD : DiaAt DC H v c ns ls) (ok : DOK c ns ls wd) (h100 : ls.length ≤ 100) (ht : H t = some (.tup (is.map V.int))) (hw : WOK ls is) (hl : is.length ≤ 6 ∨ is.length = 9)
    (q : ∀ x H', H x = none → WkAt DC WC H' (.ref x) c ns ls is → (∀ b o, H b = some o → H' b = some o) → Q (.ref x) H') : spWalkL K DC WC IW [v, .ref t] H Q E := by
  refine ⟨v, t, is.map V.int, is.map Sh.int, c, wd, ns, ls, rfl, hD, ok, h100, ht, anss_ints is, by rw [List.length_map]; exact hl, fun e => absurd (List.map_eq_nil_iff.mp e) hw.1, fun n _ h => ?_, fun is' e hw' x H' nx hW s => ?_⟩
  · rw [hw.walk] at h; cases h
  · have inj : ∀ {a b : List Int}, a.map V.int = b.map V.int → a = b := by
      intro a
      induction a with
      | nil => intro b h; cases b with
        | nil => rfl
        | cons _ _ => simp at h
      | cons i a ih => intro b h; cases b with
        | nil => simp at h
        | cons j b =>
          simp only [List.map_cons, List.cons.injEq, V.int.injEq] at h
          rw [h.1, ih h.2]
    have := inj e
    subst this
    exact q x H' nx hW s
end
/-- the list of what is not equal, as it grows -/
def OthA (K : PySem.W.Frag) (DC WC : Addr) (c : Int) (ns : List (Option Int)) (ls : List (Int × Int × Int)) (is : List Int) (H H' : Hp) (L : Addr) (n : Nat) : Prop := ∃ (G : Hp) (rows : List V), (∀ b o, H b = some o → G b = some o) ∧ (∀ b o, G b = some o → H' b = some o) ∧ G L = none ∧ H' L = some (.lst rows) ∧ rows.length ≤ n ∧ ∀ r ∈ rows, OddWk K DC WC G r c ns ls is
theorem OthA.old {K : PySem.W.Frag} {DC WC : Addr} {c : Int} {ns : List (Option Int)} {ls : List (Int × Int × Int)} {is : List Int} {H H' : Hp} {L : Addr} {n : Nat} (h : OthA K DC WC c ns ls is H H' L n) : ∀ b o, H b = some o → H' b = some o := by
  obtain ⟨G, rows, a, b, _⟩ := h
  exact fun x o e => b _ _ (a _ _ e)
theorem OthA.up {K : PySem.W.Frag} {DC WC : Addr} {c : Int} {ns : List (Option Int)} {ls : List (Int × Int × Int)} {is : List Int} {H H' H2 : Hp} {L : Addr} {n : Nat} (h : OthA K DC WC c ns ls is H H' L n) (s : ∀ b o, H' b = some o → H2 b = some o) : OthA K DC WC c ns ls is H H2 L n := by
  obtain ⟨G, rows, a, b, e, f, g⟩ := h
  exact ⟨G, rows, a, fun x o h => s _ _ (b _ _ h), e, s _ _ f, g⟩
theorem OthA.app {K : PySem.W.Frag} {DC WC : Addr} {c : Int} {ns : List (Option Int)} {ls : List (Int × Int × Int)} {is : List Int} {H H' : Hp} {L : Addr} {n : Nat} {x : V} {c2 : Int} {ns2 : List (Option Int)} {ls2 : List (Int × Int × Int)} {is2 : List Int} {Q : VK} (h : OthA K DC WC c ns ls is H H' L n) (hn : n ≤ 1000) (hx : WkAt DC WC H' x c2 ns2 ls2 is2) (hne : ¬ (c = c2 ∧ ns = ns2 ∧ ls = ls2 ∧ is = is2))
    (q : ∀ H2, OthA K DC WC c ns ls is H H2 L (n + 1) → Q .non H2) : rAppend (.ref L) [x] H' Q := by
  obtain ⟨G, rows, a, b, e, f, g, k⟩ := h
  refine g_app f (szl (by omega)) (q _ ?_)
  refine ⟨fun y => if y = L then none else H' y, rows ++ [x], fun y o h => ?_, fun y o h => ?_, by simp, upd_same, by simp; omega, fun r hr => ?_⟩
  · have : y ≠ L := fun z => by rw [z] at h; exact absurd (a _ _ h) (by rw [e]; simp)
    simp only [this, if_false]
    exact b _ _ (a _ _ h)
  · have h : (if y = L then none else H' y) = some o := h
    by_cases z : y = L
    · rw [if_pos z] at h; cases h
    · rw [if_neg z] at h
      rw [upd_ne z]; exact h
  · rcases List.mem_append.mp hr with h | h
    · refine (k r h).same fun y o h => ?_
      have : y ≠ L := fun z => by rw [z, e] at h; cases h
      simp only [this, if_false]
      exact b _ _ h
    · have er : r = x := by simpa using h
      subst er
      refine .inr ⟨c2, ns2, ls2, is2, hx.keep (fun y ys h => ?_) (fun y C dx fs h => ?_), hne⟩
      · have : y ≠ L := fun z => by rw [z, f] at h; cases h
        simp only [this, if_false]; exact h
      · have : y ≠ L := fun z => by rw [z, f] at h; cases h
        simp only [this, if_false]; exact h
theorem cut_neg1 (xs : List V) (h : xs ≠ []) : cutV xs none (some (-1)) = xs.take (xs.length - 1) := by
  unfold cutV HT.sIx
  simp only [Nat.sub_zero, List.drop_zero]
  rw [if_pos (by decide)]
  congr 1
  have := List.length_pos_iff.mpr h
  omega
def spEqualW (DC WC : Addr) : Sp := fun vs H Q _ => ∃ (v d o : V) (t : Addr) (b : Book) (wd : Int) (is : List Int), vs = [v, d, .ref t, o] ∧ Fz H v b.d ∧ DOK b.c b.notes b.lines wd ∧ (0 ≤ wd ∧ wd ≤ 1000000000) ∧ b.lines.length ≤ 60 ∧ DiaAt DC H d b.c b.notes b.lines ∧ H t = some (.tup (is.map V.int)) ∧ WOK b.lines is ∧ is.length ≤ 6 ∧ WkAt DC WC H o b.c b.notes b.lines is ∧
  ∀ H', (∀ b o, H b = some o → H' b = some o) → Q (.bl true) H'
theorem OthA.le {K : PySem.W.Frag} {DC WC : Addr} {c : Int} {ns : List (Option Int)} {ls : List (Int × Int × Int)} {is : List Int} {H H' : Hp} {L : Addr} {n n' : Nat} (h : OthA K DC WC c ns ls is H H' L n) (k : n ≤ n') : OthA K DC WC c ns ls is H H' L n' := by
  obtain ⟨G, rows, a, b, e, f, g, z⟩ := h
  exact ⟨G, rows, a, b, e, f, by omega, z⟩
theorem OthA.at_ {K : PySem.W.Frag} {DC WC : Addr} {c : Int} {ns : List (Option Int)} {ls : List (Int × Int × Int)} {is : List Int} {H H' : Hp} {L : Addr} {n : Nat} (h : OthA K DC WC c ns ls is H H' L n) : ∃ rows, H' L = some (.lst rows) := by
  obtain ⟨G, rows, a, b, e, f, g, z⟩ := h
  exact ⟨rows, f⟩
theorem lineAt_app {ls l2 : List (Int × Int × Int)} {i : Int} (h : i.toNat < ls.length) : lineAt (ls ++ l2) i = lineAt ls i := by
  rw [lineAt_get h, lineAt_get (by rw [List.length_append]; omega), List.getElem_append_left h]
theorem WOK.app {ls l2 : List (Int × Int × Int)} {is : List Int} (h : WOK ls is) : WOK (ls ++ l2) is := by
  obtain ⟨a, b, c⟩ := h
  refine ⟨a, fun i hi => ⟨(b i hi).1, by rw [List.length_append]; have := (b i hi).2; omega⟩, fun j hj => ?_⟩
  rw [lineAt_app (b _ (List.getElem_mem _)).2, lineAt_app (b _ (List.getElem_mem _)).2]
  exact c j hj
theorem WOK.tail {ls : List (Int × Int × Int)} {i : Int} {is : List Int} (h : WOK ls (i :: is)) (hn : is ≠ []) : WOK ls is := by
  obtain ⟨a, b, c⟩ := h
  exact ⟨hn, fun j hj => b j (List.mem_cons_of_mem _ hj), fun j hj => c (j + 1) (by simpa using hj)⟩
theorem WOK.take {ls : List (Int × Int × Int)} {is : List Int} {n : Nat} (h : WOK ls is) (hn : 0 < n) : WOK ls (is.take n) := by
  obtain ⟨a, b, c⟩ := h
  have hp := List.length_pos_iff.mpr a
  refine ⟨fun e => ?_, fun j hj => b j (List.mem_of_mem_take hj), fun j hj => ?_⟩
  · have := congrArg List.length e
    rw [List.length_take, List.length_nil] at this
    omega
  · rw [List.length_take] at hj
    rw [List.getElem_take, List.getElem_take]
    exact c j (by omega)
theorem WOK.head {ls : List (Int × Int × Int)} {i j : Int} {is : List Int} (h : WOK ls (i :: is)) (hj : 0 ≤ j ∧ j.toNat < ls.length) (e : lineAt ls j = lineAt ls i) : WOK ls (j :: is) := by
  obtain ⟨a, b, c⟩ := h
  refine ⟨by simp, fun k hk => ?_, fun k hk => ?_⟩
  · rcases List.mem_cons.mp hk with rfl | hk
    · exact hj
    · exact b k (List.mem_cons_of_mem _ hk)
  · cases k with
    | zero =>
      have := c 0 (by simpa using hk)
      show (lineAt ls j).2.1 = _
      rw [e]
      exact this
    | succ k => exact c (k + 1) hk
theorem g_methR {C : Addr} {m : Str} {sp : Sp} {E : XK} {ta : TE} {t : TA} {σ : L2.St} {H : Hp} {Q : VK} (h : ta σ H fun x H1 => ∃ a dx fs, x = .ref a ∧ H1 a = some (.ins C dx fs) ∧ fs.lookup m = none ∧ t σ H1 fun vs H2 => sp (x :: vs) H2 Q E) : tMethR C m sp E ta t σ H Q := h
theorem OthA.cat {K : PySem.W.Frag} {DC WC : Addr} {c : Int} {ns : List (Option Int)} {ls : List (Int × Int × Int)} {is : List Int} {H H' : Hp} {L Lb : Addr} {n : Nat} {x y : V} {Q : VK} (h : OthA K DC WC c ns ls is H H' L n) (hn : n ≤ 1000) (hb : H' Lb = some (.lst [x, y])) (hx : OddWk K DC WC H' x c ns ls is) (hy : OddWk K DC WC H' y c ns ls is)
    (q : ∀ p H2, OthA K DC WC c ns ls is H H2 p (n + 2) → Q (.ref p) H2) : rCat (.ref L) (.ref Lb) H' Q := by
  obtain ⟨G, rows, a, b, e, f, g, k⟩ := h
  refine ⟨L, Lb, rows, [x, y], rfl, rfl, f, hb, Nat.le_trans (show rows.length + [x, y].length ≤ 2000 by simp; omega) (by decide), fun p np => q p _ ⟨H', rows ++ [x, y], fun z o h => b _ _ (a _ _ h), same_up np fun _ _ h => h, np, upd_same, by simp; omega, fun r hr => ?_⟩⟩
  rcases List.mem_append.mp hr with h | h
  · exact (k r h).same b
  · simp only [List.mem_cons, List.not_mem_nil, or_false] at h
    rcases h with rfl | rfl
    · exact hx
    · exact hy
end WL
set_option Elab.async false
set_option linter.all false
set_option maxRecDepth 100000
set_option maxHeartbeats 4000000
namespace WL
open PySem PySem.Spec PyProof.Rows L2
/-! ### what a walk is read as can be shown -/
theorem line_in {c w : Int} {ns : List (Option Int)} {ls : List (Int × Int × Int)} (h : DOK c ns ls w) {i : Int} (hi : i.toNat < ls.length) : (0 ≤ (lineAt ls i).1 ∧ (lineAt ls i).1 < 16) ∧ (0 ≤ (lineAt ls i).2.1 ∧ (lineAt ls i).2.1 < 16) ∧ -w ≤ (lineAt ls i).2.2 ∧ (lineAt ls i).2.2 ≤ w := by
  rw [lineAt_get hi]
  obtain ⟨⟨a, b⟩, ⟨c, d⟩, e, f⟩ := h.line _ (List.getElem_mem hi)
  have := h.n16
  exact ⟨⟨a, by omega⟩, ⟨c, by omega⟩, e, f⟩
theorem total_in {c w : Int} {ns : List (Option Int)} {ls : List (Int × Int × Int)} (h : DOK c ns ls w) (hw : 0 ≤ w) : ∀ {is : List Int}, InR ls is → -(is.length * w) ≤ totalOf ls is ∧ totalOf ls is ≤ is.length * w
  | [], _ => by simp [totalOf]
  | i :: is, hi => by
    have ih := total_in h hw (is := is) fun j hj => hi j (List.mem_cons_of_mem _ hj)
    obtain ⟨_, _, e, f⟩ := line_in h (hi i (List.mem_cons_self)).2
    have et : totalOf ls (i :: is) = (lineAt ls i).2.2 + totalOf ls is := by simp [totalOf]
    have el : (((i :: is).length : Nat) : Int) * w = is.length * w + w := by
      rw [List.length_cons]; push_cast; rw [Int.add_mul, Int.one_mul]
    rw [et, el]
    omega
theorem sm_wD {c w : Int} {ns : List (Option Int)} {ls : List (Int × Int × Int)} {is : List Int} (h : DOK c ns ls w) (hw : 0 ≤ w ∧ w ≤ 1000000000) (hl : ls.length ≤ 1000) (hi : InR ls is) (hn : is.length ≤ 100) : Sm (wD ls is) := by
  have ht := total_in h hw.1 hi
  have hb : (is.length : Int) * w ≤ 100 * 1000000000 := Int.mul_le_mul (by omega) hw.2 hw.1 (by decide)
  refine sm_lst fun d hd => ?_
  simp only [List.mem_cons, List.not_mem_nil, or_false] at hd
  rcases hd with rfl | rfl | rfl | rfl | rfl
  · refine sm_tup fun d hd => ?_
    obtain ⟨i, hi', rfl⟩ := List.mem_map.mp hd
    obtain ⟨a, b⟩ := hi i hi'
    exact sm_int ⟨by omega, by omega⟩
  · refine sm_tup fun d hd => ?_
    obtain ⟨x, hx, rfl⟩ := List.mem_map.mp hd
    unfold stopsOf at hx
    rcases List.mem_append.mp hx with hx | hx
    · obtain ⟨i, hi', rfl⟩ := List.mem_map.mp hx
      have := (line_in h (hi i (List.mem_of_mem_take hi')).2).1
      exact sm_int ⟨by omega, by omega⟩
    · obtain ⟨i, hi', rfl⟩ := List.mem_map.mp hx
      have := (line_in h (hi i hi').2).2.1
      exact sm_int ⟨by omega, by omega⟩
  · exact sm_int ⟨by omega, by omega⟩
  · exact sm_int ⟨by omega, by omega⟩
  · exact sm_int ⟨by omega, by omega⟩
theorem bulk_intsA : ∀ l : List Int, PyData.bulkAll (l.map PyData.int) = l.length
  | [] => rfl
  | i :: l => by
    rw [List.map_cons, PyData.bulkAll.eq_2, bulk_intsA l]
    simp only [PyData.bulk.eq_7, List.length_cons]
    omega
theorem pl_wD (ls : List (Int × Int × Int)) (is : List Int) : pl 2 (wD ls is) := by
  intro d hd
  simp only [List.mem_cons, List.not_mem_nil, or_false] at hd
  rcases hd with rfl | rfl | rfl | rfl | rfl
  · exact pl_intsT is
  · exact pl_intsT _
  · simp [pl]
  · simp [pl]
  · simp [pl]
theorem bulk_wD (ls : List (Int × Int × Int)) (is : List Int) : (wD ls is).bulk = 5 + is.length + (stopsOf ls is).length := by
  show (PyData.list _).bulk = _
  rw [PyData.bulk.eq_2]
  simp only [PyData.bulkAll.eq_2, PyData.bulkAll.eq_1, PyData.bulk.eq_7, PyData.bulk.eq_3, bulk_intsA]
  omega
theorem stops_len (ls : List (Int × Int × Int)) (is : List Int) : (stopsOf ls is).length ≤ is.length + 1 := by
  unfold stopsOf
  rw [List.length_append, List.length_map, List.length_map, List.length_take]
  omega
theorem show_wD {c w : Int} {ns : List (Option Int)} {ls : List (Int × Int × Int)} {is : List Int} (h : DOK c ns ls w) (hw : 0 ≤ w ∧ w ≤ 1000000000) (hl : ls.length ≤ 1000) (hi : InR ls is) (hn : is.length ≤ 100) : (wD ls is).showable = true ∧ (wD ls is).shown.length ≤ sizeLine ∧ (wD ls is).depth ≤ 50 :=
  ⟨(sm_wD h hw hl hi hn).show_, sm_fits (sm_wD h hw hl hi hn) (by rw [bulk_wD]; have := stops_len ls is; omega), Nat.le_trans (pl_lay (pl_wD ls is)).2 (by decide)⟩
theorem show_wD2 {c w : Int} {ns : List (Option Int)} {ls : List (Int × Int × Int)} {is : List Int} (h : DOK c ns ls w) (hw : 0 ≤ w ∧ w ≤ 1000000000) (hl : ls.length ≤ 1000) (hi : InR ls is) (hn : is.length ≤ 100) : (PyData.list [wD ls is, wD ls is]).showable = true ∧ (PyData.list [wD ls is, wD ls is]).shown.length ≤ sizeLine ∧ (PyData.list [wD ls is, wD ls is]).depth ≤ 50 := by
  have s : Sm (.list [wD ls is, wD ls is]) := sm_lst fun d hd => by
    simp only [List.mem_cons, List.not_mem_nil, or_false] at hd
    rcases hd with rfl | rfl <;> exact sm_wD h hw hl hi hn
  have p : pl 3 (.list [wD ls is, wD ls is]) := by
    intro d hd
    simp only [List.mem_cons, List.not_mem_nil, or_false] at hd
    rcases hd with rfl | rfl <;> exact pl_wD ls is
  refine ⟨s.show_, sm_fits s ?_, Nat.le_trans (pl_lay p).2 (by decide)⟩
  rw [PyData.bulk.eq_2]
  simp only [PyData.bulkAll.eq_2, PyData.bulkAll.eq_1, bulk_wD, List.length_cons, List.length_nil]
  have := stops_len ls is
  omega
end WL
set_option Elab.async false
set_option linter.all false
set_option maxRecDepth 100000
set_option maxHeartbeats 4000000
namespace WL
open PySem PySem.Spec PyProof.Rows L2
/-! ### all but the drawn state and the tables stays -/
def Sb (m g : Addr) (H H2 : Hp) : Prop := ∀ b o, b ≠ m → b ≠ g → (∀ ps, o ≠ .tbl ps) → H b = some o → H2 b = some o
theorem Sb.refl {m g : Addr} {H : Hp} : Sb m g H H := fun b o _ _ _ h => h
theorem Sb.trans {m g : Addr} {H H1 H2 : Hp} (a : Sb m g H H1) (b : Sb m g H1 H2) : Sb m g H H2 := fun x o n1 n2 t h => b x o n1 n2 t (a x o n1 n2 t h)
theorem Sb.of {m g : Addr} {H H1 : Hp} (s : ∀ b o, H b = some o → H1 b = some o) : Sb m g H H1 := fun b o _ _ _ h => s b o h
theorem Sb.pr {m c g : Addr} {H H1 : Hp} {B : Int} (p : Pr m c g H H1 B) : Sb m g H H1 := fun b o n1 n2 _ h => p.but b o n1 n2 h
theorem Sb.out {m c g : Addr} {H H1 : Hp} {B : Int} (p : Pr m c g (noTab H) H1 B) : Sb m g H H1 := fun b o n1 n2 t h => p.but b o n1 n2 (noTab_at h t)
theorem Sb.tk {m c g : Addr} {H H1 : Hp} {n : Int} (s : Sb m g H H1) (d : Dr H m c g n) : Tk H H1 := fun b xs h => by
  obtain ⟨l, _, hg⟩ := d.great
  exact s b _ (fun z => by rw [z, d.dict] at h; cases h) (fun z => by rw [z, hg] at h; cases h) (fun ps z => nomatch z) h
theorem Sb.ik {m c g : Addr} {H H1 : Hp} {n : Int} (s : Sb m g H H1) (d : Dr H m c g n) : Ik H H1 := fun b C dx fs h => by
  obtain ⟨l, _, hg⟩ := d.great
  exact s b _ (fun z => by rw [z, d.dict] at h; cases h) (fun z => by rw [z, hg] at h; cases h) (fun ps z => nomatch z) h
/-- a walk and what it is to be read as, in a tuple -/
def Kp (DC WC : Addr) (G : Hp) (x : V) : Prop := ∃ (p sh : Addr) (one : V) (c wd : Int) (ns : List (Option Int)) (ls : List (Int × Int × Int)) (is : List Int), x = .ref p ∧ G p = some (.tup [one, .ref sh]) ∧ WkAt DC WC G one c ns ls is ∧ WRow G sh ls is ∧ DOK c ns ls wd ∧ (0 ≤ wd ∧ wd ≤ 1000000000) ∧ ls.length ≤ 60 ∧ WOK ls is ∧ is.length ≤ 6
theorem Kp.same {DC WC : Addr} {G G' : Hp} {x : V} (k : ∀ b o, G b = some o → G' b = some o) (h : Kp DC WC G x) : Kp DC WC G' x := by
  obtain ⟨p, sh, one, c, wd, ns, ls, is, a, b, d, e, f⟩ := h
  exact ⟨p, sh, one, c, wd, ns, ls, is, a, k _ _ b, d.same k, e.same k, f⟩
def KeptA (DC WC m c g L : Addr) (H' : Hp) (n : Nat) : Prop := ∃ (G : Hp) (items : List V), (∀ b o, G b = some o → H' b = some o ∧ (∀ ps, o ≠ .tbl ps) ∧ b ≠ m ∧ b ≠ g ∧ b ≠ L) ∧ (L ≠ m ∧ L ≠ c ∧ L ≠ g) ∧ H' L = some (.lst items) ∧ items.length ≤ n ∧ ∀ x ∈ items, Kp DC WC G x
theorem KeptA.step {DC WC m c g L : Addr} {H' H2 : Hp} {n : Nat} (h : KeptA DC WC m c g L H' n) (s : Sb m g H' H2) : KeptA DC WC m c g L H2 n := by
  obtain ⟨G, items, a, ⟨b1, b2, b3⟩, e, d, f⟩ := h
  exact ⟨G, items, fun b o h => ⟨s b o (a b o h).2.2.1 (a b o h).2.2.2.1 (a b o h).2.1 (a b o h).1, (a b o h).2⟩, ⟨b1, b2, b3⟩, s L _ b1 b3 (fun ps z => nomatch z) e, d, f⟩
theorem KeptA.le {DC WC m c g L : Addr} {H' : Hp} {n n' : Nat} (h : KeptA DC WC m c g L H' n) (k : n ≤ n') : KeptA DC WC m c g L H' n' := by
  obtain ⟨G, items, a, b, e, d, f⟩ := h
  exact ⟨G, items, a, b, e, by omega, f⟩
theorem KeptA.at_ {DC WC m c g L : Addr} {H' : Hp} {n : Nat} (h : KeptA DC WC m c g L H' n) : ∃ items, H' L = some (.lst items) := by
  obtain ⟨G, items, a, b, e, d, f⟩ := h
  exact ⟨items, e⟩
theorem KeptA.app {DC WC m c g L p sh : Addr} {H' : Hp} {n : Nat} {k : Int} {one : V} {cy wd : Int} {ns : List (Option Int)} {ls : List (Int × Int × Int)} {is : List Int} {Q : VK} (h : KeptA DC WC m c g L H' n) (hn : n ≤ 1000) (d : Dr H' m c g k) (hp : H' p = some (.tup [one, .ref sh])) (hW : WkAt DC WC H' one cy ns ls is) (hR : WRow H' sh ls is) (n1 : sh ≠ m) (n2 : sh ≠ g) (n3 : sh ≠ L)
    (ok : DOK cy ns ls wd) (hw : 0 ≤ wd ∧ wd ≤ 1000000000) (h60 : ls.length ≤ 60) (hok : WOK ls is) (hl : is.length ≤ 6) (q : ∀ H2, KeptA DC WC m c g L H2 (n + 1) → Dr H2 m c g k → Tk H' H2 → Ik H' H2 → (∀ T, LamX.Tabs T H' → LamX.Tabs T H2) → Q .non H2) : rAppend (.ref L) [.ref p] H' Q := by
  obtain ⟨G, items, a, ⟨b1, b2, b3⟩, f, e, z⟩ := h
  obtain ⟨l, hl0, hg⟩ := d.great
  have tkG : ∀ (b : Addr) (o : HO), b ≠ m → b ≠ g → b ≠ L → (∀ ps, o ≠ .tbl ps) → H' b = some o → (fun y => if y = m ∨ y = g ∨ y = L then none else noTab H' y : Hp) b = some o := fun b o m1 m2 m3 t h => by
    show (if b = m ∨ b = g ∨ b = L then none else noTab H' b) = some o
    rw [if_neg (by rintro (w | w | w) <;> contradiction)]
    exact noTab_at h t
  generalize hG : (fun y => if y = m ∨ y = g ∨ y = L then none else noTab H' y : Hp) = G' at tkG
  have tk : Tk H' G' := fun b xs h => tkG b _ (fun z => by rw [z, d.dict] at h; cases h) (fun z => by rw [z, hg] at h; cases h) (fun z => by rw [z, f] at h; cases h) (fun ps z => nomatch z) h
  have ik : Ik H' G' := fun b C dx fs h => tkG b _ (fun z => by rw [z, d.dict] at h; cases h) (fun z => by rw [z, hg] at h; cases h) (fun z => by rw [z, f] at h; cases h) (fun ps z => nomatch z) h
  have keepL : ∀ (b : Addr) (o : HO), b ≠ L → H' b = some o → upd H' L (.lst (items ++ [.ref p])) b = some o := fun b o nb h => by rw [upd_ne nb]; exact h
  refine g_app f (szl (by omega)) (q _ ⟨G', items ++ [.ref p], fun b o h => ?_, ⟨b1, b2, b3⟩, upd_same, by simp; omega, fun x hx => ?_⟩ (d.upd b1 b2 b3) (fun b xs h => keepL b _ (fun z => by rw [z, f] at h; cases h) h) (fun b C dx fs h => keepL b _ (fun z => by rw [z, f] at h; cases h) h) fun T t r hr => ?_)
  · rw [← hG] at h
    have h : (if b = m ∨ b = g ∨ b = L then none else noTab H' b) = some o := h
    by_cases w : b = m ∨ b = g ∨ b = L
    · rw [if_pos w] at h; cases h
    · rw [if_neg w] at h
      have w1 : b ≠ m := fun e => w (Or.inl e)
      have w2 : b ≠ g := fun e => w (Or.inr (Or.inl e))
      have w3 : b ≠ L := fun e => w (Or.inr (Or.inr e))
      exact ⟨keepL b _ w3 (noTab_of h).1, (noTab_of h).2, w1, w2, w3⟩
  · rcases List.mem_append.mp hx with h | h
    · refine (z x h).same fun b o h => ?_
      obtain ⟨k1, k2, k3, k4, k5⟩ := a b o h
      exact tkG b o k3 k4 k5 k2 k1
    · have ex : x = .ref p := by simpa using h
      subst ex
      obtain ⟨t, u, r1, r2, r3⟩ := hR
      exact ⟨p, sh, one, cy, wd, ns, ls, is, rfl, tk _ _ hp, hW.keep tk ik, ⟨t, u, tkG sh _ n1 n2 n3 (fun ps z => nomatch z) r1, tk _ _ r2, tk _ _ r3⟩, ok, hw, h60, hok, hl⟩
  · obtain ⟨ps, e, okT, hc⟩ := t r hr
    refine ⟨ps, keepL _ _ (fun z => by rw [z, f] at e; cases e) e, okT, fun pos cv hcv => ?_⟩
    obtain ⟨c', w1, w2⟩ := hc pos cv hcv
    exact ⟨c', w1, keepL _ _ (fun z => by rw [z, f] at w2; cases w2) w2⟩
end WL
set_option Elab.async false
set_option linter.all false
set_option maxRecDepth 100000
set_option maxHeartbeats 4000000
namespace WL
open PySem PySem.Spec PyProof.Rows L2
/-! ### two diaries joined: the pure side -/
def jfind (ps : List (Nat × Nat)) (k : Nat) : Option Nat := (ps.find? fun p => p.2 == k).map (·.1)
def jfree (ps : List (Nat × Nat)) (k : Nat) : Bool := (jfind ps k).isNone
def jnew (ps : List (Nat × Nat)) (m : Nat) : List Nat := (List.range m).filter (jfree ps)
def jnum (ps : List (Nat × Nat)) (n1 k : Nat) : Nat := (jfind ps k).getD (n1 + (jnew ps k).length)
structure JOK (ps : List (Nat × Nat)) (N1 N2 : List (Option Int)) : Prop where
  fst : ∀ p ∈ ps, p.1 < N1.length
  snd : ∀ p ∈ ps, p.2 < N2.length
  ndF : (ps.map (·.1)).Nodup
  ndS : (ps.map (·.2)).Nodup
  fit : ∀ p ∈ ps, N1.getD p.1 none = none ∨ N2.getD p.2 none = none ∨ N1.getD p.1 none = N2.getD p.2 none
def jfst (ps : List (Nat × Nat)) (N1 N2 : List (Option Int)) (t : Nat) : List (Option Int) := N1.mapIdx fun i x => match ps.find? (fun p => p.1 == i) with
  | some p => if p.2 < t ∧ N2.getD p.2 none ≠ none then N2.getD p.2 none else x
  | none => x
def jsnd (ps : List (Nat × Nat)) (N2 : List (Option Int)) (t : Nat) : List (Option Int) := (jnew ps N2.length).map fun k => if k < t then N2.getD k none else none
def jW (ps : List (Nat × Nat)) (N1 N2 : List (Option Int)) (t : Nat) : List (Option Int) := jfst ps N1 N2 t ++ jsnd ps N2 t
def joinN (ps : List (Nat × Nat)) (N1 N2 : List (Option Int)) : List (Option Int) := jW ps N1 N2 N2.length
theorem find_nd {f : Nat × Nat → Nat} : ∀ {ps : List (Nat × Nat)} {p : Nat × Nat}, (ps.map f).Nodup → p ∈ ps → ps.find? (fun q => f q == f p) = some p
  | q :: ps, p, nd, hp => by
    rw [List.map_cons, List.nodup_cons] at nd
    rcases List.mem_cons.mp hp with rfl | hp
    · simp
    · have ne : f q ≠ f p := fun e => nd.1 (e ▸ List.mem_map_of_mem hp)
      rw [List.find?_cons, beq_eq_false_iff_ne.mpr ne]
      exact find_nd nd.2 hp
theorem jfind_in {ps : List (Nat × Nat)} {p : Nat × Nat} (nd : (ps.map (·.2)).Nodup) (hp : p ∈ ps) : jfind ps p.2 = some p.1 := by
  unfold jfind
  rw [find_nd (f := (·.2)) nd hp]; rfl
theorem jfind_some {ps : List (Nat × Nat)} {k i : Nat} (h : jfind ps k = some i) : (i, k) ∈ ps := by
  unfold jfind at h
  cases e : ps.find? (fun p => p.2 == k) with
  | none => rw [e] at h; cases h
  | some p =>
    rw [e] at h
    cases h
    have z := List.find?_some e
    have z' : p.2 = k := by simpa using z
    subst z'
    exact List.mem_of_find?_eq_some e
theorem jfree_not {ps : List (Nat × Nat)} {k : Nat} (h : jfree ps k = true) : ∀ p ∈ ps, p.2 ≠ k := by
  intro p hp e
  unfold jfree jfind at h
  cases q : ps.find? (fun p => p.2 == k) with
  | none =>
    have z := List.find?_eq_none.mp q p hp
    exact z (by simp [e])
  | some x => rw [q] at h; cases h
theorem jfree_false {ps : List (Nat × Nat)} {k : Nat} (h : jfree ps k = false) : ∃ i, jfind ps k = some i := by
  unfold jfree at h
  cases q : jfind ps k with
  | none => rw [q] at h; cases h
  | some i => exact ⟨i, rfl⟩
theorem jnew_succ (ps : List (Nat × Nat)) (m : Nat) : jnew ps (m + 1) = jnew ps m ++ if jfree ps m then [m] else [] := by
  unfold jnew
  rw [List.range_succ, List.filter_append]
  congr 1
  by_cases h : jfree ps m <;> simp [h]
theorem jnew_le (ps : List (Nat × Nat)) : ∀ m, (jnew ps m).length ≤ m
  | 0 => by simp [jnew]
  | m + 1 => by
    have z := jnew_le ps m
    rw [jnew_succ, List.length_append]
    split <;> simp <;> omega
theorem jnew_at {ps : List (Nat × Nat)} {t : Nat} (h : jfree ps t = true) : ∀ {m : Nat}, t < m → (jnew ps m)[(jnew ps t).length]? = some t
  | m + 1, hm => by
    rw [jnew_succ]
    rcases Nat.lt_or_ge t m with q | q
    · have z := jnew_at h q
      have l := (List.getElem?_eq_some_iff.mp z).1
      rw [List.getElem?_append_left l]
      exact z
    · have e : t = m := by omega
      subst e
      rw [h, List.getElem?_append_right (Nat.le_refl _)]
      simp
theorem jnew_nd (ps : List (Nat × Nat)) (m : Nat) : (jnew ps m).Nodup := List.Pairwise.filter _ List.nodup_range
theorem jnew_mem {ps : List (Nat × Nat)} {m k : Nat} (h : k ∈ jnew ps m) : k < m ∧ jfree ps k = true := by
  have z := List.mem_filter.mp h
  exact ⟨List.mem_range.mp z.1, z.2⟩
theorem nd_inj {α : Type} {l : List α} (nd : l.Nodup) {i j : Nat} {hi : i < l.length} {hj : j < l.length} (e : l[i] = l[j]) : i = j := by
  have p := List.pairwise_iff_getElem.mp nd
  rcases Nat.lt_trichotomy i j with h | h | h
  · exact absurd e (p i j hi hj h)
  · exact h
  · exact absurd e.symm (p j i hj hi h)
theorem jnew_only {ps : List (Nat × Nat)} {t m j : Nat} (h : jfree ps t = true) (hm : t < m) (e : (jnew ps m)[j]? = some t) : j = (jnew ps t).length := by
  have a := jnew_at h hm
  obtain ⟨l1, e1⟩ := List.getElem?_eq_some_iff.mp e
  obtain ⟨l2, e2⟩ := List.getElem?_eq_some_iff.mp a
  exact nd_inj (jnew_nd ps m) (e1.trans e2.symm)

theorem jnew_len {ps : List (Nat × Nat)} {m : Nat} (nd : (ps.map (·.2)).Nodup) (hs : ∀ p ∈ ps, p.2 < m) : (jnew ps m).length + ps.length = m := by
  have p1 : ((List.range m).filter fun k => !(jfree ps k)).Perm (ps.map (·.2)) := by
    refine (List.perm_ext_iff_of_nodup (List.Pairwise.filter _ List.nodup_range) nd).mpr fun k => ?_
    rw [List.mem_filter, List.mem_range, List.mem_map]
    constructor
    · rintro ⟨h1, h2⟩
      obtain ⟨i, hi⟩ := jfree_false (by simpa using h2)
      exact ⟨_, jfind_some hi, rfl⟩
    · rintro ⟨p, hp, rfl⟩
      refine ⟨hs p hp, ?_⟩
      unfold jfree
      rw [jfind_in nd hp]; rfl
  have l1 := p1.length_eq
  rw [List.length_map] at l1
  have l2 : ∀ xs : List Nat, (xs.filter (jfree ps)).length + (xs.filter fun k => !(jfree ps k)).length = xs.length := by
    intro xs
    induction xs with
    | nil => rfl
    | cons x xs ih =>
      rw [List.filter_cons, List.filter_cons, List.length_cons]
      cases h : jfree ps x <;> simp <;> omega
  have z := l2 (List.range m)
  rw [List.length_range, l1] at z
  exact z
section
variable {ps : List (Nat × Nat)} {N1 N2 : List (Option Int)}
theorem jfst_len (t : Nat) : (jfst ps N1 N2 t).length = N1.length := by unfold jfst; rw [List.length_mapIdx]
theorem jsnd_len (t : Nat) : (jsnd ps N2 t).length = (jnew ps N2.length).length := by unfold jsnd; rw [List.length_map]
theorem jW_len (J : JOK ps N1 N2) (t : Nat) : (jW ps N1 N2 t).length = N1.length + (N2.length - ps.length) := by
  unfold jW
  rw [List.length_append, jfst_len, jsnd_len]
  have := jnew_len J.ndS J.snd
  omega
theorem jW_zero (J : JOK ps N1 N2) : jW ps N1 N2 0 = N1 ++ List.replicate (N2.length - ps.length) none := by
  have := jnew_len J.ndS J.snd
  unfold jW jfst jsnd
  congr 1
  · refine List.ext_getElem? fun i => ?_
    rw [List.getElem?_mapIdx]
    cases N1[i]? with
    | none => rfl
    | some x =>
      simp only [Option.map_some, Nat.not_lt_zero, false_and, if_false]
      split <;> rfl
  · have e : N2.length - ps.length = (jnew ps N2.length).length := by omega
    rw [e]
    simp [List.map_const']
theorem jnum_lt (J : JOK ps N1 N2) {t : Nat} (ht : t < N2.length) : jnum ps N1.length t < N1.length + (N2.length - ps.length) := by
  unfold jnum
  cases q : jfind ps t with
  | some i =>
    have := J.fst _ (jfind_some q)
    show i < _
    have z : i < N1.length := this
    omega
  | none =>
    have f : jfree ps t = true := by unfold jfree; rw [q]; rfl
    obtain ⟨l, _⟩ := List.getElem?_eq_some_iff.mp (jnew_at f ht)
    have := jnew_len J.ndS J.snd
    show N1.length + _ < _
    omega
theorem jsame {t : Nat} (h : ∀ p ∈ ps, p.2 = t → N2.getD p.2 none = none) : jfst ps N1 N2 (t + 1) = jfst ps N1 N2 t := by
  unfold jfst
  refine List.ext_getElem? fun i => ?_
  rw [List.getElem?_mapIdx, List.getElem?_mapIdx]
  cases N1[i]? with
  | none => rfl
  | some x =>
    rw [Option.map_some, Option.map_some]
    congr 1
    cases q : ps.find? (fun p => p.1 == i) with
    | none => rfl
    | some p =>
      have hp := List.mem_of_find?_eq_some q
      simp only
      by_cases e : p.2 = t
      · have z := h p hp e
        rw [if_neg (fun c => c.2 z), if_neg (fun c => c.2 z)]
      · have e2 : p.2 < t + 1 ↔ p.2 < t := by omega
        simp only [e2]
theorem jsame2 {t : Nat} (h : t < N2.length → jfree ps t = true → N2.getD t none = none) : jsnd ps N2 (t + 1) = jsnd ps N2 t := by
  unfold jsnd
  refine List.map_congr_left fun k hk => ?_
  obtain ⟨k1, k2⟩ := jnew_mem hk
  by_cases e : k = t
  · subst e
    have z := h k1 k2
    rw [if_neg (Nat.lt_irrefl k), z]
    simp
  · have e2 : k < t + 1 ↔ k < t := by omega
    simp only [e2]
theorem jW_none {t : Nat} (h : N2.getD t none = none) : jW ps N1 N2 (t + 1) = jW ps N1 N2 t := by
  unfold jW
  rw [jsame (fun p _ e => by rw [e]; exact h), jsame2 (fun _ _ => h)]
theorem jW_some (J : JOK ps N1 N2) {t : Nat} {d : Int} (ht : t < N2.length) (h : N2.getD t none = some d) : (jW ps N1 N2 t).set (jnum ps N1.length t) (some d) = jW ps N1 N2 (t + 1) := by
  unfold jW
  cases q : jfind ps t with
  | some i =>
    have hp := jfind_some q
    have hi : i < N1.length := J.fst _ hp
    have e : jnum ps N1.length t = i := by unfold jnum; rw [q]; rfl
    rw [e, List.set_append_left _ _ (by rw [jfst_len]; exact hi), jsame2 (N2 := N2) (t := t) (fun _ f => absurd rfl (jfree_not f _ hp))]
    congr 1
    unfold jfst
    refine List.ext_getElem? fun j => ?_
    rw [List.getElem?_set, List.length_mapIdx, List.getElem?_mapIdx, List.getElem?_mapIdx]
    by_cases ej : i = j
    · subst ej
      rw [if_pos rfl, if_pos hi, List.getElem?_eq_getElem hi, Option.map_some]
      have z : ps.find? (fun p => p.1 == i) = some (i, t) := find_nd (f := (·.1)) (p := (i, t)) J.ndF hp
      rw [z]
      have cc : t < t + 1 ∧ N2.getD t none ≠ none := ⟨Nat.lt_succ_self t, by rw [h]; exact fun z => by cases z⟩
      simp only
      rw [if_pos cc, h]
    · rw [if_neg ej]
      cases N1[j]? with
      | none => rfl
      | some x =>
        rw [Option.map_some, Option.map_some]
        congr 1
        cases q2 : ps.find? (fun p => p.1 == j) with
        | none => rfl
        | some p =>
          have hp2 := List.mem_of_find?_eq_some q2
          have e1 : p.1 = j := by simpa using List.find?_some q2
          have ne : p.2 ≠ t := fun e2 => by
            have z := jfind_in J.ndS hp2
            rw [e2, q] at z
            cases z
            exact ej e1
          have e3 : p.2 < t + 1 ↔ p.2 < t := by omega
          simp only [e3]
  | none =>
    have f : jfree ps t = true := by unfold jfree; rw [q]; rfl
    have e : jnum ps N1.length t = N1.length + (jnew ps t).length := by unfold jnum; rw [q]; rfl
    rw [e, List.set_append_right _ _ (by rw [jfst_len]; omega), jfst_len, Nat.add_sub_cancel_left, jsame (N1 := N1) (N2 := N2) (t := t) (fun p hp z => absurd z (jfree_not f p hp))]
    congr 1
    unfold jsnd
    refine List.ext_getElem? fun j => ?_
    rw [List.getElem?_set, List.length_map, List.getElem?_map, List.getElem?_map]
    have at_ := jnew_at f ht
    obtain ⟨l, _⟩ := List.getElem?_eq_some_iff.mp at_
    by_cases ej : (jnew ps t).length = j
    · subst ej
      rw [if_pos rfl, if_pos l, at_, Option.map_some, if_pos (Nat.lt_succ_self t), h]
    · rw [if_neg ej]
      cases q2 : (jnew ps N2.length)[j]? with
      | none => rfl
      | some k =>
        have ne : k ≠ t := fun e2 => by
          subst e2
          exact ej (jnew_only f ht q2).symm
        have e3 : k < t + 1 ↔ k < t := by omega
        simp only [Option.map_some, e3]
/-! the law's way -/
def jL (ps : List (Nat × Nat)) (N1 N2 : List (Option Int)) (j : Nat) : List (Option Int) := N1.mapIdx fun i x => match (ps.take j).find? (fun p => p.1 == i) with
  | some p => if x = none then N2.getD p.2 none else x
  | none => x
theorem jL_len (j : Nat) : (jL ps N1 N2 j).length = N1.length := by unfold jL; rw [List.length_mapIdx]
theorem jL_zero : jL ps N1 N2 0 = N1 := by
  unfold jL
  refine List.ext_getElem? fun i => ?_
  rw [List.getElem?_mapIdx]
  cases N1[i]? <;> simp
theorem take_find {j : Nat} {p : Nat × Nat} (J : JOK ps N1 N2) (hj : ps[j]? = some p) : (ps.take j).find? (fun q => q.1 == p.1) = none := by
  refine List.find?_eq_none.mpr fun q hq => ?_
  obtain ⟨i, hi, e⟩ := List.mem_take_iff_getElem.mp hq
  obtain ⟨l, e2⟩ := List.getElem?_eq_some_iff.mp hj
  intro z
  have z' : q.1 = p.1 := by simpa using z
  have a : (ps.map (·.1))[i]'(by rw [List.length_map]; omega) = (ps.map (·.1))[j]'(by rw [List.length_map]; omega) := by
    rw [List.getElem_map, List.getElem_map, e, e2, z']
  have := nd_inj J.ndF a
  omega
theorem jL_at (J : JOK ps N1 N2) {j : Nat} {p : Nat × Nat} (hj : ps[j]? = some p) : (jL ps N1 N2 j).getD p.1 none = N1.getD p.1 none := by
  have hi := J.fst _ (List.mem_of_getElem? hj)
  unfold jL
  rw [List.getD_eq_getElem?_getD, List.getD_eq_getElem?_getD, List.getElem?_mapIdx, List.getElem?_eq_getElem hi, Option.map_some, take_find J hj]
theorem jL_other {j : Nat} {p : Nat × Nat} (hj : ps[j]? = some p) {i : Nat} (ne : p.1 ≠ i) : (ps.take (j + 1)).find? (fun q => q.1 == i) = (ps.take j).find? (fun q => q.1 == i) := by
  obtain ⟨l, e⟩ := List.getElem?_eq_some_iff.mp hj
  rw [List.take_succ, hj, List.find?_append]
  cases (ps.take j).find? (fun q => q.1 == i) with
  | some x => rfl
  | none => simp [ne]
theorem jL_set (J : JOK ps N1 N2) {j : Nat} {p : Nat × Nat} (hj : ps[j]? = some p) (h : N1.getD p.1 none = none) : (jL ps N1 N2 j).set p.1 (N2.getD p.2 none) = jL ps N1 N2 (j + 1) := by
  have hi := J.fst _ (List.mem_of_getElem? hj)
  refine List.ext_getElem? fun i => ?_
  rw [List.getElem?_set, jL_len]
  by_cases e : p.1 = i
  · subst e
    rw [if_pos rfl, if_pos hi]
    unfold jL
    rw [List.getElem?_mapIdx, List.getElem?_eq_getElem hi, Option.map_some]
    have z : (ps.take (j + 1)).find? (fun q => q.1 == p.1) = some p := by
      rw [List.take_succ, hj, List.find?_append, take_find J hj]
      simp
    rw [List.getD_eq_getElem?_getD, List.getElem?_eq_getElem hi] at h
    have h' : N1[p.1] = none := h
    rw [z, h']
    simp
  · rw [if_neg e]
    unfold jL
    rw [List.getElem?_mapIdx, List.getElem?_mapIdx, jL_other hj e]
theorem jL_keep (J : JOK ps N1 N2) {j : Nat} {p : Nat × Nat} (hj : ps[j]? = some p) (h : N1.getD p.1 none ≠ none) : jL ps N1 N2 (j + 1) = jL ps N1 N2 j := by
  have hi := J.fst _ (List.mem_of_getElem? hj)
  refine List.ext_getElem? fun i => ?_
  unfold jL
  rw [List.getElem?_mapIdx, List.getElem?_mapIdx]
  by_cases e : p.1 = i
  · subst e
    rw [List.getElem?_eq_getElem hi, Option.map_some, Option.map_some]
    have z : (ps.take (j + 1)).find? (fun q => q.1 == p.1) = some p := by
      rw [List.take_succ, hj, List.find?_append, take_find J hj]
      simp
    rw [List.getD_eq_getElem?_getD, List.getElem?_eq_getElem hi] at h
    have h' : N1[p.1] ≠ none := h
    rw [z, take_find J hj]
    simp [h']
  · rw [jL_other hj e]
theorem jL_end (J : JOK ps N1 N2) : jL ps N1 N2 ps.length = jfst ps N1 N2 N2.length := by
  refine List.ext_getElem? fun i => ?_
  unfold jL jfst
  rw [List.getElem?_mapIdx, List.getElem?_mapIdx, List.take_length]
  cases q : N1[i]? with
  | none => rfl
  | some x =>
    rw [Option.map_some, Option.map_some]
    congr 1
    cases q2 : ps.find? (fun p => p.1 == i) with
    | none => rfl
    | some p =>
      have hp := List.mem_of_find?_eq_some q2
      have e1 : p.1 = i := by simpa using List.find?_some q2
      have f := J.fit p hp
      rw [e1, List.getD_eq_getElem?_getD, q] at f
      have f' : x = none ∨ N2.getD p.2 none = none ∨ x = N2.getD p.2 none := f
      have hs := J.snd p hp
      simp only [hs, true_and]
      by_cases h1 : x = none
      · subst h1
        by_cases h2 : N2.getD p.2 none = none
        · rw [if_pos rfl, if_neg (fun c => c h2), h2]
        · rw [if_pos rfl, if_pos h2]
      · rw [if_neg h1]
        by_cases h2 : N2.getD p.2 none = none
        · rw [if_neg (fun c => c h2)]
        · rw [if_pos h2]
          rcases f' with f | f | f
          · exact absurd f h1
          · exact absurd f h2
          · exact f
theorem jsnd_end : jsnd ps N2 N2.length = (jnew ps N2.length).map fun k => N2.getD k none := by
  unfold jsnd
  exact List.map_congr_left fun k hk => if_pos (jnew_mem hk).1
end
def jlines (ps : List (Nat × Nat)) (n1 : Nat) (ls : List (Int × Int × Int)) : List (Int × Int × Int) := ls.map fun l => ((jnum ps n1 l.1.toNat : Int), (jnum ps n1 l.2.1.toNat : Int), l.2.2)
theorem join_dok {c w : Int} {ps : List (Nat × Nat)} {N1 N2 : List (Option Int)} {L1 L2 : List (Int × Int × Int)} (J : JOK ps N1 N2) (a : DOK c N1 L1 w) (b : DOK c N2 L2 w) (h : N1.length + N2.length ≤ 16) : DOK c (joinN ps N1 N2) (L1 ++ jlines ps N1.length L2) w := by
  have len : (joinN ps N1 N2).length = N1.length + (N2.length - ps.length) := jW_len J _
  refine ⟨a.c2, a.c100, by rw [len]; have := a.n1; omega, by rw [len]; omega, fun i hi => ?_, fun l hl => ?_⟩
  · unfold joinN jW at hi
    rcases List.mem_append.mp hi with z | z
    · unfold jfst at z
      obtain ⟨j, hj, e⟩ := List.mem_mapIdx.mp z
      have m1 : N1[j] ∈ N1 := List.getElem_mem hj
      have m2 : ∀ {k : Nat}, N2.getD k none = some i → some i ∈ N2 := fun {k} e => by
        rw [List.getD_eq_getElem?_getD] at e
        cases q : N2[k]? with
        | none => rw [q] at e; cases e
        | some y =>
          rw [q] at e
          have e' : y = some i := e
          rw [← e']
          exact List.mem_of_getElem? q
      split at e
      · split at e
        · exact b.note i (m2 e)
        · rw [e] at m1; exact a.note i m1
      · rw [e] at m1; exact a.note i m1
    · rw [jsnd_end] at z
      obtain ⟨k, _, e⟩ := List.mem_map.mp z
      rw [List.getD_eq_getElem?_getD] at e
      cases q : N2[k]? with
      | none => rw [q] at e; cases e
      | some y =>
        rw [q] at e
        have e' : y = some i := e
        exact b.note i (by rw [← e']; exact List.mem_of_getElem? q)
  · rw [len]
    rcases List.mem_append.mp hl with z | z
    · obtain ⟨⟨x1, x2⟩, ⟨y1, y2⟩, z1, z2⟩ := a.line l z
      exact ⟨⟨x1, by omega⟩, ⟨y1, by omega⟩, z1, z2⟩
    · obtain ⟨r, hr, rfl⟩ := List.mem_map.mp z
      obtain ⟨⟨x1, x2⟩, ⟨y1, y2⟩, z1, z2⟩ := b.line r hr
      have j1 := jnum_lt J (t := r.1.toNat) (by omega)
      have j2 := jnum_lt J (t := r.2.1.toNat) (by omega)
      exact ⟨⟨by simp, by simp only; omega⟩, ⟨by simp, by simp only; omega⟩, z1, z2⟩
end WL
set_option Elab.async false
set_option linter.all false
set_option maxRecDepth 100000
set_option maxHeartbeats 4000000
namespace WL
open PySem PySem.Spec PyProof.Rows L2
/-! ### any of a list of truth values -/
def rAnyB (K : PySem.W.Frag) : List V → Hp → VK → Prop := fun xs H Q => ∃ (p : Addr) (bs : List Bool), xs = [.ref p] ∧ SqL K H p (bs.map V.bl) ∧ Q (.bl (bs.any id)) H
theorem call_anyB {X : Cx} (calm : X.calm = true) : CallR X (.builtin "any") (rAnyB X.K) := by
  intro pins s σ H xs us Q I r h
  obtain ⟨p, bs, rfl, hq, q⟩ := h
  obtain ⟨u, rfl, rx⟩ := vals1 r
  cases rx
  obtain ⟨its, rv, pl, _⟩ := I.list hq
  have len : its.length = bs.length := by rw [← rv.length, List.length_map]
  have low : p < s.heap.objs.size := by obtain ⟨_, e, _⟩ := pl.isList; exact Heap.lt_size e
  refine call_any_walk (wpAny_pyIter_list pl.isList ?_)
  refine ⟨s.heap.objs.size, [s.heap.objs.size, p], [s.heap.objs.size], its.toArray.size, _, _, fun i => (bs[i]?).getD false, rfl, Walks.list (A := X.A.in1) (I.ok.hd calm) _ p (Nat.ne_of_lt low) its.toArray, ⟨⟨_, Heap.get?_push_size _ rfl, rfl, rfl⟩, pl.isList.push _⟩, ?_, ?_⟩
  · intro i v s' Q' E' hP hQ
    obtain ⟨b, e, rfl⟩ := bools_at rv i v (by simpa using hP)
    simp only [e, Option.getD_some] at hQ
    exact wpAny_truthy_bool hQ
  · intro h' tk hk
    have e : ((List.range its.toArray.size).any fun i => (bs[i]?).getD false) = bs.any id := by
      rw [List.size_toArray, len]
      exact LSm.range_any bs
    rw [e]
    exact ⟨.bl (bs.any id), H, I.kept (t' := tk) (LSm.kept_iter hk), rfl, q⟩
theorem any_false (n : Nat) : (List.replicate n false).any id = false := by simp
/-! ### pairs of events -/
def pairD (p : Nat × Nat) : PyData := .tuple [.int p.1, .int p.2]
theorem fzs_pair {H : Hp} {vs : List V} {ps : List (Nat × Nat)} (h : Fzs H vs (ps.map pairD)) {j : Nat} (hj : j < ps.length) : ∃ t, vs[j]? = some (.ref t) ∧ H t = some (.tup [.int (ps[j].1 : Nat), .int (ps[j].2 : Nat)]) := by
  obtain ⟨v, e, z⟩ := h.get_d (i := j) (d := pairD ps[j]) (by rw [List.getElem?_map, List.getElem?_eq_getElem hj]; rfl)
  obtain ⟨a, xs, rfl, ha, hx⟩ := Fz.tup_inv z
  match xs, hx with
  | [x, y], .cons hx (.cons hy .nil) =>
    rw [Fz.int_inv hx, Fz.int_inv hy] at ha
    exact ⟨a, e, ha⟩
theorem fz_pair {H : Hp} {t : Addr} {p : Nat × Nat} (h : H t = some (.tup [.int (p.1 : Nat), .int (p.2 : Nat)])) : Fz H (.ref t) (pairD p) := .tup h (.cons (.int _) (.cons (.int _) .nil))
def spIsPair (K : PySem.W.Frag) (DC : Addr) : Sp := fun vs H Q _ => ∃ (v u : V) (t : Addr) (c1 c2 i j : Int) (n1 n2 : List (Option Int)) (l1 l2 : List (Int × Int × Int)), vs = [v, u, .ref t] ∧ DiaAt DC H v c1 n1 l1 ∧ DiaAt DC H u c2 n2 l2 ∧ H t = some (.tup [.int i, .int j]) ∧ n1.length ≤ 100 ∧ n2.length ≤ 100 ∧
  (0 ≤ i ∧ i < n1.length) ∧ (0 ≤ j ∧ j < n2.length) ∧ Q (.bl true) H
def spIsTaken (K : PySem.W.Frag) : Sp := fun vs H Q _ => ∃ (t u : Addr) (p : Nat × Nat) (ps : List (Nat × Nat)) (rows : List V), vs = [.ref t, .ref u] ∧ H t = some (.tup [.int (p.1 : Nat), .int (p.2 : Nat)]) ∧ H u = some (.tup rows) ∧ Fzs H rows (ps.map pairD) ∧ ps.length ≤ 1000 ∧
  (∀ q ∈ ps, q.1 ≠ p.1 ∧ q.2 ≠ p.2) ∧ ∀ H', (∀ b o, H b = some o → H' b = some o) → Q (.bl false) H'
def spNeedPairs (DC : Addr) : Sp := fun vs H Q _ => ∃ (v u : V) (t : Addr) (c1 c2 : Int) (n1 n2 : List (Option Int)) (l1 l2 : List (Int × Int × Int)) (ps : List (Nat × Nat)) (rows : List V), vs = [v, u, .ref t] ∧ DiaAt DC H v c1 n1 l1 ∧ DiaAt DC H u c2 n2 l2 ∧ H t = some (.tup rows) ∧ Fzs H rows (ps.map pairD) ∧ n1.length ≤ 100 ∧ n2.length ≤ 100 ∧ ps.length ≤ 1000 ∧ JOK ps n1 n2 ∧
  ∀ H', (∀ b o, H b = some o → H' b = some o) → Q .non H'
def spNewNums (DC : Addr) : Sp := fun vs H Q _ => ∃ (v u : V) (t : Addr) (c1 c2 : Int) (n1 n2 : List (Option Int)) (l1 l2 : List (Int × Int × Int)) (ps : List (Nat × Nat)) (rows : List V), vs = [v, u, .ref t] ∧ DiaAt DC H v c1 n1 l1 ∧ DiaAt DC H u c2 n2 l2 ∧ H t = some (.tup rows) ∧ Fzs H rows (ps.map pairD) ∧ n1.length ≤ 100 ∧ n2.length ≤ 100 ∧ ps.length ≤ 1000 ∧ JOK ps n1 n2 ∧
  ∀ (p : Addr) (H' : Hp), H p = none → H' p = some (.lst ((List.range n2.length).map fun k => V.int (jnum ps n1.length k : Nat))) → (∀ b o, H b = some o → H' b = some o) → Q (.ref p) H'
theorem cut_takeV {xs : List V} {i : Nat} : cutV xs none (some (i : Int)) = xs.take i := by rw [cut_take xs (by omega)]; simp
theorem earlier_ne {ps : List (Nat × Nat)} {n1 n2 : List (Option Int)} (J : JOK ps n1 n2) {i : Nat} (hi : i < ps.length) : ∀ q ∈ ps.take i, q.1 ≠ ps[i].1 ∧ q.2 ≠ ps[i].2 := by
  intro q hq
  obtain ⟨j, hj, e⟩ := List.mem_take_iff_getElem.mp hq
  constructor
  · intro z
    have a : (ps.map (·.1))[j]'(by rw [List.length_map]; omega) = (ps.map (·.1))[i]'(by rw [List.length_map]; omega) := by
      rw [List.getElem_map, List.getElem_map, e, z]
    have := nd_inj J.ndF a
    omega
  · intro z
    have a : (ps.map (·.2))[j]'(by rw [List.length_map]; omega) = (ps.map (·.2))[i]'(by rw [List.length_map]; omega) := by
      rw [List.getElem_map, List.getElem_map, e, z]
    have := nd_inj J.ndS a
    omega
/-- the dict of the pairs, so far -/
def PairsD (ps : List (Nat × Nat)) (kvs : List (Key × V)) : Prop := kvs.length ≤ ps.length ∧ ∀ k : Nat, valV kvs (Sum.inl (k : Int)) = (jfind ps k).map fun i => V.int (i : Nat)
theorem pairsD_nil : PairsD [] [] := ⟨Nat.le_refl _, fun _ => rfl⟩
theorem jfind_append {ps : List (Nat × Nat)} {p : Nat × Nat} (hne : ∀ q ∈ ps, q.2 ≠ p.2) (k : Nat) : jfind (ps ++ [p]) k = if k = p.2 then some p.1 else jfind ps k := by
  unfold jfind
  rw [List.find?_append]
  by_cases e : k = p.2
  · subst e
    have z : ps.find? (fun q => q.2 == p.2) = none := List.find?_eq_none.mpr fun q hq h => hne q hq (by simpa using h)
    rw [if_pos rfl, z]
    simp
  · rw [if_neg e]
    cases ps.find? (fun q => q.2 == k) with
    | some x => rfl
    | none => simp [Ne.symm e]
theorem PairsD.put {ps : List (Nat × Nat)} {kvs : List (Key × V)} {p : Nat × Nat} (h : PairsD ps kvs) (hne : ∀ q ∈ ps, q.2 ≠ p.2) : PairsD (ps ++ [p]) (putK kvs (Sum.inl (p.2 : Int)) (.int (p.1 : Nat))) := by
  refine ⟨by have := length_putK kvs (Sum.inl (p.2 : Int) : Key) (.int (p.1 : Nat)); have := h.1; rw [List.length_append]; simp; omega, fun k => ?_⟩
  rw [valV_put, jfind_append hne, h.2 k]
  by_cases e : k = p.2
  · subst e
    simp
  · rw [if_neg e, if_neg (fun z => e (by injection z with z; exact Int.ofNat_inj.mp z))]
/-! ### dict comprehensions, dicts of numbers -/
def DcQ (g : TG) (tt : TT) (tk tv : TE) (vs : List Nat) (σ : L2.St) (Q : VK) (J : It) (H1 : Hp) : Prop := ∀ D, H1 D = none → ∃ W : Nat → Nat → Hp → Prop, (∃ m, W 0 m (upd H1 D (.dK []))) ∧ ∀ i m H, W i m H →
  (J.stop i H ∧ Q (.ref D) H) ∨ (J.go i H ∧ ∃ Nx : Hp → Prop, (∀ H', Nx H' → ∃ m', m' < m ∧ W (i + 1) m' H') ∧ ∀ x H', J.yld i H x H' → g x (wipe σ vs) H' fun σ2 H2 => wipe σ2 vs = wipe σ vs ∧ tt σ2 H2 fun b H3 =>
    if b = true then tk σ2 H3 fun y H4 => tv σ2 H4 fun z H5 => ∃ kvs k, y = kV k ∧ H5 D = some (.dK kvs) ∧ kvs.length < sizeLine ∧ Nx (upd H5 D (.dK (putK kvs k z))) else Nx H3)
theorem g_dc {wi : TI} {g : TG} {tt : TT} {tk tv : TE} {vs : List Nat} {σ : L2.St} {H : Hp} {Q : VK} (h : wi σ H (DcQ g tt tk tv vs σ Q)) : tDc wi g tt tk tv vs σ H Q := h
theorem DcQ.tup {K : PySem.W.Frag} {g : TG} {tt : TT} {tk tv : TE} {vs : List Nat} {σ : L2.St} {Q : VK} {H1 : Hp} {a : Addr} {xs : List V} (I : Addr → Nat → Hp → Prop) (h0 : ∀ D, H1 D = none → I D 0 (upd H1 D (.dK [])))
    (hl : ∀ D, H1 D = none → ∀ i H, i ≤ xs.length → I D i H → SqT K H a xs)
    (hs : ∀ D, H1 D = none → ∀ (i : Nat) x H, xs[i]? = some x → I D i H → g x (wipe σ vs) H fun σ2 H2 => wipe σ2 vs = wipe σ vs ∧ tt σ2 H2 fun b H3 => if b = true then tk σ2 H3 fun y H4 => tv σ2 H4 fun z H5 => ∃ kvs k, y = kV k ∧ H5 D = some (.dK kvs) ∧ kvs.length < sizeLine ∧ I D (i + 1) (upd H5 D (.dK (putK kvs k z))) else I D (i + 1) H3)
    (hd : ∀ D, H1 D = none → ∀ H, I D xs.length H → Q (.ref D) H) : DcQ g tt tk tv vs σ Q (Itt K a) H1 :=
  fun D nD => dc_tup (I D) (h0 D nD) (hl D nD) (hs D nD) (hd D nD)
theorem g_din {ty td : TE} {σ : L2.St} {H : Hp} {Q : VK} (h : ty σ H fun y H1 => td σ H1 fun x H2 => ∃ a o, x = .ref a ∧ DGet H2 a y o ∧ Q (.bl o.isSome) H2) : tDIn ty td σ H Q := h
theorem g_dnin {ty td : TE} {σ : L2.St} {H : Hp} {Q : VK} (h : ty σ H fun y H1 => td σ H1 fun x H2 => ∃ a o, x = .ref a ∧ DGet H2 a y o ∧ Q (.bl (!o.isSome)) H2) : tDNotIn ty td σ H Q := h
theorem dget_int {H : Hp} {a : Addr} {kvs : List (Key × V)} {k : Nat} (e : H a = some (.dK kvs)) : DGet H a (.int (k : Int)) (valV kvs (Sum.inl (k : Int))) := DGet.k (k := Sum.inl (k : Int)) e
theorem dput_int {H : Hp} {a : Addr} {kvs : List (Key × V)} {k : Nat} {v : V} (e : H a = some (.dK kvs)) (h : kvs.length < sizeLine) : DPut H a (.int (k : Int)) v (upd H a (.dK (putK kvs (Sum.inl (k : Int)) v))) := DPut.k (k := Sum.inl (k : Int)) e h
theorem g_aug {i : Nat} {te : TE} {ti : V → V → Hp → VK → Prop} {D : Ends} {σ : L2.St} {H : Hp} (h : ∃ x, σ[i]? = some (some x) ∧ te σ H fun y H1 => ti x y H1 fun z H2 => D.nx (σ.set i (some z)) H2) : tAug i te ti D σ H := h
/-- a local is given a new dict, on one line -/
theorem ps_setDc {X : Cx} {n : Nat} {x : Str} {xp dp ap : Pos} {ek ev g0 walked : Expr} {cs : List Expr} {sc : Scope} {mine : List (Str × Nat)} {wi : TI} {g : TG} {tt : TT} {tk tv : TE} (calm : X.calm = true) (nd : X.N.Nodup) (at_ : X.N[n]? = some x) (loc : X.env.scope.names.lookup x = some .local)
    (sw : swapsWith (.DictComp ek ev [⟨g0, walked, cs, 0⟩] sc dp) (some (.Name x xp)) ap.line X.env = pure true) (pi : PI X g0 walked wi) (blk : BlkOk X.N X.env.scope sc mine)
    (pg : ∀ s H C cl fp, PG (X.blk s H sc (compEnvC sc cl C X.env) fp) g0 g) (pt : ∀ s H C cl fp, PTs (X.blk s H sc (compEnvC sc cl C X.env) fp) cs tt)
    (pk : ∀ s H C cl fp, PE (X.blk s H sc (compEnvC sc cl C X.env) fp) ek tk) (pv : ∀ s H C cl fp, PE (X.blk s H sc (compEnvC sc cl C X.env) fp) ev tv) (fold : ∀ u, foldedSetIterable walked X.env u = pure u := by intro _; rfl) :
    PS X (.Assign [.Name x xp] (.DictComp ek ev [⟨g0, walked, cs, 0⟩] sc dp) ap) (tAsg (tDc wi g tt tk tv (mine.map (·.2))) (gName n)) := by
  constructor
  intro pins s σ H D I w0
  have w1 : tDc wi g tt tk tv (mine.map (·.2)) σ H (fun y H1 => gName n y σ H1 D.nx) := w0
  rw [exec_Assign_Name_used _ _ _ _ sw]
  refine wpAny_bind (wpAny_standAt (wpAny_bind ?_))
  show wpAny _ X.A (do
    let _ ← comprehension (.DictComp ek ev [⟨g0, walked, cs, 0⟩] sc dp) sc X.env (firstIterPos [⟨g0, walked, cs, 0⟩] dp) newDict false (eval walked X.env) (some (assign (.Name x xp) X.env))) _ _ s
  have end_ : ∀ (B : Value) (s' : Shared), SP X pins D .next s' → wpAny (model X.prog X.w) X.A (pure Flow.next) (SP X pins D) X.xe s' := fun _ _ z => wpAny_pure z
  refine wpAny_bind (thn (dc_core (Qf := fun _ s2 => SP X pins D .next s2) calm nd I pi blk pg pt pk pv fold w1 fun B C s2 m H2 I2 q ns fp => ?_) fun _ _ z => wpAny_pure (wpAny_pure z))
  obtain ⟨p0, p1, p2, p3, p4, p5⟩ := fp
  show wpAny _ _ (assign (.Name x xp) X.env (.ref B)) _ _ _
  refine wpAny_assign_Name (store_ok2 (v := V.ref B) I2 nd at_ (.inl loc) rfl (fun s3 I3 ⟨a, but, wh⟩ => ?_) (.inr loc))
  have ne : C ≠ a := by
    cases wh with
    | inl z => rw [z]; exact p1
    | inr z => exact fun e => p4 x a z e.symm
  exact ⟨m, ns.sameBut but ne, fun h4 but4 => ⟨_, H2, I3.turned (t' := s3.toks) (fun b o hb e => (but4.2 b hb).trans e) p0 p1 p3 p4 p5, q⟩⟩
theorem swD_true {ek ev : Expr} {gs : List Comprehension} {sc : Scope} {dp xp : Pos} {x : Str} {l : Nat} {env : Env} (fn : env.scope.kind = .function) (loc : env.scope.names.lookup x = some .local) (line : (xp.line == dp.line) = true)
    (no : (sc.names.any fun q => q.1 == x && (q.2 == .local || q.2 == .cell)) = false) : swapsWith (.DictComp ek ev gs sc dp) (some (.Name x xp)) l env = pure true := by
  have k1 : env.kindOf x = some .local := loc
  have k2 : env.blockKind = .function := by
    unfold Env.blockKind
    rw [fn]; rfl
  unfold swapsWith
  simp only [k2, k1, no, Expr.pos, line]
  rfl
end WL
set_option Elab.async false
set_option linter.all false
set_option maxRecDepth 100000
set_option maxHeartbeats 4000000
namespace WL
open PySem PySem.Spec PyProof.Rows L2
/-! ### zip of a list and a tuple of one length -/
def IzM (K : PySem.W.Frag) (a b : Addr) (xs ys : List V) : It where
  go := fun i H => SqL K H a xs ∧ SqT K H b ys ∧ i < xs.length ∧ i < ys.length
  yld := fun i H v H' => ∃ T x y, v = .ref T ∧ H T = none ∧ H' = upd H T (.tup [x, y]) ∧ xs[i]? = some x ∧ ys[i]? = some y
  stop := fun i H => SqL K H a xs ∧ SqT K H b ys ∧ i = xs.length ∧ i = ys.length
def iZipM (K : PySem.W.Frag) (ta : TA) : TI := fun σ H R => ta σ H fun vs H1 => ∃ a b xs ys, vs = [.ref a, .ref b] ∧ SqL K H1 a xs ∧ SqT K H1 b ys ∧ R (IzM K a b xs ys) H1
abbrev ZMs (a b z TI TO i1 i2 : Addr) (i : Nat) (h : Heap) : Prop := (IsZip h z TI TO .none ∧ IsTupOf2 h TI (.ref i1) (.ref i2) ∧ ∃ u v, IsTupOf2 h TO u v) ∧ h.IsListIter i1 a i ∧ h.IsTupleIter i2 b i
theorem turn_zipM {P : Program} {w : World} {K : PySem.W.Frag} {elts : List Expr} {kk : Nat} {tpos : Pos} {a b z TI TO i1 i2 : Addr} (xs ys : List V) (S : ZipSep2 z TI TO i1 i2 [i1, a] [i2, b]) (na : a ≠ i1) (nb : b ≠ i2) :
    Turn P w K (.Tuple elts kk tpos) (IzM K a b xs ys) [z, TI, TO, i1, i2] z (ZMs a b z TI TO i1 i2) where
  mem := List.mem_cons_self
  obj := by
    rintro i h ⟨⟨hz, hT, u, v, hO⟩, ⟨o1, e1, _, d1⟩, ⟨o2, e2, _, d2⟩⟩ c hc
    simp only [List.mem_cons, List.not_mem_nil, or_false] at hc
    rcases hc with rfl | rfl | rfl | rfl | rfl
    · exact ⟨_, hz, fun _ q => by cases q⟩
    · exact ⟨_, hT, fun _ q => by cases q⟩
    · exact ⟨_, hO, fun _ q => by cases q⟩
    · exact ⟨o1, e1, fun _ q => by rw [d1] at q; cases q⟩
    · exact ⟨o2, e2, fun _ q => by rw [d2] at q; cases q⟩
  keep := by
    rintro i h h' ⟨⟨hz, hT, u, v, hO⟩, q1, q2⟩ k
    exact ⟨⟨k z (by simp) _ hz, k TI (by simp) _ hT, u, v, k TO (by simp) _ hO⟩, Heap.IsListIter.at q1 (fun o q => k i1 (by simp) o q), Heap.IsTupleIter.at q2 (fun o q => k i2 (by simp) o q)⟩
  item := by
    intro X hP hw hK hc i pins s σ H E I hf st hg
    subst hP; subst hw; subst hK
    obtain ⟨⟨hz, hT, u0, v0, hO⟩, q1, q2⟩ := st
    obtain ⟨sx, sy, l1, l2⟩ := hg
    obtain ⟨us, ru, pu, _⟩ := Inv.list I sx
    obtain ⟨vs, rv, pv, _⟩ := Inv.tuple I sy
    obtain ⟨u, hu, ru1⟩ := Vals.get ru (i := i) (x := xs[i]) (List.getElem?_eq_getElem l1)
    obtain ⟨v, hv, rv1⟩ := Vals.get rv (i := i) (x := ys[i]) (List.getElem?_eq_getElem l2)
    have n1 := ru.length
    have n2 := rv.length
    have hh : X.A.in1.handled = none := I.ok.hd hc
    refine wpAny_pyNext_zipD2_item S (Draws.list (A := X.A.in1) hh i1 a na us.toArray) (Draws.tuple (A := X.A.in1) hh i2 b nb vs.toArray) hz hT hO ⟨q1, pu.isList⟩ ⟨q2, pv⟩ (by simp only [List.size_toArray]; omega) (by simp only [List.size_toArray]; omega) fun x1 x2 h' tk y1 y2 z' O' st1 st2 new hsz hk => ?_
    have e1 : x1 = u := by
      have z : us[i]? = some x1 := by simpa using y1
      rw [hu] at z
      exact (Option.some.inj z).symm
    have e2 : x2 = v := by
      have z : vs[i]? = some x2 := by simpa using y2
      rw [hv] at z
      exact (Option.some.inj z).symm
    subst e1; subst e2
    have low : ∀ {c : Addr} {o : Obj}, s.heap.get? c = some o → c < s.heap.objs.size := fun e => Heap.lt_size e
    have zl := low hz
    refine ⟨_, rfl, wpAny_letOwnedTupleGo_zip (s := { s with heap := h', toks := tk }) z' fun h2 z2 but => ?_⟩
    have new2 := (but.2 s.heap.objs.size (Nat.ne_of_gt zl)).trans new
    have I1 := Inv.turnedNew (h' := h2) (ch := [z, TI, TO, i1, i2]) (T := s.heap.objs.size) (ob := .tup [xs[i], ys[i]]) (t' := tk) I
      (fun c o hb q => (but.2 c (fun z => hb (by simp [z]))).trans (hk c o (fun z => hb (by simp [z])) (fun z => hb (by simp [z])) (fun z => hb (by simp [z])) (fun z => hb (by simp [z])) q)) hf (Nat.le_refl _)
      ⟨sz (by simp), [x1, x2], .cons ru1 (.cons rv1 .nil), _, new2, rfl, 0, rfl⟩
    refine ⟨.ref s.heap.objs.size, _, I1, rfl, ⟨_, _, _, rfl, HOk.fresh I.hok (Nat.le_refl _), rfl, List.getElem?_eq_getElem l1, List.getElem?_eq_getElem l2⟩, ⟨⟨z2, ?_, x1, x2, ?_⟩, ?_, ?_⟩, fun c hc' => ?_⟩
    · exact (but.2 TI S.TIz).trans (hk TI _ S.TIz S.TITO S.TIi1 S.TIi2 hT)
    · exact (but.2 TO S.TOz).trans O'
    · exact Heap.IsListIter.at st1.1 (fun o q => (but.2 i1 (Ne.symm S.zi1)).trans q)
    · exact Heap.IsTupleIter.at st2.1 (fun o q => (but.2 i2 (Ne.symm S.zi2)).trans q)
    · have lt : c < s.heap.objs.size := by
        simp only [List.mem_cons, List.not_mem_nil, or_false] at hc'
        rcases hc' with rfl | rfl | rfl | rfl | rfl
        · exact zl
        · exact low hT
        · exact low hO
        · obtain ⟨_, e, _⟩ := q1; exact low e
        · obtain ⟨_, e, _⟩ := q2; exact low e
      rw [upd_ne (Nat.ne_of_lt lt)]
      exact (hf c hc').1
  done := by
    intro X hP hw hK hc i pins s σ H E I hf st hg
    subst hP; subst hw; subst hK
    obtain ⟨⟨hz, hT, u0, v0, hO⟩, q1, q2⟩ := st
    obtain ⟨sx, sy, l1, l2⟩ := hg
    obtain ⟨us, ru, pu, _⟩ := Inv.list I sx
    obtain ⟨vs, rv, pv, _⟩ := Inv.tuple I sy
    have n1 := ru.length
    have n2 := rv.length
    have hh : X.A.in1.handled = none := I.ok.hd hc
    refine wpAny_pyNext_zipD2_end S (Draws.list (A := X.A.in1) hh i1 a na us.toArray) (Draws.tuple (A := X.A.in1) hh i2 b nb vs.toArray) hz hT hO ⟨q1, pu.isList⟩ ⟨q2, pv⟩ (by simp only [List.size_toArray]; omega) (by simp only [List.size_toArray]; omega) (by simp only [List.size_toArray]; omega) fun h' tk hk => ⟨rfl, ?_⟩
    exact Inv.turnedL (t' := tk) (ch := [z, TI, TO, i1, i2]) I (fun c o hb q => hk c o (fun z => hb (by simp [z])) (fun z => hb (by simp [z])) (fun z => hb (by simp [z])) (fun z => hb (by simp [z])) q) hf
  self := by
    rintro A i s Q E ⟨⟨hz, _⟩, _⟩ h
    exact wpAny_pyIter_zip hz h
theorem pi_zipM {X : Cx} {e e2 : Expr} {ta : TA} {p pos tpos : Pos} {elts : List Expr} {kk : Nat} (gl : Gl X "zip") (no : X.mg "zip" = none) (ha : PA X [e, e2] ta)
    (h1 : starEach [e, e2] X.env = (false, eval e X.env) :: starEach [e2] X.env := by rfl) (h2 : (backTo pos (starEach [e2] X.env)).any (·.1) = false := by rfl) :
    PI X (.Tuple elts kk tpos) (.Call (.Name "zip" p) [e, e2] [] pos) (iZipM X.K ta) := by
  constructor
  intro pins s σ H R I w
  refine PyProof.Rows.Call_ (ld_blt I gl no PyProof.Rows.boot_zip (PyProof.Rows.callWith_type1 (thn (ha.run pos pins s σ H _ I w) ?_) h1 h2))
  rintro us s1 ⟨vs, H1, I1, r, a, b, xs, ys, rfl, sx, sy, q⟩
  obtain ⟨u1, t1, rfl, r1, r⟩ : ∃ u t, us = u :: t ∧ RelV (.ref a) u ∧ Vals [.ref b] t := by
    cases r with
    | cons r1 r2 => exact ⟨_, _, rfl, r1, r2⟩
  obtain ⟨u2, rfl, r2⟩ := Vals.one r
  cases r1
  cases r2
  obtain ⟨its, ru, pu, _⟩ := Inv.list I1 sx
  obtain ⟨jts, rv, pv, _⟩ := Inv.tuple I1 sy
  have la : a < s1.heap.objs.size := by obtain ⟨_, e, _⟩ := pu.isList; exact Heap.lt_size e
  have lb : b < s1.heap.objs.size := by obtain ⟨_, e, _⟩ := id pv; exact Heap.lt_size e
  refine zip_begins2 (begins_list a its.toArray) (begins_tuple b jts.toArray) pu.isList pv fun h' hz hT hO g1 g2 hsz hk => wpAny_pyIter_zip hz ?_
  generalize hn : s1.heap.objs.size = n at *
  have I2 := Inv.kept (t' := s1.toks) I1 hk
  have Z := PySem.W.ktu_apart n a b la lb
  have two : ∀ {c d e : Addr}, c ≠ d → c ≠ e → c ∉ [d, e] := fun x y m => by
    rcases List.mem_cons.mp m with z | m
    · exact x z
    · exact y (List.mem_singleton.mp m)
  have S : ZipSep2 (n + 4) (n + 2) (n + 3) n (n + 1) [n, a] [n + 1, b] :=
    ⟨Z.TIz, Z.TOz, Z.TITO, Z.TIi1, List.mem_cons_self, two (Ne.symm Z.i1z) (Ne.symm Z.l1z), two Z.TOi1 (Ne.symm Z.l1TO), Z.TIi2, List.mem_cons_self, two (Ne.symm Z.i2z) (Ne.symm Z.l2z), two Z.TOi2 (Ne.symm Z.l2TO), two Z.i12 (Ne.symm Z.l2i1), two (Ne.symm Z.i12) (Ne.symm Z.l1i2)⟩
  refine ⟨_, [n + 4, n + 2, n + 3, n, n + 1], _, IzM X.K a b xs ys, H1, rfl, I2, turn_zipM xs ys S Z.l1i1 Z.l2i2, ⟨⟨hz, hT, _, _, hO⟩, ⟨_, g1, rfl, rfl⟩, ⟨_, g2, rfl, rfl⟩⟩, fun c hc => ?_, q⟩
  have hle : s1.heap.objs.size ≤ c := by
    simp only [List.mem_cons, List.not_mem_nil, or_false] at hc
    rw [hn]
    rcases hc with e | e | e | e | e <;> rw [e]
    · exact Nat.le_add_right n 4
    · exact Nat.le_add_right n 2
    · exact Nat.le_add_right n 3
    · exact Nat.le_refl n
    · exact Nat.le_add_right n 1
  exact Inv.fpOk I1 hle (HOk.fresh I1.hok hle)
theorem g_zipM {K : PySem.W.Frag} {σ : L2.St} {H : Hp} {ta : TA} {R : It → Hp → Prop} (h : ta σ H fun vs H1 => ∃ a b xs ys, vs = [.ref a, .ref b] ∧ SqL K H1 a xs ∧ SqT K H1 b ys ∧ R (IzM K a b xs ys) H1) : iZipM K ta σ H R := h
theorem ForQ.zipM {K : PySem.W.Frag} {g : TG} {tb : TS} {D : Ends} {σ : L2.St} {H1 : Hp} {a b : Addr} {xs ys : List V} (len : xs.length = ys.length) (I : Nat → L2.St → Hp → Prop) (h0 : I 0 σ H1) (hq : ∀ i σ H, I i σ H → SqL K H a xs ∧ SqT K H b ys)
    (hs : ∀ (i : Nat) (x y : V) (T : Addr) (σ : L2.St) (H : Hp), xs[i]? = some x → ys[i]? = some y → I i σ H → H T = none → g (.ref T) σ (upd H T (.tup [x, y])) fun σ2 H2 => tb { D with nx := I (i + 1), ct := I (i + 1), bk := D.nx } σ2 H2) (hd : ∀ σ H, I xs.length σ H → D.nx σ H) : ForQ g tb D σ (IzM K a b xs ys) H1 := by
  refine ⟨fun i m σ H => i ≤ xs.length ∧ m = xs.length - i ∧ I i σ H, ⟨_, Nat.zero_le _, rfl, h0⟩, ?_⟩
  intro i m σ H ⟨hi, hm, hp⟩
  obtain ⟨sx, sy⟩ := hq i σ H hp
  by_cases e : i = xs.length
  · subst e
    exact Or.inl ⟨⟨sx, sy, rfl, len⟩, hd _ _ hp⟩
  · have hlt : i < xs.length := by omega
    refine Or.inr ⟨⟨sx, sy, hlt, by omega⟩, I (i + 1), fun σ' H' h => ⟨xs.length - (i + 1), by omega, by omega, rfl, h⟩, ?_⟩
    intro v H' hy
    obtain ⟨T, x, y, e1, hT, e2, hx, hy'⟩ := hy
    subst e1; subst e2
    exact hs i x y T σ H hx hy' hp hT
/-! ### joined, what it promises -/
def spJoined (DC : Addr) : Sp := fun vs H Q _ => ∃ (v u : V) (rest : List V) (c w : Int) (n1 n2 : List (Option Int)) (l1 l2 : List (Int × Int × Int)) (ps : List (Nat × Nat)), vs = v :: u :: rest ∧ DiaAt DC H v c n1 l1 ∧ DiaAt DC H u c n2 l2 ∧ Fzs H rest (ps.map pairD) ∧ ps.length ≤ 1000 ∧ JOK ps n1 n2 ∧
  DOK c n1 l1 w ∧ DOK c n2 l2 w ∧ n1.length + n2.length ≤ 16 ∧ l1.length + l2.length ≤ 60 ∧ w ≤ 1000000000 ∧ ∀ (x : Addr) (H' : Hp), H x = none → DiaAt DC H' (.ref x) c (joinN ps n1 n2) (l1 ++ jlines ps n1.length l2) → (∀ b o, H b = some o → H' b = some o) → Q (.ref x) H'
def spJoinedT (DC : Addr) : Sp := fun vs H Q _ => ∃ (v u : V) (t : Addr) (rows : List V) (c w : Int) (n1 n2 : List (Option Int)) (l1 l2 : List (Int × Int × Int)) (ps : List (Nat × Nat)), vs = [v, u, .ref t] ∧ DiaAt DC H v c n1 l1 ∧ DiaAt DC H u c n2 l2 ∧ H t = some (.tup rows) ∧ Fzs H rows (ps.map pairD) ∧ ps.length ≤ 1000 ∧ JOK ps n1 n2 ∧
  DOK c n1 l1 w ∧ DOK c n2 l2 w ∧ n1.length + n2.length ≤ 16 ∧ l1.length + l2.length ≤ 60 ∧ w ≤ 1000000000 ∧ ∀ (x : Addr) (H' : Hp), H x = none → DiaAt DC H' (.ref x) c (joinN ps n1 n2) (l1 ++ jlines ps n1.length l2) → (∀ b o, H b = some o → H' b = some o) → Q (.ref x) H'
theorem joined_star {DC : Addr} : ∀ vs H Q E, spJoined DC vs H Q E → ∃ ws rest, vs = ws ++ rest ∧ ws.length = (["one", "other"] : List Str).length ∧ rest.length ≤ sizeLine ∧ ∀ p, H p = Option.none → spJoinedT DC (ws ++ [V.ref p]) (upd H p (.tup rest)) Q E := by
  rintro vs H Q E ⟨v, u, rest, c, w, n1, n2, l1, l2, ps, rfl, h1, h2, hr, hl, J, o1, o2, h16, h60, hw, q⟩
  refine ⟨[v, u], rest, rfl, rfl, by rw [hr.length, List.length_map]; exact sz (by omega), fun p np => ?_⟩
  have up := same_up (o := .tup rest) np (H := H) (fun _ _ h => h)
  exact ⟨v, u, p, rest, c, w, n1, n2, l1, l2, ps, rfl, h1.same up, h2.same up, upd_same, hr.tk (Tk.new np), hl, J, o1, o2, h16, h60, hw, fun x H' nx d s => q x H' (none_up nx up) d fun b o h => s _ _ (up _ _ h)⟩
/-! ### the law's helpers -/
def spMixedUp : Sp := fun vs H Q _ => ∃ (m c g t : Addr) (B : Int) (xs : List Int), vs = [.ref m, .ref t] ∧ Pr m c g H H B ∧ B < 2 ^ 28 ∧ H t = some (.lst (xs.map V.int)) ∧ xs.length ≤ 100 ∧
  ∀ (p : Addr) (ys : List Int) (H' : Hp), H p = none → H' p = some (.lst (ys.map V.int)) → ys.Perm xs → Pr m c g H H' (B + 100) → Q (.ref p) H'
theorem seq_at {k : Int} {n : Nat} (h0 : 0 ≤ k) (h1 : k < n) : seqIndex? k n = some k.toNat := by
  have e : (if k < 0 then k + (n : Int) else k) = k := if_neg (by omega)
  unfold seqIndex?
  simp only [e]
  rw [if_pos (by simp; omega)]
theorem erase_perm {α : Type} {xs : List α} {k : Nat} (h : k < xs.length) : (xs[k] :: xs.eraseIdx k).Perm xs := by
  rw [List.eraseIdx_eq_take_drop_succ]
  refine List.perm_middle.symm.trans ?_
  rw [← List.drop_eq_getElem_cons h, List.take_append_drop]
theorem g_popAt {p : Addr} {xs : List V} {k : Int} {y : V} {H : Hp} {Q : VK} (h : H p = some (.lst xs)) (h0 : 0 ≤ k) (h1 : k < xs.length) (h2 : k < 2 ^ 63) (e : xs[k.toNat]? = some y) (q : Q y (upd H p (.lst (xs.eraseIdx k.toNat)))) : rPopAt (.ref p) [.int k] H Q :=
  ⟨p, xs, k, k.toNat, y, rfl, rfl, h, by omega, h2, seq_at h0 h1, e, q⟩
theorem erase_map {α β : Type} (f : α → β) : ∀ (xs : List α) (k : Nat), (xs.map f).eraseIdx k = (xs.eraseIdx k).map f
  | [], _ => rfl
  | _ :: _, 0 => rfl
  | x :: xs, k + 1 => by rw [List.map_cons, List.eraseIdx_cons_succ, List.eraseIdx_cons_succ, List.map_cons, erase_map f xs k]
def joinD (b1 b2 : Book) (ps : List (Nat × Nat)) : PyData := .tuple [.int b1.c, notesD (joinN ps b1.notes b2.notes), linesD (b1.lines ++ jlines ps b1.notes.length b2.lines)]
def spDue54 : Sp := fun vs H Q _ => ∃ (v u : V) (t : Addr) (b1 b2 : Book) (w : Int) (ps : List (Nat × Nat)) (rows : List V), vs = [v, u, .ref t] ∧ Fz H v b1.d ∧ Fz H u b2.d ∧ H t = some (.lst rows) ∧ Fzs H rows (ps.map pairD) ∧ JOK ps b1.notes b2.notes ∧ b1.notes.length ≤ 100 ∧ ps.length ≤ 100 ∧ DOK b2.c b2.notes b2.lines w ∧ b1.lines.length ≤ 100 ∧ b2.lines.length ≤ 100 ∧
  ∀ (x : V) (H' : Hp), Fz H' x (joinD b1 b2 ps) → (∀ b o, H b = some o → H' b = some o) → Q x H'
def NamesD (ps : List (Nat × Nat)) (n1 k : Nat) (kvs : List (Key × V)) : Prop := kvs.length ≤ ps.length + k ∧ ∀ j : Nat, valV kvs (Sum.inl (j : Int)) = if j < k then some (V.int (jnum ps n1 j : Nat)) else (jfind ps j).map fun i => V.int (i : Nat)
theorem NamesD.start {ps : List (Nat × Nat)} {n1 : Nat} {kvs : List (Key × V)} (h : PairsD ps kvs) : NamesD ps n1 0 kvs := ⟨h.1, fun j => by rw [if_neg (Nat.not_lt_zero j)]; exact h.2 j⟩
theorem NamesD.skip {ps : List (Nat × Nat)} {n1 k i : Nat} {kvs : List (Key × V)} (h : NamesD ps n1 k kvs) (e : jfind ps k = some i) : NamesD ps n1 (k + 1) kvs := by
  refine ⟨Nat.le_succ_of_le h.1, fun j => ?_⟩
  rw [h.2 j]
  by_cases q : j = k
  · subst q
    rw [if_neg (Nat.lt_irrefl j), if_pos (Nat.lt_succ_self j), e]
    unfold jnum
    rw [e]; rfl
  · by_cases q2 : j < k
    · rw [if_pos q2, if_pos (by omega)]
    · rw [if_neg q2, if_neg (by omega)]
theorem NamesD.put {ps : List (Nat × Nat)} {n1 k : Nat} {kvs : List (Key × V)} (h : NamesD ps n1 k kvs) : NamesD ps n1 (k + 1) (putK kvs (Sum.inl (k : Int)) (.int (jnum ps n1 k : Nat))) := by
  refine ⟨by have := length_putK kvs (Sum.inl (k : Int) : Key) (.int (jnum ps n1 k : Nat)); have := h.1; omega, fun j => ?_⟩
  rw [valV_put, h.2 j]
  by_cases q : j = k
  · subst q
    rw [if_pos rfl, if_pos (Nat.lt_succ_self j)]
  · rw [if_neg (fun z => q (by injection z with z; exact Int.ofNat_inj.mp z))]
    by_cases q2 : j < k
    · rw [if_pos q2, if_pos (by omega)]
    · rw [if_neg q2, if_neg (by omega)]
theorem NamesD.get {ps : List (Nat × Nat)} {n1 m : Nat} {kvs : List (Key × V)} (h : NamesD ps n1 m kvs) {H : Hp} {a : Addr} (e : H a = some (.dK kvs)) {i : Int} (h0 : 0 ≤ i) (h1 : i < m) : DGet H a (.int i) (some (.int (jnum ps n1 i.toNat : Nat))) := by
  have z := dget_int (k := i.toNat) e
  rw [h.2 i.toNat, if_pos (by omega), show ((i.toNat : Nat) : Int) = i by omega] at z
  exact z
/-! ### pairs drawn -/
theorem ForQ.zipN {K : PySem.W.Frag} {g : TG} {tb : TS} {D : Ends} {σ : L2.St} {H1 : Hp} {a b : Addr} {xs ys : List V} (I : Nat → L2.St → Hp → Prop) (h0 : I 0 σ H1) (hq : ∀ i σ H, I i σ H → SqL K H a xs ∧ SqL K H b ys)
    (hs : ∀ (i : Nat) (x y : V) (T : Addr) (σ : L2.St) (H : Hp), xs[i]? = some x → ys[i]? = some y → I i σ H → H T = none → g (.ref T) σ (upd H T (.tup [x, y])) fun σ2 H2 => tb { D with nx := I (i + 1), ct := I (i + 1), bk := D.nx } σ2 H2) (hd : ∀ i σ H, I i σ H → D.nx σ H) : ForQ g tb D σ (Itz K a b) H1 := by
  refine ⟨fun i m σ H => i ≤ xs.length ∧ m = xs.length - i ∧ I i σ H, ⟨_, Nat.zero_le _, rfl, h0⟩, ?_⟩
  intro i m σ H ⟨hi, hm, hp⟩
  obtain ⟨sx, sy⟩ := hq i σ H hp
  rcases Nat.lt_or_ge i xs.length with h1 | h1
  · rcases Nat.lt_or_ge i ys.length with h2 | h2
    · refine Or.inr ⟨⟨xs, ys, xs[i], ys[i], sx, sy, List.getElem?_eq_getElem h1, List.getElem?_eq_getElem h2⟩, I (i + 1), fun σ' H' h => ⟨xs.length - (i + 1), by omega, by omega, rfl, h⟩, ?_⟩
      rintro v H' ⟨T, x, y, rfl, hT, rfl, hx, hy⟩
      exact hs i x y T σ H (hx xs sx) (hy ys sy) hp hT
    · exact Or.inl ⟨⟨xs, ys, sx, sy, Or.inr h2⟩, hd i _ _ hp⟩
  · exact Or.inl ⟨⟨xs, ys, sx, sy, Or.inl h1⟩, hd i _ _ hp⟩
theorem g_lstRg {te : L2.St → Hp → (Int → Int → Hp → Prop) → Prop} {σ : L2.St} {H : Hp} {Q : VK} (h : te σ H fun a b H1 => RgOk a b ∧ ∀ q, H1 q = none → Q (.ref q) (upd H1 q (.lst (rgV a b)))) : tLstRg te σ H Q := h
theorem g_rg1 {ta : TE} {σ : L2.St} {H : Hp} {R : Int → Int → Hp → Prop} (h : ta σ H fun x H1 => ∃ n, x = V.int n ∧ R 0 n H1) : tRg1 ta σ H R := h
theorem rgV_ints (n : Nat) : rgV 0 (n : Int) = (((List.range n).map fun i => ((i : Nat) : Int))).map V.int := by
  unfold rgV
  rw [show ((n : Int) - 0).toNat = n by omega, List.map_map]
  exact List.map_congr_left fun i _ => by simp
/-- an arrangement of the numbers below n -/
theorem perm_nats {ys : List Int} {n : Nat} (h : ys.Perm ((List.range n).map fun i => ((i : Nat) : Int))) : ∃ A : List Nat, ys = A.map (fun i => ((i : Nat) : Int)) ∧ A.Nodup ∧ (∀ i ∈ A, i < n) ∧ A.length = n := by
  have p : (ys.map Int.toNat).Perm (List.range n) := by
    have z := h.map Int.toNat
    rw [List.map_map] at z
    have e : (List.range n).map (Int.toNat ∘ fun i => ((i : Nat) : Int)) = List.range n := by
      conv => rhs; rw [← List.map_id (List.range n)]
      exact List.map_congr_left fun i _ => rfl
    rw [e] at z
    exact z
  refine ⟨ys.map Int.toNat, ?_, p.nodup_iff.mpr List.nodup_range, fun i hi => List.mem_range.mp (p.mem_iff.mp hi), by rw [p.length_eq, List.length_range]⟩
  rw [List.map_map]
  conv => lhs; rw [← List.map_id ys]
  refine List.map_congr_left fun y hy => ?_
  obtain ⟨i, _, rfl⟩ := List.mem_map.mp (h.mem_iff.mp hy)
  rfl
def PFit (N1 N2 : List (Option Int)) (p : Nat × Nat) : Prop := N1.getD p.1 none = none ∨ N2.getD p.2 none = none ∨ N1.getD p.1 none = N2.getD p.2 none
theorem zip_fst : ∀ (A B : List Nat), ((A.zip B).map (·.1)).Sublist A
  | [], _ => by simp
  | _ :: _, [] => by simp
  | a :: A, b :: B => by rw [List.zip_cons_cons, List.map_cons]; exact (zip_fst A B).cons_cons a
theorem zip_snd : ∀ (A B : List Nat), ((A.zip B).map (·.2)).Sublist B
  | [], _ => by simp
  | _ :: _, [] => by simp
  | a :: A, b :: B => by rw [List.zip_cons_cons, List.map_cons]; exact (zip_snd A B).cons_cons b
theorem jok_of {A B : List Nat} {N1 N2 : List (Option Int)} {ps : List (Nat × Nat)} (hA : A.Nodup) (hB : B.Nodup) (lA : ∀ i ∈ A, i < N1.length) (lB : ∀ i ∈ B, i < N2.length) (s : ps.Sublist (A.zip B)) (f : ∀ p ∈ ps, PFit N1 N2 p) : JOK ps N1 N2 := by
  have m : ∀ p ∈ ps, p.1 ∈ A ∧ p.2 ∈ B := fun p hp => List.of_mem_zip (s.subset hp)
  have s1 : (ps.map (·.1)).Sublist A := (s.map (·.1)).trans (zip_fst A B)
  have s2 : (ps.map (·.2)).Sublist B := (s.map (·.2)).trans (zip_snd A B)
  exact ⟨fun p hp => lA _ (m p hp).1, fun p hp => lB _ (m p hp).2, s1.nodup hA, s2.nodup hB, f⟩
theorem JOK.take {ps : List (Nat × Nat)} {N1 N2 : List (Option Int)} (J : JOK ps N1 N2) (k : Nat) : JOK (ps.take k) N1 N2 := by
  have s := List.take_sublist k ps
  exact ⟨fun p hp => J.fst p (s.subset hp), fun p hp => J.snd p (s.subset hp), (s.map (·.1)).nodup J.ndF, (s.map (·.2)).nodup J.ndS, fun p hp => J.fit p (s.subset hp)⟩
def spPairs54 : Sp := fun vs H Q _ => ∃ (m c g : Addr) (B : Int) (v u : V) (b1 b2 : Book), vs = [.ref m, v, u] ∧ Pr m c g H H B ∧ B < 2 ^ 27 ∧ Fz H v b1.d ∧ Fz H u b2.d ∧ b1.notes.length ≤ 100 ∧ b2.notes.length ≤ 100 ∧
  ∀ (p : Addr) (rows : List V) (ps : List (Nat × Nat)) (H' : Hp), H p = none → H' p = some (.lst rows) → Fzs H' rows (ps.map pairD) → ps.length ≤ 3 → JOK ps b1.notes b2.notes → Pr m c g H H' (B + 300) → Q (.ref p) H'
theorem pl_pairs (ps : List (Nat × Nat)) : pl 2 (.list (ps.map pairD)) := by
  show ∀ d ∈ ps.map pairD, pl 1 d
  intro d hd
  obtain ⟨p, _, rfl⟩ := List.mem_map.mp hd
  simp [pairD, pl]
theorem eqv_nilPairs (ps : List (Nat × Nat)) : (PyData.list (ps.map pairD)).eqv (.list []) = decide (ps = []) := by
  have e := pl_eqv (pl_pairs ps) (pl_mono' pl_nilL (by decide : 1 ≤ 2))
  by_cases h : ps = []
  · subst h
    rfl
  · rw [decide_eq_false h]
    cases q : (PyData.list (ps.map pairD)).eqv (.list []) with
    | false => rfl
    | true =>
      have z := e.mp q
      injection z with z
      exact absurd (List.map_eq_nil_iff.mp z) h
theorem pl_joinD (b1 b2 : Book) (ps : List (Nat × Nat)) : pl 3 (joinD b1 b2 ps) := by
  unfold joinD
  show ∀ d ∈ _, pl 2 d
  intro d hd
  simp only [List.mem_cons, List.not_mem_nil, or_false] at hd
  rcases hd with rfl | rfl | rfl
  · simp [pl]
  · exact pl_mono (pl_notes _)
  · exact pl_lines _
theorem joinD_eqv (b1 b2 : Book) (ps : List (Nat × Nat)) : (joinD b1 b2 ps).eqv (joinD b1 b2 ps) = true := (pl_eqv (pl_joinD b1 b2 ps) (pl_joinD b1 b2 ps)).mpr rfl
/-! ### defs with a star, by their names -/
structure HasR (P : Program) (w : World) (K : PySem.W.Frag) (mg : Str → Option Value) (base : Heap) (CX : CXT) (k : Nat) (x : Str) (sp : Sp) : Prop where
  ex : ∃ f, mg x = some (.ref f) ∧ PySem.W.keepIn K (.ref f) = true ∧ FnR P w K mg base CX k f sp
def tCallR (sp : Sp) (E : XK) (t : TA) : TE := fun σ H Q => t σ H fun vs H1 => sp vs H1 Q E
theorem g_callR {sp : Sp} {E : XK} {t : TA} {σ : L2.St} {H : Hp} {Q : VK} (h : t σ H fun vs H1 => sp vs H1 Q E) : tCallR sp E t σ H Q := h
theorem pe_hasR {X : Cx} {CX : CXT} {k j : Nat} {x : Str} {sp : Sp} {E : XK} {e : Expr} {es : List Expr} {t : TA} {p pos : Pos} (F : HasR X.prog X.w X.K X.mg X.base CX k x sp) (room : Room j X.A) (le : k ≤ j) (pass : Passes CX X E) (ha : PA X (e :: es) t) (gl : Gl X x := by rfl) (db : (x == ("__debug__" : Str)) = false := by decide)
    (h1 : starEach (e :: es) X.env = (false, eval e X.env) :: starEach es X.env := by rfl) (h2 : (backTo pos (starEach es X.env)).any (·.1) = false := by rfl) : PE X (.Call (.Name x p) (e :: es) [] pos) (tCallR sp E t) := by
  obtain ⟨f, m, kp, F⟩ := F.ex
  constructor
  intro pins s σ H Q I w0
  refine wpAny_Call_Name_kw (ld_glob I gl m ?_ db)
  refine PySem.W.callWith_K (h₀ := X.base) I.ok.mod.kin kp (thn (ha.run pos pins s σ H _ I w0) ?_) h1 h2
  rintro us s1 ⟨vs, H1, I1, r, q⟩
  exact ⟨I1.kIn, wpAny_call (run_fnR F (room.mono le) pass I1 r q)⟩
theorem len1 {α : Type} {xs : List α} (h : xs.length = 1) : ∃ a, xs = [a] := by
  match xs, h with
  | [a], _ => exact ⟨a, rfl⟩
theorem len2 {α : Type} {xs : List α} (h : xs.length = 2) : ∃ a b, xs = [a, b] := by
  match xs, h with
  | [a, b], _ => exact ⟨a, b, rfl⟩
theorem len3 {α : Type} {xs : List α} (h : xs.length = 3) : ∃ a b c, xs = [a, b, c] := by
  match xs, h with
  | [a, b, c], _ => exact ⟨a, b, c, rfl⟩
theorem dec_len {n k : Nat} : decide (V.int (n : Int) = V.int (k : Int)) = decide (n = k) := by
  by_cases e : n = k
  · rw [e]; simp
  · rw [decide_eq_false e, decide_eq_false (fun z => by injection z with z; exact e (Int.ofNat_inj.mp z))]
end WL
set_option Elab.async false
set_option linter.all false
set_option maxRecDepth 100000
set_option maxHeartbeats 4000000
namespace WL
open PySem PySem.Spec PyProof.Rows L2
/-! ### exceptions of two fields -/
theorem look3 {f1 f2 : Str} {a b c : Value} (n1 : f1 ≠ ("self" : Str)) (n2 : f2 ≠ ("self" : Str)) (n12 : f1 ≠ f2) : ([(("self" : Str), a), (f1, b), (f2, c)].reverse.lookup ("self" : Str) = some a) ∧ ([(("self" : Str), a), (f1, b), (f2, c)].reverse.lookup f1 = some b) ∧ ([(("self" : Str), a), (f1, b), (f2, c)].reverse.lookup f2 = some c) := by
  have e1 : (("self" : Str) == f2) = false := beq_eq_false_iff_ne.mpr n2.symm
  have e2 : (("self" : Str) == f1) = false := beq_eq_false_iff_ne.mpr n1.symm
  have e3 : (f1 == f2) = false := beq_eq_false_iff_ne.mpr n12
  refine ⟨?_, ?_, ?_⟩
  · show List.lookup ("self" : Str) [(f2, c), (f1, b), (("self" : Str), a)] = some a
    rw [List.lookup_cons, e1, List.lookup_cons, e2]
    simp [List.lookup]
  · show List.lookup f1 [(f2, c), (f1, b), (("self" : Str), a)] = some b
    rw [List.lookup_cons, e3, List.lookup_cons, beq_self_eq_true]
  · show List.lookup f2 [(f2, c), (f1, b), (("self" : Str), a)] = some c
    rw [List.lookup_cons, beq_self_eq_true]
section
variable {prog : Program} {w : World} {A : Around} {E : Value → Shared → Prop} {K : PySem.W.Frag} {mg : Str → Option Value} {C fI : Addr} {fd : FuncData} {h : Heap} {g : Array GenState} {d : Drawn} {t : Nat} {os : OsState}
theorem ex_init2 {x t0 : Addr} {v1 v2 : Value} {f1 f2 : Str} {mb : Str → Option Value} {R : Result → Shared → Prop} (T : ExT prog K mg [f1, f2] C fI) (J : ExI prog K [f1, f2] C fI fd) (X : K.In h) (G : h.Ns mainGlobals mg) (B : h.Ns builtinsNs mb) (bb : ∀ x : Str, x ≠ "__name__" → mb x = bootBuiltins x) (lim : h.NoLimit) (room : A.depth < recursionLimit)
    (hx : h.get? x = some (HandSPX.excO C t0)) (hxK : K.lookup x = none) (d1 : (f1 == ("__debug__" : Str)) = false) (d2 : (f2 == ("__debug__" : Str)) = false) (n1 : f1 ≠ ("self" : Str)) (n2 : f2 ≠ ("self" : Str)) (n12 : f1 ≠ f2)
    (hb : ∀ s : Shared, K.In s.heap → BindsTo s fd ⟨[.ref x, v1, v2], []⟩ [("self", .ref x), (f1, v1), (f2, v2)])
    (hq : ∀ h' t' dx, (∀ b o, b ≠ x → h.get? b = some o → h'.get? b = some o) → h.objs.size ≤ dx → dx ≠ x → ExAt h' x C dx (fun y => if y = f2 then some v2 else if y = f1 then some v1 else none) → R (.ok (.ret .none)) ⟨h', g, d, t', os⟩) :
    codeAny (model prog w) A (.call (.ref fI) ⟨[.ref x, v1, v2], []⟩) R ⟨h, g, d, t, os⟩ := by
  obtain ⟨oc, od, osl, lk⟩ := J.at_
  obtain ⟨msg, k, q, qs, hbody, hlen, hpos⟩ := J.body
  have ok := J.ok
  unfold scOk at ok
  obtain ⟨o1, ok⟩ := He.ba ok
  obtain ⟨_, ok⟩ := He.ba ok
  obtain ⟨_, ok⟩ := He.ba ok
  obtain ⟨o4, o5⟩ := He.ba ok
  have ls : fd.scope.names.lookup ("self" : Str) = some .local := of_decide_eq_true o1
  have m1 : f1 ∈ [f1, f2] := List.mem_cons_self
  have m2 : f2 ∈ [f1, f2] := List.mem_cons_of_mem _ List.mem_cons_self
  have lf1 : fd.scope.names.lookup f1 = some .local := of_decide_eq_true (List.all_eq_true.mp o4 f1 m1)
  have lf2 : fd.scope.names.lookup f2 = some .local := of_decide_eq_true (List.all_eq_true.mp o4 f2 m2)
  match qs, hlen with
  | [q1, q2], _ =>
    have lk3 := look3 (a := Value.ref x) (b := v1) (c := v2) n1 n2 n12
    refine ks_codeAny_call_defAt (binds := [("self", .ref x), (f1, v1), (f2, v2)]) room (X _ _ lk) rfl lim (PySem.W.codeRec_of X J.rec_) hbody (hb _ X) (fun y hy => of_decide_eq_true (List.all_eq_true.mp o5 y hy)) (fun y hy => ?_) ?_ J.co J.gen J.kind
    · rcases List.mem_cons.mp hy with rfl | hy
      · exact ls
      · rcases List.mem_cons.mp hy with rfl | hy
        · exact lf1
        · rw [List.mem_singleton.mp hy]
          exact lf2
    · intro h0 hn0 k0
      have Lx : h.objs.size ≠ x := Nat.ne_of_gt (Heap.lt_size hx)
      refine ks_wpAt_execs_cons (sup_step T J (X.keeps k0) (G.keeps k0) (B.keeps k0) bb hpos hn0 lk3.1 (k0 _ _ hx) ?_)
      intro h1 t1 tt k1 hx1
      have kK : ∀ b o, K.lookup b = some o → b ≠ x := fun b o e z => by rw [z, hxK] at e; cases e
      have X1 : K.In h1 := fun b o e => k1 b o (kK b o e) (k0 _ _ (X b o e))
      obtain ⟨oL, es, ep, hoL, r1, r2⟩ := hn0
      have hoL1 := k1 _ _ Lx hoL
      have hn1 : h1.Ns h.objs.size _ := ⟨oL, es, ep, hoL1, r1, r2⟩
      refine wpAt_of_wpAny (wpAny_execs_cons (fld_first T m1 X1 J.kind ls lf1 d1 hn1 lk3.1 lk3.2.1 hx1 ?_))
      intro h2 t2 dx k2 dn dne ex
      have X2 : K.In h2 := fun b o e => k2 b o (kK b o e) (X1 b o e)
      have hn2 : h2.Ns h.objs.size _ := ⟨oL, es, ep, k2 _ _ Lx hoL1, r1, r2⟩
      have hsz : h.objs.size ≤ h1.objs.size := Nat.le_of_lt (Heap.lt_size hoL1)
      have hi : Within (fun y : Str => if y = f1 then some v1 else none) [f1] := fun y hy => by
        by_cases e : y = f1
        · rw [e]; exact List.mem_cons_self
        · exact absurd (if_neg e) hy
      refine wpAny_execs_cons (fld_next T m2 X2 J.kind ls lf2 d2 hn2 lk3.1 lk3.2.2 ex hi (by simp) ?_)
      intro h3 t3 k3 ex3
      refine wpAny_execs_nil (hq h3 t3 dx (fun b o hb e => ?_) (Nat.le_trans hsz dn) dne ex3)
      have e2 := k2 b o hb (k1 b o hb (k0 b o e))
      by_cases z : b = dx
      · have lt := Heap.lt_size e
        rw [z] at lt
        exact absurd (Nat.lt_of_lt_of_le lt (Nat.le_trans hsz dn)) (Nat.lt_irrefl _)
      · exact k3 b o z e2
end
section
variable {X : Cx} {f1 f2 : Str} {C fI : Addr} {fd : FuncData}
def tMkEx2 (C : Addr) (f1 f2 : Str) (ta : TA) : L2.St → Hp → XK → Prop := fun σ H Q => ta σ H fun vs H1 => ∃ v u, vs = [v, u] ∧ ∀ d, H1 d = none → Q (.ref C) (some d) (upd H1 d (.xd [(f1, v), (f2, u)]))
theorem g_mkex2 {ta : TA} {σ : L2.St} {H : Hp} {Q : XK} (h : ta σ H fun vs H1 => ∃ v u, vs = [v, u] ∧ ∀ (d : Addr), H1 d = none → Q (.ref C) (some d) (upd H1 d (.xd [(f1, v), (f2, u)]))) : tMkEx2 C f1 f2 ta σ H Q := h
theorem relO_two {v u : V} {a b : Value} (r1 : RelV v a) (r2 : RelV u b) (n12 : f1 ≠ f2) (y : Str) : RelO ([(f1, v), (f2, u)].lookup y) (if y = f2 then some b else if y = f1 then some a else none) := by
  by_cases e1 : y = f1
  · subst e1
    rw [if_neg n12, if_pos rfl, List.lookup_cons, beq_self_eq_true]
    exact r1
  · rw [if_neg e1, List.lookup_cons, beq_eq_false_iff_ne.mpr e1]
    by_cases e2 : y = f2
    · subst e2
      rw [if_pos rfl]
      show RelO (List.lookup y [(y, u)]) _
      rw [List.lookup_cons, beq_self_eq_true]
      exact r2
    · rw [if_neg e2]
      show RelO (List.lookup y [(f2, u)]) _
      rw [List.lookup_cons, beq_eq_false_iff_ne.mpr e2]
      exact True.intro
theorem Vals.two' {v u : V} {us : List Value} (h : Vals [v, u] us) : ∃ a b, us = [a, b] ∧ RelV v a ∧ RelV u b := by
  cases h with
  | cons r1 h =>
    cases h with
    | cons r2 h =>
      cases h
      exact ⟨_, _, rfl, r1, r2⟩
theorem pmk_ex2 {x : Str} {e1 e2 : Expr} {ta : TA} {p pos : Pos} {k : Nat} (T : ExT X.prog X.K X.mg [f1, f2] C fI) (J : ExI X.prog X.K [f1, f2] C fI fd) (hr : Room k X.A) (gC : X.mg x = some (.ref C)) (d1 : (f1 == ("__debug__" : Str)) = false) (d2 : (f2 == ("__debug__" : Str)) = false) (n1 : f1 ≠ ("self" : Str)) (n2 : f2 ≠ ("self" : Str)) (n12 : f1 ≠ f2)
    (hb : ∀ (s : Shared) (u v1 v2 : Value), X.K.In s.heap → BindsTo s fd ⟨[u, v1, v2], []⟩ [(("self" : Str), u), (f1, v1), (f2, v2)]) (ha : PA X [e1, e2] ta) (hg : Gl X x := by rfl) (hd : (x == ("__debug__" : Str)) = false := by decide)
    (h1 : starEach [e1, e2] X.env = (false, eval e1 X.env) :: starEach [e2] X.env := by rfl) (h2 : (backTo pos (starEach [e2] X.env)).any (·.1) = false := by rfl) :
    PMk X (.Call (.Name x p) [e1, e2] [] pos) (tMkEx2 C f1 f2 ta) := by
  intro pins s σ H Q I h
  refine wpAny_Call_Name_kw (ld_glob I hg gC ?_ hd)
  refine PySem.W.callWith_K (h₀ := X.base) I.ok.mod.kin T.kC (thn (ha.run pos pins s σ H _ I h) ?_) h1 h2
  rintro us s1 ⟨vs, H1, I1, r1, v, v', ev, q1⟩
  subst ev
  refine ⟨I1.kIn, ?_⟩
  obtain ⟨u, u', rfl, ru, ru'⟩ := Vals.two' r1
  obtain ⟨nm, qn, N, bs, bm, sn, sub, ab, col, dd, k0, k1, k2, k3, k5, hC, hbm⟩ := T.cls
  have lim := I1.nolimit
  have glo := I1.ok.mod.glob.keeps I1.bk
  obtain ⟨mb, bl, bb⟩ := I1.ok.mod.blt
  have bl' := bl.keeps I1.bk
  have XK := I1.kIn
  have fresh : ∀ b : Addr, s1.heap.objs.size ≤ b → H1 b = none := fun b hb => I1.hok.fresh hb
  obtain ⟨hp, g, dr, tk, os⟩ := s1
  show wpAny _ _ (call (.ref C) [u, u']) _ _ _
  have up : ∀ b o, hp.get? b = some o → ((hp.push (PySem.W.kdv_tup [u, u'])).push (HandSPX.excO C hp.objs.size)).get? b = some o := fun b o e => Heap.get?_push_of_some _ (Heap.get?_push_of_some _ e)
  have at1 : ((hp.push (PySem.W.kdv_tup [u, u'])).push (HandSPX.excO C hp.objs.size)).get? (hp.objs.size + 1) = some (HandSPX.excO C hp.objs.size) := by heap_get
  have nK : X.K.lookup (hp.objs.size + 1) = none := by
    cases e : X.K.lookup (hp.objs.size + 1) with
    | none => rfl
    | some o => exact absurd (Nat.lt_of_succ_lt (Heap.lt_size (XK _ _ e))) (Nat.lt_irrefl _)
  refine wpAny_call (HandSPX.call_own F.excBase_ValueError (fun Y => HandSPX.refsVE_contains Y bm hbm) (XK _ _ hC) (PySem.W.looks_findIn XK T.iC) (fun self => PySem.W.bind_fn XK self T.tI) (show 2 ≤ sizeLine by decide) ?_)
  refine ex_init2 T J (XK.keeps up) (glo.keeps up) (bl'.keeps up) bb (lim.keeps up) ?_ at1 nK d1 d2 n1 n2 n12 (fun s hs => hb s _ _ _ hs) ?_
  · have := hr.dp
    rw [make_depth]
    omega
  intro h' t' dx kp dn dne ex
  refine ⟨rfl, ?_⟩
  show MkP X pins σ Q (.ref (hp.objs.size + 1)) _
  obtain ⟨⟨t1, he⟩, hns⟩ := ex
  obtain ⟨G', g1, g2⟩ := restrict h' fun b => decide (b ≠ hp.objs.size + 1)
  have gk : ∀ b, b ≠ hp.objs.size + 1 → G'.get? b = h'.get? b := fun b hb => g1 b (decide_eq_true hb)
  have ge : G'.get? (hp.objs.size + 1) = none := g2 _ (by simp)
  have old : ∀ b o, hp.get? b = some o → G'.get? b = some o := fun b o e => by
    have nb : b ≠ hp.objs.size + 1 := Nat.ne_of_lt (Nat.lt_succ_of_lt (Heap.lt_size e))
    rw [gk b nb]
    exact kp b o nb (up b o e)
  have dsz : hp.objs.size ≤ dx := by
    have e : hp.objs.size + 1 + 1 ≤ dx := by
      have z := dn
      rw [Heap.size_push, Heap.size_push] at z
      exact z
    exact Nat.le_trans (Nat.le_trans (Nat.le_succ _) (Nat.le_succ _)) e
  have ob : ObjOk X.prog X.w (upd H1 dx (.xd [(f1, v), (f2, v')])) G' dx (.xd [(f1, v), (f2, v')]) := ⟨_, hns.at (fun o e => (gk dx dne).trans e), fun y => relO_two ru ru' n12 y⟩
  have Jv : Inv X pins σ (upd H1 dx (.xd [(f1, v), (f2, v')])) ⟨G', g, dr, t', os⟩ := I1.laid (t' := t') old dsz ob
  refine ⟨hp.objs.size + 1, _, _, ⟨G', g, dr, t', os⟩, _, .ref C, some dx, rfl, Jv, fun b o e => ?_, ge, he, ⟨rfl, rfl⟩, rfl, rfl, ?_, rfl, Jv.bare, raises_own T.exC T.tyC, q1 dx (fresh dx dsz)⟩
  · by_cases hb : b = hp.objs.size + 1
    · have e' : G'.get? b = some o := e
      rw [hb, ge] at e'
      cases e'
    · exact (gk b hb).symm.trans e
  · rw [upd_ne (Ne.symm dne)]
    exact fresh _ (Nat.le_succ _)
end
/-- such a class for its callers: part, and another field -/
structure EvD (P : Program) (K : PySem.W.Frag) (mg : Str → Option Value) (x f1 f2 : Str) (C : Addr) : Prop where
  at_ : mg x = some (.ref C)
  ex : ∃ fI fd, ExT P K mg [f1, f2] C fI ∧ ExI P K [f1, f2] C fI fd ∧ ∀ (s : Shared) (u v1 v2 : Value), K.In s.heap → BindsTo s fd ⟨[u, v1, v2], []⟩ [("self", u), (f1, v1), (f2, v2)]
end WL
set_option Elab.async false
set_option linter.all false
set_option maxRecDepth 100000
set_option maxHeartbeats 4000000
namespace WL
open PySem PySem.Spec PyProof.Rows L2
/-! ### texts of numbers -/
def numS (i : Int) : Str := Str.ofString (toString i)
theorem tl_numN (n : Nat) : TL.tl (numS (n : Int)) = TL.numL n := TL.tl_num n
theorem tl_numNeg (n : Nat) : TL.tl (numS (-((n : Int) + 1))) = 45 :: TL.numL (n + 1) := by
  have e : numS (-((n : Int) + 1)) = Str.ofString ("-" ++ toString (((n + 1 : Nat) : Int))) := by
    unfold numS
    rw [show -((n : Int) + 1) = Int.negSucc n by omega]
    rfl
  rw [e, TL.tl_ofString, String.toList_append, List.map_append, ← TL.tl_ofString, ← TL.tl_ofString, TL.tl_num]
  rfl
theorem num_cases (i : Int) : (∃ n : Nat, i = n) ∨ ∃ n : Nat, i = -((n : Int) + 1) := by
  rcases (by omega : i < 0 ∨ 0 ≤ i) with h | h
  · exact Or.inr ⟨(-i - 1).toNat, by omega⟩
  · exact Or.inl ⟨i.toNat, by omega⟩
theorem num_free {i : Int} {s : Nat} (h : s < 45 ∨ 57 < s) : s ∉ TL.tl (numS i) := by
  rcases num_cases i with ⟨n, rfl⟩ | ⟨n, rfl⟩
  · rw [tl_numN]
    exact TL.numL_free (by omega)
  · rw [tl_numNeg]
    intro hm
    rcases List.mem_cons.mp hm with z | z
    · omega
    · exact TL.numL_free (by omega) z
theorem num_len {i : Int} (h : -10000000000 < i ∧ i < 10000000000) : (numS i).length ≤ 11 := by
  rcases num_cases i with ⟨n, rfl⟩ | ⟨n, rfl⟩
  · rw [TL.len_tl, tl_numN]
    have := TL.numL_len (n := n) (k := 10) (by decide) (by omega)
    omega
  · rw [TL.len_tl, tl_numNeg, List.length_cons]
    have := TL.numL_len (n := n + 1) (k := 10) (by decide) (by omega)
    omega
theorem num_ne_dash (i : Int) : numS i ≠ (("-" : Str)) := by
  intro e
  have z := congrArg TL.tl e
  rcases num_cases i with ⟨n, rfl⟩ | ⟨n, rfl⟩
  · rw [tl_numN] at z
    have h := TL.numL_free (n := n) (s := 45) (by omega)
    rw [z] at h
    exact h (by decide)
  · rw [tl_numNeg] at z
    have e2 : TL.tl ("-" : Str) = [45] := rfl
    rw [e2] at z
    injection z with _ z
    exact TL.numL_ne _ z
/-- the digits alone -/
def digS (i : Int) : Str := ⟨(TL.numL i.natAbs).toArray⟩
theorem tl_digS (i : Int) : TL.tl (digS i) = TL.numL i.natAbs := rfl
theorem sub_dash (n : Nat) : Builtin.Str.subAt (numS (-((n : Int) + 1))) "-" 0 = true := by
  unfold Builtin.Str.subAt
  rw [beq_iff_eq]
  apply Array.toList_inj.mp
  rw [Array.toList_extract]
  show ((TL.tl (numS (-((n : Int) + 1)))).drop 0).take _ = [45]
  rw [tl_numNeg]
  rfl
theorem sub_no (n : Nat) : Builtin.Str.subAt (numS (n : Int)) "-" 0 = false := by
  unfold Builtin.Str.subAt
  refine beq_eq_false_iff_ne.mpr fun e => ?_
  have z := congrArg Array.toList e
  rw [Array.toList_extract] at z
  have z2 : ((TL.tl (numS (n : Int))).drop 0).take (0 + ("-" : Str).length - 0) = [45] := z
  rw [tl_numN] at z2
  have h := TL.numL_free (n := n) (s := 45) (by omega)
  have m : 45 ∈ ((TL.numL n).drop 0).take (0 + ("-" : Str).length - 0) := by rw [z2]; simp
  exact h (List.mem_of_mem_drop (List.mem_of_mem_take m))
theorem num_strip (i : Int) : Txt.removeprefix (numS i) "-" = digS i := by
  rcases num_cases i with ⟨n, rfl⟩ | ⟨n, rfl⟩
  · rw [StrLaws.removeprefix_eq, sub_no, if_neg (by simp)]
    apply TL.ext_tl
    rw [tl_digS, tl_numN, Int.natAbs_natCast]
  · rw [StrLaws.removeprefix_eq, sub_dash, if_pos (by
      rw [TL.len_tl (numS _), tl_numNeg, List.length_cons]
      simp [show ("-" : Str).length = 1 from rfl])]
    apply TL.ext_tl
    rw [TL.tl_mk, tl_digS]
    have e1 : (numS (-((n : Int) + 1))).cps.toList = 45 :: TL.numL (n + 1) := tl_numNeg n
    have e2 : (numS (-((n : Int) + 1))).length = (TL.numL (n + 1)).length + 1 := by rw [TL.len_tl, tl_numNeg, List.length_cons]
    rw [e1, e2, show ("-" : Str).length = 1 from rfl, List.drop_succ_cons, List.drop_zero, Nat.add_sub_cancel, List.take_length, show (-((n : Int) + 1)).natAbs = n + 1 by omega]
theorem dig_len {i : Int} (h : -10000000000 < i ∧ i < 10000000000) : (digS i).length ≤ 10 := by
  rw [TL.len_tl, tl_digS]
  exact TL.numL_len (by decide) (by omega)
theorem digit_sign {c : Nat} (h : 48 ≤ c ∧ c ≤ 57) : Unicode.isDigit c = true := by
  have k : ∀ n : _root_.Fin 58, 48 ≤ n.val → Unicode.isDigit n.val = true := by decide +kernel
  exact k ⟨c, by omega⟩ h.1
theorem dig_isdigit (i : Int) : Txt.isdigit (digS i) = true := by
  unfold Txt.isdigit
  rw [Bool.and_eq_true]
  constructor
  · rw [TL.len_tl, tl_digS]
    exact decide_eq_true (List.length_pos_iff.mpr (TL.numL_ne _))
  · rw [← Array.all_toList]
    refine List.all_eq_true.mpr fun c hc => digit_sign ?_
    exact TL.numL_digits _ c hc
theorem dig_isascii (i : Int) : Txt.isascii (digS i) = true := by
  unfold Txt.isascii
  rw [← Array.all_toList]
  refine List.all_eq_true.mpr fun c hc => ?_
  have z := TL.numL_digits _ c hc
  simp
  omega
theorem num_int {i : Int} (h : -10000000000 < i ∧ i < 10000000000) : PySem.intText? (numS i) = some i := by
  have hl := num_len h
  rcases num_cases i with ⟨n, rfl⟩ | ⟨n, rfl⟩
  · exact TL.int_num (by have := TL.numL_len (n := n) (k := 10) (by decide) (by omega); omega)
  · have z := PySem.intText_neg (x := numS (-((n : Int) + 1))) (cs := TL.numL (n + 1)) (tl_numNeg n) (TL.numL_digits _) (TL.numL_ne _) (by omega)
    rw [z, TL.numL_val]
    congr 1
/-! ### words, lines, a diary's text -/
def spS : Str := " "
def nlS : Str := "\n"
def wordS : Option Int → Str
  | none => "-"
  | some i => numS i
def wM (c : Int) : List Str := ["modulus", numS c]
def wE (n : Option Int) : List Str := ["event", wordS n]
def wB (l : Int × Int × Int) : List Str := ["bound", numS l.1, numS l.2.1, numS l.2.2]
def rowT (ws : List Str) : Str := Txt.join spS ws
def rowsT (c : Int) (ns : List (Option Int)) (ls : List (Int × Int × Int)) : List Str := rowT (wM c) :: (ns.map (fun n => rowT (wE n)) ++ ls.map fun l => rowT (wB l))
def textT (c : Int) (ns : List (Option Int)) (ls : List (Int × Int × Int)) : Str := Txt.join nlS (rowsT c ns ls)
theorem word_free {n : Option Int} {s : Nat} (h : s < 45 ∨ 57 < s) : s ∉ TL.tl (wordS n) := by
  cases n with
  | none =>
    show s ∉ [45]
    simp
    omega
  | some i => exact num_free h
def Clean (s : Nat) (ws : List Str) : Prop := ∀ p ∈ ws, s ∉ TL.tl p
theorem cleanM {c : Int} {s : Nat} (h : s = 10 ∨ s = 32) : Clean s (wM c) := by
  intro p hp
  simp only [wM, List.mem_cons, List.not_mem_nil, or_false] at hp
  rcases hp with rfl | rfl
  · rcases h with rfl | rfl <;> decide
  · exact num_free (by omega)
theorem cleanE {n : Option Int} {s : Nat} (h : s = 10 ∨ s = 32) : Clean s (wE n) := by
  intro p hp
  simp only [wE, List.mem_cons, List.not_mem_nil, or_false] at hp
  rcases hp with rfl | rfl
  · rcases h with rfl | rfl <;> decide
  · exact word_free (by omega)
theorem cleanB {l : Int × Int × Int} {s : Nat} (h : s = 10 ∨ s = 32) : Clean s (wB l) := by
  intro p hp
  simp only [wB, List.mem_cons, List.not_mem_nil, or_false] at hp
  rcases hp with rfl | rfl | rfl | rfl
  · rcases h with rfl | rfl <;> decide
  · exact num_free (by omega)
  · exact num_free (by omega)
  · exact num_free (by omega)
theorem split_row {ws : List Str} (h : Clean 32 ws) (hne : ws ≠ []) : Txt.split (rowT ws) spS = ws := TL.split_join (s := 32) (S := []) rfl (by decide +kernel) hne h
theorem mem_joinL {S : List Nat} {x : Nat} : ∀ {ps : List (List Nat)}, x ∈ TL.joinL S ps → x ∈ S ∨ ∃ p ∈ ps, x ∈ p
  | [], h => absurd h (by simp [TL.joinL])
  | [p], h => Or.inr ⟨p, List.mem_singleton.mpr rfl, h⟩
  | p :: q :: r, h => by
    have z : x ∈ p ++ (S ++ TL.joinL S (q :: r)) := h
    rcases List.mem_append.mp z with z | z
    · exact Or.inr ⟨p, List.mem_cons_self, z⟩
    · rcases List.mem_append.mp z with z | z
      · exact Or.inl z
      · rcases mem_joinL z with z | ⟨p', hp', z⟩
        · exact Or.inl z
        · exact Or.inr ⟨p', List.mem_cons_of_mem _ hp', z⟩
theorem tl_row (ws : List Str) : TL.tl (rowT ws) = TL.joinL [32] (ws.map TL.tl) := by
  unfold rowT
  rw [TL.join_eq, TL.tl_join]
  rfl
theorem row_free {ws : List Str} (h : Clean 10 ws) : 10 ∉ TL.tl (rowT ws) := by
  rw [tl_row]
  intro hm
  rcases mem_joinL hm with z | ⟨p, hp, z⟩
  · simp at z
  · obtain ⟨q, hq, rfl⟩ := List.mem_map.mp hp
    exact h q hq z
theorem clean_rows (c : Int) (ns : List (Option Int)) (ls : List (Int × Int × Int)) : Clean 10 (rowsT c ns ls) := by
  intro p hp
  unfold rowsT at hp
  rcases List.mem_cons.mp hp with rfl | hp
  · exact row_free (cleanM (Or.inl rfl))
  · rcases List.mem_append.mp hp with hp | hp
    · obtain ⟨n, _, rfl⟩ := List.mem_map.mp hp
      exact row_free (cleanE (Or.inl rfl))
    · obtain ⟨l, _, rfl⟩ := List.mem_map.mp hp
      exact row_free (cleanB (Or.inl rfl))
theorem split_text (c : Int) (ns : List (Option Int)) (ls : List (Int × Int × Int)) : Txt.split (textT c ns ls) nlS = rowsT c ns ls := TL.split_join (s := 10) (S := []) rfl (by decide +kernel) (by unfold rowsT; simp) (clean_rows c ns ls)
theorem joinL_len {S : List Nat} : ∀ ps : List (List Nat), (TL.joinL S ps).length ≤ (ps.map List.length).sum + ps.length * S.length
  | [] => by simp [TL.joinL]
  | [p] => by
    show p.length ≤ _
    simp
  | p :: q :: r => by
    have z := joinL_len (S := S) (q :: r)
    have e : (TL.joinL S (p :: q :: r)).length = p.length + (S.length + (TL.joinL S (q :: r)).length) := by
      show (p ++ (S ++ TL.joinL S (q :: r))).length = _
      rw [List.length_append, List.length_append]
    rw [e, List.map_cons, List.sum_cons, List.length_cons, Nat.succ_mul]
    omega
theorem sum_len {ys : List Str} {k : Nat} (h : ∀ y ∈ ys, y.length ≤ k) : (ys.map (·.length)).sum ≤ ys.length * k := by
  induction ys with
  | nil => simp
  | cons y ys ih =>
    rw [List.map_cons, List.sum_cons, List.length_cons, Nat.succ_mul]
    have a := h y List.mem_cons_self
    have b := ih fun z hz => h z (List.mem_cons_of_mem _ hz)
    omega
theorem join_len {y : Str} {ys : List Str} {k : Nat} (h : ∀ x ∈ ys, x.length ≤ k) : (Txt.join y ys).length ≤ ys.length * k + ys.length * y.length := by
  rw [TL.len_tl, TL.join_eq, TL.tl_join]
  have z := joinL_len (S := TL.tl y) (ys.map TL.tl)
  have e : (ys.map TL.tl).map List.length = ys.map (·.length) := by
    rw [List.map_map]
    exact List.map_congr_left fun x _ => (TL.len_tl x).symm
  rw [e, List.length_map, ← TL.len_tl] at z
  have := sum_len h
  omega
def NumOk (i : Int) : Prop := -10000000000 < i ∧ i < 10000000000
theorem word_len {n : Option Int} (h : ∀ i, n = some i → NumOk i) : (wordS n).length ≤ 11 := by
  cases n with
  | none => decide
  | some i => exact num_len (h i rfl)
structure TOK (c : Int) (ns : List (Option Int)) (ls : List (Int × Int × Int)) : Prop where
  c : NumOk c
  n : ∀ i, some i ∈ ns → NumOk i
  l : ∀ l ∈ ls, NumOk l.1 ∧ NumOk l.2.1 ∧ NumOk l.2.2
  ns : ns.length ≤ 16
  ls : ls.length ≤ 60
theorem TOK.of {c w : Int} {ns : List (Option Int)} {ls : List (Int × Int × Int)} (h : DOK c ns ls w) (hw : w ≤ 1000000000) (h60 : ls.length ≤ 60) : TOK c ns ls := by
  have a := h.c2
  have b := h.c100
  have d := h.n16
  refine ⟨⟨by omega, by omega⟩, fun i hi => ?_, fun l hl => ?_, h.n16, h60⟩
  · have z := h.note i hi
    exact ⟨by omega, by omega⟩
  · obtain ⟨⟨x1, x2⟩, ⟨y1, y2⟩, z1, z2⟩ := h.line l hl
    exact ⟨⟨by omega, by omega⟩, ⟨by omega, by omega⟩, ⟨by omega, by omega⟩⟩
theorem row_len {ws : List Str} (h : ∀ x ∈ ws, x.length ≤ 11) (hl : ws.length ≤ 4) : (rowT ws).length ≤ 48 := by
  have z := join_len (y := spS) h
  have e : spS.length = 1 := rfl
  unfold rowT
  rw [e] at z
  omega
theorem rows_len {c : Int} {ns : List (Option Int)} {ls : List (Int × Int × Int)} (h : TOK c ns ls) : ∀ x ∈ rowsT c ns ls, x.length ≤ 48 := by
  intro x hx
  unfold rowsT at hx
  rcases List.mem_cons.mp hx with rfl | hx
  · refine row_len (fun y hy => ?_) (by simp [wM])
    simp only [wM, List.mem_cons, List.not_mem_nil, or_false] at hy
    rcases hy with rfl | rfl
    · decide
    · exact num_len h.c
  · rcases List.mem_append.mp hx with hx | hx
    · obtain ⟨n, hn, rfl⟩ := List.mem_map.mp hx
      refine row_len (fun y hy => ?_) (by simp [wE])
      simp only [wE, List.mem_cons, List.not_mem_nil, or_false] at hy
      rcases hy with rfl | rfl
      · decide
      · exact word_len fun i e => h.n i (e ▸ hn)
    · obtain ⟨l, hl, rfl⟩ := List.mem_map.mp hx
      obtain ⟨a, b, d⟩ := h.l l hl
      refine row_len (fun y hy => ?_) (by simp [wB])
      simp only [wB, List.mem_cons, List.not_mem_nil, or_false] at hy
      rcases hy with rfl | rfl | rfl | rfl
      · decide
      · exact num_len a
      · exact num_len b
      · exact num_len d
theorem rows_many {c : Int} {ns : List (Option Int)} {ls : List (Int × Int × Int)} : (rowsT c ns ls).length = 1 + ns.length + ls.length := by
  unfold rowsT
  rw [List.length_cons, List.length_append, List.length_map, List.length_map]
  omega
theorem text_len {c : Int} {ns : List (Option Int)} {ls : List (Int × Int × Int)} (h : TOK c ns ls) : (textT c ns ls).length ≤ 4000 := by
  have z := join_len (y := nlS) (rows_len h)
  have e : nlS.length = 1 := rfl
  have a := h.ns
  have b := h.ls
  unfold textT
  rw [e, rows_many] at z
  omega
/-! what f-strings and + give -/
theorem rowM_eq (c : Int) : (Str.ofString "modulus ") ++ numS c = rowT (wM c) := by
  apply TL.ext_tl
  rw [TL.tl_append, tl_row]
  rfl
theorem rowE_eq (n : Option Int) : (Str.ofString "event ") ++ wordS n = rowT (wE n) := by
  apply TL.ext_tl
  rw [TL.tl_append, tl_row]
  rfl
theorem rowB_eq (l : Int × Int × Int) : (Str.ofString "bound ") ++ numS l.1 ++ spS ++ numS l.2.1 ++ spS ++ numS l.2.2 = rowT (wB l) := by
  apply TL.ext_tl
  rw [TL.tl_append, TL.tl_append, TL.tl_append, TL.tl_append, TL.tl_append, tl_row]
  show _ = TL.tl (Str.ofString "bound") ++ ([32] ++ (TL.tl (numS l.1) ++ ([32] ++ (TL.tl (numS l.2.1) ++ ([32] ++ TL.tl (numS l.2.2))))))
  have e : TL.tl (Str.ofString "bound ") = TL.tl (Str.ofString "bound") ++ [32] := rfl
  rw [e]
  simp only [List.append_assoc]
  rfl
theorem rowB_eq2 (l : Int × Int × Int) : (Str.ofString "bound ") ++ Txt.join spS [numS l.1, numS l.2.1, numS l.2.2] = rowT (wB l) := by
  apply TL.ext_tl
  rw [TL.tl_append, tl_row, TL.join_eq, TL.tl_join]
  show TL.tl (Str.ofString "bound ") ++ (TL.tl (numS l.1) ++ ([32] ++ (TL.tl (numS l.2.1) ++ ([32] ++ TL.tl (numS l.2.2))))) = TL.tl (Str.ofString "bound") ++ ([32] ++ (TL.tl (numS l.1) ++ ([32] ++ (TL.tl (numS l.2.1) ++ ([32] ++ TL.tl (numS l.2.2))))))
  have e : TL.tl (Str.ofString "bound ") = TL.tl (Str.ofString "bound") ++ [32] := rfl
  rw [e, List.append_assoc]
/-! ### promises of the defs that write and read texts -/
def spWord : Sp := fun vs H Q _ => ∃ n : Option Int, vs = [noteV n] ∧ (∀ i, n = some i → NumOk i) ∧ Q (.str (wordS n)) H
def spText (DC : Addr) : Sp := fun vs H Q _ => ∃ (v : V) (c : Int) (ns : List (Option Int)) (ls : List (Int × Int × Int)), vs = [v] ∧ DiaAt DC H v c ns ls ∧ TOK c ns ls ∧ ∀ H', (∀ b o, H b = some o → H' b = some o) → Q (.str (textT c ns ls)) H'
def spNumber : Sp := fun vs H Q _ => ∃ i : Int, vs = [.str (numS i)] ∧ NumOk i ∧ Q (.int i) H
theorem log_ok {i : Int} (h : NumOk i) : i.natAbs.log2 < 1920 := by
  by_cases z : i.natAbs = 0
  · rw [z]
    decide
  · rw [Nat.log2_lt z]
    have : i.natAbs < 2 ^ 34 := by have := h.1; have := h.2; omega
    exact Nat.lt_of_lt_of_le this (Nat.pow_le_pow_right (by decide) (by decide))
theorem app_len (a b : Str) : (a ++ b).length = a.length + b.length := by rw [TL.len_tl, TL.tl_append, List.length_append, ← TL.len_tl, ← TL.len_tl]
theorem empty_app (a : Str) : Str.empty ++ a = a := by
  apply TL.ext_tl
  rw [TL.tl_append]
  rfl
section
variable {ts : List TE} {acc : Str} {σ : L2.St} {H : Hp} {Q : Str → Hp → Prop}
theorem g_js0 (h : Q acc H) : tJs [] acc σ H Q := h
theorem g_jsC {y : Str} (l : (acc ++ y).length ≤ 100000) (h : tJs ts (acc ++ y) σ H Q) : tJs (tC (.str y) :: ts) acc σ H Q := ⟨y, rfl, sz l, h⟩
theorem g_jsT {te : TE} (h : te σ H fun x H1 => (∃ y : Str, x = .str y ∧ y.length ≤ sizeLine ∧ ∃ z : Str, V.str y = .str z ∧ (acc ++ z).length ≤ sizeLine ∧ tJs ts (acc ++ z) σ H1 Q) ∨ ∃ i : Int, x = .int i ∧ i.natAbs.log2 < 1920 ∧ ∃ z : Str, V.str (toString i) = .str z ∧ (acc ++ z).length ≤ sizeLine ∧ tJs ts (acc ++ z) σ H1 Q) : tJs (tFmt te :: ts) acc σ H Q := h
theorem g_fI {i : Int} (ok : NumOk i) (l : (acc ++ numS i).length ≤ 100000) (q : tJs ts (acc ++ numS i) σ H Q) : (∃ y : Str, V.int i = .str y ∧ y.length ≤ sizeLine ∧ ∃ z : Str, V.str y = .str z ∧ (acc ++ z).length ≤ sizeLine ∧ tJs ts (acc ++ z) σ H Q) ∨ ∃ i' : Int, V.int i = .int i' ∧ i'.natAbs.log2 < 1920 ∧ ∃ z : Str, V.str (toString i') = .str z ∧ (acc ++ z).length ≤ sizeLine ∧ tJs ts (acc ++ z) σ H Q :=
  Or.inr ⟨i, rfl, log_ok ok, numS i, rfl, sz l, q⟩
theorem g_fS {x : Str} (l1 : x.length ≤ 100000) (l : (acc ++ x).length ≤ 100000) (q : tJs ts (acc ++ x) σ H Q) : (∃ y : Str, V.str x = .str y ∧ y.length ≤ sizeLine ∧ ∃ z : Str, V.str y = .str z ∧ (acc ++ z).length ≤ sizeLine ∧ tJs ts (acc ++ z) σ H Q) ∨ ∃ i' : Int, V.str x = .int i' ∧ i'.natAbs.log2 < 1920 ∧ ∃ z : Str, V.str (toString i') = .str z ∧ (acc ++ z).length ≤ sizeLine ∧ tJs ts (acc ++ z) σ H Q :=
  Or.inl ⟨x, rfl, sz l1, x, rfl, sz l, q⟩
theorem g_ext' {p b : Addr} {xs zs : List V} {R : VK} (h1 : H p = some (.lst xs)) (h2 : H b = some (.lst zs)) (l : xs.length + zs.length ≤ 100000) (q : R .non (upd H p (.lst (xs ++ zs)))) : rExtend (.ref p) [.ref b] H R := ⟨p, b, xs, zs, rfl, rfl, h1, h2, sz l, q⟩
end
theorem take1 {α β : Type} (f : α → β) (xs : List α) (i : Nat) (hi : i < xs.length) : (xs.take (i + 1)).map f = (xs.take i).map f ++ [f xs[i]] := by
  rw [List.take_succ, List.getElem?_eq_getElem hi, List.map_append]
  rfl
end WL
set_option Elab.async false
set_option linter.all false
set_option maxRecDepth 100000
set_option maxHeartbeats 4000000
namespace WL
open PySem PySem.Spec PyProof.Rows L2
/-! ### enumerate(row, start = k) over a tuple -/
def IsNT (K : PySem.W.Frag) (a : Addr) (k : Int) (xs : List V) : It where
  go := fun i H => SqT K H a xs ∧ i < xs.length
  yld := fun i H v H' => ∃ T x, v = .ref T ∧ H T = none ∧ H' = upd H T (.tup [.int (k + (i : Nat)), x]) ∧ xs[i]? = some x
  stop := fun i H => SqT K H a xs ∧ i = xs.length
def iSNT (K : PySem.W.Frag) (k : Int) (ta : TA) : TI := fun σ H R => ta σ H fun vs H1 => ∃ a xs, vs = [.ref a] ∧ SqT K H1 a xs ∧ R (IsNT K a k xs) H1
theorem turn_sNT {P : Program} {w : World} {K : PySem.W.Frag} {elts : List Expr} {kk : Nat} {tpos : Pos} (a e it : Addr) (k : Int) (xs : List V) :
    Turn P w K (.Tuple elts kk tpos) (IsNT K a k xs) [e, it] e fun i h => (∃ old, IsEnum h e it (k + (i : Nat)) old) ∧ h.IsTupleIter it a i ∧ e ≠ it ∧ a ≠ it ∧ a ≠ e where
  mem := by simp
  obj := by
    rintro i h ⟨⟨old, he⟩, ⟨o, ho, hc, hd⟩, _⟩ b hb
    simp only [List.mem_cons, List.not_mem_nil, or_false] at hb
    rcases hb with rfl | rfl
    · exact ⟨_, he, fun v q => by cases q⟩
    · exact ⟨_, ho, fun v q => by rw [hd] at q; cases q⟩
  keep := by
    rintro i h h' ⟨⟨old, he⟩, hi, hne⟩ k
    exact ⟨⟨old, k e (by simp) _ he⟩, Heap.IsTupleIter.at hi (fun o q => k it (by simp) o q), hne⟩
  item := by
    intro X hP hw hK hc i pins s σ H E I hf st hg
    subst hP; subst hw; subst hK
    obtain ⟨⟨old, he⟩, hit, hne, h1, h2⟩ := st
    obtain ⟨hq, hlt⟩ := hg
    obtain ⟨its, rv, ht, hz⟩ := Inv.tuple I hq
    obtain ⟨u, hu, ru⟩ := Vals.get rv (i := i) (x := xs[i]) (by simp [hlt])
    have hel := Heap.lt_size he
    have hil : it < s.heap.objs.size := by obtain ⟨o, ho, _⟩ := hit; exact Heap.lt_size ho
    have hln := rv.length
    have htt : s.heap.IsTuple a its.toArray := ht
    refine wpAny_pyNext_enum_itemC (Draws.tuple (A := X.A.in1) (show X.A.in1.handled = none from I.ok.hd hc) it a h1 its.toArray) he ⟨hit, htt⟩ (by simp only [List.size_toArray]; omega) hne (by simp [hne, Ne.symm h2]) fun x h' tk hx ho hst hT hsz hk => ?_
    have ex : x = u := by
      have : its[i]? = some x := by simpa using hx
      rw [hu] at this
      exact (Option.some.inj this).symm
    subst ex
    refine ⟨_, rfl, wpAny_letOwnedTupleGo_enum ho fun h'' he' sb => ?_⟩
    have hT2 := (sb.2 s.heap.objs.size (Nat.ne_of_gt hel)).trans hT
    have I1 := Inv.turnedNew (h' := h'') (ch := [e, it]) (T := s.heap.objs.size) (ob := .tup [.int (k + (i : Nat)), xs[i]]) (t' := tk + 1) I
      (fun b ob hb q => (sb.2 b (fun z => hb (by simp [z]))).trans (hk b ob (fun z => hb (by simp [z])) (fun z => hb (by simp [z])) q)) hf (Nat.le_refl _)
      ⟨sz (by simp), [.int (k + (i : Nat)) tk, x], .cons ⟨tk, rfl⟩ (.cons ru .nil), _, hT2, rfl, 0, rfl⟩
    refine ⟨.ref s.heap.objs.size, _, I1, rfl, ⟨_, _, rfl, HOk.fresh I.hok (Nat.le_refl _), rfl, by simp [hlt]⟩, ⟨⟨x, ?_⟩, ?_, hne, h1, h2⟩, fun b hb => ?_⟩
    · have e1 : k + ((i + 1 : Nat) : Int) = k + (i : Nat) + 1 := by omega
      rw [e1]
      exact he'
    · exact Heap.IsTupleIter.at hst.1 (fun o q => (sb.2 it (Ne.symm hne)).trans q)
    · have hb' : b < s.heap.objs.size := by
        simp only [List.mem_cons, List.not_mem_nil, or_false] at hb
        rcases hb with rfl | rfl
        · exact hel
        · exact hil
      rw [upd_ne (Nat.ne_of_lt hb')]
      exact (hf b hb).1
  done := by
    intro X hP hw hK hc i pins s σ H E I hf st hg
    subst hP; subst hw; subst hK
    obtain ⟨⟨old, he⟩, hit, hne, h1, h2⟩ := st
    obtain ⟨hq, hle⟩ := hg
    obtain ⟨its, rv, ht, hz⟩ := Inv.tuple I hq
    have hln := rv.length
    obtain ⟨f0, f1, f2, f3, f4, f5⟩ := hf it (by simp)
    have htt : s.heap.IsTuple a its.toArray := ht
    have hi : i = its.toArray.size := by simp only [List.size_toArray]; omega
    subst hi
    refine wpAny_pyNext_enum_endD (Draws.tuple (A := X.A.in1) (show X.A.in1.handled = none from I.ok.hd hc) it a h1 its.toArray) he ⟨hit, htt⟩ fun h' eb => ⟨rfl, ?_⟩
    exact Inv.turned I (fun b o hb q => eb b o hb q) f0 f1 f3 f4 f5
  self := by
    rintro A i s Q E ⟨⟨old, he⟩, _⟩ h
    exact wpAny_pyIter_enum he h
theorem pi_sNT {X : Cx} {e : Expr} {ta : TA} {p pos tpos p1 p2 : Pos} {elts : List Expr} {kk j : Nat} {k : Int} (hg : Gl X "enumerate") (hm : X.mg "enumerate" = none) (ha : PA X [e] ta) (hk0 : -(2 ^ 63) ≤ k) (hk1 : k < 2 ^ 63)
    (he : starEach [e] X.env = (false, eval e X.env) :: starEach [] X.env := by rfl) :
    PI X (.Tuple elts kk tpos) (.Call (.Name "enumerate" p) [e] [⟨some "start", .Constant (.int k) j p1, p2⟩] pos) (iSNT X.K k ta) := by
  constructor
  intro pins s σ H R I h
  refine wpAny_Call_Name_kw (ld_blt I hg hm PyProof.Rows.boot_enumerate ?_)
  refine PySem.W.callWith_of (P := fun _ => True) (by rw [he]; rfl) (fun h _ => ⟨.machine, .inr (.inl rfl), PySem.W.Looks.of_pure rfl⟩) ?_
  refine evalArgs_kw2 rfl (thn (ha.run pos pins s σ H _ I h) ?_) he
  rintro us s1 ⟨vs, H1, I1, r1, a, xs, rfl, hq, q⟩
  cases r1 with
  | cons r rr =>
    cases rr
    cases r
    refine thn (PK.run (X := X) (pk_cons (nm := some "start") (kpos := p2) (pe_int (X := X) (i := k) (j := j) (pos := p1)) pk_nil) pos pins s1 σ H1 (fun zs H2 => zs = [.int k] ∧ H2 = H1) I1 (show _ ∧ _ from ⟨rfl, rfl⟩)) ?_
    rintro ws s2 ⟨zs, H2, I2, rz, rfl, rfl⟩
    obtain ⟨u, rfl, t, rfl⟩ := vals1 rz
    obtain ⟨its, rv, ht, hz⟩ := Inv.tuple I2 hq
    have htt : s2.heap.IsTuple a its.toArray := ht
    have hlt : a < s2.heap.objs.size := by obtain ⟨o, ho, _⟩ := id htt; exact Heap.lt_size ho
    refine ⟨trivial, enum_begins_start (begins_tuple a its.toArray) htt hk0 hk1 fun h' he hit hsz hk => ?_⟩
    refine wpAny_pyIter_enum he ?_
    have I3 := Inv.kept (t' := s2.toks) I2 hk
    have he0 : IsEnum h' (s2.heap.objs.size + 1) s2.heap.objs.size (k + ((0 : Nat) : Int)) .none := by
      rw [show k + ((0 : Nat) : Int) = k by omega]
      exact he
    refine ⟨_, [s2.heap.objs.size + 1, s2.heap.objs.size], _, IsNT X.K a k xs, _, rfl, I3, turn_sNT a (s2.heap.objs.size + 1) s2.heap.objs.size k xs, ⟨⟨_, he0⟩, ⟨_, hit, rfl, rfl⟩, Nat.succ_ne_self _, Nat.ne_of_lt hlt, Nat.ne_of_lt (Nat.lt_succ_of_lt hlt)⟩, fun b hb => ?_, q⟩
    have hle : s2.heap.objs.size ≤ b := by
      simp only [List.mem_cons, List.not_mem_nil, or_false] at hb
      rcases hb with rfl | rfl
      · exact Nat.le_succ _
      · exact Nat.le_refl _
    exact Inv.fpOk I2 hle (HOk.fresh I2.hok hle)
theorem g_sNT {K : PySem.W.Frag} {σ : L2.St} {H : Hp} {k : Int} {ta : TA} {R : It → Hp → Prop} (h : ta σ H fun vs H1 => ∃ a xs, vs = [.ref a] ∧ SqT K H1 a xs ∧ R (IsNT K a k xs) H1) : iSNT K k ta σ H R := h
theorem g_oneNT {K : PySem.W.Frag} {a : Addr} {xs : List V} {H : Hp} {P : Addr → List V → Prop} (h1 : SqT K H a xs) (h : P a xs) : ∃ a' xs', [V.ref a] = [V.ref a'] ∧ SqT K H a' xs' ∧ P a' xs' := ⟨a, xs, rfl, h1, h⟩
theorem ForQ.sNT {K : PySem.W.Frag} {g : TG} {tb : TS} {D : Ends} {σ : L2.St} {H1 : Hp} {a : Addr} {k : Int} {xs : List V} (I : Nat → L2.St → Hp → Prop) (h0 : I 0 σ H1) (hl : ∀ i σ H, i ≤ xs.length → I i σ H → SqT K H a xs)
    (hs : ∀ (i : Nat) (x : V) (T : Addr) (σ : L2.St) (H : Hp), xs[i]? = some x → I i σ H → H T = none → g (.ref T) σ (upd H T (.tup [.int (k + (i : Nat)), x])) fun σ2 H2 => tb { D with nx := I (i + 1), ct := I (i + 1), bk := D.nx } σ2 H2) (hd : ∀ σ H, I xs.length σ H → D.nx σ H) : ForQ g tb D σ (IsNT K a k xs) H1 := by
  refine ⟨fun i m σ H => i ≤ xs.length ∧ m = xs.length - i ∧ I i σ H, ⟨_, Nat.zero_le _, rfl, h0⟩, ?_⟩
  intro i m σ H ⟨hi, hm, hp⟩
  have hS := hl i σ H hi hp
  by_cases e : i = xs.length
  · subst e
    exact Or.inl ⟨⟨hS, rfl⟩, hd _ _ hp⟩
  · have hlt : i < xs.length := by omega
    refine Or.inr ⟨⟨hS, hlt⟩, I (i + 1), fun σ' H' h => ⟨xs.length - (i + 1), by omega, by omega, rfl, h⟩, ?_⟩
    intro v H' hy
    obtain ⟨T, x, e1, hT, e2, hx⟩ := hy
    subst e1; subst e2
    exact hs i x T σ H hx hp hT
/-! ### enumerate(row, start = k) over a list -/
def IsNL (K : PySem.W.Frag) (a : Addr) (k : Int) (xs : List V) : It where
  go := fun i H => SqL K H a xs ∧ i < xs.length
  yld := fun i H v H' => ∃ T x, v = .ref T ∧ H T = none ∧ H' = upd H T (.tup [.int (k + (i : Nat)), x]) ∧ xs[i]? = some x
  stop := fun i H => SqL K H a xs ∧ i = xs.length
def iSNL (K : PySem.W.Frag) (k : Int) (ta : TA) : TI := fun σ H R => ta σ H fun vs H1 => ∃ a xs, vs = [.ref a] ∧ SqL K H1 a xs ∧ R (IsNL K a k xs) H1
theorem turn_sNL {P : Program} {w : World} {K : PySem.W.Frag} {elts : List Expr} {kk : Nat} {tpos : Pos} (a e it : Addr) (k : Int) (xs : List V) :
    Turn P w K (.Tuple elts kk tpos) (IsNL K a k xs) [e, it] e fun i h => (∃ old, IsEnum h e it (k + (i : Nat)) old) ∧ h.IsListIter it a i ∧ e ≠ it ∧ a ≠ it ∧ a ≠ e where
  mem := by simp
  obj := by
    rintro i h ⟨⟨old, he⟩, ⟨o, ho, hc, hd⟩, _⟩ b hb
    simp only [List.mem_cons, List.not_mem_nil, or_false] at hb
    rcases hb with rfl | rfl
    · exact ⟨_, he, fun v q => by cases q⟩
    · exact ⟨_, ho, fun v q => by rw [hd] at q; cases q⟩
  keep := by
    rintro i h h' ⟨⟨old, he⟩, hi, hne⟩ k
    exact ⟨⟨old, k e (by simp) _ he⟩, Heap.IsListIter.at hi (fun o q => k it (by simp) o q), hne⟩
  item := by
    intro X hP hw hK hc i pins s σ H E I hf st hg
    subst hP; subst hw; subst hK
    obtain ⟨⟨old, he⟩, hit, hne, h1, h2⟩ := st
    obtain ⟨hq, hlt⟩ := hg
    obtain ⟨its, rv, ht, hz⟩ := Inv.list I hq
    obtain ⟨u, hu, ru⟩ := Vals.get rv (i := i) (x := xs[i]) (by simp [hlt])
    have hel := Heap.lt_size he
    have hil : it < s.heap.objs.size := by obtain ⟨o, ho, _⟩ := hit; exact Heap.lt_size ho
    have hln := rv.length
    have htt : s.heap.IsList a its.toArray := ht.isList
    refine wpAny_pyNext_enum_itemC (Draws.list (A := X.A.in1) (show X.A.in1.handled = none from I.ok.hd hc) it a h1 its.toArray) he ⟨hit, htt⟩ (by simp only [List.size_toArray]; omega) hne (by simp [hne, Ne.symm h2]) fun x h' tk hx ho hst hT hsz hk => ?_
    have ex : x = u := by
      have : its[i]? = some x := by simpa using hx
      rw [hu] at this
      exact (Option.some.inj this).symm
    subst ex
    refine ⟨_, rfl, wpAny_letOwnedTupleGo_enum ho fun h'' he' sb => ?_⟩
    have hT2 := (sb.2 s.heap.objs.size (Nat.ne_of_gt hel)).trans hT
    have I1 := Inv.turnedNew (h' := h'') (ch := [e, it]) (T := s.heap.objs.size) (ob := .tup [.int (k + (i : Nat)), xs[i]]) (t' := tk + 1) I
      (fun b ob hb q => (sb.2 b (fun z => hb (by simp [z]))).trans (hk b ob (fun z => hb (by simp [z])) (fun z => hb (by simp [z])) q)) hf (Nat.le_refl _)
      ⟨sz (by simp), [.int (k + (i : Nat)) tk, x], .cons ⟨tk, rfl⟩ (.cons ru .nil), _, hT2, rfl, 0, rfl⟩
    refine ⟨.ref s.heap.objs.size, _, I1, rfl, ⟨_, _, rfl, HOk.fresh I.hok (Nat.le_refl _), rfl, by simp [hlt]⟩, ⟨⟨x, ?_⟩, ?_, hne, h1, h2⟩, fun b hb => ?_⟩
    · have e1 : k + ((i + 1 : Nat) : Int) = k + (i : Nat) + 1 := by omega
      rw [e1]
      exact he'
    · exact Heap.IsListIter.at hst.1 (fun o q => (sb.2 it (Ne.symm hne)).trans q)
    · have hb' : b < s.heap.objs.size := by
        simp only [List.mem_cons, List.not_mem_nil, or_false] at hb
        rcases hb with rfl | rfl
        · exact hel
        · exact hil
      rw [upd_ne (Nat.ne_of_lt hb')]
      exact (hf b hb).1
  done := by
    intro X hP hw hK hc i pins s σ H E I hf st hg
    subst hP; subst hw; subst hK
    obtain ⟨⟨old, he⟩, hit, hne, h1, h2⟩ := st
    obtain ⟨hq, hle⟩ := hg
    obtain ⟨its, rv, ht, hz⟩ := Inv.list I hq
    have hln := rv.length
    obtain ⟨f0, f1, f2, f3, f4, f5⟩ := hf it (by simp)
    have htt : s.heap.IsList a its.toArray := ht.isList
    have hi : i = its.toArray.size := by simp only [List.size_toArray]; omega
    subst hi
    refine wpAny_pyNext_enum_endD (Draws.list (A := X.A.in1) (show X.A.in1.handled = none from I.ok.hd hc) it a h1 its.toArray) he ⟨hit, htt⟩ fun h' eb => ⟨rfl, ?_⟩
    exact Inv.turned I (fun b o hb q => eb b o hb q) f0 f1 f3 f4 f5
  self := by
    rintro A i s Q E ⟨⟨old, he⟩, _⟩ h
    exact wpAny_pyIter_enum he h
theorem pi_sNL {X : Cx} {e : Expr} {ta : TA} {p pos tpos p1 p2 : Pos} {elts : List Expr} {kk j : Nat} {k : Int} (hg : Gl X "enumerate") (hm : X.mg "enumerate" = none) (ha : PA X [e] ta) (hk0 : -(2 ^ 63) ≤ k) (hk1 : k < 2 ^ 63)
    (he : starEach [e] X.env = (false, eval e X.env) :: starEach [] X.env := by rfl) :
    PI X (.Tuple elts kk tpos) (.Call (.Name "enumerate" p) [e] [⟨some "start", .Constant (.int k) j p1, p2⟩] pos) (iSNL X.K k ta) := by
  constructor
  intro pins s σ H R I h
  refine wpAny_Call_Name_kw (ld_blt I hg hm PyProof.Rows.boot_enumerate ?_)
  refine PySem.W.callWith_of (P := fun _ => True) (by rw [he]; rfl) (fun h _ => ⟨.machine, .inr (.inl rfl), PySem.W.Looks.of_pure rfl⟩) ?_
  refine evalArgs_kw2 rfl (thn (ha.run pos pins s σ H _ I h) ?_) he
  rintro us s1 ⟨vs, H1, I1, r1, a, xs, rfl, hq, q⟩
  cases r1 with
  | cons r rr =>
    cases rr
    cases r
    refine thn (PK.run (X := X) (pk_cons (nm := some "start") (kpos := p2) (pe_int (X := X) (i := k) (j := j) (pos := p1)) pk_nil) pos pins s1 σ H1 (fun zs H2 => zs = [.int k] ∧ H2 = H1) I1 (show _ ∧ _ from ⟨rfl, rfl⟩)) ?_
    rintro ws s2 ⟨zs, H2, I2, rz, rfl, rfl⟩
    obtain ⟨u, rfl, t, rfl⟩ := vals1 rz
    obtain ⟨its, rv, ht, hz⟩ := Inv.list I2 hq
    have htt : s2.heap.IsList a its.toArray := ht.isList
    have hlt : a < s2.heap.objs.size := by obtain ⟨o, ho, _⟩ := id htt; exact Heap.lt_size ho
    refine ⟨trivial, enum_begins_start (begins_list a its.toArray) htt hk0 hk1 fun h' he hit hsz hk => ?_⟩
    refine wpAny_pyIter_enum he ?_
    have I3 := Inv.kept (t' := s2.toks) I2 hk
    have he0 : IsEnum h' (s2.heap.objs.size + 1) s2.heap.objs.size (k + ((0 : Nat) : Int)) .none := by
      rw [show k + ((0 : Nat) : Int) = k by omega]
      exact he
    refine ⟨_, [s2.heap.objs.size + 1, s2.heap.objs.size], _, IsNL X.K a k xs, _, rfl, I3, turn_sNL a (s2.heap.objs.size + 1) s2.heap.objs.size k xs, ⟨⟨_, he0⟩, ⟨_, hit, rfl, rfl⟩, Nat.succ_ne_self _, Nat.ne_of_lt hlt, Nat.ne_of_lt (Nat.lt_succ_of_lt hlt)⟩, fun b hb => ?_, q⟩
    have hle : s2.heap.objs.size ≤ b := by
      simp only [List.mem_cons, List.not_mem_nil, or_false] at hb
      rcases hb with rfl | rfl
      · exact Nat.le_succ _
      · exact Nat.le_refl _
    exact Inv.fpOk I2 hle (HOk.fresh I2.hok hle)
theorem g_sNL {K : PySem.W.Frag} {σ : L2.St} {H : Hp} {k : Int} {ta : TA} {R : It → Hp → Prop} (h : ta σ H fun vs H1 => ∃ a xs, vs = [.ref a] ∧ SqL K H1 a xs ∧ R (IsNL K a k xs) H1) : iSNL K k ta σ H R := h
theorem g_oneNL {K : PySem.W.Frag} {a : Addr} {xs : List V} {H : Hp} {P : Addr → List V → Prop} (h1 : SqL K H a xs) (h : P a xs) : ∃ a' xs', [V.ref a] = [V.ref a'] ∧ SqL K H a' xs' ∧ P a' xs' := ⟨a, xs, rfl, h1, h⟩
theorem ForQ.sNL {K : PySem.W.Frag} {g : TG} {tb : TS} {D : Ends} {σ : L2.St} {H1 : Hp} {a : Addr} {k : Int} {xs : List V} (I : Nat → L2.St → Hp → Prop) (h0 : I 0 σ H1) (hl : ∀ i σ H, i ≤ xs.length → I i σ H → SqL K H a xs)
    (hs : ∀ (i : Nat) (x : V) (T : Addr) (σ : L2.St) (H : Hp), xs[i]? = some x → I i σ H → H T = none → g (.ref T) σ (upd H T (.tup [.int (k + (i : Nat)), x])) fun σ2 H2 => tb { D with nx := I (i + 1), ct := I (i + 1), bk := D.nx } σ2 H2) (hd : ∀ σ H, I xs.length σ H → D.nx σ H) : ForQ g tb D σ (IsNL K a k xs) H1 := by
  refine ⟨fun i m σ H => i ≤ xs.length ∧ m = xs.length - i ∧ I i σ H, ⟨_, Nat.zero_le _, rfl, h0⟩, ?_⟩
  intro i m σ H ⟨hi, hm, hp⟩
  have hS := hl i σ H hi hp
  by_cases e : i = xs.length
  · subst e
    exact Or.inl ⟨⟨hS, rfl⟩, hd _ _ hp⟩
  · have hlt : i < xs.length := by omega
    refine Or.inr ⟨⟨hS, hlt⟩, I (i + 1), fun σ' H' h => ⟨xs.length - (i + 1), by omega, by omega, rfl, h⟩, ?_⟩
    intro v H' hy
    obtain ⟨T, x, e1, hT, e2, hx⟩ := hy
    subst e1; subst e2
    exact hs i x T σ H hx hp hT

/-! ### a def called by keywords alone -/
structure HasK0 (P : Program) (w : World) (K : PySem.W.Frag) (mg : Str → Option Value) (base : Heap) (k : Nat) (x : Str) (ps : List Str) (sp : Sp) : Prop where
  ex : ∃ fa fd, mg x = some (.ref fa) ∧ PySem.W.keepIn K (.ref fa) = true ∧ KBn K fd ps 0 ps (fun us ws => us ++ ws) (fun vs zs => vs ++ zs) ∧ FnOk P w K mg base CX0 k fa fd ps sp
def tCallK0 (n : Nat) (sp : Sp) (tk : TA) : TE := fun σ H Q => tk σ H fun zs H1 => zs.length = n ∧ sp zs H1 Q E0
theorem pe_hasK0 {X : Cx} {k j : Nat} {x : Str} {ps : List Str} {sp : Sp} {tk : TA} {p pos : Pos} {kws : List Keyword} (h : HasK0 X.prog X.w X.K X.mg X.base k x ps sp) (room : Room j X.A) (le : k ≤ j) (hkw : PK X kws tk) (gl : Gl X x := by rfl) (db : (x == ("__debug__" : Str)) = false := by decide)
    (hall : (backToKw pos (keywordEach kws X.env)).all (·.1.isSome) = true := by rfl) (hks : (backToKw pos (keywordEach kws X.env)).filterMap (·.1) = ps := by rfl)
    (hpl : ((backTo pos (starEach [] X.env)).any (·.1) || (backToKw pos (keywordEach kws X.env)).any (·.1.isNone)) = false := by rfl) :
    PE X (.Call (.Name x p) [] kws pos) (tCallK0 ps.length sp tk) := by
  obtain ⟨fa, fd, m, kp, b, F⟩ := h.ex
  constructor
  intro pins s σ H Q I w0
  refine wpAny_Call_Name_kw (ld_glob I gl m ?_ db)
  refine PySem.W.callWith_KW0 (first := []) (h₀ := X.base) I.ok.mod.kin kp hall (thn (hkw.run pos pins s σ H _ I w0) ?_) hpl
  rintro ws s2 ⟨zs, H2, I2, rz, l2, q2⟩
  refine ⟨I2.kIn, ?_⟩
  rw [hks]
  exact run_fnN (us := []) (vs := []) F (room.mono le) b pass0 I2 .nil rz rfl l2 q2
theorem g_m1 {r : V → List V → Hp → VK → Prop} {to te : TE} {σ : L2.St} {H : Hp} {Q : VK} (h : to σ H fun x H1 => (∃ a, x = .str a) ∧ te σ H1 fun y H2 => r x [y] H2 Q) : tM1 r to te σ H Q := h
theorem g_m0 {r : V → List V → Hp → VK → Prop} {to : TE} {σ : L2.St} {H : Hp} {Q : VK} (h : to σ H fun x H1 => (∃ a, x = .str a) ∧ r x [] H1 Q) : tM0 r to σ H Q := h
theorem g_callK0 {n : Nat} {sp : Sp} {tk : TA} {σ : L2.St} {H : Hp} {Q : VK} (h : tk σ H fun zs H1 => zs.length = n ∧ sp zs H1 Q E0) : tCallK0 n sp tk σ H Q := h
end WL
set_option Elab.async false
set_option linter.all false
set_option maxRecDepth 100000
set_option maxHeartbeats 4000000
namespace WL
open PySem PySem.Spec PyProof.Rows L2
/-! ### exceptions of two fields, the second left to its default None -/
section
variable {prog : Program} {w : World} {A : Around} {E : Value → Shared → Prop} {K : PySem.W.Frag} {mg : Str → Option Value} {C fI : Addr} {fd : FuncData} {h : Heap} {g : Array GenState} {d : Drawn} {t : Nat} {os : OsState}
theorem ex_init2a {x t0 : Addr} {ar : Args} {v1 v2 : Value} {f1 f2 : Str} {mb : Str → Option Value} {R : Result → Shared → Prop} (T : ExT prog K mg [f1, f2] C fI) (J : ExI prog K [f1, f2] C fI fd) (X : K.In h) (G : h.Ns mainGlobals mg) (B : h.Ns builtinsNs mb) (bb : ∀ x : Str, x ≠ "__name__" → mb x = bootBuiltins x) (lim : h.NoLimit) (room : A.depth < recursionLimit)
    (hx : h.get? x = some (HandSPX.excO C t0)) (hxK : K.lookup x = none) (d1 : (f1 == ("__debug__" : Str)) = false) (d2 : (f2 == ("__debug__" : Str)) = false) (n1 : f1 ≠ ("self" : Str)) (n2 : f2 ≠ ("self" : Str)) (n12 : f1 ≠ f2)
    (hb : ∀ s : Shared, K.In s.heap → BindsTo s fd ar [("self", .ref x), (f1, v1), (f2, v2)])
    (hq : ∀ h' t' dx, (∀ b o, b ≠ x → h.get? b = some o → h'.get? b = some o) → h.objs.size ≤ dx → dx ≠ x → ExAt h' x C dx (fun y => if y = f2 then some v2 else if y = f1 then some v1 else none) → R (.ok (.ret .none)) ⟨h', g, d, t', os⟩) :
    codeAny (model prog w) A (.call (.ref fI) ar) R ⟨h, g, d, t, os⟩ := by
  obtain ⟨oc, od, osl, lk⟩ := J.at_
  obtain ⟨msg, k, q, qs, hbody, hlen, hpos⟩ := J.body
  have ok := J.ok
  unfold scOk at ok
  obtain ⟨o1, ok⟩ := He.ba ok
  obtain ⟨_, ok⟩ := He.ba ok
  obtain ⟨_, ok⟩ := He.ba ok
  obtain ⟨o4, o5⟩ := He.ba ok
  have ls : fd.scope.names.lookup ("self" : Str) = some .local := of_decide_eq_true o1
  have m1 : f1 ∈ [f1, f2] := List.mem_cons_self
  have m2 : f2 ∈ [f1, f2] := List.mem_cons_of_mem _ List.mem_cons_self
  have lf1 : fd.scope.names.lookup f1 = some .local := of_decide_eq_true (List.all_eq_true.mp o4 f1 m1)
  have lf2 : fd.scope.names.lookup f2 = some .local := of_decide_eq_true (List.all_eq_true.mp o4 f2 m2)
  match qs, hlen with
  | [q1, q2], _ =>
    have lk3 := look3 (a := Value.ref x) (b := v1) (c := v2) n1 n2 n12
    refine ks_codeAny_call_defAt (binds := [("self", .ref x), (f1, v1), (f2, v2)]) room (X _ _ lk) rfl lim (PySem.W.codeRec_of X J.rec_) hbody (hb _ X) (fun y hy => of_decide_eq_true (List.all_eq_true.mp o5 y hy)) (fun y hy => ?_) ?_ J.co J.gen J.kind
    · rcases List.mem_cons.mp hy with rfl | hy
      · exact ls
      · rcases List.mem_cons.mp hy with rfl | hy
        · exact lf1
        · rw [List.mem_singleton.mp hy]
          exact lf2
    · intro h0 hn0 k0
      have Lx : h.objs.size ≠ x := Nat.ne_of_gt (Heap.lt_size hx)
      refine ks_wpAt_execs_cons (sup_step T J (X.keeps k0) (G.keeps k0) (B.keeps k0) bb hpos hn0 lk3.1 (k0 _ _ hx) ?_)
      intro h1 t1 tt k1 hx1
      have kK : ∀ b o, K.lookup b = some o → b ≠ x := fun b o e z => by rw [z, hxK] at e; cases e
      have X1 : K.In h1 := fun b o e => k1 b o (kK b o e) (k0 _ _ (X b o e))
      obtain ⟨oL, es, ep, hoL, r1, r2⟩ := hn0
      have hoL1 := k1 _ _ Lx hoL
      have hn1 : h1.Ns h.objs.size _ := ⟨oL, es, ep, hoL1, r1, r2⟩
      refine wpAt_of_wpAny (wpAny_execs_cons (fld_first T m1 X1 J.kind ls lf1 d1 hn1 lk3.1 lk3.2.1 hx1 ?_))
      intro h2 t2 dx k2 dn dne ex
      have X2 : K.In h2 := fun b o e => k2 b o (kK b o e) (X1 b o e)
      have hn2 : h2.Ns h.objs.size _ := ⟨oL, es, ep, k2 _ _ Lx hoL1, r1, r2⟩
      have hsz : h.objs.size ≤ h1.objs.size := Nat.le_of_lt (Heap.lt_size hoL1)
      have hi : Within (fun y : Str => if y = f1 then some v1 else none) [f1] := fun y hy => by
        by_cases e : y = f1
        · rw [e]; exact List.mem_cons_self
        · exact absurd (if_neg e) hy
      refine wpAny_execs_cons (fld_next T m2 X2 J.kind ls lf2 d2 hn2 lk3.1 lk3.2.2 ex hi (by simp) ?_)
      intro h3 t3 k3 ex3
      refine wpAny_execs_nil (hq h3 t3 dx (fun b o hb e => ?_) (Nat.le_trans hsz dn) dne ex3)
      have e2 := k2 b o hb (k1 b o hb (k0 b o e))
      by_cases z : b = dx
      · have lt := Heap.lt_size e
        rw [z] at lt
        exact absurd (Nat.lt_of_lt_of_le lt (Nat.le_trans hsz dn)) (Nat.lt_irrefl _)
      · exact k3 b o z e2
end
section
variable {X : Cx} {f1 f2 : Str} {C fI : Addr} {fd : FuncData}
def tMkEx2d (C : Addr) (f1 f2 : Str) (ta : TA) : L2.St → Hp → XK → Prop := fun σ H Q => ta σ H fun vs H1 => ∃ v, vs = [v] ∧ ∀ d, H1 d = none → Q (.ref C) (some d) (upd H1 d (.xd [(f1, v), (f2, .non)]))
theorem g_mkex2d {ta : TA} {σ : L2.St} {H : Hp} {Q : XK} (h : ta σ H fun vs H1 => ∃ v, vs = [v] ∧ ∀ (d : Addr), H1 d = none → Q (.ref C) (some d) (upd H1 d (.xd [(f1, v), (f2, .non)]))) : tMkEx2d C f1 f2 ta σ H Q := h
theorem pmk_ex2d {x : Str} {e1 : Expr} {ta : TA} {p pos : Pos} {k : Nat} (T : ExT X.prog X.K X.mg [f1, f2] C fI) (J : ExI X.prog X.K [f1, f2] C fI fd) (hr : Room k X.A) (gC : X.mg x = some (.ref C)) (d1 : (f1 == ("__debug__" : Str)) = false) (d2 : (f2 == ("__debug__" : Str)) = false) (n1 : f1 ≠ ("self" : Str)) (n2 : f2 ≠ ("self" : Str)) (n12 : f1 ≠ f2)
    (hb : ∀ (s : Shared) (u v1 : Value), X.K.In s.heap → BindsTo s fd ⟨[u, v1], []⟩ [(("self" : Str), u), (f1, v1), (f2, Value.none)]) (ha : PA X [e1] ta) (hg : Gl X x := by rfl) (hd : (x == ("__debug__" : Str)) = false := by decide)
    (h1 : starEach [e1] X.env = (false, eval e1 X.env) :: starEach [] X.env := by rfl) (h2 : (backTo pos (starEach [] X.env)).any (·.1) = false := by rfl) :
    PMk X (.Call (.Name x p) [e1] [] pos) (tMkEx2d C f1 f2 ta) := by
  intro pins s σ H Q I h
  refine wpAny_Call_Name_kw (ld_glob I hg gC ?_ hd)
  refine PySem.W.callWith_K (h₀ := X.base) I.ok.mod.kin T.kC (thn (ha.run pos pins s σ H _ I h) ?_) h1 h2
  rintro us s1 ⟨vs, H1, I1, r1, v, ev, q1⟩
  subst ev
  refine ⟨I1.kIn, ?_⟩
  obtain ⟨u, rfl, ru⟩ := vals1 r1
  obtain ⟨nm, qn, N, bs, bm, sn, sub, ab, col, dd, k0, k1, k2, k3, k5, hC, hbm⟩ := T.cls
  have lim := I1.nolimit
  have glo := I1.ok.mod.glob.keeps I1.bk
  obtain ⟨mb, bl, bb⟩ := I1.ok.mod.blt
  have bl' := bl.keeps I1.bk
  have XK := I1.kIn
  have fresh : ∀ b : Addr, s1.heap.objs.size ≤ b → H1 b = none := fun b hb => I1.hok.fresh hb
  obtain ⟨hp, g, dr, tk, os⟩ := s1
  show wpAny _ _ (call (.ref C) [u]) _ _ _
  have up : ∀ b o, hp.get? b = some o → ((hp.push (PySem.W.kdv_tup [u])).push (HandSPX.excO C hp.objs.size)).get? b = some o := fun b o e => Heap.get?_push_of_some _ (Heap.get?_push_of_some _ e)
  have at1 : ((hp.push (PySem.W.kdv_tup [u])).push (HandSPX.excO C hp.objs.size)).get? (hp.objs.size + 1) = some (HandSPX.excO C hp.objs.size) := by heap_get
  have nK : X.K.lookup (hp.objs.size + 1) = none := by
    cases e : X.K.lookup (hp.objs.size + 1) with
    | none => rfl
    | some o => exact absurd (Nat.lt_of_succ_lt (Heap.lt_size (XK _ _ e))) (Nat.lt_irrefl _)
  refine wpAny_call (HandSPX.call_own F.excBase_ValueError (fun Y => HandSPX.refsVE_contains Y bm hbm) (XK _ _ hC) (PySem.W.looks_findIn XK T.iC) (fun self => PySem.W.bind_fn XK self T.tI) (show 1 ≤ sizeLine by decide) ?_)
  refine ex_init2a (v1 := u) (v2 := Value.none) T J (XK.keeps up) (glo.keeps up) (bl'.keeps up) bb (lim.keeps up) ?_ at1 nK d1 d2 n1 n2 n12 (fun s hs => hb s _ _ hs) ?_
  · have := hr.dp
    rw [make_depth]
    omega
  intro h' t' dx kp dn dne ex
  refine ⟨rfl, ?_⟩
  show MkP X pins σ Q (.ref (hp.objs.size + 1)) _
  obtain ⟨⟨t1, he⟩, hns⟩ := ex
  obtain ⟨G', g1, g2⟩ := restrict h' fun b => decide (b ≠ hp.objs.size + 1)
  have gk : ∀ b, b ≠ hp.objs.size + 1 → G'.get? b = h'.get? b := fun b hb => g1 b (decide_eq_true hb)
  have ge : G'.get? (hp.objs.size + 1) = none := g2 _ (by simp)
  have old : ∀ b o, hp.get? b = some o → G'.get? b = some o := fun b o e => by
    have nb : b ≠ hp.objs.size + 1 := Nat.ne_of_lt (Nat.lt_succ_of_lt (Heap.lt_size e))
    rw [gk b nb]
    exact kp b o nb (up b o e)
  have dsz : hp.objs.size ≤ dx := by
    have e : hp.objs.size + 1 + 1 ≤ dx := by
      have z := dn
      rw [Heap.size_push, Heap.size_push] at z
      exact z
    exact Nat.le_trans (Nat.le_trans (Nat.le_succ _) (Nat.le_succ _)) e
  have ob : ObjOk X.prog X.w (upd H1 dx (.xd [(f1, v), (f2, .non)])) G' dx (.xd [(f1, v), (f2, .non)]) := ⟨_, hns.at (fun o e => (gk dx dne).trans e), fun y => relO_two (u := .non) ru rfl n12 y⟩
  have Jv : Inv X pins σ (upd H1 dx (.xd [(f1, v), (f2, .non)])) ⟨G', g, dr, t', os⟩ := I1.laid (t' := t') old dsz ob
  refine ⟨hp.objs.size + 1, _, _, ⟨G', g, dr, t', os⟩, _, .ref C, some dx, rfl, Jv, fun b o e => ?_, ge, he, ⟨rfl, rfl⟩, rfl, rfl, ?_, rfl, Jv.bare, raises_own T.exC T.tyC, q1 dx (fresh dx dsz)⟩
  · by_cases hb : b = hp.objs.size + 1
    · have e' : G'.get? b = some o := e
      rw [hb, ge] at e'
      cases e'
    · exact (gk b hb).symm.trans e
  · rw [upd_ne (Ne.symm dne)]
    exact fresh _ (Nat.le_succ _)
end
theorem exDB_okN {K : PySem.W.Frag} {fI : Addr} {fd : FuncData} (at_ : ∃ oc od osl, K.lookup fI = some ⟨oc, od, .func fd, osl⟩) (h : exDB K fI = true) :
    ∃ (T : Addr) (o : Obj) (n : Nat), fd.defaults = .ref T ∧ K.lookup T = some o ∧ o.data = .seq [Value.none].toArray n := by
  obtain ⟨oc, od, osl, lk⟩ := at_
  unfold exDB at h
  rw [lk] at h
  rcases He.dflB_ok h with ⟨e, _⟩ | ⟨_, T, o, its, n, e1, e2, e3, e4⟩
  · cases e
  · obtain ⟨u, rfl, ru⟩ := Vals.one e4
    cases ru
    exact ⟨T, o, n, e1, e2, e3⟩
/-- an exception's class of two fields, the second with the default None -/
structure Ev2 (P : Program) (K : PySem.W.Frag) (mg : Str → Option Value) (x f1 f2 : Str) (C : Addr) : Prop where
  at_ : mg x = some (.ref C)
  ex : ∃ fI fd, ExT P K mg [f1, f2] C fI ∧ ExI P K [f1, f2] C fI fd ∧ (∀ (s : Shared) (u v1 v2 : Value), K.In s.heap → BindsTo s fd ⟨[u, v1, v2], []⟩ [("self", u), (f1, v1), (f2, v2)]) ∧ ∀ (s : Shared) (u v1 : Value), K.In s.heap → BindsTo s fd ⟨[u, v1], []⟩ [("self", u), (f1, v1), (f2, Value.none)]
end WL
set_option Elab.async false
set_option linter.all false
set_option maxRecDepth 100000
set_option maxHeartbeats 400000
namespace WL
open PySem PySem.Spec PyProof.Rows L2
/-! ### isinstance of an error that is kept -/
structure ErrC (K : PySem.W.Frag) (D : Addr) : Prop where
  xf : XfC K D
  ha : PySem.W.findIn K (.ref D) "__class__" = some (some (.builtin "object.__class__"))
  hn : PySem.W.specialIn K (.builtin "object.__class__") "__get__" = some (some (.builtin "getset_descriptor.__get__"))
  ht : PySem.W.takesIn K (.builtin "object.__class__") = some true
  hm : PySem.W.mroIn K D (.type "object") = some true
def errcB (K : PySem.W.Frag) (D : Addr) : Bool := He.eqO (PySem.W.findIn K (.ref D) "__class__") (some (some (.builtin "object.__class__"))) && (He.eqO (PySem.W.specialIn K (.builtin "object.__class__") "__get__") (some (some (.builtin "getset_descriptor.__get__"))) && (tkB K (.builtin "object.__class__") && mrB K D (.type "object")))
theorem errcB_ok {K : PySem.W.Frag} {D : Addr} (xf : XfC K D) (h : errcB K D = true) : ErrC K D := by
  obtain ⟨a, h⟩ := He.ba h
  obtain ⟨b, h⟩ := He.ba h
  obtain ⟨c, d⟩ := He.ba h
  exact ⟨xf, He.eqO_ok a, He.eqO_ok b, tkB_ok c, mrB_ok d⟩
def rIsErr (K : PySem.W.Frag) : List V → Hp → VK → Prop := fun xs H Q => ∃ (a D d c : Addr) (fs : List (Str × V)) (b : Bool), xs = [.ref a, .ref c] ∧ H a = some (Err a (.ref D) (some d)) ∧ H d = some (.xd fs) ∧ ErrC K D ∧ PySem.W.kitOne K (.ref D) (.ref c) = some b ∧ Q (.bl b) H
theorem call_isErr {X : Cx} : CallR X (.builtin "isinstance") (rIsErr X.K) := by
  intro pins s σ H xs us Q I r h
  obtain ⟨a, D, d, c, fs, b, rfl, ea, ed, C, e, q⟩ := h
  obtain ⟨u1, u2, rfl, r1, r2⟩ := Vals.two' r
  cases r1
  cases r2
  obtain ⟨o, vs, eo, oc, od, of⟩ := err_at I.hok ea
  obtain ⟨mA, hns, hr⟩ := (I.hok d _ ed : ObjOk X.prog X.w H s.heap d (.xd fs))
  obtain ⟨oD, hoD, hl⟩ := lookIn_ns hns
  have J : PySem.W.InstAt s.heap a o D (some oD) := ⟨eo, oc, by unfold PySem.W.notCls; rw [of], by rw [od]; exact hoD⟩
  obtain ⟨cd, hc, _⟩ := PySem.W.any_some C.xf.hdC
  exact PySem.W.kia_one (PySem.W.kitx_exc (by rw [hc]; rfl) C.xf.ga C.xf.gg C.xf.exC C.ha C.hn C.ht C.hm) I.kIn J e (fun z => nomatch z) fun tk => ⟨.bl b, H, I.kept (t' := tk) fun _ _ z => z, rfl, q⟩
end WL
set_option Elab.async false
set_option linter.all false
set_option maxRecDepth 100000
set_option maxHeartbeats 400000
namespace WL
open PySem PySem.Spec PyProof.Rows L2
/-! ### nested tuples of constants, written out -/
mutual
def litT : PyData → TE
  | .none => tC .non
  | .bool b => tC (.bl b)
  | .int i => tC (.int i)
  | .str x => tC (.str x)
  | .tuple ds => tTup (litTs ds)
  | .list _ => fun _ _ _ => False
  | .dict _ => fun _ _ _ => False
def litTs : List PyData → TA
  | [] => tNil
  | d :: ds => tCons (litT d) (litTs ds)
end
mutual
def litOk : PyData → Bool
  | .none => true
  | .bool _ => true
  | .int _ => true
  | .str _ => true
  | .tuple ds => decide (ds.length ≤ 1000) && litOks ds
  | .list _ => false
  | .dict _ => false
def litOks : List PyData → Bool
  | [] => true
  | d :: ds => litOk d && litOks ds
end
mutual
theorem g_lit : ∀ (d : PyData) {σ : L2.St} {H : Hp} {Q : VK}, litOk d = true → (∀ v H', (∀ b o, H b = some o → H' b = some o) → Fz H' v d → Q v H') → litT d σ H Q
  | .none, _, H, _, _, q => q _ H (fun _ _ h => h) .non
  | .bool b, _, H, _, _, q => q _ H (fun _ _ h => h) (.bl b)
  | .int i, _, H, _, _, q => q _ H (fun _ _ h => h) (.int i)
  | .str x, _, H, _, _, q => q _ H (fun _ _ h => h) (.str x)
  | .list _, _, _, _, h, _ => by cases h
  | .dict _, _, _, _, h, _ => by cases h
  | .tuple ds, σ, H, Q, h, q => by
    have h' : (decide (ds.length ≤ 1000) && litOks ds) = true := h
    rw [Bool.and_eq_true, decide_eq_true_iff] at h'
    show tTup (litTs ds) σ H Q
    refine g_tup' ?_
    refine g_lits ds h'.2 fun vs H1 s1 f1 => ⟨sz (by rw [f1.length]; omega), fun p np => ?_⟩
    exact q _ _ (same_up np s1) (.tup upd_same (f1.tk (Tk.new np)))
theorem g_lits : ∀ (ds : List PyData) {σ : L2.St} {H : Hp} {R : List V → Hp → Prop}, litOks ds = true → (∀ vs H', (∀ b o, H b = some o → H' b = some o) → Fzs H' vs ds → R vs H') → litTs ds σ H R
  | [], _, H, _, _, q => q [] H (fun _ _ h => h) .nil
  | d :: ds, σ, H, R, h, q => by
    have h' : (litOk d && litOks ds) = true := h
    rw [Bool.and_eq_true] at h'
    show tCons (litT d) (litTs ds) σ H R
    refine g_cons ?_
    refine g_lit d h'.1 fun v H1 s1 f1 => ?_
    refine g_lits ds h'.2 fun vs H2 s2 f2 => ?_
    exact q _ _ (fun b o h => s2 _ _ (s1 _ _ h)) (.cons (f1.tk (Tk.same s2)) f2)
end
end WL
set_option Elab.async false
set_option linter.all false
set_option maxRecDepth 100000
set_option maxHeartbeats 4000000
namespace WL
open PySem PySem.Spec PyProof.Rows L2
/-! ### tuple * int, once or more -/
theorem tuple_mulW1 (l : Addr) (items : Array Value) (n : Nat) (dd : Option Addr) (sl : Array (Option Value)) (u : Tok) :
    Meets (Builtin.«tuple.__mul__» ⟨[.ref l, .int 1 u], []⟩) (fun _ R s => s.heap.get? l = some { cls := .type "tuple", dict := dd, data := .seq items n, slots := sl } ∧
      R (.ok (.ret (Value.ref l))) s) :=
  .of_wp fun prog w A R s h => by
    obtain ⟨hp, g, d, tk, os⟩ := s
    obtain ⟨hl, h⟩ := h
    have f1 := AutoSeq1.idx_int
    have c0 : (decide ((1 : Int) < -(2 ^ 63)) || decide ((1 : Int) ≥ 2 ^ 63)) = false := by decide
    have c1 : (items.isEmpty || (1 : Int) == 1) = true := by rw [show ((1 : Int) == 1) = true from rfl, Bool.or_true]
    wp_walk using wpAny_loadPart' hl
    repeat (first
      | (refine wpAny_ite_false (decide_eq_false (by rw [c0]; exact Bool.false_ne_true)) ?_; wp_walk using wpAny_loadPart' hl)
      | (refine wpAny_ite_true (decide_eq_true (by rw [c1])) ?_; wp_walk using wpAny_loadPart' hl))
    exact ⟨_, rfl, h⟩
def rRepT1 (K : PySem.W.Frag) : R2 := fun x y H Q => ∃ l k xs, x = .ref l ∧ y = .int k ∧ H l = some (.tup xs) ∧ xs ≠ [] ∧ 1 ≤ k ∧ k ≤ 1000 ∧ xs.length ≤ 1000 ∧ ∀ p H2, (∀ b o, H b = some o → H2 b = some o) → H2 p = some (.tup (List.replicate k.toNat xs).flatten) → Q (.ref p) H2
section
variable {X : Cx}
theorem op_repT1 : OpR X (binaryOp .Mult) (rRepT1 X.K) := by
  intro pins s σ H x y v u Q I rx ry h
  obtain ⟨l, k, xs, rfl, rfl, hl, hne, h1, h2, hz, q⟩ := h
  have hT : SqT X.K H l xs := SqT.of hl
  by_cases hk : k = 1
  · subst hk
    cases rx
    obtain ⟨t, rfl⟩ := ry
    obtain ⟨its, r, ⟨⟨cls, dd, data, sl⟩, ho, hc, n, hd⟩, hs⟩ := I.tuple hT
    simp only at hc hd
    subst hc hd
    refine wpAny_binaryOp_repeat_ref (T := "tuple") (U := "int") (by decide) ⟨_, ho, rfl⟩ (fun s' => typeIs_int s' 1 t) noFill_tuple_mul F.fills_int_mul F.slot_int_rmul repeat_tuple F.slot_int_index.lookup
      (call_meets F.slot_int_rmul (typeIs_int s 1 t) F.entry_int_rmul (F.args_int_rmul_2 _ _) (int_rmul_tuple 1 t l its.toArray n dd sl)
        ⟨ho, rfl, ⟨_, ho, rfl⟩, call_meets F.slot_tuple_mul ⟨_, ho, rfl⟩ F.entry_tuple_mul (F.args_tuple_mul_2 _ _) (tuple_mulW1 l its.toArray n dd sl t) ⟨ho, ?_⟩⟩)
    exact ⟨.ref l, H, I, rfl, q l H (fun _ _ h => h) (by
      have e : (List.replicate (1 : Int).toNat xs).flatten = xs := by
        show (List.replicate 1 xs).flatten = xs
        simp
      rw [e]; exact hl)⟩
  · exact op_repT pins s σ H _ _ v u Q I rx ry ⟨l, k, xs, rfl, rfl, hT, hne, by omega, h2, hz, fun p np => q p _ (same_up np fun _ _ h => h) upd_same⟩
end
theorem g_repT1 {K : PySem.W.Frag} {H : Hp} {Q : VK} {l : Addr} {k : Int} {xs : List V} (h : H l = some (.tup xs)) (h0 : xs ≠ []) (h1 : 1 ≤ k) (h2 : k ≤ 1000) (h3 : xs.length ≤ 1000) (q : ∀ p H2, (∀ b o, H b = some o → H2 b = some o) → H2 p = some (.tup (List.replicate k.toNat xs).flatten) → Q (.ref p) H2) : rRepT1 K (.ref l) (.int k) H Q := ⟨l, k, xs, rfl, rfl, h, h0, h1, h2, h3, q⟩
/-! ### a def of two parameters and a star, called by their names the other way round -/
section
variable {CX : CXT} {P : Program} {w : World} {K : PySem.W.Frag} {mg : Str → Option Value} {base : Heap} {k : Nat} {f : Addr} {name qual : Str} {params : Arguments} {body : List Stmt} {scope : Scope} {dV kV doc pm cdv ct oc : Value} {an od : Option Addr}
  {osl : Array (Option Value)} {N : List Str} {sp : Sp}
theorem fn_starSw {p1 p2 pv : Str} (lk : K.lookup f = some ⟨oc, od, .func (PySem.W.fnOf name qual params body scope dV kV doc pm an cdv ct), osl⟩) (hcd : PySem.W.codeIn K cdv qual = true) (S : FnScope N ([p1, p2] ++ [pv]) scope) (hCX : StX.CXUp CX)
    (hb : ∀ a b : Value, bindArgs (PySem.W.fnOf name qual params body scope dV kV doc pm an cdv ct) ⟨[], [(p2, a), (p1, b)]⟩ = (newTuple [] >>= fun t => pure [(p1, b), (p2, a), (pv, t)]))
    (hbody : ∀ (A : Around) (outer : List Env) (s : Shared) (H : Hp) (vs : List V) (Q : VK) (E : XK), Room k (A.deeper (envOfC qual scope s.heap.objs.size f cdv)) → sp vs H Q E →
      ∃ t, PSs (cxOf CX P w K mg base N qual scope f cdv A outer s H E) body t ∧ t { nx := fun _ H' => Q .non H', rt := Q } (start N vs) H) :
    FnRK P w K mg base CX (k + 1) f 0 [p2, p1] (fun vs H Q E => ∃ a b, vs = [a, b] ∧ ∀ p, H p = Option.none → sp [b, a, V.ref p] (upd H p (.tup [])) Q E) := by
  intro A outer s H us ws vs zs Q E hr e0 r rz l1 l2 hq
  have ev : vs = [] := List.eq_nil_of_length_eq_zero l1
  subst ev
  cases r
  obtain ⟨a, b, ez, hq⟩ := hq
  rw [List.nil_append] at ez
  subst ez
  obtain ⟨a', ra, b', rb, rfl⟩ : ∃ a', RelV a a' ∧ ∃ b', RelV b b' ∧ ws = [a', b'] := by
    cases rz with
    | cons h1 h2 =>
      cases h2 with
      | cons h3 h4 =>
        cases h4
        exact ⟨_, h1, _, h3, rfl⟩
  have hn : H s.heap.objs.size = Option.none := e0.hok.fresh (Nat.le_refl _)
  refine StX.run_bnd lk hcd S hr e0 (G := fun xs H2 => ∃ p, H p = Option.none ∧ xs = [b, a, V.ref p] ∧ H2 = upd H p (.tup [])) (fun A' Ex Q' h => ?_) fun s2 H2 xs ⟨p, hp, ex, eH⟩ hr' => ?_
  · rw [show ([p2, p1] : List Str).zip [a', b'] = [(p2, a'), (p1, b')] from rfl, hb a' b']
    refine wpAny_bind (wpAny_newTuple (wpAny_pure ?_) (Nat.zero_le _))
    have new : ObjOk P w (upd H s.heap.objs.size (.tup [])) (s.heap.push ({ cls := .type "tuple", data := .seq ([] : List Value).toArray } : Obj)) s.heap.objs.size (.tup []) := ⟨Nat.zero_le _, [], .nil, ⟨_, Heap.get?_push_size _ rfl, rfl, _, rfl⟩⟩
    have un := StX.un_laid (fs := frs outer) (s := s) (o := ({ cls := .type "tuple", data := .seq ([] : List Value).toArray } : Obj)) (u := .tup []) hn
    exact h _ _ [b, a, V.ref s.heap.objs.size] [b', a', Value.ref s.heap.objs.size] (StX.env0_laid e0 new) un rfl (fun e s' => hCX outer s H _ _ E e s' un (fun b o q => Heap.get?_push_of_some _ q) rfl) (.cons rb (.cons ra (.cons rfl .nil))) rfl ⟨_, hn, rfl, rfl⟩
  · subst ex eH
    exact hbody A outer s2 _ _ Q E hr' (hq p hp)
end
structure HasRK (P : Program) (w : World) (K : PySem.W.Frag) (mg : Str → Option Value) (base : Heap) (CX : CXT) (k : Nat) (x : Str) (ks : List Str) (sp : Sp) : Prop where
  ex : ∃ f, mg x = some (.ref f) ∧ PySem.W.keepIn K (.ref f) = true ∧ FnRK P w K mg base CX k f 0 ks sp
def tCallRK (m : Nat) (sp : Sp) (E : XK) (t : TA) : TE := fun σ H Q => t σ H fun vs H1 => vs.length = m ∧ sp vs H1 Q E
section
variable {X : Cx} {CX : CXT} {k j : Nat} {x : Str} {ks : List Str} {sp : Sp} {E : XK} {tk : TA} {p pos : Pos} {kws : List Keyword}
theorem pe_hasRK (F : HasRK X.prog X.w X.K X.mg X.base CX k x ks sp) (room : Room j X.A) (le : k ≤ j) (pass : Passes CX X E) (hkw : PK X kws tk) (gl : Gl X x := by rfl) (db : (x == ("__debug__" : Str)) = false := by decide)
    (hall : (backToKw pos (keywordEach kws X.env)).all (·.1.isSome) = true := by rfl) (hks : (backToKw pos (keywordEach kws X.env)).filterMap (·.1) = ks := by rfl)
    (hpl : ((backTo pos (starEach [] X.env)).any (·.1) || (backToKw pos (keywordEach kws X.env)).any (·.1.isNone)) = false := by rfl) :
    PE X (.Call (.Name x p) [] kws pos) (tCallRK ks.length sp E tk) := by
  obtain ⟨f, m, kp, F⟩ := F.ex
  refine ⟨fun pins s σ H Q I h => ?_⟩
  refine wpAny_Call_Name_kw (ld_glob I gl m ?_ db)
  refine PySem.W.callWith_KW0 (h₀ := X.base) I.ok.mod.kin kp hall ?_ hpl
  refine thn (hkw.run pos pins s σ H _ I h) fun ws s2 ⟨zs, H2, I2, rz, l2, q2⟩ => ⟨I2.kIn, ?_⟩
  rw [hks]
  refine wpAny_call (codeAny_mono (F X.A X.stack s2 H2 [] ws [] zs Q E (room.mono le) I2.env0 .nil rz rfl l2 q2) fun r s' hq => ?_)
  cases r with
  | error e => exact pass pins σ H2 s2 e s' I2 hq
  | ok fl =>
    cases fl with
    | ret u => exact I2.after hq
    | next => exact False.elim hq
    | brk => exact False.elim hq
    | cont => exact False.elim hq
end
end WL
set_option Elab.async false
set_option linter.all false
set_option maxRecDepth 100000
set_option maxHeartbeats 1000000
/-! for and if with a yield within, in a generator's body -/
namespace WL
open PySem PySem.Spec PyProof.Rows L2 GenW
section
variable {prog : Program} {w : World} {A : Around} {R : GenEnd} {Y : Protocol} {n : Nat} {s₀ : Shared} {fs : List Frame} {s : Shared} {env : Env}
/-- what a loop's code does with an exception -/
def loopRaise (env : Env) (x : Value) : Sem PySem.Fin := (do noteFrame x env; theTreesLotGoes x : Sem Unit).wrap (fun _ => .raise x) .raise id id
theorem seg_forLoop {target : Expr} {it : Value} {body : List Stmt}
    (h : wpAny (model prog w) (A.over (.forLoop target it body [] env) fs) (pyNext it) (fun r s₁ => match r with
      | none => Seg (model prog w) A R Y n s₀ (.block [] env) (.pure (.done .next)) fs s₁
      | some v => wpAny (model prog w) (A.over (.forLoop target it body [] env) fs) (letOwnedTupleGo target it v) (fun _ s₁' =>
          wpAny (model prog w) (A.over (.forLoop target it body [] env) fs) (assign target env v) (fun _ s₂ =>
            Seg (model prog w) A R Y n s₀ (.forLoop target it body [] env) ((execs body env).wrap (fun f => match f with
              | .next | .cont => .pure (.again (.forLoop target it body [] env))
              | .brk => .pure (.done .next)
              | .ret v => .pure (.done (.ret v))) (loopRaise env) id id) fs s₂)
            (fun x s' => Seg (model prog w) A R Y n s₀ (.forLoop target it body [] env) (loopRaise env x) fs s') s₁')
          (fun x s' => Seg (model prog w) A R Y n s₀ (.forLoop target it body [] env) (loopRaise env x) fs s') s₁)
      (fun x s' => Seg (model prog w) A R Y n s₀ (.forLoop target it body [] env) (loopRaise env x) fs s') s) :
    Seg (model prog w) A R Y n s₀ (.forLoop target it body [] env) ((model prog w).den (.forLoop target it body [] env)) fs s := by
  have er : ∀ x, (do noteFrame x env; theTreesLotGoes x : Sem Unit).bind (fun _ => (.raise x : Sem PySem.Fin)) = loopRaise env x := fun x => by unfold loopRaise; rw [Sem.bind_eq_wrap]
  show Seg _ A R Y n s₀ _ ((forTurn target it body [] env).onRaise (fun x => do noteFrame x env; theTreesLotGoes x)) fs s
  rw [Sem.onRaise_eq_wrap]
  unfold forTurn
  refine seg_bind_wrap (wpAny_standAt ?_)
  refine seg_bind_wrap (wpAny_onRaise (wpAny_mono h (fun r s₁ h₁ => ?_) fun x s' hx => wpAny_standAt ?_))
  · cases r with
    | none =>
      show Seg _ A R Y n s₀ _ (.pure (.again (.block [] env))) fs s₁
      exact seg_again rfl h₁
    | some v =>
      refine seg_bind_wrap (wpAny_mono h₁ (fun _ s₁' h₁' => ?_) fun x s' hx => ?_)
      · refine seg_bind_wrap (wpAny_mono h₁' (fun _ s₂ h₂ => ?_) fun x s' hx => ?_)
        · rw [Sem.bind_eq_wrap', Sem.wrap_wrap]
          have key : ∀ {T T' : Sem PySem.Fin}, T = T' → Seg (model prog w) A R Y n s₀ (.forLoop target it body [] env) T' fs s₂ → Seg (model prog w) A R Y n s₀ (.forLoop target it body [] env) T fs s₂ := fun e h => e ▸ h
          refine key (Sem.wrap_congr (execs body env) _ _ (fun f => ?_) fun e => ?_) h₂
          · cases f <;> rfl
          · exact er e
        · exact (er x) ▸ hx
      · exact (er x) ▸ hx
  · exact (er x) ▸ hx
theorem seg_For {target iter : Expr} {body : List Stmt} {pos : Pos} {c : Code} {K : Flow → Sem PySem.Fin} {J : Value → Sem PySem.Fin} {gd : Bool → Bool} {lv : List Value → List Value}
    (h : wpAny (model prog w) (A.over c fs) (eval iter env) (fun x s₁ => wpAny (model prog w) (A.over c fs) (pyIter x) (fun it s₂ =>
      ∀ p, Seg (model prog w) A R Y n s₀ (.forLoop target it body [] env) ((model prog w).den (.forLoop target it body [] env))
        (.ret (fun r => ((match r with | .ok f => (.pure f : Sem Flow) | .error e => .raise e).onRaise (cameBack env)).wrap K J gd lv) none (gd false) (lv []) c p [] :: fs) s₂)
      (fun x s' => Seg (model prog w) A R Y n s₀ c (J x) fs s') s₁) (fun x s' => Seg (model prog w) A R Y n s₀ c (J x) fs s') s)
    (hs : ∀ x, foldedSetIterable iter env x = pure x := by intro _; rfl) :
    Seg (model prog w) A R Y n s₀ c ((exec (.For target iter body [] pos) env).wrap K J gd lv) fs s := by
  rw [exec_For]
  refine seg_bind_wrap (wpAny_standAt ?_)
  refine seg_bind_wrap (wpAny_mono h (fun x s₁ h₁ => ?_) fun x s' hx => hx)
  refine seg_bind_wrap (wpAny_of_eq (hs x) ?_)
  refine seg_bind_wrap (wpAny_standAt ?_)
  refine seg_bind_wrap (wpAny_holding (wpAny_mono h₁ (fun it s₂ h₂ => ?_) fun x s' hx => hx))
  exact seg_call h₂
end
section
variable {X : Cx} {tg iter test : Expr} {body orelse : List Stmt}
def tGIf (c : TT) (t u : TGn) : TGn := fun D ys σ H => c σ H fun b H1 => if b = true then t D ys σ H1 else u D ys σ H1
theorem gs_if {pos : Pos} {tc : TT} {t u : TGn} (hc : PT X test tc) (hb : GSs X body t) (ho : GSs X orelse u) : GS X (.If test body orelse pos) (tGIf tc t u) := by
  refine ⟨fun A S ip R n ys s₀ c fs K J gd lv s σ H D g hn k hI ht => ?_⟩
  obtain ⟨acc, cc, r, I⟩ := hI
  show Seg _ A R _ _ s₀ c ((standAt pos >>= fun _ => isTrue test X.env (eval test X.env) >>= fun b => if b = true then execs body X.env else execs orelse X.env).wrap K J gd lv) fs s
  refine seg_bind_wrap (wpAny_standAt ?_)
  refine seg_bind_wrap ?_
  rw [g.over]
  refine wpAny_mono (hc.run _ s σ H _ I ht) (fun b s' hb' => ?_) fun x s' hx => k.exc n s₀ x s' hx
  obtain ⟨H2, I2, q2⟩ := hb'
  cases b with
  | true =>
    rw [if_pos rfl]
    exact hb.run A S ip R n ys s₀ c fs K J gd lv s' σ H2 D g hn k ⟨acc, cc, r, I2⟩ q2
  | false =>
    rw [if_neg Bool.false_ne_true]
    exact ho.run A S ip R n ys s₀ c fs K J gd lv s' σ H2 D g hn k ⟨acc, cc, r, I2⟩ q2
/-- W: the invariant by the turn and a measure -/
def tGFor (wi : TI) (g : TG) (tb : TGn) : TGn := fun D ys σ H => wi σ H fun J H1 => ∃ W : Nat → Nat → List V → L2.St → Hp → Prop, (∃ m, W 0 m ys σ H1) ∧ ∀ i m ys σ H, W i m ys σ H →
  (J.stop i H ∧ D.nx ys σ H) ∨ (J.go i H ∧ ∃ N : List V → L2.St → Hp → Prop, (∀ ys' σ' H', N ys' σ' H' → ∃ m', m' < m ∧ W (i + 1) m' ys' σ' H') ∧ ∀ x H', J.yld i H x H' → g x σ H' fun σ2 H2 => tb { D with nx := N, ct := N, bk := D.nx } ys σ2 H2)
theorem seg_back {S : Addr} {ip : List (Addr × Obj)} {A : Around} {R : GenEnd} {c c' : Code} {fs : List Frame} {K : Flow → Sem PySem.Fin} {J : Value → Sem PySem.Fin} {gd : Bool → Bool} {lv : List Value → List Value} {D : GEnds} {n : Nat} {s₀ s : Shared} {x : Value} {p : Pos}
    (hp : PassesOwn (model X.prog X.w) X.A X.env X.xe) (g : GC X S ip A c fs gd) (k : GK X S ip A R c fs K J D) (hw : c'.weight = 0) (hu : c'.cUnits = 0) (hx : X.xe x s) :
    Seg (model X.prog X.w) A R (GY X S) n s₀ c' (loopRaise X.env x)
      (.ret (fun r => ((match r with | .ok f => (.pure f : Sem Flow) | .error e => .raise e).onRaise (cameBack X.env)).wrap K J gd lv) none (gd false) (lv []) c p [] :: fs) s := by
  have gl := fun (kk : Result → Sem PySem.Fin) => gc_loop (k := kk) (c' := c') (l := lv []) (kp := []) (p := p) g hw hu
  unfold loopRaise
  refine seg_wrap ?_
  rw [(gl _).over]
  refine wpAny_bind (wpAny_mono (hp x s hx) (fun _ s'' hcb => wpAny_theTreesLotGoes ?_) fun y s'' hcb => ?_)
  · exact seg_leaf (.error x) (seg_cameBack g k hcb)
  · exact seg_leaf (.error y) (seg_cameBack g k hcb)
theorem gs_for {wi : TI} {g : TG} {tb : TGn} {pos : Pos} (hp : PassesOwn (model X.prog X.w) X.A X.env X.xe) (hc : X.calm = true) (hi : PI X tg iter wi) (hg : PG X tg g) (hb : GSs X body tb)
    (hs : ∀ x, foldedSetIterable iter X.env x = pure x := by intro _; rfl) : GS X (.For tg iter body [] pos) (tGFor wi g tb) := by
  refine ⟨fun A S ip R n ys s₀ c fs K J gd lv s σ H D gc hn k hI ht => ?_⟩
  obtain ⟨acc, cc, r, I⟩ := hI
  refine seg_For ?_ hs
  rw [gc.over]
  refine wpAny_mono (hi.run _ s σ H _ I ht) (fun v s1 h1 => wpAny_mono h1 (fun itv s2 h2 p => ?_) fun x s' hx => k.exc n s₀ x s' hx) fun x s' hx => k.exc n s₀ x s' hx
  obtain ⟨it, fp, tn, JJ, H2, e, I2, T, st2, f2, W, ⟨m0, w0⟩, turn⟩ := h2
  subst e
  have notS : ∀ b ∈ fp, b ≠ S := fun b hb e => (f2 b hb).2.2.2.2.2 (S, lstObj acc cc) (List.mem_append_right _ List.mem_cons_self) e.symm
  have stat : ∀ {H' : Hp} {acc' : Array Value} {c' : Nat}, (∀ b ∈ fp, H' b = none) → ∀ b ∈ fp, FpOk X ((S, lstObj acc' c') :: ip) H' b := fun {H' acc' c'} hn b hb => by
    obtain ⟨_, a1, a2, a3, a4, a5⟩ := f2 b hb
    refine ⟨hn b hb, a1, a2, a3, a4, fun p hp => ?_⟩
    rcases List.mem_append.mp hp with hp | hp
    · exact a5 p (List.mem_append_left _ hp)
    · rcases List.mem_cons.mp hp with hp | hp
      · rw [hp]
        exact fun e => notS b hb e.symm
      · exact a5 p (List.mem_append_right _ (List.mem_cons_of_mem _ hp))
  have gl := fun (kk : Result → Sem PySem.Fin) => gc_loop (k := kk) (c' := .forLoop tg (.ref it) body [] X.env) (l := lv []) (kp := []) (p := p) gc rfl rfl
  have loop : ∀ (m n : Nat) (ys : List V) (s₀ s : Shared) (σ : L2.St) (H : Hp) (i : Nat), n + ys.length = sizeLine → W i m ys σ H → GI X S ip ys σ H s → tn i s.heap → (∀ b ∈ fp, H b = none) →
      Seg (model X.prog X.w) A R (GY X S) n s₀ (.forLoop tg (.ref it) body [] X.env) ((model X.prog X.w).den (.forLoop tg (.ref it) body [] X.env))
        (.ret (fun r => ((match r with | .ok f => (.pure f : Sem Flow) | .error e => .raise e).onRaise (cameBack X.env)).wrap K J gd lv) none (gd false) (lv []) c p [] :: fs) s := by
    intro m
    induction m using Nat.strongRecOn with
    | ind m ih =>
      intro n ys s₀ s3 σ3 H3 i hn w3 hI3 st3 fr3
      obtain ⟨acc3, c3, r3, I3⟩ := hI3
      refine seg_forLoop ?_
      rw [(gl _).over]
      rcases turn i m ys σ3 H3 w3 with ⟨stop, qn⟩ | ⟨go, N, hN, step⟩
      · refine wpAny_mono (T.done X rfl rfl rfl hc i _ s3 σ3 H3 X.xe I3 (stat fr3) st3 stop) (fun r s4 hr => ?_) fun x s' hx => seg_back hp gc k rfl rfl hx
        obtain ⟨hr, I4⟩ := hr
        subst hr
        exact seg_leaf (.ok .next) (k.ok n ys s₀ s4 .next hn ⟨σ3, H3, ⟨acc3, c3, r3, I4⟩, qn⟩)
      · refine wpAny_mono (T.item X rfl rfl rfl hc i _ s3 σ3 H3 X.xe I3 (stat fr3) st3 go) (fun r s4 hr => ?_) fun x s' hx => seg_back hp gc k rfl rfl hx
        obtain ⟨u, hr, h4⟩ := hr
        subst hr
        refine wpAny_mono h4 (fun _ s5 h5 => ?_) fun x s' hx => seg_back hp gc k rfl rfl hx
        obtain ⟨x, H5, I5, r5, y5, st5, fr5⟩ := h5
        have I5' := I5.pinned (stat fr5) (T.obj _ _ st5)
        refine wpAny_mono (hg.run _ s5 σ3 H5 x u _ I5' r5 (step x H5 y5)) (fun _ s6 h6 => ?_) fun x s' hx => seg_back hp gc k rfl rfl hx
        obtain ⟨σ6, H6, I6, q6⟩ := h6
        have gl0 := gl (fun r => ((match r with | .ok f => (.pure f : Sem Flow) | .error e => .raise e).onRaise (cameBack X.env)).wrap K J gd lv)
        have gl2 : GC X S (ip ++ pinsAt fp s5.heap) A (.forLoop tg (.ref it) body [] X.env) (.ret (fun r => ((match r with | .ok f => (.pure f : Sem Flow) | .error e => .raise e).onRaise (cameBack X.env)).wrap K J gd lv) none (gd false) (lv []) c p [] :: fs) id :=
          ⟨gl0.pn, fun q hq => by
            rcases List.mem_append.mp hq with hq | hq
            · exact gl0.ip q hq
            · exact notS _ (of_pinsAt hq).1, gl0.apart, gl0.over, gl0.split, gl0.guard, rfl⟩
        have un : ∀ {ys7 : List V} {σ7 : L2.St} {H7 : Hp} {s7 : Shared}, GI X S (ip ++ pinsAt fp s5.heap) ys7 σ7 H7 s7 → GI X S ip ys7 σ7 H7 s7 := fun ⟨acc7, c7, r7, I7⟩ => ⟨acc7, c7, r7, Inv.unpinned (pins := (S, lstObj acc7 c7) :: ip) (pl := pinsAt fp s5.heap) I7⟩
        have again : ∀ {n' : Nat} {s₀' : Shared} {ys7 : List V} {σ7 : L2.St} {H7 : Hp} {s7 : Shared}, n' + ys7.length = sizeLine → GI X S (ip ++ pinsAt fp s5.heap) ys7 σ7 H7 s7 → N ys7 σ7 H7 →
            Seg (model X.prog X.w) A R (GY X S) n' s₀' (.forLoop tg (.ref it) body [] X.env) (.pure (.again (.forLoop tg (.ref it) body [] X.env)))
              (.ret (fun r => ((match r with | .ok f => (.pure f : Sem Flow) | .error e => .raise e).onRaise (cameBack X.env)).wrap K J gd lv) none (gd false) (lv []) c p [] :: fs) s7 := fun {n' s₀' ys7 σ7 H7 s7} hn7 I7 n7 => by
          obtain ⟨m', hm, w7⟩ := hN ys7 σ7 H7 n7
          obtain ⟨acc7, c7, r7, J7⟩ := id I7
          refine seg_again rfl (ih m' hm n' ys7 s₀' s7 σ7 H7 (i + 1) hn7 w7 (un I7) (T.keep _ _ _ st5 fun b hb o e => (J7.pin (b, o) (List.mem_append_right _ (List.mem_cons_of_mem _ (List.mem_append_right _ (mem_pinsAt hb e))))).1) fun b hb => ?_)
          obtain ⟨o, e, d⟩ := T.obj _ _ st5 b hb
          exact (J7.pin (b, o) (List.mem_append_right _ (List.mem_cons_of_mem _ (List.mem_append_right _ (mem_pinsAt hb e))))).2.1
        refine hb.run A S (ip ++ pinsAt fp s5.heap) R n ys s₀ _ _ _ _ id id s6 σ6 H6 { D with nx := N, ct := N, bk := D.nx } gl2 hn ⟨fun n' ys' s₀' s7 f hn' hs7 => ?_, fun n' s₀' x s7 hx => seg_back hp gc k rfl rfl hx⟩ ⟨acc3, c3, r3, I6⟩ q6
        cases f with
        | next => obtain ⟨σ7, H7, I7, n7⟩ := hs7; exact again hn' I7 n7
        | cont => obtain ⟨σ7, H7, I7, n7⟩ := hs7; exact again hn' I7 n7
        | brk =>
          obtain ⟨σ7, H7, I7, n7⟩ := hs7
          exact seg_leaf (.ok .next) (k.ok n' ys' s₀' s7 .next hn' ⟨σ7, H7, un I7, n7⟩)
        | ret v =>
          obtain ⟨x7, σ7, H7, I7, r7, q7⟩ := hs7
          exact seg_leaf (.ok (.ret v)) (k.ok n' ys' s₀' s7 (.ret v) hn' ⟨x7, σ7, H7, un I7, r7, q7⟩)
  exact loop m0 n ys s₀ s2 σ H2 0 hn w0 ⟨acc, cc, r, I2⟩ st2 fun b hb => (f2 b hb).1
end
end WL
set_option Elab.async false
set_option linter.all false
set_option maxRecDepth 100000
set_option maxHeartbeats 1000000
/-! super().__init__(..) in the __init__ of a class over a class of the program's own -/
namespace WL
open PySem PySem.Spec PyProof.Rows L2 NdefX
/-- an __init__ that speaks of super(): its function object, its cell, its code -/
structure OwnI (P : Program) (K : PySem.W.Frag) (C f : Addr) (st : Stmt) (fd : FuncData) : Prop where
  ex : ∃ (oc : Value) (od : Option Addr) (osl : Array (Option Value)) (nm qual : Str) (doc pm ctv : Value) (an : Option Addr) (cda cc : Addr),
    fd = PySem.W.fnX nm qual (defArgs st) (defBody st) (defScope st) [(("__class__" : Str), cc)] .none .none doc pm an (.ref cda) ctv ∧ K.lookup f = some ⟨oc, od, .func fd, osl⟩ ∧
    (∃ cl cld csl, K.lookup cc = some ⟨cl, cld, .cell (some (.ref C)), csl⟩) ∧
    (∃ ccl cdd vs ccs file tf, K.lookup cda = some ⟨ccl, cdd, .fields vs, ccs⟩ ∧ (vs[2]? : Option Value) = some (.str file tf) ∧ ((P.main.file : Str) == file) = true) ∧ PySem.W.codeIn K (.ref cda) qual = true
theorem ownI_ok {P : Program} {K : PySem.W.Frag} {C : Addr} {d : DefX} (hC : d.C K = C) (hd : d.nd = true) (h : exIB K P.main.file C (d.ad K) = true) (e : fnX K (d.ad K) = d.val) : ∃ fd, OwnI P K C (d.ad K) d.st fd := by
  unfold exIB at h
  unfold fnX at e
  split at h
  · next oc od fd osl lk =>
    rw [lk] at e
    simp only [DefX.val, Option.some.injEq, Prod.mk.injEq] at e
    obtain ⟨e1, e2, e3, e4, e5, e6⟩ := e
    obtain ⟨h1, h⟩ := He.ba h
    obtain ⟨h2, h3⟩ := He.ba h
    split at h1
    · next x cc ec =>
      obtain ⟨a, b⟩ := He.ba h1
      split at b
      · next cl cld C' csl el =>
        split at h2
        · next cda ecd =>
          split at h2
          · next ccl cdd vs ccs el2 =>
            split at h2
            · next fl tf ev =>
              rw [of_decide_eq_true a] at ec
              rw [of_decide_eq_true b] at el
              obtain ⟨c1, c2, c3, c4, c5, c6, c7, c8, c9, d1, d2, d3, d4, d5, d6⟩ := fd
              simp only at e1 e2 e3 e4 e5 ec ecd h3
              rw [hd] at e6
              unfold noDfl at e6
              simp only at e6
              split at e6
              · subst e1 e2 e3 e4 e5 ec ecd
                exact ⟨_, ⟨oc, od, osl, _, _, _, _, _, _, cda, cc, rfl, lk, ⟨cl, cld, csl, el⟩, ⟨ccl, cdd, vs, ccs, fl, tf, el2, ev, h2⟩, h3⟩⟩
              · cases e6
            · cases h2
          · cases h2
        · cases h2
      · cases b
    · cases h1
  · cases h
/-- what the class says of super().__init__ -/
structure SupC (P : Program) (K : PySem.W.Frag) (mg : Str → Option Value) (C f2 : Addr) : Prop where
  sup : PySem.W.ks_superIn K C C "__init__" = some (some (.ref f2))
  ty2 : PySem.W.typeIn K (.ref f2) = some (.type "function")
  fn2 : PySem.W.fnIn K f2 = true
  opq : PySem.W.nsIn K cStatics "thirdparty.any" = some none
  slf : PySem.W.mroIn K C (.ref C) = some true
  cls : ∃ cd, PySem.W.clsIn K C = some cd
  free : mg "super" = none
  top : (List.lookup ("super" : Str) P.main.scope.names).isSome = false
section
variable {P : Program} {w : World} {K : PySem.W.Frag} {mg : Str → Option Value} {base : Heap} {CX CX2 : CXT} {N ps ps2 : List Str} {k k2 : Nat} {C f f2 : Addr} {st : Stmt} {fd fd2 : FuncData} {sp sp2 : Sp}
theorem fnOk_sup {p0 p1 p2 p3 p4 : Pos} {e : Expr} {es : List Expr} {rest : List Stmt} (O : OwnI P K C f st fd) (M : SupC P K mg C f2) (S : NScope N ps ["__class__"] (defScope st)) (hps : ps[0]? = some ("self" : Str)) (hN0 : N[0]? = some ("self" : Str))
    (hbd : defBody st = .Expr (.Call (.Attribute (.Call (.Name "super" p0) [] [] p1) "__init__" p2) (e :: es) [] p3) p4 :: rest) (hpos : (p2.endLine == p3.line) = true)
    (hks : (defScope st).names.lookup ("super" : Str) = some .globalImplicit)
    (first : ∃ ar, ((defArgs st).posonlyargs ++ (defArgs st).args).head? = some ar ∧ ar.arg = ("self" : Str))
    (few : ∀ env, methodCallForm ((e :: es).length + ([] : List Keyword).length) (backTo p3 (starEach (e :: es) env)) (backToKw p3 (keywordEach [] env)) = true)
    (F2 : FnOk P w K mg base CX2 k2 f2 fd2 ps2 sp2) (B2 : Binds K fd2 ps2 []) (hk : k2 ≤ k)
    (len : ∀ vs H Q E, sp vs H Q E → vs.length = ps.length)
    (hbody : ∀ (F : NF) (A : Around) (outer : List Env) (s : Shared) (H : Hp) (vs : List V) (Q : VK) (E : XK), F.scope = defScope st → Room k (A.deeper (envF F f s.heap.objs.size)) → sp vs H Q E →
      ∃ (a dx : Addr) (fs : List (Str × V)) (vs' : List V) (ta : TA) (t : TS) (E2 : XK), vs = .ref a :: vs' ∧ H a = some (.ins C dx fs) ∧ PA (ncx CX P w K mg base N F f A outer s H E) (e :: es) ta ∧ PSs (ncx CX P w K mg base N F f A outer s H E) rest t ∧ Passes CX2 (ncx CX P w K mg base N F f A outer s H E) E2 ∧
        starEach (e :: es) (envF F f s.heap.objs.size) = (false, eval e (envF F f s.heap.objs.size)) :: starEach es (envF F f s.heap.objs.size) ∧ (backTo p3 (starEach es (envF F f s.heap.objs.size))).any (·.1) = false ∧
        ta (startF N vs [some (.ref C)]) H fun ws H1 => sp2 (.ref a :: ws) H1 (fun v H2 => t { nx := fun _ H' => Q .non H', rt := Q } (startF N vs [some (.ref C)]) H2) E2) :
    FnOk P w K mg base CX (k + 1) f fd ps sp := by
  refine ⟨len, fun A outer s H args us vs Q E hr e0 hbind r hsp => ?_⟩
  obtain ⟨oc, od, osl, nm, qual, doc, pm, ctv, an, cda, cc, rfl, lk, ⟨cl, cld, csl, hcell⟩, ⟨ccl, cdd, cvs, ccs, file, tf, hcode, hvs, hfile⟩, hcd⟩ := O.ex
  have hl := len _ _ _ _ hsp
  have KX : K.In s.heap := e0.mod.kin.keeps fun b o e => (e0.bs b o e).1
  have lim : s.heap.NoLimit := e0.mod.nolimit.keeps fun b o e => (e0.bs b o e).1
  obtain ⟨F, hF⟩ : ∃ F : NF, F = ⟨nm, qual, defArgs st, defBody st, defScope st, [(("__class__" : Str), cc)], cda⟩ := ⟨_, rfl⟩
  have hFsc : F.scope = defScope st := by rw [hF]
  have CA : CellsAt F.cl ["__class__"] [some (V.ref C)] s.heap H := by
    have ccN : H cc = none := (e0.bs _ _ (e0.mod.kin _ _ hcell)).2
    have isc : s.heap.IsCell cc (some (.ref C)) := ⟨_, KX _ _ hcell, rfl⟩
    rw [hF]
    have one : ∀ {y : Str} {c : Addr}, List.lookup y [(("__class__" : Str), cc)] = some c → y = "__class__" ∧ c = cc := fun {y c} h => by
      rw [List.lookup_cons] at h
      split at h
      · next e => exact ⟨eq_of_beq e, (Option.some.inj h).symm⟩
      · cases h
    refine ⟨rfl, fun y c h => ?_, fun x y c h1 h2 => (one h1).1.trans (one h2).1.symm, fun i y h => ?_⟩
    · rw [(one h).2]
      exact ⟨ccN, _, isc⟩
    · match i, h with
      | 0, h =>
        have h : some ("__class__" : Str) = some y := h
        cases h
        refine ⟨cc, rfl, fun v hv => ?_⟩
        cases hv
        exact ⟨.ref C, rfl, isc⟩
      | i + 1, h => simp at h
  refine ks_codeAny_call_defAt (body := defBody st) (binds := ps.zip us) hr.depth (KX _ _ lk) rfl lim (PySem.W.codeRec_of KX hcd) rfl hbind S.nocell (fun ⟨n, _⟩ hy => S.par n (List.of_mem_zip hy).1) (fun h₁ hns kp => ?_) S.co S.gen S.kind
  have henv : callEnv (PySem.W.fnX nm qual (defArgs st) (defBody st) (defScope st) [(("__class__" : Str), cc)] .none .none doc pm an (.ref cda) ctv) s.heap.objs.size f = envF F f s.heap.objs.size := by rw [hF]; rfl
  rw [henv]
  have hr' : Room k (A.deeper (envF F f s.heap.objs.size)) := hr.deeper _
  obtain ⟨a, dx, fs, vs', ta, t, E2, hvs', ha, hPA, hPS, hx, h1, h2, hq⟩ := hbody F A outer s H vs Q E hFsc hr' hsp
  have S' : NScope N ps ["__class__"] F.scope := by rw [hFsc]; exact S
  have I : Inv (ncx CX P w K mg base N F f A outer s H E) [] (startF N vs [some (.ref C)]) H { s with heap := h₁, toks := s.toks + (ps.zip us).length } := inv_startN S' hr.hd e0 hl r CA hns kp
  have fin : ∀ {σ' : L2.St} {H' : Hp} {v : V} {u : Value} {s' : Shared}, Inv (ncx CX P w K mg base N F f A outer s H E) [] σ' H' s' → L2.RelV v u → Q v H' → CE outer P w H s Q u s' :=
    fun {σ' H' v u s'} J rv q => ⟨v, H', J.os, J.bare, J.base, J.hok, rv, q⟩
  have kf : (envF F f s.heap.objs.size).scope.kind = .function := S'.kind
  rw [hbd]
  have kf0 : F.scope.kind = .function := S'.kind
  refine ks_wpAt_execs_cons (ks_wpAt_Expr_any ?_ (by simp [interactive, kf0]) rfl)
  refine ks_wpAt_MethodCall (pl := do return (← importBound (.Call (.Name "super" p0) [] [] p1) (envF F f s.heap.objs.size)).getD true) ?_ ?he
  case he =>
    have fw := few (envF F f s.heap.objs.size)
    show (attributeBase _ _ _ _ >>= fun ov => standAt _ >>= fun _ => methodCall _ _ _ _ _ ov _ _ _) = _
    unfold methodCall
    rw [fw]
    unfold methodCallPos calleeOf
    simp only [Bool.not_true, Bool.false_or, hpos, if_true, pure_bind, bind_assoc]
    rfl
  obtain ⟨ar, har, hself⟩ := first
  obtain ⟨cdC, hcls⟩ := M.cls
  have ks : (envF F f s.heap.objs.size).kindOf "super" = some .globalImplicit := by show F.scope.names.lookup _ = _; rw [hFsc]; exact hks
  have kc : (envF F f s.heap.objs.size).kindOf "__class__" = some .free := S'.frk _ List.mem_cons_self
  have kself : (envF F f s.heap.objs.size).kindOf "self" = some .local := S'.par _ (List.mem_of_getElem? hps)
  obtain ⟨mb, bl, bb⟩ := I.ok.mod.blt
  obtain ⟨mA, O1, _, _, _, _⟩ := ins_get I.hok ha
  obtain ⟨oD, hD1, hD2⟩ : ∃ oD, h₁.get? C = some oD ∧ oD.data = .cls cdC := by
    unfold PySem.W.clsIn at hcls
    split at hcls
    · rename_i c d cd' sl ho
      cases hcls
      exact ⟨_, I.kIn _ _ ho, rfl⟩
    · cases hcls
  refine PySem.ks_wpAt_super_base (fd := PySem.W.fnX nm qual (defArgs st) (defBody st) (defScope st) [(("__class__" : Str), cc)] .none .none doc pm an (.ref cda) ctv) ks kc (by decide) rfl (kp _ _ (KX _ _ lk)) rfl har (by rw [hF]) (I.kIn _ _ hcode) rfl hvs hfile M.top ?_
  refine PySem.W.ks_loadName_global kf ks (Calls.loadGlobal_builtin (I.ok.mod.glob.keeps I.bk) M.free (bl.keeps I.bk) ((bb _ (by decide +kernel)).trans PyProof.Rows.Boot.«super») ⟨rfl, ?_⟩)
  refine wpAny_loadName_free kf kc (by rw [hF]; rfl) ⟨_, I.kIn _ _ hcell, rfl⟩ ?_
  rw [hself]
  obtain ⟨m, hm, hlook⟩ := I.loc
  obtain ⟨uS, ruS, lkS⟩ := hlook 0 "self" (.ref a) hN0 (by
    show (startF N vs [some (V.ref C)])[0]? = _
    rw [hvs']; rfl) (Or.inl kself)
  cases ruS
  have hmS : m "self" = some (.ref a) := by
    rcases lkS with ⟨_, z⟩ | ⟨z, _⟩
    · exact z
    · have ks' : (ncx CX P w K mg base N F f A outer s H E).env.kindOf "self" = some .local := kself
      rw [ks'] at z
      rcases z with z | z <;> cases z
  refine wpAny_loadName_local kf kself hm hmS ?_
  refine PySem.ks_wpAny_isType_cls hD1 hD2 ⟨rfl, ?_⟩
  obtain ⟨ox, hox1, hox2, hox3⟩ : ∃ ox : Obj, h₁.get? a = some ox ∧ ox.cls = .ref C ∧ ∀ c, ox.data ≠ .cls c := by
    obtain ⟨q1, _, _⟩ := O1
    exact ⟨_, q1, rfl, fun c z => nomatch z⟩
  refine PySem.ks_wpAny_call_super hD1 hD2 hox1 hox2 hox3 (PySem.W.looks_mroIn I.kIn M.slf) ?_
  intro h2' e1 k1'
  have I2 : Inv (ncx CX P w K mg base N F f A outer s H E) [] (startF N vs [some (.ref C)]) H { s with heap := h2', toks := s.toks + (ps.zip us).length } := I.kept (t' := s.toks + (ps.zip us).length) k1'
  have haC : a ≠ C := fun z => by
    rw [z, hD1] at hox1
    cases hox1
    exact hox3 _ hD2
  have hsup := M.sup
  unfold PySem.W.ks_superIn at hsup
  rw [hcls] at hsup
  obtain ⟨of, hof, hofc⟩ : ∃ of, h2'.get? f2 = some of ∧ of.cls = .type "function" := by
    have ht' : (K.lookup f2).map (·.cls) = some (.type "function") := M.ty2
    cases z : K.lookup f2 with
    | none => rw [z] at ht'; cases ht'
    | some of => rw [z] at ht'; exact ⟨of, I2.kIn _ _ z, Option.some.inj ht'⟩
  refine PySem.ks_wpAny_getMethod_super e1 (PySem.W.looks_opaque I2.kIn M.opq) (l₀ := cdC.mro) (fun A Q E s k q => wpAny_bind ((PySem.W.looks_clsIn I2.kIn hcls) A _ E s k (wpAny_pure q))) rfl I2.kIn hsup hof hofc haC (by decide) ?_
  have I3 : Inv (ncx CX P w K mg base N F f A outer s H E) ((h2'.objs.size, PySem.W.methodObj (.ref f2) (.ref a)) :: []) (startF N vs [some (.ref C)]) H { s with heap := h2'.push (PySem.W.methodObj (.ref f2) (.ref a)), toks := s.toks + (ps.zip us).length + 1 } :=
    ClX.pin_new (s := { s with heap := h2', toks := s.toks + (ps.zip us).length }) I2 (fun _ _ z => Heap.get?_push_of_some _ z) (Nat.le_refl _) (Heap.get?_push_size h2' rfl) (fun v z => nomatch z)
  have hL3 := (I3.pin (h2'.objs.size, PySem.W.methodObj (.ref f2) (.ref a)) (List.mem_append_right _ List.mem_cons_self)).2.2.1
  refine PySem.W.callWith_M (K := K) (h₀ := base) (first := []) I3.ok.mod.kin (news_at hL3 (ClX.base_none I2 (Nat.le_refl _)) (ClX.pin_at I3)) List.mem_cons_self M.fn2 (thn (hPA.run p3 _ _ _ H _ I3 hq) fun us2 s4 ⟨ws, H1, I4, r4, q4⟩ => ⟨⟨ClX.pin_at I4, I4.kIn⟩, ?_⟩) h1 h2
  have r5 : Vals (V.ref a :: ws) (Value.ref a :: us2) := .cons rfl r4
  have hl5 : (Value.ref a :: us2 ++ []).length = ps2.length := by
    rw [List.append_nil, ← r5.length]
    exact F2.len _ _ _ _ q4
  have bb5 : BindsTo s4 fd2 ⟨Value.ref a :: us2, []⟩ (ps2.zip (Value.ref a :: us2)) := by
    have z := B2 s4 (Value.ref a :: us2) I4.kIn hl5
    rw [List.append_nil] at z
    exact z
  refine wpAny_call (PySem.W.method_call (ClX.pin_at I4) (codeAny_mono (F2.run (ncx CX P w K mg base N F f A outer s H E).A (ncx CX P w K mg base N F f A outer s H E).stack s4 H1 ⟨.ref a :: us2, []⟩ (.ref a :: us2) (.ref a :: ws) _ E2 (hr'.mono hk) I4.env0 bb5 r5 q4) fun r6 s6 hq6 => ?_))
  cases r6 with
  | error e6 => exact hx _ _ _ _ _ _ I4 hq6
  | ok fl =>
    cases fl with
    | ret u =>
      obtain ⟨v6, H6, I6, _, q6⟩ := I4.after hq6
      have I7 := ClX.unpin I6
      refine wpAt_of_wpAny (wpAny_mono (hPS.run [] _ _ _ _ I7 q6) (fun fl7 s7 hs7 => ?_) fun e7 s7 hs7 => hs7)
      cases fl7 with
      | ret u7 =>
        obtain ⟨v, σ', H', J, rv, q⟩ := hs7
        exact fin J rv q
      | next =>
        obtain ⟨σ', H', J, q⟩ := hs7
        exact fin (v := V.non) (u := Value.none) J rfl q
      | brk =>
        obtain ⟨_, _, _, q⟩ := hs7
        exact False.elim q
      | cont =>
        obtain ⟨_, _, _, q⟩ := hs7
        exact False.elim q
    | next => exact False.elim hq6
    | brk => exact False.elim hq6
    | cont => exact False.elim hq6
end
end WL
set_option Elab.async false
set_option linter.all false
set_option maxRecDepth 100000
set_option maxHeartbeats 1000000
/-! events as objects: what is known of their classes, what their defs promise -/
namespace WL
open PySem PySem.Spec PyProof.Rows L2 NdefX
/-- a class of events -/
structure EvO (K : PySem.W.Frag) (C : Addr) : Prop where
  cls : Cls K C
  n1 : NoAttr K C "_number"
  n2 : NoAttr K C "_modulus"
  n3 : NoAttr K C "_weekday"
  g1 : PySem.W.findIn K (.ref C) "__class__" = some (some (.builtin "object.__class__"))
  g2 : PySem.W.specialIn K (.builtin "object.__class__") "__get__" = some (some (.builtin "getset_descriptor.__get__"))
  g3 : PySem.W.takesIn K (.builtin "object.__class__") = some true
  g4 : PySem.W.mroIn K C (.type "object") = some true
theorem EvO.ty {K : PySem.W.Frag} {C a dx : Addr} {fs : List (Str × V)} {H : Hp} (D : EvO K C) (h : H a = some (.ins C dx fs)) : TyX K H (.ref a) (.ref C) := .base (.ins h D.cls D.g1 D.g2 D.g3 D.g4)
def evFs (n c : V) : Option Int → List (Str × V)
  | none => [("_number", n), ("_modulus", c)]
  | some w => [("_number", n), ("_modulus", c), ("_weekday", .int w)]
/-- the class that an event with this note has -/
def evC (DE UE : Addr) : Option Int → Addr
  | none => UE
  | some _ => DE
def EvAt (DE UE : Addr) (H : Hp) (v : V) (n c : Int) (note : Option Int) : Prop := ∃ a dx, v = .ref a ∧ H a = some (.ins (evC DE UE note) dx (evFs (.int n) (.int c) note))
theorem EvAt.same {DE UE : Addr} {H H' : Hp} {v : V} {n c : Int} {note : Option Int} (h : EvAt DE UE H v n c note) (k : ∀ b o, H b = some o → H' b = some o) : EvAt DE UE H' v n c note := by
  obtain ⟨a, dx, e, q⟩ := h
  exact ⟨a, dx, e, k _ _ q⟩
theorem EvAt.keep {DE UE : Addr} {H H' : Hp} {v : V} {n c : Int} {note : Option Int} (h : EvAt DE UE H v n c note) (k : Ik H H') : EvAt DE UE H' v n c note := by
  obtain ⟨a, dx, e, q⟩ := h
  exact ⟨a, dx, e, k _ _ _ _ q⟩
/-- events of these notes, numbered from i on -/
inductive Evs (DE UE : Addr) (c : Int) (H : Hp) : Nat → List V → List (Option Int) → Prop
  | nil {i : Nat} : Evs DE UE c H i [] []
  | cons {i : Nat} {v : V} {vs : List V} {n : Option Int} {ns : List (Option Int)} (h : EvAt DE UE H v (i : Nat) c n) (t : Evs DE UE c H (i + 1) vs ns) : Evs DE UE c H i (v :: vs) (n :: ns)
theorem Evs.same {DE UE : Addr} {c : Int} {H H' : Hp} (k : ∀ b o, H b = some o → H' b = some o) : ∀ {i : Nat} {vs : List V} {ns : List (Option Int)}, Evs DE UE c H i vs ns → Evs DE UE c H' i vs ns
  | _, _, _, .nil => .nil
  | _, _, _, .cons h t => .cons (h.same k) (t.same k)
theorem Evs.keep {DE UE : Addr} {c : Int} {H H' : Hp} (k : Ik H H') : ∀ {i : Nat} {vs : List V} {ns : List (Option Int)}, Evs DE UE c H i vs ns → Evs DE UE c H' i vs ns
  | _, _, _, .nil => .nil
  | _, _, _, .cons h t => .cons (h.keep k) (t.keep k)
theorem Evs.length {DE UE : Addr} {c : Int} {H : Hp} : ∀ {i : Nat} {vs : List V} {ns : List (Option Int)}, Evs DE UE c H i vs ns → vs.length = ns.length
  | _, _, _, .nil => rfl
  | _, _, _, .cons _ t => by rw [List.length_cons, List.length_cons, t.length]
theorem Evs.snoc {DE UE : Addr} {c : Int} {H : Hp} : ∀ {i : Nat} {vs : List V} {ns : List (Option Int)} {v : V} {n : Option Int}, Evs DE UE c H i vs ns → EvAt DE UE H v ((i + vs.length : Nat) : Int) c n → Evs DE UE c H i (vs ++ [v]) (ns ++ [n])
  | i, _, _, v, n, .nil, q => .cons (by simpa using q) .nil
  | i, _, _, v, n, .cons (vs := vs) h t, q => by
    refine .cons h (t.snoc ?_)
    have e : i + 1 + vs.length = i + (vs.length + 1) := by omega
    rw [e]
    exact q
theorem Evs.get {DE UE : Addr} {c : Int} {H : Hp} : ∀ {i : Nat} {vs : List V} {ns : List (Option Int)}, Evs DE UE c H i vs ns → ∀ {j : Nat} {v : V}, vs[j]? = some v → ∃ n, ns[j]? = some n ∧ EvAt DE UE H v ((i + j : Nat) : Int) c n
  | _, _, _, .nil, j, v, h => by simp at h
  | i, _, _, .cons h t, 0, v, e => by
    cases e
    exact ⟨_, rfl, h⟩
  | i, _, _, .cons h t, j + 1, v, e => by
    obtain ⟨n, e1, e2⟩ := t.get (j := j) (by simpa using e)
    have e3 : i + 1 + j = i + (j + 1) := by omega
    rw [e3] at e2
    exact ⟨n, e1, e2⟩
/-- the greatest day up to this one -/
def latD (c : Int) : Option Int → Int → Int
  | none, i => i
  | some w, i => i - (i - w) % c
/-- the weekdays that it can have -/
def choD (c : Int) : Option Int → List Int
  | none => (List.range c.toNat).map fun n => (n : Nat)
  | some w => [w]
theorem latD_self {c w : Int} (h : 0 ≤ w ∧ w < c) {i : Int} (hi : 0 ≤ i ∧ i < c) : (latD c (some w) i = i) ↔ i = w := by
  show i - (i - w) % c = i ↔ i = w
  have hc : 0 < c := by omega
  constructor
  · intro e
    have z : (i - w) % c = 0 := by omega
    have d := Int.dvd_of_emod_eq_zero z
    obtain ⟨k, hk⟩ := d
    have : k = 0 := by
      rcases Int.lt_trichotomy k 0 with q | q | q
      · exfalso
        have : c * k ≤ c * (-1) := Int.mul_le_mul_of_nonneg_left (by omega) (by omega)
        omega
      · exact q
      · exfalso
        have : c * 1 ≤ c * k := Int.mul_le_mul_of_nonneg_left (by omega) (by omega)
        omega
    subst this
    omega
  · rintro rfl
    simp
theorem latD_idem {c : Int} (hc : 0 < c) (o : Option Int) (i : Int) : latD c o (latD c o i) = latD c o i := by
  cases o with
  | none => rfl
  | some w =>
    show (i - (i - w) % c) - ((i - (i - w) % c) - w) % c = i - (i - w) % c
    have e : i - (i - w) % c - w = c * ((i - w) / c) := by
      have := Int.emod_add_mul_ediv (i - w) c
      omega
    have z : (i - (i - w) % c - w) % c = 0 := by rw [e]; exact Int.mul_emod_right _ _
    omega
/-- a property that several classes have of one -/
def tPropA (K : PySem.W.Frag) (n : Str) (p g : Addr) (sp : Sp) (E : XK) (ta : TE) : TE := fun σ H Q => ta σ H fun x H1 => ∃ a C dx fs, x = .ref a ∧ H1 a = some (.ins C dx fs) ∧ Cls K C ∧ PropOf K C n p g ∧ sp [.ref a] H1 Q E
theorem pe_propA {X : Cx} {CX : CXT} {k : Nat} {p g : Addr} {f : Str} {fd : FuncData} {ps : List Str} {sp : Sp} {E : XK} {e : Expr} {pos : Pos} {ta : TE} (he : PE X e ta) (F : FnOk X.prog X.w X.K X.mg X.base CX k g fd ps sp) (hr : Room (k + 1) X.A) (hb : Binds X.K fd ps []) (hx : Passes CX X.nox E)
    (hab : attributeBase e f X.env (eval e X.env) = eval e X.env := by rfl) : PE X (.Attribute e f pos) (tPropA X.K f p g sp E ta) := by
  refine ⟨fun pins s σ H Q I h => ?_⟩
  refine attr_of hab (thn (he.run pins s σ H _ I h) fun u s1 ⟨x, H1, I1, rx, a, C, dx, fs, ex, ea, c, hp, q⟩ => ?_)
  subst ex
  obtain rfl : u = Value.ref a := rx
  exact getprop_ok I1 ea c hp F hr hb .nil hx q
/-! ### what the defs promise -/
def spEvInit (K : PySem.W.Frag) : Sp := fun vs H Q _ => ∃ (C a dx : Addr) (x y : V), vs = [.ref a, x, y] ∧ EvO K C ∧ H a = some (.ins C dx []) ∧ ∀ H', H' a = some (.ins C dx [("_number", x), ("_modulus", y)]) → (∀ b o, b ≠ a → H b = some o → H' b = some o) → Q .non H'
def spEvInitD (DE : Addr) : Sp := fun vs H Q _ => ∃ (a dx : Addr) (x y z : V), vs = [.ref a, x, y, z] ∧ H a = some (.ins DE dx []) ∧ ∀ H', H' a = some (.ins DE dx [("_number", x), ("_modulus", y), ("_weekday", z)]) → (∀ b o, b ≠ a → H b = some o → H' b = some o) → Q .non H'
def spGetA (K : PySem.W.Frag) (f : Str) : Sp := fun vs H Q _ => ∃ (C a dx : Addr) (fs : List (Str × V)) (v : V), vs = [.ref a] ∧ EvO K C ∧ H a = some (.ins C dx fs) ∧ fs.lookup f = some v ∧ Q v H
def spLat (K : PySem.W.Frag) (DE UE IN : Addr) (dt : Bool) : Sp := fun vs H Q E => ∃ (v y : V) (n c : Int) (note : Option Int) (s : Sh), vs = [v, y] ∧ note.isSome = dt ∧ 2 ≤ c ∧ EvAt DE UE H v n c note ∧ AnS K H y s ∧ (∀ i, s = .int i → Q (.int (latD c note i)) H) ∧
  (s.isInt = false → ∀ d, H d = none → E (.ref IN) (some d) (upd H d (.xd [("value", y)])))
def spFits (K : PySem.W.Frag) (DE UE IN : Addr) : Sp := fun vs H Q E => ∃ (v y : V) (n c : Int) (note : Option Int) (s : Sh), vs = [v, y] ∧ 2 ≤ c ∧ EvAt DE UE H v n c note ∧ AnS K H y s ∧ (∀ i, s = .int i → Q (.bl (decide (latD c note i = i))) H) ∧
  (s.isInt = false → ∀ d, H d = none → E (.ref IN) (some d) (upd H d (.xd [("value", y)])))
def spCho (DE UE : Addr) : SpG := fun vs H Q _ => ∃ (v : V) (n c : Int) (note : Option Int), vs = [v] ∧ (2 ≤ c ∧ c ≤ 100) ∧ (∀ w, note = some w → 0 ≤ w ∧ w < c) ∧ EvAt DE UE H v n c note ∧ ∀ H', (∀ b o, H b = some o → H' b = some o) → Q ((choD c note).map V.int) H'
def spEvent (K : PySem.W.Frag) (DC DE UE IE : Addr) : Sp := fun vs H Q E => ∃ (v y : V) (c w : Int) (ns : List (Option Int)) (ls : List (Int × Int × Int)) (s : Sh), vs = [v, y] ∧ DiaAt DC H v c ns ls ∧ DOK c ns ls w ∧ AnS K H y s ∧
  (∀ (i : Nat) (n : Option Int), s = .int (i : Nat) → ns[i]? = some n → ∀ (x : Addr) (H' : Hp), H x = none → EvAt DE UE H' (.ref x) (i : Nat) c n → (∀ b o, H b = some o → H' b = some o) → Q (.ref x) H') ∧
  (s.within 0 ((ns.length : Int) - 1) = false → ∀ d, H d = none → E (.ref IE) (some d) (upd H d (.xd [("value", y)])))
def spEvsG (DC DE UE : Addr) : SpG := fun vs H Q _ => ∃ (v : V) (c w : Int) (ns : List (Option Int)) (ls : List (Int × Int × Int)), vs = [v] ∧ DiaAt DC H v c ns ls ∧ DOK c ns ls w ∧ ∀ (xs : List V) (H' : Hp), Evs DE UE c H' 0 xs ns → (∀ b o, H b = some o → H' b = some o) → Q xs H'
/-! ### loops of generators read -/
theorem gfor_range {lo : Int} {n : Nat} {g : TG} {tb : TGn} {D : GEnds} {ys : List V} {σ : L2.St} {H : Hp} (Pv : Nat → List V → L2.St → Hp → Prop) (h0 : Pv 0 ys σ H)
    (hs : ∀ i ys σ H, i < n → Pv i ys σ H → g (.int (lo + i)) σ H fun σ2 H2 => tb { D with nx := Pv (i + 1), ct := Pv (i + 1), bk := D.nx } ys σ2 H2) (hd : ∀ ys σ H, Pv n ys σ H → D.nx ys σ H) :
    ∃ W : Nat → Nat → List V → L2.St → Hp → Prop, (∃ m, W 0 m ys σ H) ∧ ∀ i m ys σ H, W i m ys σ H →
      ((Itr lo n).stop i H ∧ D.nx ys σ H) ∨ ((Itr lo n).go i H ∧ ∃ N : List V → L2.St → Hp → Prop, (∀ ys' σ' H', N ys' σ' H' → ∃ m', m' < m ∧ W (i + 1) m' ys' σ' H') ∧ ∀ x H', (Itr lo n).yld i H x H' → g x σ H' fun σ2 H2 => tb { D with nx := N, ct := N, bk := D.nx } ys σ2 H2) := by
  refine ⟨fun i m ys σ H => m = n - i ∧ i ≤ n ∧ Pv i ys σ H, ⟨n, by simp, Nat.zero_le _, h0⟩, ?_⟩
  rintro i m ys σ H ⟨rfl, hi, p⟩
  by_cases hlt : i < n
  · refine .inr ⟨hlt, Pv (i + 1), fun ys' σ' H' p' => ⟨n - (i + 1), by omega, rfl, hlt, p'⟩, fun x H' y => ?_⟩
    obtain ⟨e, y⟩ := y
    subst e y
    exact hs i ys σ _ hlt p
  · have e : i = n := by omega
    subst e
    exact .inl ⟨Nat.le_refl _, hd ys σ H p⟩
theorem gg_seq {t u : TGn} {D : GEnds} {ys : List V} {σ : L2.St} {H : Hp} (h : t { D with nx := fun ys' σ' H' => u D ys' σ' H' } ys σ H) : tGThen t u D ys σ H := h
theorem gg_for {wi : TI} {g : TG} {tb : TGn} {D : GEnds} {ys : List V} {σ : L2.St} {H : Hp} (h : wi σ H fun J H1 => ∃ W : Nat → Nat → List V → L2.St → Hp → Prop, (∃ m, W 0 m ys σ H1) ∧ ∀ i m ys σ H, W i m ys σ H →
  (J.stop i H ∧ D.nx ys σ H) ∨ (J.go i H ∧ ∃ N : List V → L2.St → Hp → Prop, (∀ ys' σ' H', N ys' σ' H' → ∃ m', m' < m ∧ W (i + 1) m' ys' σ' H') ∧ ∀ x H', J.yld i H x H' → g x σ H' fun σ2 H2 => tb { D with nx := N, ct := N, bk := D.nx } ys σ2 H2)) : tGFor wi g tb D ys σ H := h
theorem gg_nil {D : GEnds} {ys : List V} {σ : L2.St} {H : Hp} (h : D.nx ys σ H) : tG0 D ys σ H := h
theorem gg_if {c : TT} {t u : TGn} {D : GEnds} {ys : List V} {σ : L2.St} {H : Hp} (h : c σ H fun b H1 => if b = true then t D ys σ H1 else u D ys σ H1) : tGIf c t u D ys σ H := h
theorem gg_yield {te : TE} {D : GEnds} {ys : List V} {σ : L2.St} {H : Hp} (hl : ys.length < sizeLine) (h : te σ H fun x H1 => D.nx (ys ++ [x]) σ H1) : tGYield te D ys σ H := ⟨hl, h⟩
theorem choD_step {c : Int} {o : Option Int} (hc : 2 ≤ c) (hw : ∀ w, o = some w → 0 ≤ w ∧ w < c) {i : Nat} (hi : (i : Int) < c) :
    (choD c o).filter (fun k => decide (k < ((i + 1 : Nat) : Int))) = (choD c o).filter (fun k => decide (k < (i : Int))) ++ (if latD c o i = i then [(i : Int)] else []) := by
  cases o with
  | none =>
    rw [if_pos (show latD c none i = i from rfl)]
    unfold choD
    have hi' : i < c.toNat := by omega
    have key : ∀ m : Nat, i < m → ((List.range m).map fun n => ((n : Nat) : Int)).filter (fun k => decide (k < ((i + 1 : Nat) : Int))) = ((List.range m).map fun n => ((n : Nat) : Int)).filter (fun k => decide (k < (i : Int))) ++ [(i : Int)] := by
      intro m
      induction m with
      | zero => intro h; omega
      | succ m ih =>
        intro h
        rw [List.range_succ, List.map_append, List.filter_append, List.filter_append]
        rcases Nat.lt_or_ge i m with q | q
        · have e1 : ([m].map fun n => ((n : Nat) : Int)).filter (fun k => decide (k < ((i + 1 : Nat) : Int))) = [] := by
            rw [List.map_singleton, List.filter_cons_of_neg (by simp; omega)]; rfl
          have e2 : ([m].map fun n => ((n : Nat) : Int)).filter (fun k => decide (k < (i : Int))) = [] := by
            rw [List.map_singleton, List.filter_cons_of_neg (by simp; omega)]; rfl
          rw [e1, e2, List.append_nil, List.append_nil]
          exact ih q
        · have e : m = i := by omega
          subst e
          have e1 : ([m].map fun n => ((n : Nat) : Int)).filter (fun k => decide (k < ((m + 1 : Nat) : Int))) = [(m : Int)] := by
            rw [List.map_singleton, List.filter_cons_of_pos (by simp; omega)]; rfl
          have e2 : ([m].map fun n => ((n : Nat) : Int)).filter (fun k => decide (k < (m : Int))) = [] := by
            rw [List.map_singleton, List.filter_cons_of_neg (by simp)]; rfl
          have all1 : ((List.range m).map fun n => ((n : Nat) : Int)).filter (fun k => decide (k < ((m + 1 : Nat) : Int))) = (List.range m).map fun n => ((n : Nat) : Int) := by
            rw [List.filter_eq_self]
            intro a ha
            obtain ⟨n, hn, rfl⟩ := List.mem_map.mp ha
            have := List.mem_range.mp hn
            exact decide_eq_true (by omega)
          have all2 : ((List.range m).map fun n => ((n : Nat) : Int)).filter (fun k => decide (k < (m : Int))) = (List.range m).map fun n => ((n : Nat) : Int) := by
            rw [List.filter_eq_self]
            intro a ha
            obtain ⟨n, hn, rfl⟩ := List.mem_map.mp ha
            have := List.mem_range.mp hn
            exact decide_eq_true (by omega)
          rw [e1, e2, all1, all2, List.append_nil]
    exact key _ hi'
  | some w =>
    obtain ⟨w0, w1⟩ := hw w rfl
    have z := latD_self (c := c) ⟨w0, w1⟩ (i := (i : Int)) ⟨by omega, hi⟩
    unfold choD
    by_cases e : (i : Int) = w
    · rw [if_pos (z.mpr e), List.filter_cons_of_pos (by simp; omega), List.filter_cons_of_neg (by simp; omega)]
      simp [e]
    · rw [if_neg (fun h => e (z.mp h))]
      by_cases q : w < (i : Int)
      · rw [List.filter_cons_of_pos (by simp; omega), List.filter_cons_of_pos (by simpa using q)]
        simp
      · rw [List.filter_cons_of_neg (by simp; omega), List.filter_cons_of_neg (by simpa using q)]
        simp
theorem choD_none {c : Int} {o : Option Int} (hw : ∀ w, o = some w → 0 ≤ w ∧ w < c) : (choD c o).filter (fun k => decide (k < ((0 : Nat) : Int))) = [] := by
  rw [List.filter_eq_nil_iff]
  intro a ha
  cases o with
  | none =>
    obtain ⟨n, hn, rfl⟩ := List.mem_map.mp ha
    simp
  | some w =>
    rw [List.mem_singleton.mp ha]
    have := hw w rfl
    simp; omega
theorem choD_all {c : Int} {o : Option Int} (hc : 2 ≤ c) (hw : ∀ w, o = some w → 0 ≤ w ∧ w < c) : (choD c o).filter (fun k => decide (k < ((c.toNat : Nat) : Int))) = choD c o := by
  rw [List.filter_eq_self]
  intro a ha
  cases o with
  | none =>
    obtain ⟨n, hn, rfl⟩ := List.mem_map.mp ha
    have := List.mem_range.mp hn
    exact decide_eq_true (by omega)
  | some w =>
    rw [List.mem_singleton.mp ha]
    have := hw w rfl
    exact decide_eq_true (by omega)
theorem choD_len {c : Int} {o : Option Int} (hc : 2 ≤ c ∧ c ≤ 100) (p : Int → Bool) : ((choD c o).filter p).length ≤ 100 := by
  refine Nat.le_trans (List.length_filter_le _ _) ?_
  cases o with
  | none => simp [choD]; omega
  | some w => simp [choD]
/-- `latest` of a class of events: what its callers know -/
structure LatF (P : Program) (w : World) (K : PySem.W.Frag) (mg : Str → Option Value) (base : Heap) (DE UE IN C : Addr) (dt : Bool) : Prop where
  ex : ∃ f fd, Meth K C "latest" f ∧ Binds K fd ["self", "day"] [] ∧ FnOk P w K mg base (L2.CX P w) 3 f fd ["self", "day"] (spLat K DE UE IN dt) ∧ KBn K fd ["self", "day"] 1 ["day"] (fun us ws => us ++ ws) (fun vs zs => vs ++ zs)
end WL
set_option Elab.async false
set_option linter.all false
set_option maxRecDepth 100000
set_option maxHeartbeats 1000000
/-! repr of a list of whole numbers of up to 4300 digits -/
namespace PySem.W
open PySem PySem.Calls PyProof.Rows
section
variable {prog : Program} {w : World} {A : Around} {E : Value → Shared → Prop} {s : Shared} {a : Int} {t : Tok} {h₀ : Heap}
theorem big_call_repr {Q : Value → Shared → Prop} (hn : s.heap.NoDigits) (hlt : a.natAbs < 10 ^ 4300) (h1 : Q (.str (toString a) s.toks) { s with toks := s.toks + 1 }) : wpAny (model prog w) A (call (.builtin "int.__repr__") [.int a t]) Q E s := by
  refine wpAny_call_entry F.slot_int_repr (typeIs_int s a t) F.entry_int_repr ?_ (F.args_int_repr_1 _)
  unfold Builtin.«int.__repr__»
  show wpAny _ _ (do let r ← Builtin.overDigitLimit? a; _) _ _ s
  refine wpAny_bind (overDigitLimit_any hn (fun _ => ?_) (fun hge => absurd hlt (Nat.not_lt.mpr hge)))
  exact wpAny_bind (wpAny_mkStr (wpAny_pure ⟨_, rfl, h1⟩) (int_text_fits10 hlt))
theorem big_reprObj {Q : Value → Shared → Prop} (hn : s.heap.NoDigits) (hlt : a.natAbs < 10 ^ 4300) (h : Q (.str (toString a) s.toks) { s with toks := s.toks + 1 }) : wpAny (model prog w) A (pyReprObj (.int a t)) Q E s := by
  unfold pyReprObj
  have hv : [Value.int a t].any Value.onHeap = false := rfl
  simp only [cRoomFor, hv, Bool.false_eq_true, if_false, pure_bind]
  refine wpAny_bind (wpAny_specialOf (name := Str.ofString "__repr__") (typeIs_int s a t) F.slot_int_repr.lookup ?_)
  refine wpAny_bind (m := callSpecialIfBound? (.int a t) (Str.ofString "__repr__")) (wpAny_callSpecialIfBound?_slot (name := Str.ofString "__repr__") (typeIs_int s a t) F.slot_int_repr (big_call_repr hn hlt ?_))
  exact wpAny_bind (wpAny_isInstance (T := "str") (b := true) rfl isSubtype_str_str (wpAny_pure h))
theorem big_reprK (hn : h₀.NoDigits) (hlt : a.natAbs < 10 ^ 4300) (as : List Addr) (d : Nat) : ReprK prog w as h₀ d (.int a t) (toString a) := fun base hb A g E s Q _ _ _ hk hQ => by
  rw [pyReprUnder_leaf (v := .int a t) (by omega) (fun _ e => nomatch e)]
  unfold pyRepr
  exact wpAny_bind (big_reprObj (hn.keeps hk) hlt (wpAny_pure (hQ s.heap _ fun _ _ e => e)))
end
end PySem.W
namespace WL
open PySem PySem.Spec PyProof.Rows L2
def intsT (is : List Int) : PySem.Str := listText (is.map fun i => (toString i : PySem.Str))
def rShowI : List V → Hp → VK → Prop := fun vs H Q => ∃ (a : Addr) (is : List Int), vs = [V.ref a] ∧ H a = some (.lst (is.map V.int)) ∧ is ≠ [] ∧ (∀ i ∈ is, i.natAbs < 10 ^ 4300) ∧ (intsT is).length ≤ sizeLine ∧ Q (.str (intsT is)) H
theorem call_showI {X : Cx} {k : Nat} (nd : NoDig X.K) (hg : X.A.guards = some []) (hr : Room k X.A) : CallR X (.builtin "repr") rShowI := by
  intro pins s σ H xs us Q I r h
  obtain ⟨a, is, rfl, ha, ne, hb, hz, q⟩ := h
  obtain ⟨u, rfl, rx⟩ := vals1 r
  obtain rfl : u = Value.ref a := rx
  obtain ⟨mc, hns, _⟩ := I.nolimit
  have hd : s.heap.NoDigits := ⟨mc, hns, PySem.W.ns_none_of I.kIn hns nd⟩
  obtain ⟨_, its, n, rv, hlen, eo⟩ := Inv.lstM I ha
  have hu := hr.units
  have nth : ∀ (i : Nat) (y : Value), its[i]? = some y → ∃ j t, is[i]? = some j ∧ y = .int j t := fun i y hy => by
    have hi : i < (is.map V.int).length := by
      rw [hlen]
      exact (List.getElem?_eq_some_iff.mp hy).1
    obtain ⟨u2, e1, e2⟩ := rv.get (i := i) (x := (is.map V.int)[i]) (by rw [List.getElem?_eq_getElem hi])
    rw [hy] at e1
    cases e1
    rw [List.length_map] at hi
    rw [List.getElem_map] at e2
    obtain ⟨t, e2⟩ := e2
    exact ⟨is[i], t, by simp [hi], e2⟩
  cases its with
  | nil =>
    rw [List.length_map] at hlen
    exact absurd (List.length_eq_zero_iff.mp hlen) ne
  | cons x l =>
  refine call_repr_slot (A := X.A) (by omega) ⟨_, eo, rfl⟩ F.slot_list_repr.toG (call_list_reprK (as := []) (h₀ := s.heap) (d := 0) (A := X.A.in1) (ts := is.map fun i => (toString i : PySem.Str)) eo rfl rfl (by simp) (by
      rw [List.length_map, ← List.length_map (f := V.int), hlen]; rfl) (fun i y hy => ?_) hg (fun b hb => Clear.nil b) (by show X.A.units + 1 + 1 < cLine; omega) (fun _ _ e => e) (fun h' u tk kp => ⟨_, _, rfl, .str (intsT is), H, I.kept (t' := tk) kp, ⟨u, rfl⟩, q⟩) hz)
  obtain ⟨j, t, e1, rfl⟩ := nth i y (by simpa using hy)
  exact ⟨_, by rw [List.getElem?_map, e1]; rfl, PySem.W.big_reprK hd (hb j (List.mem_of_getElem? e1)) [] 0⟩
theorem g_showI {H : Hp} {Q : VK} {a : Addr} {is : List Int} (h : H a = some (.lst (is.map V.int))) (h1 : is ≠ []) (h2 : ∀ i ∈ is, i.natAbs < 10 ^ 4300) (h3 : (intsT is).length ≤ sizeLine) (q : Q (.str (intsT is)) H) : rShowI [.ref a] H Q := ⟨a, is, rfl, h, h1, h2, h3, q⟩
end WL
set_option Elab.async false
set_option linter.all false
set_option maxRecDepth 100000
set_option maxHeartbeats 1000000
/-! numbers of many same digits: how great they are; the texts of two numbers -/
namespace WL
open PySem PySem.Spec PyProof.Rows L2
theorem digits_fold' {c e : Nat} (hs : ∀ arr b, NumText.step 10 (arr, b) c = some (arr.push e, true)) : ∀ (k : Nat) (arr : Array Nat) (b : Bool), ∃ arr', (List.replicate (k + 1) c).foldlM (NumText.step 10) (arr, b) = some (arr', true) ∧ arr'.toList = arr.toList ++ List.replicate (k + 1) e
  | 0, arr, b => ⟨arr.push e, by rw [List.replicate_succ, List.foldlM_cons, hs]; rfl, by simp⟩
  | k + 1, arr, b => by
    obtain ⟨arr', h1, h2⟩ := digits_fold' hs k (arr.push e) true
    refine ⟨arr', ?_, by rw [h2, Array.toList_push, List.append_assoc]; rfl⟩
    rw [List.replicate_succ, List.foldlM_cons, hs]
    exact h1
theorem fold_lt {e : Nat} (he : e ≤ 9) : ∀ (k a : Nat), (List.replicate k e).foldl (fun n d => n * 10 + d) a < (a + 1) * 10 ^ k
  | 0, a => by simp
  | k + 1, a => by
    rw [List.replicate_succ, List.foldl_cons]
    have z := fold_lt he k (a * 10 + e)
    refine Nat.lt_of_lt_of_le z ?_
    rw [Nat.pow_succ, Nat.mul_comm (10 ^ k) 10, ← Nat.mul_assoc]
    exact Nat.mul_le_mul_right _ (by omega)
theorem reads_many' {c e m : Nat} (he : e ≤ 9) (hb : NumText.blank c = false) (h1 : c ≠ 45) (h2 : c ≠ 43) (hs : ∀ arr b, NumText.step 10 (arr, b) c = some (arr.push e, true)) (hm : m + 1 ≤ 4300) : ∃ n, (int_private% "readNumeral") 4300 10 (List.replicate (m + 1) c) = (int_private% "Numeral.value") n ∧ 0 ≤ n ∧ n < ((10 ^ (m + 1) : Nat) : Int) := by
  obtain ⟨ds, f1, f2⟩ := digits_fold' hs m #[] false
  obtain ⟨c1, c2⟩ := core_rep hb h1 h2 (m + 1)
  have dg : NumText.digits? 10 (NumText.core (List.replicate (m + 1) c)) = some ds := by
    rw [c1]
    unfold NumText.digits?
    rw [f1]
    rfl
  have hsz : ds.size = m + 1 := by
    rw [← Array.length_toList, f2]
    simp
  have c2' : (NumText.sign ((List.replicate (m + 1) c).dropWhile NumText.blank)).1 = false := by rw [drop_rep hb]; exact c2
  refine ⟨NumText.worth (NumText.sign ((List.replicate (m + 1) c).dropWhile NumText.blank)).1 ds, ?_, ?_⟩
  · refine (NumText.readNumeral_ten 4300 _).trans ?_
    rw [dg]
    exact NumText.judge_ok (Or.inr (by omega)) (by omega)
  · rw [c2']
    unfold NumText.worth
    rw [if_neg Bool.false_ne_true, ← Array.foldl_toList, f2]
    have z := fold_lt he (m + 1) 0
    refine ⟨by omega, ?_⟩
    have z' : (List.replicate (m + 1) e).foldl (fun n d => n * 10 + d) 0 < 10 ^ (m + 1) := by simpa using z
    exact Int.ofNat_lt.mpr (by simpa using z')
theorem long7' : ∃ n, PySem.W.LongT (manyS "7" 1000) n ∧ 0 ≤ n ∧ n < ((10 ^ 1000 : Nat) : Int) := by
  obtain ⟨n, h, q⟩ := reads_many' (c := 55) (e := 7) (m := 999) (by decide) rfl (by decide) (by decide) (fun _ _ => rfl) (by decide)
  exact ⟨n, long_many (a := "7") rfl (by decide) (by decide) (by decide) h, q⟩
theorem long3' : ∃ n, PySem.W.LongT (manyS "3" 999) n ∧ 0 ≤ n ∧ n < ((10 ^ 1000 : Nat) : Int) := by
  obtain ⟨n, h, q1, q2⟩ := reads_many' (c := 51) (e := 3) (m := 998) (by decide) rfl (by decide) (by decide) (fun _ _ => rfl) (by decide)
  refine ⟨n, long_many (a := "3") rfl (by decide) (by decide) (by decide) h, q1, Int.lt_of_lt_of_le q2 ?_⟩
  exact Int.ofNat_le.mpr (Nat.pow_le_pow_right (by decide) (by decide))
/-- as great as the numbers of this law may be -/
def Mid (i : Int) : Prop := i.natAbs < 10 ^ 1000 + 100000
theorem Mid.lt {i : Int} (h : Mid i) : i.natAbs < 10 ^ 1001 := by
  unfold Mid at h
  have e : (10 : Nat) ^ 1001 = 10 ^ 1000 * 10 := Nat.pow_succ (n := 10) (m := 1000)
  have g : (10 : Nat) ^ 5 ≤ 10 ^ 1000 := Nat.pow_le_pow_right (by decide) (by decide)
  rw [e]
  generalize (10 : Nat) ^ 1000 = B at *
  omega
theorem Mid.big {i : Int} (h : Mid i) : i.natAbs < 10 ^ 4300 := Nat.lt_of_lt_of_le h.lt (Nat.pow_le_pow_right (by decide) (by decide))
theorem Mid.text {i : Int} (h : Mid i) : (toString i : PySem.Str).length ≤ 1002 := by
  rw [PySem.ofString_length]
  exact int_text_length_le10 (k := 1001) (by decide) h.lt
theorem mid_small {i : Int} (h : -100000 < i ∧ i < 100000) : Mid i := by
  unfold Mid
  generalize (10 : Nat) ^ 1000 = B
  omega
theorem mid_of {i : Int} (h0 : -((10 ^ 1000 : Nat) : Int) ≤ i) (h1 : i ≤ ((10 ^ 1000 : Nat) : Int)) {j : Int} (h : -90000 < j - i ∧ j - i < 90000) : Mid j := by
  unfold Mid
  generalize (10 : Nat) ^ 1000 = B at *
  omega
theorem intsT_two {i j : Int} (hi : Mid i) (hj : Mid j) : (intsT [i, j]).length ≤ sizeLine := by
  have a := hi.text
  have b := hj.text
  have z := listText_len_le ([i, j].map fun i => (toString i : PySem.Str))
  unfold intsT
  rw [PySem.sizeLine_eq]
  simp only [List.map_cons, List.map_nil, List.sum_cons, List.sum_nil, List.length_cons, List.length_nil] at z ⊢
  omega
end WL
set_option Elab.async false
set_option linter.all false
set_option maxRecDepth 100000
set_option maxHeartbeats 1000000
/-! list(range(n)); list + list read -/
namespace WL
open PySem PySem.Spec PyProof.Rows L2
def rangeV (n : Nat) : List V := (List.range n).map fun i => V.int (i : Nat)
def tListR (ta : TA) : TE := fun σ H Q => ta σ H fun vs H1 => ∃ j : Int, vs = [.int j] ∧ 0 ≤ j ∧ j ≤ 1000 ∧ ∀ p, H1 p = none → Q (.ref p) (upd H1 p (.lst (rangeV j.toNat)))
theorem valsOfGet (us : List Value) (f : Nat → V) (h : ∀ (j : Nat) (u : Value), us[j]? = some u → L2.RelV (f j) u) : Vals ((List.range us.length).map f) us := by
  induction us generalizing f with
  | nil => exact .nil
  | cons u us ih =>
    rw [List.length_cons, List.range_succ_eq_map, List.map_cons, List.map_map]
    exact .cons (h 0 u rfl) (ih (f ∘ Nat.succ) fun j v hv => h (j + 1) v (by simpa using hv))
theorem pe_listRange {X : Cx} {a : Expr} {ta : TA} {p p2 pos pos2 : Pos} (calm : X.calm = true) (hgL : Gl X "list") (hmL : X.mg "list" = none) (hgR : Gl X "range") (hmR : X.mg "range" = none) (ha : PA X [a] ta) (hs : starEach [a] X.env = [(false, eval a X.env)] := by rfl)
    (he : starEach [Expr.Call (.Name "range" p2) [a] [] pos2] X.env = (false, eval (.Call (.Name "range" p2) [a] [] pos2) X.env) :: starEach [] X.env := by rfl) : PE X (.Call (.Name "list" p) [.Call (.Name "range" p2) [a] [] pos2] [] pos) (tListR ta) := by
  refine ⟨fun pins s σ H Q I h => ?_⟩
  refine wpAny_Call_Name_kw (ld_blt I hgL hmL (show bootBuiltins "list" = some (.type "list") by decide +kernel) ?_ (by decide) (by decide))
  refine PyProof.Rows.callWith_type1 ?_ he rfl
  rw [he]
  show wpAny _ _ (spliced ((false, eval (.Call (.Name "range" p2) [a] [] pos2) X.env) :: backTo pos (starEach [] X.env))) _ _ s
  refine Calls.spliced_cons ?_
  refine Call_ (ld_blt I hgR hmR boot_range (PyProof.Rows.callWith_type1 (thn (ha.run pos2 pins s σ H _ I h) fun us s1 ⟨vs, H1, I1, r1, q1⟩ => ?_) hs rfl))
  obtain ⟨j, e, j0, j1, q⟩ := q1
  subst e
  cases r1 with
  | cons r rr =>
    cases rr
    obtain ⟨t, rfl⟩ := r
    refine call_range_1 ?_
    refine Calls.spliced_nil ?_
    have I2 : Inv X pins σ H1 { s1 with heap := s1.heap.push { cls := .type "range", data := .fields #[.int 0 s1.toks, .int j t, .int 1 (s1.toks + 1)] }, toks := s1.toks + 1 + 1 } := I1.kept fun b o e => Heap.get?_push_of_some _ e
    have hsz : Builtin.Range.rangeSize 0 j 1 = (j.toNat : Int) := by rw [rangeSize_one]; split <;> omega
    refine call_list_range (n := j.toNat) (I1.ok.hd calm) (IsRange.new ..) (small_one (by decide) (by decide) (by omega) (by omega)) hsz (by omega) fun h' tk acc' c' kp e3 it => ?_
    have hlen : acc'.size = j.toNat := it.1
    have rv : Vals (rangeV j.toNat) acc'.toList := by
      have hl : acc'.toList.length = j.toNat := by rw [Array.length_toList]; exact hlen
      have z : ∀ (us : List Value), us.length = j.toNat → (∀ (i : Nat) (u : Value), us[i]? = some u → ∃ t, u = .int ((0 : Int) + (i : Nat) * 1) t) → Vals (rangeV j.toNat) us := fun us h1 h2 => by
        unfold rangeV
        rw [← h1]
        refine valsOfGet us (fun i => V.int (i : Nat)) fun i u hu => ?_
        obtain ⟨t, rfl⟩ := h2 i u hu
        exact ⟨t, by simp⟩
      exact z _ hl fun i u hu => it.2 i u (by simpa using hu)
    have ob : ObjOk X.prog X.w (upd H1 (s1.heap.push { cls := .type "range", data := .fields #[.int 0 s1.toks, .int j t, .int 1 (s1.toks + 1)] }).objs.size (.lst (rangeV j.toNat))) h' (s1.heap.push { cls := .type "range", data := .fields #[.int 0 s1.toks, .int j t, .int 1 (s1.toks + 1)] }).objs.size (.lst (rangeV j.toNat)) :=
      ⟨sz (by unfold rangeV; rw [List.length_map, List.length_range]; omega), acc'.toList, c', rv, by simpa using e3⟩
    exact ⟨.ref _, _, I2.laid (t' := tk) kp (Nat.le_refl _) ob, rfl, q _ (I2.hok.fresh (Nat.le_refl _))⟩
theorem g_catL {H : Hp} {Q : VK} {a b : Addr} {xs ys : List V} (h1 : H a = some (.lst xs)) (h2 : H b = some (.lst ys)) (hl : xs.length + ys.length ≤ 100000) (q : ∀ p, H p = none → Q (.ref p) (upd H p (.lst (xs ++ ys)))) : rCat (.ref a) (.ref b) H Q := ⟨a, b, xs, ys, rfl, rfl, h1, h2, sz hl, q⟩
end WL
set_option Elab.async false
set_option linter.all false
set_option maxRecDepth 100000
set_option maxHeartbeats 4000000
namespace K05
open PySem PySem.Spec PyProof.Rows L2 WL
local macro_rules | `(tactic| walk_at "side") => `(tactic| first | (show (_ ∧ _) ∨ (_ ∧ _); omega) | (exact ⟨by omega, by omega⟩) | (show (0 : Int) < _; omega) | omega)
local macro_rules | `(tactic| walk_at "go") => `(tactic| (repeat (first
  | with_reducible refine g_seq ?_ | with_reducible refine g_asgN ?_ | with_reducible refine g_ret ?_ | with_reducible refine g_drop ?_ | with_reducible refine g_ifS ?_ | with_reducible refine g_next ?_
  | with_reducible refine g_var rfl ?_ | with_reducible refine g_c ?_ | with_reducible refine g_op ?_ | with_reducible refine g_un ?_ | with_reducible refine g_rI0 ?_ | ((with_reducible refine g_rI ?_ ?_); next => walk_at "side") | with_reducible refine g_test ?_ | with_reducible refine g_bl ?_
  | with_reducible refine g_nil ?_ | with_reducible refine g_cons ?_ | with_reducible refine g_call ?_ | with_reducible refine g_cb ?_ | with_reducible refine g_if ?_ | with_reducible refine g_par ?_ | with_reducible refine g_two ?_
  | with_reducible refine g_asg ?_ | with_reducible refine g_name ?_ | with_reducible refine g_sub ?_ | with_reducible refine g_yes ?_ | with_reducible refine g_gcons ?_ | with_reducible refine g_gnil ?_ | with_reducible refine g_dget ?_ | with_reducible refine g_dput ?_ | with_reducible refine g_rng1 ?_ | with_reducible refine g_rng2 ?_
  | ((with_reducible refine g_one ?_ ?_); next => omega) | ((with_reducible refine g_twoI ?_ ?_); next => omega) | with_reducible refine g_isNon ?_ | with_reducible refine g_andV ?_ | with_reducible refine g_revT ?_ | with_reducible refine g_itup ?_ | with_reducible refine g_methK0 ?_ | with_reducible refine g_methS ?_ | with_reducible refine g_errF ?_ | with_reducible refine g_prop ?_ | with_reducible refine g_con ?_ | with_reducible refine g_make ?_ | with_reducible refine g_fld ?_ | with_reducible refine g_sfld ?_ | with_reducible refine g_iftn ?_ | with_reducible refine g_iffn ?_ | with_reducible refine g_orV ?_ | with_reducible refine g_notV ?_ | with_reducible refine g_tB ?_ | with_reducible refine g_chain ?_ | with_reducible refine g_neg ?_ | with_reducible refine g_cval ?_ | with_reducible refine g_enumT ?_ | with_reducible refine g_andT ?_ | with_reducible refine g_orT ?_ | with_reducible refine g_notT ?_ | with_reducible refine g_sl ?_ | with_reducible refine g_part ?_ | with_reducible refine g_parI ?_ | with_reducible refine g_noPart ?_ | with_reducible refine g_pcons ?_ | with_reducible refine g_pnil ?_ | with_reducible refine g_list ?_ | with_reducible refine g_lc ?_ | with_reducible refine g_for ?_ | with_reducible refine g_enum ?_ | with_reducible refine g_ift ?_ | with_reducible refine g_iff ?_ | with_reducible refine And.intro rfl ?_ | with_reducible refine g_notNon ?_)))
local macro_rules | `(tactic| walk_at "ex") => `(tactic| (repeat (first
  | with_reducible refine g_seqAsg ?_ | with_reducible refine g_seqFld ?_ | with_reducible refine g_seqDrop ?_ | with_reducible refine g_seqPut ?_ | with_reducible refine g_seqPar ?_ | with_reducible refine g_asgN ?_ | with_reducible refine g_ret ?_ | with_reducible refine g_drop ?_ | with_reducible refine g_next ?_
  | with_reducible refine g_var rfl ?_ | with_reducible refine g_c ?_ | with_reducible refine g_op ?_ | with_reducible refine g_un ?_ | with_reducible refine g_rI0 ?_ | ((with_reducible refine g_rI ?_ ?_); next => walk_at "side") | with_reducible refine g_test ?_ | with_reducible refine g_bl ?_
  | with_reducible refine g_nil ?_ | with_reducible refine g_cons ?_ | with_reducible refine g_call ?_ | with_reducible refine g_cb ?_ | with_reducible refine g_if ?_ | with_reducible refine g_par ?_ | with_reducible refine g_two ?_
  | with_reducible refine g_asg ?_ | with_reducible refine g_name ?_ | with_reducible refine g_sub ?_ | with_reducible refine g_yes ?_ | with_reducible refine g_gcons ?_ | with_reducible refine g_gnil ?_ | with_reducible refine g_dget ?_ | with_reducible refine g_dput ?_ | with_reducible refine g_rng1 ?_ | with_reducible refine g_rng2 ?_
  | ((with_reducible refine g_one ?_ ?_); next => omega) | ((with_reducible refine g_twoI ?_ ?_); next => omega) | with_reducible refine g_isNon ?_ | with_reducible refine g_andV ?_ | with_reducible refine g_revT ?_ | with_reducible refine g_itup ?_ | with_reducible refine g_methK0 ?_ | with_reducible refine g_methS ?_ | with_reducible refine g_errF ?_ | with_reducible refine g_prop ?_ | with_reducible refine g_con ?_ | with_reducible refine g_make ?_ | with_reducible refine g_fld ?_ | with_reducible refine g_sfld ?_ | with_reducible refine g_iftn ?_ | with_reducible refine g_iffn ?_ | with_reducible refine g_orV ?_ | with_reducible refine g_notV ?_ | with_reducible refine g_tB ?_ | with_reducible refine g_chain ?_ | with_reducible refine g_neg ?_ | with_reducible refine g_cval ?_ | with_reducible refine g_enumT ?_ | with_reducible refine g_proj ?_ | with_reducible refine g_andT ?_ | with_reducible refine g_orT ?_ | with_reducible refine g_notT ?_ | with_reducible refine g_sl ?_ | with_reducible refine g_part ?_ | with_reducible refine g_parI ?_ | with_reducible refine g_noPart ?_ | with_reducible refine g_pcons ?_ | with_reducible refine g_pnil ?_ | with_reducible refine g_list ?_ | with_reducible refine g_lc ?_ | with_reducible refine g_enum ?_ | with_reducible refine g_ift ?_ | with_reducible refine g_iff ?_ | with_reducible refine And.intro rfl ?_ | with_reducible refine g_notNon ?_)))
section
variable {P : Program} {w : World} {K : PySem.W.Frag} {mg : Str → Option Value} {base : Heap} {f : Addr} {fd : FuncData}
abbrev FnT (K : PySem.W.Frag) (x : Str) (st : Stmt) (f : Addr) (fd : FuncData) : Prop := FunD K x x (defArgs st) (defBody st) (defScope st) [] [] f fd
theorem sc_mixed : FnScope ["cell", "n", "turned"] ["cell", "n"] (defScope s_law_mixed) := ⟨rfl, rfl, rfl, by decide +kernel, rfl, by decide +kernel, by decide +kernel⟩
theorem ok_mixed (F : FnT K "_law_mixed" s_law_mixed f fd) : FnOk P w K mg base CX0 1 f fd ["cell", "n"] spMixed := by
  refine F.ok sc_mixed (fun vs H Q E h => ?_) (fun cdv A outer s H vs Q E hr h => ?_)
  · obtain ⟨c, n, rfl, _⟩ := h
    rfl
  · obtain ⟨c, n, rfl, hc, hn, q⟩ := h
    have sc := sc_mixed
    refine ⟨_, PSs.nox (pss_cons (ps_set (i := 2) sc.nd rfl (Or.inl rfl) (pe_op op_add (pe_op op_add (pe_op op_mod (pe_op op_mul (pe_op op_mul (pv 0) (pe_op op_add pe_int (pe_op op_mul pe_int (pv 1)))) pe_int) pe_int) (pe_op op_mul (pe_op op_mul pe_int (pv 1)) (pv 1))) (pe_op op_mul pe_int (pv 1))))
      (pss_one (ps_ret (pe_op op_fdiv (pe_op op_mod (pe_op op_mul (pv 2) pe_int) pe_int) pe_int)))), ?_⟩
    walk_at "go"
    refine q _ ?_ ?_ <;> omega
theorem sc_folded : FnScope ["script", "found", "n", "cell"] ["script"] (defScope s_law_folded) := ⟨rfl, rfl, rfl, by decide +kernel, rfl, by decide +kernel, by decide +kernel⟩
theorem ok_folded (F : FnT K "_law_folded" s_law_folded f fd) (T : Blt mg) : FnOk P w K mg base CX0 1 f fd ["script"] (spFolded K) := by
  refine F.ok sc_folded (fun vs H Q E h => ?_) (fun cdv A outer s H vs Q E hr h => ?_)
  · obtain ⟨a, ns, rfl, _⟩ := h
    rfl
  · obtain ⟨a, ns, rfl, hS, hlen, q⟩ := h
    have sc := sc_folded
    refine ⟨_, PSs.nox (pss_cons (ps_setLc (i := 1) (own := [("n", 2)]) (g := gName 2) (tt := tYes) (by rfl) sc.nd rfl rfl (sw_true rfl rfl rfl (by decide +kernel)) (pi_range1 (by rfl) T.range (pa_cons pe_int pa_nil)) (blkOk_by (sc := defScope s_law_folded) (N := ["script", "found", "n", "cell"]) (own := [("n", 2)]) (by decide +kernel)) (fun _ _ _ _ _ => (pg_name (i := 2) sc.nd rfl (Or.inl rfl))) (fun _ _ _ _ _ => pts_nil) (fun _ _ _ _ _ => (pe_op op_add pe_int (pv 2))))
      (pss_cons (ps_for PassesOwn.never rfl (pi_enum (by rfl) T.enumerate (pa_cons (pv 0) pa_nil)) (pg_tup rfl (pgs_cons (pg_name (i := 2) sc.nd rfl (Or.inl rfl)) (pgs_cons (pg_name (i := 3) sc.nd rfl (Or.inl rfl)) pgs_nil)))
        (pss_one (ps_asg (pe_op op_mod (pe_op op_add (pe_op op_mul (pe_ix ix_list (pv 1) (pe_op op_mod (pv 2) pe_int) (fun _ _ => rfl)) pe_int) (pv 3)) pe_int) (pg_sub (pv 1) (pe_op op_mod (pv 2) pe_int) set_list))))
      (pss_cons (ps_for PassesOwn.never rfl (pi_range2 (by rfl) T.range (pa_cons pe_int (pa_cons pe_int pa_nil))) (pg_name (i := 2) sc.nd rfl (Or.inl rfl))
        (pss_one (ps_asg (pe_op op_mod (pe_op op_add (pe_ix ix_list (pv 1) (pv 2) (fun _ _ => rfl)) (pe_op op_mul (pe_ix ix_list (pv 1) (pe_op op_sub (pv 2) pe_int) (fun _ _ => rfl)) pe_int)) pe_int) (pg_sub (pv 1) (pv 2) set_list))))
      (pss_one (ps_ret (pv 1)))))), ?_⟩
    walk_at "go"
    refine LcQ.range (fun D i H' => H' D = some (.lst ((List.range i).map fun j => V.int (17 + (j : Nat)))) ∧ ∀ b, b ≠ D → H' b = H b) (fun D nD => ⟨upd_same, fun b e => upd_ne e⟩) ?_ ?_
    · intro D nD i H2 hi ⟨h1, h2⟩
      walk_at "go"
      refine ⟨_, h1, ?_, ?_, ?_⟩
      · simp only [List.length_map, List.length_range]
        exact Nat.lt_of_lt_of_le hi (by decide)
      · rw [upd_same, List.range_succ, List.map_append]
        simp
      · intro b e
        rw [upd_ne e]; exact h2 b e
    · intro D nD H2 ⟨h1, h2⟩
      walk_at "go"
      have sm : ∀ b o, H b = some o → H2 b = some o := fun b o h => by
        rw [h2 b (fun e => by subst e; rw [nD] at h; exact absurd h (by simp))]; exact h
      refine g_one' (K := K) (SqL.same hS sm) ?_
      refine ForQ.enum (xs := ns.map V.int) (fun i σ H' => (∃ x y, σ = [some (.ref a), some (.ref D), x, y]) ∧ ∃ l, Cells l ∧ H' D = some (.lst (l.map V.int)) ∧ ∀ b o, H b = some o → H' b = some o) ?_ ?_ ?_ ?_
      · refine ⟨⟨_, _, rfl⟩, (List.range 64).map fun j => 17 + (j : Nat), ⟨by simp, fun c hc => ?_⟩, ?_, sm⟩
        · obtain ⟨j, hj, rfl⟩ := List.mem_map.mp hc
          have := List.mem_range.mp hj
          omega
        · rw [h1, List.map_map]; rfl
      · rintro i σ H3 _ ⟨_, l, _, _, s3⟩
        exact SqL.same hS s3
      · rintro i x T σ H3 hx ⟨⟨u, v, rfl⟩, l, hl, hD, s3⟩ nT
        have neT : D ≠ T := fun e => by subst e; rw [nT] at hD; exact absurd hD (by simp)
        obtain ⟨c, rfl⟩ : ∃ c, x = V.int c := by
          rw [List.getElem?_map] at hx
          cases hn : ns[i]? with
          | none => rw [hn] at hx; exact absurd hx (by simp)
          | some c => rw [hn] at hx; exact ⟨c, (Option.some.inj hx).symm⟩
        have hi : i < ns.length := by
          rcases Nat.lt_or_ge i ns.length with q | q
          · exact q
          · rw [List.getElem?_map, List.getElem?_eq_none q] at hx; exact absurd hx (by simp)
        refine g_tupg (SqT.of upd_same) rfl ?_
        obtain ⟨e, he, e0, e1⟩ := hl.get (i := i) (by omega)
        walk_at "go"
        refine g_ixL (xs := l.map V.int) (SqL.of (by rw [upd_ne neT]; exact hD)) (v := .int e) (atI_at (by omega) (map_get_int (by rw [Int.emod_eq_of_lt (by omega) (by omega)]; simpa using he))) ?_
        walk_at "go"
        refine g_setL (xs := l.map V.int) (by rw [upd_ne neT]; exact hD) (by omega) (by rw [List.length_map, hl.1]; omega) ?_
        refine ⟨⟨_, _, rfl⟩, _, hl.set _ ?_ ?_, by rw [upd_same, map_set_int], fun b o h => ?_⟩
        · omega
        · omega
        · have n1 : b ≠ T := fun e => by subst e; rw [s3 _ _ h] at nT; exact absurd nT (by simp)
          have n2 : b ≠ D := fun e => by subst e; rw [nD] at h; exact absurd h (by simp)
          rw [upd_ne n2, upd_ne n1]; exact s3 _ _ h
      · rintro σ H3 ⟨⟨u, v, rfl⟩, l, hl, hD, s3⟩
        walk_at "go"
        refine ForQ.range (fun i σ H' => (∃ x y, σ = [some (.ref a), some (.ref D), x, y]) ∧ ∃ l, Cells l ∧ H' D = some (.lst (l.map V.int)) ∧ ∀ b o, H b = some o → H' b = some o) ⟨⟨_, _, rfl⟩, l, hl, hD, s3⟩ ?_ ?_
        · rintro i σ H4 hi ⟨⟨u, v, rfl⟩, l, hl, hD, s3⟩
          have hi' : i < 63 := hi
          obtain ⟨e, he, e0, e1⟩ := hl.get (i := i + 1) (by omega)
          obtain ⟨e', he', e0', e1'⟩ := hl.get (i := i) (by omega)
          walk_at "go"
          refine g_ixL (xs := l.map V.int) (SqL.of hD) (v := .int e) (atI_at (by omega) (map_get_int (by rw [show (1 + (i : Int)).toNat = i + 1 by omega]; exact he))) ?_
          walk_at "go"
          refine g_ixL (xs := l.map V.int) (SqL.of hD) (v := .int e') (atI_at (by omega) (map_get_int (by rw [show (1 + (i : Int) - 1).toNat = i by omega]; exact he'))) ?_
          walk_at "go"
          refine g_setL (xs := l.map V.int) hD (by omega) (by rw [List.length_map, hl.1]; omega) ?_
          refine ⟨⟨_, _, rfl⟩, _, hl.set _ ?_ ?_, by rw [upd_same, map_set_int], fun b o h => ?_⟩
          · omega
          · omega
          · have n2 : b ≠ D := fun e => by subst e; rw [nD] at h; exact absurd h (by simp)
            rw [upd_ne n2]; exact s3 _ _ h
        · rintro σ H4 ⟨⟨u, v, rfl⟩, l, hl, hD, s3⟩
          walk_at "go"
          exact q D l H4 hl nD hD (fun b _ o h => s3 b o h)
theorem sc_draw : FnScope ["m", "top", "n", "at", "cell"] ["m", "top"] (defScope s_law_draw) := ⟨rfl, rfl, rfl, by decide +kernel, rfl, by decide +kernel, by decide +kernel⟩
theorem ok_draw (F : FnT K "_law_draw" s_law_draw f fd) (T : Blt mg) (hMixed : Has P w K mg base 1 "_law_mixed" ["cell", "n"] spMixed) : FnOk P w K mg base CX0 2 f fd ["m", "top"] spDraw' := by
  refine F.ok sc_draw (fun vs H Q E h => ?_) (fun cdv A outer s H vs Q E hr h => ?_)
  · obtain ⟨m, c, g, B, top, rfl, _⟩ := h
    rfl
  · obtain ⟨m, c, g, B, top, rfl, hP, hB, htop, q⟩ := h
    have sc := sc_draw
    have hu := hr.units
    have hu1 := room1 hr
    refine ⟨_, PSs.nox (pss_cons (ps_set (i := 2) sc.nd rfl (Or.inl rfl) (pe_dget hu1 (pv 0) pe_str (fun _ _ => rfl)))
      (pss_cons (ps_dput hu1 (pv 0) pe_str (pe_op op_add (pv 2) pe_int) rfl)
      (pss_cons (ps_if (pt_cmpR (op_neD hu) (pe_dget hu1 (pv 0) pe_str (fun _ _ => rfl)) (pe_lst pa_nil) (nomark _))
        (pss_cons (ps_set (i := 3) sc.nd rfl (Or.inl rfl) (pe_op op_mod (pv 2) (pe_callB call_len_seq (by rfl) T.len PySem.boot_len (pa_cons (pe_dget hu1 (pv 0) pe_str (fun _ _ => rfl)) pa_nil))))
        (pss_cons (ps_set (i := 4) sc.nd rfl (Or.inl rfl) (pe_ix ix_list (pe_dget hu1 (pv 0) pe_str (fun _ _ => rfl)) (pv 3) (fun _ _ => rfl)))
        (pss_one (ps_if (pt_cmpR op_gt (pv 4) pe_int (nomark _))
          (pss_cons (ps_asg (pe_op op_fdiv (pv 4) (pv 1)) (pg_sub (pe_dget hu1 (pv 0) pe_str (fun _ _ => rfl)) (pv 3) set_list))
          (pss_one (ps_ret (pe_op op_mod (pv 4) (pv 1)))))
          pss_nil))))
        pss_nil)
      (pss_one (ps_ret (pe_op op_mod (pe_has hMixed hr (by decide) (pa_cons (pe_has hMixed hr (by decide) (pa_cons (pe_op op_add (pe_ix ix_list (pe_dget hu1 (pv 0) pe_str (fun _ _ => rfl)) (pe_op op_mod (pv 2) pe_int) (fun _ _ => rfl)) (pe_op op_mul pe_int (pe_op op_fdiv (pv 2) pe_int))) (pa_cons (pv 2) pa_nil))) (pa_cons (pe_op op_add (pv 2) pe_int) pa_nil))) (pv 1))))))), ?_⟩
    obtain ⟨n, hn, d⟩ := hP.dr
    have d0 := d
    obtain ⟨hm, ⟨cl, hcl, hc⟩, ⟨gl, hgl, hg⟩, hne, hpos⟩ := d0
    walk_at "go"
    refine g_dg (v := .int n) hm rfl ?_
    walk_at "go"
    refine g_spot d fun H1 e1 => ?_
    have ncm : c ≠ m := fun e => by subst e; rw [hc] at hm; exact absurd hm (by simp)
    have ngm : g ≠ m := fun e => by subst e; rw [hg] at hm; exact absurd hm (by simp)
    have hm1 : H1 m = some (.dK [(Sum.inr "cells", .ref c), (Sum.inr "great", .ref g), (Sum.inr "spot", .int (n + 1))]) := by rw [e1, upd_same]
    have hc1 : H1 c = some (.lst (cl.map V.int)) := by rw [e1, upd_ne ncm]; exact hc
    have hg1 : H1 g = some (.lst (gl.map V.int)) := by rw [e1, upd_ne ngm]; exact hg
    have b1 : ∀ b, b ≠ m → H1 b = H b := fun b e => by rw [e1, upd_ne e]
    walk_at "go"
    refine g_dg (x := "great") (v := .ref g) hm1 rfl ?_
    refine g_lst ?_
    walk_at "go"
    refine ⟨by decide, fun p np => ?_⟩
    have npm : m ≠ p := fun e => by subst e; rw [hm1] at np; exact absurd np (by simp)
    have npc : c ≠ p := fun e => by subst e; rw [hc1] at np; exact absurd np (by simp)
    have npg : g ≠ p := fun e => by subst e; rw [hg1] at np; exact absurd np (by simp)
    have hm2 : upd H1 p (.lst []) m = some (.dK [(Sum.inr "cells", .ref c), (Sum.inr "great", .ref g), (Sum.inr "spot", .int (n + 1))]) := by rw [upd_ne npm]; exact hm1
    have hc2 : upd H1 p (.lst []) c = some (.lst (cl.map V.int)) := by rw [upd_ne npc]; exact hc1
    have hg2 : upd H1 p (.lst []) g = some (.lst (gl.map V.int)) := by rw [upd_ne npg]; exact hg1
    have b2 : ∀ b o, b ≠ m → H b = some o → upd H1 p (.lst []) b = some o := fun b o e h => by
      rw [upd_ne (fun e2 => by subst e2; rw [b1 _ e, h] at np; exact absurd np (by simp)), b1 b e]; exact h
    refine g_neD (K := K) (dp_ints (SqL.of hg2)) (dp_nilL (SqL.of upd_same)) (pl_shaped (pl_ints _) (by decide)) (pl_shaped pl_nilL (by decide)) ?_
    walk_at "go"
    generalize hH2 : upd H1 p (.lst []) = H2 at hm2 hc2 hg2 b2 ⊢
    have d2 : Dr H2 m c g (n + 1) := ⟨hm2, ⟨cl, hcl, hc2⟩, ⟨gl, hgl, hg2⟩, hne, by omega⟩
    have p2 : Pr m c g H H2 (B + 1) := ⟨⟨n + 1, by omega, d2⟩, fun b o n1 n2 h => b2 b o n1 h⟩
    have fin : ∀ (σ : L2.St) (u v : Option V), σ = [some (V.ref m), some (V.int top), some (V.int n), u, v] → tRet (tOp (rI (fun _ j => 0 < j) fun i j => V.int (i % j)) (tCall spMixed [] E0 (tCons (tCall spMixed [] E0 (tCons (tOp (rI0 fun i j => V.int (i + j)) (tOp (rIxL K) (tDGet (tVar 0) (tC (.str "cells"))) (tOp (rI (fun _ j => 0 < j) fun i j => V.int (i % j)) (tVar 2) (tC (.int 64)))) (tOp (rI CMul fun i j => V.int (i * j)) (tC (.int 31)) (tOp (rI CDiv fun i j => V.int (i / j)) (tVar 2) (tC (.int 64))))) (tCons (tVar 2) tNil))) (tCons (tOp (rI0 fun i j => V.int (i + j)) (tVar 2) (tC (.int 7))) tNil))) (tVar 1)) { nx := fun _ H' => Q .non H', rt := Q } σ H2 := by
      intro σ u v e
      subst e
      walk_at "go"
      refine g_dg (x := "cells") (v := .ref c) hm2 rfl ?_
      walk_at "go"
      obtain ⟨ce, hce, he0, he1⟩ := hcl.get (i := (n % 64).toNat) (by omega)
      refine g_ixL (xs := cl.map V.int) (SqL.of hc2) (v := .int ce) (atI_at (by omega) (map_get_int hce)) ?_
      walk_at "go"
      refine ⟨_, _, rfl, ⟨by omega, by omega⟩, ⟨by omega, by omega⟩, fun r hr0 hr1 => ?_⟩
      walk_at "go"
      refine ⟨_, _, rfl, ⟨by omega, by omega⟩, ⟨by omega, by omega⟩, fun r2 hr20 hr21 => ?_⟩
      walk_at "go"
      exact q _ _ (Int.emod_nonneg _ (by omega)) (Int.emod_lt_of_pos _ (by omega)) p2
    by_cases hz : gl = []
    · subst hz
      rw [show (!(PyData.list (List.map PyData.int [])).eqv (.list [])) = false from rfl]
      exact g_iff (g_next (fin _ _ _ rfl))
    · have hz' : (PyData.list (List.map PyData.int gl)).eqv (.list []) = false := by
        cases hb : (PyData.list (List.map PyData.int gl)).eqv (.list []) with
        | false => rfl
        | true => 
          have := (pl_eqv (pl_ints gl) pl_nilL).mp hb
          simp at this
          exact absurd this hz
      rw [hz', Bool.not_false]
      have hlen : 0 < gl.length := List.length_pos_iff.mpr hz
      walk_at "go"
      refine g_dg (x := "great") (v := .ref g) hm2 rfl ?_
      walk_at "go"
      refine g_len (K := K) (Or.inl (SqL.of hg2)) ?_
      rw [List.length_map]
      walk_at "go"
      refine g_dg (x := "great") (v := .ref g) hm2 rfl ?_
      walk_at "go"
      have hat : n % (gl.length : Int) < gl.length := Int.emod_lt_of_pos _ (by omega)
      have hat0 : 0 ≤ n % (gl.length : Int) := Int.emod_nonneg _ (by omega)
      have hlt : (n % (gl.length : Int)).toNat < gl.length := by omega
      refine g_ixL (xs := gl.map V.int) (SqL.of hg2) (v := .int gl[(n % (gl.length : Int)).toNat]) (atI_at hat0 (map_get_int (by simp [hlt]))) ?_
      walk_at "go"
      by_cases hc0 : 0 < gl[(n % (gl.length : Int)).toNat]
      · rw [decide_eq_true hc0]
        walk_at "go"
        refine g_dg (x := "great") (v := .ref g) hm2 rfl ?_
        walk_at "go"
        refine g_setL (xs := gl.map V.int) hg2 hat0 (by rw [List.length_map]; exact hat) ?_
        walk_at "go"
        refine q _ _ (Int.emod_nonneg _ (by omega)) (Int.emod_lt_of_pos _ (by omega)) ?_
        rw [map_set_int]
        refine ⟨⟨n + 1, by omega, ?_⟩, fun b o n1 n2 h => ?_⟩
        · refine ⟨?_, ⟨cl, hcl, ?_⟩, ⟨_, by rw [List.length_set]; exact hgl, upd_same⟩, hne, by omega⟩
          · rw [upd_ne (Ne.symm ngm)]; exact hm2
          · rw [upd_ne hne]; exact hc2
        · rw [upd_ne n2]; exact p2.but _ _ n1 n2 h
      · rw [decide_eq_false hc0]
        exact g_iff (g_next (fin _ _ _ rfl))
end
end K05
set_option Elab.async false
set_option linter.all false
set_option maxRecDepth 100000
set_option maxHeartbeats 4000000
namespace K05
open PySem PySem.Spec PyProof.Rows L2 WL
local macro_rules | `(tactic| walk_at "side") => `(tactic| first | (show (_ ∧ _) ∨ (_ ∧ _); omega) | (exact ⟨by omega, by omega⟩) | (show (0 : Int) < _; omega) | omega)
local macro_rules | `(tactic| walk_at "go") => `(tactic| (repeat (first
  | with_reducible refine g_seq ?_ | with_reducible refine g_asgN ?_ | with_reducible refine g_ret ?_ | with_reducible refine g_drop ?_ | with_reducible refine g_ifS ?_ | with_reducible refine g_next ?_
  | with_reducible refine g_var rfl ?_ | with_reducible refine g_c ?_ | with_reducible refine g_op ?_ | with_reducible refine g_un ?_ | with_reducible refine g_rI0 ?_ | ((with_reducible refine g_rI ?_ ?_); next => walk_at "side") | with_reducible refine g_test ?_ | with_reducible refine g_bl ?_
  | with_reducible refine g_nil ?_ | with_reducible refine g_cons ?_ | with_reducible refine g_call ?_ | with_reducible refine g_cb ?_ | with_reducible refine g_if ?_ | with_reducible refine g_par ?_ | with_reducible refine g_two ?_
  | with_reducible refine g_asg ?_ | with_reducible refine g_name ?_ | with_reducible refine g_sub ?_ | with_reducible refine g_yes ?_ | with_reducible refine g_gcons ?_ | with_reducible refine g_gnil ?_ | with_reducible refine g_dget ?_ | with_reducible refine g_dput ?_ | with_reducible refine g_rng1 ?_ | with_reducible refine g_rng2 ?_
  | ((with_reducible refine g_one ?_ ?_); next => omega) | ((with_reducible refine g_twoI ?_ ?_); next => omega) | with_reducible refine g_isNon ?_ | with_reducible refine g_andV ?_ | with_reducible refine g_revT ?_ | with_reducible refine g_itup ?_ | with_reducible refine g_methK0 ?_ | with_reducible refine g_methS ?_ | with_reducible refine g_errF ?_ | with_reducible refine g_prop ?_ | with_reducible refine g_con ?_ | with_reducible refine g_make ?_ | with_reducible refine g_fld ?_ | with_reducible refine g_sfld ?_ | with_reducible refine g_iftn ?_ | with_reducible refine g_iffn ?_ | with_reducible refine g_orV ?_ | with_reducible refine g_notV ?_ | with_reducible refine g_tB ?_ | with_reducible refine g_chain ?_ | with_reducible refine g_neg ?_ | with_reducible refine g_cval ?_ | with_reducible refine g_enumT ?_ | with_reducible refine g_andT ?_ | with_reducible refine g_orT ?_ | with_reducible refine g_notT ?_ | with_reducible refine g_sl ?_ | with_reducible refine g_part ?_ | with_reducible refine g_parI ?_ | with_reducible refine g_noPart ?_ | with_reducible refine g_pcons ?_ | with_reducible refine g_pnil ?_ | with_reducible refine g_list ?_ | with_reducible refine g_lc ?_ | with_reducible refine g_for ?_ | with_reducible refine g_enum ?_ | with_reducible refine g_ift ?_ | with_reducible refine g_iff ?_ | with_reducible refine And.intro rfl ?_ | with_reducible refine g_notNon ?_)))
local macro_rules | `(tactic| walk_at "ex") => `(tactic| (repeat (first
  | with_reducible refine g_seqAsg ?_ | with_reducible refine g_seqFld ?_ | with_reducible refine g_seqDrop ?_ | with_reducible refine g_seqPut ?_ | with_reducible refine g_seqPar ?_ | with_reducible refine g_asgN ?_ | with_reducible refine g_ret ?_ | with_reducible refine g_drop ?_ | with_reducible refine g_next ?_
  | with_reducible refine g_var rfl ?_ | with_reducible refine g_c ?_ | with_reducible refine g_op ?_ | with_reducible refine g_un ?_ | with_reducible refine g_rI0 ?_ | ((with_reducible refine g_rI ?_ ?_); next => walk_at "side") | with_reducible refine g_test ?_ | with_reducible refine g_bl ?_
  | with_reducible refine g_nil ?_ | with_reducible refine g_cons ?_ | with_reducible refine g_call ?_ | with_reducible refine g_cb ?_ | with_reducible refine g_if ?_ | with_reducible refine g_par ?_ | with_reducible refine g_two ?_
  | with_reducible refine g_asg ?_ | with_reducible refine g_name ?_ | with_reducible refine g_sub ?_ | with_reducible refine g_yes ?_ | with_reducible refine g_gcons ?_ | with_reducible refine g_gnil ?_ | with_reducible refine g_dget ?_ | with_reducible refine g_dput ?_ | with_reducible refine g_rng1 ?_ | with_reducible refine g_rng2 ?_
  | ((with_reducible refine g_one ?_ ?_); next => omega) | ((with_reducible refine g_twoI ?_ ?_); next => omega) | with_reducible refine g_isNon ?_ | with_reducible refine g_andV ?_ | with_reducible refine g_revT ?_ | with_reducible refine g_itup ?_ | with_reducible refine g_methK0 ?_ | with_reducible refine g_methS ?_ | with_reducible refine g_errF ?_ | with_reducible refine g_prop ?_ | with_reducible refine g_con ?_ | with_reducible refine g_make ?_ | with_reducible refine g_fld ?_ | with_reducible refine g_sfld ?_ | with_reducible refine g_iftn ?_ | with_reducible refine g_iffn ?_ | with_reducible refine g_orV ?_ | with_reducible refine g_notV ?_ | with_reducible refine g_tB ?_ | with_reducible refine g_chain ?_ | with_reducible refine g_neg ?_ | with_reducible refine g_cval ?_ | with_reducible refine g_enumT ?_ | with_reducible refine g_proj ?_ | with_reducible refine g_andT ?_ | with_reducible refine g_orT ?_ | with_reducible refine g_notT ?_ | with_reducible refine g_sl ?_ | with_reducible refine g_part ?_ | with_reducible refine g_parI ?_ | with_reducible refine g_noPart ?_ | with_reducible refine g_pcons ?_ | with_reducible refine g_pnil ?_ | with_reducible refine g_list ?_ | with_reducible refine g_lc ?_ | with_reducible refine g_enum ?_ | with_reducible refine g_ift ?_ | with_reducible refine g_iff ?_ | with_reducible refine And.intro rfl ?_ | with_reducible refine g_notNon ?_)))
section
variable {P : Program} {w : World} {K : PySem.W.Frag} {mg : Str → Option Value} {base : Heap} {f : Addr} {fd : FuncData}
theorem sc_begun : FnScope ["script", "m", "cell"] ["script"] (defScope s_law_begun) := ⟨rfl, rfl, rfl, by decide +kernel, rfl, by decide +kernel, by decide +kernel⟩
theorem ok_begun (F : FnT K "_law_begun" s_law_begun f fd) (T : Blt mg) (hFolded : Has P w K mg base 1 "_law_folded" ["script"] (spFolded K)) : FnOk P w K mg base CX0 2 f fd ["script"] (spBegun K) := by
  refine F.ok sc_begun (fun vs H Q E h => ?_) (fun cdv A outer s H vs Q E hr h => ?_)
  · obtain ⟨a, ns, rfl, _⟩ := h
    rfl
  · obtain ⟨a, ns, rfl, hS, hlen, q⟩ := h
    have sc := sc_begun
    have hu1 := room1 hr
    refine ⟨_, PSs.nox (pss_cons (ps_set (i := 1) sc.nd rfl (Or.inl rfl) (pe_disp (pps_cons pe_str (pe_has hFolded hr (by decide) (pa_cons (pv 0) pa_nil)) (pps_cons pe_str (pe_lst pa_nil) (pps_cons pe_str pe_int pps_nil))) (by rfl) (by rfl) (fun z => by cases z) (by decide)))
      (pss_cons (ps_dput hu1 (pv 1) pe_str (pe_lc (own := [("cell", 2)]) (g := gName 2) (tt := tYes) (by rfl) sc.nd (pi_list (pv 0)) (blkOk_by (sc := defScope s_law_begun) (N := ["script", "m", "cell"]) (own := [("cell", 2)]) (by decide +kernel)) (fun _ _ _ _ _ => (pg_name (i := 2) sc.nd rfl (Or.inl rfl))) (fun _ _ _ _ _ => pts_nil) (fun _ _ _ _ _ => (pe_ifExp (pt_cmpR op_ge (pv 2) (pe_op op_pow pe_int pe_int) (nomark _)) (pv 2) pe_int))) rfl)
      (pss_one (ps_ret (pv 1))))), ?_⟩
    walk_at "go"
    refine g_disp fun p np => ?_
    walk_at "go"
    have s0 : ∀ b o, H b = some o → upd H p (.dK []) b = some o := fun b o h => by
      rw [upd_ne (fun e => by subst e; rw [np] at h; exact absurd h (by simp))]; exact h
    refine ⟨a, ns, rfl, SqL.same hS s0, hlen, fun c cl H1 hcl nc hc1 s1 => ?_⟩
    have npc : p ≠ c := fun e => by subst e; rw [upd_same] at nc; exact absurd nc (by simp)
    have hp1 : H1 p = some (.dK []) := s1 _ npc _ upd_same
    have s1' : ∀ b o, H b = some o → H1 b = some o := fun b o h => s1 _ (fun e => by subst e; rw [s0 _ _ h] at nc; exact absurd nc (by simp)) _ (s0 _ _ h)
    walk_at "go"
    refine g_lst' ?_
    walk_at "go"
    refine ⟨by decide, fun g0 ng0 => ?_⟩
    have npg : p ≠ g0 := fun e => by subst e; rw [hp1] at ng0; exact absurd ng0 (by simp)
    have ncg : c ≠ g0 := fun e => by subst e; rw [hc1] at ng0; exact absurd ng0 (by simp)
    walk_at "go"
    refine ⟨by rw [upd_ne npg]; exact hp1, drK c g0 0, rfl, len_dr _ _ _, ?_⟩
    rw [merge_dr]
    generalize hH2 : upd (upd H1 g0 (.lst [])) p (.dK (drK c g0 0)) = H2
    have hp2 : H2 p = some (.dK (drK c g0 0)) := by rw [← hH2, upd_same]
    have hc2 : H2 c = some (.lst (cl.map V.int)) := by rw [← hH2, upd_ne npc.symm, upd_ne ncg]; exact hc1
    have s2 : ∀ b o, H b = some o → H2 b = some o := fun b o h => by
      have h1 := s1' _ _ h
      rw [← hH2, upd_ne (fun e => by subst e; rw [np] at h; exact absurd h (by simp)), upd_ne (fun e => by subst e; rw [h1] at ng0; exact absurd ng0 (by simp))]; exact h1
    walk_at "go"
    refine g_lq (K := K) (SqL.same hS s2) ?_
    refine LcQ.list (xs := ns.map V.int) (fun D i H' => (∃ l : List Int, l.length = i ∧ H' D = some (.lst (l.map V.int))) ∧ ∀ b, b ≠ D → H' b = H2 b) (fun D nD => ⟨⟨[], rfl, upd_same⟩, fun b e => upd_ne e⟩) ?_ ?_ ?_
    · rintro D nD i H' _ ⟨_, h2⟩
      exact SqL.same hS fun b o h => by
        rw [h2 b (fun e => by subst e; rw [s2 _ _ h] at nD; exact absurd nD (by simp))]; exact s2 _ _ h
    · rintro D nD i x H' hx ⟨⟨l, hl, h1⟩, h2⟩
      have hi : i < ns.length := by
        rcases Nat.lt_or_ge i ns.length with q | q
        · exact q
        · rw [List.getElem?_map, List.getElem?_eq_none q] at hx; exact absurd hx (by simp)
      obtain ⟨ce, rfl⟩ : ∃ ce, x = V.int ce := by
        rw [List.getElem?_map, List.getElem?_eq_getElem hi] at hx
        exact ⟨_, (Option.some.inj hx).symm⟩
      have put : ∀ k : Int, ∃ acc, H' D = some (HO.lst acc) ∧ acc.length < sizeLine ∧ (∃ l : List Int, l.length = i + 1 ∧ upd H' D (.lst (acc ++ [V.int k])) D = some (.lst (l.map V.int))) ∧ ∀ b, b ≠ D → upd H' D (.lst (acc ++ [V.int k])) b = H2 b := by
        intro k
        refine ⟨_, h1, by rw [List.length_map, hl]; exact Nat.lt_of_lt_of_le (show i < 64 by omega) (by decide), ⟨l ++ [k], by simp [hl], by rw [upd_same]; simp⟩, fun b e => by rw [upd_ne e]; exact h2 b e⟩
      walk_at "go"
      cases hb : decide ((10 : Int) ^ (18 : Int).toNat ≤ ce) with
      | true => walk_at "go"; exact put _
      | false => walk_at "go"; exact put _
    · rintro D nD H' ⟨⟨l, hl, h1⟩, h2⟩
      have npD : p ≠ D := fun e => by subst e; rw [hp2] at nD; exact absurd nD (by simp)
      have ncD : c ≠ D := fun e => by subst e; rw [hc2] at nD; exact absurd nD (by simp)
      walk_at "go"
      refine ⟨p, _, rfl, Or.inl ⟨_, Sum.inr "great", (h2 p npD).trans hp2, rfl, by show (3 : Nat) < sizeLine; decide, rfl⟩, ?_⟩
      walk_at "go"
      refine q p c D _ ⟨upd_same, ⟨cl, hcl, by rw [upd_ne npc.symm, h2 c ncD]; exact hc2⟩, ⟨l, by rw [hl, List.length_map]; exact hlen, by rw [upd_ne npD.symm]; exact h1⟩, ncD, by decide⟩ fun b o h => ?_
      have hb2 := s2 _ _ h
      rw [upd_ne (fun e => by subst e; rw [np] at h; exact absurd h (by simp)), h2 b (fun e => by subst e; rw [hb2] at nD; exact absurd nD (by simp))]
      exact hb2
end
end K05
set_option Elab.async false
set_option linter.all false
set_option maxRecDepth 100000
set_option maxHeartbeats 4000000
namespace K05
open PySem PySem.Spec PyProof.Rows L2 WL
local macro_rules | `(tactic| walk_at "side") => `(tactic| first | (show (_ ∧ _) ∨ (_ ∧ _); omega) | (exact ⟨by omega, by omega⟩) | (show (0 : Int) < _; omega) | omega)
local macro_rules | `(tactic| walk_at "go") => `(tactic| (repeat (first
  | with_reducible refine g_seq ?_ | with_reducible refine g_asgN ?_ | with_reducible refine g_ret ?_ | with_reducible refine g_drop ?_ | with_reducible refine g_ifS ?_ | with_reducible refine g_next ?_
  | with_reducible refine g_var rfl ?_ | with_reducible refine g_c ?_ | with_reducible refine g_op ?_ | with_reducible refine g_un ?_ | with_reducible refine g_rI0 ?_ | ((with_reducible refine g_rI ?_ ?_); next => walk_at "side") | with_reducible refine g_test ?_ | with_reducible refine g_bl ?_
  | with_reducible refine g_nil ?_ | with_reducible refine g_cons ?_ | with_reducible refine g_call ?_ | with_reducible refine g_cb ?_ | with_reducible refine g_if ?_ | with_reducible refine g_par ?_ | with_reducible refine g_two ?_
  | with_reducible refine g_asg ?_ | with_reducible refine g_name ?_ | with_reducible refine g_sub ?_ | with_reducible refine g_yes ?_ | with_reducible refine g_gcons ?_ | with_reducible refine g_gnil ?_ | with_reducible refine g_dget ?_ | with_reducible refine g_dput ?_ | with_reducible refine g_rng1 ?_ | with_reducible refine g_rng2 ?_
  | ((with_reducible refine g_one ?_ ?_); next => omega) | ((with_reducible refine g_twoI ?_ ?_); next => omega) | with_reducible refine g_isNon ?_ | with_reducible refine g_andV ?_ | with_reducible refine g_revT ?_ | with_reducible refine g_itup ?_ | with_reducible refine g_methK0 ?_ | with_reducible refine g_methS ?_ | with_reducible refine g_errF ?_ | with_reducible refine g_prop ?_ | with_reducible refine g_con ?_ | with_reducible refine g_make ?_ | with_reducible refine g_fld ?_ | with_reducible refine g_sfld ?_ | with_reducible refine g_iftn ?_ | with_reducible refine g_iffn ?_ | with_reducible refine g_orV ?_ | with_reducible refine g_notV ?_ | with_reducible refine g_tB ?_ | with_reducible refine g_chain ?_ | with_reducible refine g_neg ?_ | with_reducible refine g_cval ?_ | with_reducible refine g_enumT ?_ | with_reducible refine g_andT ?_ | with_reducible refine g_orT ?_ | with_reducible refine g_notT ?_ | with_reducible refine g_sl ?_ | with_reducible refine g_part ?_ | with_reducible refine g_parI ?_ | with_reducible refine g_noPart ?_ | with_reducible refine g_pcons ?_ | with_reducible refine g_pnil ?_ | with_reducible refine g_list ?_ | with_reducible refine g_lc ?_ | with_reducible refine g_for ?_ | with_reducible refine g_enum ?_ | with_reducible refine g_ift ?_ | with_reducible refine g_iff ?_ | with_reducible refine And.intro rfl ?_ | with_reducible refine g_notNon ?_)))
local macro_rules | `(tactic| walk_at "ex") => `(tactic| (repeat (first
  | with_reducible refine g_seqAsg ?_ | with_reducible refine g_seqFld ?_ | with_reducible refine g_seqDrop ?_ | with_reducible refine g_seqPut ?_ | with_reducible refine g_seqPar ?_ | with_reducible refine g_asgN ?_ | with_reducible refine g_ret ?_ | with_reducible refine g_drop ?_ | with_reducible refine g_next ?_
  | with_reducible refine g_var rfl ?_ | with_reducible refine g_c ?_ | with_reducible refine g_op ?_ | with_reducible refine g_un ?_ | with_reducible refine g_rI0 ?_ | ((with_reducible refine g_rI ?_ ?_); next => walk_at "side") | with_reducible refine g_test ?_ | with_reducible refine g_bl ?_
  | with_reducible refine g_nil ?_ | with_reducible refine g_cons ?_ | with_reducible refine g_call ?_ | with_reducible refine g_cb ?_ | with_reducible refine g_if ?_ | with_reducible refine g_par ?_ | with_reducible refine g_two ?_
  | with_reducible refine g_asg ?_ | with_reducible refine g_name ?_ | with_reducible refine g_sub ?_ | with_reducible refine g_yes ?_ | with_reducible refine g_gcons ?_ | with_reducible refine g_gnil ?_ | with_reducible refine g_dget ?_ | with_reducible refine g_dput ?_ | with_reducible refine g_rng1 ?_ | with_reducible refine g_rng2 ?_
  | ((with_reducible refine g_one ?_ ?_); next => omega) | ((with_reducible refine g_twoI ?_ ?_); next => omega) | with_reducible refine g_isNon ?_ | with_reducible refine g_andV ?_ | with_reducible refine g_revT ?_ | with_reducible refine g_itup ?_ | with_reducible refine g_methK0 ?_ | with_reducible refine g_methS ?_ | with_reducible refine g_errF ?_ | with_reducible refine g_prop ?_ | with_reducible refine g_con ?_ | with_reducible refine g_make ?_ | with_reducible refine g_fld ?_ | with_reducible refine g_sfld ?_ | with_reducible refine g_iftn ?_ | with_reducible refine g_iffn ?_ | with_reducible refine g_orV ?_ | with_reducible refine g_notV ?_ | with_reducible refine g_tB ?_ | with_reducible refine g_chain ?_ | with_reducible refine g_neg ?_ | with_reducible refine g_cval ?_ | with_reducible refine g_enumT ?_ | with_reducible refine g_proj ?_ | with_reducible refine g_andT ?_ | with_reducible refine g_orT ?_ | with_reducible refine g_notT ?_ | with_reducible refine g_sl ?_ | with_reducible refine g_part ?_ | with_reducible refine g_parI ?_ | with_reducible refine g_noPart ?_ | with_reducible refine g_pcons ?_ | with_reducible refine g_pnil ?_ | with_reducible refine g_list ?_ | with_reducible refine g_lc ?_ | with_reducible refine g_enum ?_ | with_reducible refine g_ift ?_ | with_reducible refine g_iff ?_ | with_reducible refine And.intro rfl ?_ | with_reducible refine g_notNon ?_)))
section
variable {P : Program} {w : World} {K : PySem.W.Frag} {mg : Str → Option Value} {base : Heap} {f : Addr} {fd : FuncData}
theorem sc_slack : FnScope ["m", "cycle"] ["m", "cycle"] (defScope s_law_slack) := ⟨rfl, rfl, rfl, by decide +kernel, rfl, by decide +kernel, by decide +kernel⟩
theorem ok_slack (F : FnT K "_law_slack" s_law_slack f fd) (hDraw : Has P w K mg base 2 "_law_draw" ["m", "top"] spDraw') : FnOk P w K mg base CX0 3 f fd ["m", "cycle"] spSlack := by
  refine F.ok sc_slack (fun vs H Q E h => ?_) (fun cdv A outer s H vs Q E hr h => ?_)
  · obtain ⟨m, c, g, B, cy, rfl, _⟩ := h
    rfl
  · obtain ⟨m, c, g, B, cy, rfl, hP, hB, hcy, q⟩ := h
    have sc := sc_slack
    refine ⟨_, PSs.nox (pss_one (ps_ret (pe_ix ix_list (pe_lst (pa_cons pe_int (pa_cons pe_int (pa_cons pe_int (pa_cons (pe_op op_sub (pv 1) pe_int) (pa_cons (pe_has hDraw hr (by decide) (pa_cons (pv 0) (pa_cons (pv 1) pa_nil))) (pa_cons (pe_has hDraw hr (by decide) (pa_cons (pv 0) (pa_cons (pe_op op_mul pe_int (pv 1)) pa_nil))) (pa_cons (pe_has hDraw hr (by decide) (pa_cons (pv 0) (pa_cons (pe_op op_mul pe_int (pv 1)) pa_nil))) pa_nil)))))))) (pe_has hDraw hr (by decide) (pa_cons (pv 0) (pa_cons pe_int pa_nil))) (fun _ _ => rfl)))), ?_⟩
    walk_at "go"
    refine g_lst' ?_
    walk_at "go"
    refine ⟨m, c, g, B, _, rfl, hP.self, by omega, ⟨by omega, by omega⟩, fun k1 H1 a1 b1 p1 => ?_⟩
    walk_at "go"
    refine ⟨m, c, g, B + 1, _, rfl, p1.self, by omega, ⟨by omega, by omega⟩, fun k2 H2 a2 b2 p2 => ?_⟩
    walk_at "go"
    refine ⟨m, c, g, B + 1 + 1, _, rfl, p2.self, by omega, ⟨by omega, by omega⟩, fun k3 H3 a3 b3 p3 => ?_⟩
    walk_at "go"
    refine ⟨sz (by simp), fun p np => ?_⟩
    have hP3 := (hP.trans p1).trans (p2.trans p3)
    have p4 := hP3.new (o := .lst [.int 0, .int 0, .int 1, .int (cy - 1), .int k1, .int k2, .int k3]) np
    walk_at "go"
    refine ⟨m, c, g, _, _, rfl, p4.self, by omega, ⟨by omega, by omega⟩, fun k4 H5 a4 b4 p5 => ?_⟩
    obtain ⟨o1, o2, o3⟩ := hP3.self.ne np hP3.self
    refine g_ixPick (SqL.of (p5.keep upd_same o1 o3)) a4 (by simpa using b4) ?_
    have fin : ∀ i : Int, 0 ≤ i → i < 5 * cy → Q (V.int i) H5 := fun i i0 i1 => q i H5 i0 i1 ((p4.trans p5).le (by omega))
    intro v hv
    simp only [List.mem_cons, List.not_mem_nil, or_false] at hv
    rcases hv with rfl | rfl | rfl | rfl | rfl | rfl | rfl <;> exact fin _ (by omega) (by omega)
theorem sc_book : FnScope ["m", "cycle", "crowd", "lines_most", "dates", "n", "shown", "notes", "lines", "one", "far"] ["m", "cycle", "crowd", "lines_most"] (defScope s_law_book) := ⟨rfl, rfl, rfl, by decide +kernel, rfl, by decide +kernel, by decide +kernel⟩
theorem ok_book (F : FnT K "_law_book" s_law_book f fd) (T : Blt mg) (hDraw : Has P w K mg base 2 "_law_draw" ["m", "top"] spDraw') (hSlack : Has P w K mg base 3 "_law_slack" ["m", "cycle"] spSlack) : FnOk P w K mg base CX0 4 f fd ["m", "cycle", "crowd", "lines_most"] spBook := by
  refine F.ok sc_book (fun vs H Q E h => ?_) (fun cdv A outer s H vs Q E hr h => ?_)
  · obtain ⟨m, c, g, B, cy, cr, lm, rfl, _⟩ := h
    rfl
  · obtain ⟨m, c, g, B, cy, cr, lm, rfl, hP, hB, hcy, hcr, hlm, q⟩ := h
    have sc := sc_book
    refine ⟨_, PSs.nox (pss_cons (ps_setLc (i := 4) (own := [("n", 5)]) (g := gName 5) (tt := tYes) (by rfl) sc.nd rfl rfl (sw_true rfl rfl rfl (by decide +kernel)) (pi_range1 (by rfl) T.range (pa_cons (pv 2) pa_nil)) (blkOk_by (sc := defScope s_law_book) (N := ["m", "cycle", "crowd", "lines_most", "dates", "n", "shown", "notes", "lines", "one", "far"]) (own := [("n", 5)]) (by decide +kernel)) (fun _ _ _ _ _ => (pg_name (i := 5) sc.nd rfl (Or.inl rfl))) (fun _ _ _ _ _ => pts_nil) (fun _ _ _ _ _ => (pe_op op_sub (pe_has hDraw hr (by decide) (pa_cons (pv 0) (pa_cons (pe_op op_mul pe_int (pv 1)) pa_nil))) (pe_op op_mul pe_int (pv 1)))))
      (pss_cons (ps_par (i := 6) (j := 7) (by rfl) sc.nd rfl rfl (by decide) rfl rfl (pa_cons (pe_op op_add pe_int (pe_has hDraw hr (by decide) (pa_cons (pv 0) (pa_cons pe_int pa_nil)))) (pa_cons (pe_lst pa_nil) pa_nil)) (by rfl))
      (pss_cons (ps_for PassesOwn.never rfl (pi_range1 (by rfl) T.range (pa_cons (pv 2) pa_nil)) (pg_name (i := 5) sc.nd rfl (Or.inl rfl))
        (pss_one (ps_expr (pe_bm PySem.F.plainAttrs_list PySem.F.slot_list_append PySem.F.type_list_append mt_append (pv 7) (pa_cons (pe_ifExp (pt_cmpR op_lt (pe_has hDraw hr (by decide) (pa_cons (pv 0) (pa_cons pe_int pa_nil))) (pv 6) (nomark _)) (pe_op op_mod (pe_ix ix_list (pv 4) (pv 5) (fun _ _ => rfl)) (pv 1)) pe_non) pa_nil)))))
      (pss_cons (ps_set (i := 8) sc.nd rfl (Or.inl rfl) (pe_lst pa_nil))
      (pss_cons (ps_for PassesOwn.never rfl (pi_range1 (by rfl) T.range (pa_cons (pe_has hDraw hr (by decide) (pa_cons (pv 0) (pa_cons (pe_op op_add (pv 3) pe_int) pa_nil))) pa_nil)) (pg_name (i := 5) sc.nd rfl (Or.inl rfl))
        (pss_cons (ps_par (i := 9) (j := 10) (by rfl) sc.nd rfl rfl (by decide) rfl rfl (pa_cons (pe_has hDraw hr (by decide) (pa_cons (pv 0) (pa_cons (pv 2) pa_nil))) (pa_cons (pe_has hDraw hr (by decide) (pa_cons (pv 0) (pa_cons (pv 2) pa_nil))) pa_nil)) (by rfl))
        (pss_one (ps_expr (pe_bm PySem.F.plainAttrs_list PySem.F.slot_list_append PySem.F.type_list_append mt_append (pv 8) (pa_cons (pe_tup (pa_cons (pv 9) (pa_cons (pv 10) (pa_cons (pe_op op_add (pe_op op_sub (pe_ix ix_list (pv 4) (pv 10) (fun _ _ => rfl)) (pe_ix ix_list (pv 4) (pv 9) (fun _ _ => rfl))) (pe_has hSlack hr (by decide) (pa_cons (pv 0) (pa_cons (pv 1) pa_nil)))) pa_nil)))) pa_nil))))))
      (pss_one (ps_ret (pe_tup (pa_cons (pv 1) (pa_cons (pe_callTy call_tuple_of (by rfl) T.tuple (by decide +kernel) (pa_cons (pv 7) pa_nil)) (pa_cons (pe_callTy call_tuple_of (by rfl) T.tuple (by decide +kernel) (pa_cons (pv 8) pa_nil)) (pa_cons (pe_callTy call_tuple_of (by rfl) T.tuple (by decide +kernel) (pa_cons (pv 4) pa_nil)) pa_nil)))))))))))), ?_⟩
    walk_at "go"
    refine LcQ.range (fun D i H' => ∃ ds : List Int, ds.length = i ∧ (∀ x ∈ ds, -2 * cy ≤ x ∧ x < 2 * cy) ∧ H' D = some (.lst (ds.map V.int)) ∧ Pr m c g H H' (B + i)) (fun D nD => ⟨[], rfl, by simp, upd_same, (hP.new nD).le (by omega)⟩) ?_ ?_
    · rintro D nD i H1 hi ⟨ds, hl, hx, h1, p1⟩
      obtain ⟨o1, o2, o3⟩ := hP.ne nD hP
      walk_at "go"
      refine ⟨m, c, g, _, _, rfl, p1.self, by omega, ⟨by omega, by omega⟩, fun k H2 k0 k1 p2 => ?_⟩
      walk_at "go"
      refine ⟨_, p2.keep h1 o1 o3, szl (by rw [List.length_map]; omega), ds ++ [k - 2 * cy], by simp [hl], ?_, by rw [upd_same]; simp, ?_⟩
      · intro x h
        rcases List.mem_append.mp h with h | h
        · exact hx x h
        · simp at h; omega
      · exact ((p1.trans p2).put nD o1 o2 o3).le (by omega)
    · rintro dD ndD H1 ⟨ds, hl, hx, h1, p1⟩
      obtain ⟨o1, o2, o3⟩ := hP.ne ndD hP
      walk_at "go"
      refine ⟨m, c, g, _, _, rfl, p1.self, by omega, ⟨by omega, by omega⟩, fun sh H2 s0 s1 p2 => ?_⟩
      walk_at "go"
      refine g_lst' ?_
      walk_at "go"
      refine ⟨sz (by simp), fun nN nnN => ?_⟩
      walk_at "go"
      have hP2 : Pr m c g H H2 (B + 18) := (p1.trans p2).le (by omega)
      have nnN0 : H nN = none := hP2.old nnN
      have h2 : H2 dD = some (.lst (ds.map V.int)) := p2.keep h1 o1 o3
      have ndn : dD ≠ nN := ne_of_none h2 nnN
      obtain ⟨u1, u2, u3⟩ := hP.ne nnN0 hP
      refine ForQ.range (fun i σ H' => (∃ x, σ = [some (.ref m), some (.int cy), some (.int cr), some (.int lm), some (.ref dD), x, some (.int (1 + sh)), some (.ref nN), none, none, none]) ∧ ∃ ns : List (Option Int), ns.length = i ∧ (∀ (j : Nat) (k : Int), ns[j]? = some (some k) → ∃ x, ds[j]? = some x ∧ x % cy = k) ∧ H' nN = some (.lst (ns.map noteV)) ∧ H' dD = some (.lst (ds.map V.int)) ∧ Pr m c g H H' (B + 18 + i)) ⟨⟨_, rfl⟩, [], rfl, by simp, upd_same, by rw [upd_ne ndn]; exact h2, (hP2.new nnN).le (by omega)⟩ ?_ ?_
      · rintro i σ H3 hi ⟨⟨x, rfl⟩, ns, hn, hns, h3, h3d, p3⟩
        walk_at "go"
        refine g_bmL (i := 7) rfl h3 ?_
        walk_at "go"
        refine ⟨m, c, g, _, _, rfl, p3.self, by omega, ⟨by omega, by omega⟩, fun k H4 k0 k1 p4 => ?_⟩
        walk_at "go"
        have h4 := p4.keep h3 u1 u3
        have h4d := p4.keep h3d o1 o3
        have put : ∀ nt : Option Int, (∀ k, nt = some k → ∃ x, ds[i]? = some x ∧ x % cy = k) → rAppend (.ref nN) [noteV nt] H4 (fun v H' => (fun _ => (∃ x, [some (V.ref m), some (V.int cy), some (V.int cr), some (V.int lm), some (V.ref dD), some (V.int (0 + (i : Nat))), some (V.int (1 + sh)), some (V.ref nN), none, none, none] = [some (.ref m), some (.int cy), some (.int cr), some (.int lm), some (.ref dD), x, some (.int (1 + sh)), some (.ref nN), none, none, none]) ∧ ∃ ns : List (Option Int), ns.length = i + 1 ∧ (∀ (j : Nat) (k : Int), ns[j]? = some (some k) → ∃ x, ds[j]? = some x ∧ x % cy = k) ∧ H' nN = some (.lst (ns.map noteV)) ∧ H' dD = some (.lst (ds.map V.int)) ∧ Pr m c g H H' (B + 18 + ((i + 1 : Nat) : Int))) v) := by
          intro nt hnt
          refine g_app h4 (szl (by rw [List.length_map]; omega)) ?_
          refine ⟨⟨_, rfl⟩, ns ++ [nt], by simp [hn], fun j k hj => ?_, by rw [upd_same]; simp, by rw [upd_ne ndn]; exact h4d, ((p3.trans p4).put nnN0 u1 u2 u3).le (by omega)⟩
          rcases Nat.lt_or_ge j ns.length with q | q
          · rw [List.getElem?_append_left q] at hj; exact hns j k hj
          · rw [List.getElem?_append_right q] at hj
            have : j = i := by
              rcases Nat.lt_or_ge i j with z | z
              · rw [show j - ns.length = (j - ns.length - 1) + 1 by omega] at hj; simp at hj
              · omega
            subst this
            rw [show j - ns.length = 0 by omega] at hj
            exact hnt k (by simpa using hj)
        cases hb : decide (k < 1 + sh) with
        | true =>
          walk_at "go"
          have hi' : i < ds.length := by omega
          refine g_ixL (K := K) (xs := ds.map V.int) (SqL.of h4d) (v := .int ds[i]) (atI_at (by omega) (map_get_int (by simp [hi']))) ?_
          walk_at "go"
          exact put (some (ds[i] % cy)) (fun k hk => ⟨ds[i], by simp [hi'], by simpa using hk⟩)
        | false =>
          walk_at "go"
          exact put none (fun k hk => by simp at hk)
      · rintro σ H3 ⟨⟨x, rfl⟩, ns, hn, hns, h3, h3d, p3⟩
        walk_at "go"
        refine g_lst' ?_
        walk_at "go"
        refine ⟨sz (by simp), fun lN nlN => ?_⟩
        have nlN0 : H lN = none := p3.old nlN
        obtain ⟨w1, w2, w3⟩ := hP.ne nlN0 hP
        have ndl : dD ≠ lN := ne_of_none h3d nlN
        have nnl : nN ≠ lN := ne_of_none h3 nlN
        have p4 : Pr m c g H (upd H3 lN (.lst [])) (B + 34) := (p3.new nlN).le (by omega)
        walk_at "go"
        refine ⟨m, c, g, _, _, rfl, p4.self, by omega, ⟨by omega, by omega⟩, fun kk H5 kk0 kk1 p5 => ?_⟩
        walk_at "go"
        refine ForQ.range (fun i σ H' => (∃ x y z, σ = [some (.ref m), some (.int cy), some (.int cr), some (.int lm), some (.ref dD), x, some (.int (1 + sh)), some (.ref nN), some (.ref lN), y, z]) ∧ ∃ ls : List (Int × Int × Int), ls.length = i ∧ (∀ l ∈ ls, (0 ≤ l.1 ∧ l.1 < cr) ∧ (0 ≤ l.2.1 ∧ l.2.1 < cr) ∧ (-1000 ≤ l.2.2 ∧ l.2.2 ≤ 1000) ∧ ∀ x y : Int, ds[l.1.toNat]? = some x → ds[l.2.1.toNat]? = some y → y - x ≤ l.2.2) ∧ (∃ rows, H' lN = some (.lst rows) ∧ Fzs H' rows (ls.map lineD)) ∧ H' nN = some (.lst (ns.map noteV)) ∧ H' dD = some (.lst (ds.map V.int)) ∧ Pr m c g H H' (B + 35 + 6 * i)) ⟨⟨_, _, _, rfl⟩, [], rfl, by simp, ⟨[], p5.keep upd_same w1 w3, .nil⟩, p5.keep (by rw [upd_ne nnl]; exact h3) u1 u3, p5.keep (by rw [upd_ne ndl]; exact h3d) o1 o3, (p4.trans p5).le (by omega)⟩ ?_ ?_
        · rintro i σ H6 hi ⟨⟨x, y, z, rfl⟩, ls, hls, hgood, ⟨rows, hr6, hf6⟩, h6, h6d, p6⟩
          have hi6 : i < 61 := by omega
          walk_at "go"
          refine ⟨m, c, g, _, _, rfl, p6.self, by omega, ⟨by omega, by omega⟩, fun k1 H7 a1 b1 p7 => ?_⟩
          walk_at "go"
          refine ⟨m, c, g, _, _, rfl, p7.self, by omega, ⟨by omega, by omega⟩, fun k2 H8 a2 b2 p8 => ?_⟩
          have p68 := p7.trans p8
          have h8 := p68.keep h6 u1 u3
          have h8d := p68.keep h6d o1 o3
          have h8r := p68.keep hr6 w1 w3
          have hk1 : k1.toNat < ds.length := by omega
          have hk2 : k2.toNat < ds.length := by omega
          walk_at "go"
          refine g_bmL (i := 8) rfl h8r ?_
          walk_at "go"
          refine g_tup' ?_
          walk_at "go"
          refine g_ixL (K := K) (xs := ds.map V.int) (SqL.of h8d) (v := .int ds[k2.toNat]) (atI_at a2 (map_get_int (by simp [hk2]))) ?_
          walk_at "go"
          refine g_ixL (K := K) (xs := ds.map V.int) (SqL.of h8d) (v := .int ds[k1.toNat]) (atI_at a1 (map_get_int (by simp [hk1]))) ?_
          walk_at "go"
          refine ⟨m, c, g, _, _, rfl, p8.self, by omega, ⟨by omega, by omega⟩, fun sl H9 sl0 sl1 p9 => ?_⟩
          walk_at "go"
          refine ⟨sz (by simp), fun T nT => ?_⟩
          have p69 := p68.trans p9
          have h9 := p69.keep h6 u1 u3
          have h9d := p69.keep h6d o1 o3
          have h9r := p69.keep hr6 w1 w3
          have nlT : lN ≠ T := ne_of_none h9r nT
          have nnT : nN ≠ T := ne_of_none h9 nT
          have ndT : dD ≠ T := ne_of_none h9d nT
          have hrl : rows.length = i := by rw [hf6.length, List.length_map]; exact hls
          walk_at "go"
          refine g_app (by rw [upd_ne nlT]; exact h9r) (szl (by omega)) ?_
          have tk1 : Tk H6 (upd H9 T (.tup [.int k1, .int k2, .int (ds[k2.toNat] - ds[k1.toNat] + sl)])) := (p69.tk p6.self).trans (Tk.new nT)
          have tk2 := Tk.upd (H := upd H9 T (.tup [.int k1, .int k2, .int (ds[k2.toNat] - ds[k1.toNat] + sl)])) (p := lN) (o := .lst (rows ++ [.ref T])) (by rw [upd_ne nlT]; exact h9r) (fun xs h => by cases h)
          refine ⟨⟨_, _, _, rfl⟩, ls ++ [(k1, k2, ds[k2.toNat] - ds[k1.toNat] + sl)], by simp [hls], fun l hl => ?_, ⟨_, upd_same, ?_⟩, by rw [upd_ne nnl, upd_ne nnT]; exact h9, by rw [upd_ne ndl, upd_ne ndT]; exact h9d, ?_⟩
          · rcases List.mem_append.mp hl with hl | hl
            · exact hgood l hl
            · have e : l = (k1, k2, ds[k2.toNat] - ds[k1.toNat] + sl) := by simpa using hl
              subst e
              have g1 := hx ds[k1.toNat] (List.getElem_mem hk1)
              have g2 := hx ds[k2.toNat] (List.getElem_mem hk2)
              refine ⟨⟨a1, b1⟩, ⟨a2, b2⟩, ⟨by show _ ≤ ds[k2.toNat] - ds[k1.toNat] + sl; omega, by show ds[k2.toNat] - ds[k1.toNat] + sl ≤ _; omega⟩, fun x y e1 e2 => ?_⟩
              have e1' : ds[k1.toNat] = x := by simpa [hk1] using e1
              have e2' : ds[k2.toNat] = y := by simpa [hk2] using e2
              show y - x ≤ ds[k2.toNat] - ds[k1.toNat] + sl
              omega
          · rw [List.map_append]
            exact (hf6.tk (tk1.trans tk2)).snoc (fz_line (by rw [upd_ne nlT.symm, upd_same]))
          · exact (((p6.trans p69).new nT).put nlN0 w1 w2 w3).le (by omega)
        · rintro σ H6 ⟨⟨x, y, z, rfl⟩, ls, hls, hgood, ⟨rows, hr6, hf6⟩, h6, h6d, p6⟩
          walk_at "go"
          refine g_tup' ?_
          walk_at "go"
          refine g_tupOfL (K := K) (SqL.of h6) ?_
          intro t1 n1
          walk_at "go"
          refine g_tupOfL (K := K) (SqL.of (by rw [upd_ne (ne_of_none hr6 n1)]; exact hr6)) ?_
          intro t2 n2
          have f1 : upd H6 t1 (.tup (ns.map noteV)) t1 = some (.tup (ns.map noteV)) := upd_same
          walk_at "go"
          refine g_tupOfL (K := K) (SqL.of (by rw [upd_ne (ne_of_none (by rw [upd_ne (ne_of_none h6d n1)]; exact h6d) n2), upd_ne (ne_of_none h6d n1)]; exact h6d)) ?_
          intro t3 n3
          walk_at "go"
          refine ⟨sz (by simp), fun t4 n4 => ?_⟩
          walk_at "go"
          have k1 := Tk.new (o := .tup (ns.map noteV)) n1
          have k2 := Tk.new (o := .tup rows) n2
          have k3 := Tk.new (o := .tup (ds.map V.int)) n3
          have k4 := Tk.new (o := .tup [.int cy, .ref t1, .ref t2, .ref t3]) n4
          refine q (.ref t4) ⟨cy, ns, ls, some ds⟩ _ (book_mk upd_same ?_ ?_ ?_) rfl hn ?_ rfl ?_
          · exact (fz_notes upd_same).tk (k2.trans (k3.trans k4))
          · exact (Fz.tup upd_same (hf6.tk (k1.trans k2))).tk (k3.trans k4)
          · exact (Fz.tup upd_same (Fzs.of_ints ds)).tk k4
          · refine ⟨⟨hcy.1, hcy.2, by show 1 ≤ ns.length; omega, by show ns.length ≤ 16; omega, fun i hi => ?_, fun l hl => ?_⟩, by show ls.length ≤ _; omega, fun xs hxs => ?_⟩
            · obtain ⟨j, hj, e⟩ := List.getElem_of_mem hi
              obtain ⟨x, _, e2⟩ := hns j i (by rw [List.getElem?_eq_getElem hj, e])
              have := Int.emod_nonneg x (show cy ≠ 0 by omega)
              have := Int.emod_lt_of_pos x (show 0 < cy by omega)
              show 0 ≤ i ∧ i < cy
              omega
            · obtain ⟨⟨a, b⟩, ⟨a', b'⟩, ⟨a'', b''⟩, _⟩ := hgood l hl
              have hn' : (ns.length : Int) = cr := by omega
              exact ⟨⟨a, by show l.1 < (ns.length : Int); omega⟩, ⟨a', by show l.2.1 < (ns.length : Int); omega⟩, a'', b''⟩
            · have e : ds = xs := by simpa using hxs
              subst e
              refine ⟨by show ds.length = ns.length; omega, fun n i x h1 h2 => ?_, fun l hl => (hgood l hl).2.2.2⟩
              obtain ⟨x', h3, h4⟩ := hns n i h1
              rw [h2] at h3
              have := Option.some.inj h3
              subst this
              exact h4
          · exact ((((p6.new n1).new n2).new n3).new n4).le (by omega)
end
end K05
set_option Elab.async false
set_option linter.all false
set_option maxRecDepth 100000
set_option maxHeartbeats 4000000
namespace K05
open PySem PySem.Spec PyProof.Rows L2 WL
local macro_rules | `(tactic| walk_at "side") => `(tactic| first | (show (_ ∧ _) ∨ (_ ∧ _); omega) | (exact ⟨by omega, by omega⟩) | (show (0 : Int) < _; omega) | omega)
local macro_rules | `(tactic| walk_at "go") => `(tactic| (repeat (first
  | with_reducible refine g_seq ?_ | with_reducible refine g_asgN ?_ | with_reducible refine g_ret ?_ | with_reducible refine g_drop ?_ | with_reducible refine g_ifS ?_ | with_reducible refine g_next ?_
  | with_reducible refine g_var rfl ?_ | with_reducible refine g_c ?_ | with_reducible refine g_op ?_ | with_reducible refine g_un ?_ | with_reducible refine g_rI0 ?_ | ((with_reducible refine g_rI ?_ ?_); next => walk_at "side") | with_reducible refine g_test ?_ | with_reducible refine g_bl ?_
  | with_reducible refine g_nil ?_ | with_reducible refine g_cons ?_ | with_reducible refine g_call ?_ | with_reducible refine g_cb ?_ | with_reducible refine g_if ?_ | with_reducible refine g_par ?_ | with_reducible refine g_two ?_
  | with_reducible refine g_asg ?_ | with_reducible refine g_name ?_ | with_reducible refine g_sub ?_ | with_reducible refine g_yes ?_ | with_reducible refine g_gcons ?_ | with_reducible refine g_gnil ?_ | with_reducible refine g_dget ?_ | with_reducible refine g_dput ?_ | with_reducible refine g_rng1 ?_ | with_reducible refine g_rng2 ?_
  | ((with_reducible refine g_one ?_ ?_); next => omega) | ((with_reducible refine g_twoI ?_ ?_); next => omega) | with_reducible refine g_isNon ?_ | with_reducible refine g_andV ?_ | with_reducible refine g_revT ?_ | with_reducible refine g_itup ?_ | with_reducible refine g_methK0 ?_ | with_reducible refine g_methS ?_ | with_reducible refine g_errF ?_ | with_reducible refine g_prop ?_ | with_reducible refine g_con ?_ | with_reducible refine g_make ?_ | with_reducible refine g_fld ?_ | with_reducible refine g_sfld ?_ | with_reducible refine g_iftn ?_ | with_reducible refine g_iffn ?_ | with_reducible refine g_orV ?_ | with_reducible refine g_notV ?_ | with_reducible refine g_tB ?_ | with_reducible refine g_chain ?_ | with_reducible refine g_neg ?_ | with_reducible refine g_cval ?_ | with_reducible refine g_enumT ?_ | with_reducible refine g_andT ?_ | with_reducible refine g_orT ?_ | with_reducible refine g_notT ?_ | with_reducible refine g_sl ?_ | with_reducible refine g_part ?_ | with_reducible refine g_parI ?_ | with_reducible refine g_noPart ?_ | with_reducible refine g_pcons ?_ | with_reducible refine g_pnil ?_ | with_reducible refine g_list ?_ | with_reducible refine g_lc ?_ | with_reducible refine g_for ?_ | with_reducible refine g_enum ?_ | with_reducible refine g_ift ?_ | with_reducible refine g_iff ?_ | with_reducible refine And.intro rfl ?_ | with_reducible refine g_notNon ?_)))
local macro_rules | `(tactic| walk_at "ex") => `(tactic| (repeat (first
  | with_reducible refine g_seqAsg ?_ | with_reducible refine g_seqFld ?_ | with_reducible refine g_seqDrop ?_ | with_reducible refine g_seqPut ?_ | with_reducible refine g_seqPar ?_ | with_reducible refine g_asgN ?_ | with_reducible refine g_ret ?_ | with_reducible refine g_drop ?_ | with_reducible refine g_next ?_
  | with_reducible refine g_var rfl ?_ | with_reducible refine g_c ?_ | with_reducible refine g_op ?_ | with_reducible refine g_un ?_ | with_reducible refine g_rI0 ?_ | ((with_reducible refine g_rI ?_ ?_); next => walk_at "side") | with_reducible refine g_test ?_ | with_reducible refine g_bl ?_
  | with_reducible refine g_nil ?_ | with_reducible refine g_cons ?_ | with_reducible refine g_call ?_ | with_reducible refine g_cb ?_ | with_reducible refine g_if ?_ | with_reducible refine g_par ?_ | with_reducible refine g_two ?_
  | with_reducible refine g_asg ?_ | with_reducible refine g_name ?_ | with_reducible refine g_sub ?_ | with_reducible refine g_yes ?_ | with_reducible refine g_gcons ?_ | with_reducible refine g_gnil ?_ | with_reducible refine g_dget ?_ | with_reducible refine g_dput ?_ | with_reducible refine g_rng1 ?_ | with_reducible refine g_rng2 ?_
  | ((with_reducible refine g_one ?_ ?_); next => omega) | ((with_reducible refine g_twoI ?_ ?_); next => omega) | with_reducible refine g_isNon ?_ | with_reducible refine g_andV ?_ | with_reducible refine g_revT ?_ | with_reducible refine g_itup ?_ | with_reducible refine g_methK0 ?_ | with_reducible refine g_methS ?_ | with_reducible refine g_errF ?_ | with_reducible refine g_prop ?_ | with_reducible refine g_con ?_ | with_reducible refine g_make ?_ | with_reducible refine g_fld ?_ | with_reducible refine g_sfld ?_ | with_reducible refine g_iftn ?_ | with_reducible refine g_iffn ?_ | with_reducible refine g_orV ?_ | with_reducible refine g_notV ?_ | with_reducible refine g_tB ?_ | with_reducible refine g_chain ?_ | with_reducible refine g_neg ?_ | with_reducible refine g_cval ?_ | with_reducible refine g_enumT ?_ | with_reducible refine g_proj ?_ | with_reducible refine g_andT ?_ | with_reducible refine g_orT ?_ | with_reducible refine g_notT ?_ | with_reducible refine g_sl ?_ | with_reducible refine g_part ?_ | with_reducible refine g_parI ?_ | with_reducible refine g_noPart ?_ | with_reducible refine g_pcons ?_ | with_reducible refine g_pnil ?_ | with_reducible refine g_list ?_ | with_reducible refine g_lc ?_ | with_reducible refine g_enum ?_ | with_reducible refine g_ift ?_ | with_reducible refine g_iff ?_ | with_reducible refine And.intro rfl ?_ | with_reducible refine g_notNon ?_)))
section
variable {P : Program} {w : World} {K : PySem.W.Frag} {mg : Str → Option Value} {base : Heap} {f : Addr} {fd : FuncData}
theorem sc_bent : FnScope ["m", "book", "cycle", "notes", "lines", "dates", "way", "at", "one", "far", "high"] ["m", "book"] (defScope s_law_bent) := ⟨rfl, rfl, rfl, by decide +kernel, rfl, by decide +kernel, by decide +kernel⟩
theorem ok_bent (F : FnT K "_law_bent" s_law_bent f fd) (T : Blt mg) (hDraw : Has P w K mg base 2 "_law_draw" ["m", "top"] spDraw') : FnOk P w K mg base CX0 3 f fd ["m", "book"] spBent := by
  refine F.ok sc_bent (fun vs H Q E h => ?_) (fun cdv A outer s H vs Q E hr h => ?_)
  · obtain ⟨m, c, g, B, v, b, wd, most, rfl, _⟩ := h
    rfl
  · obtain ⟨m, c, g, B, v, b, wd, most, rfl, hP, hB, hF, hOK, hm, hwd, q⟩ := h
    have sc := sc_bent
    have hu := hr.units
    refine ⟨_, PSs.nox (pss_cons (ps_asg (pv 1) (pg_tup rfl (pgs_cons (pg_name (i := 2) sc.nd rfl (Or.inl rfl)) (pgs_cons (pg_name (i := 3) sc.nd rfl (Or.inl rfl)) (pgs_cons (pg_name (i := 4) sc.nd rfl (Or.inl rfl)) (pgs_cons (pg_name (i := 5) sc.nd rfl (Or.inl rfl)) pgs_nil))))))
      (pss_cons (ps_set (i := 6) sc.nd rfl (Or.inl rfl) (pe_has hDraw hr (by decide) (pa_cons (pv 0) (pa_cons pe_int pa_nil))))
      (pss_cons (ps_if (PW.pt (pw_and (pt_cmpR op_lt (pv 6) pe_int (nomark _)) (pw_and1 (pt_cmpR (op_neD hu) (pv 4) (pe_tup pa_nil) (nomark _)))))
        (pss_cons (ps_set (i := 7) sc.nd rfl (Or.inl rfl) (pe_has hDraw hr (by decide) (pa_cons (pv 0) (pa_cons (pe_callB call_len_seq (by rfl) T.len PySem.boot_len (pa_cons (pv 4) pa_nil)) pa_nil))))
        (pss_cons (ps_asg (pe_ix ix_tup (pv 4) (pv 7) (fun _ _ => rfl)) (pg_tup rfl (pgs_cons (pg_name (i := 8) sc.nd rfl (Or.inl rfl)) (pgs_cons (pg_name (i := 9) sc.nd rfl (Or.inl rfl)) (pgs_cons (pg_name (i := 10) sc.nd rfl (Or.inl rfl)) pgs_nil)))))
        (pss_one (ps_set (i := 4) sc.nd rfl (Or.inl rfl) (pe_op op_catA (pe_op op_catA (pe_slice sl_tupA (pv 4) po_none (po_some (pv 7))) (pe_tup (pa_cons (pe_tup (pa_cons (pv 8) (pa_cons (pv 9) (pa_cons (pe_op op_sub (pe_op op_sub (pv 10) pe_int) (pe_has hDraw hr (by decide) (pa_cons (pv 0) (pa_cons (pe_op op_mul pe_int (pv 2)) pa_nil)))) pa_nil)))) pa_nil))) (pe_slice sl_tupA (pv 4) (po_some (pe_op op_add (pv 7) pe_int)) po_none))))))
        (pss_cons (ps_set (i := 7) sc.nd rfl (Or.inl rfl) (pe_has hDraw hr (by decide) (pa_cons (pv 0) (pa_cons (pe_callB call_len_seq (by rfl) T.len PySem.boot_len (pa_cons (pv 3) pa_nil)) pa_nil))))
        (pss_one (ps_set (i := 3) sc.nd rfl (Or.inl rfl) (pe_op op_catA (pe_op op_catA (pe_slice sl_tupA (pv 3) po_none (po_some (pv 7))) (pe_tup (pa_cons (pe_has hDraw hr (by decide) (pa_cons (pv 0) (pa_cons (pv 2) pa_nil))) pa_nil))) (pe_slice sl_tupA (pv 3) (po_some (pe_op op_add (pv 7) pe_int)) po_none))))))
      (pss_one (ps_ret (pe_tup (pa_cons (pv 2) (pa_cons (pv 3) (pa_cons (pv 4) (pa_cons pe_non pa_nil)))))))))), ?_⟩
    obtain ⟨a, na, la, dv, rfl, ha, hn, ⟨rows, hl, hrows⟩, hd⟩ := book_inv hF
    obtain ⟨cy, ns, ls, dt⟩ := b
    obtain ⟨dok, hmany, _⟩ := hOK
    have dok0 := dok
    obtain ⟨c2, c100, n1, n16, hnote, hline⟩ := dok
    simp only at ha hn hl hrows hd c2 c100 n1 n16 hnote hline hmany q dok0
    walk_at "ex"
    refine g_tupg (SqT.of ha) rfl ?_
    walk_at "ex"
    refine ⟨m, c, g, _, _, rfl, hP.self, by omega, ⟨by omega, by omega⟩, fun way H1 w0 w1 p1 => ?_⟩
    have k1 := p1.tk hP
    have hn1 := k1 _ _ hn
    have hl1 := k1 _ _ hl
    have hr1 := hrows.tk k1
    have hrl : rows.length = ls.length := by rw [hrows.length, List.length_map]
    walk_at "ex"
    refine g_join (fun σ' H' => ∃ (nv lv : V) (ns' : List (Option Int)) (ls' : List (Int × Int × Int)) (x7 x8 x9 x10 : Option V), σ' = [some (.ref m), some (.ref a), some (.int cy), some nv, some lv, some dv, some (.int way), x7, x8, x9, x10] ∧ Fz H' nv (notesD ns') ∧ Fz H' lv (linesD ls') ∧ ns'.length = ns.length ∧ DOK cy ns' ls' (wd + 201) ∧ ls'.length = ls.length ∧ Pr m c g H H' (B + 3)) ?_ ?_
    · intro D' hD' _ _ _
      refine g_ifR (fun b H' => Nt H1 H' ∧ (b = true → ls ≠ [])) (fun Q hQ => ?_) ?_
      · walk_at "go"
        cases hb : decide (way < 2) with
        | false => 
          walk_at "go"
          exact hQ false _ ⟨.refl, fun h => by simp at h⟩
        | true =>
          walk_at "go"
          refine g_tup' ?_
          walk_at "go"
          refine ⟨sz (by simp), fun p0 np0 => ?_⟩
          have n0 : Nt H1 (upd H1 p0 (.tup [])) := .new .refl np0
          refine g_neD (K := K) (Fz.tup (n0.same _ _ hl1) (hr1.tk n0.tk)).dp (dp_nilT (SqT.of upd_same)) (pl_shaped (pl_lines ls) (by decide)) (pl_shaped pl_nilT (by decide)) ?_
          walk_at "go"
          refine hQ _ _ ⟨n0, fun h e => ?_⟩
          subst e
          exact absurd h (by decide)
      · rintro b H2 ⟨nt, hne⟩
        have p2 : Pr m c g H H2 (B + 1) := nt.pr p1
        have hn2 := nt.same _ _ hn1
        have hl2 := nt.same _ _ hl1
        have hr2 := hr1.tk nt.tk
        cases b with
        | true =>
          have hls : 0 < ls.length := List.length_pos_iff.mpr (hne rfl)
          walk_at "go"
          refine g_len (K := K) (Or.inr (SqT.of hl2)) ?_
          walk_at "go"
          refine ⟨m, c, g, _, _, rfl, p2.self, by omega, ⟨by omega, by omega⟩, fun at' H3 a0 a1 p3 => ?_⟩
          have k3 := p3.tk p2.self
          have hat : at'.toNat < ls.length := by omega
          obtain ⟨r, er, hrr⟩ := fzs_row (hr2.tk k3) hat
          walk_at "go"
          refine g_ixT (K := K) (SqT.of (k3 _ _ hl2)) (atI_at a0 er) ?_
          refine g_tupg (SqT.of hrr) rfl ?_
          walk_at "go"
          refine g_slA (k3 _ _ hl2) fun s1 H4 nt4 hs1 => ?_
          walk_at "go"
          have p4 : Pr m c g H H4 (B + 2) := nt4.pr ((p2.trans p3).le (by omega))
          refine g_tup' ?_
          walk_at "go"
          refine g_tup' ?_
          walk_at "go"
          refine ⟨m, c, g, _, _, rfl, p4.self, by omega, ⟨by omega, by omega⟩, fun k H5 k0 k1' p5 => ?_⟩
          have k5 : Tk H4 H5 := p5.tk p4.self
          have k15 : Tk H2 H5 := k3.trans (nt4.tk.trans k5)
          walk_at "go"
          refine ⟨sz (by simp), fun U nU => ?_⟩
          walk_at "go"
          refine ⟨sz (by simp), fun W nW => ?_⟩
          have kU := Tk.new (o := .tup [.int ls[at'.toNat].1, .int ls[at'.toNat].2.1, .int (ls[at'.toNat].2.2 - 1 - k)]) nU
          have kW := Tk.new (o := .tup [.ref U]) nW
          rw [cut_take rows a0] at hs1
          refine g_catA (K := K) ((k5.trans (kU.trans kW)) _ _ hs1) upd_same (by rw [List.length_take]; simp; omega) fun s2 H6 nt6 hs2 => ?_
          walk_at "go"
          refine g_slA (nt6.tk _ _ (kW _ _ (kU _ _ (k15 _ _ hl2)))) fun s3 H7 nt7 hs3 => ?_
          rw [cut_drop rows (by omega), show (at' + 1).toNat = at'.toNat + 1 by omega] at hs3
          walk_at "go"
          refine g_catA (K := K) (nt7.tk _ _ hs2) hs3 (by simp only [List.length_append, List.length_take, List.length_drop, List.length_cons, List.length_nil]; omega) fun s4 H8 nt8 hs4 => ?_
          walk_at "go"
          have kU8 : Tk (upd H5 U (.tup [.int ls[at'.toNat].1, .int ls[at'.toNat].2.1, .int (ls[at'.toNat].2.2 - 1 - k)])) H8 := kW.trans (nt6.tk.trans (nt7.tk.trans nt8.tk))
          have k8 : Tk H2 H8 := k15.trans (kU.trans kU8)
          refine hD' _ _ ⟨.ref na, .ref s4, ns, ls.take at'.toNat ++ [(ls[at'.toNat].1, ls[at'.toNat].2.1, ls[at'.toNat].2.2 - 1 - k)] ++ ls.drop (at'.toNat + 1), _, _, _, _, rfl, (fz_notes hn2).tk k8, ?_, rfl, ?_, cut_len _ _ _ hat, ?_⟩
          · refine Fz.tup hs4 ?_
            rw [List.map_append, List.map_append, List.map_take, List.map_drop]
            exact ((hr2.take _).tk k8 |>.append (.cons (fz_line (kU8 _ _ upd_same)) .nil)).append ((hr2.drop _).tk k8)
          · refine dok_lines dok0 fun l hl => ?_
            rcases cut_mem hl with h | h
            · exact Or.inl ⟨h, by omega⟩
            · subst h
              obtain ⟨g1, g2, g3, g4⟩ := hline _ (List.getElem_mem hat)
              exact Or.inr ⟨g1, g2, by show _ ≤ ls[at'.toNat].2.2 - 1 - k; omega, by show ls[at'.toNat].2.2 - 1 - k ≤ _; omega⟩
          · exact nt8.pr (nt7.pr (nt6.pr (((p4.trans p5).new nU).new nW))) |>.le (by omega)
        | false =>
          walk_at "go"
          refine g_len (K := K) (Or.inr (SqT.of hn2)) ?_
          rw [List.length_map]
          walk_at "go"
          refine ⟨m, c, g, _, _, rfl, p2.self, by omega, ⟨by omega, by omega⟩, fun at' H3 a0 a1 p3 => ?_⟩
          have k3 := p3.tk p2.self
          have hat : at'.toNat < ns.length := by omega
          walk_at "go"
          refine g_slA (k3 _ _ hn2) fun s1 H4 nt4 hs1 => ?_
          walk_at "go"
          have p4 : Pr m c g H H4 (B + 2) := nt4.pr ((p2.trans p3).le (by omega))
          refine g_tup' ?_
          walk_at "go"
          refine ⟨m, c, g, _, _, rfl, p4.self, by omega, ⟨by omega, by omega⟩, fun k H5 k0 k1' p5 => ?_⟩
          have k5 : Tk H4 H5 := p5.tk p4.self
          have k15 : Tk H2 H5 := k3.trans (nt4.tk.trans k5)
          walk_at "go"
          refine ⟨sz (by simp), fun W nW => ?_⟩
          have kW := Tk.new (o := .tup [.int k]) nW
          rw [cut_take _ a0] at hs1
          refine g_catA (K := K) ((k5.trans kW) _ _ hs1) upd_same (by rw [List.length_take, List.length_map]; simp; omega) fun s2 H6 nt6 hs2 => ?_
          walk_at "go"
          refine g_slA (nt6.tk _ _ (kW _ _ (k15 _ _ hn2))) fun s3 H7 nt7 hs3 => ?_
          rw [cut_drop _ (by omega), show (at' + 1).toNat = at'.toNat + 1 by omega] at hs3
          walk_at "go"
          refine g_catA (K := K) (nt7.tk _ _ hs2) hs3 (by simp only [List.length_append, List.length_take, List.length_drop, List.length_cons, List.length_nil, List.length_map]; omega) fun s4 H8 nt8 hs4 => ?_
          walk_at "go"
          have k8 : Tk H2 H8 := k15.trans (kW.trans (nt6.tk.trans (nt7.tk.trans nt8.tk)))
          refine hD' _ _ ⟨.ref s4, .ref la, ns.take at'.toNat ++ [some k] ++ ns.drop (at'.toNat + 1), ls, _, _, _, _, rfl, fz_notes ?_, Fz.tup (k8 _ _ hl2) (hr2.tk k8), cut_len _ _ _ hat, ?_, rfl, ?_⟩
          · rw [hs4, List.map_append, List.map_append, List.map_take, List.map_drop]; rfl
          · refine dok_notes dok0 (by omega) (cut_len _ _ _ hat) fun i hi => ?_
            rcases cut_mem hi with h | h
            · exact Or.inl h
            · have := Option.some.inj h
              subst this
              exact Or.inr ⟨k0, k1'⟩
          · exact nt8.pr (nt7.pr (nt6.pr ((p4.trans p5).new nW))) |>.le (by omega)
    · rintro σ' H' ⟨nv, lv, ns', ls', x7, x8, x9, x10, rfl, f1, f2, e1, dk, e2, p2⟩
      walk_at "go"
      refine g_tup' ?_
      walk_at "go"
      refine ⟨sz (by simp), fun p np => ?_⟩
      have k := Tk.new (o := .tup [.int cy, nv, lv, .non]) np
      refine q _ ⟨cy, ns', ls', none⟩ _ (book_mk upd_same (f1.tk k) (f2.tk k) .non) rfl e1 ⟨dk, by show ls'.length ≤ _; omega, fun xs h => by simp at h⟩ rfl (p2.new np)
end
end K05
set_option Elab.async false
set_option linter.all false
set_option maxRecDepth 100000
set_option maxHeartbeats 4000000
namespace K05
open PySem PySem.Spec PyProof.Rows L2 WL
local macro_rules | `(tactic| walk_at "side") => `(tactic| first | (show (_ ∧ _) ∨ (_ ∧ _); omega) | (exact ⟨by omega, by omega⟩) | (show (0 : Int) < _; omega) | omega)
local macro_rules | `(tactic| walk_at "go") => `(tactic| (repeat (first
  | with_reducible refine g_seq ?_ | with_reducible refine g_asgN ?_ | with_reducible refine g_ret ?_ | with_reducible refine g_drop ?_ | with_reducible refine g_ifS ?_ | with_reducible refine g_next ?_
  | with_reducible refine g_var rfl ?_ | with_reducible refine g_c ?_ | with_reducible refine g_op ?_ | with_reducible refine g_un ?_ | with_reducible refine g_rI0 ?_ | ((with_reducible refine g_rI ?_ ?_); next => walk_at "side") | with_reducible refine g_test ?_ | with_reducible refine g_bl ?_
  | with_reducible refine g_nil ?_ | with_reducible refine g_cons ?_ | with_reducible refine g_call ?_ | with_reducible refine g_cb ?_ | with_reducible refine g_if ?_ | with_reducible refine g_par ?_ | with_reducible refine g_two ?_
  | with_reducible refine g_asg ?_ | with_reducible refine g_name ?_ | with_reducible refine g_sub ?_ | with_reducible refine g_yes ?_ | with_reducible refine g_gcons ?_ | with_reducible refine g_gnil ?_ | with_reducible refine g_dget ?_ | with_reducible refine g_dput ?_ | with_reducible refine g_rng1 ?_ | with_reducible refine g_rng2 ?_
  | ((with_reducible refine g_one ?_ ?_); next => omega) | ((with_reducible refine g_twoI ?_ ?_); next => omega) | with_reducible refine g_isNon ?_ | with_reducible refine g_andV ?_ | with_reducible refine g_revT ?_ | with_reducible refine g_itup ?_ | with_reducible refine g_methK0 ?_ | with_reducible refine g_methS ?_ | with_reducible refine g_errF ?_ | with_reducible refine g_prop ?_ | with_reducible refine g_con ?_ | with_reducible refine g_make ?_ | with_reducible refine g_fld ?_ | with_reducible refine g_sfld ?_ | with_reducible refine g_iftn ?_ | with_reducible refine g_iffn ?_ | with_reducible refine g_orV ?_ | with_reducible refine g_notV ?_ | with_reducible refine g_tB ?_ | with_reducible refine g_chain ?_ | with_reducible refine g_neg ?_ | with_reducible refine g_cval ?_ | with_reducible refine g_enumT ?_ | with_reducible refine g_andT ?_ | with_reducible refine g_orT ?_ | with_reducible refine g_notT ?_ | with_reducible refine g_sl ?_ | with_reducible refine g_part ?_ | with_reducible refine g_parI ?_ | with_reducible refine g_noPart ?_ | with_reducible refine g_pcons ?_ | with_reducible refine g_pnil ?_ | with_reducible refine g_list ?_ | with_reducible refine g_lc ?_ | with_reducible refine g_for ?_ | with_reducible refine g_enum ?_ | with_reducible refine g_ift ?_ | with_reducible refine g_iff ?_ | with_reducible refine And.intro rfl ?_ | with_reducible refine g_notNon ?_)))
local macro_rules | `(tactic| walk_at "ex") => `(tactic| (repeat (first
  | with_reducible refine g_seqAsg ?_ | with_reducible refine g_seqFld ?_ | with_reducible refine g_seqDrop ?_ | with_reducible refine g_seqPut ?_ | with_reducible refine g_seqPar ?_ | with_reducible refine g_asgN ?_ | with_reducible refine g_ret ?_ | with_reducible refine g_drop ?_ | with_reducible refine g_next ?_
  | with_reducible refine g_var rfl ?_ | with_reducible refine g_c ?_ | with_reducible refine g_op ?_ | with_reducible refine g_un ?_ | with_reducible refine g_rI0 ?_ | ((with_reducible refine g_rI ?_ ?_); next => walk_at "side") | with_reducible refine g_test ?_ | with_reducible refine g_bl ?_
  | with_reducible refine g_nil ?_ | with_reducible refine g_cons ?_ | with_reducible refine g_call ?_ | with_reducible refine g_cb ?_ | with_reducible refine g_if ?_ | with_reducible refine g_par ?_ | with_reducible refine g_two ?_
  | with_reducible refine g_asg ?_ | with_reducible refine g_name ?_ | with_reducible refine g_sub ?_ | with_reducible refine g_yes ?_ | with_reducible refine g_gcons ?_ | with_reducible refine g_gnil ?_ | with_reducible refine g_dget ?_ | with_reducible refine g_dput ?_ | with_reducible refine g_rng1 ?_ | with_reducible refine g_rng2 ?_
  | ((with_reducible refine g_one ?_ ?_); next => omega) | ((with_reducible refine g_twoI ?_ ?_); next => omega) | with_reducible refine g_isNon ?_ | with_reducible refine g_andV ?_ | with_reducible refine g_revT ?_ | with_reducible refine g_itup ?_ | with_reducible refine g_methK0 ?_ | with_reducible refine g_methS ?_ | with_reducible refine g_errF ?_ | with_reducible refine g_prop ?_ | with_reducible refine g_con ?_ | with_reducible refine g_make ?_ | with_reducible refine g_fld ?_ | with_reducible refine g_sfld ?_ | with_reducible refine g_iftn ?_ | with_reducible refine g_iffn ?_ | with_reducible refine g_orV ?_ | with_reducible refine g_notV ?_ | with_reducible refine g_tB ?_ | with_reducible refine g_chain ?_ | with_reducible refine g_neg ?_ | with_reducible refine g_cval ?_ | with_reducible refine g_enumT ?_ | with_reducible refine g_proj ?_ | with_reducible refine g_andT ?_ | with_reducible refine g_orT ?_ | with_reducible refine g_notT ?_ | with_reducible refine g_sl ?_ | with_reducible refine g_part ?_ | with_reducible refine g_parI ?_ | with_reducible refine g_noPart ?_ | with_reducible refine g_pcons ?_ | with_reducible refine g_pnil ?_ | with_reducible refine g_list ?_ | with_reducible refine g_lc ?_ | with_reducible refine g_enum ?_ | with_reducible refine g_ift ?_ | with_reducible refine g_iff ?_ | with_reducible refine And.intro rfl ?_ | with_reducible refine g_notNon ?_)))
section
variable {P : Program} {w : World} {K : PySem.W.Frag} {mg : Str → Option Value} {base : Heap} {f : Addr} {fd : FuncData}
theorem sc_any : FnScope ["m", "peak", "cycle", "crowd", "book", "n"] ["m", "peak"] (defScope s_law_any_book) := ⟨rfl, rfl, rfl, by decide +kernel, rfl, by decide +kernel, by decide +kernel⟩
theorem ok_any (F : FnT K "_law_any_book" s_law_any_book f fd) (T : Blt mg) (hDraw : Has P w K mg base 2 "_law_draw" ["m", "top"] spDraw') (hBook : Has P w K mg base 4 "_law_book" ["m", "cycle", "crowd", "lines_most"] spBook) (hBent : Has P w K mg base 3 "_law_bent" ["m", "book"] spBent) : FnOk P w K mg base CX0 5 f fd ["m", "peak"] spAnyBook := by
  refine F.ok sc_any (fun vs H Q E h => ?_) (fun cdv A outer s H vs Q E hr h => ?_)
  · obtain ⟨m, c, g, B, peak, rfl, _⟩ := h
    rfl
  · obtain ⟨m, c, g, B, peak, rfl, hP, hB, hpk, q⟩ := h
    have sc := sc_any
    refine ⟨_, PSs.nox (pss_cons (ps_set (i := 2) sc.nd rfl (Or.inl rfl) (pe_ix ix_list (pe_lst (pa_cons pe_int (pa_cons pe_int (pa_cons pe_int (pa_cons pe_int (pa_cons pe_int (pa_cons pe_int (pa_cons pe_int (pa_cons pe_int pa_nil))))))))) (pe_has hDraw hr (by decide) (pa_cons (pv 0) (pa_cons pe_int pa_nil))) (fun _ _ => rfl)))
      (pss_cons (ps_set (i := 3) sc.nd rfl (Or.inl rfl) (pe_op op_add pe_int (pe_has hDraw hr (by decide) (pa_cons (pv 0) (pa_cons (pe_op op_sub (pv 1) pe_int) pa_nil)))))
      (pss_cons (ps_set (i := 4) sc.nd rfl (Or.inl rfl) (pe_has hBook hr (by decide) (pa_cons (pv 0) (pa_cons (pv 2) (pa_cons (pv 3) (pa_cons (pe_ix ix_list (pe_lst (pa_cons (pv 3) (pa_cons (pe_op op_mul pe_int (pv 3)) (pa_cons (pe_op op_mul pe_int (pv 3)) pa_nil)))) (pe_has hDraw hr (by decide) (pa_cons (pv 0) (pa_cons pe_int pa_nil))) (fun _ _ => rfl)) pa_nil))))))
      (pss_cons (ps_for PassesOwn.never rfl (pi_range1 (by rfl) T.range (pa_cons (pe_ix ix_list (pe_lst (pa_cons pe_int (pa_cons pe_int (pa_cons pe_int (pa_cons pe_int (pa_cons pe_int pa_nil)))))) (pe_has hDraw hr (by decide) (pa_cons (pv 0) (pa_cons pe_int pa_nil))) (fun _ _ => rfl)) pa_nil)) (pg_name (i := 5) sc.nd rfl (Or.inl rfl))
        (pss_one (ps_set (i := 4) sc.nd rfl (Or.inl rfl) (pe_has hBent hr (by decide) (pa_cons (pv 0) (pa_cons (pv 4) pa_nil))))))
      (pss_one (ps_ret (pv 4))))))), ?_⟩
    walk_at "ex"
    refine g_lst' ?_
    walk_at "ex"
    refine ⟨sz (by simp), fun p1 np1 => ?_⟩
    have P1 := hP.new (o := .lst [.int 2, .int 3, .int 7, .int 7, .int 7, .int 12, .int 60, .int 100]) np1
    obtain ⟨o1, _, o3⟩ := hP.ne np1 hP
    walk_at "ex"
    refine ⟨m, c, g, _, _, rfl, P1.self, by omega, ⟨by omega, by omega⟩, fun k1 H2 a1 b1 q2 => ?_⟩
    have P2 := P1.trans q2
    have pick : ∀ (Q : VK), (∀ cy : Int, 2 ≤ cy → cy ≤ 100 → Q (.int cy) H2) → rIxL K (.ref p1) (.int k1) H2 Q := fun Q hQ => by
      refine g_ixPick (SqL.of (q2.keep upd_same o1 o3)) a1 (by simpa using b1) fun v hv => ?_
      simp only [List.mem_cons, List.not_mem_nil, or_false] at hv
      rcases hv with rfl | rfl | rfl | rfl | rfl | rfl | rfl | rfl <;> exact hQ _ (by decide) (by decide)
    refine pick _ fun cy c2 c100 => ?_
    walk_at "ex"
    refine ⟨m, c, g, _, _, rfl, P2.self, by omega, ⟨by omega, by omega⟩, fun k2 H3 a2 b2 q3 => ?_⟩
    have P3 := P2.trans q3
    walk_at "ex"
    refine g_lst' ?_
    walk_at "ex"
    refine ⟨sz (by simp), fun p2 np2 => ?_⟩
    have P4 := P3.new (o := .lst [.int (2 + k2), .int (2 * (2 + k2)), .int (3 * (2 + k2))]) np2
    obtain ⟨u1, _, u3⟩ := P3.self.ne np2 P3.self
    walk_at "ex"
    refine ⟨m, c, g, _, _, rfl, P4.self, by omega, ⟨by omega, by omega⟩, fun k3 H5 a3 b3 q5 => ?_⟩
    have P5 := P4.trans q5
    have pick2 : ∀ (Q : VK), (∀ lm : Int, 0 ≤ lm → lm ≤ 48 → Q (.int lm) H5) → rIxL K (.ref p2) (.int k3) H5 Q := fun Q hQ => by
      refine g_ixPick (SqL.of (q5.keep upd_same u1 u3)) a3 (by simpa using b3) fun v hv => ?_
      simp only [List.mem_cons, List.not_mem_nil, or_false] at hv
      rcases hv with rfl | rfl | rfl <;> exact hQ _ (by omega) (by omega)
    refine pick2 _ fun lm l0 l48 => ?_
    walk_at "ex"
    refine ⟨m, c, g, _, cy, 2 + k2, lm, rfl, P5.self, by omega, ⟨c2, c100⟩, ⟨by omega, by omega⟩, ⟨by omega, by omega⟩, fun v b H6 f6 e6 l6 ok6 _ q6 => ?_⟩
    have P6 := P5.trans q6
    walk_at "go"
    refine g_lst' ?_
    walk_at "ex"
    refine ⟨sz (by simp), fun p3 np3 => ?_⟩
    have P7 := P6.new (o := .lst [.int 0, .int 0, .int 1, .int 1, .int 2]) np3
    obtain ⟨w1, _, w3⟩ := P6.self.ne np3 P6.self
    walk_at "ex"
    refine ⟨m, c, g, _, _, rfl, P7.self, by omega, ⟨by omega, by omega⟩, fun k4 H8 a4 b4 q8 => ?_⟩
    have P8 := P7.trans q8
    have k8 : Tk H6 H8 := (Tk.new np3).trans (q8.tk P7.self)
    have pick3 : ∀ (Q : VK), (∀ n : Int, 0 ≤ n → n ≤ 2 → Q (.int n) H8) → rIxL K (.ref p3) (.int k4) H8 Q := fun Q hQ => by
      refine g_ixPick (SqL.of (q8.keep upd_same w1 w3)) a4 (by simpa using b4) fun v hv => ?_
      simp only [List.mem_cons, List.not_mem_nil, or_false] at hv
      rcases hv with rfl | rfl | rfl | rfl | rfl <;> exact hQ _ (by decide) (by decide)
    refine pick3 _ fun n n0 n2 => ?_
    walk_at "go"
    refine ForQ.range (fun i σ H' => ∃ (v : V) (x : Option V) (b : Book), σ = [some (.ref m), some (.int peak), some (.int cy), some (.int (2 + k2)), some v, x] ∧ Fz H' v b.d ∧ b.notes.length = (2 + k2).toNat ∧ b.OK (1000 + 201 * i) 48 ∧ Pr m c g H H' (B + 410 + 3 * i)) ⟨_, _, _, rfl, f6.tk k8, l6, ok6.le (by omega) (by omega), P8.le (by omega)⟩ ?_ ?_
    · rintro i σ H9 hi ⟨v, x, b, rfl, f9, l9, ok9, P9⟩
      have hi2 : i < 2 := by omega
      walk_at "go"
      refine ⟨m, c, g, _, v, b, _, _, rfl, P9.self, by omega, f9, ok9, by omega, by omega, fun v' b' H10 f10 e10 l10 ok10 _ q10 => ?_⟩
      walk_at "go"
      exact ⟨_, _, _, rfl, f10, l10.trans l9, ok10.le (by omega) (by omega), (P9.trans q10).le (by omega)⟩
    · rintro σ H9 ⟨v, x, b, rfl, f9, l9, ok9, P9⟩
      have hn2 : n.toNat ≤ 2 := by omega
      walk_at "go"
      exact q v b H9 f9 (by omega) (ok9.le (by omega) (by omega)) (P9.le (by omega))
end
end K05
set_option Elab.async false
set_option linter.all false
set_option maxRecDepth 100000
set_option maxHeartbeats 4000000
namespace K05
open PySem PySem.Spec PyProof.Rows L2 WL
local macro_rules | `(tactic| walk_at "side") => `(tactic| first | (show (_ ∧ _) ∨ (_ ∧ _); omega) | (exact ⟨by omega, by omega⟩) | (show (0 : Int) < _; omega) | omega)
local macro_rules | `(tactic| walk_at "go") => `(tactic| (repeat (first
  | with_reducible refine g_seq ?_ | with_reducible refine g_asgN ?_ | with_reducible refine g_ret ?_ | with_reducible refine g_drop ?_ | with_reducible refine g_ifS ?_ | with_reducible refine g_next ?_
  | with_reducible refine g_var rfl ?_ | with_reducible refine g_c ?_ | with_reducible refine g_op ?_ | with_reducible refine g_un ?_ | with_reducible refine g_rI0 ?_ | ((with_reducible refine g_rI ?_ ?_); next => walk_at "side") | with_reducible refine g_test ?_ | with_reducible refine g_bl ?_
  | with_reducible refine g_nil ?_ | with_reducible refine g_cons ?_ | with_reducible refine g_call ?_ | with_reducible refine g_cb ?_ | with_reducible refine g_if ?_ | with_reducible refine g_par ?_ | with_reducible refine g_two ?_
  | with_reducible refine g_asg ?_ | with_reducible refine g_name ?_ | with_reducible refine g_sub ?_ | with_reducible refine g_yes ?_ | with_reducible refine g_gcons ?_ | with_reducible refine g_gnil ?_ | with_reducible refine g_dget ?_ | with_reducible refine g_dput ?_ | with_reducible refine g_rng1 ?_ | with_reducible refine g_rng2 ?_
  | ((with_reducible refine g_one ?_ ?_); next => omega) | ((with_reducible refine g_twoI ?_ ?_); next => omega) | with_reducible refine g_isNon ?_ | with_reducible refine g_andV ?_ | with_reducible refine g_revT ?_ | with_reducible refine g_itup ?_ | with_reducible refine g_methK0 ?_ | with_reducible refine g_methS ?_ | with_reducible refine g_errF ?_ | with_reducible refine g_prop ?_ | with_reducible refine g_con ?_ | with_reducible refine g_make ?_ | with_reducible refine g_fld ?_ | with_reducible refine g_sfld ?_ | with_reducible refine g_iftn ?_ | with_reducible refine g_iffn ?_ | with_reducible refine g_orV ?_ | with_reducible refine g_notV ?_ | with_reducible refine g_tB ?_ | with_reducible refine g_chain ?_ | with_reducible refine g_neg ?_ | with_reducible refine g_cval ?_ | with_reducible refine g_enumT ?_ | with_reducible refine g_andT ?_ | with_reducible refine g_orT ?_ | with_reducible refine g_notT ?_ | with_reducible refine g_sl ?_ | with_reducible refine g_part ?_ | with_reducible refine g_parI ?_ | with_reducible refine g_noPart ?_ | with_reducible refine g_pcons ?_ | with_reducible refine g_pnil ?_ | with_reducible refine g_list ?_ | with_reducible refine g_lc ?_ | with_reducible refine g_for ?_ | with_reducible refine g_enum ?_ | with_reducible refine g_ift ?_ | with_reducible refine g_iff ?_ | with_reducible refine And.intro rfl ?_ | with_reducible refine g_notNon ?_)))
local macro_rules | `(tactic| walk_at "ex") => `(tactic| (repeat (first
  | with_reducible refine g_seqAsg ?_ | with_reducible refine g_seqFld ?_ | with_reducible refine g_seqDrop ?_ | with_reducible refine g_seqPut ?_ | with_reducible refine g_seqPar ?_ | with_reducible refine g_asgN ?_ | with_reducible refine g_ret ?_ | with_reducible refine g_drop ?_ | with_reducible refine g_next ?_
  | with_reducible refine g_var rfl ?_ | with_reducible refine g_c ?_ | with_reducible refine g_op ?_ | with_reducible refine g_un ?_ | with_reducible refine g_rI0 ?_ | ((with_reducible refine g_rI ?_ ?_); next => walk_at "side") | with_reducible refine g_test ?_ | with_reducible refine g_bl ?_
  | with_reducible refine g_nil ?_ | with_reducible refine g_cons ?_ | with_reducible refine g_call ?_ | with_reducible refine g_cb ?_ | with_reducible refine g_if ?_ | with_reducible refine g_par ?_ | with_reducible refine g_two ?_
  | with_reducible refine g_asg ?_ | with_reducible refine g_name ?_ | with_reducible refine g_sub ?_ | with_reducible refine g_yes ?_ | with_reducible refine g_gcons ?_ | with_reducible refine g_gnil ?_ | with_reducible refine g_dget ?_ | with_reducible refine g_dput ?_ | with_reducible refine g_rng1 ?_ | with_reducible refine g_rng2 ?_
  | ((with_reducible refine g_one ?_ ?_); next => omega) | ((with_reducible refine g_twoI ?_ ?_); next => omega) | with_reducible refine g_isNon ?_ | with_reducible refine g_andV ?_ | with_reducible refine g_revT ?_ | with_reducible refine g_itup ?_ | with_reducible refine g_methK0 ?_ | with_reducible refine g_methS ?_ | with_reducible refine g_errF ?_ | with_reducible refine g_prop ?_ | with_reducible refine g_con ?_ | with_reducible refine g_make ?_ | with_reducible refine g_fld ?_ | with_reducible refine g_sfld ?_ | with_reducible refine g_iftn ?_ | with_reducible refine g_iffn ?_ | with_reducible refine g_orV ?_ | with_reducible refine g_notV ?_ | with_reducible refine g_tB ?_ | with_reducible refine g_chain ?_ | with_reducible refine g_neg ?_ | with_reducible refine g_cval ?_ | with_reducible refine g_enumT ?_ | with_reducible refine g_proj ?_ | with_reducible refine g_andT ?_ | with_reducible refine g_orT ?_ | with_reducible refine g_notT ?_ | with_reducible refine g_sl ?_ | with_reducible refine g_part ?_ | with_reducible refine g_parI ?_ | with_reducible refine g_noPart ?_ | with_reducible refine g_pcons ?_ | with_reducible refine g_pnil ?_ | with_reducible refine g_list ?_ | with_reducible refine g_lc ?_ | with_reducible refine g_enum ?_ | with_reducible refine g_ift ?_ | with_reducible refine g_iff ?_ | with_reducible refine And.intro rfl ?_ | with_reducible refine g_notNon ?_)))
section
variable {P : Program} {w : World} {K : PySem.W.Frag} {mg : Str → Option Value} {base : Heap} {f : Addr} {fd : FuncData}
def spDoubled (K : PySem.W.Frag) : Sp := fun vs H Q _ => ∃ k : Int, vs = [.int k] ∧ (k = 0 ∨ k = 1) ∧ ∀ (a : Addr) (H' : Hp) (sh : Sh), AnS K H' (.ref a) sh → (∀ b o, H b = some o → H' b = some o) → H a = none → Q (.ref a) H'
theorem sc_doubled : FnScope ["kind", "found", "n"] ["kind"] (defScope s_law_doubled) := ⟨rfl, rfl, rfl, by decide +kernel, rfl, by decide +kernel, by decide +kernel⟩
theorem ok_doubled (F : FnT K "_law_doubled" s_law_doubled f fd) (T : Blt mg) : FnOk P w K mg base CX0 1 f fd ["kind"] (spDoubled K) := by
  refine F.ok sc_doubled (fun vs H Q E h => ?_) (fun cdv A outer s H vs Q E hr h => ?_)
  · obtain ⟨k, rfl, _⟩ := h
    rfl
  · obtain ⟨k, rfl, hk, q⟩ := h
    have sc := sc_doubled
    refine ⟨_, PSs.nox (pss_cons (ps_set (i := 1) sc.nd rfl (Or.inl rfl) (pe_tup pa_nil))
      (pss_cons (ps_for PassesOwn.never rfl (pi_range1 (by rfl) T.range (pa_cons pe_int pa_nil)) (pg_name (i := 2) sc.nd rfl (Or.inl rfl))
        (pss_one (ps_set (i := 1) sc.nd rfl (Or.inl rfl) (pe_ix ix_list (pe_lst (pa_cons (pe_tup (pa_cons (pv 1) (pa_cons (pv 1) pa_nil))) (pa_cons (pe_lst (pa_cons (pv 1) (pa_cons (pv 1) pa_nil))) pa_nil))) (pv 0) (fun _ _ => rfl)))))
      (pss_one (ps_ret (pv 1))))), ?_⟩
    walk_at "go"
    refine g_tup' ?_
    walk_at "go"
    refine ⟨sz (by simp), fun p np => ?_⟩
    walk_at "go"
    have same_new : ∀ {H1 : Hp} {p : Addr} {o : HO}, H1 p = none → (∀ b o, H b = some o → H1 b = some o) → ∀ b u, H b = some u → upd H1 p o b = some u := fun n h b u hb => by rw [upd_ne (ne_of_none (h _ _ hb) n)]; exact h _ _ hb
    have none_new : ∀ {H1 : Hp} {p : Addr}, H1 p = none → (∀ b o, H b = some o → H1 b = some o) → H p = none := fun {H1 p} n h => by
      cases e : H p with
      | none => rfl
      | some o => rw [h _ _ e] at n; exact absurd n (by simp)
    refine ForQ.range (fun i σ H' => ∃ (a : Addr) (x : Option V) (sh : Sh), σ = [some (.int k), some (.ref a), x] ∧ AnS K H' (.ref a) sh ∧ (∀ b o, H b = some o → H' b = some o) ∧ H a = none) ⟨p, _, .tup [], rfl, .tup (SqT.of upd_same) .nil, same_new np (fun _ _ h => h), np⟩ ?_ ?_
    · rintro i σ H1 hi ⟨a, x, sh, rfl, h1, s1, n1⟩
      walk_at "go"
      refine g_lst' ?_
      walk_at "go"
      refine g_tup' ?_
      walk_at "go"
      refine ⟨sz (by simp), fun p2 np2 => ?_⟩
      refine g_lst' ?_
      walk_at "go"
      refine ⟨sz (by simp), fun p3 np3 => ?_⟩
      walk_at "go"
      refine ⟨sz (by simp), fun p4 np4 => ?_⟩
      have s2 := same_new (o := .tup [.ref a, .ref a]) np2 s1
      have s3 := same_new (o := .lst [.ref a, .ref a]) np3 s2
      have s4 := same_new (o := .lst [.ref p2, .ref p3]) np4 s3
      have n23 : p2 ≠ p3 := ne_of_none upd_same np3
      have n24 : p2 ≠ p4 := ne_of_none (by rw [upd_ne n23]; exact upd_same) np4
      have n34 : p3 ≠ p4 := ne_of_none upd_same np4
      walk_at "go"
      rcases hk with rfl | rfl
      · refine g_ixL (K := K) (xs := [.ref p2, .ref p3]) (v := .ref p2) (SqL.of upd_same) rfl ?_
        walk_at "go"
        have sH : ∀ b o, H1 b = some o → upd (upd (upd H1 p2 (.tup [.ref a, .ref a])) p3 (.lst [.ref a, .ref a])) p4 (.lst [.ref p2, .ref p3]) b = some o := fun b o h => by
          rw [upd_ne (ne_of_none (by rw [upd_ne (ne_of_none (by rw [upd_ne (ne_of_none h np2)]; exact h) np3), upd_ne (ne_of_none h np2)]; exact h) np4), upd_ne (ne_of_none (by rw [upd_ne (ne_of_none h np2)]; exact h) np3), upd_ne (ne_of_none h np2)]; exact h
        exact ⟨p2, _, .tup [sh, sh], rfl, .tup (SqT.of (by rw [upd_ne n24, upd_ne n23]; exact upd_same)) (.cons (h1.same sH) (.cons (h1.same sH) .nil)), s4, none_new np2 s1⟩
      · refine g_ixL (K := K) (xs := [.ref p2, .ref p3]) (v := .ref p3) (SqL.of upd_same) rfl ?_
        walk_at "go"
        exact ⟨p3, _, .lst, rfl, .lst (SqL.of (by rw [upd_ne n34]; exact upd_same)), s4, none_new np3 s2⟩
    · rintro σ H1 ⟨a, x, sh, rfl, h1, s1, n1⟩
      walk_at "go"
      exact q a H1 sh h1 s1 n1
end
end K05
set_option Elab.async false
set_option linter.all false
set_option maxRecDepth 100000
set_option maxHeartbeats 4000000
namespace K05
open PySem PySem.Spec PyProof.Rows L2 WL
local macro_rules | `(tactic| walk_at "side") => `(tactic| first | (show (_ ∧ _) ∨ (_ ∧ _); omega) | (exact ⟨by omega, by omega⟩) | (show (0 : Int) < _; omega) | omega)
local macro_rules | `(tactic| walk_at "go") => `(tactic| (repeat (first
  | with_reducible refine g_seq ?_ | with_reducible refine g_asgN ?_ | with_reducible refine g_ret ?_ | with_reducible refine g_drop ?_ | with_reducible refine g_ifS ?_ | with_reducible refine g_next ?_
  | with_reducible refine g_var rfl ?_ | with_reducible refine g_c ?_ | with_reducible refine g_op ?_ | with_reducible refine g_un ?_ | with_reducible refine g_rI0 ?_ | ((with_reducible refine g_rI ?_ ?_); next => walk_at "side") | with_reducible refine g_test ?_ | with_reducible refine g_bl ?_
  | with_reducible refine g_nil ?_ | with_reducible refine g_cons ?_ | with_reducible refine g_call ?_ | with_reducible refine g_cb ?_ | with_reducible refine g_if ?_ | with_reducible refine g_par ?_ | with_reducible refine g_two ?_
  | with_reducible refine g_asg ?_ | with_reducible refine g_name ?_ | with_reducible refine g_sub ?_ | with_reducible refine g_yes ?_ | with_reducible refine g_gcons ?_ | with_reducible refine g_gnil ?_ | with_reducible refine g_dget ?_ | with_reducible refine g_dput ?_ | with_reducible refine g_rng1 ?_ | with_reducible refine g_rng2 ?_
  | ((with_reducible refine g_one ?_ ?_); next => omega) | ((with_reducible refine g_twoI ?_ ?_); next => omega) | with_reducible refine g_isNon ?_ | with_reducible refine g_andV ?_ | with_reducible refine g_revT ?_ | with_reducible refine g_itup ?_ | with_reducible refine g_methK0 ?_ | with_reducible refine g_methS ?_ | with_reducible refine g_errF ?_ | with_reducible refine g_prop ?_ | with_reducible refine g_con ?_ | with_reducible refine g_make ?_ | with_reducible refine g_fld ?_ | with_reducible refine g_sfld ?_ | with_reducible refine g_iftn ?_ | with_reducible refine g_iffn ?_ | with_reducible refine g_orV ?_ | with_reducible refine g_notV ?_ | with_reducible refine g_tB ?_ | with_reducible refine g_chain ?_ | with_reducible refine g_neg ?_ | with_reducible refine g_cval ?_ | with_reducible refine g_enumT ?_ | with_reducible refine g_andT ?_ | with_reducible refine g_orT ?_ | with_reducible refine g_notT ?_ | with_reducible refine g_sl ?_ | with_reducible refine g_part ?_ | with_reducible refine g_parI ?_ | with_reducible refine g_noPart ?_ | with_reducible refine g_pcons ?_ | with_reducible refine g_pnil ?_ | with_reducible refine g_list ?_ | with_reducible refine g_lc ?_ | with_reducible refine g_for ?_ | with_reducible refine g_enum ?_ | with_reducible refine g_ift ?_ | with_reducible refine g_iff ?_ | with_reducible refine And.intro rfl ?_ | with_reducible refine g_notNon ?_)))
local macro_rules | `(tactic| walk_at "ex") => `(tactic| (repeat (first
  | with_reducible refine g_seqAsg ?_ | with_reducible refine g_seqFld ?_ | with_reducible refine g_seqDrop ?_ | with_reducible refine g_seqPut ?_ | with_reducible refine g_seqPar ?_ | with_reducible refine g_asgN ?_ | with_reducible refine g_ret ?_ | with_reducible refine g_drop ?_ | with_reducible refine g_next ?_
  | with_reducible refine g_var rfl ?_ | with_reducible refine g_c ?_ | with_reducible refine g_op ?_ | with_reducible refine g_un ?_ | with_reducible refine g_rI0 ?_ | ((with_reducible refine g_rI ?_ ?_); next => walk_at "side") | with_reducible refine g_test ?_ | with_reducible refine g_bl ?_
  | with_reducible refine g_nil ?_ | with_reducible refine g_cons ?_ | with_reducible refine g_call ?_ | with_reducible refine g_cb ?_ | with_reducible refine g_if ?_ | with_reducible refine g_par ?_ | with_reducible refine g_two ?_
  | with_reducible refine g_asg ?_ | with_reducible refine g_name ?_ | with_reducible refine g_sub ?_ | with_reducible refine g_yes ?_ | with_reducible refine g_gcons ?_ | with_reducible refine g_gnil ?_ | with_reducible refine g_dget ?_ | with_reducible refine g_dput ?_ | with_reducible refine g_rng1 ?_ | with_reducible refine g_rng2 ?_
  | ((with_reducible refine g_one ?_ ?_); next => omega) | ((with_reducible refine g_twoI ?_ ?_); next => omega) | with_reducible refine g_isNon ?_ | with_reducible refine g_andV ?_ | with_reducible refine g_revT ?_ | with_reducible refine g_itup ?_ | with_reducible refine g_methK0 ?_ | with_reducible refine g_methS ?_ | with_reducible refine g_errF ?_ | with_reducible refine g_prop ?_ | with_reducible refine g_con ?_ | with_reducible refine g_make ?_ | with_reducible refine g_fld ?_ | with_reducible refine g_sfld ?_ | with_reducible refine g_iftn ?_ | with_reducible refine g_iffn ?_ | with_reducible refine g_orV ?_ | with_reducible refine g_notV ?_ | with_reducible refine g_tB ?_ | with_reducible refine g_chain ?_ | with_reducible refine g_neg ?_ | with_reducible refine g_cval ?_ | with_reducible refine g_enumT ?_ | with_reducible refine g_proj ?_ | with_reducible refine g_andT ?_ | with_reducible refine g_orT ?_ | with_reducible refine g_notT ?_ | with_reducible refine g_sl ?_ | with_reducible refine g_part ?_ | with_reducible refine g_parI ?_ | with_reducible refine g_noPart ?_ | with_reducible refine g_pcons ?_ | with_reducible refine g_pnil ?_ | with_reducible refine g_list ?_ | with_reducible refine g_lc ?_ | with_reducible refine g_enum ?_ | with_reducible refine g_ift ?_ | with_reducible refine g_iff ?_ | with_reducible refine And.intro rfl ?_ | with_reducible refine g_notNon ?_)))
section
variable {P : Program} {w : World} {K : PySem.W.Frag} {mg : Str → Option Value} {base : Heap} {f : Addr} {fd : FuncData} {DC : Addr}
theorem sc_num : FnScope ["value"] ["value"] (defScope s_is_number) := ⟨rfl, rfl, rfl, by decide +kernel, rfl, by decide +kernel, by decide +kernel⟩
theorem ok_num (F : FnT K "is_number" s_is_number f fd) (T : Blt mg) : FnOk P w K mg base CX0 1 f fd ["value"] (spNum K) := by
  refine F.ok sc_num (fun vs H Q E h => ?_) (fun cdv A outer s H vs Q E hr h => ?_)
  · obtain ⟨x, t, rfl, _⟩ := h
    rfl
  · obtain ⟨x, t, rfl, ht, q⟩ := h
    have sc := sc_num
    refine ⟨_, PSs.nox (pss_one (ps_ret (pe_and (pe_callB call_isi (by rfl) T.isinstance (by decide +kernel) (pa_cons (pv 0) (pa_cons (pe_bltn (v := .ty "int") (by rfl) T.int (by decide +kernel) rfl) pa_nil))) (pe_one (pe_not (pe_callB call_isi (by rfl) T.isinstance (by decide +kernel) (pa_cons (pv 0) (pa_cons (pe_bltn (v := .ty "bool") (by rfl) T.bool (by decide +kernel) rfl) pa_nil)))))))), ?_⟩
    walk_at "go"
    refine g_isi (K := K) ht (isi_int K t) ?_
    cases t <;> first | exact g_bl (g_iff q) | (refine g_bl (g_ift ?_); walk_at "go"; refine g_isi (K := K) ht (isi_bool K _) ?_; exact g_bl q)
theorem sc_within : FnScope ["value", "low", "high"] ["value", "low", "high"] (defScope s_is_within) := ⟨rfl, rfl, rfl, by decide +kernel, rfl, by decide +kernel, by decide +kernel⟩
theorem ok_within (F : FnT K "is_within" s_is_within f fd) (hNum : Has P w K mg base 1 "is_number" ["value"] (spNum K)) : FnOk P w K mg base CX0 2 f fd ["value", "low", "high"] (spWithin K) := by
  refine F.ok sc_within (fun vs H Q E h => ?_) (fun cdv A outer s H vs Q E hr h => ?_)
  · obtain ⟨x, t, lo, hi, rfl, _⟩ := h
    rfl
  · obtain ⟨x, t, lo, hi, rfl, ht, q⟩ := h
    have sc := sc_within
    refine ⟨_, PSs.nox (pss_one (ps_ret (pe_and (pe_has hNum hr (by decide) (pa_cons (pv 0) pa_nil)) (pe_one (pe_chain op_le op_le (pv 1) (pv 0) (pv 2)))))), ?_⟩
    walk_at "go"
    refine ⟨_, t, rfl, ht, ?_⟩
    cases ht with
    | int i => 
      refine g_bl (g_ift ?_)
      walk_at "go"
      cases hb : decide (lo ≤ i) with
      | true =>
        walk_at "go"
        have e : Sh.within lo hi (.int i) = decide (i ≤ hi) := by show (decide (lo ≤ i) && decide (i ≤ hi)) = _; rw [hb, Bool.true_and]
        rw [e] at q
        exact q
      | false =>
        have e : Sh.within lo hi (.int i) = false := by show (decide (lo ≤ i) && decide (i ≤ hi)) = _; rw [hb, Bool.false_and]
        rw [e] at q
        exact g_iff q
    | _ => exact g_bl (g_iff q)
theorem sc_tupOf : FnScope ["value", "low", "high"] ["value", "low", "high"] (defScope s_is_tuple_of) := ⟨rfl, rfl, rfl, by decide +kernel, rfl, by decide +kernel, by decide +kernel⟩
theorem ok_tupOf (F : FnT K "is_tuple_of" s_is_tuple_of f fd) (T : Blt mg) : FnOk P w K mg base CX0 1 f fd ["value", "low", "high"] (spTupOf K) := by
  refine F.ok sc_tupOf (fun vs H Q E h => ?_) (fun cdv A outer s H vs Q E hr h => ?_)
  · obtain ⟨x, t, lo, hi, rfl, _⟩ := h
    rfl
  · obtain ⟨x, t, lo, hi, rfl, ht, q⟩ := h
    have sc := sc_tupOf
    refine ⟨_, PSs.nox (pss_one (ps_ret (pe_and (pe_callB call_isi (by rfl) T.isinstance (by decide +kernel) (pa_cons (pv 0) (pa_cons (pe_bltn (v := .ty "tuple") (by rfl) T.tuple (by decide +kernel) rfl) pa_nil))) (pe_one (pe_chain op_le op_le (pv 1) (pe_callB call_len_seq (by rfl) T.len PySem.boot_len (pa_cons (pv 0) pa_nil)) (pv 2)))))), ?_⟩
    walk_at "go"
    refine g_isi (K := K) ht (isi_tup K t) ?_
    cases ht with
    | @tup a xs ss h1 h2 =>
      refine g_bl (g_ift ?_)
      walk_at "go"
      refine g_len (K := K) (Or.inr h1) ?_
      rw [h2.length]
      walk_at "go"
      cases hb : decide (lo ≤ (ss.length : Int)) with
      | true =>
        walk_at "go"
        have e : Sh.sized lo hi (.tup ss) = decide ((ss.length : Int) ≤ hi) := by show (decide (lo ≤ (ss.length : Int)) && decide ((ss.length : Int) ≤ hi)) = _; rw [hb, Bool.true_and]
        rw [e] at q
        exact q
      | false =>
        have e : Sh.sized lo hi (.tup ss) = false := by show (decide (lo ≤ (ss.length : Int)) && decide ((ss.length : Int) ≤ hi)) = _; rw [hb, Bool.false_and]
        rw [e] at q
        exact g_iff q
    | _ => exact g_bl (g_iff q)
end
end K05
set_option Elab.async false
set_option linter.all false
set_option maxRecDepth 100000
set_option maxHeartbeats 4000000
namespace K05
open PySem PySem.Spec PyProof.Rows L2 WL
local macro_rules | `(tactic| walk_at "side") => `(tactic| first | (show (_ ∧ _) ∨ (_ ∧ _); omega) | (exact ⟨by omega, by omega⟩) | (show (0 : Int) < _; omega) | omega)
local macro_rules | `(tactic| walk_at "go") => `(tactic| (repeat (first
  | with_reducible refine g_seq ?_ | with_reducible refine g_asgN ?_ | with_reducible refine g_ret ?_ | with_reducible refine g_drop ?_ | with_reducible refine g_ifS ?_ | with_reducible refine g_next ?_
  | with_reducible refine g_var rfl ?_ | with_reducible refine g_c ?_ | with_reducible refine g_op ?_ | with_reducible refine g_un ?_ | with_reducible refine g_rI0 ?_ | ((with_reducible refine g_rI ?_ ?_); next => walk_at "side") | with_reducible refine g_test ?_ | with_reducible refine g_bl ?_
  | with_reducible refine g_nil ?_ | with_reducible refine g_cons ?_ | with_reducible refine g_call ?_ | with_reducible refine g_cb ?_ | with_reducible refine g_if ?_ | with_reducible refine g_par ?_ | with_reducible refine g_two ?_
  | with_reducible refine g_asg ?_ | with_reducible refine g_name ?_ | with_reducible refine g_sub ?_ | with_reducible refine g_yes ?_ | with_reducible refine g_gcons ?_ | with_reducible refine g_gnil ?_ | with_reducible refine g_dget ?_ | with_reducible refine g_dput ?_ | with_reducible refine g_rng1 ?_ | with_reducible refine g_rng2 ?_
  | ((with_reducible refine g_one ?_ ?_); next => omega) | ((with_reducible refine g_twoI ?_ ?_); next => omega) | with_reducible refine g_isNon ?_ | with_reducible refine g_andV ?_ | with_reducible refine g_revT ?_ | with_reducible refine g_itup ?_ | with_reducible refine g_methK0 ?_ | with_reducible refine g_methS ?_ | with_reducible refine g_errF ?_ | with_reducible refine g_prop ?_ | with_reducible refine g_con ?_ | with_reducible refine g_make ?_ | with_reducible refine g_fld ?_ | with_reducible refine g_sfld ?_ | with_reducible refine g_iftn ?_ | with_reducible refine g_iffn ?_ | with_reducible refine g_orV ?_ | with_reducible refine g_notV ?_ | with_reducible refine g_tB ?_ | with_reducible refine g_chain ?_ | with_reducible refine g_neg ?_ | with_reducible refine g_cval ?_ | with_reducible refine g_enumT ?_ | with_reducible refine g_andT ?_ | with_reducible refine g_orT ?_ | with_reducible refine g_notT ?_ | with_reducible refine g_sl ?_ | with_reducible refine g_part ?_ | with_reducible refine g_parI ?_ | with_reducible refine g_noPart ?_ | with_reducible refine g_pcons ?_ | with_reducible refine g_pnil ?_ | with_reducible refine g_list ?_ | with_reducible refine g_lc ?_ | with_reducible refine g_for ?_ | with_reducible refine g_enum ?_ | with_reducible refine g_ift ?_ | with_reducible refine g_iff ?_ | with_reducible refine And.intro rfl ?_ | with_reducible refine g_notNon ?_)))
local macro_rules | `(tactic| walk_at "ex") => `(tactic| (repeat (first
  | with_reducible refine g_seqAsg ?_ | with_reducible refine g_seqFld ?_ | with_reducible refine g_seqDrop ?_ | with_reducible refine g_seqPut ?_ | with_reducible refine g_seqPar ?_ | with_reducible refine g_asgN ?_ | with_reducible refine g_ret ?_ | with_reducible refine g_drop ?_ | with_reducible refine g_next ?_
  | with_reducible refine g_var rfl ?_ | with_reducible refine g_c ?_ | with_reducible refine g_op ?_ | with_reducible refine g_un ?_ | with_reducible refine g_rI0 ?_ | ((with_reducible refine g_rI ?_ ?_); next => walk_at "side") | with_reducible refine g_test ?_ | with_reducible refine g_bl ?_
  | with_reducible refine g_nil ?_ | with_reducible refine g_cons ?_ | with_reducible refine g_call ?_ | with_reducible refine g_cb ?_ | with_reducible refine g_if ?_ | with_reducible refine g_par ?_ | with_reducible refine g_two ?_
  | with_reducible refine g_asg ?_ | with_reducible refine g_name ?_ | with_reducible refine g_sub ?_ | with_reducible refine g_yes ?_ | with_reducible refine g_gcons ?_ | with_reducible refine g_gnil ?_ | with_reducible refine g_dget ?_ | with_reducible refine g_dput ?_ | with_reducible refine g_rng1 ?_ | with_reducible refine g_rng2 ?_
  | ((with_reducible refine g_one ?_ ?_); next => omega) | ((with_reducible refine g_twoI ?_ ?_); next => omega) | with_reducible refine g_isNon ?_ | with_reducible refine g_andV ?_ | with_reducible refine g_revT ?_ | with_reducible refine g_itup ?_ | with_reducible refine g_methK0 ?_ | with_reducible refine g_methS ?_ | with_reducible refine g_errF ?_ | with_reducible refine g_prop ?_ | with_reducible refine g_con ?_ | with_reducible refine g_make ?_ | with_reducible refine g_fld ?_ | with_reducible refine g_sfld ?_ | with_reducible refine g_iftn ?_ | with_reducible refine g_iffn ?_ | with_reducible refine g_orV ?_ | with_reducible refine g_notV ?_ | with_reducible refine g_tB ?_ | with_reducible refine g_chain ?_ | with_reducible refine g_neg ?_ | with_reducible refine g_cval ?_ | with_reducible refine g_enumT ?_ | with_reducible refine g_proj ?_ | with_reducible refine g_andT ?_ | with_reducible refine g_orT ?_ | with_reducible refine g_notT ?_ | with_reducible refine g_sl ?_ | with_reducible refine g_part ?_ | with_reducible refine g_parI ?_ | with_reducible refine g_noPart ?_ | with_reducible refine g_pcons ?_ | with_reducible refine g_pnil ?_ | with_reducible refine g_list ?_ | with_reducible refine g_lc ?_ | with_reducible refine g_enum ?_ | with_reducible refine g_ift ?_ | with_reducible refine g_iff ?_ | with_reducible refine And.intro rfl ?_ | with_reducible refine g_notNon ?_)))
section
variable {P : Program} {w : World} {K : PySem.W.Frag} {mg : Str → Option Value} {base : Heap} {f : Addr} {fd : FuncData} {DC : Addr}
theorem sc_bound : FnScope ["value", "many", "first", "last", "most"] ["value", "many"] (defScope s_is_bound) := ⟨rfl, rfl, rfl, by decide +kernel, rfl, by decide +kernel, by decide +kernel⟩
theorem ok_bound (F : FnT K "is_bound" s_is_bound f fd) (D : Dia K mg DC) (hTupOf : Has P w K mg base 1 "is_tuple_of" ["value", "low", "high"] (spTupOf K)) (hWithin : Has P w K mg base 2 "is_within" ["value", "low", "high"] (spWithin K)) : FnOk P w K mg base CX0 3 f fd ["value", "many"] (spBound K) := by
  refine F.ok sc_bound (fun vs H Q E h => ?_) (fun cdv A outer s H vs Q E hr h => ?_)
  · obtain ⟨x, t, many, rfl, _⟩ := h
    rfl
  · obtain ⟨x, t, many, rfl, ht, q⟩ := h
    have sc := sc_bound
    refine ⟨_, PSs.nox (pss_cons (ps_if (pt_not (pt_val (pe_has hTupOf hr (by decide) (pa_cons (pv 0) (pa_cons pe_int (pa_cons pe_int pa_nil))))))
        (pss_one (ps_ret pe_bl))
        pss_nil)
      (pss_cons (ps_asg (pv 0) (pg_tup rfl (pgs_cons (pg_name (i := 2) sc.nd rfl (Or.inl rfl)) (pgs_cons (pg_name (i := 3) sc.nd rfl (Or.inl rfl)) (pgs_cons (pg_name (i := 4) sc.nd rfl (Or.inl rfl)) pgs_nil)))))
      (pss_one (ps_ret (pe_and (pe_has hWithin hr (by decide) (pa_cons (pv 2) (pa_cons pe_int (pa_cons (pe_op op_sub (pv 1) pe_int) pa_nil)))) (pe_and (pe_has hWithin hr (by decide) (pa_cons (pv 3) (pa_cons pe_int (pa_cons (pe_op op_sub (pv 1) pe_int) pa_nil)))) (pe_one (pe_has hWithin hr (by decide) (pa_cons (pv 4) (pa_cons (pe_un un_neg (ClX.pe_cval (pe_ref D.at_))) (pa_cons (ClX.pe_cval (pe_ref D.at_)) pa_nil))))))))))), ?_⟩
    walk_at "go"
    refine ⟨_, t, _, _, rfl, ht, ?_⟩
    cases hz : t.sized 3 3 with
    | false =>
      have e : t.bound many = false := by
        unfold Sh.bound
        split
        · exact absurd (show true = false from hz) (by decide)
        · rfl
      rw [e] at q
      exact g_bl (g_ift (g_ret q))
    | true =>
      refine g_bl (g_iff (g_next ?_))
      cases ht with
      | @tup a xs ss h1 h2 =>
        obtain ⟨s1, s2, s3, rfl⟩ : ∃ s1 s2 s3, ss = [s1, s2, s3] := by
          have hl : ss.length = 3 := by
            have : (decide ((3 : Int) ≤ ss.length) && decide ((ss.length : Int) ≤ 3)) = true := hz
            simp only [Bool.and_eq_true, decide_eq_true_eq] at this
            omega
          match ss, hl with
          | [s1, s2, s3], _ => exact ⟨s1, s2, s3, rfl⟩
        cases h2 with
        | @cons x1 _ _ _ i1 h2 => cases h2 with
          | @cons x2 _ _ _ i2 h2 => cases h2 with
            | @cons x3 _ _ _ i3 h2 =>
              cases h2
              walk_at "go"
              refine g_tupg h1 rfl ?_
              walk_at "go"
              refine ⟨x1, s1, _, _, rfl, i1, ?_⟩
              have e : Sh.bound many (.tup [s1, s2, s3]) = (s1.within 0 (many - 1) && s2.within 0 (many - 1) && s3.within (-1000000000) 1000000000) := rfl
              rw [e] at q
              cases hb1 : s1.within 0 (many - 1) with
              | false => rw [hb1] at q; exact g_bl (g_iff q)
              | true =>
                rw [hb1, Bool.true_and] at q
                refine g_bl (g_ift ?_)
                walk_at "go"
                refine ⟨x2, s2, _, _, rfl, i2, ?_⟩
                cases hb2 : s2.within 0 (many - 1) with
                | false => rw [hb2] at q; exact g_bl (g_iff q)
                | true =>
                  rw [hb2, Bool.true_and] at q
                  refine g_bl (g_ift ?_)
                  walk_at "go"
                  refine D.days ?_
                  walk_at "go"
                  refine D.days ?_
                  walk_at "go"
                  exact ⟨x3, s3, _, _, rfl, i3, q⟩
      | _ => exact absurd (show false = true from hz) (by decide)
theorem sc_wf : FnScope ["modulus", "weekdays", "item", "weekday"] ["modulus", "weekdays"] (defScope s_weekdays_fault) := ⟨rfl, rfl, rfl, by decide +kernel, rfl, by decide +kernel, by decide +kernel⟩
theorem ok_wf (F : FnT K "weekdays_fault" s_weekdays_fault f fd) (T : Blt mg) (D : Dia K mg DC) (hTupOf : Has P w K mg base 1 "is_tuple_of" ["value", "low", "high"] (spTupOf K)) (hWithin : Has P w K mg base 2 "is_within" ["value", "low", "high"] (spWithin K)) : FnOk P w K mg base CX0 3 f fd ["modulus", "weekdays"] (spRowF K (fun x c => [c, x]) "weekdays" 1 16 Sh.note) := by
  refine F.ok sc_wf (fun vs H Q E h => ?_) (fun cdv A outer s H vs Q E hr h => ?_)
  · obtain ⟨x, t, c, rfl, _⟩ := h
    rfl
  · obtain ⟨x, t, c, rfl, ht, q1, q2⟩ := h
    have sc := sc_wf
    refine ⟨_, PSs.nox (pss_cons (ps_if (pt_not (pt_val (pe_has hTupOf hr (by decide) (pa_cons (pv 1) (pa_cons pe_int (pa_cons (ClX.pe_cval (pe_ref D.at_)) pa_nil))))))
        (pss_one (ps_ret (pe_tup (pa_cons pe_str (pa_cons pe_non pa_nil)))))
        pss_nil)
      (pss_cons (ps_for PassesOwn.never rfl (pi_enumT (by rfl) T.enumerate (pa_cons (pv 1) pa_nil)) (pg_tup rfl (pgs_cons (pg_name (i := 2) sc.nd rfl (Or.inl rfl)) (pgs_cons (pg_name (i := 3) sc.nd rfl (Or.inl rfl)) pgs_nil)))
        (pss_one (ps_if (PW.pt (pw_and (pt_cmpR op_notN (pv 3) pe_non (nomark _)) (pw_and1 (pt_not (pt_val (pe_has hWithin hr (by decide) (pa_cons (pv 3) (pa_cons pe_int (pa_cons (pe_op op_sub (pv 0) pe_int) pa_nil)))))))))
          (pss_one (ps_ret (pe_tup (pa_cons pe_str (pa_cons (pv 2) pa_nil)))))
          pss_nil)))
      (pss_one (ps_ret pe_non)))), ?_⟩
    walk_at "go"
    refine D.events ?_
    walk_at "go"
    refine ⟨x, t, _, _, rfl, ht, ?_⟩
    cases hz : t.sized 1 16 with
    | false =>
      refine g_bl (g_ift ?_)
      walk_at "go"
      refine g_tup' ?_
      walk_at "go"
      refine ⟨sz (by simp), fun p np => ?_⟩
      refine q2 none ?_ p _ (.new .refl np) upd_same
      unfold rowFault
      rw [hz]; rfl
    | true =>
      refine g_bl (g_iff (g_next ?_))
      cases ht with
      | @tup a xs ss h1 h2 =>
        have hf : rowFault 1 16 (Sh.note c) (.tup ss) = (firstNot (Sh.note c) ss).map some := by
          unfold rowFault
          rw [if_pos hz]
        rw [hf] at q1 q2
        walk_at "go"
        refine g_one'T (K := K) h1 ?_
        refine ForQ.enumT (xs := xs) (fun i σ H' => Nt H H' ∧ (∃ x y, σ = [some (.int c), some (.ref a), x, y]) ∧ ∀ j s', j < i → ss[j]? = some s' → s'.note c = true) ⟨.refl, ⟨_, _, rfl⟩, fun j s' hj => absurd hj (Nat.not_lt_zero _)⟩ ?_ ?_ ?_
        · rintro i σ H1 _ ⟨nt, _⟩
          exact SqT.same h1 nt.same
        · rintro i x T σ H1 hx ⟨nt, ⟨u, v, rfl⟩, hall⟩ nT
          have nt2 : Nt H (upd H1 T (.tup [.int (i : Nat), x])) := .new nt nT
          obtain ⟨sx, hsx, ax⟩ := (h2.same nt2.same).get hx
          have next : sx.note c = true → ∀ j s', j < i + 1 → ss[j]? = some s' → s'.note c = true := fun h j s' hj e => by
            rcases Nat.lt_succ_iff_lt_or_eq.mp hj with z | z
            · exact hall j s' z e
            · subst z; rw [hsx] at e; rw [← Option.some.inj e]; exact h
          refine g_tupg (SqT.of upd_same) rfl ?_
          walk_at "go"
          have hxn : decide (x = V.non) = sx.isNon := by cases ax <;> rfl
          rw [hxn]
          cases hn : sx.isNon with
          | true =>
            walk_at "go"
            exact ⟨nt2, ⟨_, _, rfl⟩, next (by unfold Sh.note; rw [hn]; rfl)⟩
          | false =>
            walk_at "go"
            refine ⟨x, sx, _, _, rfl, ax, ?_⟩
            cases hb : sx.within 0 (c - 1) with
            | true =>
              walk_at "go"
              exact ⟨nt2, ⟨_, _, rfl⟩, next (by unfold Sh.note; rw [hn, hb]; rfl)⟩
            | false =>
              walk_at "go"
              refine g_tup' ?_
              walk_at "go"
              refine ⟨sz (by simp), fun p np => ?_⟩
              refine q2 (some i) ?_ p _ (.new nt2 np) upd_same
              rw [firstNot_some hsx (by unfold Sh.note; rw [hn, hb]; rfl) hall]
              rfl
        · rintro σ H1 ⟨nt, ⟨u, v, rfl⟩, hall⟩
          walk_at "go"
          refine q1 ?_ _ nt
          rw [firstNot_none fun j s' e => hall j s' (by
            rcases Nat.lt_or_ge j ss.length with z | z
            · rw [h2.length]; exact z
            · rw [List.getElem?_eq_none z] at e; exact absurd e (by simp)) e]
          rfl
      | _ => exact absurd (show false = true from hz) (by decide)
theorem sc_bf : FnScope ["many", "bounds", "item", "bound"] ["many", "bounds"] (defScope s_bounds_fault) := ⟨rfl, rfl, rfl, by decide +kernel, rfl, by decide +kernel, by decide +kernel⟩
theorem ok_bf (F : FnT K "bounds_fault" s_bounds_fault f fd) (T : Blt mg) (D : Dia K mg DC) (hTupOf : Has P w K mg base 1 "is_tuple_of" ["value", "low", "high"] (spTupOf K)) (hBound : Has P w K mg base 3 "is_bound" ["value", "many"] (spBound K)) : FnOk P w K mg base CX0 4 f fd ["many", "bounds"] (spRowF K (fun x c => [c, x]) "bounds" 0 60 Sh.bound) := by
  refine F.ok sc_bf (fun vs H Q E h => ?_) (fun cdv A outer s H vs Q E hr h => ?_)
  · obtain ⟨x, t, c, rfl, _⟩ := h
    rfl
  · obtain ⟨x, t, c, rfl, ht, q1, q2⟩ := h
    have sc := sc_bf
    refine ⟨_, PSs.nox (pss_cons (ps_if (pt_not (pt_val (pe_has hTupOf hr (by decide) (pa_cons (pv 1) (pa_cons pe_int (pa_cons (ClX.pe_cval (pe_ref D.at_)) pa_nil))))))
        (pss_one (ps_ret (pe_tup (pa_cons pe_str (pa_cons pe_non pa_nil)))))
        pss_nil)
      (pss_cons (ps_for PassesOwn.never rfl (pi_enumT (by rfl) T.enumerate (pa_cons (pv 1) pa_nil)) (pg_tup rfl (pgs_cons (pg_name (i := 2) sc.nd rfl (Or.inl rfl)) (pgs_cons (pg_name (i := 3) sc.nd rfl (Or.inl rfl)) pgs_nil)))
        (pss_one (ps_if (pt_not (pt_val (pe_has hBound hr (by decide) (pa_cons (pv 3) (pa_cons (pv 0) pa_nil)))))
          (pss_one (ps_ret (pe_tup (pa_cons pe_str (pa_cons (pv 2) pa_nil)))))
          pss_nil)))
      (pss_one (ps_ret pe_non)))), ?_⟩
    walk_at "go"
    refine D.bounds ?_
    walk_at "go"
    refine ⟨x, t, _, _, rfl, ht, ?_⟩
    cases hz : t.sized 0 60 with
    | false =>
      refine g_bl (g_ift ?_)
      walk_at "go"
      refine g_tup' ?_
      walk_at "go"
      refine ⟨sz (by simp), fun p np => ?_⟩
      refine q2 none ?_ p _ (.new .refl np) upd_same
      unfold rowFault
      rw [hz]; rfl
    | true =>
      refine g_bl (g_iff (g_next ?_))
      cases ht with
      | @tup a xs ss h1 h2 =>
        have hf : rowFault 0 60 (Sh.bound c) (.tup ss) = (firstNot (Sh.bound c) ss).map some := by
          unfold rowFault
          rw [if_pos hz]
        rw [hf] at q1 q2
        walk_at "go"
        refine g_one'T (K := K) h1 ?_
        refine ForQ.enumT (xs := xs) (fun i σ H' => Nt H H' ∧ (∃ x y, σ = [some (.int c), some (.ref a), x, y]) ∧ ∀ j s', j < i → ss[j]? = some s' → s'.bound c = true) ⟨.refl, ⟨_, _, rfl⟩, fun j s' hj => absurd hj (Nat.not_lt_zero _)⟩ ?_ ?_ ?_
        · rintro i σ H1 _ ⟨nt, _⟩
          exact SqT.same h1 nt.same
        · rintro i x T σ H1 hx ⟨nt, ⟨u, v, rfl⟩, hall⟩ nT
          have nt2 : Nt H (upd H1 T (.tup [.int (i : Nat), x])) := .new nt nT
          obtain ⟨sx, hsx, ax⟩ := (h2.same nt2.same).get hx
          have next : sx.bound c = true → ∀ j s', j < i + 1 → ss[j]? = some s' → s'.bound c = true := fun h j s' hj e => by
            rcases Nat.lt_succ_iff_lt_or_eq.mp hj with z | z
            · exact hall j s' z e
            · subst z; rw [hsx] at e; rw [← Option.some.inj e]; exact h
          refine g_tupg (SqT.of upd_same) rfl ?_
          walk_at "go"
          refine ⟨x, sx, _, rfl, ax, ?_⟩
          cases hb : sx.bound c with
          | true =>
            walk_at "go"
            exact ⟨nt2, ⟨_, _, rfl⟩, next hb⟩
          | false =>
            walk_at "go"
            refine g_tup' ?_
            walk_at "go"
            refine ⟨sz (by simp), fun p np => ?_⟩
            refine q2 (some i) ?_ p _ (.new nt2 np) upd_same
            rw [firstNot_some hsx hb hall]
            rfl
        · rintro σ H1 ⟨nt, ⟨u, v, rfl⟩, hall⟩
          walk_at "go"
          refine q1 ?_ _ nt
          rw [firstNot_none fun j s' e => hall j s' (by
            rcases Nat.lt_or_ge j ss.length with z | z
            · rw [h2.length]; exact z
            · rw [List.getElem?_eq_none z] at e; exact absurd e (by simp)) e]
          rfl
      | _ => exact absurd (show false = true from hz) (by decide)
theorem sc_df : FnScope ["modulus", "weekdays", "bounds", "fault"] ["modulus", "weekdays", "bounds"] (defScope s_diary_fault) := ⟨rfl, rfl, rfl, by decide +kernel, rfl, by decide +kernel, by decide +kernel⟩
theorem ok_df (F : FnT K "diary_fault" s_diary_fault f fd) (T : Blt mg) (D : Dia K mg DC) (hWithin : Has P w K mg base 2 "is_within" ["value", "low", "high"] (spWithin K)) (hWf : Has P w K mg base 3 "weekdays_fault" ["modulus", "weekdays"] (spRowF K (fun x c => [c, x]) "weekdays" 1 16 Sh.note)) (hBf : Has P w K mg base 4 "bounds_fault" ["many", "bounds"] (spRowF K (fun x c => [c, x]) "bounds" 0 60 Sh.bound)) : FnOk P w K mg base CX0 5 f fd ["modulus", "weekdays", "bounds"] (spDiaryF K) := by
  refine F.ok sc_df (fun vs H Q E h => ?_) (fun cdv A outer s H vs Q E hr h => ?_)
  · obtain ⟨x, y, z, m, w, b, rfl, _⟩ := h
    rfl
  · obtain ⟨x, y, z, m, ws, b, rfl, hx, hy, hz, q1, q2⟩ := h
    have sc := sc_df
    refine ⟨_, PSs.nox (pss_cons (ps_if (pt_not (pt_val (pe_has hWithin hr (by decide) (pa_cons (pv 0) (pa_cons pe_int (pa_cons (ClX.pe_cval (pe_ref D.at_)) pa_nil))))))
        (pss_one (ps_ret (pe_tup (pa_cons pe_str (pa_cons pe_non pa_nil)))))
        pss_nil)
      (pss_cons (ps_set (i := 3) sc.nd rfl (Or.inl rfl) (pe_has hWf hr (by decide) (pa_cons (pv 0) (pa_cons (pv 1) pa_nil))))
      (pss_cons (ps_if (pt_cmpR op_notN (pv 3) pe_non (nomark _))
        (pss_one (ps_ret (pv 3)))
        pss_nil)
      (pss_one (ps_ret (pe_has hBf hr (by decide) (pa_cons (pe_callB call_len_seq (by rfl) T.len PySem.boot_len (pa_cons (pv 1) pa_nil)) (pa_cons (pv 2) pa_nil)))))))), ?_⟩
    walk_at "go"
    refine D.modulus ?_
    walk_at "go"
    refine ⟨x, m, _, _, rfl, hx, ?_⟩
    cases hm : m.within 2 100 with
    | false =>
      refine g_bl (g_ift ?_)
      walk_at "go"
      refine g_tup' ?_
      walk_at "go"
      refine ⟨sz (by simp), fun p np => ?_⟩
      refine q2 "modulus" none ?_ p _ (.new .refl np) upd_same
      unfold diaryFault
      rw [hm]; rfl
    | true =>
      refine g_bl (g_iff (g_next ?_))
      cases hx with
      | int c =>
        rw [diaryFault_int hm] at q1 q2
        walk_at "ex"
        refine ⟨y, ws, c, rfl, hy, fun e H' nt => ?_, fun it e a H' nt ha => ?_⟩
        · cases hy with
          | @tup a xs ss h1 h2 =>
            rw [wordFault_tup e] at q1 q2
            walk_at "go"
            refine g_iffn (g_next ?_)
            walk_at "go"
            refine g_len (K := K) (Or.inr (SqT.same h1 nt.same)) ?_
            rw [h2.length]
            walk_at "go"
            refine ⟨z, b, _, rfl, hz.same nt.same, fun e2 H2 nt2 => ?_, fun it e2 a2 H2 nt2 ha2 => ?_⟩
            · exact q1 (by rw [e2]; rfl) H2 (nt.trans nt2)
            · exact q2 "bounds" it (by rw [e2]; rfl) a2 H2 (nt.trans nt2) ha2
          | _ => exact absurd (show some (none : Option Nat) = none from e) (by simp)
        · rw [wordFault_some e] at q2
          walk_at "go"
          refine g_iftn ?_
          walk_at "go"
          exact q2 "weekdays" it rfl a H' nt ha
      | _ => exact absurd (show false = true from hm) (by decide)
end
end K05
set_option Elab.async false
set_option linter.all false
set_option maxRecDepth 100000
set_option maxHeartbeats 4000000
namespace K05
open PySem PySem.Spec PyProof.Rows L2 WL
local macro_rules | `(tactic| walk_at "side") => `(tactic| first | (show (_ ∧ _) ∨ (_ ∧ _); omega) | (exact ⟨by omega, by omega⟩) | (show (0 : Int) < _; omega) | omega)
local macro_rules | `(tactic| walk_at "go") => `(tactic| (repeat (first
  | with_reducible refine g_seq ?_ | with_reducible refine g_asgN ?_ | with_reducible refine g_ret ?_ | with_reducible refine g_drop ?_ | with_reducible refine g_ifS ?_ | with_reducible refine g_next ?_
  | with_reducible refine g_var rfl ?_ | with_reducible refine g_c ?_ | with_reducible refine g_op ?_ | with_reducible refine g_un ?_ | with_reducible refine g_rI0 ?_ | ((with_reducible refine g_rI ?_ ?_); next => walk_at "side") | with_reducible refine g_test ?_ | with_reducible refine g_bl ?_
  | with_reducible refine g_nil ?_ | with_reducible refine g_cons ?_ | with_reducible refine g_call ?_ | with_reducible refine g_cb ?_ | with_reducible refine g_if ?_ | with_reducible refine g_par ?_ | with_reducible refine g_two ?_
  | with_reducible refine g_asg ?_ | with_reducible refine g_name ?_ | with_reducible refine g_sub ?_ | with_reducible refine g_yes ?_ | with_reducible refine g_gcons ?_ | with_reducible refine g_gnil ?_ | with_reducible refine g_dget ?_ | with_reducible refine g_dput ?_ | with_reducible refine g_rng1 ?_ | with_reducible refine g_rng2 ?_
  | ((with_reducible refine g_one ?_ ?_); next => omega) | ((with_reducible refine g_twoI ?_ ?_); next => omega) | with_reducible refine g_isNon ?_ | with_reducible refine g_andV ?_ | with_reducible refine g_revT ?_ | with_reducible refine g_itup ?_ | with_reducible refine g_methK0 ?_ | with_reducible refine g_methS ?_ | with_reducible refine g_errF ?_ | with_reducible refine g_prop ?_ | with_reducible refine g_con ?_ | with_reducible refine g_make ?_ | with_reducible refine g_fld ?_ | with_reducible refine g_sfld ?_ | with_reducible refine g_iftn ?_ | with_reducible refine g_iffn ?_ | with_reducible refine g_orV ?_ | with_reducible refine g_notV ?_ | with_reducible refine g_tB ?_ | with_reducible refine g_chain ?_ | with_reducible refine g_neg ?_ | with_reducible refine g_cval ?_ | with_reducible refine g_enumT ?_ | with_reducible refine g_andT ?_ | with_reducible refine g_orT ?_ | with_reducible refine g_notT ?_ | with_reducible refine g_sl ?_ | with_reducible refine g_part ?_ | with_reducible refine g_parI ?_ | with_reducible refine g_noPart ?_ | with_reducible refine g_pcons ?_ | with_reducible refine g_pnil ?_ | with_reducible refine g_list ?_ | with_reducible refine g_lc ?_ | with_reducible refine g_for ?_ | with_reducible refine g_enum ?_ | with_reducible refine g_ift ?_ | with_reducible refine g_iff ?_ | with_reducible refine And.intro rfl ?_ | with_reducible refine g_notNon ?_)))
local macro_rules | `(tactic| walk_at "ex") => `(tactic| (repeat (first
  | with_reducible refine g_seqAsg ?_ | with_reducible refine g_seqFld ?_ | with_reducible refine g_seqDrop ?_ | with_reducible refine g_seqPut ?_ | with_reducible refine g_seqPar ?_ | with_reducible refine g_asgN ?_ | with_reducible refine g_ret ?_ | with_reducible refine g_drop ?_ | with_reducible refine g_next ?_
  | with_reducible refine g_var rfl ?_ | with_reducible refine g_c ?_ | with_reducible refine g_op ?_ | with_reducible refine g_un ?_ | with_reducible refine g_rI0 ?_ | ((with_reducible refine g_rI ?_ ?_); next => walk_at "side") | with_reducible refine g_test ?_ | with_reducible refine g_bl ?_
  | with_reducible refine g_nil ?_ | with_reducible refine g_cons ?_ | with_reducible refine g_call ?_ | with_reducible refine g_cb ?_ | with_reducible refine g_if ?_ | with_reducible refine g_par ?_ | with_reducible refine g_two ?_
  | with_reducible refine g_asg ?_ | with_reducible refine g_name ?_ | with_reducible refine g_sub ?_ | with_reducible refine g_yes ?_ | with_reducible refine g_gcons ?_ | with_reducible refine g_gnil ?_ | with_reducible refine g_dget ?_ | with_reducible refine g_dput ?_ | with_reducible refine g_rng1 ?_ | with_reducible refine g_rng2 ?_
  | ((with_reducible refine g_one ?_ ?_); next => omega) | ((with_reducible refine g_twoI ?_ ?_); next => omega) | with_reducible refine g_isNon ?_ | with_reducible refine g_andV ?_ | with_reducible refine g_revT ?_ | with_reducible refine g_itup ?_ | with_reducible refine g_methK0 ?_ | with_reducible refine g_methS ?_ | with_reducible refine g_errF ?_ | with_reducible refine g_prop ?_ | with_reducible refine g_con ?_ | with_reducible refine g_make ?_ | with_reducible refine g_fld ?_ | with_reducible refine g_sfld ?_ | with_reducible refine g_iftn ?_ | with_reducible refine g_iffn ?_ | with_reducible refine g_orV ?_ | with_reducible refine g_notV ?_ | with_reducible refine g_tB ?_ | with_reducible refine g_chain ?_ | with_reducible refine g_neg ?_ | with_reducible refine g_cval ?_ | with_reducible refine g_enumT ?_ | with_reducible refine g_proj ?_ | with_reducible refine g_andT ?_ | with_reducible refine g_orT ?_ | with_reducible refine g_notT ?_ | with_reducible refine g_sl ?_ | with_reducible refine g_part ?_ | with_reducible refine g_parI ?_ | with_reducible refine g_noPart ?_ | with_reducible refine g_pcons ?_ | with_reducible refine g_pnil ?_ | with_reducible refine g_list ?_ | with_reducible refine g_lc ?_ | with_reducible refine g_enum ?_ | with_reducible refine g_ift ?_ | with_reducible refine g_iff ?_ | with_reducible refine And.intro rfl ?_ | with_reducible refine g_notNon ?_)))
section
variable {P : Program} {w : World} {K : PySem.W.Frag} {mg : Str → Option Value} {base : Heap} {f : Addr} {fd : FuncData} {DC : Addr}
abbrev FnM (K : PySem.W.Frag) (x q : Str) (st : Stmt) (f : Addr) (fd : FuncData) : Prop := FunD K x q (defArgs st) (defBody st) (defScope st) [] [] f fd
theorem sc_dinit : FnScope ["self", "modulus", "weekdays", "bounds", "fault", "part", "item"] ["self", "modulus", "weekdays", "bounds"] (defScope s_Diary_init) := ⟨rfl, rfl, rfl, by decide +kernel, rfl, by decide +kernel, by decide +kernel⟩
theorem ok_dinit (F : FnM K "__init__" "Diary.__init__" s_Diary_init f fd) (O : DiaO K DC) (hDf : Has P w K mg base 5 "diary_fault" ["modulus", "weekdays", "bounds"] (spDiaryF K)) : FnOk P w K mg base CX0 6 f fd ["self", "modulus", "weekdays", "bounds"] (spDInit K DC) := by
  refine F.ok sc_dinit (fun vs H Q E h => ?_) (fun cdv A outer s H vs Q E hr h => ?_)
  · obtain ⟨a, dx, x, y, z, m, w, b, rfl, _⟩ := h
    rfl
  · obtain ⟨a, dx, x, y, z, m, ws, b, rfl, ha, hx, hy, hz, hf, q⟩ := h
    have sc := sc_dinit
    refine ⟨_, PSs.nox (pss_cons (ps_set (i := 4) sc.nd rfl (Or.inl rfl) (pe_has hDf hr (by decide) (pa_cons (pv 1) (pa_cons (pv 2) (pa_cons (pv 3) pa_nil)))))
      (pss_cons (ps_if (pt_cmpR op_notN (pv 4) pe_non (nomark _))
        (pss_cons ps_no (pss_one ps_no))
        pss_nil)
      (pss_cons (ps_fld (pv 0) (pv 1) rfl)
      (pss_cons (ps_fld (pv 0) (pv 2) rfl)
      (pss_one (ps_fld (pv 0) (pv 3) rfl)))))), ?_⟩
    walk_at "go"
    refine ⟨x, y, z, m, ws, b, rfl, hx, hy, hz, fun _ H1 nt => ?_, fun word it e => by rw [hf] at e; exact absurd e (by simp)⟩
    walk_at "go"
    refine g_iffn (g_next ?_)
    have h1 := nt.same _ _ ha
    walk_at "go"
    refine g_put O.cls O.n1 h1 (by simp) ?_
    walk_at "go"
    refine g_put O.cls O.n2 upd_same (by show 1 < 1000; decide) ?_
    walk_at "go"
    refine g_put O.cls O.n3 upd_same (by show 2 < 1000; decide) ?_
    walk_at "go"
    refine q _ (by rw [upd_same]; rfl) fun b o e h => ?_
    rw [upd_ne e, upd_ne e, upd_ne e]
    exact nt.same _ _ h
theorem sc_dmod : FnScope ["self"] ["self"] (defScope s_Diary_modulus) := ⟨rfl, rfl, rfl, by decide +kernel, rfl, by decide +kernel, by decide +kernel⟩
theorem ok_dmod (F : FnM K "modulus" "Diary.modulus" s_Diary_modulus f fd) (O : DiaO K DC) : FnOk P w K mg base CX0 1 f fd ["self"] (spGetF DC "_modulus") := by
  refine F.ok sc_dmod (fun vs H Q E h => ?_) (fun cdv A outer s H vs Q E hr h => ?_)
  · obtain ⟨a, dx, fs, v, rfl, _⟩ := h
    rfl
  · obtain ⟨a, dx, fs, v, rfl, ha, hv, q⟩ := h
    have sc := sc_dmod
    refine ⟨_, PSs.nox (pss_one (ps_ret (pe_fld (pv 0) rfl))), ?_⟩
    walk_at "go"
    exact ⟨a, DC, dx, fs, v, rfl, ha, O.cls, O.n1, hv, q⟩
theorem sc_dwds : FnScope ["self"] ["self"] (defScope s_Diary_weekdays) := ⟨rfl, rfl, rfl, by decide +kernel, rfl, by decide +kernel, by decide +kernel⟩
theorem ok_dwds (F : FnM K "weekdays" "Diary.weekdays" s_Diary_weekdays f fd) (O : DiaO K DC) : FnOk P w K mg base CX0 1 f fd ["self"] (spGetF DC "_weekdays") := by
  refine F.ok sc_dwds (fun vs H Q E h => ?_) (fun cdv A outer s H vs Q E hr h => ?_)
  · obtain ⟨a, dx, fs, v, rfl, _⟩ := h
    rfl
  · obtain ⟨a, dx, fs, v, rfl, ha, hv, q⟩ := h
    have sc := sc_dwds
    refine ⟨_, PSs.nox (pss_one (ps_ret (pe_fld (pv 0) rfl))), ?_⟩
    walk_at "go"
    exact ⟨a, DC, dx, fs, v, rfl, ha, O.cls, O.n2, hv, q⟩
theorem sc_dbds : FnScope ["self"] ["self"] (defScope s_Diary_bounds) := ⟨rfl, rfl, rfl, by decide +kernel, rfl, by decide +kernel, by decide +kernel⟩
theorem ok_dbds (F : FnM K "bounds" "Diary.bounds" s_Diary_bounds f fd) (O : DiaO K DC) : FnOk P w K mg base CX0 1 f fd ["self"] (spGetF DC "_bounds") := by
  refine F.ok sc_dbds (fun vs H Q E h => ?_) (fun cdv A outer s H vs Q E hr h => ?_)
  · obtain ⟨a, dx, fs, v, rfl, _⟩ := h
    rfl
  · obtain ⟨a, dx, fs, v, rfl, ha, hv, q⟩ := h
    have sc := sc_dbds
    refine ⟨_, PSs.nox (pss_one (ps_ret (pe_fld (pv 0) rfl))), ?_⟩
    walk_at "go"
    exact ⟨a, DC, dx, fs, v, rfl, ha, O.cls, O.n3, hv, q⟩
end
end K05
set_option Elab.async false
set_option linter.all false
set_option maxRecDepth 100000
set_option maxHeartbeats 4000000
namespace K05
open PySem PySem.Spec PyProof.Rows L2 WL
local macro_rules | `(tactic| walk_at "side") => `(tactic| first | (show (_ ∧ _) ∨ (_ ∧ _); omega) | (exact ⟨by omega, by omega⟩) | (show (0 : Int) < _; omega) | omega)
local macro_rules | `(tactic| walk_at "go") => `(tactic| (repeat (first
  | with_reducible refine g_seq ?_ | with_reducible refine g_asgN ?_ | with_reducible refine g_ret ?_ | with_reducible refine g_drop ?_ | with_reducible refine g_ifS ?_ | with_reducible refine g_next ?_
  | with_reducible refine g_var rfl ?_ | with_reducible refine g_c ?_ | with_reducible refine g_op ?_ | with_reducible refine g_un ?_ | with_reducible refine g_rI0 ?_ | ((with_reducible refine g_rI ?_ ?_); next => walk_at "side") | with_reducible refine g_test ?_ | with_reducible refine g_bl ?_
  | with_reducible refine g_nil ?_ | with_reducible refine g_cons ?_ | with_reducible refine g_call ?_ | with_reducible refine g_cb ?_ | with_reducible refine g_if ?_ | with_reducible refine g_par ?_ | with_reducible refine g_two ?_
  | with_reducible refine g_asg ?_ | with_reducible refine g_name ?_ | with_reducible refine g_sub ?_ | with_reducible refine g_yes ?_ | with_reducible refine g_gcons ?_ | with_reducible refine g_gnil ?_ | with_reducible refine g_dget ?_ | with_reducible refine g_dput ?_ | with_reducible refine g_rng1 ?_ | with_reducible refine g_rng2 ?_
  | ((with_reducible refine g_one ?_ ?_); next => omega) | ((with_reducible refine g_twoI ?_ ?_); next => omega) | with_reducible refine g_isNon ?_ | with_reducible refine g_andV ?_ | with_reducible refine g_revT ?_ | with_reducible refine g_itup ?_ | with_reducible refine g_methK0 ?_ | with_reducible refine g_methS ?_ | with_reducible refine g_errF ?_ | with_reducible refine g_prop ?_ | with_reducible refine g_con ?_ | with_reducible refine g_make ?_ | with_reducible refine g_fld ?_ | with_reducible refine g_sfld ?_ | with_reducible refine g_iftn ?_ | with_reducible refine g_iffn ?_ | with_reducible refine g_orV ?_ | with_reducible refine g_notV ?_ | with_reducible refine g_tB ?_ | with_reducible refine g_chain ?_ | with_reducible refine g_neg ?_ | with_reducible refine g_cval ?_ | with_reducible refine g_enumT ?_ | with_reducible refine g_andT ?_ | with_reducible refine g_orT ?_ | with_reducible refine g_notT ?_ | with_reducible refine g_sl ?_ | with_reducible refine g_part ?_ | with_reducible refine g_parI ?_ | with_reducible refine g_noPart ?_ | with_reducible refine g_pcons ?_ | with_reducible refine g_pnil ?_ | with_reducible refine g_list ?_ | with_reducible refine g_lc ?_ | with_reducible refine g_for ?_ | with_reducible refine g_enum ?_ | with_reducible refine g_ift ?_ | with_reducible refine g_iff ?_ | with_reducible refine And.intro rfl ?_ | with_reducible refine g_notNon ?_)))
local macro_rules | `(tactic| walk_at "ex") => `(tactic| (repeat (first
  | with_reducible refine g_seqAsg ?_ | with_reducible refine g_seqFld ?_ | with_reducible refine g_seqDrop ?_ | with_reducible refine g_seqPut ?_ | with_reducible refine g_seqPar ?_ | with_reducible refine g_asgN ?_ | with_reducible refine g_ret ?_ | with_reducible refine g_drop ?_ | with_reducible refine g_next ?_
  | with_reducible refine g_var rfl ?_ | with_reducible refine g_c ?_ | with_reducible refine g_op ?_ | with_reducible refine g_un ?_ | with_reducible refine g_rI0 ?_ | ((with_reducible refine g_rI ?_ ?_); next => walk_at "side") | with_reducible refine g_test ?_ | with_reducible refine g_bl ?_
  | with_reducible refine g_nil ?_ | with_reducible refine g_cons ?_ | with_reducible refine g_call ?_ | with_reducible refine g_cb ?_ | with_reducible refine g_if ?_ | with_reducible refine g_par ?_ | with_reducible refine g_two ?_
  | with_reducible refine g_asg ?_ | with_reducible refine g_name ?_ | with_reducible refine g_sub ?_ | with_reducible refine g_yes ?_ | with_reducible refine g_gcons ?_ | with_reducible refine g_gnil ?_ | with_reducible refine g_dget ?_ | with_reducible refine g_dput ?_ | with_reducible refine g_rng1 ?_ | with_reducible refine g_rng2 ?_
  | ((with_reducible refine g_one ?_ ?_); next => omega) | ((with_reducible refine g_twoI ?_ ?_); next => omega) | with_reducible refine g_isNon ?_ | with_reducible refine g_andV ?_ | with_reducible refine g_revT ?_ | with_reducible refine g_itup ?_ | with_reducible refine g_methK0 ?_ | with_reducible refine g_methS ?_ | with_reducible refine g_errF ?_ | with_reducible refine g_prop ?_ | with_reducible refine g_con ?_ | with_reducible refine g_make ?_ | with_reducible refine g_fld ?_ | with_reducible refine g_sfld ?_ | with_reducible refine g_iftn ?_ | with_reducible refine g_iffn ?_ | with_reducible refine g_orV ?_ | with_reducible refine g_notV ?_ | with_reducible refine g_tB ?_ | with_reducible refine g_chain ?_ | with_reducible refine g_neg ?_ | with_reducible refine g_cval ?_ | with_reducible refine g_enumT ?_ | with_reducible refine g_proj ?_ | with_reducible refine g_andT ?_ | with_reducible refine g_orT ?_ | with_reducible refine g_notT ?_ | with_reducible refine g_sl ?_ | with_reducible refine g_part ?_ | with_reducible refine g_parI ?_ | with_reducible refine g_noPart ?_ | with_reducible refine g_pcons ?_ | with_reducible refine g_pnil ?_ | with_reducible refine g_list ?_ | with_reducible refine g_lc ?_ | with_reducible refine g_enum ?_ | with_reducible refine g_ift ?_ | with_reducible refine g_iff ?_ | with_reducible refine And.intro rfl ?_ | with_reducible refine g_notNon ?_)))
section
variable {P : Program} {w : World} {K : PySem.W.Frag} {mg : Str → Option Value} {base : Heap} {f : Addr} {fd : FuncData} {DC IE : Addr}
theorem sc_dlen : FnScope ["self"] ["self"] (defScope s_Diary_len) := ⟨rfl, rfl, rfl, by decide +kernel, rfl, by decide +kernel, by decide +kernel⟩
theorem ok_dlen (F : FnM K "__len__" "Diary.__len__" s_Diary_len f fd) (T : Blt mg) (O : DiaO K DC) : FnOk P w K mg base CX0 1 f fd ["self"] (spDLen DC K) := by
  refine F.ok sc_dlen (fun vs H Q E h => ?_) (fun cdv A outer s H vs Q E hr h => ?_)
  · obtain ⟨a, dx, x, z, wa, ws, rfl, _⟩ := h
    rfl
  · obtain ⟨a, dx, x, z, wa, ws, rfl, ha, hw, q⟩ := h
    have sc := sc_dlen
    refine ⟨_, PSs.nox (pss_one (ps_ret (pe_callB call_len_seq (by rfl) T.len PySem.boot_len (pa_cons (pe_fld (pv 0) rfl) pa_nil)))), ?_⟩
    walk_at "go"
    refine g_f2 O ha ?_
    walk_at "go"
    exact g_len (K := K) (Or.inr hw) q
theorem sc_deq : FnScope ["self", "other"] ["self", "other"] (defScope s_Diary_eq) := ⟨rfl, rfl, rfl, by decide +kernel, rfl, by decide +kernel, by decide +kernel⟩
theorem ok_deq (F : FnM K "__eq__" "Diary.__eq__" s_Diary_eq f fd) (T : Blt mg) (O : DiaO K DC) (D : Dia K mg DC) : FnOk P w K mg base CX0 1 f fd ["self", "other"] (spDEq K DC) := by
  refine F.ok sc_deq (fun vs H Q E h => ?_) (fun cdv A outer s H vs Q E hr h => ?_)
  · obtain ⟨v, x, c, ns, ls, rfl, _⟩ := h
    rfl
  · obtain ⟨v, x, c, ns, ls, rfl, ⟨a, dx, wv, bv, rfl, ha, hn, hl⟩, q⟩ := h
    have sc := sc_deq
    have hu := hr.units
    refine ⟨_, PSs.nox (pss_one (ps_ret (pe_and (pe_callB call_isi (by rfl) T.isinstance (by decide +kernel) (pa_cons (pv 1) (pa_cons (pe_ref D.at_) pa_nil))) (pe_and (pe_cmpR (op_eqD hu) (pe_fld (pv 0) rfl) (pe_fld (pv 1) rfl) (nomark _)) (pe_and (pe_cmpR (op_eqD hu) (pe_fld (pv 0) rfl) (pe_fld (pv 1) rfl) (nomark _)) (pe_one (pe_cmpR (op_eqD hu) (pe_fld (pv 0) rfl) (pe_fld (pv 1) rfl) (nomark _)))))))), ?_⟩
    walk_at "go"
    rcases q with ⟨c2, ns2, ls2, ⟨a2, dx2, wv2, bv2, rfl, ha2, hn2, hl2⟩, q⟩ | ⟨s2, hs2, q⟩
    · refine ⟨_, _, _, _, true, rfl, .own DC, O.ty ha2, O.same, ?_⟩
      refine g_bl (g_ift ?_)
      walk_at "go"
      refine g_f1 O ha ?_
      walk_at "go"
      refine g_f1 O ha2 ?_
      refine g_eqD (K := K) (.int c) (.int c2) rfl rfl ?_
      rw [PyData.eqv.eq_5]
      by_cases e1 : c = c2
      · subst e1
        rw [show (c == c) = true by simp]
        refine g_bl (g_ift ?_)
        walk_at "go"
        refine g_f2 O ha ?_
        walk_at "go"
        refine g_f2 O ha2 ?_
        refine g_eqD (K := K) hn.dp hn2.dp (pl_shaped (pl_notes _) (by decide)) (pl_shaped (pl_notes _) (by decide)) ?_
        cases hb : (notesD ns).eqv (notesD ns2) with
        | false =>
          refine g_bl (g_iff (q false ⟨fun h => by simp at h, fun h => ?_⟩))
          rw [← h.2.1, (pl_eqv (pl_notes _) (pl_notes _)).mpr rfl] at hb
          exact hb.symm
        | true =>
          have e2 := notesD_inj ((pl_eqv (pl_notes _) (pl_notes _)).mp hb)
          refine g_bl (g_ift ?_)
          walk_at "go"
          refine g_f3 O ha ?_
          walk_at "go"
          refine g_f3 O ha2 ?_
          refine g_eqD (K := K) hl.dp hl2.dp (pl_shaped (pl_lines _) (by decide)) (pl_shaped (pl_lines _) (by decide)) ?_
          refine q _ ⟨fun h => ⟨rfl, e2, linesD_inj ((pl_eqv (pl_lines _) (pl_lines _)).mp h)⟩, fun h => ?_⟩
          rw [h.2.2]
          exact (pl_eqv (pl_lines _) (pl_lines _)).mpr rfl
      · rw [show (c == c2) = false by simpa using e1]
        exact g_bl (g_iff (q false ⟨fun h => by simp at h, fun h => absurd h.1 e1⟩))
    · exact ⟨_, _, _, _, false, rfl, .own DC, hs2.ty, O.other s2, g_bl (g_iff q)⟩
theorem sc_need : FnScope ["self", "event"] ["self", "event"] (defScope s_Diary_need_event) := ⟨rfl, rfl, rfl, by decide +kernel, rfl, by decide +kernel, by decide +kernel⟩
theorem ok_need (F : FnM K "need_event" "Diary.need_event" s_Diary_need_event f fd) (T : Blt mg) (O : DiaO K DC) (X : EvX P K mg IE) (hWithin : Has P w K mg base 2 "is_within" ["value", "low", "high"] (spWithin K)) : FnOk P w K mg base (CX P w) 3 f fd ["self", "event"] (spNeed K DC IE) := by
  refine F.ok sc_need (fun vs H Q E h => ?_) (fun cdv A outer s H vs Q E hr h => ?_)
  · obtain ⟨a, dx, x, z, y, wa, ws, s, rfl, _⟩ := h
    rfl
  · obtain ⟨a, dx, x, z, y, wa, ws, s, rfl, ha, hw, hs, q1, q2⟩ := h
    have sc := sc_need
    obtain ⟨fI, fdI, xT, xI, xb⟩ := X.ex
    refine ⟨_, pss_one (ps_if (pt_not (pt_val (pe_has hWithin hr (by decide) (pa_cons (pv 1) (pa_cons pe_int (pa_cons (pe_op op_sub (pe_callB call_len_seq (by rfl) T.len PySem.boot_len (pa_cons (pe_fld (pv 0) rfl) pa_nil)) pe_int) pa_nil))))))
      (pss_one (ps_raise rfl (takes_of rfl rfl rfl rfl) (pmk_ex xT xI hr X.at_ (by decide) (by decide) xb (pa_cons (pv 1) pa_nil))))
      pss_nil), ?_⟩
    walk_at "go"
    refine g_f2 O ha ?_
    walk_at "go"
    refine g_len (K := K) (Or.inr hw) ?_
    walk_at "go"
    refine ⟨y, s, _, _, rfl, hs, ?_⟩
    cases hb : s.within 0 ((ws.length : Int) - 1) with
    | true =>
      walk_at "go"
      exact q1 hb
    | false =>
      walk_at "go"
      refine g_mkex ?_
      walk_at "go"
      exact ⟨y, rfl, q2 hb⟩
end
end K05
set_option Elab.async false
set_option linter.all false
set_option maxRecDepth 100000
set_option maxHeartbeats 400000
namespace K05
open PySem PySem.Spec PyProof.Rows L2 WL
local macro_rules | `(tactic| walk_at "side") => `(tactic| first | (show (_ ∧ _) ∨ (_ ∧ _); omega) | (exact ⟨by omega, by omega⟩) | (show (0 : Int) < _; omega) | omega)
local macro_rules | `(tactic| walk_at "go") => `(tactic| (repeat (first
  | with_reducible refine g_seq ?_ | with_reducible refine g_asgN ?_ | with_reducible refine g_ret ?_ | with_reducible refine g_drop ?_ | with_reducible refine g_ifS ?_ | with_reducible refine g_next ?_
  | with_reducible refine g_var rfl ?_ | with_reducible refine g_c ?_ | with_reducible refine g_op ?_ | with_reducible refine g_un ?_ | with_reducible refine g_rI0 ?_ | ((with_reducible refine g_rI ?_ ?_); next => walk_at "side") | with_reducible refine g_test ?_ | with_reducible refine g_bl ?_
  | with_reducible refine g_nil ?_ | with_reducible refine g_cons ?_ | with_reducible refine g_call ?_ | with_reducible refine g_cb ?_ | with_reducible refine g_if ?_ | with_reducible refine g_par ?_ | with_reducible refine g_two ?_
  | with_reducible refine g_asg ?_ | with_reducible refine g_name ?_ | with_reducible refine g_sub ?_ | with_reducible refine g_yes ?_ | with_reducible refine g_gcons ?_ | with_reducible refine g_gnil ?_ | with_reducible refine g_dget ?_ | with_reducible refine g_dput ?_ | with_reducible refine g_rng1 ?_ | with_reducible refine g_rng2 ?_
  | ((with_reducible refine g_one ?_ ?_); next => omega) | ((with_reducible refine g_twoI ?_ ?_); next => omega) | with_reducible refine g_isNon ?_ | with_reducible refine g_andV ?_ | with_reducible refine g_revT ?_ | with_reducible refine g_itup ?_ | with_reducible refine g_methK0 ?_ | with_reducible refine g_methS ?_ | with_reducible refine g_errF ?_ | with_reducible refine g_prop ?_ | with_reducible refine g_con ?_ | with_reducible refine g_make ?_ | with_reducible refine g_fld ?_ | with_reducible refine g_sfld ?_ | with_reducible refine g_iftn ?_ | with_reducible refine g_iffn ?_ | with_reducible refine g_orV ?_ | with_reducible refine g_notV ?_ | with_reducible refine g_tB ?_ | with_reducible refine g_chain ?_ | with_reducible refine g_neg ?_ | with_reducible refine g_cval ?_ | with_reducible refine g_enumT ?_ | with_reducible refine g_andT ?_ | with_reducible refine g_orT ?_ | with_reducible refine g_notT ?_ | with_reducible refine g_sl ?_ | with_reducible refine g_part ?_ | with_reducible refine g_parI ?_ | with_reducible refine g_noPart ?_ | with_reducible refine g_pcons ?_ | with_reducible refine g_pnil ?_ | with_reducible refine g_list ?_ | with_reducible refine g_lc ?_ | with_reducible refine g_for ?_ | with_reducible refine g_enum ?_ | with_reducible refine g_ift ?_ | with_reducible refine g_iff ?_ | with_reducible refine And.intro rfl ?_ | with_reducible refine g_notNon ?_)))
local macro_rules | `(tactic| walk_at "ex") => `(tactic| (repeat (first
  | with_reducible refine g_seqAsg ?_ | with_reducible refine g_seqFld ?_ | with_reducible refine g_seqDrop ?_ | with_reducible refine g_seqPut ?_ | with_reducible refine g_seqPar ?_ | with_reducible refine g_asgN ?_ | with_reducible refine g_ret ?_ | with_reducible refine g_drop ?_ | with_reducible refine g_next ?_
  | with_reducible refine g_var rfl ?_ | with_reducible refine g_c ?_ | with_reducible refine g_op ?_ | with_reducible refine g_un ?_ | with_reducible refine g_rI0 ?_ | ((with_reducible refine g_rI ?_ ?_); next => walk_at "side") | with_reducible refine g_test ?_ | with_reducible refine g_bl ?_
  | with_reducible refine g_nil ?_ | with_reducible refine g_cons ?_ | with_reducible refine g_call ?_ | with_reducible refine g_cb ?_ | with_reducible refine g_if ?_ | with_reducible refine g_par ?_ | with_reducible refine g_two ?_
  | with_reducible refine g_asg ?_ | with_reducible refine g_name ?_ | with_reducible refine g_sub ?_ | with_reducible refine g_yes ?_ | with_reducible refine g_gcons ?_ | with_reducible refine g_gnil ?_ | with_reducible refine g_dget ?_ | with_reducible refine g_dput ?_ | with_reducible refine g_rng1 ?_ | with_reducible refine g_rng2 ?_
  | ((with_reducible refine g_one ?_ ?_); next => omega) | ((with_reducible refine g_twoI ?_ ?_); next => omega) | with_reducible refine g_isNon ?_ | with_reducible refine g_andV ?_ | with_reducible refine g_revT ?_ | with_reducible refine g_itup ?_ | with_reducible refine g_methK0 ?_ | with_reducible refine g_methS ?_ | with_reducible refine g_errF ?_ | with_reducible refine g_prop ?_ | with_reducible refine g_con ?_ | with_reducible refine g_make ?_ | with_reducible refine g_fld ?_ | with_reducible refine g_sfld ?_ | with_reducible refine g_iftn ?_ | with_reducible refine g_iffn ?_ | with_reducible refine g_orV ?_ | with_reducible refine g_notV ?_ | with_reducible refine g_tB ?_ | with_reducible refine g_chain ?_ | with_reducible refine g_neg ?_ | with_reducible refine g_cval ?_ | with_reducible refine g_enumT ?_ | with_reducible refine g_proj ?_ | with_reducible refine g_andT ?_ | with_reducible refine g_orT ?_ | with_reducible refine g_notT ?_ | with_reducible refine g_sl ?_ | with_reducible refine g_part ?_ | with_reducible refine g_parI ?_ | with_reducible refine g_noPart ?_ | with_reducible refine g_pcons ?_ | with_reducible refine g_pnil ?_ | with_reducible refine g_list ?_ | with_reducible refine g_lc ?_ | with_reducible refine g_enum ?_ | with_reducible refine g_ift ?_ | with_reducible refine g_iff ?_ | with_reducible refine And.intro rfl ?_ | with_reducible refine g_notNon ?_)))
section
variable {P : Program} {w : World} {K : PySem.W.Frag} {mg : Str → Option Value} {base : Heap} {f : Addr} {fd : FuncData} {DC DE UE IE IN : Addr}
theorem sc_neednum : FnScope ["value"] ["value"] (defScope s_need_number) := ⟨rfl, rfl, rfl, by decide +kernel, rfl, by decide +kernel, by decide +kernel⟩
theorem ok_neednum (F : FnT K "need_number" s_need_number f fd) (X : EvN P K mg IN) (hNum : Has P w K mg base 1 "is_number" ["value"] (spNum K)) : FnOk P w K mg base (CX P w) 2 f fd ["value"] (spNeedNum K IN) := by
  refine F.ok sc_neednum (fun vs H Q E h => ?_) (fun cdv A outer s H vs Q E hr h => ?_)
  · obtain ⟨y, s, rfl, _⟩ := h
    rfl
  · obtain ⟨y, s, rfl, hs, q1, q2⟩ := h
    have sc := sc_neednum
    obtain ⟨fI, fdI, xT, xI, xb⟩ := X.ex
    refine ⟨_, pss_one (ps_if (pt_not (pt_val (pe_has hNum hr (by decide) (pa_cons (pv 0) pa_nil))))
      (pss_one (ps_raise rfl (takes_of rfl rfl rfl rfl) (pmk_ex xT xI hr X.at_ (by decide) (by decide) xb (pa_cons (pv 0) pa_nil))))
      pss_nil), ?_⟩
    walk_at "go"
    refine ⟨y, s, rfl, hs, ?_⟩
    cases hb : s.isInt with
    | true =>
      walk_at "go"
      exact q1 hb
    | false =>
      walk_at "go"
      refine g_mkex ?_
      walk_at "go"
      exact ⟨y, rfl, q2 hb⟩
theorem sc_evinit : FnScope ["self", "number", "modulus"] ["self", "number", "modulus"] (defScope s_Event_init) := ⟨rfl, rfl, rfl, by decide +kernel, rfl, by decide +kernel, by decide +kernel⟩
theorem ok_evinit (F : FnM K "__init__" "Event.__init__" s_Event_init f fd) : FnOk P w K mg base CX0 1 f fd ["self", "number", "modulus"] (spEvInit K) := by
  refine F.ok sc_evinit (fun vs H Q E h => ?_) (fun cdv A outer s H vs Q E hr h => ?_)
  · obtain ⟨C, a, dx, x, y, rfl, _⟩ := h
    rfl
  · obtain ⟨C, a, dx, x, y, rfl, O, ha, q⟩ := h
    have sc := sc_evinit
    refine ⟨_, PSs.nox (pss_cons (ps_fld (pv 0) (pv 1) rfl) (pss_one (ps_fld (pv 0) (pv 2) rfl))), ?_⟩
    walk_at "go"
    refine g_put O.cls O.n1 ha (by show 0 < 1000; decide) ?_
    walk_at "go"
    refine g_put O.cls O.n2 upd_same (by show 1 < 1000; decide) ?_
    refine q _ (by rw [upd_same]; rfl) fun b o e h => ?_
    rw [upd_ne e, upd_ne e]
    exact h
theorem sc_evnum : FnScope ["self"] ["self"] (defScope s_Event_number) := ⟨rfl, rfl, rfl, by decide +kernel, rfl, by decide +kernel, by decide +kernel⟩
theorem ok_evnum (F : FnM K "number" "Event.number" s_Event_number f fd) : FnOk P w K mg base CX0 1 f fd ["self"] (spGetA K "_number") := by
  refine F.ok sc_evnum (fun vs H Q E h => ?_) (fun cdv A outer s H vs Q E hr h => ?_)
  · obtain ⟨C, a, dx, fs, v, rfl, _⟩ := h
    rfl
  · obtain ⟨C, a, dx, fs, v, rfl, O, ha, hv, q⟩ := h
    have sc := sc_evnum
    refine ⟨_, PSs.nox (pss_one (ps_ret (pe_fld (pv 0) rfl))), ?_⟩
    walk_at "go"
    exact ⟨a, C, dx, fs, v, rfl, ha, O.cls, O.n1, hv, q⟩
theorem sc_evwd : FnScope ["self"] ["self"] (defScope s_DatedEvent_weekday) := ⟨rfl, rfl, rfl, by decide +kernel, rfl, by decide +kernel, by decide +kernel⟩
theorem ok_evwd (F : FnM K "weekday" "DatedEvent.weekday" s_DatedEvent_weekday f fd) : FnOk P w K mg base CX0 1 f fd ["self"] (spGetA K "_weekday") := by
  refine F.ok sc_evwd (fun vs H Q E h => ?_) (fun cdv A outer s H vs Q E hr h => ?_)
  · obtain ⟨C, a, dx, fs, v, rfl, _⟩ := h
    rfl
  · obtain ⟨C, a, dx, fs, v, rfl, O, ha, hv, q⟩ := h
    have sc := sc_evwd
    refine ⟨_, PSs.nox (pss_one (ps_ret (pe_fld (pv 0) rfl))), ?_⟩
    walk_at "go"
    exact ⟨a, C, dx, fs, v, rfl, ha, O.cls, O.n3, hv, q⟩
theorem sc_latU : FnScope ["self", "day"] ["self", "day"] (defScope s_Event_latest) := ⟨rfl, rfl, rfl, by decide +kernel, rfl, by decide +kernel, by decide +kernel⟩
theorem ok_latU (F : FnM K "latest" "Event.latest" s_Event_latest f fd) (hNeed : HasE P w K mg base 2 "need_number" ["value"] (spNeedNum K IN)) : FnOk P w K mg base (L2.CX P w) 3 f fd ["self", "day"] (spLat K DE UE IN false) := by
  refine F.ok sc_latU (fun vs H Q E h => ?_) (fun cdv A outer s H vs Q E hr h => ?_)
  · obtain ⟨v, y, n, c, note, s, rfl, _⟩ := h
    rfl
  · obtain ⟨v, y, n, c, note, s, rfl, hd, hc, ⟨a, dx, rfl, ha⟩, hs, q1, q2⟩ := h
    have sc := sc_latU
    cases note with
    | some w => cases hd
    | none =>
    refine ⟨_, (pss_cons (ps_expr (pe_hasE (E := E) hNeed hr (by decide) (passes_call (takes_of rfl rfl rfl rfl) (fun _ _ _ _ h => h)) (pa_cons (pv 1) pa_nil)))
      (pss_one (ps_ret (pv 1)))), ?_⟩
    walk_at "ex"
    refine ⟨y, s, rfl, hs, fun hi => ?_, q2⟩
    obtain ⟨d, rfl, rfl⟩ : ∃ d, y = .int d ∧ s = .int d := by
      cases hs with
      | int i => exact ⟨i, rfl, rfl⟩
      | _ => cases hi
    walk_at "ex"
    exact q1 d rfl
theorem sc_latD : FnScope ["self", "day"] ["self", "day"] (defScope s_DatedEvent_latest) := ⟨rfl, rfl, rfl, by decide +kernel, rfl, by decide +kernel, by decide +kernel⟩
theorem ok_latD (F : FnM K "latest" "DatedEvent.latest" s_DatedEvent_latest f fd) (O : EvO K DE) (hNeed : HasE P w K mg base 2 "need_number" ["value"] (spNeedNum K IN)) : FnOk P w K mg base (L2.CX P w) 3 f fd ["self", "day"] (spLat K DE UE IN true) := by
  refine F.ok sc_latD (fun vs H Q E h => ?_) (fun cdv A outer s H vs Q E hr h => ?_)
  · obtain ⟨v, y, n, c, note, s, rfl, _⟩ := h
    rfl
  · obtain ⟨v, y, n, c, note, s, rfl, hd, hc, ⟨a, dx, rfl, ha⟩, hs, q1, q2⟩ := h
    have sc := sc_latD
    cases note with
    | none => cases hd
    | some w =>
    refine ⟨_, (pss_cons (ps_expr (pe_hasE (E := E) hNeed hr (by decide) (passes_call (takes_of rfl rfl rfl rfl) (fun _ _ _ _ h => h)) (pa_cons (pv 1) pa_nil)))
      (pss_one (ps_ret (pe_op op_sub (pv 1) (pe_op op_mod (pe_op op_sub (pv 1) (pe_fld (pv 0) rfl)) (pe_fld (pv 0) rfl)))))), ?_⟩
    walk_at "ex"
    refine ⟨y, s, rfl, hs, fun hi => ?_, q2⟩
    obtain ⟨d, rfl, rfl⟩ : ∃ d, y = .int d ∧ s = .int d := by
      cases hs with
      | int i => exact ⟨i, rfl, rfl⟩
      | _ => cases hi
    walk_at "ex"
    refine ⟨a, DE, dx, _, .int w, rfl, ha, O.cls, O.n3, rfl, ?_⟩
    walk_at "ex"
    refine ⟨a, DE, dx, _, .int c, rfl, ha, O.cls, O.n2, rfl, ?_⟩
    walk_at "ex"
    exact q1 d rfl
end
end K05
set_option Elab.async false
set_option linter.all false
set_option maxRecDepth 100000
set_option maxHeartbeats 400000
namespace K05
open PySem PySem.Spec PyProof.Rows L2 WL
local macro_rules | `(tactic| walk_at "side") => `(tactic| first | (show (_ ∧ _) ∨ (_ ∧ _); omega) | (exact ⟨by omega, by omega⟩) | (show (0 : Int) < _; omega) | omega)
local macro_rules | `(tactic| walk_at "go") => `(tactic| (repeat (first
  | with_reducible refine g_seq ?_ | with_reducible refine g_asgN ?_ | with_reducible refine g_ret ?_ | with_reducible refine g_drop ?_ | with_reducible refine g_ifS ?_ | with_reducible refine g_next ?_
  | with_reducible refine g_var rfl ?_ | with_reducible refine g_c ?_ | with_reducible refine g_op ?_ | with_reducible refine g_un ?_ | with_reducible refine g_rI0 ?_ | ((with_reducible refine g_rI ?_ ?_); next => walk_at "side") | with_reducible refine g_test ?_ | with_reducible refine g_bl ?_
  | with_reducible refine g_nil ?_ | with_reducible refine g_cons ?_ | with_reducible refine g_call ?_ | with_reducible refine g_cb ?_ | with_reducible refine g_if ?_ | with_reducible refine g_par ?_ | with_reducible refine g_two ?_
  | with_reducible refine g_asg ?_ | with_reducible refine g_name ?_ | with_reducible refine g_sub ?_ | with_reducible refine g_yes ?_ | with_reducible refine g_gcons ?_ | with_reducible refine g_gnil ?_ | with_reducible refine g_dget ?_ | with_reducible refine g_dput ?_ | with_reducible refine g_rng1 ?_ | with_reducible refine g_rng2 ?_
  | ((with_reducible refine g_one ?_ ?_); next => omega) | ((with_reducible refine g_twoI ?_ ?_); next => omega) | with_reducible refine g_isNon ?_ | with_reducible refine g_andV ?_ | with_reducible refine g_revT ?_ | with_reducible refine g_itup ?_ | with_reducible refine g_methK0 ?_ | with_reducible refine g_methS ?_ | with_reducible refine g_errF ?_ | with_reducible refine g_prop ?_ | with_reducible refine g_con ?_ | with_reducible refine g_make ?_ | with_reducible refine g_fld ?_ | with_reducible refine g_sfld ?_ | with_reducible refine g_iftn ?_ | with_reducible refine g_iffn ?_ | with_reducible refine g_orV ?_ | with_reducible refine g_notV ?_ | with_reducible refine g_tB ?_ | with_reducible refine g_chain ?_ | with_reducible refine g_neg ?_ | with_reducible refine g_cval ?_ | with_reducible refine g_enumT ?_ | with_reducible refine g_andT ?_ | with_reducible refine g_orT ?_ | with_reducible refine g_notT ?_ | with_reducible refine g_sl ?_ | with_reducible refine g_part ?_ | with_reducible refine g_parI ?_ | with_reducible refine g_noPart ?_ | with_reducible refine g_pcons ?_ | with_reducible refine g_pnil ?_ | with_reducible refine g_list ?_ | with_reducible refine g_lc ?_ | with_reducible refine g_for ?_ | with_reducible refine g_enum ?_ | with_reducible refine g_ift ?_ | with_reducible refine g_iff ?_ | with_reducible refine And.intro rfl ?_ | with_reducible refine g_notNon ?_)))
local macro_rules | `(tactic| walk_at "ex") => `(tactic| (repeat (first
  | with_reducible refine g_seqAsg ?_ | with_reducible refine g_seqFld ?_ | with_reducible refine g_seqDrop ?_ | with_reducible refine g_seqPut ?_ | with_reducible refine g_seqPar ?_ | with_reducible refine g_asgN ?_ | with_reducible refine g_ret ?_ | with_reducible refine g_drop ?_ | with_reducible refine g_next ?_
  | with_reducible refine g_var rfl ?_ | with_reducible refine g_c ?_ | with_reducible refine g_op ?_ | with_reducible refine g_un ?_ | with_reducible refine g_rI0 ?_ | ((with_reducible refine g_rI ?_ ?_); next => walk_at "side") | with_reducible refine g_test ?_ | with_reducible refine g_bl ?_
  | with_reducible refine g_nil ?_ | with_reducible refine g_cons ?_ | with_reducible refine g_call ?_ | with_reducible refine g_cb ?_ | with_reducible refine g_if ?_ | with_reducible refine g_par ?_ | with_reducible refine g_two ?_
  | with_reducible refine g_asg ?_ | with_reducible refine g_name ?_ | with_reducible refine g_sub ?_ | with_reducible refine g_yes ?_ | with_reducible refine g_gcons ?_ | with_reducible refine g_gnil ?_ | with_reducible refine g_dget ?_ | with_reducible refine g_dput ?_ | with_reducible refine g_rng1 ?_ | with_reducible refine g_rng2 ?_
  | ((with_reducible refine g_one ?_ ?_); next => omega) | ((with_reducible refine g_twoI ?_ ?_); next => omega) | with_reducible refine g_isNon ?_ | with_reducible refine g_andV ?_ | with_reducible refine g_revT ?_ | with_reducible refine g_itup ?_ | with_reducible refine g_methK0 ?_ | with_reducible refine g_methS ?_ | with_reducible refine g_errF ?_ | with_reducible refine g_prop ?_ | with_reducible refine g_con ?_ | with_reducible refine g_make ?_ | with_reducible refine g_fld ?_ | with_reducible refine g_sfld ?_ | with_reducible refine g_iftn ?_ | with_reducible refine g_iffn ?_ | with_reducible refine g_orV ?_ | with_reducible refine g_notV ?_ | with_reducible refine g_tB ?_ | with_reducible refine g_chain ?_ | with_reducible refine g_neg ?_ | with_reducible refine g_cval ?_ | with_reducible refine g_enumT ?_ | with_reducible refine g_proj ?_ | with_reducible refine g_andT ?_ | with_reducible refine g_orT ?_ | with_reducible refine g_notT ?_ | with_reducible refine g_sl ?_ | with_reducible refine g_part ?_ | with_reducible refine g_parI ?_ | with_reducible refine g_noPart ?_ | with_reducible refine g_pcons ?_ | with_reducible refine g_pnil ?_ | with_reducible refine g_list ?_ | with_reducible refine g_lc ?_ | with_reducible refine g_enum ?_ | with_reducible refine g_ift ?_ | with_reducible refine g_iff ?_ | with_reducible refine And.intro rfl ?_ | with_reducible refine g_notNon ?_)))
section
open NdefX
variable {P : Program} {w : World} {K : PySem.W.Frag} {mg : Str → Option Value} {base : Heap} {f : Addr} {fd : FuncData} {DC DE UE IE IN : Addr}
theorem sc_evD : NScope ["self", "number", "modulus", "weekday", "__class__"] ["self", "number", "modulus", "weekday"] ["__class__"] (defScope s_DatedEvent_init) := nscope_by (by decide +kernel)
theorem ok_evinitD (J : OwnI P K DE f s_DatedEvent_init fd) {f2 : Addr} {fd2 : FuncData} (M : SupC P K mg DE f2) (O : EvO K DE) (F2 : FnOk P w K mg base CX0 1 f2 fd2 ["self", "number", "modulus"] (spEvInit K)) (B2 : Binds K fd2 ["self", "number", "modulus"] []) : FnOk P w K mg base CX0 3 f fd ["self", "number", "modulus", "weekday"] (spEvInitD DE) := by
  refine fnOk_sup (k2 := 1) (k := 2) (CX2 := CX0) J M sc_evD rfl rfl rfl (by decide +kernel) (by decide +kernel) ⟨_, rfl, rfl⟩ (fun _ => rfl) F2 B2 (by decide) (fun vs H Q E h => ?_) (fun F A outer s H vs Q E hF hr h => ?_)
  · obtain ⟨a, dx, x, y, z, rfl, _⟩ := h
    rfl
  · obtain ⟨a, dx, x, y, z, rfl, ha, q⟩ := h
    obtain ⟨c1, c2, c3, c4, c5, c6, c7⟩ := F
    have hF : c5 = defScope s_DatedEvent_init := hF
    subst hF
    refine ⟨a, dx, [], [x, y, z], _, _, E0, rfl, ha, pa_cons (pv 1) (pa_cons (pv 2) pa_nil), PSs.nox (pss_one (ps_fld (pv 0) (pv 3) rfl)), pass0, rfl, rfl, ?_⟩
    walk_at "go"
    refine ⟨DE, a, dx, x, y, rfl, O, ha, fun H' h1 s1 => ?_⟩
    walk_at "go"
    refine g_put O.cls O.n3 h1 (by show 2 < 1000; decide) ?_
    refine q _ (by rw [upd_same]; rfl) fun b o e h => ?_
    rw [upd_ne e]
    exact s1 _ _ e h
theorem sc_fits : FnScope ["self", "day"] ["self", "day"] (defScope s_Event_fits) := ⟨rfl, rfl, rfl, by decide +kernel, rfl, by decide +kernel, by decide +kernel⟩
theorem ok_fits (F : FnM K "fits" "Event.fits" s_Event_fits f fd) (OD : EvO K DE) (OU : EvO K UE) (LD : LatF P w K mg base DE UE IN DE true) (LU : LatF P w K mg base DE UE IN UE false) : FnOk P w K mg base (L2.CX P w) 4 f fd ["self", "day"] (spFits K DE UE IN) := by
  refine F.ok sc_fits (fun vs H Q E h => ?_) (fun cdv A outer s H vs Q E hr h => ?_)
  · obtain ⟨v, y, n, c, note, s, rfl, _⟩ := h
    rfl
  · obtain ⟨v, y, n, c, note, s, rfl, hc, ⟨a, dx, rfl, ha⟩, hs, q1, q2⟩ := h
    have sc := sc_fits
    obtain ⟨O, L⟩ : EvO K (evC DE UE note) ∧ LatF P w K mg base DE UE IN (evC DE UE note) note.isSome := by
      cases note with
      | none => exact ⟨OU, LU⟩
      | some w => exact ⟨OD, LD⟩
    obtain ⟨fL, fdL, mL, bL, okL, _⟩ := L.ex
    refine ⟨_, (pss_one (ps_ret (pe_cmpR op_eq (pe_meth (E := E) (pv 0) O.cls mL okL hr bL .nil (passes_call (takes_of rfl rfl rfl rfl) (fun _ _ _ _ h => h)) (pa_cons (pv 1) pa_nil)) (pv 1) (nomark _)))), ?_⟩
    walk_at "go"
    refine g_meth ?_
    walk_at "go"
    refine ⟨a, dx, _, rfl, ha, by cases note <;> rfl, ?_⟩
    walk_at "go"
    refine ⟨.ref a, y, n, c, note, s, rfl, rfl, hc, ⟨a, dx, rfl, ha⟩, hs, fun i e => ?_, q2⟩
    subst e
    cases hs
    walk_at "go"
    refine ⟨rfl, ?_⟩
    have z := q1 i rfl
    rw [show decide (V.int (latD c note i) = V.int i) = decide (latD c note i = i) by simp]
    exact z
theorem sc_cho : GScope ["self", "weekday"] ["self"] (defScope s_Event_choices) := ⟨rfl, rfl, rfl, by decide +kernel, rfl, by decide +kernel, by decide +kernel⟩
end
end K05
set_option Elab.async false
set_option linter.all false
set_option maxRecDepth 100000
set_option maxHeartbeats 400000
namespace K05
open PySem PySem.Spec PyProof.Rows L2 WL
local macro_rules | `(tactic| walk_at "side") => `(tactic| first | (show (_ ∧ _) ∨ (_ ∧ _); omega) | (exact ⟨by omega, by omega⟩) | (show (0 : Int) < _; omega) | omega)
local macro_rules | `(tactic| walk_at "go") => `(tactic| (repeat (first
  | with_reducible refine g_seq ?_ | with_reducible refine g_asgN ?_ | with_reducible refine g_ret ?_ | with_reducible refine g_drop ?_ | with_reducible refine g_ifS ?_ | with_reducible refine g_next ?_
  | with_reducible refine g_var rfl ?_ | with_reducible refine g_c ?_ | with_reducible refine g_op ?_ | with_reducible refine g_un ?_ | with_reducible refine g_rI0 ?_ | ((with_reducible refine g_rI ?_ ?_); next => walk_at "side") | with_reducible refine g_test ?_ | with_reducible refine g_bl ?_
  | with_reducible refine g_nil ?_ | with_reducible refine g_cons ?_ | with_reducible refine g_call ?_ | with_reducible refine g_cb ?_ | with_reducible refine g_if ?_ | with_reducible refine g_par ?_ | with_reducible refine g_two ?_
  | with_reducible refine g_asg ?_ | with_reducible refine g_name ?_ | with_reducible refine g_sub ?_ | with_reducible refine g_yes ?_ | with_reducible refine g_gcons ?_ | with_reducible refine g_gnil ?_ | with_reducible refine g_dget ?_ | with_reducible refine g_dput ?_ | with_reducible refine g_rng1 ?_ | with_reducible refine g_rng2 ?_
  | ((with_reducible refine g_one ?_ ?_); next => omega) | ((with_reducible refine g_twoI ?_ ?_); next => omega) | with_reducible refine g_isNon ?_ | with_reducible refine g_andV ?_ | with_reducible refine g_revT ?_ | with_reducible refine g_itup ?_ | with_reducible refine g_methK0 ?_ | with_reducible refine g_methS ?_ | with_reducible refine g_errF ?_ | with_reducible refine g_prop ?_ | with_reducible refine g_con ?_ | with_reducible refine g_make ?_ | with_reducible refine g_fld ?_ | with_reducible refine g_sfld ?_ | with_reducible refine g_iftn ?_ | with_reducible refine g_iffn ?_ | with_reducible refine g_orV ?_ | with_reducible refine g_notV ?_ | with_reducible refine g_tB ?_ | with_reducible refine g_chain ?_ | with_reducible refine g_neg ?_ | with_reducible refine g_cval ?_ | with_reducible refine g_enumT ?_ | with_reducible refine g_andT ?_ | with_reducible refine g_orT ?_ | with_reducible refine g_notT ?_ | with_reducible refine g_sl ?_ | with_reducible refine g_part ?_ | with_reducible refine g_parI ?_ | with_reducible refine g_noPart ?_ | with_reducible refine g_pcons ?_ | with_reducible refine g_pnil ?_ | with_reducible refine g_list ?_ | with_reducible refine g_lc ?_ | with_reducible refine g_for ?_ | with_reducible refine g_enum ?_ | with_reducible refine g_ift ?_ | with_reducible refine g_iff ?_ | with_reducible refine And.intro rfl ?_ | with_reducible refine g_notNon ?_)))
local macro_rules | `(tactic| walk_at "ex") => `(tactic| (repeat (first
  | with_reducible refine g_seqAsg ?_ | with_reducible refine g_seqFld ?_ | with_reducible refine g_seqDrop ?_ | with_reducible refine g_seqPut ?_ | with_reducible refine g_seqPar ?_ | with_reducible refine g_asgN ?_ | with_reducible refine g_ret ?_ | with_reducible refine g_drop ?_ | with_reducible refine g_next ?_
  | with_reducible refine g_var rfl ?_ | with_reducible refine g_c ?_ | with_reducible refine g_op ?_ | with_reducible refine g_un ?_ | with_reducible refine g_rI0 ?_ | ((with_reducible refine g_rI ?_ ?_); next => walk_at "side") | with_reducible refine g_test ?_ | with_reducible refine g_bl ?_
  | with_reducible refine g_nil ?_ | with_reducible refine g_cons ?_ | with_reducible refine g_call ?_ | with_reducible refine g_cb ?_ | with_reducible refine g_if ?_ | with_reducible refine g_par ?_ | with_reducible refine g_two ?_
  | with_reducible refine g_asg ?_ | with_reducible refine g_name ?_ | with_reducible refine g_sub ?_ | with_reducible refine g_yes ?_ | with_reducible refine g_gcons ?_ | with_reducible refine g_gnil ?_ | with_reducible refine g_dget ?_ | with_reducible refine g_dput ?_ | with_reducible refine g_rng1 ?_ | with_reducible refine g_rng2 ?_
  | ((with_reducible refine g_one ?_ ?_); next => omega) | ((with_reducible refine g_twoI ?_ ?_); next => omega) | with_reducible refine g_isNon ?_ | with_reducible refine g_andV ?_ | with_reducible refine g_revT ?_ | with_reducible refine g_itup ?_ | with_reducible refine g_methK0 ?_ | with_reducible refine g_methS ?_ | with_reducible refine g_errF ?_ | with_reducible refine g_prop ?_ | with_reducible refine g_con ?_ | with_reducible refine g_make ?_ | with_reducible refine g_fld ?_ | with_reducible refine g_sfld ?_ | with_reducible refine g_iftn ?_ | with_reducible refine g_iffn ?_ | with_reducible refine g_orV ?_ | with_reducible refine g_notV ?_ | with_reducible refine g_tB ?_ | with_reducible refine g_chain ?_ | with_reducible refine g_neg ?_ | with_reducible refine g_cval ?_ | with_reducible refine g_enumT ?_ | with_reducible refine g_proj ?_ | with_reducible refine g_andT ?_ | with_reducible refine g_orT ?_ | with_reducible refine g_notT ?_ | with_reducible refine g_sl ?_ | with_reducible refine g_part ?_ | with_reducible refine g_parI ?_ | with_reducible refine g_noPart ?_ | with_reducible refine g_pcons ?_ | with_reducible refine g_pnil ?_ | with_reducible refine g_list ?_ | with_reducible refine g_lc ?_ | with_reducible refine g_enum ?_ | with_reducible refine g_ift ?_ | with_reducible refine g_iff ?_ | with_reducible refine And.intro rfl ?_ | with_reducible refine g_notNon ?_)))
section
variable {P : Program} {w : World} {K : PySem.W.Frag} {mg : Str → Option Value} {base : Heap} {f : Addr} {fd : FuncData} {DC EC DE UE IE IN : Addr}
/-- `fits`: what its callers know -/
structure FitF (P : Program) (w : World) (K : PySem.W.Frag) (mg : Str → Option Value) (base : Heap) (DE UE IN : Addr) : Prop where
  ex : ∃ f fd, Meth K DE "fits" f ∧ Meth K UE "fits" f ∧ Binds K fd ["self", "day"] [] ∧ FnOk P w K mg base (L2.CX P w) 4 f fd ["self", "day"] (spFits K DE UE IN) ∧ KBn K fd ["self", "day"] 1 ["day"] (fun us ws => us ++ ws) (fun vs zs => vs ++ zs)
theorem FitF.at {note : Option Int} (h : FitF P w K mg base DE UE IN) : ∃ f fd, Meth K (evC DE UE note) "fits" f ∧ Binds K fd ["self", "day"] [] ∧ FnOk P w K mg base (L2.CX P w) 4 f fd ["self", "day"] (spFits K DE UE IN) ∧ KBn K fd ["self", "day"] 1 ["day"] (fun us ws => us ++ ws) (fun vs zs => vs ++ zs) := by
  obtain ⟨f, fd, h1, h2, h3, h4, h5⟩ := h.ex
  cases note with
  | none => exact ⟨f, fd, h2, h3, h4, h5⟩
  | some w => exact ⟨f, fd, h1, h3, h4, h5⟩
theorem ok_cho (F : FnM K "choices" "Event.choices" s_Event_choices f fd) (T : Blt mg) (OD : EvO K DE) (OU : EvO K UE) (Ft : FitF P w K mg base DE UE IN) : GFn P w K mg base 6 f fd ["self"] (spCho DE UE) := by
  obtain ⟨oc, od, dV, kV, doc, pm, an, cdv, ct, osl, rfl, lk, hcd, _, _⟩ := F.ex
  refine gfn_of (k := 5) lk hcd sc_cho (fun vs H Q E h => ?_) (fun A outer s H vs Q E pn hr h => ?_)
  · obtain ⟨v, n, c, note, rfl, _⟩ := h
    rfl
  · obtain ⟨v, n, c, note, rfl, hc, hw, ⟨a, dx, rfl, ha⟩, q⟩ := h
    have sc := sc_cho
    have O : EvO K (evC DE UE note) := by
      cases note with
      | none => exact OU
      | some w => exact OD
    obtain ⟨fL, fdL, mL, bL, okL, _⟩ := Ft.at (note := note)
    refine ⟨_, (gss_cons (gs_for owns_gcx rfl (pi_range1 (by rfl) T.range (pa_cons (pe_fld (pv 0) rfl) pa_nil)) (pg_name (i := 1) sc.nd rfl (Or.inl rfl))
      (gss_cons (gs_if (pt_val (pe_meth (E := fun _ _ _ => False) (pv 0) O.cls mL okL (hr.mono (by decide)) bL .nil (passes_call takes_gcx (fun _ _ _ _ h => h.elim)) (pa_cons (pv 1) pa_nil)))
        (gss_cons (gs_yield (pv 1)) gss_nil) gss_nil) gss_nil)) gss_nil), ?_⟩
    refine gg_seq ?_
    refine gg_for ?_
    walk_at "go"
    refine ⟨a, evC DE UE note, dx, _, .int c, rfl, ha, O.cls, O.n2, by cases note <;> rfl, ?_⟩
    refine g_nil ?_
    refine ⟨c, rfl, by omega, by omega, ?_⟩
    refine gfor_range (fun i ys σ H' => (∃ x, σ = [some (.ref a), x]) ∧ ys = ((choD c note).filter (fun k => decide (k < (i : Int)))).map V.int ∧ ∀ b o, H b = some o → H' b = some o) ⟨⟨_, rfl⟩, ?_, fun _ _ h => h⟩ ?_ ?_
    · rw [choD_none hw]; rfl
    · rintro i ys σ H1 hi ⟨⟨x, rfl⟩, rfl, s1⟩
      walk_at "go"
      refine gg_seq ?_
      refine gg_if ?_
      walk_at "go"
      refine g_meth ?_
      walk_at "go"
      refine ⟨a, dx, _, rfl, s1 _ _ ha, by cases note <;> rfl, ?_⟩
      walk_at "go"
      refine ⟨.ref a, _, n, c, note, _, rfl, hc.1, ⟨a, dx, rfl, s1 _ _ ha⟩, .int _, fun j e => ?_, fun h => by cases h⟩
      cases e
      have e0 : (0 : Int) + (i : Int) = (i : Int) := by omega
      rw [e0]
      have hi' : (i : Int) < c := by omega
      have st := choD_step hc.1 hw hi'
      refine g_bl ?_
      by_cases e : latD c note i = i
      · rw [decide_eq_true e, if_pos rfl]
        rw [if_pos e] at st
        refine gg_seq ?_
        refine gg_yield (szl (by have := choD_len (o := note) hc (fun k => decide (k < (i : Int))); rw [List.length_map]; omega)) ?_
        walk_at "go"
        refine gg_nil ?_
        refine gg_nil ?_
        exact ⟨⟨_, rfl⟩, by rw [st, List.map_append]; rfl, s1⟩
      · rw [decide_eq_false e, if_neg Bool.false_ne_true]
        rw [if_neg e, List.append_nil] at st
        refine gg_nil ?_
        refine gg_nil ?_
        exact ⟨⟨_, rfl⟩, by rw [st], s1⟩
    · rintro ys σ H1 ⟨⟨x, rfl⟩, rfl, s1⟩
      refine gg_nil ?_
      rw [choD_all hc.1 hw]
      exact q _ s1
end
end K05
set_option Elab.async false
set_option linter.all false
set_option maxRecDepth 100000
set_option maxHeartbeats 400000
namespace K05
open PySem PySem.Spec PyProof.Rows L2 WL
local macro_rules | `(tactic| walk_at "side") => `(tactic| first | (show (_ ∧ _) ∨ (_ ∧ _); omega) | (exact ⟨by omega, by omega⟩) | (show (0 : Int) < _; omega) | omega)
local macro_rules | `(tactic| walk_at "go") => `(tactic| (repeat (first
  | with_reducible refine g_seq ?_ | with_reducible refine g_asgN ?_ | with_reducible refine g_ret ?_ | with_reducible refine g_drop ?_ | with_reducible refine g_ifS ?_ | with_reducible refine g_next ?_
  | with_reducible refine g_var rfl ?_ | with_reducible refine g_c ?_ | with_reducible refine g_op ?_ | with_reducible refine g_un ?_ | with_reducible refine g_rI0 ?_ | ((with_reducible refine g_rI ?_ ?_); next => walk_at "side") | with_reducible refine g_test ?_ | with_reducible refine g_bl ?_
  | with_reducible refine g_nil ?_ | with_reducible refine g_cons ?_ | with_reducible refine g_call ?_ | with_reducible refine g_cb ?_ | with_reducible refine g_if ?_ | with_reducible refine g_par ?_ | with_reducible refine g_two ?_
  | with_reducible refine g_asg ?_ | with_reducible refine g_name ?_ | with_reducible refine g_sub ?_ | with_reducible refine g_yes ?_ | with_reducible refine g_gcons ?_ | with_reducible refine g_gnil ?_ | with_reducible refine g_dget ?_ | with_reducible refine g_dput ?_ | with_reducible refine g_rng1 ?_ | with_reducible refine g_rng2 ?_
  | ((with_reducible refine g_one ?_ ?_); next => omega) | ((with_reducible refine g_twoI ?_ ?_); next => omega) | with_reducible refine g_isNon ?_ | with_reducible refine g_andV ?_ | with_reducible refine g_revT ?_ | with_reducible refine g_itup ?_ | with_reducible refine g_methK0 ?_ | with_reducible refine g_methS ?_ | with_reducible refine g_errF ?_ | with_reducible refine g_prop ?_ | with_reducible refine g_con ?_ | with_reducible refine g_make ?_ | with_reducible refine g_fld ?_ | with_reducible refine g_sfld ?_ | with_reducible refine g_iftn ?_ | with_reducible refine g_iffn ?_ | with_reducible refine g_orV ?_ | with_reducible refine g_notV ?_ | with_reducible refine g_tB ?_ | with_reducible refine g_chain ?_ | with_reducible refine g_neg ?_ | with_reducible refine g_cval ?_ | with_reducible refine g_enumT ?_ | with_reducible refine g_andT ?_ | with_reducible refine g_orT ?_ | with_reducible refine g_notT ?_ | with_reducible refine g_sl ?_ | with_reducible refine g_part ?_ | with_reducible refine g_parI ?_ | with_reducible refine g_noPart ?_ | with_reducible refine g_pcons ?_ | with_reducible refine g_pnil ?_ | with_reducible refine g_list ?_ | with_reducible refine g_lc ?_ | with_reducible refine g_for ?_ | with_reducible refine g_enum ?_ | with_reducible refine g_ift ?_ | with_reducible refine g_iff ?_ | with_reducible refine And.intro rfl ?_ | with_reducible refine g_notNon ?_)))
local macro_rules | `(tactic| walk_at "ex") => `(tactic| (repeat (first
  | with_reducible refine g_seqAsg ?_ | with_reducible refine g_seqFld ?_ | with_reducible refine g_seqDrop ?_ | with_reducible refine g_seqPut ?_ | with_reducible refine g_seqPar ?_ | with_reducible refine g_asgN ?_ | with_reducible refine g_ret ?_ | with_reducible refine g_drop ?_ | with_reducible refine g_next ?_
  | with_reducible refine g_var rfl ?_ | with_reducible refine g_c ?_ | with_reducible refine g_op ?_ | with_reducible refine g_un ?_ | with_reducible refine g_rI0 ?_ | ((with_reducible refine g_rI ?_ ?_); next => walk_at "side") | with_reducible refine g_test ?_ | with_reducible refine g_bl ?_
  | with_reducible refine g_nil ?_ | with_reducible refine g_cons ?_ | with_reducible refine g_call ?_ | with_reducible refine g_cb ?_ | with_reducible refine g_if ?_ | with_reducible refine g_par ?_ | with_reducible refine g_two ?_
  | with_reducible refine g_asg ?_ | with_reducible refine g_name ?_ | with_reducible refine g_sub ?_ | with_reducible refine g_yes ?_ | with_reducible refine g_gcons ?_ | with_reducible refine g_gnil ?_ | with_reducible refine g_dget ?_ | with_reducible refine g_dput ?_ | with_reducible refine g_rng1 ?_ | with_reducible refine g_rng2 ?_
  | ((with_reducible refine g_one ?_ ?_); next => omega) | ((with_reducible refine g_twoI ?_ ?_); next => omega) | with_reducible refine g_isNon ?_ | with_reducible refine g_andV ?_ | with_reducible refine g_revT ?_ | with_reducible refine g_itup ?_ | with_reducible refine g_methK0 ?_ | with_reducible refine g_methS ?_ | with_reducible refine g_errF ?_ | with_reducible refine g_prop ?_ | with_reducible refine g_con ?_ | with_reducible refine g_make ?_ | with_reducible refine g_fld ?_ | with_reducible refine g_sfld ?_ | with_reducible refine g_iftn ?_ | with_reducible refine g_iffn ?_ | with_reducible refine g_orV ?_ | with_reducible refine g_notV ?_ | with_reducible refine g_tB ?_ | with_reducible refine g_chain ?_ | with_reducible refine g_neg ?_ | with_reducible refine g_cval ?_ | with_reducible refine g_enumT ?_ | with_reducible refine g_proj ?_ | with_reducible refine g_andT ?_ | with_reducible refine g_orT ?_ | with_reducible refine g_notT ?_ | with_reducible refine g_sl ?_ | with_reducible refine g_part ?_ | with_reducible refine g_parI ?_ | with_reducible refine g_noPart ?_ | with_reducible refine g_pcons ?_ | with_reducible refine g_pnil ?_ | with_reducible refine g_list ?_ | with_reducible refine g_lc ?_ | with_reducible refine g_enum ?_ | with_reducible refine g_ift ?_ | with_reducible refine g_iff ?_ | with_reducible refine And.intro rfl ?_ | with_reducible refine g_notNon ?_)))
section
variable {P : Program} {w : World} {K : PySem.W.Frag} {mg : Str → Option Value} {base : Heap} {f : Addr} {fd : FuncData} {DC EC DE UE IE IN : Addr}
/-- the classes of events for their callers -/
structure EvF (P : Program) (w : World) (K : PySem.W.Frag) (mg : Str → Option Value) (base : Heap) (EC DE UE IN : Addr) : Prop where
  od : EvO K DE
  ou : EvO K UE
  atE : mg "Event" = some (.ref EC)
  atD : mg "DatedEvent" = some (.ref DE)
  atU : mg "UndatedEvent" = some (.ref UE)
  mkU : ∃ f fd, Mk K UE f ∧ Binds K fd ["self", "number", "modulus"] [] ∧ FnOk P w K mg base CX0 1 f fd ["self", "number", "modulus"] (spEvInit K)
  mkD : ∃ f fd, Mk K DE f ∧ Binds K fd ["self", "number", "modulus", "weekday"] [] ∧ FnOk P w K mg base CX0 3 f fd ["self", "number", "modulus", "weekday"] (spEvInitD DE)
  ld : LatF P w K mg base DE UE IN DE true
  lu : LatF P w K mg base DE UE IN UE false
  fits : FitF P w K mg base DE UE IN
  cho : ∃ f fd, Meth K DE "choices" f ∧ Meth K UE "choices" f ∧ Binds K fd ["self"] [] ∧ GFn P w K mg base 6 f fd ["self"] (spCho DE UE)
theorem EvF.o {note : Option Int} (V : EvF P w K mg base EC DE UE IN) : EvO K (evC DE UE note) := by
  cases note with
  | none => exact V.ou
  | some w => exact V.od
theorem EvF.l {note : Option Int} (V : EvF P w K mg base EC DE UE IN) : LatF P w K mg base DE UE IN (evC DE UE note) note.isSome := by
  cases note with
  | none => exact V.lu
  | some w => exact V.ld
theorem EvF.c {note : Option Int} (V : EvF P w K mg base EC DE UE IN) : ∃ f fd, Meth K (evC DE UE note) "choices" f ∧ Binds K fd ["self"] [] ∧ GFn P w K mg base 6 f fd ["self"] (spCho DE UE) := by
  obtain ⟨f, fd, h1, h2, h3, h4⟩ := V.cho
  cases note with
  | none => exact ⟨f, fd, h2, h3, h4⟩
  | some w => exact ⟨f, fd, h1, h3, h4⟩
theorem sc_event : FnScope ["self", "number", "weekday"] ["self", "number"] (defScope s_Diary_event) := ⟨rfl, rfl, rfl, by decide +kernel, rfl, by decide +kernel, by decide +kernel⟩
theorem ok_event (F : FnM K "event" "Diary.event" s_Diary_event f fd) (T : Blt mg) (D : DiaF P w K mg base DC IE) (V : EvF P w K mg base EC DE UE IN) : FnOk P w K mg base (L2.CX P w) 5 f fd ["self", "number"] (spEvent K DC DE UE IE) := by
  refine F.ok sc_event (fun vs H Q E h => ?_) (fun cdv A outer s H vs Q E hr h => ?_)
  · obtain ⟨v, y, c, w, ns, ls, s, rfl, _⟩ := h
    rfl
  · obtain ⟨v, y, c, w, ns, ls, s, rfl, ⟨a, dx, wv, bv, rfl, ha, hn, hl⟩, ok, hs, q1, q2⟩ := h
    have sc := sc_event
    have O := D.obj
    obtain ⟨fN, fdN, mN, bN, okN, _⟩ := D.need
    obtain ⟨fU, fdU, mU, bU, okU⟩ := V.mkU
    obtain ⟨fD, fdD, mD, bD, okD⟩ := V.mkD
    refine ⟨_, (pss_cons (ps_expr (pe_meth (E := E) (pv 0) O.cls mN okN (hr.mono (by decide)) bN .nil (passes_call (takes_of rfl rfl rfl rfl) (fun _ _ _ _ h => h)) (pa_cons (pv 1) pa_nil)))
      (pss_cons (ps_set (i := 2) sc.nd rfl (Or.inl rfl) (pe_ix (r := rIxT K) ix_tup (pe_fld (pv 0) rfl) (pv 1) (fun _ _ => rfl)))
      (pss_cons (ps_if (pt_cmpR op_isN (pv 2) pe_non (nomark _))
        (pss_one (ps_ret (pe_make (E := E0) mU okU (hr.mono (by decide)) (by rfl) V.atU bU .nil pass0 (pa_cons (pv 1) (pa_cons (pe_fld (pv 0) rfl) pa_nil)) (by decide) (by rfl) (by rfl))))
        pss_nil)
      (pss_one (ps_ret (pe_make (E := E0) mD okD (hr.mono (by decide)) (by rfl) V.atD bD .nil pass0 (pa_cons (pv 1) (pa_cons (pe_fld (pv 0) rfl) (pa_cons (pv 2) pa_nil))) (by decide) (by rfl) (by rfl))))))), ?_⟩
    obtain ⟨wa, rfl, hwa⟩ := fz_notes_inv hn
    walk_at "ex"
    refine g_meth ?_
    walk_at "ex"
    refine ⟨a, dx, _, rfl, ha, rfl, ?_⟩
    walk_at "ex"
    refine ⟨a, dx, _, _, y, wa, _, s, rfl, ha, SqT.of hwa, hs, fun hi => ?_, fun hi => ?_⟩
    · rw [List.length_map] at hi
      obtain ⟨d, rfl, rfl, h0, h1⟩ : ∃ d : Int, y = .int d ∧ s = .int d ∧ 0 ≤ d ∧ d ≤ (ns.length : Int) - 1 := by
        cases hs with
        | int i =>
          obtain ⟨z1, z2⟩ := He.ba hi
          exact ⟨i, rfl, rfl, of_decide_eq_true z1, of_decide_eq_true z2⟩
        | _ => cases hi
      obtain ⟨i, rfl⟩ := Int.eq_ofNat_of_zero_le h0
      have hi' : i < ns.length := by omega
      have hg : ns[i]? = some ns[i] := by simp [hi']
      walk_at "ex"
      refine g_f2 O ha ?_
      walk_at "ex"
      refine g_ixT (K := K) (SqT.of hwa) (v := noteV ns[i]) (WL.atI_nat (by simp [hi'])) ?_
      walk_at "ex"
      cases hni : ns[i] with
      | none =>
        walk_at "go"
        refine g_ift ?_
        walk_at "go"
        refine g_f1 O ha ?_
        walk_at "go"
        intro x dx' nx ndx ne
        have s1 : ∀ b o, H b = some o → upd (upd H dx' (.own x)) x (.ins UE dx' []) b = some o := fun b o h => by
          rw [upd_ne (ne_of_none h nx), upd_ne (ne_of_none h ndx)]; exact h
        refine ⟨UE, x, dx', _, _, rfl, V.ou, upd_same, fun H' h1' s2 => ⟨rfl, ?_⟩⟩
        exact q1 i none rfl (by rw [hg, hni]) x H' nx ⟨x, dx', rfl, h1'⟩ fun b o h => s2 b o (ne_of_none h nx) (s1 b o h)
      | some k =>
        walk_at "go"
        refine g_iff ?_
        walk_at "go"
        refine g_f1 O ha ?_
        walk_at "go"
        intro x dx' nx ndx ne
        have s1 : ∀ b o, H b = some o → upd (upd H dx' (.own x)) x (.ins DE dx' []) b = some o := fun b o h => by
          rw [upd_ne (ne_of_none h nx), upd_ne (ne_of_none h ndx)]; exact h
        refine ⟨x, dx', _, _, _, rfl, upd_same, fun H' h1' s2 => ⟨rfl, ?_⟩⟩
        exact q1 i (some k) rfl (by rw [hg, hni]) x H' nx ⟨x, dx', rfl, h1'⟩ fun b o h => s2 b o (ne_of_none h nx) (s1 b o h)
    · refine q2 ?_
      rw [List.length_map] at hi
      exact hi
/-- `event`: what its callers know -/
structure EventF (P : Program) (w : World) (K : PySem.W.Frag) (mg : Str → Option Value) (base : Heap) (DC DE UE IE : Addr) : Prop where
  ex : ∃ f fd, Meth K DC "event" f ∧ Binds K fd ["self", "number"] [] ∧ FnOk P w K mg base (L2.CX P w) 5 f fd ["self", "number"] (spEvent K DC DE UE IE) ∧ KBn K fd ["self", "number"] 1 ["number"] (fun us ws => us ++ ws) (fun vs zs => vs ++ zs)
theorem sc_events : GScope ["self", "number"] ["self"] (defScope s_Diary_events) := ⟨rfl, rfl, rfl, by decide +kernel, rfl, by decide +kernel, by decide +kernel⟩
theorem ok_events (F : FnM K "events" "Diary.events" s_Diary_events f fd) (T : Blt mg) (D : DiaF P w K mg base DC IE) (Ev : EventF P w K mg base DC DE UE IE) : GFn P w K mg base 7 f fd ["self"] (spEvsG DC DE UE) := by
  obtain ⟨oc, od, dV, kV, doc, pm, an, cdv, ct, osl, rfl, lk, hcd, _, _⟩ := F.ex
  refine gfn_of (k := 6) lk hcd sc_events (fun vs H Q E h => ?_) (fun A outer s H vs Q E pn hr h => ?_)
  · obtain ⟨v, c, w, ns, ls, rfl, _⟩ := h
    rfl
  · obtain ⟨v, c, w, ns, ls, rfl, hD, ok, q⟩ := h
    have sc := sc_events
    have O := D.obj
    obtain ⟨fV, fdV, mV, bV, okV, _⟩ := Ev.ex
    obtain ⟨a, dx, wv, bv, rfl, ha, hn, hl⟩ := id hD
    obtain ⟨wa, rfl, hwa⟩ := fz_notes_inv hn
    refine ⟨_, (gss_cons (gs_for owns_gcx rfl (pi_range1 (by rfl) T.range (pa_cons (pe_callB call_len_seq (by rfl) T.len PySem.boot_len (pa_cons (pe_fld (pv 0) rfl) pa_nil)) pa_nil)) (pg_name (i := 1) sc.nd rfl (Or.inl rfl))
      (gss_cons (gs_yield (pe_meth (E := fun _ _ _ => False) (pv 0) O.cls mV okV (hr.mono (by decide)) bV .nil (passes_call takes_gcx (fun _ _ _ _ h => h.elim)) (pa_cons (pv 1) pa_nil))) gss_nil)) gss_nil), ?_⟩
    refine gg_seq ?_
    refine gg_for ?_
    walk_at "go"
    refine g_f2 O ha ?_
    walk_at "go"
    refine g_len (K := K) (Or.inr (SqT.of hwa)) ?_
    walk_at "go"
    have n16 := ok.n16
    refine ⟨_, rfl, by omega, by rw [List.length_map]; omega, ?_⟩
    refine gfor_range (fun i ys σ H' => (∃ x, σ = [some (.ref a), x]) ∧ Evs DE UE c H' 0 ys (ns.take i) ∧ ∀ b o, H b = some o → H' b = some o) ⟨⟨_, rfl⟩, .nil, fun _ _ h => h⟩ ?_ ?_
    · rintro i ys σ H1 hi ⟨⟨x, rfl⟩, ev, s1⟩
      have hi' : i < ns.length := by
        have : ((List.map noteV ns).length : Int).toNat = ns.length := by simp
        omega
      have e0 : (0 : Int) + (i : Int) = (i : Int) := by omega
      rw [e0]
      walk_at "go"
      refine gg_seq ?_
      have hyl : ys.length = i := by rw [ev.length, List.length_take]; omega
      refine gg_yield (szl (by omega)) ?_
      refine g_meth ?_
      walk_at "go"
      refine ⟨a, dx, _, rfl, s1 _ _ ha, rfl, ?_⟩
      walk_at "go"
      refine ⟨.ref a, _, c, w, ns, ls, _, rfl, hD.same s1, ok, .int _, fun j n e hj y H2 ny hy s2 => ?_, fun h => ?_⟩
      · have ej : j = i := by
          injection e with e
          omega
        subst ej
        refine gg_nil ?_
        refine ⟨⟨_, rfl⟩, ?_, fun b o h => s2 _ _ (s1 _ _ h)⟩
        rw [List.take_add_one, hj]
        exact (ev.same s2).snoc (by rw [Nat.zero_add, hyl]; exact hy)
      · exfalso
        have z := within_int (lo := 0) (hi := (ns.length : Int) - 1) (i := (i : Int)) ⟨by omega, by omega⟩
        rw [h] at z
        cases z
    · rintro ys σ H1 ⟨⟨x, rfl⟩, ev, s1⟩
      refine gg_nil ?_
      have e : ((List.map noteV ns).length : Int).toNat = ns.length := by simp
      rw [e, List.take_length] at ev
      exact q _ _ ev s1
end
end K05
set_option Elab.async false
set_option linter.all false
set_option maxRecDepth 100000
set_option maxHeartbeats 400000
namespace K05
open PySem PySem.Spec PyProof.Rows L2 WL
local macro_rules | `(tactic| walk_at "side") => `(tactic| first | (show (_ ∧ _) ∨ (_ ∧ _); omega) | (exact ⟨by omega, by omega⟩) | (show (0 : Int) < _; omega) | omega)
local macro_rules | `(tactic| walk_at "go") => `(tactic| (repeat (first
  | with_reducible refine g_seq ?_ | with_reducible refine g_asgN ?_ | with_reducible refine g_ret ?_ | with_reducible refine g_drop ?_ | with_reducible refine g_ifS ?_ | with_reducible refine g_next ?_
  | with_reducible refine g_var rfl ?_ | with_reducible refine g_c ?_ | with_reducible refine g_op ?_ | with_reducible refine g_un ?_ | with_reducible refine g_rI0 ?_ | ((with_reducible refine g_rI ?_ ?_); next => walk_at "side") | with_reducible refine g_test ?_ | with_reducible refine g_bl ?_
  | with_reducible refine g_nil ?_ | with_reducible refine g_cons ?_ | with_reducible refine g_call ?_ | with_reducible refine g_cb ?_ | with_reducible refine g_if ?_ | with_reducible refine g_par ?_ | with_reducible refine g_two ?_
  | with_reducible refine g_asg ?_ | with_reducible refine g_name ?_ | with_reducible refine g_sub ?_ | with_reducible refine g_yes ?_ | with_reducible refine g_gcons ?_ | with_reducible refine g_gnil ?_ | with_reducible refine g_dget ?_ | with_reducible refine g_dput ?_ | with_reducible refine g_rng1 ?_ | with_reducible refine g_rng2 ?_
  | ((with_reducible refine g_one ?_ ?_); next => omega) | ((with_reducible refine g_twoI ?_ ?_); next => omega) | with_reducible refine g_isNon ?_ | with_reducible refine g_andV ?_ | with_reducible refine g_revT ?_ | with_reducible refine g_itup ?_ | with_reducible refine g_methK0 ?_ | with_reducible refine g_methS ?_ | with_reducible refine g_errF ?_ | with_reducible refine g_prop ?_ | with_reducible refine g_con ?_ | with_reducible refine g_make ?_ | with_reducible refine g_fld ?_ | with_reducible refine g_sfld ?_ | with_reducible refine g_iftn ?_ | with_reducible refine g_iffn ?_ | with_reducible refine g_orV ?_ | with_reducible refine g_notV ?_ | with_reducible refine g_tB ?_ | with_reducible refine g_chain ?_ | with_reducible refine g_neg ?_ | with_reducible refine g_cval ?_ | with_reducible refine g_enumT ?_ | with_reducible refine g_andT ?_ | with_reducible refine g_orT ?_ | with_reducible refine g_notT ?_ | with_reducible refine g_sl ?_ | with_reducible refine g_part ?_ | with_reducible refine g_parI ?_ | with_reducible refine g_noPart ?_ | with_reducible refine g_pcons ?_ | with_reducible refine g_pnil ?_ | with_reducible refine g_list ?_ | with_reducible refine g_lc ?_ | with_reducible refine g_for ?_ | with_reducible refine g_enum ?_ | with_reducible refine g_ift ?_ | with_reducible refine g_iff ?_ | with_reducible refine And.intro rfl ?_ | with_reducible refine g_notNon ?_)))
local macro_rules | `(tactic| walk_at "ex") => `(tactic| (repeat (first
  | with_reducible refine g_seqAsg ?_ | with_reducible refine g_seqFld ?_ | with_reducible refine g_seqDrop ?_ | with_reducible refine g_seqPut ?_ | with_reducible refine g_seqPar ?_ | with_reducible refine g_asgN ?_ | with_reducible refine g_ret ?_ | with_reducible refine g_drop ?_ | with_reducible refine g_next ?_
  | with_reducible refine g_var rfl ?_ | with_reducible refine g_c ?_ | with_reducible refine g_op ?_ | with_reducible refine g_un ?_ | with_reducible refine g_rI0 ?_ | ((with_reducible refine g_rI ?_ ?_); next => walk_at "side") | with_reducible refine g_test ?_ | with_reducible refine g_bl ?_
  | with_reducible refine g_nil ?_ | with_reducible refine g_cons ?_ | with_reducible refine g_call ?_ | with_reducible refine g_cb ?_ | with_reducible refine g_if ?_ | with_reducible refine g_par ?_ | with_reducible refine g_two ?_
  | with_reducible refine g_asg ?_ | with_reducible refine g_name ?_ | with_reducible refine g_sub ?_ | with_reducible refine g_yes ?_ | with_reducible refine g_gcons ?_ | with_reducible refine g_gnil ?_ | with_reducible refine g_dget ?_ | with_reducible refine g_dput ?_ | with_reducible refine g_rng1 ?_ | with_reducible refine g_rng2 ?_
  | ((with_reducible refine g_one ?_ ?_); next => omega) | ((with_reducible refine g_twoI ?_ ?_); next => omega) | with_reducible refine g_isNon ?_ | with_reducible refine g_andV ?_ | with_reducible refine g_revT ?_ | with_reducible refine g_itup ?_ | with_reducible refine g_methK0 ?_ | with_reducible refine g_methS ?_ | with_reducible refine g_errF ?_ | with_reducible refine g_prop ?_ | with_reducible refine g_con ?_ | with_reducible refine g_make ?_ | with_reducible refine g_fld ?_ | with_reducible refine g_sfld ?_ | with_reducible refine g_iftn ?_ | with_reducible refine g_iffn ?_ | with_reducible refine g_orV ?_ | with_reducible refine g_notV ?_ | with_reducible refine g_tB ?_ | with_reducible refine g_chain ?_ | with_reducible refine g_neg ?_ | with_reducible refine g_cval ?_ | with_reducible refine g_enumT ?_ | with_reducible refine g_proj ?_ | with_reducible refine g_andT ?_ | with_reducible refine g_orT ?_ | with_reducible refine g_notT ?_ | with_reducible refine g_sl ?_ | with_reducible refine g_part ?_ | with_reducible refine g_parI ?_ | with_reducible refine g_noPart ?_ | with_reducible refine g_pcons ?_ | with_reducible refine g_pnil ?_ | with_reducible refine g_list ?_ | with_reducible refine g_lc ?_ | with_reducible refine g_enum ?_ | with_reducible refine g_ift ?_ | with_reducible refine g_iff ?_ | with_reducible refine And.intro rfl ?_ | with_reducible refine g_notNon ?_)))
section
variable {P : Program} {w : World} {K : PySem.W.Frag} {mg : Str → Option Value} {base : Heap} {f : Addr} {fd : FuncData} {DC EC DE UE IE IN : Addr}
/-- what is seen of an event -/
structure EvS (P : Program) (w : World) (K : PySem.W.Frag) (mg : Str → Option Value) (base : Heap) (EC DE UE : Addr) : Prop where
  od : EvO K DE
  ou : EvO K UE
  atE : mg "Event" = some (.ref EC)
  atD : mg "DatedEvent" = some (.ref DE)
  atU : mg "UndatedEvent" = some (.ref UE)
  e1 : PySem.W.kitOne K (.ref DE) (.ref EC) = some true
  e2 : PySem.W.kitOne K (.ref UE) (.ref EC) = some true
  d1 : PySem.W.kitOne K (.ref DE) (.ref DE) = some true
  d2 : PySem.W.kitOne K (.ref UE) (.ref DE) = some false
  u1 : PySem.W.kitOne K (.ref DE) (.ref UE) = some false
  u2 : PySem.W.kitOne K (.ref UE) (.ref UE) = some true
  cD : ∃ u, Con K DE "IS_DATED" (.bl true) u
  cU : ∃ u, Con K UE "IS_DATED" (.bl false) u
  num : ∃ p g fd, PropOf K DE "number" p g ∧ PropOf K UE "number" p g ∧ Binds K fd ["self"] [] ∧ FnOk P w K mg base CX0 1 g fd ["self"] (spGetA K "_number")
  wd : ∃ p g fd, PropOf K DE "weekday" p g ∧ Binds K fd ["self"] [] ∧ FnOk P w K mg base CX0 1 g fd ["self"] (spGetA K "_weekday")
/-- the row of what is seen -/
def evRow (n : Int) (note : Option Int) : List V := [.bl true, .bl note.isSome, .bl (!note.isSome), .bl note.isSome, .int n, noteV note]
def spShownE (DE UE : Addr) : Sp := fun vs H Q _ => ∃ (v : V) (n c : Int) (note : Option Int), vs = [v] ∧ EvAt DE UE H v n c note ∧ ∀ (p : Addr) (H' : Hp), H p = none → H' p = some (.lst (evRow n note)) → (∀ b o, H b = some o → H' b = some o) → Q (.ref p) H'
theorem sc_shownE : FnScope ["told", "kinds"] ["told"] (defScope s_law_shown) := ⟨rfl, rfl, rfl, by decide +kernel, rfl, by decide +kernel, by decide +kernel⟩
theorem ok_shownE (F : FnT K "_law_shown" s_law_shown f fd) (T : Blt mg) (S : EvS P w K mg base EC DE UE) : FnOk P w K mg base CX0 3 f fd ["told"] (spShownE DE UE) := by
  refine F.ok sc_shownE (fun vs H Q E h => ?_) (fun cdv A outer s H vs Q E hr h => ?_)
  · obtain ⟨v, n, c, note, rfl, _⟩ := h
    rfl
  · obtain ⟨v, n, c, note, rfl, ⟨a, dx, rfl, ha⟩, q⟩ := h
    have sc := sc_shownE
    obtain ⟨pn, gn, fdn, nD, nU, bn, okn⟩ := S.num
    obtain ⟨pw, gw, fdw, wD, bw, okw⟩ := S.wd
    obtain ⟨O, nC, kE, kD, kU, cC⟩ : EvO K (evC DE UE note) ∧ PropOf K (evC DE UE note) "number" pn gn ∧ PySem.W.kitOne K (.ref (evC DE UE note)) (.ref EC) = some true ∧ PySem.W.kitOne K (.ref (evC DE UE note)) (.ref DE) = some note.isSome ∧ PySem.W.kitOne K (.ref (evC DE UE note)) (.ref UE) = some (!note.isSome) ∧ ∃ u, Con K (evC DE UE note) "IS_DATED" (.bl note.isSome) u := by
      cases note with
      | none => exact ⟨S.ou, nU, S.e2, S.d2, S.u2, S.cU⟩
      | some w => exact ⟨S.od, nD, S.e1, S.d1, S.u1, S.cD⟩
    refine ⟨_, PSs.nox (pss_cons (ps_set (i := 1) sc.nd rfl (Or.inl rfl) (pe_lst (pa_cons (pe_callB call_isi (by rfl) T.isinstance (by decide +kernel) (pa_cons (pv 0) (pa_cons (pe_ref S.atE) pa_nil))) (pa_cons (pe_callB call_isi (by rfl) T.isinstance (by decide +kernel) (pa_cons (pv 0) (pa_cons (pe_ref S.atD) pa_nil))) (pa_cons (pe_callB call_isi (by rfl) T.isinstance (by decide +kernel) (pa_cons (pv 0) (pa_cons (pe_ref S.atU) pa_nil))) pa_nil)))))
      (pss_one (ps_ret (pe_op op_cat (pv 1) (pe_lst (pa_cons (pe_con (pv 0) rfl) (pa_cons (pe_prop (pv 0) O.cls nC okn (hr.mono (by decide)) bn .nil pass0 rfl) (pa_cons (pe_ifExp (pt_val (pe_callB call_isi (by rfl) T.isinstance (by decide +kernel) (pa_cons (pv 0) (pa_cons (pe_ref S.atD) pa_nil)))) (pe_prop (pv 0) S.od.cls wD okw (hr.mono (by decide)) bw .nil pass0 rfl) pe_non) pa_nil)))))))), ?_⟩
    walk_at "ex"
    refine g_lst' ?_
    walk_at "ex"
    refine ⟨_, _, _, _, _, rfl, .own EC, O.ty ha, kE, ?_⟩
    walk_at "ex"
    refine ⟨_, _, _, _, _, rfl, .own DE, O.ty ha, kD, ?_⟩
    walk_at "ex"
    refine ⟨_, _, _, _, _, rfl, .own UE, O.ty ha, kU, ?_⟩
    walk_at "ex"
    refine ⟨sz (by simp), fun p1 np1 => ?_⟩
    have s1 := same_up (o := .lst [.bl true, .bl note.isSome, .bl !note.isSome]) np1 (H := H) (fun _ _ h => h)
    have h1 : upd H p1 (.lst [.bl true, .bl note.isSome, .bl !note.isSome]) p1 = some (.lst [.bl true, .bl note.isSome, .bl !note.isSome]) := upd_same
    generalize upd H p1 (.lst [.bl true, .bl note.isSome, .bl !note.isSome]) = H1 at s1 h1 ⊢
    walk_at "ex"
    refine g_lst' ?_
    walk_at "ex"
    obtain ⟨uC, cC⟩ := cC
    refine ⟨a, _, dx, _, _, uC, rfl, s1 _ _ ha, O.cls, cC, by cases note <;> rfl, ?_⟩
    walk_at "ex"
    refine ⟨a, dx, _, rfl, s1 _ _ ha, _, a, dx, _, .int n, rfl, O, s1 _ _ ha, by cases note <;> rfl, ?_⟩
    walk_at "ex"
    refine ⟨_, _, _, _, _, rfl, .own DE, O.ty (s1 _ _ ha), kD, ?_⟩
    walk_at "ex"
    have fin : ∀ y : V, y = noteV note → ([V.bl note.isSome, .int n, y].length ≤ sizeLine ∧ ∀ p2, H1 p2 = none → rCat (.ref p1) (.ref p2) (upd H1 p2 (.lst [.bl note.isSome, .int n, y])) Q) := by
      intro y hy
      subst hy
      refine ⟨sz (by simp), fun p2 np2 => ?_⟩
      have s2 := same_up (o := .lst [.bl note.isSome, .int n, noteV note]) np2 s1
      refine g_catL (kp np2 h1) upd_same (by simp) fun p3 np3 => ?_
      exact q p3 _ (none_up np3 s2) upd_same (same_up np3 s2)
    cases note with
    | none =>
      rw [if_neg (show ¬ (none : Option Int).isSome = true by decide)]
      walk_at "go"
      exact fin _ rfl
    | some k =>
      rw [if_pos (show (some k : Option Int).isSome = true from rfl)]
      walk_at "go"
      refine ⟨a, dx, _, rfl, s1 _ _ ha, _, a, dx, _, .int k, rfl, O, s1 _ _ ha, rfl, ?_⟩
      walk_at "go"
      exact fin _ rfl
def spDueE : Sp := fun vs H Q _ => ∃ (v : V) (b : Book) (n : Nat) (note : Option Int), vs = [v, .int (n : Nat)] ∧ Fz H v b.d ∧ b.notes[n]? = some note ∧ ∀ (p : Addr) (H' : Hp), H p = none → H' p = some (.lst (evRow (n : Nat) note)) → (∀ b o, H b = some o → H' b = some o) → Q (.ref p) H'
theorem sc_dueE : FnScope ["book", "n", "is_noted"] ["book", "n"] (defScope s_law_due) := ⟨rfl, rfl, rfl, by decide +kernel, rfl, by decide +kernel, by decide +kernel⟩
theorem ok_dueE (F : FnT K "_law_due" s_law_due f fd) : FnOk P w K mg base CX0 1 f fd ["book", "n"] spDueE := by
  refine F.ok sc_dueE (fun vs H Q E h => ?_) (fun cdv A outer s H vs Q E hr h => ?_)
  · obtain ⟨v, b, n, note, rfl, _⟩ := h
    rfl
  · obtain ⟨v, b, n, note, rfl, hF, hn, q⟩ := h
    have sc := sc_dueE
    refine ⟨_, PSs.nox (pss_cons (ps_set (i := 2) sc.nd rfl (Or.inl rfl) (pe_cmpR op_notN (pe_ix (r := rIxT K) ix_tup (pe_ix (r := rIxT K) ix_tup (pv 0) pe_int (fun _ _ => rfl)) (pv 1) (fun _ _ => rfl)) pe_non (nomark _)))
      (pss_one (ps_ret (pe_lst (pa_cons pe_bl (pa_cons (pv 2) (pa_cons (pe_not (pv 2)) (pa_cons (pv 2) (pa_cons (pv 1) (pa_cons (pe_ix (r := rIxT K) ix_tup (pe_ix (r := rIxT K) ix_tup (pv 0) pe_int (fun _ _ => rfl)) (pv 1) (fun _ _ => rfl)) pa_nil)))))))))), ?_⟩
    obtain ⟨bk, na, la, dv, rfl, hb, hbn, ⟨rows, hbl, hrows⟩, hdv⟩ := book_inv hF
    have hg : (b.notes.map noteV)[n]? = some (noteV note) := by rw [List.getElem?_map, hn]; rfl
    walk_at "go"
    refine g_ixT (K := K) (SqT.of hb) rfl ?_
    walk_at "go"
    refine g_ixT (K := K) (SqT.of hbn) (WL.atI_nat hg) ?_
    walk_at "go"
    refine g_lst' ?_
    walk_at "go"
    refine g_ixT (K := K) (SqT.of hb) rfl ?_
    walk_at "go"
    refine g_ixT (K := K) (SqT.of hbn) (WL.atI_nat hg) ?_
    walk_at "go"
    have e1 : (!decide (noteV note = V.non)) = note.isSome := by cases note <;> simp [noteV]
    rw [e1]
    exact ⟨sz (by simp), fun p np => q p _ np upd_same (same_up np fun _ _ h => h)⟩
theorem back_eq {a c w k : Int} (hc : 0 < c) (hw : 0 ≤ w ∧ w < c) (h0 : 0 ≤ k) (h1 : k ≤ (a - w) % c) : (a - k) % c = w ↔ k = (a - w) % c := by
  have e1 := Int.emod_add_mul_ediv (a - w) c
  have r1 := Int.emod_lt_of_pos (a - w) hc
  constructor
  · intro h
    have e2 := Int.emod_add_mul_ediv (a - k) c
    rw [h] at e2
    have e3 : c * ((a - k) / c - (a - w) / c) = (a - w) % c - k := by
      rw [Int.mul_sub]
      omega
    rcases Int.lt_trichotomy ((a - k) / c - (a - w) / c) 0 with q | q | q
    · have := Int.mul_le_mul_of_nonneg_left (show (a - k) / c - (a - w) / c ≤ -1 by omega) (Int.le_of_lt hc)
      omega
    · rw [q, Int.mul_zero] at e3
      omega
    · have := Int.mul_le_mul_of_nonneg_left (show 1 ≤ (a - k) / c - (a - w) / c by omega) (Int.le_of_lt hc)
      omega
  · intro h
    have e2 : a - k = w + c * ((a - w) / c) := by omega
    rw [e2, Int.add_mul_emod_self_left]
    exact Int.emod_eq_of_lt hw.1 hw.2
def spBackE : Sp := fun vs H Q _ => ∃ (c at' : Int) (note : Option Int), vs = [.int c, noteV note, .int at'] ∧ (2 ≤ c ∧ c ≤ 100) ∧ (∀ w, note = some w → 0 ≤ w ∧ w < c) ∧ Q (.int (latD c note at')) H
theorem sc_backE : FnScope ["cycle", "note", "at", "found", "n"] ["cycle", "note", "at"] (defScope s_law_back) := ⟨rfl, rfl, rfl, by decide +kernel, rfl, by decide +kernel, by decide +kernel⟩
theorem ok_backE (F : FnT K "_law_back" s_law_back f fd) (T : Blt mg) : FnOk P w K mg base CX0 1 f fd ["cycle", "note", "at"] spBackE := by
  refine F.ok sc_backE (fun vs H Q E h => ?_) (fun cdv A outer s H vs Q E hr h => ?_)
  · obtain ⟨c, a, note, rfl, _⟩ := h
    rfl
  · obtain ⟨c, a, note, rfl, hc, hw, q⟩ := h
    have sc := sc_backE
    refine ⟨_, PSs.nox (pss_cons (ps_if (pt_cmpR op_isN (pv 1) pe_non (nomark _))
        (pss_one (ps_ret (pv 2)))
        pss_nil)
      (pss_cons (ps_set (i := 3) sc.nd rfl (Or.inl rfl) (pv 2))
      (pss_cons (ps_for PassesOwn.never rfl (pi_range1 (by rfl) T.range (pa_cons (pv 0) pa_nil)) (pg_name (i := 4) sc.nd rfl (Or.inl rfl))
        (pss_one (ps_if (pt_cmpR op_ne (pe_op op_mod (pv 3) (pv 0)) (pv 1) (nomark _))
          (pss_one (ps_set (i := 3) sc.nd rfl (Or.inl rfl) (pe_op op_sub (pv 3) pe_int)))
          pss_nil)))
      (pss_one (ps_ret (pv 3)))))), ?_⟩
    cases note with
    | none =>
      walk_at "go"
      refine g_ift ?_
      walk_at "go"
      exact q
    | some w =>
      obtain ⟨w0, w1⟩ := hw w rfl
      have hc0 : 0 < c := by omega
      walk_at "go"
      refine g_iff ?_
      walk_at "go"
      have r0 := Int.emod_nonneg (a - w) (show c ≠ 0 by omega)
      have r1 := Int.emod_lt_of_pos (a - w) hc0
      refine ForQ.range (fun i σ H' => (∃ x, σ = [some (.int c), some (.int w), some (.int a), some (.int (a - (if (i : Int) ≤ (a - w) % c then (i : Int) else (a - w) % c))), x]) ∧ H' = H) ⟨⟨_, by rw [if_pos (by simpa using r0)]; simp; rfl⟩, rfl⟩ ?_ ?_
      · rintro i σ H1 hi ⟨⟨x, rfl⟩, rfl⟩
        walk_at "go"
        refine ⟨rfl, ?_⟩
        have key := back_eq (a := a) (c := c) (w := w) (k := if (i : Int) ≤ (a - w) % c then (i : Int) else (a - w) % c) hc0 ⟨w0, w1⟩ (by split <;> omega) (by split <;> omega)
        by_cases e : (if (i : Int) ≤ (a - w) % c then (i : Int) else (a - w) % c) = (a - w) % c
        · rw [show (!decide (V.int ((a - if (i : Int) ≤ (a - w) % c then (i : Int) else (a - w) % c) % c) = V.int w)) = false by rw [key.mpr e]; simp]
          refine g_bl (g_iff (g_next ?_))
          refine ⟨⟨some (V.int ((0 : Int) + (i : Int))), ?_⟩, rfl⟩
          have e2 : (if ((i + 1 : Nat) : Int) ≤ (a - w) % c then ((i + 1 : Nat) : Int) else (a - w) % c) = (if (i : Int) ≤ (a - w) % c then (i : Int) else (a - w) % c) := by
            rw [e]
            split
            · split at e <;> omega
            · rfl
          rw [e2]
          rfl
        · have n1 : (i : Int) < (a - w) % c := by
            split at e <;> omega
          rw [show (!decide (V.int ((a - if (i : Int) ≤ (a - w) % c then (i : Int) else (a - w) % c) % c) = V.int w)) = true by
            simp only [Bool.not_eq_true', decide_eq_false_iff_not, V.int.injEq]
            exact fun z => e (key.mp z)]
          refine g_bl (g_ift ?_)
          walk_at "go"
          refine ⟨⟨some (V.int ((0 : Int) + (i : Int))), ?_⟩, rfl⟩
          have e2 : a - (if ((i + 1 : Nat) : Int) ≤ (a - w) % c then ((i + 1 : Nat) : Int) else (a - w) % c) = a - (if (i : Int) ≤ (a - w) % c then (i : Int) else (a - w) % c) - 1 := by
            rw [if_pos (show ((i + 1 : Nat) : Int) ≤ (a - w) % c by omega), if_pos (Int.le_of_lt n1)]
            omega
          rw [e2]
          rfl
      · rintro σ H1 ⟨⟨x, rfl⟩, rfl⟩
        walk_at "go"
        have e : (if ((c.toNat : Nat) : Int) ≤ (a - w) % c then ((c.toNat : Nat) : Int) else (a - w) % c) = (a - w) % c := by split <;> omega
        rw [e]
        exact q
end
end K05
set_option Elab.async false
set_option linter.all false
set_option maxRecDepth 100000
set_option maxHeartbeats 400000
namespace K05
open PySem PySem.Spec PyProof.Rows L2 WL
local macro_rules | `(tactic| walk_at "side") => `(tactic| first | (show (_ ∧ _) ∨ (_ ∧ _); omega) | (exact ⟨by omega, by omega⟩) | (show (0 : Int) < _; omega) | omega)
local macro_rules | `(tactic| walk_at "go") => `(tactic| (repeat (first
  | with_reducible refine g_seq ?_ | with_reducible refine g_asgN ?_ | with_reducible refine g_ret ?_ | with_reducible refine g_drop ?_ | with_reducible refine g_ifS ?_ | with_reducible refine g_next ?_
  | with_reducible refine g_var rfl ?_ | with_reducible refine g_c ?_ | with_reducible refine g_op ?_ | with_reducible refine g_un ?_ | with_reducible refine g_rI0 ?_ | ((with_reducible refine g_rI ?_ ?_); next => walk_at "side") | with_reducible refine g_test ?_ | with_reducible refine g_bl ?_
  | with_reducible refine g_nil ?_ | with_reducible refine g_cons ?_ | with_reducible refine g_call ?_ | with_reducible refine g_cb ?_ | with_reducible refine g_if ?_ | with_reducible refine g_par ?_ | with_reducible refine g_two ?_
  | with_reducible refine g_asg ?_ | with_reducible refine g_name ?_ | with_reducible refine g_sub ?_ | with_reducible refine g_yes ?_ | with_reducible refine g_gcons ?_ | with_reducible refine g_gnil ?_ | with_reducible refine g_dget ?_ | with_reducible refine g_dput ?_ | with_reducible refine g_rng1 ?_ | with_reducible refine g_rng2 ?_
  | ((with_reducible refine g_one ?_ ?_); next => omega) | ((with_reducible refine g_twoI ?_ ?_); next => omega) | with_reducible refine g_isNon ?_ | with_reducible refine g_andV ?_ | with_reducible refine g_revT ?_ | with_reducible refine g_itup ?_ | with_reducible refine g_methK0 ?_ | with_reducible refine g_methS ?_ | with_reducible refine g_errF ?_ | with_reducible refine g_prop ?_ | with_reducible refine g_con ?_ | with_reducible refine g_make ?_ | with_reducible refine g_fld ?_ | with_reducible refine g_sfld ?_ | with_reducible refine g_iftn ?_ | with_reducible refine g_iffn ?_ | with_reducible refine g_orV ?_ | with_reducible refine g_notV ?_ | with_reducible refine g_tB ?_ | with_reducible refine g_chain ?_ | with_reducible refine g_neg ?_ | with_reducible refine g_cval ?_ | with_reducible refine g_enumT ?_ | with_reducible refine g_andT ?_ | with_reducible refine g_orT ?_ | with_reducible refine g_notT ?_ | with_reducible refine g_sl ?_ | with_reducible refine g_part ?_ | with_reducible refine g_parI ?_ | with_reducible refine g_noPart ?_ | with_reducible refine g_pcons ?_ | with_reducible refine g_pnil ?_ | with_reducible refine g_list ?_ | with_reducible refine g_lc ?_ | with_reducible refine g_for ?_ | with_reducible refine g_enum ?_ | with_reducible refine g_ift ?_ | with_reducible refine g_iff ?_ | with_reducible refine And.intro rfl ?_ | with_reducible refine g_notNon ?_)))
local macro_rules | `(tactic| walk_at "ex") => `(tactic| (repeat (first
  | with_reducible refine g_seqAsg ?_ | with_reducible refine g_seqFld ?_ | with_reducible refine g_seqDrop ?_ | with_reducible refine g_seqPut ?_ | with_reducible refine g_seqPar ?_ | with_reducible refine g_asgN ?_ | with_reducible refine g_ret ?_ | with_reducible refine g_drop ?_ | with_reducible refine g_next ?_
  | with_reducible refine g_var rfl ?_ | with_reducible refine g_c ?_ | with_reducible refine g_op ?_ | with_reducible refine g_un ?_ | with_reducible refine g_rI0 ?_ | ((with_reducible refine g_rI ?_ ?_); next => walk_at "side") | with_reducible refine g_test ?_ | with_reducible refine g_bl ?_
  | with_reducible refine g_nil ?_ | with_reducible refine g_cons ?_ | with_reducible refine g_call ?_ | with_reducible refine g_cb ?_ | with_reducible refine g_if ?_ | with_reducible refine g_par ?_ | with_reducible refine g_two ?_
  | with_reducible refine g_asg ?_ | with_reducible refine g_name ?_ | with_reducible refine g_sub ?_ | with_reducible refine g_yes ?_ | with_reducible refine g_gcons ?_ | with_reducible refine g_gnil ?_ | with_reducible refine g_dget ?_ | with_reducible refine g_dput ?_ | with_reducible refine g_rng1 ?_ | with_reducible refine g_rng2 ?_
  | ((with_reducible refine g_one ?_ ?_); next => omega) | ((with_reducible refine g_twoI ?_ ?_); next => omega) | with_reducible refine g_isNon ?_ | with_reducible refine g_andV ?_ | with_reducible refine g_revT ?_ | with_reducible refine g_itup ?_ | with_reducible refine g_methK0 ?_ | with_reducible refine g_methS ?_ | with_reducible refine g_errF ?_ | with_reducible refine g_prop ?_ | with_reducible refine g_con ?_ | with_reducible refine g_make ?_ | with_reducible refine g_fld ?_ | with_reducible refine g_sfld ?_ | with_reducible refine g_iftn ?_ | with_reducible refine g_iffn ?_ | with_reducible refine g_orV ?_ | with_reducible refine g_notV ?_ | with_reducible refine g_tB ?_ | with_reducible refine g_chain ?_ | with_reducible refine g_neg ?_ | with_reducible refine g_cval ?_ | with_reducible refine g_enumT ?_ | with_reducible refine g_proj ?_ | with_reducible refine g_andT ?_ | with_reducible refine g_orT ?_ | with_reducible refine g_notT ?_ | with_reducible refine g_sl ?_ | with_reducible refine g_part ?_ | with_reducible refine g_parI ?_ | with_reducible refine g_noPart ?_ | with_reducible refine g_pcons ?_ | with_reducible refine g_pnil ?_ | with_reducible refine g_list ?_ | with_reducible refine g_lc ?_ | with_reducible refine g_enum ?_ | with_reducible refine g_ift ?_ | with_reducible refine g_iff ?_ | with_reducible refine And.intro rfl ?_ | with_reducible refine g_notNon ?_)))
section
variable {P : Program} {w : World} {K : PySem.W.Frag} {mg : Str → Option Value} {base : Heap} {f : Addr} {fd : FuncData} {DC EC DE UE IE IN : Addr}
theorem g_noteIf {note : Option Int} {i : Nat} {σ : L2.St} {H : Hp} {Q : VK} (h : σ[i]? = some (some (noteV note))) (q : ∀ z, (note = none → z = 0) → (∀ w, note = some w → z = w) → Q (.int z) H) : if decide (noteV note = V.non) = true then tC (.int 0) σ H Q else tVar i σ H Q := by
  cases note with
  | none =>
    rw [if_pos (by decide)]
    exact q 0 (fun _ => rfl) (fun w e => by cases e)
  | some w =>
    rw [if_neg (by simp [noteV])]
    exact ⟨_, h, q w (fun e => by cases e) fun w' e => by cases e; rfl⟩
theorem sum_le {k : Nat} : ∀ {l : List Nat}, (∀ x ∈ l, x ≤ k) → l.sum ≤ k * l.length
  | [], _ => by simp
  | x :: l, h => by
    have a := sum_le (l := l) fun y hy => h y (List.mem_cons_of_mem _ hy)
    have b := h x List.mem_cons_self
    rw [List.sum_cons, List.length_cons, Nat.mul_add]
    omega
theorem intsT_small {is : List Int} (h : ∀ i ∈ is, 0 ≤ i ∧ i < 100) (hl : is.length ≤ 100) : (intsT is).length ≤ sizeLine := by
  have z := listText_len_le (is.map fun i => (toString i : PySem.Str))
  have y := sum_le (k := 4) (l := (is.map fun i => (toString i : PySem.Str)).map (·.length)) fun x hx => by
    obtain ⟨s, hs, rfl⟩ := List.mem_map.mp hx
    obtain ⟨i, hi, rfl⟩ := List.mem_map.mp hs
    show (PySem.Str.ofString (toString i)).length ≤ 4
    rw [PySem.ofString_length]
    exact int_text_length_le10 (k := 3) (by decide) (by have := h i hi; omega)
  rw [List.length_map, List.length_map] at y
  rw [List.length_map] at z
  unfold intsT
  rw [PySem.sizeLine_eq]
  omega
theorem choD_mem {c : Int} {o : Option Int} (hc : 2 ≤ c ∧ c ≤ 100) (hw : ∀ w, o = some w → 0 ≤ w ∧ w < c) : (∀ i ∈ choD c o, 0 ≤ i ∧ i < 100) ∧ (choD c o).length ≤ 100 ∧ choD c o ≠ [] := by
  cases o with
  | none =>
    refine ⟨fun i hi => ?_, by simp [choD]; omega, by simp [choD]; omega⟩
    obtain ⟨n, hn, rfl⟩ := List.mem_map.mp hi
    have := List.mem_range.mp hn
    omega
  | some w =>
    have := hw w rfl
    exact ⟨fun i hi => by rw [List.mem_singleton.mp hi]; omega, by simp [choD], by simp [choD]⟩
theorem gg_list {tg : TGen} {σ : L2.St} {H : Hp} {Q : VK} (h : tg σ H fun out H2 => ∀ p, H2 p = none → Q (.ref p) (upd H2 p (.lst out))) : tListG tg σ H Q := h
theorem gg_meth {C : Addr} {m : Str} {sp : SpG} {dvs : List V} {E : XK} {ta : TE} {t : TA} {σ : L2.St} {H : Hp} {cont : List V → Hp → Prop} (h : ta σ H fun x H1 => ∃ a dx fs, x = .ref a ∧ H1 a = some (.ins C dx fs) ∧ fs.lookup m = none ∧ t σ H1 fun vs H2 => sp (x :: (vs ++ dvs)) H2 cont E) : tMethG C m sp dvs E ta t σ H cont := h
theorem noStop0 : NoStop K E0 := fun _ _ _ h => h.elim
def spDaysE (DE UE : Addr) : Sp := fun vs H Q _ => ∃ (m cc g : Addr) (B : Int) (v u : V) (b : Book) (n : Nat) (note : Option Int), vs = [.ref m, v, .int (n : Nat), u] ∧ Pr m cc g H H B ∧ B < 2 ^ 27 ∧ Fz H v b.d ∧ (2 ≤ b.c ∧ b.c ≤ 100) ∧ (∀ w, note = some w → 0 ≤ w ∧ w < b.c) ∧ b.notes[n]? = some note ∧ EvAt DE UE H u (n : Nat) b.c note ∧ ∀ H', Pr m cc g H H' (B + 1) → Q (.bl true) H'
theorem sc_daysE : FnScope ["m", "book", "n", "told", "cycle", "note", "spots", "at", "due"] ["m", "book", "n", "told"] (defScope s_law_days_right) := ⟨rfl, rfl, rfl, by decide +kernel, rfl, by decide +kernel, by decide +kernel⟩
theorem ok_daysE (F : FnT K "_law_days_right" s_law_days_right f fd) (T : Blt mg) (hint : mg "int" = none) (nd : NoDig K) (S : SysB K) (V : EvF P w K mg base EC DE UE IN) (hDraw : Has P w K mg base 2 "_law_draw" ["m", "top"] spDraw') (hBack : Has P w K mg base 1 "_law_back" ["cycle", "note", "at"] spBackE) : GOk P w K mg base 10 f fd ["m", "book", "n", "told"] (spDaysE DE UE) := by
  refine gok_body F sc_daysE (fun vs H Q E h => ?_) (fun cdv A outer s H vs Q E hg hr h => ?_)
  · obtain ⟨m, cc, g, B, v, u, b, n, note, rfl, _⟩ := h
    rfl
  · obtain ⟨m, cc, g, B, v, u, b, n, note, rfl, hP, hB, hF, hc, hw, hn, ⟨ea, edx, rfl, hea⟩, q⟩ := h
    have sc := sc_daysE
    have hu := hr.units
    have O := V.o (note := note)
    obtain ⟨fL, fdL, mL, bL, okL, kL⟩ := (V.l (note := note)).ex
    obtain ⟨fT, fdT, mT, bT, okT, kT⟩ := V.fits.at (note := note)
    obtain ⟨fC, fdC, mC, bC, okC⟩ := V.c (note := note)
    refine ⟨_, (pss_cons (ps_par (i := 4) (j := 5) (by rfl) sc.nd rfl rfl (by decide) rfl rfl (pa_cons (pe_ix (r := rIxT K) ix_tup (pv 1) pe_int (fun _ _ => rfl)) (pa_cons (pe_ix (r := rIxT K) ix_tup (pe_ix (r := rIxT K) ix_tup (pv 1) pe_int (fun _ _ => rfl)) (pv 2) (fun _ _ => rfl)) pa_nil)) (by rfl))
      (pss_cons (ps_set (i := 6) sc.nd rfl (Or.inl rfl) (pe_lst (pa_cons pe_int (pa_cons pe_int (pa_cons (pe_op op_sub pe_int pe_int) (pa_cons (pv 4) (pa_cons (pe_op op_sub pe_int (pv 4)) (pa_cons (pe_op op_sub (pe_has hDraw hr (by decide) (pa_cons (pv 0) (pa_cons (pe_op op_mul pe_int (pv 4)) pa_nil))) (pe_op op_mul pe_int (pv 4))) (pa_cons (pe_callTy (call_bigI nd) (by rfl) hint (by decide +kernel) (pa_cons (pe_op op_mulS pe_str pe_int) pa_nil)) (pa_cons (pe_op op_sub pe_int (pe_callTy (call_bigI nd) (by rfl) hint (by decide +kernel) (pa_cons (pe_op op_mulS pe_str pe_int) pa_nil))) pa_nil))))))))))
      (pss_cons (ps_for PassesOwn.never rfl (pi_list (pe_op op_cat (pv 6) (pe_lst (pa_cons (pe_op op_add (pe_op op_mul pe_int (pv 4)) (pe_ifExp (pt_cmpR op_isN (pv 5) pe_non (nomark _)) pe_int (pv 5))) pa_nil)))) (pg_name (i := 7) sc.nd rfl (Or.inl rfl))
        (pss_cons (ps_set (i := 8) sc.nd rfl (Or.inl rfl) (pe_has hBack hr (by decide) (pa_cons (pv 4) (pa_cons (pv 5) (pa_cons (pv 7) pa_nil)))))
        (pss_cons (ps_if (pt_cmpR op_ne (pe_callB (call_showI nd hg hr) (by rfl) T.repr (by decide +kernel) (pa_cons (pe_lst (pa_cons (pe_meth (E := E0) (pv 3) O.cls mL okL (hr.mono (by decide)) bL .nil passL (pa_cons (pv 7) pa_nil)) (pa_cons (pe_methK0 (E := E0) (pv 3) O.cls mL okL (hr.mono (by decide)) kL passL (pk_cons (pv 7) pk_nil)) pa_nil))) pa_nil)) (pe_callB (call_showI nd hg hr) (by rfl) T.repr (by decide +kernel) (pa_cons (pe_lst (pa_cons (pv 8) (pa_cons (pv 8) pa_nil))) pa_nil)) (nomark _))
          (pss_one (ps_ret pe_bl))
          pss_nil)
        (pss_one (ps_if (pt_cmpR op_ne (pe_callB (call_showB S hg hr) (by rfl) T.repr (by decide +kernel) (pa_cons (pe_lst (pa_cons (pe_meth (E := E0) (pv 3) O.cls mT okT (hr.mono (by decide)) bT .nil passL (pa_cons (pv 7) pa_nil)) (pa_cons (pe_methK0 (E := E0) (pv 3) O.cls mT okT (hr.mono (by decide)) kT passL (pk_cons (pv 7) pk_nil)) (pa_cons (pe_meth (E := E0) (pv 3) O.cls mT okT (hr.mono (by decide)) bT .nil passL (pa_cons (pv 8) pa_nil)) pa_nil)))) pa_nil)) (pe_callB (call_showB S hg hr) (by rfl) T.repr (by decide +kernel) (pa_cons (pe_lst (pa_cons (pe_cmpR op_eq (pv 8) (pv 7) (nomark _)) (pa_cons (pe_cmpR op_eq (pv 8) (pv 7) (nomark _)) (pa_cons pe_bl pa_nil)))) pa_nil)) (nomark _))
          (pss_one (ps_ret pe_bl))
          pss_nil)))))
      (pss_one (ps_ret (pe_cmpR op_eq (pe_callB (call_showI nd hg hr) (by rfl) T.repr (by decide +kernel) (pa_cons (pe_listG (E := E0) (pgen_meth0 (E := E0) (pv 3) O.cls mC okC (hr.mono (by decide)) bC .nil) passL noStop0 (hr.mono (by decide)) (by rfl) T.list (by decide +kernel)) pa_nil)) (pe_callB (call_showI nd hg hr) (by rfl) T.repr (by decide +kernel) (pa_cons (pe_ifExp (pt_cmpR op_isN (pv 5) pe_non (nomark _)) (pe_listRange rfl (by rfl) T.list (by rfl) T.range (pa_cons (pv 4) pa_nil)) (pe_lst (pa_cons (pv 5) pa_nil))) pa_nil)) (nomark _))))))), ?_⟩
    obtain ⟨bk, na, la, dv, rfl, hb, hbn, ⟨rows, hbl, hrows⟩, hdv⟩ := book_inv hF
    have hgn : (b.notes.map noteV)[n]? = some (noteV note) := by rw [List.getElem?_map, hn]; rfl
    walk_at "ex"
    refine g_ixT (K := K) (SqT.of hb) rfl ?_
    walk_at "ex"
    refine g_ixT (K := K) (SqT.of hb) rfl ?_
    walk_at "ex"
    refine g_ixT (K := K) (SqT.of hbn) (WL.atI_nat hgn) ?_
    walk_at "ex"
    refine g_lst' ?_
    walk_at "ex"
    refine ⟨m, cc, g, _, _, rfl, hP, by omega, ⟨by omega, by omega⟩, fun k H1 k0 k1 P1 => ?_⟩
    walk_at "ex"
    refine ⟨"7", 1000, rfl, rfl, by decide, by decide, rfl, many7, ?_⟩
    walk_at "ex"
    obtain ⟨n7, l7, n70, n71⟩ := long7'
    refine ⟨_, n7, rfl, l7, ?_⟩
    walk_at "ex"
    refine ⟨"3", 999, rfl, rfl, by decide, by decide, rfl, many3, ?_⟩
    walk_at "ex"
    obtain ⟨n3, l3, n30, n31⟩ := long3'
    refine ⟨_, n3, rfl, l3, ?_⟩
    walk_at "ex"
    obtain ⟨is0, e0, is0l, mid0⟩ : ∃ is0 : List Int, [L2.V.int 0, .int 1, .int (0 - 1), .int b.c, .int (0 - b.c), .int (k - 4 * b.c), .int n7, .int (0 - n3)] = is0.map L2.V.int ∧ is0.length = 8 ∧ ∀ i ∈ is0, ∃ j : Int, (-((10 ^ 1000 : Nat) : Int) ≤ j ∧ j ≤ ((10 ^ 1000 : Nat) : Int)) ∧ -20000 < i - j ∧ i - j < 20000 := by
      refine ⟨[0, 1, 0 - 1, b.c, 0 - b.c, k - 4 * b.c, n7, 0 - n3], rfl, rfl, ?_⟩
      have big : (0 : Int) ≤ ((10 ^ 1000 : Nat) : Int) := by omega
      generalize ((10 ^ 1000 : Nat) : Int) = BB at *
      intro i hi
      simp only [List.mem_cons, List.not_mem_nil, or_false] at hi
      rcases hi with rfl | rfl | rfl | rfl | rfl | rfl | rfl | rfl
      · exact ⟨0, by omega, by omega⟩
      · exact ⟨0, by omega, by omega⟩
      · exact ⟨0, by omega, by omega⟩
      · exact ⟨0, by omega, by omega⟩
      · exact ⟨0, by omega, by omega⟩
      · exact ⟨0, by omega, by omega⟩
      · exact ⟨i, by omega, by omega⟩
      · exact ⟨0 - n3, by omega, by omega⟩
    rw [e0]
    refine ⟨sz (by rw [List.length_map, is0l]; decide), fun p1 np1 => ?_⟩
    have hea1 := P1.ik hP _ _ _ _ hea
    have t1 := P1.tk hP
    have s1 : ∀ b' o, H1 b' = some o → upd H1 p1 (.lst (is0.map L2.V.int)) b' = some o := same_up np1 fun _ _ h => h
    have P2 : Pr m cc g H (upd H1 p1 (.lst (is0.map L2.V.int))) (B + 1) := P1.trans (P1.self.of_same s1)
    have hp1 : upd H1 p1 (.lst (is0.map L2.V.int)) p1 = some (.lst (is0.map L2.V.int)) := upd_same
    have hea2 := s1 _ _ hea1
    generalize upd H1 p1 (.lst (is0.map L2.V.int)) = H2 at s1 P2 hp1 hea2 ⊢
    walk_at "ex"
    refine g_seq ?_
    walk_at "go"
    refine g_lst' ?_
    walk_at "go"
    refine g_noteIf rfl fun z z0 z1 => ?_
    walk_at "go"
    refine ⟨sz (by simp), fun p2 np2 => ?_⟩
    have hz : -1000 < 5 * b.c + z ∧ 5 * b.c + z < 1000 := by
      cases note with
      | none => rw [z0 rfl]; omega
      | some w => rw [z1 w rfl]; have := hw w rfl; omega
    refine g_catL (kp np2 hp1) upd_same (by rw [List.length_map, is0l]; simp) fun p3 np3 => ?_
    have e4 : is0.map L2.V.int ++ [L2.V.int (5 * b.c + z)] = (is0 ++ [5 * b.c + z]).map L2.V.int := by rw [List.map_append]; rfl
    rw [e4]
    have s4 := same_up (o := .lst ((is0 ++ [5 * b.c + z]).map L2.V.int)) np3 (same_up (o := .lst [L2.V.int (5 * b.c + z)]) np2 (fun _ _ h => h) (H := H2))
    have h4 : upd (upd H2 p2 (.lst [L2.V.int (5 * b.c + z)])) p3 (.lst ((is0 ++ [5 * b.c + z]).map L2.V.int)) p3 = some (.lst ((is0 ++ [5 * b.c + z]).map L2.V.int)) := upd_same
    have mids : ∀ i ∈ is0 ++ [5 * b.c + z], ∃ j : Int, (-((10 ^ 1000 : Nat) : Int) ≤ j ∧ j ≤ ((10 ^ 1000 : Nat) : Int)) ∧ -20000 < i - j ∧ i - j < 20000 := fun i hi => by
      rcases List.mem_append.mp hi with hi | hi
      · exact mid0 i hi
      · rw [List.mem_singleton.mp hi]
        have big : (0 : Int) ≤ ((10 ^ 1000 : Nat) : Int) := by omega
        exact ⟨0, by omega, by omega⟩
    have P4 : Pr m cc g H (upd (upd H2 p2 (.lst [L2.V.int (5 * b.c + z)])) p3 (.lst ((is0 ++ [5 * b.c + z]).map L2.V.int))) (B + 1) := P2.trans (P2.self.of_same s4)
    have hea4 := s4 _ _ hea2
    generalize is0 ++ [5 * b.c + z] = is1 at mids h4 P4 hea4 ⊢
    generalize upd (upd H2 p2 (.lst [L2.V.int (5 * b.c + z)])) p3 (.lst (is1.map L2.V.int)) = H4 at h4 P4 hea4 ⊢
    refine g_lq (K := K) (SqL.of h4) ?_
    refine ForQ.list (xs := is1.map L2.V.int) (fun i σ H' => (∃ x y, σ = [some (.ref m), some (.ref bk), some (.int (n : Nat)), some (.ref ea), some (.int b.c), some (noteV note), some (.ref p1), x, y]) ∧ ∀ b o, H4 b = some o → H' b = some o) ⟨⟨_, _, rfl⟩, fun _ _ h => h⟩ (fun i σ H' _ h => SqL.of (h.2 _ _ h4)) ?_ ?_
    · rintro i x σ H5 hx ⟨⟨u1, u2, rfl⟩, s5⟩
      obtain ⟨hi, rfl⟩ := map_at hx
      obtain ⟨j, hj, hij⟩ := mids is1[i] (List.getElem_mem hi)
      generalize is1[i] = day at hij ⊢
      have dm : Mid day := mid_of hj.1 hj.2 ⟨by omega, by omega⟩
      have hc0 : 0 < b.c := by omega
      have ld : -200 < latD b.c note day - day ∧ latD b.c note day - day ≤ 0 := by
        cases note with
        | none => exact ⟨by show -200 < day - day; omega, by show day - day ≤ 0; omega⟩
        | some w =>
          have a1 := Int.emod_nonneg (day - w) (show b.c ≠ 0 by omega)
          have a2 := Int.emod_lt_of_pos (day - w) hc0
          exact ⟨by show -200 < day - (day - w) % b.c - day; omega, by show day - (day - w) % b.c - day ≤ 0; omega⟩
      have lm : Mid (latD b.c note day) := mid_of hj.1 hj.2 ⟨by omega, by omega⟩
      have idem := latD_idem hc0 note day
      generalize hL : latD b.c note day = due at ld lm idem
      have evf : ∀ {m' : Str}, (evFs (L2.V.int (n : Nat)) (L2.V.int b.c) note).lookup m' = (evFs (L2.V.int (n : Nat)) (L2.V.int b.c) note).lookup m' := rfl
      walk_at "go"
      refine ⟨b.c, day, note, rfl, hc, hw, ?_⟩
      rw [hL]
      walk_at "go"
      refine g_lst' ?_
      walk_at "go"
      refine g_meth ?_
      walk_at "go"
      have two : ∀ x ∈ [due, due], x.natAbs < 10 ^ 4300 := fun x hx => by
        simp only [List.mem_cons, List.not_mem_nil, or_false, or_self] at hx
        rw [hx]
        exact lm.big
      refine ⟨ea, edx, _, rfl, s5 _ _ hea4, by cases note <;> rfl, ?_⟩
      walk_at "go"
      refine ⟨.ref ea, _, (n : Nat), b.c, note, _, rfl, rfl, hc.1, ⟨ea, edx, rfl, s5 _ _ hea4⟩, .int _, fun j' e' => ?_, fun h => by cases h⟩
      cases e'
      rw [hL]
      walk_at "go"
      refine ⟨ea, edx, _, rfl, s5 _ _ hea4, by cases note <;> rfl, ?_⟩
      walk_at "go"
      refine ⟨.ref ea, _, (n : Nat), b.c, note, _, rfl, rfl, hc.1, ⟨ea, edx, rfl, s5 _ _ hea4⟩, .int _, fun j' e' => ?_, fun h => by cases h⟩
      cases e'
      rw [hL]
      walk_at "go"
      refine ⟨sz (by simp), fun p6 np6 => ?_⟩
      have s6 := same_up (o := .lst [L2.V.int due, .int due]) np6 s5
      refine g_nil ?_
      refine g_showI (is := [due, due]) (show upd H5 p6 (.lst [L2.V.int due, .int due]) p6 = some (.lst ([due, due].map L2.V.int)) from upd_same) (by simp) two (intsT_two lm lm) ?_
      generalize upd H5 p6 (.lst [L2.V.int due, .int due]) = H6 at s6 ⊢
      walk_at "go"
      refine g_lst' ?_
      walk_at "go"
      refine ⟨sz (by simp), fun p7 np7 => ?_⟩
      have s7 := same_up (o := .lst [L2.V.int due, .int due]) np7 s6
      refine g_nil ?_
      refine g_showI (is := [due, due]) (show upd H6 p7 (.lst [L2.V.int due, .int due]) p7 = some (.lst ([due, due].map L2.V.int)) from upd_same) (by simp) two (intsT_two lm lm) ?_
      generalize upd H6 p7 (.lst [L2.V.int due, .int due]) = H7 at s7 ⊢
      refine ne_same ?_
      walk_at "go"
      refine g_lst' ?_
      walk_at "go"
      refine g_meth ?_
      walk_at "go"
      have ft : ∀ {d' : Int}, (decide (latD b.c note d' = d')) = (decide (latD b.c note d' = d')) := rfl
      refine ⟨ea, edx, _, rfl, s7 _ _ hea4, by cases note <;> rfl, ?_⟩
      walk_at "go"
      refine ⟨.ref ea, _, (n : Nat), b.c, note, _, rfl, hc.1, ⟨ea, edx, rfl, s7 _ _ hea4⟩, .int _, fun j' e' => ?_, fun h => by cases h⟩
      cases e'
      rw [hL]
      walk_at "go"
      refine ⟨ea, edx, _, rfl, s7 _ _ hea4, by cases note <;> rfl, ?_⟩
      walk_at "go"
      refine ⟨.ref ea, _, (n : Nat), b.c, note, _, rfl, hc.1, ⟨ea, edx, rfl, s7 _ _ hea4⟩, .int _, fun j' e' => ?_, fun h => by cases h⟩
      cases e'
      rw [hL]
      walk_at "go"
      refine g_meth ?_
      walk_at "go"
      refine ⟨ea, edx, _, rfl, s7 _ _ hea4, by cases note <;> rfl, ?_⟩
      walk_at "go"
      refine ⟨.ref ea, _, (n : Nat), b.c, note, _, rfl, hc.1, ⟨ea, edx, rfl, s7 _ _ hea4⟩, .int _, fun j' e' => ?_, fun h => by cases h⟩
      cases e'
      rw [idem, decide_eq_true rfl]
      walk_at "go"
      refine ⟨sz (by simp), fun p8 np8 => ?_⟩
      refine g_nil ?_
      have s8 := same_up (o := .lst [L2.V.bl (decide (due = day)), .bl (decide (due = day)), .bl true]) np8 s7
      have shb : ∀ c1 : Bool, (PyData.list [.bool c1, .bool c1, .bool true]).showable = true ∧ (PyData.list [.bool c1, .bool c1, .bool true]).shown.length ≤ sizeLine ∧ (PyData.list [.bool c1, .bool c1, .bool true]).depth ≤ 50 := fun c1 => by cases c1 <;> exact ⟨by decide +kernel, by decide +kernel, by decide +kernel⟩
      obtain ⟨sb1, sb2, sb3⟩ := shb (decide (due = day))
      refine g_showB (d := .list [.bool (decide (due = day)), .bool (decide (due = day)), .bool true]) (.lst upd_same (.cons (.bl _) (.cons (.bl _) (.cons (.bl _) .nil)))) sb1 sb2 sb3 ?_
      generalize upd H7 p8 (.lst [L2.V.bl (decide (due = day)), .bl (decide (due = day)), .bl true]) = H8 at s8 ⊢
      walk_at "go"
      refine g_lst' ?_
      walk_at "go"
      have edec : decide (L2.V.int due = L2.V.int day) = decide (due = day) := by simp
      refine ⟨rfl, ?_⟩
      rw [edec]
      walk_at "go"
      refine ⟨rfl, ?_⟩
      rw [edec]
      walk_at "go"
      refine ⟨sz (by simp), fun p9 np9 => ?_⟩
      refine g_nil ?_
      have s9 := same_up (o := .lst [L2.V.bl (decide (due = day)), .bl (decide (due = day)), .bl true]) np9 s8
      refine g_showB (d := .list [.bool (decide (due = day)), .bool (decide (due = day)), .bool true]) (.lst upd_same (.cons (.bl _) (.cons (.bl _) (.cons (.bl _) .nil)))) sb1 sb2 sb3 ?_
      refine ne_same ?_
      walk_at "go"
      exact ⟨⟨_, _, rfl⟩, s9⟩
    · rintro σ H5 ⟨⟨u1, u2, rfl⟩, s5⟩
      have cm := choD_mem (o := note) hc hw
      have P5 : Pr m cc g H H5 (B + 1) := P4.trans (P4.self.of_same s5)
      walk_at "go"
      refine gg_list ?_
      refine gg_meth ?_
      walk_at "go"
      refine ⟨ea, edx, _, rfl, s5 _ _ hea4, by cases note <;> rfl, ?_⟩
      walk_at "go"
      refine ⟨.ref ea, (n : Nat), b.c, note, rfl, hc, hw, ⟨ea, edx, rfl, s5 _ _ hea4⟩, fun H6 s6 p6 np6 => ?_⟩
      refine g_nil ?_
      refine g_showI (is := choD b.c note) upd_same cm.2.2 (fun i hi => (mid_small (by have := cm.1 i hi; omega)).big) (intsT_small cm.1 cm.2.1) ?_
      have s7 : ∀ b' o, H5 b' = some o → upd H6 p6 (.lst ((choD b.c note).map L2.V.int)) b' = some o := same_up np6 s6
      generalize upd H6 p6 (.lst ((choD b.c note).map L2.V.int)) = H7 at s7 ⊢
      walk_at "go"
      have fin : ∀ p7, H7 p7 = none → rShowI [L2.V.ref p7] (upd H7 p7 (.lst ((choD b.c note).map L2.V.int))) fun y H2 => rEq (L2.V.str (intsT (choD b.c note))) y H2 Q := fun p7 np7 => by
        refine g_showI (is := choD b.c note) upd_same cm.2.2 (fun i hi => (mid_small (by have := cm.1 i hi; omega)).big) (intsT_small cm.1 cm.2.1) ?_
        refine ⟨rfl, ?_⟩
        rw [decide_eq_true rfl]
        exact q _ (P5.trans (P5.self.of_same (same_up np7 s7)))
      cases note with
      | none =>
        rw [if_pos (show decide (noteV none = L2.V.non) = true by decide)]
        show tListR _ _ _ _
        unfold tListR
        walk_at "go"
        refine ⟨b.c, rfl, by omega, by omega, fun p7 np7 => ?_⟩
        refine g_nil ?_
        have e : rangeV b.c.toNat = (choD b.c none).map L2.V.int := by
          unfold rangeV choD
          rw [List.map_map]; rfl
        rw [e]
        exact fin p7 np7
      | some w =>
        rw [if_neg (show ¬ decide (noteV (some w) = L2.V.non) = true by simp [noteV])]
        refine g_lst' ?_
        walk_at "go"
        refine ⟨sz (by simp), fun p7 np7 => ?_⟩
        refine g_nil ?_
        exact fin p7 np7
end
end K05
set_option Elab.async false
set_option linter.all false
set_option maxRecDepth 100000
set_option maxHeartbeats 400000
namespace K05
open PySem PySem.Spec PyProof.Rows L2 WL
local macro_rules | `(tactic| walk_at "side") => `(tactic| first | (show (_ ∧ _) ∨ (_ ∧ _); omega) | (exact ⟨by omega, by omega⟩) | (show (0 : Int) < _; omega) | omega)
local macro_rules | `(tactic| walk_at "go") => `(tactic| (repeat (first
  | with_reducible refine g_seq ?_ | with_reducible refine g_asgN ?_ | with_reducible refine g_ret ?_ | with_reducible refine g_drop ?_ | with_reducible refine g_ifS ?_ | with_reducible refine g_next ?_
  | with_reducible refine g_var rfl ?_ | with_reducible refine g_c ?_ | with_reducible refine g_op ?_ | with_reducible refine g_un ?_ | with_reducible refine g_rI0 ?_ | ((with_reducible refine g_rI ?_ ?_); next => walk_at "side") | with_reducible refine g_test ?_ | with_reducible refine g_bl ?_
  | with_reducible refine g_nil ?_ | with_reducible refine g_cons ?_ | with_reducible refine g_call ?_ | with_reducible refine g_cb ?_ | with_reducible refine g_if ?_ | with_reducible refine g_par ?_ | with_reducible refine g_two ?_
  | with_reducible refine g_asg ?_ | with_reducible refine g_name ?_ | with_reducible refine g_sub ?_ | with_reducible refine g_yes ?_ | with_reducible refine g_gcons ?_ | with_reducible refine g_gnil ?_ | with_reducible refine g_dget ?_ | with_reducible refine g_dput ?_ | with_reducible refine g_rng1 ?_ | with_reducible refine g_rng2 ?_
  | ((with_reducible refine g_one ?_ ?_); next => omega) | ((with_reducible refine g_twoI ?_ ?_); next => omega) | with_reducible refine g_isNon ?_ | with_reducible refine g_andV ?_ | with_reducible refine g_revT ?_ | with_reducible refine g_itup ?_ | with_reducible refine g_methK0 ?_ | with_reducible refine g_methS ?_ | with_reducible refine g_errF ?_ | with_reducible refine g_prop ?_ | with_reducible refine g_con ?_ | with_reducible refine g_make ?_ | with_reducible refine g_fld ?_ | with_reducible refine g_sfld ?_ | with_reducible refine g_iftn ?_ | with_reducible refine g_iffn ?_ | with_reducible refine g_orV ?_ | with_reducible refine g_notV ?_ | with_reducible refine g_tB ?_ | with_reducible refine g_chain ?_ | with_reducible refine g_neg ?_ | with_reducible refine g_cval ?_ | with_reducible refine g_enumT ?_ | with_reducible refine g_andT ?_ | with_reducible refine g_orT ?_ | with_reducible refine g_notT ?_ | with_reducible refine g_sl ?_ | with_reducible refine g_part ?_ | with_reducible refine g_parI ?_ | with_reducible refine g_noPart ?_ | with_reducible refine g_pcons ?_ | with_reducible refine g_pnil ?_ | with_reducible refine g_list ?_ | with_reducible refine g_lc ?_ | with_reducible refine g_for ?_ | with_reducible refine g_enum ?_ | with_reducible refine g_ift ?_ | with_reducible refine g_iff ?_ | with_reducible refine And.intro rfl ?_ | with_reducible refine g_notNon ?_)))
local macro_rules | `(tactic| walk_at "ex") => `(tactic| (repeat (first
  | with_reducible refine g_seqAsg ?_ | with_reducible refine g_seqFld ?_ | with_reducible refine g_seqDrop ?_ | with_reducible refine g_seqPut ?_ | with_reducible refine g_seqPar ?_ | with_reducible refine g_asgN ?_ | with_reducible refine g_ret ?_ | with_reducible refine g_drop ?_ | with_reducible refine g_next ?_
  | with_reducible refine g_var rfl ?_ | with_reducible refine g_c ?_ | with_reducible refine g_op ?_ | with_reducible refine g_un ?_ | with_reducible refine g_rI0 ?_ | ((with_reducible refine g_rI ?_ ?_); next => walk_at "side") | with_reducible refine g_test ?_ | with_reducible refine g_bl ?_
  | with_reducible refine g_nil ?_ | with_reducible refine g_cons ?_ | with_reducible refine g_call ?_ | with_reducible refine g_cb ?_ | with_reducible refine g_if ?_ | with_reducible refine g_par ?_ | with_reducible refine g_two ?_
  | with_reducible refine g_asg ?_ | with_reducible refine g_name ?_ | with_reducible refine g_sub ?_ | with_reducible refine g_yes ?_ | with_reducible refine g_gcons ?_ | with_reducible refine g_gnil ?_ | with_reducible refine g_dget ?_ | with_reducible refine g_dput ?_ | with_reducible refine g_rng1 ?_ | with_reducible refine g_rng2 ?_
  | ((with_reducible refine g_one ?_ ?_); next => omega) | ((with_reducible refine g_twoI ?_ ?_); next => omega) | with_reducible refine g_isNon ?_ | with_reducible refine g_andV ?_ | with_reducible refine g_revT ?_ | with_reducible refine g_itup ?_ | with_reducible refine g_methK0 ?_ | with_reducible refine g_methS ?_ | with_reducible refine g_errF ?_ | with_reducible refine g_prop ?_ | with_reducible refine g_con ?_ | with_reducible refine g_make ?_ | with_reducible refine g_fld ?_ | with_reducible refine g_sfld ?_ | with_reducible refine g_iftn ?_ | with_reducible refine g_iffn ?_ | with_reducible refine g_orV ?_ | with_reducible refine g_notV ?_ | with_reducible refine g_tB ?_ | with_reducible refine g_chain ?_ | with_reducible refine g_neg ?_ | with_reducible refine g_cval ?_ | with_reducible refine g_enumT ?_ | with_reducible refine g_proj ?_ | with_reducible refine g_andT ?_ | with_reducible refine g_orT ?_ | with_reducible refine g_notT ?_ | with_reducible refine g_sl ?_ | with_reducible refine g_part ?_ | with_reducible refine g_parI ?_ | with_reducible refine g_noPart ?_ | with_reducible refine g_pcons ?_ | with_reducible refine g_pnil ?_ | with_reducible refine g_list ?_ | with_reducible refine g_lc ?_ | with_reducible refine g_enum ?_ | with_reducible refine g_ift ?_ | with_reducible refine g_iff ?_ | with_reducible refine And.intro rfl ?_ | with_reducible refine g_notNon ?_)))
section
variable {X : Cx} {g : Addr} {cdg : Value} {q : Str} {IE IN WE : Addr}
/-- what is known of the classes of errors -/
structure ErrY (K : PySem.W.Frag) (mg : Str → Option Value) (IE IN WE : Addr) : Prop where
  ie : mg "InvalidEvent" = some (.ref IE)
  in_ : mg "InvalidNumber" = some (.ref IN)
  we : mg "WeekdaylegsError" = some (.ref WE)
  ce : ErrC K IE
  cn : ErrC K IN
  k1 : PySem.W.kitOne K (.ref IE) (.ref IE) = some true
  k2 : PySem.W.kitOne K (.ref IN) (.ref IE) = some false
  k3 : PySem.W.kitOne K (.ref IN) (.ref IN) = some true
  n1 : PySem.W.findIn K (.ref IE) "value" = some none
  n2 : PySem.W.findIn K (.ref IN) "value" = some none
  e1 : PySem.W.exmOne K (.ref IE) (.ref WE) = some true
  e2 : PySem.W.exmOne K (.ref IN) (.ref WE) = some true
/-- an error that _law_caught reads -/
def ECaught (IE IN : Addr) (Q : VK) : XK := fun cls d H' => ∃ (dd : Addr) (y : V) (word : Str), d = some dd ∧ H' dd = some (.xd [("value", y)]) ∧ ((cls = .ref IE ∧ word = "event") ∨ (cls = .ref IN ∧ word = "number")) ∧ ∀ (p : Addr) (H2 : Hp), H' p = none → (∀ b o, H' b = some o → H2 b = some o) → H2 p = some (.tup [.str word, y]) → Q (.ref p) H2
/-- what _law_caught gives of a call that raises -/
def TCaught (IE IN : Addr) : (XK → Hp → VK → Prop) → Hp → VK → Prop := fun tl H Q => ∀ Q1 : VK, tl (ECaught IE IN Q) H Q1
theorem sc_caught : FnScope ["call", "error", "e"] ["call"] (defScope s_law_caught) := ⟨rfl, rfl, rfl, by decide +kernel, rfl, by decide +kernel, by decide +kernel⟩
theorem caught_gives (Y : ErrY X.K X.mg IE IN WE) (T : Blt X.mg) : LamX.GivesTo X ["call", "error", "e"] "_law_caught" (defScope s_law_caught) g cdg (defBody s_law_caught) "call" q (TCaught IE IN) := by
  intro f c' s H Q tl act hc h
  have sc := sc_caught
  refine ⟨_, (pss_cons (ps_set (i := 1) sc.nd rfl (Or.inl rfl) pe_non)
    (pss_cons (ps_try_kept (i := 2) (c := .ref WE) (tb := fun W D σ H => ∃ Ech : XK, (∀ cls d σ' H', Ech cls d H' → σ'.length = 3 → W cls d σ' H') ∧ σ[0]? = some (some (.ref f)) ∧ H c' = some (LamX.CodeO c' q) ∧ tl Ech H fun _ H1 => D.nx σ H1) (ts := fun _ _ _ => tAsg (tVar 2) (gName 1)) rfl rfl rfl sc.nd rfl rfl ⟨rfl, by decide, Or.inl Y.we⟩
      (fun W pn xe tk _ => ?_) (fun a oe cls d pn hz hf => pss_one (ps_set (i := 1) sc.nd rfl (Or.inl rfl) (by exact (pv 2)))))
    (pss_cons (ps_if (pt_val (pe_callB call_isErr (by rfl) T.isinstance (by decide +kernel) (pa_cons (pv 1) (pa_cons (pe_ref Y.ie) pa_nil))))
      (pss_one (ps_ret (pe_tup (pa_cons pe_str (pa_cons (pe_errf Y.ce.xf Y.n1 (pv 1)) pa_nil)))))
      pss_nil)
    (pss_cons (ps_if (pt_val (pe_callB call_isErr (by rfl) T.isinstance (by decide +kernel) (pa_cons (pv 1) (pa_cons (pe_ref Y.in_) pa_nil))))
      (pss_one (ps_ret (pe_tup (pa_cons pe_str (pa_cons (pe_errf Y.cn.xf Y.n2 (pv 1)) pa_nil)))))
      pss_nil)
    (pss_one ps_no))))), ?_⟩
  · refine ⟨fun pins s' σ H' D I h' => ?_⟩
    obtain ⟨Ech, hW, h1, h2, h3⟩ := h'
    exact (pss_one (ps_expr (act (fun cls d σ H => σ.length = 3 → W cls d σ H) pn xe Ech _ _ (takes_len tk) hW))).run pins s' σ H' D I ⟨h1, h2, h3⟩
  · walk_at "go"
    refine ⟨ECaught IE IN Q, fun cls d σ' H' hE hlen => ?_, rfl, hc, h _⟩
    obtain ⟨dd, y, word, rfl, hd, hcase, hq⟩ := hE
    obtain ⟨v0, v1, v2, rfl⟩ : ∃ v0 v1 v2, σ' = [v0, v1, v2] := by
      match σ', hlen with
      | [v0, v1, v2], _ => exact ⟨v0, v1, v2, rfl⟩
    rcases hcase with ⟨rfl, rfl⟩ | ⟨rfl, rfl⟩
    · refine ⟨Y.e1, fun a na => ?_⟩
      walk_at "go"
      intro na2
      have nad : dd ≠ a := ne_of_none hd na
      have s2 := same_up (o := Err a (.ref IE) (some dd)) na (H := H') (fun _ _ h => h)
      have hd2 : upd H' a (Err a (.ref IE) (some dd)) dd = some (.xd [("value", y)]) := by rw [upd_ne nad]; exact hd
      walk_at "go"
      refine ⟨a, IE, dd, IE, _, true, rfl, upd_same, hd2, Y.ce, Y.k1, ?_⟩
      walk_at "go"
      refine g_tup' ?_
      walk_at "go"
      refine ⟨a, dd, _, y, rfl, upd_same, hd2, rfl, ?_⟩
      walk_at "go"
      exact ⟨sz (by simp), fun p np => hq p _ (none_up np s2) (same_up np s2) upd_same⟩
    · refine ⟨Y.e2, fun a na => ?_⟩
      walk_at "go"
      intro na2
      have nad : dd ≠ a := ne_of_none hd na
      have s2 := same_up (o := Err a (.ref IN) (some dd)) na (H := H') (fun _ _ h => h)
      have hd2 : upd H' a (Err a (.ref IN) (some dd)) dd = some (.xd [("value", y)]) := by rw [upd_ne nad]; exact hd
      walk_at "go"
      refine ⟨a, IN, dd, IE, _, false, rfl, upd_same, hd2, Y.cn, Y.k2, ?_⟩
      walk_at "go"
      refine ⟨a, IN, dd, IN, _, true, rfl, upd_same, hd2, Y.cn, Y.k3, ?_⟩
      walk_at "go"
      refine g_tup' ?_
      walk_at "go"
      refine ⟨a, dd, _, y, rfl, upd_same, hd2, rfl, ?_⟩
      walk_at "go"
      exact ⟨sz (by simp), fun p np => hq p _ (none_up np s2) (same_up np s2) upd_same⟩
end
section
/-- what is known of the def that calls a lambda -/
structure CauD (K : PySem.W.Frag) (mg : Str → Option Value) (IE IN WE : Addr) : Prop where
  fn : ∃ g fd, mg "_law_caught" = some (.ref g) ∧ FnT K "_law_caught" s_law_caught g fd ∧ Binds K fd ["call"] []
  er : ErrY K mg IE IN WE
  blt : Blt mg
theorem pe_caucall {X : Cx} {IE IN WE c p : Addr} {T : List (Addr × Str)} {k : Nat} {params : Arguments} {body : Expr} {scope : Scope} {t : XK → TE} {pp lpos pos : Pos} (V : CauD X.K X.mg IE IN WE) (hg : Gl X "_law_caught") (TB : LamX.TabB X.base X.mg c p) (hcode : X.env.code = .ref c) (hT : T = [(p, X.env.qual ++ "<lambda>")]) (hr : Room (k + 2) X.A) (L : LamX.LamS X.env.scope scope) (hdef : defaultsOf params X.env = ([], []))
    (hbind : ∀ (q : Str) (cl : List (Str × Addr)) (pm cv ctv : Value), bindArgs (PySem.W.kla_fn "<lambda>" q params body scope cl pm cv ctv) ⟨[], []⟩ = pure [])
    (hbody : ∀ (A : Around) (outer : List Env) (s : Shared) (H : Hp) (E : XK) (f c' : Addr), Room k (A.deeper (LamX.lamEnv X scope s.heap.objs.size f c')) → PE (LamX.lamCx X A outer s H E scope f c') body (t E)) :
    PE X (.Call (.Name "_law_caught" pp) [.Lambda params body scope lpos] [] pos) (LamX.tLam T (TCaught IE IN) t) := by
  obtain ⟨g, fd, hm, F, hb⟩ := V.fn
  obtain ⟨oc, od, dV, kV, dc, pm, an, cdv, ct, osl, rfl, lk, hcd, _, _⟩ := F.ex
  subst hT
  exact LamX.pe_lamcall (Ng := ["call", "error", "e"]) (a := "call") hg hm F.kp lk hcd hb sc_caught rfl (Or.inl rfl) (caught_gives V.er V.blt) TB hcode (List.mem_cons_self) (fun r hr _ => by
    rw [List.mem_singleton] at hr
    rw [hr]) hr L hdef hbind hbody
end
end K05
set_option Elab.async false
set_option linter.all false
set_option maxRecDepth 100000
set_option maxHeartbeats 4000000
namespace K05
open PySem PySem.Spec PyProof.Rows L2 WL
local macro_rules | `(tactic| walk_at "side") => `(tactic| first | (show (_ ∧ _) ∨ (_ ∧ _); omega) | (exact ⟨by omega, by omega⟩) | (show (0 : Int) < _; omega) | omega)
local macro_rules | `(tactic| walk_at "go") => `(tactic| (repeat (first
  | with_reducible refine g_seq ?_ | with_reducible refine g_asgN ?_ | with_reducible refine g_ret ?_ | with_reducible refine g_drop ?_ | with_reducible refine g_ifS ?_ | with_reducible refine g_next ?_
  | with_reducible refine g_var rfl ?_ | with_reducible refine g_c ?_ | with_reducible refine g_op ?_ | with_reducible refine g_un ?_ | with_reducible refine g_rI0 ?_ | ((with_reducible refine g_rI ?_ ?_); next => walk_at "side") | with_reducible refine g_test ?_ | with_reducible refine g_bl ?_
  | with_reducible refine g_nil ?_ | with_reducible refine g_cons ?_ | with_reducible refine g_call ?_ | with_reducible refine g_cb ?_ | with_reducible refine g_if ?_ | with_reducible refine g_par ?_ | with_reducible refine g_two ?_
  | with_reducible refine g_asg ?_ | with_reducible refine g_name ?_ | with_reducible refine g_sub ?_ | with_reducible refine g_yes ?_ | with_reducible refine g_gcons ?_ | with_reducible refine g_gnil ?_ | with_reducible refine g_dget ?_ | with_reducible refine g_dput ?_ | with_reducible refine g_rng1 ?_ | with_reducible refine g_rng2 ?_
  | ((with_reducible refine g_one ?_ ?_); next => omega) | ((with_reducible refine g_twoI ?_ ?_); next => omega) | with_reducible refine g_isNon ?_ | with_reducible refine g_andV ?_ | with_reducible refine g_revT ?_ | with_reducible refine g_itup ?_ | with_reducible refine g_methK0 ?_ | with_reducible refine g_methS ?_ | with_reducible refine g_errF ?_ | with_reducible refine g_prop ?_ | with_reducible refine g_con ?_ | with_reducible refine g_make ?_ | with_reducible refine g_fld ?_ | with_reducible refine g_sfld ?_ | with_reducible refine g_iftn ?_ | with_reducible refine g_iffn ?_ | with_reducible refine g_orV ?_ | with_reducible refine g_notV ?_ | with_reducible refine g_tB ?_ | with_reducible refine g_chain ?_ | with_reducible refine g_neg ?_ | with_reducible refine g_cval ?_ | with_reducible refine g_enumT ?_ | with_reducible refine g_andT ?_ | with_reducible refine g_orT ?_ | with_reducible refine g_notT ?_ | with_reducible refine g_sl ?_ | with_reducible refine g_part ?_ | with_reducible refine g_parI ?_ | with_reducible refine g_noPart ?_ | with_reducible refine g_pcons ?_ | with_reducible refine g_pnil ?_ | with_reducible refine g_list ?_ | with_reducible refine g_lc ?_ | with_reducible refine g_for ?_ | with_reducible refine g_enum ?_ | with_reducible refine g_ift ?_ | with_reducible refine g_iff ?_ | with_reducible refine And.intro rfl ?_ | with_reducible refine g_notNon ?_)))
local macro_rules | `(tactic| walk_at "ex") => `(tactic| (repeat (first
  | with_reducible refine g_seqAsg ?_ | with_reducible refine g_seqFld ?_ | with_reducible refine g_seqDrop ?_ | with_reducible refine g_seqPut ?_ | with_reducible refine g_seqPar ?_ | with_reducible refine g_asgN ?_ | with_reducible refine g_ret ?_ | with_reducible refine g_drop ?_ | with_reducible refine g_next ?_
  | with_reducible refine g_var rfl ?_ | with_reducible refine g_c ?_ | with_reducible refine g_op ?_ | with_reducible refine g_un ?_ | with_reducible refine g_rI0 ?_ | ((with_reducible refine g_rI ?_ ?_); next => walk_at "side") | with_reducible refine g_test ?_ | with_reducible refine g_bl ?_
  | with_reducible refine g_nil ?_ | with_reducible refine g_cons ?_ | with_reducible refine g_call ?_ | with_reducible refine g_cb ?_ | with_reducible refine g_if ?_ | with_reducible refine g_par ?_ | with_reducible refine g_two ?_
  | with_reducible refine g_asg ?_ | with_reducible refine g_name ?_ | with_reducible refine g_sub ?_ | with_reducible refine g_yes ?_ | with_reducible refine g_gcons ?_ | with_reducible refine g_gnil ?_ | with_reducible refine g_dget ?_ | with_reducible refine g_dput ?_ | with_reducible refine g_rng1 ?_ | with_reducible refine g_rng2 ?_
  | ((with_reducible refine g_one ?_ ?_); next => omega) | ((with_reducible refine g_twoI ?_ ?_); next => omega) | with_reducible refine g_isNon ?_ | with_reducible refine g_andV ?_ | with_reducible refine g_revT ?_ | with_reducible refine g_itup ?_ | with_reducible refine g_methK0 ?_ | with_reducible refine g_methS ?_ | with_reducible refine g_errF ?_ | with_reducible refine g_prop ?_ | with_reducible refine g_con ?_ | with_reducible refine g_make ?_ | with_reducible refine g_fld ?_ | with_reducible refine g_sfld ?_ | with_reducible refine g_iftn ?_ | with_reducible refine g_iffn ?_ | with_reducible refine g_orV ?_ | with_reducible refine g_notV ?_ | with_reducible refine g_tB ?_ | with_reducible refine g_chain ?_ | with_reducible refine g_neg ?_ | with_reducible refine g_cval ?_ | with_reducible refine g_enumT ?_ | with_reducible refine g_proj ?_ | with_reducible refine g_andT ?_ | with_reducible refine g_orT ?_ | with_reducible refine g_notT ?_ | with_reducible refine g_sl ?_ | with_reducible refine g_part ?_ | with_reducible refine g_parI ?_ | with_reducible refine g_noPart ?_ | with_reducible refine g_pcons ?_ | with_reducible refine g_pnil ?_ | with_reducible refine g_list ?_ | with_reducible refine g_lc ?_ | with_reducible refine g_enum ?_ | with_reducible refine g_ift ?_ | with_reducible refine g_iff ?_ | with_reducible refine And.intro rfl ?_ | with_reducible refine g_notNon ?_)))
section
variable {P : Program} {w : World} {K : PySem.W.Frag} {mg : Str → Option Value} {base : Heap} {f : Addr} {fd : FuncData} {DC EC DE UE IE IN WE : Addr}
theorem ref_event {H : Hp} {v x : V} {c wd : Int} {ns : List (Option Int)} {ls : List (Int × Int × Int)} {s : Sh} {Q1 R : VK} (hD : DiaAt DC H v c ns ls) (ok : DOK c ns ls wd) (an : AnS K H x s) (bad : s.within 0 ((ns.length : Int) - 1) = false)
    (cont : ∀ p H6, (∀ b o, H b = some o → H6 b = some o) → H6 p = some (.tup [.str "event", x]) → R (.ref p) H6) : spEvent K DC DE UE IE [v, x] H Q1 (ECaught IE IN R) := by
  refine ⟨v, x, c, wd, ns, ls, s, rfl, hD, ok, an, fun i n e hn => ?_, fun _ d nd => ⟨d, x, "event", rfl, upd_same, Or.inl ⟨rfl, rfl⟩, fun p H2 np s2 hp => cont p H2 (fun b o h => s2 _ _ (same_up nd (fun _ _ h => h) b o h)) hp⟩⟩
  subst e
  have hi := (List.getElem?_eq_some_iff.mp hn).1
  have z := within_int (lo := 0) (hi := (ns.length : Int) - 1) (i := (i : Int)) ⟨by omega, by omega⟩
  rw [bad] at z
  cases z
theorem ref_lat {H : Hp} {v x : V} {n c : Int} {note : Option Int} {s : Sh} {Q1 R : VK} (hc : 2 ≤ c) (hE : EvAt DE UE H v n c note) (an : AnS K H x s) (bad : s.isInt = false)
    (cont : ∀ p H6, (∀ b o, H b = some o → H6 b = some o) → H6 p = some (.tup [.str "number", x]) → R (.ref p) H6) : spLat K DE UE IN note.isSome [v, x] H Q1 (ECaught IE IN R) := by
  refine ⟨v, x, n, c, note, s, rfl, rfl, hc, hE, an, fun i e => ?_, fun _ d nd => ⟨d, x, "number", rfl, upd_same, Or.inr ⟨rfl, rfl⟩, fun p H2 np s2 hp => cont p H2 (fun b o h => s2 _ _ (same_up nd (fun _ _ h => h) b o h)) hp⟩⟩
  subst e
  cases bad
theorem ref_fits {H : Hp} {v x : V} {n c : Int} {note : Option Int} {s : Sh} {Q1 R : VK} (hc : 2 ≤ c) (hE : EvAt DE UE H v n c note) (an : AnS K H x s) (bad : s.isInt = false)
    (cont : ∀ p H6, (∀ b o, H b = some o → H6 b = some o) → H6 p = some (.tup [.str "number", x]) → R (.ref p) H6) : spFits K DE UE IN [v, x] H Q1 (ECaught IE IN R) := by
  refine ⟨v, x, n, c, note, s, rfl, hc, hE, an, fun i e => ?_, fun _ d nd => ⟨d, x, "number", rfl, upd_same, Or.inr ⟨rfl, rfl⟩, fun p H2 np s2 hp => cont p H2 (fun b o h => s2 _ _ (same_up nd (fun _ _ h => h) b o h)) hp⟩⟩
  subst e
  cases bad
theorem lam_any {T : List (Addr × Str)} {H3 : Hp} {R : VK} {σ : L2.St} {mt : XK → TE} {word : Str} {Px : V → Prop} (t3 : LamX.Tabs T H3)
    (hm : ∀ H4, LamX.ExtN H3 H4 → ∀ (Q1 R' : VK), (∀ x p H6, Px x → (∀ b o, H4 b = some o → H6 b = some o) → H6 p = some (.tup [.str word, x]) → R' (.ref p) H6) → mt (ECaught IE IN R') σ H4 Q1)
    (hR : ∀ x p H6, Px x → LamX.ExtN H3 H6 → LamX.Tabs T H6 → H6 p = some (.tup [.str word, x]) → R (.ref p) H6) : LamX.tLam T (TCaught IE IN) mt σ H3 R :=
  g_lam t3 fun H4 e4 t4 Q1 => hm H4 e4 Q1 R fun x p H6 px s6 hp => hR x p H6 px (e4.trans (LamX.ExtN.of s6)) (t4.ext s6) hp
/-- two rows with this word can be shown -/
def ShW (word : Str) (d : PyData) : Prop := (PyData.list [.tuple [.str word, d], .tuple [.str word, d]]).showable = true ∧ (PyData.list [.tuple [.str word, d], .tuple [.str word, d]]).shown.length ≤ sizeLine ∧ (PyData.list [.tuple [.str word, d], .tuple [.str word, d]]).depth ≤ 50
instance (word : Str) (d : PyData) : Decidable (ShW word d) := inferInstanceAs (Decidable (_ ∧ _ ∧ _))
theorem shw_num : ∀ n : Nat, n < 17 → ShW "event" (.int (n : Nat)) := by decide +kernel
/-- a wrong value that can be shown -/
structure OddW (K : PySem.W.Frag) (H : Hp) (word : Str) (bad : Sh → Prop) (x : V) : Prop where
  ex : ∃ s d, AnS K H x s ∧ bad s ∧ DqB H x d ∧ ShW word d
def TR (p : Addr) : List (Addr × Str) := [(p, (envOfC "_law_refused_right" (defScope s_law_refused_right) 0 0 .none).qual ++ "<lambda>")]
def spRefE (DC DE UE : Addr) (p : Addr) : Sp := fun vs H Q _ => ∃ (bv v u : V) (b : Book) (wd n : Int) (note : Option Int), vs = [bv, v, u] ∧ Fz H bv b.d ∧ DiaAt DC H v b.c b.notes b.lines ∧ DOK b.c b.notes b.lines wd ∧ EvAt DE UE H u n b.c note ∧ LamX.Tabs (TR p) H ∧ ∀ H', LamX.ExtN H H' → LamX.Tabs (TR p) H' → Q (.bl true) H'
theorem tabs_put {T : List (Addr × Str)} {H : Hp} {L : Addr} {xs ys : List V} (t : LamX.Tabs T H) (h : H L = some (.lst xs)) : LamX.Tabs T (upd H L (.lst ys)) := fun r hr => by
  obtain ⟨ps, e, ok, h2⟩ := t r hr
  have n1 : r.1 ≠ L := fun z => by rw [z, h] at e; cases e
  refine ⟨ps, by rw [upd_ne n1]; exact e, ok, fun pos cv hc => ?_⟩
  obtain ⟨c', e1, e2⟩ := h2 pos cv hc
  have n2 : c' ≠ L := fun z => by rw [z, h] at e2; cases e2
  exact ⟨c', e1, by rw [upd_ne n2]; exact e2⟩
theorem step_two {T : List (Addr × Str)} {D : Ends} {word : Str} {bad : Sh → Prop} {m1 m2 : XK → TE} {HT H3 : Hp} {v0 v1 v2 v3 x : V} {y : Option V} (hx : OddW K (noTab HT) word bad x)
    (s3 : ∀ b o, noTab HT b = some o → H3 b = some o) (t3 : LamX.Tabs T H3)
    (hm1 : ∀ (y : Option V) (H4 : Hp) (Q1 R' : VK) (s : Sh), (∀ b o, noTab HT b = some o → H4 b = some o) → AnS K H4 x s → bad s → (∀ p H6, (∀ b o, H4 b = some o → H6 b = some o) → H6 p = some (.tup [.str word, x]) → R' (.ref p) H6) → m1 (ECaught IE IN R') [some v0, some v1, some v2, some v3, some x, y, none, none, none] H4 Q1)
    (hm2 : ∀ (y : Option V) (H4 : Hp) (Q1 R' : VK) (s : Sh), (∀ b o, noTab HT b = some o → H4 b = some o) → AnS K H4 x s → bad s → (∀ p H6, (∀ b o, H4 b = some o → H6 b = some o) → H6 p = some (.tup [.str word, x]) → R' (.ref p) H6) → m2 (ECaught IE IN R') [some v0, some v1, some v2, some v3, some x, y, none, none, none] H4 Q1)
    (hq : ∀ q H', (∀ b o, noTab HT b = some o → H' b = some o) → LamX.Tabs T H' → D.nx [some v0, some v1, some v2, some v3, some x, some q, none, none, none] H') :
    tSeq (tAsg (tLst (tCons (LamX.tLam T (TCaught IE IN) m1) tNil)) (gName 5)) (tSeq (tDrop (tBM K "list" rAppend (tVar 5) (tCons (LamX.tLam T (TCaught IE IN) m2) tNil)))
      (tIfS (tTest (tOp rNe (tCB rShowB (tCons (tVar 5) tNil)) (tCB rShowB (tCons (tOp rRep (tLst (tCons (tTup (tCons (tC (.str word)) (tCons (tVar 4) tNil))) tNil)) (tC (.int 2))) tNil)))) (tRet (tC (.bl false))) tNext)) D [some v0, some v1, some v2, some v3, some x, y, none, none, none] H3 := by
  obtain ⟨sx, d, an, hb, db, e1, e2, e3⟩ := hx.ex
  refine g_seqAsg ?_
  refine g_asg ?_
  refine g_lst' ?_
  refine g_cons ?_
  refine lam_any (Px := fun z => z = x) t3 (fun H4 e4 Q1 R' hc => hm1 _ H4 Q1 R' sx (noTab_ext s3 e4) (an.same (noTab_ext s3 e4)) hb fun p H6 s6 hp => hc x p H6 rfl s6 hp) fun z p1 H5 ez e5 t5 hp1 => ?_
  subst ez
  have s5 := noTab_ext s3 e5
  refine g_nil ?_
  refine ⟨sz (by simp), fun L nL => ?_⟩
  refine g_name ?_
  have s6 := same_up (o := .lst [.ref p1]) nL s5
  have t6 := t5.ext (same_up (o := .lst [.ref p1]) nL fun _ _ h => h)
  have hp6 := kp (o' := .lst [.ref p1]) nL hp1
  have hL6 := upd_same (H := H5) (a := L) (o := .lst [.ref p1])
  have hnL : ∀ b o, noTab HT b = some o → b ≠ L := fun b o h => ne_of_none (s5 _ _ h) nL
  generalize upd H5 L (.lst [.ref p1]) = H6 at s6 t6 hp6 hL6
  refine g_proj ?_
  refine g_seqDrop ?_
  refine g_drop ?_
  refine g_bmL (i := 5) rfl hL6 ?_
  refine g_cons ?_
  refine lam_any (Px := fun w => w = z) t6 (fun H4 e4 Q1 R' hc => hm2 _ H4 Q1 R' sx (noTab_ext s6 e4) (an.same (noTab_ext s6 e4)) hb fun p H6 s6 hp => hc z p H6 rfl s6 hp) fun w p2 H7 ew e7 t7 hp2 => ?_
  subst ew
  refine g_nil ?_
  have s7 := noTab_ext s6 e7
  have hL7 := e7 _ _ hL6 (fun ps h => nomatch h)
  have hp7 := e7 _ _ hp6 (fun ps h => nomatch h)
  refine g_app hL7 (szl (by simp)) ?_
  have t8 := tabs_put (ys := [.ref p1] ++ [.ref p2]) t7 hL7
  have s8 : ∀ b o, noTab HT b = some o → upd H7 L (.lst ([.ref p1] ++ [.ref p2])) b = some o := fun b o h => by
    rw [upd_ne (hnL b o h)]; exact s7 _ _ h
  have h18 : upd H7 L (.lst ([.ref p1] ++ [.ref p2])) p1 = some (.tup [.str word, w]) := by
    rw [upd_ne (fun h => by rw [h, hL7] at hp7; cases hp7)]; exact hp7
  have h28 : upd H7 L (.lst ([.ref p1] ++ [.ref p2])) p2 = some (.tup [.str word, w]) := by
    rw [upd_ne (fun h => by rw [h, hL7] at hp2; cases hp2)]; exact hp2
  have hL8 : upd H7 L (.lst ([.ref p1] ++ [.ref p2])) L = some (.lst [.ref p1, .ref p2]) := upd_same
  generalize upd H7 L (.lst ([.ref p1] ++ [.ref p2])) = H8 at s8 t8 h18 h28 hL8
  refine g_proj ?_
  refine g_ifS ?_
  refine g_test ?_
  refine g_op ?_
  refine g_cb ?_
  refine g_cons ?_
  refine g_var rfl ?_
  refine g_nil ?_
  have db8 := db.same s8
  have row : ∀ {H' : Hp} {q : Addr}, (∀ b o, H8 b = some o → H' b = some o) → H' q = some (.tup [.str word, w]) → DqB H' (.ref q) (.tuple [.str word, d]) := fun s hq' => .tup hq' (.cons (.str _) (.cons (db8.same s) .nil))
  refine g_showB (.lst hL8 (.cons (row (fun _ _ h => h) h18) (.cons (row (fun _ _ h => h) h28) .nil))) e1 e2 e3 ?_
  refine g_cb ?_
  refine g_cons ?_
  refine g_op ?_
  refine g_lst' ?_
  refine g_cons ?_
  refine g_tup' ?_
  refine g_cons ?_
  refine g_c ?_
  refine g_cons ?_
  refine g_var rfl ?_
  refine g_nil ?_
  refine ⟨sz (by simp), fun p9 np9 => ?_⟩
  refine g_nil ?_
  refine ⟨sz (by simp), fun p10 np10 => ?_⟩
  refine g_c ?_
  refine g_rep upd_same (by decide) (by decide) (by simp) fun p11 np11 => ?_
  refine g_nil ?_
  have s9 := same_up (o := .tup [.str word, w]) np9 (fun b o (h : H8 b = some o) => h)
  have s10 := same_up (o := .lst [.ref p9]) np10 s9
  have s11 := same_up (o := .lst (List.replicate (2 : Int).toNat [V.ref p9]).flatten) np11 s10
  have h9 := kp (o' := .lst (List.replicate (2 : Int).toNat [V.ref p9]).flatten) np11 (kp (o' := .lst [.ref p9]) np10 (upd_same (H := H8) (a := p9) (o := .tup [.str word, w])))
  refine g_showB (.lst upd_same (.cons (row s11 h9) (.cons (row s11 h9) .nil))) e1 e2 e3 ?_
  refine ne_same ⟨_, rfl, ?_⟩
  refine g_iff (g_next ?_)
  exact hq _ _ (fun b o h => s11 _ _ (s8 _ _ h)) (t8.ext s11)
theorem sc_refE : FnScope ["book", "told", "one", "box", "odd", "told_here", "pair", "far", "kind"] ["book", "told", "one"] (defScope s_law_refused_right) := ⟨rfl, rfl, rfl, by decide +kernel, rfl, by decide +kernel, by decide +kernel⟩
theorem ok_refE {c p : Addr} (F : FnT K "_law_refused_right" s_law_refused_right f fd) (ht : tabA K f = some (c, p)) (tb : LamX.TabB base mg c p) (T : Blt mg) (S : SysB K) (D : DiaF P w K mg base DC IE) (V : EvF P w K mg base EC DE UE IN) (Ev : EventF P w K mg base DC DE UE IE) (Cd : CauD K mg IE IN WE) (hDoubled : Has P w K mg base 1 "_law_doubled" ["kind"] (spDoubled K)) :
    GOk P w K mg base 11 f fd ["book", "told", "one"] (spRefE DC DE UE p) := by
  refine gok_bodyC F ht sc_refE (fun vs H Q E h => ?_) (fun A outer s H vs Q E hg hr h => ?_)
  · obtain ⟨bv, v, u, b, wd, n, note, rfl, _⟩ := h
    rfl
  · obtain ⟨bv, v, u, b, wd, n, note, rfl, hF, hD, ok, hE, tabs, q⟩ := h
    have sc := sc_refE
    have hu := hr.units
    have O := D.obj
    have OE := V.o (note := note)
    obtain ⟨fV, fdV, mV, bV, okV, kV⟩ := Ev.ex
    obtain ⟨fL, fdL, mL, bL, okL, kL⟩ := (V.l (note := note)).ex
    obtain ⟨fT, fdT, mT, bT, okT, kT⟩ := V.fits.at (note := note)
    refine ⟨_, (pss_cons (ps_set (i := 3) sc.nd rfl (Or.inr rfl) (pe_lst (pa_cons pe_str pa_nil)))
      (pss_cons (ps_for PassesOwn.never rfl (pi_tup (pe_tup (pa_cons (pe_op op_sub pe_int pe_int) (pa_cons (pe_callB call_len_seq (by rfl) T.len PySem.boot_len (pa_cons (pe_ix (r := rIxT K) ix_tup (pv 0) pe_int (fun _ _ => rfl)) pa_nil)) (pa_cons pe_non (pa_cons pe_bl (pa_cons pe_bl (pa_cons pe_str (pa_cons (pe_tup (pa_cons pe_int pa_nil)) (pa_cons (pe_lst (pa_cons pe_int pa_nil)) (pa_cons pe_dnewK (pa_cons (pe_op op_pow pe_int pe_int) (pa_cons (pe_tup pa_nil) pa_nil))))))))))))) (pg_name (i := 4) sc.nd rfl (Or.inr rfl))
        (pss_cons (ps_set (i := 5) sc.nd rfl (Or.inl rfl) (pe_lst (pa_cons (pe_caucall (T := TR p) (k := 8) (t := fun E => tMeth DC "event" (spEvent K DC DE UE IE) [] E (tVar 1) (tCons (tVar 4) tNil)) Cd (by rfl) tb rfl rfl hr (LamX.lamS_by (by rfl)) rfl (fun _ _ _ _ _ => rfl) (fun A outer s H E f c' hr' => by exact (pe_meth (pv 1) O.cls mV okV (hr'.mono (by decide)) bV .nil passLam (by exact (pa_cons (pv 4) pa_nil))))) pa_nil)))
        (pss_cons (ps_expr (pe_bm PySem.F.plainAttrs_list PySem.F.slot_list_append PySem.F.type_list_append mt_append (pv 5) (pa_cons (pe_caucall (T := TR p) (k := 8) (t := fun E => tMethK0 DC "event" (["number"] : List Str).length (spEvent K DC DE UE IE) (fun vs zs => vs ++ zs) E (tVar 1) (tCons (tVar 4) tNil)) Cd (by rfl) tb rfl rfl hr (LamX.lamS_by (by rfl)) rfl (fun _ _ _ _ _ => rfl) (fun A outer s H E f c' hr' => by exact (pe_methK0 (pv 1) O.cls mV okV (hr'.mono (by decide)) kV passLam (pk_cons (pv 4) pk_nil)))) pa_nil)))
        (pss_one (ps_if (pt_cmpR op_ne (pe_callB (call_showB S hg hr) (by rfl) T.repr (by decide +kernel) (pa_cons (pv 5) pa_nil)) (pe_callB (call_showB S hg hr) (by rfl) T.repr (by decide +kernel) (pa_cons (pe_op op_rep (pe_lst (pa_cons (pe_tup (pa_cons pe_str (pa_cons (pv 4) pa_nil))) pa_nil)) pe_int) pa_nil)) (nomark _))
          (pss_one (ps_ret pe_bl))
          pss_nil)))))
      (pss_cons (ps_for PassesOwn.never rfl (pi_tup (pe_tup (pa_cons pe_non (pa_cons pe_bl (pa_cons pe_bl (pa_cons pe_str (pa_cons (pe_tup (pa_cons pe_int pa_nil)) (pa_cons (pe_lst (pa_cons pe_int pa_nil)) (pa_cons pe_dnewK (pa_cons (pe_tup pa_nil) (pa_cons pe_str pa_nil))))))))))) (pg_name (i := 4) sc.nd rfl (Or.inr rfl))
        (pss_cons (ps_set (i := 5) sc.nd rfl (Or.inl rfl) (pe_lst (pa_cons (pe_caucall (T := TR p) (k := 8) (t := fun E => tMeth (evC DE UE note) "latest" (spLat K DE UE IN note.isSome) [] E (tVar 2) (tCons (tVar 4) tNil)) Cd (by rfl) tb rfl rfl hr (LamX.lamS_by (by rfl)) rfl (fun _ _ _ _ _ => rfl) (fun A outer s H E f c' hr' => by exact (pe_meth (pv 2) OE.cls mL okL (hr'.mono (by decide)) bL .nil passLam (by exact (pa_cons (pv 4) pa_nil))))) pa_nil)))
        (pss_cons (ps_expr (pe_bm PySem.F.plainAttrs_list PySem.F.slot_list_append PySem.F.type_list_append mt_append (pv 5) (pa_cons (pe_caucall (T := TR p) (k := 8) (t := fun E => tMeth (evC DE UE note) "fits" (spFits K DE UE IN) [] E (tVar 2) (tCons (tVar 4) tNil)) Cd (by rfl) tb rfl rfl hr (LamX.lamS_by (by rfl)) rfl (fun _ _ _ _ _ => rfl) (fun A outer s H E f c' hr' => by exact (pe_meth (pv 2) OE.cls mT okT (hr'.mono (by decide)) bT .nil passLam (by exact (pa_cons (pv 4) pa_nil))))) pa_nil)))
        (pss_one (ps_if (pt_cmpR op_ne (pe_callB (call_showB S hg hr) (by rfl) T.repr (by decide +kernel) (pa_cons (pv 5) pa_nil)) (pe_callB (call_showB S hg hr) (by rfl) T.repr (by decide +kernel) (pa_cons (pe_op op_rep (pe_lst (pa_cons (pe_tup (pa_cons pe_str (pa_cons (pv 4) pa_nil))) pa_nil)) pe_int) pa_nil)) (nomark _))
          (pss_one (ps_ret pe_bl))
          pss_nil)))))
      (pss_cons (ps_set (i := 5) sc.nd rfl (Or.inl rfl) (pe_lst (pa_cons (pe_caucall (T := TR p) (k := 8) (t := fun E => tMeth DC "event" (spEvent K DC DE UE IE) [] E (tVar 1) (tCons (tVar 3) tNil)) Cd (by rfl) tb rfl rfl hr (LamX.lamS_by (by rfl)) rfl (fun _ _ _ _ _ => rfl) (fun A outer s H E f c' hr' => by exact (pe_meth (pv 1) O.cls mV okV (hr'.mono (by decide)) bV .nil passLam (by exact (pa_cons (pv 3) pa_nil))))) pa_nil)))
      (pss_cons (ps_expr (pe_bm PySem.F.plainAttrs_list PySem.F.slot_list_append PySem.F.type_list_append mt_append (pv 5) (pa_cons (pe_caucall (T := TR p) (k := 8) (t := fun E => tMeth (evC DE UE note) "latest" (spLat K DE UE IN note.isSome) [] E (tVar 2) (tCons (tVar 3) tNil)) Cd (by rfl) tb rfl rfl hr (LamX.lamS_by (by rfl)) rfl (fun _ _ _ _ _ => rfl) (fun A outer s H E f c' hr' => by exact (pe_meth (pv 2) OE.cls mL okL (hr'.mono (by decide)) bL .nil passLam (by exact (pa_cons (pv 3) pa_nil))))) pa_nil)))
      (pss_cons (ps_expr (pe_bm PySem.F.plainAttrs_list PySem.F.slot_list_append PySem.F.type_list_append mt_append (pv 5) (pa_cons (pe_caucall (T := TR p) (k := 8) (t := fun E => tMethK0 (evC DE UE note) "fits" (["day"] : List Str).length (spFits K DE UE IN) (fun vs zs => vs ++ zs) E (tVar 2) (tCons (tVar 3) tNil)) Cd (by rfl) tb rfl rfl hr (LamX.lamS_by (by rfl)) rfl (fun _ _ _ _ _ => rfl) (fun A outer s H E f c' hr' => by exact (pe_methK0 (pv 2) OE.cls mT okT (hr'.mono (by decide)) kT passLam (pk_cons (pv 3) pk_nil)))) pa_nil)))
      (pss_cons (ps_expr (pe_bm PySem.F.plainAttrs_list PySem.F.slot_list_append PySem.F.type_list_append mt_append (pv 3) (pa_cons pe_str pa_nil)))
      (pss_cons (ps_if (pt_cmpR (op_neD hu) (pe_lc (own := [("pair", 6)]) (g := gName 6) (tt := tYes) (by rfl) sc.nd (pi_list (pv 5)) (blkOk_by (sc := defScope s_law_refused_right) (N := ["book", "told", "one", "box", "odd", "told_here", "pair", "far", "kind"]) (own := [("pair", 6)]) (by decide +kernel)) (fun _ _ _ _ _ => (pg_name (i := 6) sc.nd rfl (Or.inl rfl))) (fun _ _ _ _ _ => pts_nil) (fun _ _ _ _ _ => (pe_ix (r := rIxT K) ix_tup (pv 6) pe_int (fun _ _ => rfl)))) (pe_op op_rep (pe_lst (pa_cons (pe_lst (pa_cons pe_str (pa_cons pe_str pa_nil))) pa_nil)) pe_int) (nomark _))
        (pss_one (ps_ret pe_bl))
        pss_nil)
      (pss_cons (ps_setLc (i := 7) (own := [("kind", 8)]) (g := gName 8) (tt := tYes) (te := tOp (rIxT K) (LamX.tLam (TR p) (TCaught IE IN) (fun E => tMeth (evC DE UE note) "fits" (spFits K DE UE IN) [] E (tVar 2) (tCons (tCall (spDoubled K) [] E0 (tCons (tVar 8) tNil)) tNil))) (tC (.int 0))) (by rfl) sc.nd rfl rfl (sw_true rfl rfl rfl (by decide +kernel)) (pi_range1 (by rfl) T.range (pa_cons pe_int pa_nil)) (blkOk_by (sc := defScope s_law_refused_right) (N := ["book", "told", "one", "box", "odd", "told_here", "pair", "far", "kind"]) (own := [("kind", 8)]) (by decide +kernel)) (fun _ _ _ _ _ => (pg_name (i := 8) sc.nd rfl (Or.inr rfl))) (fun _ _ _ _ _ => pts_nil) (fun _ _ _ _ _ => (by exact (pe_ix (r := rIxT K) ix_tup (pe_caucall (T := TR p) (k := 8) (t := fun E => tMeth (evC DE UE note) "fits" (spFits K DE UE IN) [] E (tVar 2) (tCons (tCall (spDoubled K) [] E0 (tCons (tVar 8) tNil)) tNil)) Cd (by rfl) tb rfl rfl hr (LamX.lamS_by (by rfl)) rfl (fun _ _ _ _ _ => rfl) (fun A outer s H E f c' hr' => by exact (pe_meth (pv 2) OE.cls mT okT (hr'.mono (by decide)) bT .nil passLam (by exact (pa_cons (pe_has hDoubled hr' (by decide) (pa_cons (pv 8) pa_nil)) pa_nil))))) pe_int (fun _ _ => rfl)))))
      (pss_one (ps_ret (pe_and (pe_cmpR (op_eqD hu) (pv 7) (pe_lst (pa_cons pe_str (pa_cons pe_str pa_nil))) (nomark _)) (pe_one (pe_cmpR op_eq (pe_ix (r := rIxT K) ix_tup (pe_caucall (T := TR p) (k := 8) (t := fun E => tMeth DC "event" (spEvent K DC DE UE IE) [] E (tVar 1) (tCons (tCall (spDoubled K) [] E0 (tCons (tC (.int 0)) tNil)) tNil)) Cd (by rfl) tb rfl rfl hr (LamX.lamS_by (by rfl)) rfl (fun _ _ _ _ _ => rfl) (fun A outer s H E f c' hr' => by exact (pe_meth (pv 1) O.cls mV okV (hr'.mono (by decide)) bV .nil passLam (by exact (pa_cons (pe_has hDoubled hr' (by decide) (pa_cons pe_int pa_nil)) pa_nil))))) pe_int (fun _ _ => rfl)) pe_str (nomark _))))))))))))))), ?_⟩
    obtain ⟨bk, na, la, dv, rfl, hb, hbn, ⟨rows, hbl, hrows⟩, hdv⟩ := book_inv hF
    obtain ⟨a, dx, wv, bv', rfl, ha, hn', hl'⟩ := id hD
    obtain ⟨ea, edx, rfl, hea⟩ := id hE
    walk_at "ex"
    refine g_lst' ?_
    walk_at "ex"
    refine ⟨sz (by simp), fun box nbox => ?_⟩
    have s1 := same_up (o := .lst [.str "a"]) nbox (H := H) (fun _ _ h => h)
    walk_at "ex"
    refine g_seq ?_
    walk_at "go"
    refine g_tup' ?_
    walk_at "go"
    refine g_ixT (K := K) (SqT.of (s1 _ _ hb)) rfl ?_
    walk_at "go"
    refine g_len (K := K) (Or.inr (SqT.of (s1 _ _ hbn))) ?_
    rw [List.length_map]
    walk_at "go"
    refine g_tup' ?_
    walk_at "go"
    refine ⟨sz (by simp), fun p5 np5 => ?_⟩
    have s5 := same_up (o := .tup [.int 0]) np5 s1
    walk_at "go"
    refine g_lst' ?_
    walk_at "go"
    refine ⟨sz (by simp), fun p6 np6 => ?_⟩
    have s6 := same_up (o := .lst [.int 0]) np6 s5
    walk_at "go"
    refine g_dnew fun p7 np7 => ?_
    have s7 := same_up (o := .dK []) np7 s6
    walk_at "go"
    refine g_tup' ?_
    walk_at "go"
    refine ⟨sz (by simp), fun p8 np8 => ?_⟩
    have s8 := same_up (o := .tup []) np8 s7
    walk_at "go"
    refine ⟨sz (by simp), fun pT npT => ?_⟩
    have hn16 := ok.n16
    have sT := same_up (o := .tup [.int (0 - 1), .int (b.notes.length : Nat), .non, .bl true, .bl false, .str "0", .ref p5, .ref p6, .ref p7, .int (10 ^ Int.toNat 30), .ref p8]) npT s8
    generalize hxs : [L2.V.int (0 - 1), .int (b.notes.length : Nat), .non, .bl true, .bl false, .str "0", .ref p5, .ref p6, .ref p7, .int (10 ^ Int.toNat 30), .ref p8] = xs at sT ⊢
    have h5 := kp (o' := .tup xs) npT (kp (o' := .tup []) np8 (kp (o' := .dK []) np7 (kp (o' := .lst [.int 0]) np6 (upd_same (H := upd H box (.lst [.str "a"])) (a := p5) (o := .tup [.int 0])))))
    have h6 := kp (o' := .tup xs) npT (kp (o' := .tup []) np8 (kp (o' := .dK []) np7 (upd_same (H := upd (upd H box (.lst [.str "a"])) p5 (.tup [.int 0])) (a := p6) (o := .lst [.int 0]))))
    have h7 := kp (o' := .tup xs) npT (kp (o' := .tup []) np8 (upd_same (H := upd (upd (upd H box (.lst [.str "a"])) p5 (.tup [.int 0])) p6 (.lst [.int 0])) (a := p7) (o := .dK [])))
    have h8 := kp (o' := .tup xs) npT (upd_same (H := upd (upd (upd (upd H box (.lst [.str "a"])) p5 (.tup [.int 0])) p6 (.lst [.int 0])) p7 (.dK [])) (a := p8) (o := .tup []))
    have hb1 := kp (o' := .tup xs) npT (kp (o' := .tup []) np8 (kp (o' := .dK []) np7 (kp (o' := .lst [.int 0]) np6 (kp (o' := .tup [.int 0]) np5 (upd_same (H := H) (a := box) (o := .lst [.str "a"]))))))
    generalize hHT : upd (upd (upd (upd (upd (upd H box (.lst [.str "a"])) p5 (.tup [.int 0])) p6 (.lst [.int 0])) p7 (.dK [])) p8 (.tup [])) pT (.tup xs) = HT at sT h5 h6 h7 h8 hb1 ⊢
    have hT : HT pT = some (.tup xs) := by rw [← hHT]; exact upd_same
    have m5 := noTab_at h5 (fun ps z => nomatch z)
    have m6 := noTab_at h6 (fun ps z => nomatch z)
    have m7 := noTab_at h7 (fun ps z => nomatch z)
    have m8 := noTab_at h8 (fun ps z => nomatch z)
    have mb := noTab_at hb1 (fun ps z => nomatch z)
    have mT := noTab_at hT (fun ps z => nomatch z)
    have tT := tabs.ext sT
    have up : ∀ {H' : Hp}, (∀ b o, noTab HT b = some o → H' b = some o) → ∀ b o, noTab H b = some o → H' b = some o := fun s b o h => s b o (noTab_at (sT _ _ (noTab_of h).1) (noTab_of h).2)
    have hDn : DiaAt DC (noTab H) (.ref a) b.c b.notes b.lines := ⟨a, dx, wv, bv', rfl, noTab_at ha (fun ps z => nomatch z), hn'.tk (fun b xs h => noTab_at h (fun ps z => nomatch z)), hl'.tk (fun b xs h => noTab_at h (fun ps z => nomatch z))⟩
    have hEn : EvAt DE UE (noTab H) (.ref ea) n b.c note := ⟨ea, edx, rfl, noTab_at hea (fun ps z => nomatch z)⟩
    -- the three calls
    have mEv : ∀ {H4 : Hp} {x : L2.V} {s : Sh} {Q1 R' : VK}, (∀ b o, noTab HT b = some o → H4 b = some o) → AnS K H4 x s → s.within 0 ((b.notes.length : Int) - 1) = false → (∀ p H6, (∀ b o, H4 b = some o → H6 b = some o) → H6 p = some (.tup [.str "event", x]) → R' (.ref p) H6) → H4 a = some (.ins DC dx (dFs (.int b.c) wv bv')) ∧ spEvent K DC DE UE IE [.ref a, x] H4 Q1 (ECaught IE IN R') := fun s4 an hs hc => ⟨up s4 _ _ (noTab_at ha (fun ps z => nomatch z)), ref_event (hDn.same (up s4)) ok an hs hc⟩
    have mLat : ∀ {H4 : Hp} {x : L2.V} {s : Sh} {Q1 R' : VK}, (∀ b o, noTab HT b = some o → H4 b = some o) → AnS K H4 x s → s.isInt = false → (∀ p H6, (∀ b o, H4 b = some o → H6 b = some o) → H6 p = some (.tup [.str "number", x]) → R' (.ref p) H6) → H4 ea = some (.ins (evC DE UE note) edx (evFs (.int n) (.int b.c) note)) ∧ spLat K DE UE IN note.isSome [.ref ea, x] H4 Q1 (ECaught IE IN R') := fun s4 an hs hc => ⟨up s4 _ _ (noTab_at hea (fun ps z => nomatch z)), ref_lat ok.c2 (hEn.same (up s4)) an hs hc⟩
    have mFit : ∀ {H4 : Hp} {x : L2.V} {s : Sh} {Q1 R' : VK}, (∀ b o, noTab HT b = some o → H4 b = some o) → AnS K H4 x s → s.isInt = false → (∀ p H6, (∀ b o, H4 b = some o → H6 b = some o) → H6 p = some (.tup [.str "number", x]) → R' (.ref p) H6) → H4 ea = some (.ins (evC DE UE note) edx (evFs (.int n) (.int b.c) note)) ∧ spFits K DE UE IN [.ref ea, x] H4 Q1 (ECaught IE IN R') := fun s4 an hs hc => ⟨up s4 _ _ (noTab_at hea (fun ps z => nomatch z)), ref_fits ok.c2 (hEn.same (up s4)) an hs hc⟩
    have hodd : ∀ x ∈ xs, OddW K (noTab HT) "event" (fun s => s.within 0 ((b.notes.length : Int) - 1) = false) x := by
      intro x hx
      rw [← hxs] at hx
      simp only [List.mem_cons, List.not_mem_nil, or_false] at hx
      rcases hx with rfl | rfl | rfl | rfl | rfl | rfl | rfl | rfl | rfl | rfl | rfl
      · exact ⟨.int (0 - 1), .int (0 - 1), .int _, rfl, .int _, by decide +kernel⟩
      · exact ⟨.int (b.notes.length : Nat), .int (b.notes.length : Nat), .int _, (by show (decide ((0 : Int) ≤ (b.notes.length : Nat)) && decide (((b.notes.length : Nat) : Int) ≤ (b.notes.length : Int) - 1)) = false; rw [decide_eq_false (show ¬ ((b.notes.length : Nat) : Int) ≤ (b.notes.length : Int) - 1 by omega), Bool.and_false]), .int _, shw_num _ (by omega)⟩
      · exact ⟨.non, .none, .non, rfl, .non, by decide +kernel⟩
      · exact ⟨.bl, .bool true, .bl _, rfl, .bl _, by decide +kernel⟩
      · exact ⟨.bl, .bool false, .bl _, rfl, .bl _, by decide +kernel⟩
      · exact ⟨.str, .str "0", .str _, rfl, .str _, by decide +kernel⟩
      · exact ⟨.tup [.int 0], .tuple [.int 0], .tup (SqT.of m5) (.cons (.int 0) .nil), rfl, .tup m5 (.cons (.int 0) .nil), by decide +kernel⟩
      · exact ⟨.lst, .list [.int 0], .lst (SqL.of m6), rfl, .lst m6 (.cons (.int 0) .nil), by decide +kernel⟩
      · exact ⟨.dct, .dict [], .dct m7, rfl, .mtd m7, by decide +kernel⟩
      · refine ⟨.int (10 ^ Int.toNat 30), .int (10 ^ Int.toNat 30), .int _, ?_, .int _, by decide +kernel⟩
        show (decide ((0 : Int) ≤ 10 ^ Int.toNat 30) && decide ((10 : Int) ^ Int.toNat 30 ≤ (b.notes.length : Int) - 1)) = false
        have e30 : (10 : Int) ^ Int.toNat 30 = 1000000000000000000000000000000 := by decide +kernel
        rw [e30, decide_eq_false (show ¬ (1000000000000000000000000000000 : Int) ≤ (b.notes.length : Int) - 1 by omega), Bool.and_false]
      · exact ⟨.tup [], .tuple [], .tup (SqT.of m8) .nil, rfl, .tup m8 .nil, by decide +kernel⟩
    refine g_tq (K := K) (SqT.of hT) ?_
    refine ForQ.tup (xs := xs) (fun i σ H' => (∃ x y, σ = [some (.ref bk), some (.ref a), some (.ref ea), some (.ref box), x, y, none, none, none]) ∧ (∀ b o, noTab HT b = some o → H' b = some o) ∧ LamX.Tabs (TR p) H') ⟨⟨_, _, rfl⟩, noTab_same, tT⟩ (fun i σ H' _ h => SqT.of (h.2.1 _ _ mT)) ?_ ?_
    · rintro i x σ H3 hx ⟨⟨u, y, rfl⟩, s3, t3⟩
      refine g_name ?_
      refine step_two (hodd x (List.mem_of_getElem? hx)) s3 t3 (fun y H4 Q1 R' s s4 an hs hc => ?_) (fun y H4 Q1 R' s s4 an hs hc => ?_) fun q H' s' t' => ⟨⟨_, _, rfl⟩, s', t'⟩
      · obtain ⟨hi, hsp⟩ := mEv (Q1 := Q1) s4 an hs hc
        exact g_meth ⟨.ref a, rfl, a, dx, _, rfl, hi, rfl, x, rfl, hsp⟩
      · obtain ⟨hi, hsp⟩ := mEv (Q1 := Q1) s4 an hs hc
        exact g_methK0 ⟨.ref a, rfl, a, dx, _, rfl, hi, rfl, x, rfl, rfl, hsp⟩
    · clear hodd
      rintro σ HU ⟨⟨xo, yo, rfl⟩, sU, tU⟩
      have tU' := tU
      refine g_seq ?_
      walk_at "go"
      refine g_tup' ?_
      walk_at "go"
      refine g_tup' ?_
      walk_at "go"
      refine ⟨sz (by simp), fun q5 nq5 => ?_⟩
      have u5 := same_up (o := .tup [.int 0]) nq5 (fun b o (h : HU b = some o) => h)
      walk_at "go"
      refine g_lst' ?_
      walk_at "go"
      refine ⟨sz (by simp), fun q6 nq6 => ?_⟩
      have u6 := same_up (o := .lst [.int 0]) nq6 u5
      walk_at "go"
      refine g_dnew fun q7 nq7 => ?_
      have u7 := same_up (o := .dK []) nq7 u6
      walk_at "go"
      refine g_tup' ?_
      walk_at "go"
      refine ⟨sz (by simp), fun q8 nq8 => ?_⟩
      have u8 := same_up (o := .tup []) nq8 u7
      walk_at "go"
      refine ⟨sz (by simp), fun qT nqT => ?_⟩
      have uT := same_up (o := .tup [.non, .bl true, .bl false, .str "0", .ref q5, .ref q6, .ref q7, .ref q8, .str ""]) nqT u8
      generalize hys : [L2.V.non, .bl true, .bl false, .str "0", .ref q5, .ref q6, .ref q7, .ref q8, .str ""] = ys at uT ⊢
      have k5 := kp (o' := .tup ys) nqT (kp (o' := .tup []) nq8 (kp (o' := .dK []) nq7 (kp (o' := .lst [.int 0]) nq6 (upd_same (H := HU) (a := q5) (o := .tup [.int 0])))))
      have k6 := kp (o' := .tup ys) nqT (kp (o' := .tup []) nq8 (kp (o' := .dK []) nq7 (upd_same (H := upd HU q5 (.tup [.int 0])) (a := q6) (o := .lst [.int 0]))))
      have k7 := kp (o' := .tup ys) nqT (kp (o' := .tup []) nq8 (upd_same (H := upd (upd HU q5 (.tup [.int 0])) q6 (.lst [.int 0])) (a := q7) (o := .dK [])))
      have k8 := kp (o' := .tup ys) nqT (upd_same (H := upd (upd (upd HU q5 (.tup [.int 0])) q6 (.lst [.int 0])) q7 (.dK [])) (a := q8) (o := .tup []))
      generalize hHW : upd (upd (upd (upd (upd HU q5 (.tup [.int 0])) q6 (.lst [.int 0])) q7 (.dK [])) q8 (.tup [])) qT (.tup ys) = HW at uT k5 k6 k7 k8 ⊢
      have hW : HW qT = some (.tup ys) := by rw [← hHW]; exact upd_same
      have l5 := noTab_at k5 (fun ps z => nomatch z)
      have l6 := noTab_at k6 (fun ps z => nomatch z)
      have l7 := noTab_at k7 (fun ps z => nomatch z)
      have l8 := noTab_at k8 (fun ps z => nomatch z)
      have lT := noTab_at hW (fun ps z => nomatch z)
      have tW := tU.ext uT
      have upW : ∀ {H' : Hp}, (∀ b o, noTab HW b = some o → H' b = some o) → ∀ b o, noTab HT b = some o → H' b = some o := fun s b o h => s b o (noTab_at (uT _ _ (sU _ _ h)) (noTab_of h).2)
      have hodd : ∀ x ∈ ys, OddW K (noTab HW) "number" (fun s => s.isInt = false) x := by
        intro x hx
        rw [← hys] at hx
        simp only [List.mem_cons, List.not_mem_nil, or_false] at hx
        rcases hx with rfl | rfl | rfl | rfl | rfl | rfl | rfl | rfl | rfl
        · exact ⟨.non, .none, .non, rfl, .non, by decide +kernel⟩
        · exact ⟨.bl, .bool true, .bl _, rfl, .bl _, by decide +kernel⟩
        · exact ⟨.bl, .bool false, .bl _, rfl, .bl _, by decide +kernel⟩
        · exact ⟨.str, .str "0", .str _, rfl, .str _, by decide +kernel⟩
        · exact ⟨.tup [.int 0], .tuple [.int 0], .tup (SqT.of l5) (.cons (.int 0) .nil), rfl, .tup l5 (.cons (.int 0) .nil), by decide +kernel⟩
        · exact ⟨.lst, .list [.int 0], .lst (SqL.of l6), rfl, .lst l6 (.cons (.int 0) .nil), by decide +kernel⟩
        · exact ⟨.dct, .dict [], .dct l7, rfl, .mtd l7, by decide +kernel⟩
        · exact ⟨.tup [], .tuple [], .tup (SqT.of l8) .nil, rfl, .tup l8 .nil, by decide +kernel⟩
        · exact ⟨.str, .str "", .str _, rfl, .str _, by decide +kernel⟩
      refine g_tq (K := K) (SqT.of hW) ?_
      refine ForQ.tup (xs := ys) (fun i σ H' => (∃ x y, σ = [some (.ref bk), some (.ref a), some (.ref ea), some (.ref box), x, y, none, none, none]) ∧ (∀ b o, noTab HW b = some o → H' b = some o) ∧ LamX.Tabs (TR p) H') ⟨⟨_, _, rfl⟩, noTab_same, tW⟩ (fun i σ H' _ h => SqT.of (h.2.1 _ _ lT)) ?_ ?_
      · rintro i x σ H3 hx ⟨⟨u, y, rfl⟩, s3, t3⟩
        refine g_name ?_
        refine step_two (hodd x (List.mem_of_getElem? hx)) s3 t3 (fun y H4 Q1 R' s s4 an hs hc => ?_) (fun y H4 Q1 R' s s4 an hs hc => ?_) fun q H' s' t' => ⟨⟨_, _, rfl⟩, s', t'⟩
        · obtain ⟨hi, hsp⟩ := mLat (Q1 := Q1) (upW s4) an hs hc
          exact g_meth ⟨.ref ea, rfl, ea, edx, _, rfl, hi, by cases note <;> rfl, x, rfl, hsp⟩
        · obtain ⟨hi, hsp⟩ := mFit (Q1 := Q1) (upW s4) an hs hc
          exact g_meth ⟨.ref ea, rfl, ea, edx, _, rfl, hi, by cases note <;> rfl, x, rfl, hsp⟩
      · rintro σ H3 ⟨⟨x3, y3, rfl⟩, s3', t3⟩
        have s3 := upW s3'
        clear hodd
        walk_at "ex"
        refine g_lst' ?_
        walk_at "go"
        refine lam_any (word := "event") (Px := fun z => z = .ref box) t3 (fun H4 e4 Q1 R' hc => ?_) fun z p1 H5 ez e5 t5 hp1 => ?_
        · have s4 := noTab_ext s3' e4
          obtain ⟨hi, hsp⟩ := mEv (Q1 := Q1) (upW s4) (.lst (SqL.of (upW s4 _ _ mb))) rfl fun p H6 s6 hp => hc _ p H6 rfl s6 hp
          exact g_meth ⟨.ref a, rfl, a, dx, _, rfl, hi, rfl, .ref box, rfl, hsp⟩
        subst ez
        have s5 := noTab_ext s3' e5
        refine g_nil ?_
        refine ⟨sz (by simp), fun L nL => ?_⟩
        have s6 := same_up (o := .lst [.ref p1]) nL s5
        have t6 := t5.ext (same_up (o := .lst [.ref p1]) nL fun _ _ h => h)
        have hp6 := kp (o' := .lst [.ref p1]) nL hp1
        have hL6 := upd_same (H := H5) (a := L) (o := .lst [.ref p1])
        have hnL : ∀ b o, noTab HW b = some o → b ≠ L := fun b o h => ne_of_none (s5 _ _ h) nL
        generalize upd H5 L (.lst [.ref p1]) = H6 at s6 t6 hp6 hL6 ⊢
        walk_at "go"
        refine g_bmL (i := 5) rfl hL6 ?_
        refine g_cons ?_
        refine lam_any (word := "number") (Px := fun z => z = .ref box) t6 (fun H4 e4 Q1 R' hc => ?_) fun z p2 H7 ez e7 t7 hp2 => ?_
        · have s4 := noTab_ext s6 e4
          obtain ⟨hi, hsp⟩ := mLat (Q1 := Q1) (upW s4) (.lst (SqL.of (upW s4 _ _ mb))) rfl fun p H6 s6 hp => hc _ p H6 rfl s6 hp
          exact g_meth ⟨.ref ea, rfl, ea, edx, _, rfl, hi, by cases note <;> rfl, .ref box, rfl, hsp⟩
        subst ez
        refine g_nil ?_
        have s7 := noTab_ext s6 e7
        have hL7 := e7 _ _ hL6 (fun ps h => nomatch h)
        have hp7 := e7 _ _ hp6 (fun ps h => nomatch h)
        refine g_app hL7 (szl (by simp)) ?_
        have t8 := tabs_put (ys := [.ref p1] ++ [.ref p2]) t7 hL7
        have s8 : ∀ b o, noTab HW b = some o → upd H7 L (.lst ([.ref p1] ++ [.ref p2])) b = some o := fun b o h => by
          rw [upd_ne (hnL b o h)]; exact s7 _ _ h
        have h18 : upd H7 L (.lst ([.ref p1] ++ [.ref p2])) p1 = some (.tup [.str "event", .ref box]) := by
          rw [upd_ne (fun h => by rw [h, hL7] at hp7; cases hp7)]; exact hp7
        have h28 : upd H7 L (.lst ([.ref p1] ++ [.ref p2])) p2 = some (.tup [.str "number", .ref box]) := by
          rw [upd_ne (fun h => by rw [h, hL7] at hp2; cases hp2)]; exact hp2
        have hL8 : upd H7 L (.lst ([.ref p1] ++ [.ref p2])) L = some (.lst ([.ref p1] ++ [.ref p2])) := upd_same
        generalize upd H7 L (.lst ([.ref p1] ++ [.ref p2])) = H8 at s8 t8 h18 h28 hL8 ⊢
        walk_at "go"
        refine g_bmL (i := 5) rfl hL8 ?_
        refine g_cons ?_
        refine lam_any (word := "number") (Px := fun z => z = .ref box) t8 (fun H4 e4 Q1 R' hc => ?_) fun z p3 H9 ez e9 t9 hp3 => ?_
        · have s4 := noTab_ext s8 e4
          obtain ⟨hi, hsp⟩ := mFit (Q1 := Q1) (upW s4) (.lst (SqL.of (upW s4 _ _ mb))) rfl fun p H6 s6 hp => hc _ p H6 rfl s6 hp
          exact g_methK0 ⟨.ref ea, rfl, ea, edx, _, rfl, hi, by cases note <;> rfl, .ref box, rfl, rfl, hsp⟩
        subst ez
        refine g_nil ?_
        have s9 := noTab_ext s8 e9
        have hL9 := e9 _ _ hL8 (fun ps h => nomatch h)
        have h19 := e9 _ _ h18 (fun ps h => nomatch h)
        have h29 := e9 _ _ h28 (fun ps h => nomatch h)
        have mbW : noTab HW box = some (.lst [.str "a"]) := noTab_at (uT _ _ (sU _ _ mb)) (fun ps z => nomatch z)
        have hb9 := s9 _ _ mbW
        refine g_app hL9 (szl (by simp)) ?_
        have nbL : box ≠ L := hnL _ _ mbW
        have t10 := tabs_put (ys := [.ref p1] ++ [.ref p2] ++ [.ref p3]) t9 hL9
        have s10 : ∀ b o, noTab HW b = some o → upd H9 L (.lst ([.ref p1] ++ [.ref p2] ++ [.ref p3])) b = some o := fun b o h => by
          rw [upd_ne (hnL b o h)]; exact s9 _ _ h
        have h110 : upd H9 L (.lst ([.ref p1] ++ [.ref p2] ++ [.ref p3])) p1 = some (.tup [.str "event", .ref box]) := by
          rw [upd_ne (fun h => by rw [h, hL9] at h19; cases h19)]; exact h19
        have h210 : upd H9 L (.lst ([.ref p1] ++ [.ref p2] ++ [.ref p3])) p2 = some (.tup [.str "number", .ref box]) := by
          rw [upd_ne (fun h => by rw [h, hL9] at h29; cases h29)]; exact h29
        have h310 : upd H9 L (.lst ([.ref p1] ++ [.ref p2] ++ [.ref p3])) p3 = some (.tup [.str "number", .ref box]) := by
          rw [upd_ne (fun h => by rw [h, hL9] at hp3; cases hp3)]; exact hp3
        have hL10 : upd H9 L (.lst ([.ref p1] ++ [.ref p2] ++ [.ref p3])) L = some (.lst [.ref p1, .ref p2, .ref p3]) := upd_same
        have hb10 : upd H9 L (.lst ([.ref p1] ++ [.ref p2] ++ [.ref p3])) box = some (.lst [.str "a"]) := by rw [upd_ne nbL]; exact hb9
        generalize upd H9 L (.lst ([.ref p1] ++ [.ref p2] ++ [.ref p3])) = H10 at s10 t10 h110 h210 h310 hL10 hb10 ⊢
        walk_at "go"
        refine g_bmL (i := 3) rfl hb10 ?_
        walk_at "go"
        refine g_app hb10 (szl (by simp)) ?_
        have t11 := tabs_put (ys := [.str "a"] ++ [.str "more"]) t10 hb10
        have s11 : ∀ b o, noTab H b = some o → upd H10 box (.lst ([.str "a"] ++ [.str "more"])) b = some o := fun b o h => by
          rw [upd_ne (ne_of_none (noTab_of h).1 nbox)]; exact up (upW s10) _ _ h
        have h111 : upd H10 box (.lst ([.str "a"] ++ [.str "more"])) p1 = some (.tup [.str "event", .ref box]) := by
          rw [upd_ne (fun h => by rw [h, hb10] at h110; cases h110)]; exact h110
        have h211 : upd H10 box (.lst ([.str "a"] ++ [.str "more"])) p2 = some (.tup [.str "number", .ref box]) := by
          rw [upd_ne (fun h => by rw [h, hb10] at h210; cases h210)]; exact h210
        have h311 : upd H10 box (.lst ([.str "a"] ++ [.str "more"])) p3 = some (.tup [.str "number", .ref box]) := by
          rw [upd_ne (fun h => by rw [h, hb10] at h310; cases h310)]; exact h310
        have hL11 : upd H10 box (.lst ([.str "a"] ++ [.str "more"])) L = some (.lst [.ref p1, .ref p2, .ref p3]) := by rw [upd_ne (Ne.symm nbL)]; exact hL10
        have hb11 : upd H10 box (.lst ([.str "a"] ++ [.str "more"])) box = some (.lst [.str "a", .str "more"]) := upd_same
        generalize upd H10 box (.lst ([.str "a"] ++ [.str "more"])) = H11 at s11 t11 h111 h211 h311 hL11 hb11 ⊢
        clear s10 t10 h110 h210 h310 hL10 hb10 s9 t9 hL9 h19 h29 hb9 e9 hp3 s8 t8 h18 h28 hL8 s7 t7 e7 hL7 hp7 s6 t6 hp6 hL6 hnL s5 t5 e5 hp1 hp2
        refine g_proj ?_
        refine g_seq ?_
        refine g_ifR (fun b H' => b = false ∧ ∀ b o, H11 b = some o → H' b = some o) (fun Q' hQ => ?_) ?_
        · walk_at "go"
          refine g_lq (K := K) (SqL.of hL11) ?_
          refine LcQ.list (xs := [.ref p1, .ref p2, .ref p3]) (fun D i H' => H' D = some (.lst (List.replicate i (.ref box))) ∧ (∀ b o, H11 b = some o → H' b = some o)) (fun D nD => ⟨upd_same, same_up nD fun _ _ h => h⟩) (fun D nD i H' hi h => SqL.of (h.2 _ _ hL11)) ?_ ?_
          · rintro D nD i x H12 hx ⟨hD12, s12⟩
            have hi : i < 3 := (List.getElem?_eq_some_iff.mp hx).1
            have hxx : ∃ q wd', x = .ref q ∧ H11 q = some (.tup [.str wd', .ref box]) := by
              match i, hx with
              | 0, hx => cases hx; exact ⟨_, _, rfl, h111⟩
              | 1, hx => cases hx; exact ⟨_, _, rfl, h211⟩
              | 2, hx => cases hx; exact ⟨_, _, rfl, h311⟩
            obtain ⟨q', wd', rfl, hq'⟩ := hxx
            walk_at "go"
            refine g_ixT (K := K) (SqT.of (s12 _ _ hq')) rfl ?_
            refine ⟨_, hD12, szl (by simp; omega), by rw [upd_same, List.replicate_succ'], fun b o h => ?_⟩
            rw [upd_ne (ne_of_none h nD)]
            exact s12 _ _ h
          · rintro D nD H12 ⟨hD12, s12⟩
            walk_at "go"
            refine g_lst' ?_
            walk_at "go"
            refine g_lst' ?_
            walk_at "go"
            refine ⟨sz (by simp), fun p9 np9 => ?_⟩
            walk_at "go"
            refine ⟨sz (by simp), fun p10 np10 => ?_⟩
            walk_at "go"
            refine g_rep upd_same (by decide) (by decide) (by simp) fun p11 np11 => ?_
            have z9 := same_up (o := .lst [L2.V.str "a", .str "more"]) np9 s12
            have z10 := same_up (o := .lst [L2.V.ref p9]) np10 z9
            have z11 := same_up (o := .lst (List.replicate (3 : Int).toNat [L2.V.ref p9]).flatten) np11 z10
            have y9 := kp (o' := .lst (List.replicate (3 : Int).toNat [L2.V.ref p9]).flatten) np11 (kp (o' := .lst [L2.V.ref p9]) np10 (upd_same (H := H12) (a := p9) (o := .lst [L2.V.str "a", .str "more"])))
            have yD := kp (o' := .lst (List.replicate (3 : Int).toNat [L2.V.ref p9]).flatten) np11 (kp (o' := .lst [L2.V.ref p9]) np10 (kp (o' := .lst [L2.V.str "a", .str "more"]) np9 hD12))
            have one : ∀ {H' : Hp} {q : Addr}, H' q = some (.lst [L2.V.str "a", .str "more"]) → Dp K H' (.ref q) (.list [.str "a", .str "more"]) := fun h => .lst (SqL.of h) (.cons (.str _) (.cons (.str _) .nil))
            refine g_neD (K := K) (d := .list [.list [.str "a", .str "more"], .list [.str "a", .str "more"], .list [.str "a", .str "more"]]) (e := .list [.list [.str "a", .str "more"], .list [.str "a", .str "more"], .list [.str "a", .str "more"]]) (.lst (SqL.of yD) (.cons (one (z11 _ _ hb11)) (.cons (one (z11 _ _ hb11)) (.cons (one (z11 _ _ hb11)) .nil)))) (.lst (SqL.of upd_same) (.cons (one y9) (.cons (one y9) (.cons (one y9) .nil)))) (by decide +kernel) (by decide +kernel) ?_
            rw [show (PyData.list [.list [.str "a", .str "more"], .list [.str "a", .str "more"], .list [.str "a", .str "more"]]).eqv (.list [.list [.str "a", .str "more"], .list [.str "a", .str "more"], .list [.str "a", .str "more"]]) = true by decide +kernel]
            refine g_bl ?_
            exact hQ _ _ ⟨rfl, z11⟩
        · rintro b' H12 ⟨rfl, s12'⟩
          refine g_iff (g_next ?_)
          have s12 : ∀ b o, noTab H b = some o → H12 b = some o := fun b o h => s12' _ _ (s11 _ _ h)
          have t12 := t11.ext s12'
          walk_at "go"
          refine LcQ.range (fun D i H' => H' D = some (.lst (List.replicate i (.str "number"))) ∧ (∀ b o, noTab H b = some o → H' b = some o) ∧ LamX.Tabs (TR p) H') (fun D nD => ⟨upd_same, same_up nD s12, t12.ext (same_up nD fun _ _ h => h)⟩) ?_ ?_
          · rintro D nD i H13 hi ⟨hD13, s13, t13⟩
            have hi' : i < 2 := hi
            walk_at "go"
            refine lam_any (word := "number") (Px := fun _ => True) t13 (fun H4 e4 Q1 R' hc => ?_) fun z p4 H14 _ e14 t14 hp14 => ?_
            · have s4 := noTab_ext s13 e4
              refine g_meth ⟨.ref ea, rfl, ea, edx, _, rfl, s4 _ _ (noTab_at hea (fun ps z => nomatch z)), by cases note <;> rfl, ?_⟩
              walk_at "go"
              refine ⟨_, rfl, by omega, fun r H10 sh an s10 nr => ?_⟩
              walk_at "go"
              exact ref_fits ok.c2 (hEn.same fun b o h => s10 _ _ (s4 _ _ h)) an (by cases an <;> rfl) fun p H6 s6 hp => hc _ p H6 trivial (fun b o h => s6 _ _ (s10 _ _ h)) hp
            · have hD14 := e14 _ _ hD13 (fun ps z => nomatch z)
              walk_at "go"
              refine g_ixT (K := K) (SqT.of hp14) rfl ?_
              refine ⟨_, hD14, szl (by simp; omega), by rw [upd_same, List.replicate_succ'], fun b o h => ?_, tabs_put t14 hD14⟩
              rw [upd_ne (ne_of_none (s12 _ _ h) nD)]
              exact noTab_ext s13 e14 _ _ h
          · rintro D nD H13 ⟨hD13, s13, t13⟩
            walk_at "go"
            refine g_lst' ?_
            walk_at "go"
            refine ⟨sz (by simp), fun p12 np12 => ?_⟩
            refine g_eqD (K := K) (d := .list [.str "number", .str "number"]) (e := .list [.str "number", .str "number"]) (.lst (SqL.of (kp np12 hD13)) (.cons (.str _) (.cons (.str _) .nil))) (.lst (SqL.of upd_same) (.cons (.str _) (.cons (.str _) .nil))) (by decide +kernel) (by decide +kernel) ?_
            rw [show (PyData.list [.str "number", .str "number"]).eqv (.list [.str "number", .str "number"]) = true by decide +kernel]
            have s15 := same_up (o := .lst [L2.V.str "number", .str "number"]) np12 s13
            have t15 := t13.ext (same_up (o := .lst [L2.V.str "number", .str "number"]) np12 fun _ _ h => h)
            generalize upd H13 p12 (.lst [L2.V.str "number", .str "number"]) = H15 at s15 t15 ⊢
            refine ⟨true, rfl, ?_⟩
            refine g_tt ?_
            walk_at "go"
            refine lam_any (word := "event") (Px := fun _ => True) t15 (fun H4 e4 Q1 R' hc => ?_) fun z p4 H16 _ e16 t16 hp16 => ?_
            · have s4 := noTab_ext s15 e4
              refine g_meth ⟨.ref a, rfl, a, dx, _, rfl, s4 _ _ (noTab_at ha (fun ps z => nomatch z)), rfl, ?_⟩
              walk_at "go"
              refine ⟨_, rfl, by omega, fun r H10 sh an s10 nr => ?_⟩
              walk_at "go"
              exact ref_event (hDn.same fun b o h => s10 _ _ (s4 _ _ h)) ok an (by cases an <;> rfl) fun p H6 s6 hp => hc _ p H6 trivial (fun b o h => s6 _ _ (s10 _ _ h)) hp
            · walk_at "go"
              refine g_ixT (K := K) (SqT.of hp16) rfl ?_
              refine ⟨rfl, ?_⟩
              rw [decide_eq_true rfl]
              exact q _ (noTab_out (noTab_ext s15 e16)) t16
end
end K05
set_option Elab.async false
set_option linter.all false
set_option maxRecDepth 100000
set_option maxHeartbeats 4000000
namespace K05
open PySem PySem.Spec PyProof.Rows L2 WL
local macro_rules | `(tactic| walk_at "side") => `(tactic| first | (show (_ ∧ _) ∨ (_ ∧ _); omega) | (exact ⟨by omega, by omega⟩) | (show (0 : Int) < _; omega) | omega)
local macro_rules | `(tactic| walk_at "go") => `(tactic| (repeat (first
  | with_reducible refine g_seq ?_ | with_reducible refine g_asgN ?_ | with_reducible refine g_ret ?_ | with_reducible refine g_drop ?_ | with_reducible refine g_ifS ?_ | with_reducible refine g_next ?_
  | with_reducible refine g_var rfl ?_ | with_reducible refine g_c ?_ | with_reducible refine g_op ?_ | with_reducible refine g_un ?_ | with_reducible refine g_rI0 ?_ | ((with_reducible refine g_rI ?_ ?_); next => walk_at "side") | with_reducible refine g_test ?_ | with_reducible refine g_bl ?_
  | with_reducible refine g_nil ?_ | with_reducible refine g_cons ?_ | with_reducible refine g_call ?_ | with_reducible refine g_cb ?_ | with_reducible refine g_if ?_ | with_reducible refine g_par ?_ | with_reducible refine g_two ?_
  | with_reducible refine g_asg ?_ | with_reducible refine g_name ?_ | with_reducible refine g_sub ?_ | with_reducible refine g_yes ?_ | with_reducible refine g_gcons ?_ | with_reducible refine g_gnil ?_ | with_reducible refine g_dget ?_ | with_reducible refine g_dput ?_ | with_reducible refine g_rng1 ?_ | with_reducible refine g_rng2 ?_
  | ((with_reducible refine g_one ?_ ?_); next => omega) | ((with_reducible refine g_twoI ?_ ?_); next => omega) | with_reducible refine g_isNon ?_ | with_reducible refine g_andV ?_ | with_reducible refine g_revT ?_ | with_reducible refine g_itup ?_ | with_reducible refine g_methK0 ?_ | with_reducible refine g_methS ?_ | with_reducible refine g_errF ?_ | with_reducible refine g_prop ?_ | with_reducible refine g_con ?_ | with_reducible refine g_make ?_ | with_reducible refine g_fld ?_ | with_reducible refine g_sfld ?_ | with_reducible refine g_iftn ?_ | with_reducible refine g_iffn ?_ | with_reducible refine g_orV ?_ | with_reducible refine g_notV ?_ | with_reducible refine g_tB ?_ | with_reducible refine g_chain ?_ | with_reducible refine g_neg ?_ | with_reducible refine g_cval ?_ | with_reducible refine g_enumT ?_ | with_reducible refine g_andT ?_ | with_reducible refine g_orT ?_ | with_reducible refine g_notT ?_ | with_reducible refine g_sl ?_ | with_reducible refine g_part ?_ | with_reducible refine g_parI ?_ | with_reducible refine g_noPart ?_ | with_reducible refine g_pcons ?_ | with_reducible refine g_pnil ?_ | with_reducible refine g_list ?_ | with_reducible refine g_lc ?_ | with_reducible refine g_for ?_ | with_reducible refine g_enum ?_ | with_reducible refine g_ift ?_ | with_reducible refine g_iff ?_ | with_reducible refine And.intro rfl ?_ | with_reducible refine g_notNon ?_)))
local macro_rules | `(tactic| walk_at "ex") => `(tactic| (repeat (first
  | with_reducible refine g_seqAsg ?_ | with_reducible refine g_seqFld ?_ | with_reducible refine g_seqDrop ?_ | with_reducible refine g_seqPut ?_ | with_reducible refine g_seqPar ?_ | with_reducible refine g_asgN ?_ | with_reducible refine g_ret ?_ | with_reducible refine g_drop ?_ | with_reducible refine g_next ?_
  | with_reducible refine g_var rfl ?_ | with_reducible refine g_c ?_ | with_reducible refine g_op ?_ | with_reducible refine g_un ?_ | with_reducible refine g_rI0 ?_ | ((with_reducible refine g_rI ?_ ?_); next => walk_at "side") | with_reducible refine g_test ?_ | with_reducible refine g_bl ?_
  | with_reducible refine g_nil ?_ | with_reducible refine g_cons ?_ | with_reducible refine g_call ?_ | with_reducible refine g_cb ?_ | with_reducible refine g_if ?_ | with_reducible refine g_par ?_ | with_reducible refine g_two ?_
  | with_reducible refine g_asg ?_ | with_reducible refine g_name ?_ | with_reducible refine g_sub ?_ | with_reducible refine g_yes ?_ | with_reducible refine g_gcons ?_ | with_reducible refine g_gnil ?_ | with_reducible refine g_dget ?_ | with_reducible refine g_dput ?_ | with_reducible refine g_rng1 ?_ | with_reducible refine g_rng2 ?_
  | ((with_reducible refine g_one ?_ ?_); next => omega) | ((with_reducible refine g_twoI ?_ ?_); next => omega) | with_reducible refine g_isNon ?_ | with_reducible refine g_andV ?_ | with_reducible refine g_revT ?_ | with_reducible refine g_itup ?_ | with_reducible refine g_methK0 ?_ | with_reducible refine g_methS ?_ | with_reducible refine g_errF ?_ | with_reducible refine g_prop ?_ | with_reducible refine g_con ?_ | with_reducible refine g_make ?_ | with_reducible refine g_fld ?_ | with_reducible refine g_sfld ?_ | with_reducible refine g_iftn ?_ | with_reducible refine g_iffn ?_ | with_reducible refine g_orV ?_ | with_reducible refine g_notV ?_ | with_reducible refine g_tB ?_ | with_reducible refine g_chain ?_ | with_reducible refine g_neg ?_ | with_reducible refine g_cval ?_ | with_reducible refine g_enumT ?_ | with_reducible refine g_proj ?_ | with_reducible refine g_andT ?_ | with_reducible refine g_orT ?_ | with_reducible refine g_notT ?_ | with_reducible refine g_sl ?_ | with_reducible refine g_part ?_ | with_reducible refine g_parI ?_ | with_reducible refine g_noPart ?_ | with_reducible refine g_pcons ?_ | with_reducible refine g_pnil ?_ | with_reducible refine g_list ?_ | with_reducible refine g_lc ?_ | with_reducible refine g_enum ?_ | with_reducible refine g_ift ?_ | with_reducible refine g_iff ?_ | with_reducible refine And.intro rfl ?_ | with_reducible refine g_notNon ?_)))
section
variable {P : Program} {w : World} {K : PySem.W.Frag} {mg : Str → Option Value} {base : Heap} {f : Addr} {fd : FuncData} {DC EC DE UE IE IN WE : Addr}
theorem sc_note : FnScope ["self", "event", "weekday", "weekdays"] ["self", "event", "weekday"] (defScope s_Diary_noting) := ⟨rfl, rfl, rfl, by decide +kernel, rfl, by decide +kernel, by decide +kernel⟩
theorem ok_note (F : FnM K "noting" "Diary.noting" s_Diary_noting f fd) (T : Blt mg) (D : DiaF P w K mg base DC IE) : FnOk P w K mg base CX0 8 f fd ["self", "event", "weekday"] (spNoting DC) := by
  refine F.ok sc_note (fun vs H Q E h => ?_) (fun cdv A outer s H vs Q E hr h => ?_)
  · obtain ⟨v, i, n, c, w, ns, ls, rfl, _⟩ := h
    rfl
  · obtain ⟨v, i, n, c, w, ns, ls, rfl, ⟨a, dx, wv, bv, rfl, ha, hn, hl⟩, ok, hw, h60, hi, hk, q⟩ := h
    have sc := sc_note
    have O := D.obj
    obtain ⟨fN, fdN, mN, bN, okN, kbN⟩ := D.need
    refine ⟨_, PSs.nox (pss_cons (ps_expr (pe_meth (E := E0) (pv 0) O.cls mN okN (hr.mono (by decide)) bN .nil passL (pa_cons (pv 1) pa_nil)))
      (pss_cons (ps_set (i := 3) sc.nd rfl (Or.inl rfl) (pe_callTy call_list_of (by rfl) T.list (by decide +kernel) (pa_cons (pe_fld (pv 0) rfl) pa_nil)))
      (pss_cons (ps_asg (pv 2) (pg_sub (pv 3) (pv 1) set_list))
      (pss_one (ps_ret (pe_mkD D hr (by decide) (pa_cons (pe_fld (pv 0) rfl) (pa_cons (pe_callTy call_tuple_of (by rfl) T.tuple (by decide +kernel) (pa_cons (pv 3) pa_nil)) (pa_cons (pe_fld (pv 0) rfl) pa_nil))))))))), ?_⟩
    obtain ⟨wa, rfl, hwa⟩ := fz_notes_inv hn
    have hwl : (ns.map noteV).length = ns.length := List.length_map _
    walk_at "go"
    refine g_meth ?_
    walk_at "go"
    refine ⟨a, dx, _, rfl, ha, rfl, ?_⟩
    walk_at "go"
    refine ⟨a, dx, .int c, bv, .int i, wa, _, .int i, rfl, ha, SqT.of hwa, .int i, fun _ => ?_, fun hin => ?_⟩
    · walk_at "go"
      refine g_f2 O ha ?_
      walk_at "go"
      refine g_lstOf (K := K) (Or.inr (SqT.of hwa)) ?_
      intro l1 nl1
      have s1 := same_up (o := .lst (ns.map noteV)) nl1 (H := H) (fun _ _ h => h)
      walk_at "go"
      refine g_setL upd_same hi.1 (by rw [hwl]; omega) ?_
      have s2 : ∀ b o, H b = some o → upd (upd H l1 (.lst (ns.map noteV))) l1 (.lst ((ns.map noteV).set i.toNat (noteV n))) b = some o := fun b o h => by
        rw [upd_ne (ne_of_none h nl1)]; exact s1 _ _ h
      have h2 : upd (upd H l1 (.lst (ns.map noteV))) l1 (.lst ((ns.map noteV).set i.toNat (noteV n))) l1 = some (.lst ((ns.set i.toNat n).map noteV)) := by
        rw [upd_same, List.map_set]
      generalize upd (upd H l1 (.lst (ns.map noteV))) l1 (.lst ((ns.map noteV).set i.toNat (noteV n))) = H2 at s2 h2 ⊢
      walk_at "go"
      refine g_f1 O (s2 _ _ ha) ?_
      walk_at "go"
      refine g_tupOfL (K := K) (SqL.of h2) ?_
      intro t1 nt1
      have s3 := same_up nt1 s2 (o := .tup ((ns.set i.toNat n).map noteV))
      walk_at "go"
      refine g_f3 O (s3 _ _ ha) ?_
      walk_at "go"
      refine g_makeD (fz_notes upd_same) (hl.tk (Tk.same s3)) (note_ok ok hk) hw h60 fun x H4 nx d4 s4 => ?_
      walk_at "go"
      exact q x H4 (none_up nx s3) d4 fun b o h => s4 _ _ (s3 _ _ h)
    · rw [hwl, within_int ⟨by omega, by omega⟩] at hin
      exact absurd hin (by decide)
end
section
variable {P : Program} {w : World} {K : PySem.W.Frag} {mg : Str → Option Value} {base : Heap} {f : Addr} {fd : FuncData} {DC EC DE UE IE IN WE : Addr}
/-! ### rows of what is seen of events -/
def evD (n : Nat) (note : Option Int) : PyData := .list [.bool true, .bool note.isSome, .bool (!note.isSome), .bool note.isSome, .int (n : Nat), noteD note]
def evsD : Nat → List (Option Int) → List PyData
  | _, [] => []
  | i, n :: ns => evD i n :: evsD (i + 1) ns
theorem sm_bl (b : Bool) : Sm (.bool b) := by cases b <;> exact ⟨rfl, rfl⟩
def NoteOK (c : Int) (note : Option Int) : Prop := c ≤ 100 ∧ ∀ i, note = some i → 0 ≤ i ∧ i < c
theorem sm_note {c : Int} {note : Option Int} (h : NoteOK c note) : Sm (noteD note) := by
  cases note with
  | none => exact sm_non
  | some i =>
    obtain ⟨a, b⟩ := h.2 i rfl
    have := h.1
    exact sm_int ⟨by omega, by omega⟩
theorem sm_ev {c : Int} {note : Option Int} {n : Nat} (h : NoteOK c note) (hn : n < 100) : Sm (evD n note) := by
  refine sm_lst fun d hd => ?_
  simp only [List.mem_cons, List.not_mem_nil, or_false] at hd
  rcases hd with rfl | rfl | rfl | rfl | rfl | rfl
  · exact sm_bl _
  · exact sm_bl _
  · exact sm_bl _
  · exact sm_bl _
  · exact sm_int ⟨by omega, by omega⟩
  · exact sm_note h
theorem bulk_ev (n : Nat) (note : Option Int) : (evD n note).bulk = 6 := by
  cases note <;> rfl
theorem dep_ev (n : Nat) (note : Option Int) : (evD n note).depth ≤ 3 := by
  cases note <;> simp [evD, noteD, PyData.depth, PyData.depthAll]
theorem dep_evs : ∀ (i : Nat) (ns : List (Option Int)), PyData.depthAll (evsD i ns) ≤ 4
  | _, [] => by simp [evsD, PyData.depthAll]
  | i, n :: ns => by
    have h1 := dep_ev i n
    have h2 := dep_evs (i + 1) ns
    rw [evsD, PyData.depthAll]
    omega
theorem show_ev {c : Int} {note : Option Int} {n : Nat} (h : NoteOK c note) (hn : n < 100) : (evD n note).showable = true ∧ (evD n note).shown.length ≤ sizeLine ∧ (evD n note).depth ≤ 50 :=
  ⟨(sm_ev h hn).show_, sm_fits (sm_ev h hn) (by rw [bulk_ev]; decide), Nat.le_trans (dep_ev n note) (by decide)⟩
theorem evsD_mem : ∀ {i : Nat} {ns : List (Option Int)} {d : PyData}, d ∈ evsD i ns → ∃ n note, d = evD n note ∧ n < i + ns.length ∧ note ∈ ns
  | _, [], _, h => by cases h
  | i, n :: ns, d, h => by
    rcases List.mem_cons.mp h with rfl | h
    · exact ⟨i, n, rfl, by rw [List.length_cons]; omega, List.mem_cons_self⟩
    · obtain ⟨k, note, e, h1, h2⟩ := evsD_mem h
      exact ⟨k, note, e, by rw [List.length_cons]; omega, List.mem_cons_of_mem _ h2⟩
theorem bulk_evs : ∀ (i : Nat) (ns : List (Option Int)), PyData.bulkAll (evsD i ns) = 7 * ns.length
  | _, [] => by simp [evsD, PyData.bulkAll.eq_1]
  | i, n :: ns => by
    rw [evsD, PyData.bulkAll.eq_2, bulk_ev, bulk_evs (i + 1) ns, List.length_cons]
    omega
theorem show_evs {c : Int} {ns : List (Option Int)} (h : ∀ n ∈ ns, NoteOK c n) (hl : ns.length ≤ 16) : (PyData.list (evsD 0 ns)).showable = true ∧ (PyData.list (evsD 0 ns)).shown.length ≤ sizeLine ∧ (PyData.list (evsD 0 ns)).depth ≤ 50 := by
  have s : Sm (.list (evsD 0 ns)) := sm_lst fun d hd => by
    obtain ⟨n, note, rfl, h1, h2⟩ := evsD_mem hd
    exact sm_ev (h _ h2) (by omega)
  exact ⟨s.show_, sm_fits s (by rw [PyData.bulk.eq_2, bulk_evs]; omega), by have := dep_evs 0 ns; rw [PyData.depth]; omega⟩
theorem dqb_ev {H : Hp} {q : Addr} {n : Nat} {note : Option Int} (h : H q = some (.lst (evRow (n : Nat) note))) : DqB H (.ref q) (evD n note) :=
  .lst h (.cons (.bl _) (.cons (.bl _) (.cons (.bl _) (.cons (.bl _) (.cons (.int _) (.cons (by cases note <;> constructor) .nil))))))
/-- rows, none of them in the cell D -/
inductive Rws (D : Addr) (H : Hp) : Nat → List V → List (Option Int) → Prop
  | nil {i : Nat} : Rws D H i [] []
  | cons {i : Nat} {q : Addr} {vs : List V} {n : Option Int} {ns : List (Option Int)} (h : H q = some (.lst (evRow (i : Nat) n))) (ne : q ≠ D) (t : Rws D H (i + 1) vs ns) : Rws D H i (.ref q :: vs) (n :: ns)
theorem Rws.keep {D : Addr} {H H' : Hp} (k : ∀ b o, b ≠ D → H b = some o → H' b = some o) : ∀ {i : Nat} {vs : List V} {ns : List (Option Int)}, Rws D H i vs ns → Rws D H' i vs ns
  | _, _, _, .nil => .nil
  | _, _, _, .cons h ne t => .cons (k _ _ ne h) ne (t.keep k)
theorem Rws.length {D : Addr} {H : Hp} : ∀ {i : Nat} {vs : List V} {ns : List (Option Int)}, Rws D H i vs ns → vs.length = ns.length
  | _, _, _, .nil => rfl
  | _, _, _, .cons _ _ t => by rw [List.length_cons, List.length_cons, t.length]
theorem Rws.snoc {D : Addr} {H : Hp} {q : Addr} {n : Option Int} : ∀ {i : Nat} {vs : List V} {ns : List (Option Int)}, Rws D H i vs ns → H q = some (.lst (evRow ((i + vs.length : Nat) : Int) n)) → q ≠ D → Rws D H i (vs ++ [.ref q]) (ns ++ [n])
  | i, _, _, .nil, h, ne => .cons (by simpa using h) ne .nil
  | i, _, _, .cons (vs := vs) h0 ne0 t, h, ne => by
    refine .cons h0 ne0 (t.snoc ?_ ne)
    have e : i + 1 + vs.length = i + (vs.length + 1) := by omega
    rw [e]
    exact h
theorem Rws.dqb {D : Addr} {H : Hp} : ∀ {i : Nat} {vs : List V} {ns : List (Option Int)}, Rws D H i vs ns → DqBs H vs (evsD i ns)
  | _, _, _, .nil => .nil
  | _, _, _, .cons h _ t => .cons (dqb_ev h) t.dqb
/-! ### what is kept -/
def KRow (DE UE m c g L : Addr) (H : Hp) (x : V) : Prop := ∃ (q d : Addr) (u : V) (n : Nat) (cy : Int) (note : Option Int), x = .ref q ∧ H q = some (.tup [u, .ref d]) ∧ EvAt DE UE H u (n : Nat) cy note ∧ H d = some (.lst (evRow (n : Nat) note)) ∧ d ≠ m ∧ d ≠ g ∧ d ≠ L ∧ n < 16 ∧ NoteOK cy note
/-- all but the two of the draws, the one list, and tables, is as it was -/
def Kb (m g L : Addr) (H H' : Hp) : Prop := ∀ b o, b ≠ m → b ≠ g → b ≠ L → noTab H b = some o → H' b = some o
theorem Kb.refl {m g L : Addr} {H : Hp} : Kb m g L H H := fun b o _ _ _ h => (noTab_of h).1
theorem Kb.trans {m g L : Addr} {H H1 H2 : Hp} (a : Kb m g L H H1) (b : Kb m g L H1 H2) : Kb m g L H H2 := fun c o h1 h2 h3 h => b c o h1 h2 h3 (noTab_at (a c o h1 h2 h3 h) (noTab_of h).2)
theorem Kb.same {m g L : Addr} {H H' : Hp} (k : ∀ b o, H b = some o → H' b = some o) : Kb m g L H H' := fun b o _ _ _ h => k b o (noTab_of h).1
theorem Kb.pr {m c g L : Addr} {H H' : Hp} {B : Int} (p : Pr m c g H H' B) : Kb m g L H H' := fun b o h1 h2 _ h => p.but b o h1 h2 (noTab_of h).1
theorem Kb.ext {m g L : Addr} {H H' : Hp} (e : LamX.ExtN H H') : Kb m g L H H' := fun b o _ _ _ h => e b o (noTab_of h).1 (noTab_of h).2
theorem Kb.put {m g L : Addr} {H : Hp} {o : HO} : Kb m g L H (upd H L o) := fun b u _ _ h3 h => by rw [upd_ne h3]; exact (noTab_of h).1
section
variable {m c g L : Addr} {H H' : Hp} {B : Int}
theorem Kb.tup (k : Kb m g L H H') (p : Pr m c g H H B) {l : List V} (hL : H L = some (.lst l)) : Tk H H' := fun b xs h => by
  obtain ⟨n, _, d⟩ := p.dr
  obtain ⟨l2, _, hg⟩ := d.great
  have hm := d.dict
  exact k b _ (fun e => by rw [e, hm] at h; cases h) (fun e => by rw [e, hg] at h; cases h) (fun e => by rw [e, hL] at h; cases h) (noTab_at h (fun ps z => nomatch z))
theorem Kb.ins (k : Kb m g L H H') (p : Pr m c g H H B) {l : List V} (hL : H L = some (.lst l)) : Ik H H' := fun b C dx fs h => by
  obtain ⟨n, _, d⟩ := p.dr
  obtain ⟨l2, _, hg⟩ := d.great
  have hm := d.dict
  exact k b _ (fun e => by rw [e, hm] at h; cases h) (fun e => by rw [e, hg] at h; cases h) (fun e => by rw [e, hL] at h; cases h) (noTab_at h (fun ps z => nomatch z))
theorem KRow.keep {x : V} (r : KRow DE UE m c g L H x) (k : Kb m g L H H') (p : Pr m c g H H B) {l : List V} (hL : H L = some (.lst l)) : KRow DE UE m c g L H' x := by
  obtain ⟨q, d, u, n, cy, note, rfl, hq, he, hd, n1, n2, n3, hn, ok⟩ := r
  exact ⟨q, d, u, n, cy, note, rfl, k.tup p hL _ _ hq, he.keep (k.ins p hL), k d _ n1 n2 n3 (noTab_at hd (fun ps z => nomatch z)), n1, n2, n3, hn, ok⟩
end
/-- the list of what is kept -/
structure Kpt (DE UE m c g L : Addr) (H : Hp) (top : Nat) : Prop where
  ex : ∃ xs, H L = some (.lst xs) ∧ xs.length ≤ top ∧ ∀ x ∈ xs, KRow DE UE m c g L H x
  ne : L ≠ m ∧ L ≠ c ∧ L ≠ g
theorem Kpt.at {m c g L : Addr} {H : Hp} {top : Nat} (k : Kpt DE UE m c g L H top) : ∃ xs, H L = some (.lst xs) := by
  obtain ⟨xs, h, _⟩ := k.ex
  exact ⟨xs, h⟩
theorem Kpt.keep {m c g L : Addr} {H H' : Hp} {B : Int} {top top' : Nat} (k : Kpt DE UE m c g L H top) (b : Kb m g L H H') (hL : ∀ xs, H L = some (.lst xs) → H' L = some (.lst xs)) (p : Pr m c g H H B) (ht : top ≤ top') : Kpt DE UE m c g L H' top' := by
  obtain ⟨xs, h, hl, hr⟩ := k.ex
  exact ⟨⟨xs, hL xs h, by omega, fun x hx => (hr x hx).keep b p h⟩, k.ne⟩
end
end K05
set_option Elab.async false
set_option linter.all false
set_option maxRecDepth 100000
set_option maxHeartbeats 4000000
namespace K05
open PySem PySem.Spec PyProof.Rows L2 WL
local macro_rules | `(tactic| walk_at "side") => `(tactic| first | (show (_ ∧ _) ∨ (_ ∧ _); omega) | (exact ⟨by omega, by omega⟩) | (show (0 : Int) < _; omega) | omega)
local macro_rules | `(tactic| walk_at "go") => `(tactic| (repeat (first
  | with_reducible refine g_seq ?_ | with_reducible refine g_asgN ?_ | with_reducible refine g_ret ?_ | with_reducible refine g_drop ?_ | with_reducible refine g_ifS ?_ | with_reducible refine g_next ?_
  | with_reducible refine g_var rfl ?_ | with_reducible refine g_c ?_ | with_reducible refine g_op ?_ | with_reducible refine g_un ?_ | with_reducible refine g_rI0 ?_ | ((with_reducible refine g_rI ?_ ?_); next => walk_at "side") | with_reducible refine g_test ?_ | with_reducible refine g_bl ?_
  | with_reducible refine g_nil ?_ | with_reducible refine g_cons ?_ | with_reducible refine g_call ?_ | with_reducible refine g_cb ?_ | with_reducible refine g_if ?_ | with_reducible refine g_par ?_ | with_reducible refine g_two ?_
  | with_reducible refine g_asg ?_ | with_reducible refine g_name ?_ | with_reducible refine g_sub ?_ | with_reducible refine g_yes ?_ | with_reducible refine g_gcons ?_ | with_reducible refine g_gnil ?_ | with_reducible refine g_dget ?_ | with_reducible refine g_dput ?_ | with_reducible refine g_rng1 ?_ | with_reducible refine g_rng2 ?_
  | ((with_reducible refine g_one ?_ ?_); next => omega) | ((with_reducible refine g_twoI ?_ ?_); next => omega) | with_reducible refine g_isNon ?_ | with_reducible refine g_andV ?_ | with_reducible refine g_revT ?_ | with_reducible refine g_itup ?_ | with_reducible refine g_methK0 ?_ | with_reducible refine g_methS ?_ | with_reducible refine g_errF ?_ | with_reducible refine g_prop ?_ | with_reducible refine g_con ?_ | with_reducible refine g_make ?_ | with_reducible refine g_fld ?_ | with_reducible refine g_sfld ?_ | with_reducible refine g_iftn ?_ | with_reducible refine g_iffn ?_ | with_reducible refine g_orV ?_ | with_reducible refine g_notV ?_ | with_reducible refine g_tB ?_ | with_reducible refine g_chain ?_ | with_reducible refine g_neg ?_ | with_reducible refine g_cval ?_ | with_reducible refine g_enumT ?_ | with_reducible refine g_andT ?_ | with_reducible refine g_orT ?_ | with_reducible refine g_notT ?_ | with_reducible refine g_sl ?_ | with_reducible refine g_part ?_ | with_reducible refine g_parI ?_ | with_reducible refine g_noPart ?_ | with_reducible refine g_pcons ?_ | with_reducible refine g_pnil ?_ | with_reducible refine g_list ?_ | with_reducible refine g_lc ?_ | with_reducible refine g_for ?_ | with_reducible refine g_enum ?_ | with_reducible refine g_ift ?_ | with_reducible refine g_iff ?_ | with_reducible refine And.intro rfl ?_ | with_reducible refine g_notNon ?_)))
local macro_rules | `(tactic| walk_at "ex") => `(tactic| (repeat (first
  | with_reducible refine g_seqAsg ?_ | with_reducible refine g_seqFld ?_ | with_reducible refine g_seqDrop ?_ | with_reducible refine g_seqPut ?_ | with_reducible refine g_seqPar ?_ | with_reducible refine g_asgN ?_ | with_reducible refine g_ret ?_ | with_reducible refine g_drop ?_ | with_reducible refine g_next ?_
  | with_reducible refine g_var rfl ?_ | with_reducible refine g_c ?_ | with_reducible refine g_op ?_ | with_reducible refine g_un ?_ | with_reducible refine g_rI0 ?_ | ((with_reducible refine g_rI ?_ ?_); next => walk_at "side") | with_reducible refine g_test ?_ | with_reducible refine g_bl ?_
  | with_reducible refine g_nil ?_ | with_reducible refine g_cons ?_ | with_reducible refine g_call ?_ | with_reducible refine g_cb ?_ | with_reducible refine g_if ?_ | with_reducible refine g_par ?_ | with_reducible refine g_two ?_
  | with_reducible refine g_asg ?_ | with_reducible refine g_name ?_ | with_reducible refine g_sub ?_ | with_reducible refine g_yes ?_ | with_reducible refine g_gcons ?_ | with_reducible refine g_gnil ?_ | with_reducible refine g_dget ?_ | with_reducible refine g_dput ?_ | with_reducible refine g_rng1 ?_ | with_reducible refine g_rng2 ?_
  | ((with_reducible refine g_one ?_ ?_); next => omega) | ((with_reducible refine g_twoI ?_ ?_); next => omega) | with_reducible refine g_isNon ?_ | with_reducible refine g_andV ?_ | with_reducible refine g_revT ?_ | with_reducible refine g_itup ?_ | with_reducible refine g_methK0 ?_ | with_reducible refine g_methS ?_ | with_reducible refine g_errF ?_ | with_reducible refine g_prop ?_ | with_reducible refine g_con ?_ | with_reducible refine g_make ?_ | with_reducible refine g_fld ?_ | with_reducible refine g_sfld ?_ | with_reducible refine g_iftn ?_ | with_reducible refine g_iffn ?_ | with_reducible refine g_orV ?_ | with_reducible refine g_notV ?_ | with_reducible refine g_tB ?_ | with_reducible refine g_chain ?_ | with_reducible refine g_neg ?_ | with_reducible refine g_cval ?_ | with_reducible refine g_enumT ?_ | with_reducible refine g_proj ?_ | with_reducible refine g_andT ?_ | with_reducible refine g_orT ?_ | with_reducible refine g_notT ?_ | with_reducible refine g_sl ?_ | with_reducible refine g_part ?_ | with_reducible refine g_parI ?_ | with_reducible refine g_noPart ?_ | with_reducible refine g_pcons ?_ | with_reducible refine g_pnil ?_ | with_reducible refine g_list ?_ | with_reducible refine g_lc ?_ | with_reducible refine g_enum ?_ | with_reducible refine g_ift ?_ | with_reducible refine g_iff ?_ | with_reducible refine And.intro rfl ?_ | with_reducible refine g_notNon ?_)))
section
variable {P : Program} {w : World} {K : PySem.W.Frag} {mg : Str → Option Value} {base : Heap} {f : Addr} {fd : FuncData} {DC EC DE UE IE IN WE : Addr}
structure NoteM (P : Program) (w : World) (K : PySem.W.Frag) (mg : Str → Option Value) (base : Heap) (DC : Addr) : Prop where
  ex : ∃ f fd, Meth K DC "noting" f ∧ Binds K fd ["self", "event", "weekday"] [] ∧ FnOk P w K mg base CX0 8 f fd ["self", "event", "weekday"] (spNoting DC)
structure EvsM (P : Program) (w : World) (K : PySem.W.Frag) (mg : Str → Option Value) (base : Heap) (DC DE UE : Addr) : Prop where
  ex : ∃ f fd, Meth K DC "events" f ∧ Binds K fd ["self"] [] ∧ GFn P w K mg base 7 f fd ["self"] (spEvsG DC DE UE)
/-- the class values of events -/
structure EvCls (K : PySem.W.Frag) (DE UE : Addr) : Prop where
  rdD : ∃ mc u, ClX.CRead K DE mc ∧ ClX.CVal K DE mc "IS_DATED" (.bl true) u
  rdU : ∃ mc u, ClX.CRead K UE mc ∧ ClX.CVal K UE mc "IS_DATED" (.bl false) u
theorem Kpt.pr {m c g L : Addr} {H H' : Hp} {B B' : Int} {top : Nat} (k : Kpt DE UE m c g L H top) (q : Pr m c g H H' B') (p : Pr m c g H H B) : Kpt DE UE m c g L H' top := k.keep (Kb.pr q) (fun xs h => q.but L _ k.ne.1 k.ne.2.2 h) p (Nat.le_refl _)
theorem Kpt.same {m c g L : Addr} {H H' : Hp} {B : Int} {top : Nat} (k : Kpt DE UE m c g L H top) (s : ∀ b o, H b = some o → H' b = some o) (p : Pr m c g H H B) : Kpt DE UE m c g L H' top := k.keep (Kb.same s) (fun xs h => s _ _ h) p (Nat.le_refl _)
theorem Kpt.ext {m c g L : Addr} {H H' : Hp} {B : Int} {top : Nat} (k : Kpt DE UE m c g L H top) (e : LamX.ExtN H H') (p : Pr m c g H H B) : Kpt DE UE m c g L H' top := k.keep (Kb.ext e) (fun xs h => e _ _ h (fun ps z => nomatch z)) p (Nat.le_refl _)
theorem sc_law : FnScope ["script", "m", "kept", "n", "book", "told", "row", "one", "at", "far", "due"] ["script"] (defScope s_law) := ⟨rfl, rfl, rfl, by decide +kernel, rfl, by decide +kernel, by decide +kernel⟩
theorem ok_law {p : Addr} (F : FnT K "law" s_law f fd) (T : Blt mg) (S : SysB K) (D : DiaF P w K mg base DC IE) (Es : EvS P w K mg base EC DE UE) (Ex : EvCls K DE UE) (Ev : EventF P w K mg base DC DE UE IE) (Em : EvsM P w K mg base DC DE UE) (N : NoteM P w K mg base DC)
    (hDraw : Has P w K mg base 2 "_law_draw" ["m", "top"] spDraw') (hBegun : Has P w K mg base 2 "_law_begun" ["script"] (spBegun K)) (hAny : Has P w K mg base 5 "_law_any_book" ["m", "peak"] spAnyBook)
    (hShown : Has P w K mg base 3 "_law_shown" ["told"] (spShownE DE UE)) (hDue : Has P w K mg base 1 "_law_due" ["book", "n"] spDueE)
    (hDays : HasG P w K mg base 10 "_law_days_right" ["m", "book", "n", "told"] (spDaysE DE UE)) (hRef : HasG P w K mg base 11 "_law_refused_right" ["book", "told", "one"] (spRefE DC DE UE p)) :
    GOk P w K mg base 12 f fd ["script"] (spLawT K (TR p)) := by
  refine gok_body F sc_law (fun vs H Q E h => ?_) (fun cdv A outer s H vs Q E hg hr h => ?_)
  · obtain ⟨a, ns, rfl, _⟩ := h
    rfl
  · obtain ⟨a, ns, rfl, hS, hlen, tabs, q⟩ := h
    have sc := sc_law
    have hu := hr.units
    have O := D.obj
    obtain ⟨fV, fdV, mV, bV, okV, _⟩ := Ev.ex
    obtain ⟨fG, fdG, mG, bG, okG⟩ := Em.ex
    obtain ⟨fN, fdN, mN, bN, okN⟩ := N.ex
    obtain ⟨pn, gn, fdn, nD, nU, bn, okn⟩ := Es.num
    refine ⟨_, (pss_cons (ps_set (i := 1) sc.nd rfl (Or.inl rfl) (pe_has hBegun hr (by decide) (pa_cons (pv 0) pa_nil)))
      (pss_cons (ps_if (pt_cmpR (op_neD hu) (pe_lst (pa_cons (ClX.pe_cval (pe_ref Es.atD)) (pa_cons (ClX.pe_cval (pe_ref Es.atU)) pa_nil))) (pe_lst (pa_cons pe_bl (pa_cons pe_bl pa_nil))) (nomark _))
        (pss_one (ps_ret pe_bl))
        pss_nil)
      (pss_cons (ps_set (i := 2) sc.nd rfl (Or.inl rfl) (pe_lst pa_nil))
      (pss_cons (ps_for PassesOwn.never rfl (pi_range1 (by rfl) T.range (pa_cons pe_int pa_nil)) (pg_name (i := 3) sc.nd rfl (Or.inl rfl))
        (pss_cons (ps_set (i := 4) sc.nd rfl (Or.inr rfl) (pe_has hAny hr (by decide) (pa_cons (pv 1) (pa_cons (pe_op op_add pe_int (pe_op op_mod (pe_op op_add (pv 3) (pe_has hDraw hr (by decide) (pa_cons (pv 1) (pa_cons pe_int pa_nil)))) pe_int)) pa_nil))))
        (pss_cons (ps_set (i := 5) sc.nd rfl (Or.inl rfl) (pe_mkD D hr (by decide) (pa_cons (pe_ix (r := rIxT K) ix_tup (pv 4) pe_int (fun _ _ => rfl)) (pa_cons (pe_ix (r := rIxT K) ix_tup (pv 4) pe_int (fun _ _ => rfl)) (pa_cons (pe_ix (r := rIxT K) ix_tup (pv 4) pe_int (fun _ _ => rfl)) pa_nil)))))
        (pss_cons (ps_set (i := 6) sc.nd rfl (Or.inl rfl) (pe_listG (E := E0) (pgen_meth0 (E := E0) (pv 5) O.cls mG okG (hr.mono (by decide)) bG .nil) passL noStop0 (hr.mono (by decide)) (by rfl) T.list (by decide +kernel)))
        (pss_cons (ps_if (pt_cmpR op_ne (pe_callB (call_showB S hg hr) (by rfl) T.repr (by decide +kernel) (pa_cons (pe_lc (own := [("one", 7)]) (g := gName 7) (tt := tYes) (te := tCall (spShownE DE UE) [] E0 (tCons (tVar 7) tNil)) (by rfl) sc.nd (pi_list (pv 6)) (blkOk_by (sc := defScope s_law) (N := ["script", "m", "kept", "n", "book", "told", "row", "one", "at", "far", "due"]) (own := [("one", 7)]) (by decide +kernel)) (fun _ _ _ _ _ => (pg_name (i := 7) sc.nd rfl (Or.inl rfl))) (fun _ _ _ _ _ => pts_nil) (fun _ _ _ _ _ => (pe_has hShown hr (by decide) (pa_cons (pv 7) pa_nil)))) pa_nil)) (pe_callB (call_showB S hg hr) (by rfl) T.repr (by decide +kernel) (pa_cons (pe_lc (own := [("at", 8)]) (g := gName 8) (tt := tYes) (te := tCall spDueE [] E0 (tCons (tVar 4) (tCons (tVar 8) tNil))) (by rfl) sc.nd (pi_range1 (by rfl) T.range (pa_cons (pe_callB call_len_seq (by rfl) T.len PySem.boot_len (pa_cons (pe_ix (r := rIxT K) ix_tup (pv 4) pe_int (fun _ _ => rfl)) pa_nil)) pa_nil)) (blkOk_by (sc := defScope s_law) (N := ["script", "m", "kept", "n", "book", "told", "row", "one", "at", "far", "due"]) (own := [("at", 8)]) (by decide +kernel)) (fun _ _ _ _ _ => (pg_name (i := 8) sc.nd rfl (Or.inl rfl))) (fun _ _ _ _ _ => pts_nil) (fun _ _ _ _ _ => (pe_has hDue hr (by decide) (pa_cons (pv 4) (pa_cons (pv 8) pa_nil))))) pa_nil)) (nomark _))
          (pss_one (ps_ret pe_bl))
          pss_nil)
        (pss_cons (ps_for PassesOwn.never rfl (pi_enum (by rfl) T.enumerate (pa_cons (pv 6) pa_nil)) (pg_tup rfl (pgs_cons (pg_name (i := 8) sc.nd rfl (Or.inl rfl)) (pgs_cons (pg_name (i := 7) sc.nd rfl (Or.inl rfl)) pgs_nil)))
          (pss_cons (ps_if (PW.pt (pw_or (pt_cmpR op_ne (pe_callB (call_showB S hg hr) (by rfl) T.repr (by decide +kernel) (pa_cons (pe_has hShown hr (by decide) (pa_cons (pe_meth (E := E0) (pv 5) O.cls mV okV (hr.mono (by decide)) bV .nil passL (pa_cons (pv 8) pa_nil)) pa_nil)) pa_nil)) (pe_callB (call_showB S hg hr) (by rfl) T.repr (by decide +kernel) (pa_cons (pe_has hDue hr (by decide) (pa_cons (pv 4) (pa_cons (pv 8) pa_nil))) pa_nil)) (nomark _)) (pw_or1 (pt_not (pt_val (pe_hasG hDays hg hr (by decide) (pa_cons (pv 1) (pa_cons (pv 4) (pa_cons (pv 8) (pa_cons (pv 7) pa_nil))))))))))
            (pss_one (ps_ret pe_bl))
            pss_nil)
          (pss_one (ps_expr (pe_bm PySem.F.plainAttrs_list PySem.F.slot_list_append PySem.F.type_list_append mt_append (pv 2) (pa_cons (pe_tup (pa_cons (pv 7) (pa_cons (pe_has hDue hr (by decide) (pa_cons (pv 4) (pa_cons (pv 8) pa_nil))) pa_nil))) pa_nil))))))
        (pss_cons (ps_if (PW.pt (pw_or (pt_not (pt_val (pe_hasG hRef hg hr (by decide) (pa_cons (pv 4) (pa_cons (pv 5) (pa_cons (pe_ix (r := rIxL K) ix_list (pv 6) pe_int (fun _ _ => rfl)) pa_nil)))))) (pw_or1 (pt_not (pt_val (pe_hasG hRef hg hr (by decide) (pa_cons (pv 4) (pa_cons (pv 5) (pa_cons (pe_ix (r := rIxL K) ix_list (pv 6) (pe_un un_neg pe_int) (fun _ _ => rfl)) pa_nil)))))))))
          (pss_one (ps_ret pe_bl))
          pss_nil)
        (pss_cons (ps_set (i := 8) sc.nd rfl (Or.inl rfl) (pe_has hDraw hr (by decide) (pa_cons (pv 1) (pa_cons (pe_callB call_len_seq (by rfl) T.len PySem.boot_len (pa_cons (pv 6) pa_nil)) pa_nil))))
        (pss_cons (ps_set (i := 9) sc.nd rfl (Or.inl rfl) (pe_meth (E := E0) (pe_meth (E := E0) (pv 5) O.cls mN okN (hr.mono (by decide)) bN .nil pass0 (pa_cons (pv 8) (pa_cons (pe_ifExp (pt_cmpR op_notN (pe_ix (r := rIxT K) ix_tup (pe_ix (r := rIxT K) ix_tup (pv 4) pe_int (fun _ _ => rfl)) (pv 8) (fun _ _ => rfl)) pe_non (nomark _)) pe_non pe_int) pa_nil))) O.cls mV okV (hr.mono (by decide)) bV .nil passL (pa_cons (pv 8) pa_nil)))
        (pss_one (ps_if (PW.pt (pw_or (pt_cmpR op_eq (pe_con (pv 9) rfl) (pe_con (pe_ix (r := rIxL K) ix_list (pv 6) (pv 8) (fun _ _ => rfl)) rfl) (nomark _)) (pw_or1 (pt_cmpR op_ne (pe_propA (p := pn) (E := E0) (pv 9) okn (hr.mono (by decide)) bn pass0 rfl) (pv 8) (nomark _)))))
          (pss_one (ps_ret pe_bl))
          pss_nil)))))))))))
      (pss_one (ps_ret (pe_cmpR (op_eqD hu) (pe_lc (own := [("one", 7), ("due", 10)]) (g := gTup K 2 (gCons (gName 7) (gCons (gName 10) gNil))) (tt := tTest (tOp rNe (tCB rShowB (tCons (tCall (spShownE DE UE) [] E0 (tCons (tVar 7) tNil)) tNil)) (tCB rShowB (tCons (tVar 10) tNil)))) (te := tC (.int 1)) (by rfl) sc.nd (pi_list (pv 2)) (blkOk_by (sc := defScope s_law) (N := ["script", "m", "kept", "n", "book", "told", "row", "one", "at", "far", "due"]) (own := [("one", 7), ("due", 10)]) (by decide +kernel)) (fun _ _ _ _ _ => (pg_tup rfl (pgs_cons (pg_name (i := 7) sc.nd rfl (Or.inl rfl)) (pgs_cons (pg_name (i := 10) sc.nd rfl (Or.inl rfl)) pgs_nil)))) (fun _ _ _ _ _ => (pts_one (pt_cmpR op_ne (pe_callB (call_showB S hg hr) (by rfl) T.repr (by decide +kernel) (pa_cons (pe_has hShown hr (by decide) (pa_cons (pv 7) pa_nil)) pa_nil)) (pe_callB (call_showB S hg hr) (by rfl) T.repr (by decide +kernel) (pa_cons (pv 10) pa_nil)) (nomark _)))) (fun _ _ _ _ _ => pe_int)) (pe_lst pa_nil) (nomark _)))))))), ?_⟩
    walk_at "ex"
    refine ⟨a, ns, rfl, hS, hlen, fun m cc g H1 d1 s1 => ?_⟩
    have P1 : Pr m cc g H1 H1 0 := Pr.refl d1 (by decide)
    have t1 := tabs.ext s1
    obtain ⟨mcD, uD, crD, cvD⟩ := Ex.rdD
    obtain ⟨mcU, uU, crU, cvU⟩ := Ex.rdU
    refine g_proj ?_
    refine g_seq ?_
    refine g_ifR (fun b H' => b = false ∧ ∀ b o, H1 b = some o → H' b = some o) (fun Q' hQ => ?_) ?_
    · walk_at "go"
      refine g_lst' ?_
      walk_at "go"
      refine ⟨DE, mcD, _, uD, rfl, crD, cvD, ?_⟩
      walk_at "go"
      refine ⟨UE, mcU, _, uU, rfl, crU, cvU, ?_⟩
      walk_at "go"
      refine ⟨sz (by simp), fun p1 np1 => ?_⟩
      walk_at "go"
      refine g_lst' ?_
      walk_at "go"
      refine ⟨sz (by simp), fun p2 np2 => ?_⟩
      refine g_neD (K := K) (d := .list [.bool true, .bool false]) (e := .list [.bool true, .bool false]) (.lst (SqL.of (kp np2 upd_same)) (.cons (.bl _) (.cons (.bl _) .nil))) (.lst (SqL.of upd_same) (.cons (.bl _) (.cons (.bl _) .nil))) (by decide +kernel) (by decide +kernel) ?_
      rw [show (PyData.list [.bool true, .bool false]).eqv (.list [.bool true, .bool false]) = true by decide +kernel]
      refine g_bl ?_
      exact hQ _ _ ⟨rfl, same_up np2 (same_up np1 fun _ _ h => h)⟩
    · rintro b H2 ⟨rfl, s2⟩
      refine g_iff (g_next ?_)
      have P2 : Pr m cc g H2 H2 0 := P1.ext (LamX.ExtN.of s2)
      have t2 := t1.ext s2
      walk_at "go"
      refine g_lst' ?_
      walk_at "go"
      refine ⟨sz (by simp), fun L nL => ?_⟩
      have neL := P2.ne nL P2
      have P3 : Pr m cc g (upd H2 L (.lst [])) (upd H2 L (.lst [])) 0 := (P2.new nL).self
      have t3 := t2.ext (same_up (o := .lst []) nL fun _ _ h => h)
      have k3 : Kpt DE UE m cc g L (upd H2 L (.lst [])) 0 := ⟨⟨[], upd_same, by simp, fun x hx => by cases hx⟩, neL⟩
      generalize upd H2 L (.lst []) = H3 at P3 t3 k3 ⊢
      walk_at "go"
      refine ForQ.range (fun i σ H' => (∃ y3 y4 y5 y6 y7 y8 y9, σ = [some (.ref a), some (.ref m), some (.ref L), y3, y4, y5, y6, y7, y8, y9, none]) ∧ Pr m cc g H' H' (600 * i) ∧ LamX.Tabs (TR p) H' ∧ Kpt DE UE m cc g L H' (16 * i)) ⟨⟨_, _, _, _, _, _, _, rfl⟩, P3.le (by omega), t3, k3⟩ ?_ ?_
      · rintro r σ H4 hr4 ⟨⟨y3, y4, y5, y6, y7, y8, y9, rfl⟩, P4, t4, k4⟩
        have hr8 : r < 8 := hr4
        walk_at "go"
        refine ⟨m, cc, g, _, 15, rfl, P4, by omega, ⟨by decide, by decide⟩, fun k H5 a5 b5 q5 => ?_⟩
        have t5 := Tabs.pr t4 q5 P4
        walk_at "go"
        have em0 := Int.emod_nonneg (0 + (r : Int) + k) (show (15 : Int) ≠ 0 by decide)
        have em1 := Int.emod_lt_of_pos (0 + (r : Int) + k) (show (0 : Int) < 15 by decide)
        refine ⟨m, cc, g, _, _, rfl, q5.self, by omega, ⟨by omega, by omega⟩, fun v b H6 fb n2 okb q6 => ?_⟩
        have t6 := Tabs.pr t5 q6 q5.self
        obtain ⟨bk, na, la, dv, rfl, hb, hbn, ⟨rows, hbl, hrows⟩, hdv⟩ := book_inv fb
        have dok := okb.dok
        have l48 := okb.many
        walk_at "go"
        refine g_ixT (K := K) (SqT.of hb) rfl ?_
        walk_at "go"
        refine g_ixT (K := K) (SqT.of hb) rfl ?_
        walk_at "go"
        refine g_ixT (K := K) (SqT.of hb) rfl ?_
        walk_at "go"
        refine g_makeD (fz_notes hbn) (.tup hbl hrows) dok (by decide) (by omega) fun td H7 ntd d7 s7 => ?_
        walk_at "go"
        obtain ⟨td', tdx, twv, tbv, etd, htd, _, _⟩ := id d7
        cases etd
        refine gg_list ?_
        refine gg_meth ?_
        walk_at "go"
        refine ⟨td, tdx, _, rfl, htd, rfl, ?_⟩
        walk_at "go"
        refine ⟨.ref td, b.c, 2000, b.notes, b.lines, rfl, d7, dok, fun xs H8 ev8 s8 R nR => ?_⟩
        have hR9 : upd H8 R (.lst xs) R = some (.lst xs) := upd_same
        have s89 := same_up (o := .lst xs) nR fun b o (h : H8 b = some o) => h
        have P6 : Pr m cc g H6 H6 (600 * r + 501) := q6.self.le (by omega)
        have s69 : ∀ b o, H6 b = some o → upd H8 R (.lst xs) b = some o := fun b o h => s89 _ _ (s8 _ _ (s7 _ _ h))
        have P9 : Pr m cc g (upd H8 R (.lst xs)) (upd H8 R (.lst xs)) (600 * r + 501) := P6.ext (LamX.ExtN.of s69)
        have neR := (P6.ext (LamX.ExtN.of fun b o h => s8 _ _ (s7 _ _ h))).ne nR (P6.ext (LamX.ExtN.of fun b o h => s8 _ _ (s7 _ _ h)))
        have k6 := (k4.pr q5 P4).pr q6 q5.self
        have k9 := k6.same s69 P6
        have t9 := t6.ext s69
        have neRL : R ≠ L := by
          obtain ⟨xs6, hL6⟩ := k6.at
          exact fun e => (ne_of_none (s8 _ _ (s7 _ _ hL6)) nR) e.symm
        have f9 : Fz (upd H8 R (.lst xs)) (.ref bk) b.d := fb.tk (Tk.same s69)
        have d9 : DiaAt DC (upd H8 R (.lst xs)) (.ref td) b.c b.notes b.lines := d7.same fun b o h => s89 _ _ (s8 _ _ h)
        have ev9 := ev8.same s89
        generalize upd H8 R (.lst xs) = H9 at hR9 P9 k9 t9 f9 d9 ev9 ⊢
        clear s89 s69 ev8 s8 s7 d7 hb hbn hbl hrows hdv nR ntd htd k6 k4 t6 t5 t4 P6 P4 q6 q5 fb
        obtain ⟨bk', na9, la9, dv9, ebk, hb, hbn, ⟨rows9, hbl, hrows⟩, hdv⟩ := book_inv f9
        cases ebk
        have hxl : xs.length = b.notes.length := ev9.length
        have n16 := dok.n16
        have nok : ∀ n ∈ b.notes, NoteOK b.c n := fun n hn => ⟨dok.c100, fun i e => dok.note i (e ▸ hn)⟩
        have shw := show_evs nok n16
        refine g_proj ?_
        refine g_seq ?_
        refine g_ifR (fun b H' => b = false ∧ ∀ b o, H9 b = some o → H' b = some o) (fun Q' hQ => ?_) ?_
        · walk_at "go"
          refine g_lq (K := K) (SqL.of hR9) ?_
          refine LcQ.list (xs := xs) (fun D i H' => (∃ acc, H' D = some (.lst acc) ∧ acc.length = i ∧ Rws D H' 0 acc (b.notes.take i)) ∧ (∀ b o, H9 b = some o → H' b = some o)) (fun D nD => ⟨⟨[], upd_same, rfl, .nil⟩, same_up nD fun _ _ h => h⟩) (fun D nD i H' hi h => SqL.of (h.2 _ _ hR9)) ?_ ?_
          · rintro D nD i x H10 hx ⟨⟨acc, hD, hacc, rw10⟩, s10⟩
            obtain ⟨note, hn, evx⟩ := ev9.get hx
            have hi : i < xs.length := (List.getElem?_eq_some_iff.mp hx).1
            rw [Nat.zero_add] at evx
            walk_at "go"
            refine ⟨x, (i : Nat), b.c, note, rfl, evx.same s10, fun q H11 nq hq s11 => ?_⟩
            have neq : q ≠ D := fun e => by rw [e, hD] at nq; cases nq
            walk_at "go"
            refine ⟨acc, s11 _ _ hD, szl (by omega), ⟨_, upd_same, by simp [hacc], ?_⟩, fun b o h => ?_⟩
            · have e1 : b.notes.take (i + 1) = b.notes.take i ++ [note] := by rw [List.take_add_one, hn]; rfl
              rw [e1]
              refine (rw10.keep (fun b o nb h => by rw [upd_ne nb]; exact s11 _ _ h)).snoc ?_ neq
              rw [upd_ne neq, hacc, Nat.zero_add]
              exact hq
            · rw [upd_ne (ne_of_none h nD)]
              exact s11 _ _ (s10 _ _ h)
          · rintro D nD H10 ⟨⟨acc, hD, hacc, rw10⟩, s10⟩
            rw [hxl, List.take_length] at rw10
            refine g_nil ?_
            refine g_showB (d := .list (evsD 0 b.notes)) (.lst hD rw10.dqb) shw.1 shw.2.1 shw.2.2 ?_
            walk_at "go"
            refine g_ixT (K := K) (SqT.of (s10 _ _ hb)) rfl ?_
            walk_at "go"
            refine g_len (K := K) (Or.inr (SqT.of (s10 _ _ hbn))) ?_
            rw [List.length_map]
            walk_at "go"
            refine LcQ.range (fun D i H' => (∃ acc, H' D = some (.lst acc) ∧ acc.length = i ∧ Rws D H' 0 acc (b.notes.take i)) ∧ (∀ b o, H9 b = some o → H' b = some o)) (fun D nD => ⟨⟨[], upd_same, rfl, .nil⟩, same_up nD s10⟩) ?_ ?_
            · rintro D2 nD2 i H11 hi ⟨⟨acc2, hD2, hacc2, rw11⟩, s11⟩
              have hi' : i < b.notes.length := by omega
              have hn : b.notes[i]? = some b.notes[i] := by simp [hi']
              have e0 : (0 : Int) + (i : Int) = ((i : Nat) : Int) := by omega
              rw [e0]
              walk_at "go"
              refine ⟨.ref bk, b, i, b.notes[i], rfl, f9.tk (Tk.same s11), hn, fun q H12 nq hq s12 => ?_⟩
              have neq : q ≠ D2 := fun e => by rw [e, hD2] at nq; cases nq
              walk_at "go"
              refine ⟨acc2, s12 _ _ hD2, szl (by omega), ⟨_, upd_same, by simp [hacc2], ?_⟩, fun b o h => ?_⟩
              · have e1 : b.notes.take (i + 1) = b.notes.take i ++ [b.notes[i]] := by rw [List.take_add_one, hn]; rfl
                rw [e1]
                refine (rw11.keep (fun b o nb h => by rw [upd_ne nb]; exact s12 _ _ h)).snoc ?_ neq
                rw [upd_ne neq, hacc2, Nat.zero_add]
                exact hq
              · rw [upd_ne (ne_of_none (s10 _ _ h) nD2)]
                exact s12 _ _ (s11 _ _ h)
            · rintro D2 nD2 H11 ⟨⟨acc2, hD2, hacc2, rw11⟩, s11⟩
              rw [Int.toNat_natCast, List.take_length] at rw11
              refine g_nil ?_
              refine g_showB (d := .list (evsD 0 b.notes)) (.lst hD2 rw11.dqb) shw.1 shw.2.1 shw.2.2 ?_
              refine ne_same ⟨_, rfl, ?_⟩
              exact hQ _ _ ⟨rfl, s11⟩
        · rintro b' H10 ⟨rfl, s10⟩
          refine g_iff (g_next ?_)
          have P10 : Pr m cc g H10 H10 (600 * r + 501) := P9.ext (LamX.ExtN.of s10)
          have k10 := k9.same s10 P9
          have t10 := t9.ext s10
          have hR10 := s10 _ _ hR9
          have f10 : Fz H10 (.ref bk) b.d := f9.tk (Tk.same s10)
          have d10 := d9.same s10
          have ev10 := ev9.same s10
          have hb10 := s10 _ _ hb
          have hbn10 := s10 _ _ hbn
          clear s10 hdv hrows hbl hbn hb rows9 ev9 d9 f9 t9 k9 P9 hR9
          walk_at "go"
          refine ⟨R, xs, rfl, SqL.of hR10, ?_⟩
          obtain ⟨td', tdx', twv', tbv', etd, htd, htn, htl⟩ := id d10
          cases etd
          have inv : ∀ {H' : Hp}, Kb m g L H10 H' → Tk H10 H' ∧ Ik H10 H' ∧ H' R = some (.lst xs) := fun kb => by
            obtain ⟨lxs, hL⟩ := k10.at
            exact ⟨kb.tup P10 hL, kb.ins P10 hL, kb _ _ neR.1 neR.2.2 neRL (noTab_at hR10 (fun ps z => nomatch z))⟩
          refine ForQ.enum (a := R) (xs := xs) (fun i σ H' => (∃ y7 y8, σ = [some (.ref a), some (.ref m), some (.ref L), some (.int (0 + ↑r)), some (.ref bk), some (.ref td), some (.ref R), y7, y8, y9, none]) ∧ Pr m cc g H' H' (600 * r + 501 + i) ∧ Kb m g L H10 H' ∧ LamX.Tabs (TR p) H' ∧ Kpt DE UE m cc g L H' (16 * r + i)) ⟨⟨_, _, rfl⟩, P10.le (by omega), Kb.refl, t10, k10.keep Kb.refl (fun _ h => h) P10 (by omega)⟩ (fun i σ H' _ h => SqL.of (inv h.2.2.1).2.2) ?_ ?_
          · rintro i x TT σ H11 hx ⟨⟨y7, y8, rfl⟩, P11, kb11, t11, k11⟩ nTT
            obtain ⟨note, hn, evx⟩ := ev10.get hx
            rw [Nat.zero_add] at evx
            have hi : i < xs.length := (List.getElem?_eq_some_iff.mp hx).1
            obtain ⟨tk11, ik11, hR11⟩ := inv kb11
            have s12 := same_up (o := .tup [.int (i : Nat), x]) nTT fun b o (h : H11 b = some o) => h
            refine g_tupg (K := K) (SqT.of upd_same) rfl ?_
            generalize upd H11 TT (.tup [.int (i : Nat), x]) = H12 at s12 ⊢
            walk_at "go"
            have nk := nok note (List.mem_of_getElem? hn)
            have sv := show_ev (n := i) nk (by omega)
            have d11 : DiaAt DC H11 (.ref td) b.c b.notes b.lines := d10.keep tk11 ik11
            have f11 : Fz H11 (.ref bk) b.d := f10.tk tk11
            have evx11 := evx.keep ik11
            refine g_meth ?_
            walk_at "go"
            refine ⟨td, tdx', _, rfl, s12 _ _ (ik11 _ _ _ _ htd), rfl, ?_⟩
            walk_at "go"
            refine ⟨.ref td, _, b.c, 2000, b.notes, b.lines, .int (i : Nat), rfl, d11.same s12, dok, .int _, fun j n' e hn' z H13 nz ez s13 => ?_, fun h => ?_⟩
            · have ej : j = i := by
                injection e with e
                omega
              subst ej
              rw [hn] at hn'
              cases hn'
              have s13' : ∀ b o, H11 b = some o → H13 b = some o := fun b o h => s13 _ _ (s12 _ _ h)
              walk_at "go"
              refine ⟨.ref z, (j : Nat), b.c, note, rfl, ez, fun q1 H14 nq1 hq1 s14 => ?_⟩
              refine g_nil ?_
              refine g_showB (dqb_ev hq1) sv.1 sv.2.1 sv.2.2 ?_
              have s14' : ∀ b o, H11 b = some o → H14 b = some o := fun b o h => s14 _ _ (s13' _ _ h)
              walk_at "go"
              refine ⟨.ref bk, b, j, note, rfl, f11.tk (Tk.same s14'), hn, fun q2 H15 nq2 hq2 s15 => ?_⟩
              refine g_nil ?_
              refine g_showB (dqb_ev hq2) sv.1 sv.2.1 sv.2.2 ?_
              have s15' : ∀ b o, H11 b = some o → H15 b = some o := fun b o h => s15 _ _ (s14' _ _ h)
              refine ne_same ⟨false, rfl, ?_⟩
              refine g_iff ?_
              walk_at "go"
              have P15 : Pr m cc g H15 H15 (600 * r + 501 + j) := P11.ext (LamX.ExtN.of s15')
              refine ⟨m, cc, g, _, .ref bk, x, b, j, note, rfl, P15, by omega, f11.tk (Tk.same s15'), ⟨dok.c2, dok.c100⟩, nk.2, hn, evx11.same s15', fun H16 q16 => ?_⟩
              have P16 := q16.self
              have kb15 : Kb m g L H11 H15 := Kb.same s15'
              have k15 := k11.same s15' P11
              have t15 := t11.ext s15'
              have kb16 : Kb m g L H11 H16 := kb15.trans (Kb.pr q16)
              have k16 := k15.pr q16 P15
              have t16 := Tabs.pr t15 q16 P15
              have kbF : Kb m g L H10 H16 := kb11.trans kb16
              obtain ⟨tk16, ik16, hR16⟩ := inv kbF
              obtain ⟨lxs, hL16, hll, hlr⟩ := k16.ex
              walk_at "go"
              refine g_bmL (i := 2) rfl hL16 ?_
              walk_at "go"
              refine g_tup' ?_
              walk_at "go"
              refine ⟨.ref bk, b, j, note, rfl, f10.tk tk16, hn, fun q3 H17 nq3 hq3 s17 => ?_⟩
              walk_at "go"
              refine ⟨sz (by simp), fun q4 nq4 => ?_⟩
              walk_at "go"
              have neq3 := P16.ne nq3 P16
              have neL3 : q3 ≠ L := fun e => (ne_of_none hL16 nq3) e.symm
              have s18 : ∀ b o, H16 b = some o → upd H17 q4 (.tup [x, .ref q3]) b = some o := same_up nq4 s17
              have hq38 := kp (o' := .tup [x, .ref q3]) nq4 hq3
              have hq48 : upd H17 q4 (.tup [x, .ref q3]) q4 = some (.tup [x, .ref q3]) := upd_same
              have neL4 : q4 ≠ L := fun e => (ne_of_none (s17 _ _ hL16) nq4) e.symm
              generalize upd H17 q4 (.tup [x, .ref q3]) = H18 at s18 hq38 hq48 ⊢
              refine g_app (s18 _ _ hL16) (szl (by omega)) ?_
              have P18 : Pr m cc g H18 H18 (600 * r + 501 + j + 1) := P16.ext (LamX.ExtN.of s18)
              have k18 := k16.same s18 P16
              have hput : Kb m g L H18 (upd H18 L (.lst (lxs ++ [.ref q4]))) := Kb.put
              have hL18 := s18 _ _ hL16
              have P19 : Pr m cc g (upd H18 L (.lst (lxs ++ [.ref q4]))) (upd H18 L (.lst (lxs ++ [.ref q4]))) (600 * r + 501 + j + 1) := by
                obtain ⟨n9, hn9, d⟩ := P18.dr
                exact ⟨⟨n9, hn9, d.upd k18.ne.1 k18.ne.2.1 k18.ne.2.2⟩, But.refl⟩
              refine ⟨⟨_, _, rfl⟩, P19.le (by omega), (kbF.trans (Kb.same s18)).trans hput, tabs_put (t16.ext s18) hL18, ⟨⟨lxs ++ [.ref q4], upd_same, by simp; omega, fun y hy => ?_⟩, k18.ne⟩⟩
              rcases List.mem_append.mp hy with hy | hy
              · exact ((hlr y hy).keep (Kb.same s18) P16 hL16).keep hput P18 hL18
              · rw [List.mem_singleton.mp hy]
                refine KRow.keep ?_ hput P18 hL18
                exact ⟨q4, q3, x, j, b.c, note, rfl, hq48, (evx.keep ik16).same s18, hq38, neq3.1, neq3.2.2, neL3, by omega, nk⟩
            · rw [within_int ⟨by omega, by omega⟩] at h
              cases h
          · rintro σ H11 ⟨⟨y7, y8, rfl⟩, P11, kb11, t11, k11⟩
            walk_at "go"
            obtain ⟨tk11, ik11, hR11⟩ := inv kb11
            have h0 : xs[0]? = some xs[0] := by simp [show 0 < xs.length by omega]
            obtain ⟨l, hl⟩ : ∃ l, xs.length = l + 1 := ⟨xs.length - 1, by omega⟩
            have hlast : xs[l]? = some xs[l] := by simp [show l < xs.length by omega]
            obtain ⟨n0, hn0, ev0⟩ := ev10.get h0
            obtain ⟨nl, hnl, evl⟩ := ev10.get hlast
            have d11 : DiaAt DC H11 (.ref td) b.c b.notes b.lines := d10.keep tk11 ik11
            have f11 : Fz H11 (.ref bk) b.d := f10.tk tk11
            refine g_ixL (K := K) (SqL.of hR11) (WL.atI_at (by decide) h0) ?_
            walk_at "go"
            refine ⟨.ref bk, .ref td, _, b, 2000, _, n0, rfl, f11, d11, dok, ev0.keep ik11, t11, fun H12 e12 t12 => ?_⟩
            walk_at "go"
            have hR12 := e12 _ _ hR11 (fun ps z => nomatch z)
            refine g_ixL (K := K) (SqL.of hR12) (WL.atI_neg1 hl hlast) ?_
            walk_at "go"
            refine ⟨.ref bk, .ref td, _, b, 2000, _, nl, rfl, f11.tk (Tk.ext e12), d11.keep (Tk.ext e12) (Ik.ext e12), dok, (evl.keep ik11).keep (Ik.ext e12), t12, fun H13 e13' t13 => ?_⟩
            have e13 : LamX.ExtN H11 H13 := e12.trans e13'
            have P13 := P11.ext e13
            have k13 := k11.ext e13 P11
            have hR13 := e13 _ _ hR11 (fun ps z => nomatch z)
            have f13 : Fz H13 (.ref bk) b.d := f11.tk (Tk.ext e13)
            have d13 : DiaAt DC H13 (.ref td) b.c b.notes b.lines := d11.keep (Tk.ext e13) (Ik.ext e13)
            have ik13 : Ik H10 H13 := ik11.trans (Ik.ext e13)
            clear e12 e13' t12 hR12 e13 k11 t11 P11 kb11
            walk_at "go"
            refine g_len (K := K) (Or.inl (SqL.of hR13)) ?_
            walk_at "go"
            refine ⟨m, cc, g, _, _, rfl, P13, by omega, ⟨by omega, by omega⟩, fun j H14 a14 b14 q14 => ?_⟩
            have P14 := q14.self
            have kb14 : Kb m g L H13 H14 := Kb.pr q14
            have k14 := k13.pr q14 P13
            have t14 := Tabs.pr t13 q14 P13
            have hR14 := kb14 _ _ neR.1 neR.2.2 neRL (noTab_at hR13 (fun ps z => nomatch z))
            obtain ⟨tk14, ik14⟩ : Tk H13 H14 ∧ Ik H13 H14 := by
              obtain ⟨lxs, hL⟩ := k13.at
              exact ⟨kb14.tup P13 hL, kb14.ins P13 hL⟩
            have f14 : Fz H14 (.ref bk) b.d := f13.tk tk14
            have d14 : DiaAt DC H14 (.ref td) b.c b.notes b.lines := d13.keep tk14 ik14
            have ik10 : Ik H10 H14 := ik13.trans ik14
            obtain ⟨jn, rfl⟩ := Int.eq_ofNat_of_zero_le a14
            have hjn : jn < xs.length := by omega
            have hj : xs[jn]? = some xs[jn] := by simp [hjn]
            obtain ⟨nj, hnj, evj⟩ := ev10.get hj
            rw [Nat.zero_add] at evj
            obtain ⟨bk', na9, la9, dv9, ebk, hb14, hbn14, ⟨rows9, hbl, hrows⟩, hdv⟩ := book_inv f14
            cases ebk
            obtain ⟨td', tdx4, twv4, tbv4, etd, htd4, _, _⟩ := id d14
            cases etd
            walk_at "go"
            refine g_meth ?_
            refine g_meth ?_
            walk_at "go"
            refine ⟨td, tdx4, _, rfl, htd4, rfl, ?_⟩
            refine g_cons ?_
            refine g_var rfl ?_
            refine g_cons ?_
            refine g_teR (fun v H' => (∃ n', v = noteV n' ∧ n'.isSome = !nj.isSome ∧ (∀ k, n' = some k → 0 ≤ k ∧ k < b.c)) ∧ H' = H14) (fun Q' hQ => ?_) ?_
            · refine g_if ?_
              walk_at "go"
              refine g_ixT (K := K) (SqT.of hb14) rfl ?_
              walk_at "go"
              refine g_ixT (K := K) (SqT.of hbn14) (WL.atI_nat (i := jn) (v := noteV nj) (by rw [List.getElem?_map, hnj]; rfl)) ?_
              walk_at "go"
              cases nj with
              | none =>
                exact hQ _ _ ⟨⟨some 0, rfl, rfl, fun k e => by cases e; exact ⟨by decide, by have := dok.c2; omega⟩⟩, rfl⟩
              | some w0 =>
                exact hQ _ _ ⟨⟨none, rfl, rfl, fun k e => by cases e⟩, rfl⟩
            · rintro v HH ⟨⟨n', rfl, hne, hk'⟩, rfl⟩
              walk_at "go"
              have hlen' : (b.notes.set jn n').length = b.notes.length := List.length_set
              refine ⟨.ref td, (jn : Int), n', b.c, 2000, b.notes, b.lines, rfl, d14, dok, by decide, by have := okb.many; omega, ⟨by omega, by rw [Int.toNat_natCast]; omega⟩, hk', fun nx H15 nnx d15 s15 => ?_⟩
              rw [Int.toNat_natCast] at d15
              obtain ⟨nx', ndx, nwv, nbv, enx, hnx, _, _⟩ := id d15
              cases enx
              refine ⟨nx, ndx, _, rfl, hnx, rfl, ?_⟩
              walk_at "go"
              have dok' := note_ok (i := jn) dok hk'
              refine ⟨.ref nx, _, b.c, 2000, b.notes.set jn n', b.lines, .int (jn : Nat), rfl, d15, dok', .int _, fun j n2 e hn2 z H16 nz ez s16 => ?_, fun h => ?_⟩
              · have ej : j = jn := by
                  injection e with e
                  omega
                subst ej
                have en : n2 = n' := by
                  rw [List.getElem?_set_self (by omega)] at hn2
                  exact (Option.some.inj hn2).symm
                subst en
                obtain ⟨za, zdx, eza, hz⟩ := id ez
                cases eza
                have cls : ∀ note : Option Int, EvO K (evC DE UE note) ∧ PropOf K (evC DE UE note) "number" pn gn ∧ ∃ u, Con K (evC DE UE note) "IS_DATED" (.bl note.isSome) u := fun note => by
                  cases note with
                  | none => exact ⟨Es.ou, nU, Es.cU⟩
                  | some w => exact ⟨Es.od, nD, Es.cD⟩
                obtain ⟨Oz, nz', uz, cz⟩ := cls n2
                obtain ⟨Oj, _, uj, cj⟩ := cls nj
                have s1416 : ∀ b o, HH b = some o → H16 b = some o := fun b o h => s16 _ _ (s15 _ _ h)
                obtain ⟨ja, jdx, eja, hja⟩ := (evj.keep ik10).same s1416
                walk_at "go"
                refine ⟨z, _, zdx, _, _, uz, rfl, hz, Oz.cls, cz, by cases n2 <;> rfl, ?_⟩
                walk_at "go"
                refine g_ixL (K := K) (SqL.of (s1416 _ _ hR14)) (WL.atI_nat hj) ?_
                rw [eja]
                walk_at "go"
                refine ⟨ja, _, jdx, _, _, uj, rfl, hja, Oj.cls, cj, by cases nj <;> rfl, ?_⟩
                refine ⟨rfl, ?_⟩
                have hd : decide (V.bl n2.isSome = V.bl nj.isSome) = false := by
                  rw [hne]
                  cases nj with
                  | none => exact (by decide : decide (V.bl true = V.bl false) = false)
                  | some w => exact (by decide : decide (V.bl false = V.bl true) = false)
                rw [hd]
                refine ⟨false, rfl, ?_⟩
                refine g_iff ?_
                walk_at "go"
                refine ⟨.ref z, rfl, z, _, zdx, _, rfl, hz, Oz.cls, nz', _, z, zdx, _, .int (j : Nat), rfl, Oz, hz, by cases n2 <;> rfl, ?_⟩
                walk_at "go"
                refine ⟨rfl, ?_⟩
                have hd2 : (!decide (V.int (j : Nat) = V.int (j : Nat))) = false := by simp
                rw [hd2]
                refine ⟨false, rfl, ?_⟩
                refine g_iff (g_next ?_)
                have P16 : Pr m cc g H16 H16 (600 * r + 501 + xs.length + 1) := P14.ext (LamX.ExtN.of s1416)
                exact ⟨⟨_, _, _, _, _, _, _, rfl⟩, P16.le (by omega), t14.ext s1416, k14.keep (Kb.same s1416) (fun _ h => s1416 _ _ h) P14 (by omega)⟩
              · rw [within_int ⟨by omega, by omega⟩] at h
                cases h
      · rintro σ H4 ⟨⟨y3, y4, y5, y6, y7, y8, y9, rfl⟩, P4, t4, k4⟩
        obtain ⟨lxs, hL4, hll, hlr⟩ := k4.ex
        walk_at "go"
        refine g_lq (K := K) (SqL.of hL4) ?_
        refine LcQ.list (xs := lxs) (fun D i H' => H' D = some (.lst []) ∧ (∀ b o, H4 b = some o → H' b = some o)) (fun D nD => ⟨upd_same, same_up nD fun _ _ h => h⟩) (fun D nD i H' hi h => SqL.of (h.2 _ _ hL4)) ?_ ?_
        · rintro D nD i x H5 hx ⟨hD5, s5⟩
          obtain ⟨q, d, u, n, cy, note, rfl, hq, he, hdd, _, _, _, hn, nk⟩ := hlr x (List.mem_of_getElem? hx)
          have sv := show_ev (n := n) nk (by omega)
          refine g_tupg (K := K) (SqT.of (s5 _ _ hq)) rfl ?_
          walk_at "go"
          refine ⟨u, (n : Nat), cy, note, rfl, he.same s5, fun q1 H6 nq1 hq1 s6 => ?_⟩
          refine g_nil ?_
          refine g_showB (dqb_ev hq1) sv.1 sv.2.1 sv.2.2 ?_
          walk_at "go"
          refine g_showB (dqb_ev (s6 _ _ (s5 _ _ hdd))) sv.1 sv.2.1 sv.2.2 ?_
          refine ne_same ⟨false, rfl, ?_⟩
          refine g_iff ?_
          exact ⟨s6 _ _ hD5, fun b o h => s6 _ _ (s5 _ _ h)⟩
        · rintro D nD H5 ⟨hD5, s5⟩
          walk_at "go"
          refine g_lst' ?_
          walk_at "go"
          refine ⟨sz (by simp), fun p5 np5 => ?_⟩
          refine g_eqD (K := K) (d := .list []) (e := .list []) (.lst (SqL.of (kp np5 hD5)) .nil) (.lst (SqL.of upd_same) .nil) (by decide +kernel) (by decide +kernel) ?_
          rw [show (PyData.list []).eqv (.list []) = true by decide +kernel]
          exact q _
end
end K05
set_option Elab.async false
set_option linter.all false
set_option maxRecDepth 100000
set_option maxHeartbeats 4000000
namespace K05
open PySem PySem.Spec PyProof.Rows L2 WL
section
variable {P : Program} {w : World} {K : PySem.W.Frag} {mg : Str → Option Value} {base : Heap} {h : Heap}
theorem f_ck (c : SaysX chk3 fns xs K) (i : Nat) {f : PySem.W.Frag → Bool} (e : cks[i]? = some f) : f K = true := List.all_eq_true.mp c.w.chk f (List.mem_of_getElem? e)
theorem f_fa (c : SaysX chk3 fns xs K) : ∀ f ∈ fa, f.ok K = true := fun f hf => List.all_eq_true.mp (f_ck c 0 rfl) f hf
theorem f_fa2 (c : SaysX chk3 fns xs K) : ∀ f ∈ fa2, f.ok K = true := fun f hf => List.all_eq_true.mp (f_ck c 1 rfl) f hf
theorem f_free (X : K.In h) (G : h.Ns mainGlobals mg) (c : SaysX chk3 fns xs K) {x : Str} (hx : x ∈ builtins_) : mg x = none :=
  He.free_ok X G (f_fa c (.free x) (List.mem_append_right _ (List.mem_map.mpr ⟨x, hx, rfl⟩)))
theorem f_glo (X : K.In h) (G : h.Ns mainGlobals mg) (c : SaysX chk3 fns xs K) {x : Str} (hx : x ∈ names) : mg x = some (.ref (He.ga K x)) :=
  He.glo_ok X G (f_fa c (.glo x) (List.mem_append_left _ (List.mem_map.mpr ⟨x, hx, rfl⟩)))
theorem f_blt (X : K.In h) (G : h.Ns mainGlobals mg) (c : SaysX chk3 fns xs K) : Blt mg := by
  constructor <;> exact f_free X G c (by decide +kernel)
theorem mkFn {x : Str} {st : Stmt} (X : K.In h) (G : h.Ns mainGlobals mg) (c : SaysX chk3 fns xs K) (i : Nat) (hx : x ∈ names) (hi : fns[i]? = some ⟨.g x, x, x, st, [], []⟩) : ∃ fd, mg x = some (.ref (He.ga K x)) ∧ FnT K x st (He.ga K x) fd := by
  obtain ⟨fd, F⟩ := c.w.def_ i hi
  exact ⟨fd, f_glo X G c hx, F⟩
theorem mkHas {k : Nat} {x : Str} {st : Stmt} {ps : List Str} {sp : Sp} (X : K.In h) (G : h.Ns mainGlobals mg) (c : SaysX chk3 fns xs K) (i : Nat) (hx : x ∈ names) (hi : fns[i]? = some ⟨.g x, x, x, st, [], []⟩)
    (b : ∀ (kV doc pm : Value) (an : Option Addr) (cdv ct : Value) (us : List Value), us.length = ps.length → bindArgs (PySem.W.fnOf x x (defArgs st) (defBody st) (defScope st) .none kV doc pm an cdv ct) { pos := us } = pure (ps.zip us))
    (ok : ∀ fd, FnT K x st (He.ga K x) fd → FnOk P w K mg base CX0 k (He.ga K x) fd ps sp) : Has P w K mg base k x ps sp := by
  obtain ⟨fd, m, F⟩ := mkFn X G c i hx hi
  exact ⟨He.ga K x, fd, m, F.kp, F.bindsN b, ok fd F⟩
theorem mkHasE {k : Nat} {x : Str} {st : Stmt} {ps : List Str} {sp : Sp} (X : K.In h) (G : h.Ns mainGlobals mg) (c : SaysX chk3 fns xs K) (i : Nat) (hx : x ∈ names) (hi : fns[i]? = some ⟨.g x, x, x, st, [], []⟩)
    (b : ∀ (kV doc pm : Value) (an : Option Addr) (cdv ct : Value) (us : List Value), us.length = ps.length → bindArgs (PySem.W.fnOf x x (defArgs st) (defBody st) (defScope st) .none kV doc pm an cdv ct) { pos := us } = pure (ps.zip us))
    (ok : ∀ fd, FnT K x st (He.ga K x) fd → FnOk P w K mg base (L2.CX P w) k (He.ga K x) fd ps sp) : HasE P w K mg base k x ps sp := by
  obtain ⟨fd, m, F⟩ := mkFn X G c i hx hi
  exact ⟨He.ga K x, fd, m, F.kp, F.bindsN b, ok fd F⟩
theorem mkHasG {k : Nat} {x : Str} {st : Stmt} {ps : List Str} {sp : Sp} (X : K.In h) (G : h.Ns mainGlobals mg) (c : SaysX chk3 fns xs K) (i : Nat) (hx : x ∈ names) (hi : fns[i]? = some ⟨.g x, x, x, st, [], []⟩)
    (b : ∀ (kV doc pm : Value) (an : Option Addr) (cdv ct : Value) (us : List Value), us.length = ps.length → bindArgs (PySem.W.fnOf x x (defArgs st) (defBody st) (defScope st) .none kV doc pm an cdv ct) { pos := us } = pure (ps.zip us))
    (ok : ∀ fd, FnT K x st (He.ga K x) fd → GOk P w K mg base k (He.ga K x) fd ps sp) : HasG P w K mg base k x ps sp := by
  obtain ⟨fd, m, F⟩ := mkFn X G c i hx hi
  exact ⟨He.ga K x, fd, m, F.kp, F.bindsN b, ok fd F⟩
theorem mkDef {CX : CXT} {k : Nat} {d : DefW} {ps : List Str} {sp : Sp} (c : SaysX chk3 fns xs K) (i : Nat) (hi : fns[i]? = some d) (h1 : d.dfl = []) (h2 : d.kwd = [])
    (b : ∀ (kV doc pm : Value) (an : Option Addr) (cdv ct : Value) (us : List Value), us.length = ps.length → bindArgs (PySem.W.fnOf d.name d.qual (defArgs d.st) (defBody d.st) (defScope d.st) .none kV doc pm an cdv ct) { pos := us } = pure (ps.zip us))
    (ok : ∀ fd, FunD K d.name d.qual (defArgs d.st) (defBody d.st) (defScope d.st) [] [] (d.at_.ad K) fd → FnOk P w K mg base CX k (d.at_.ad K) fd ps sp) : ∃ fd, Binds K fd ps [] ∧ FnOk P w K mg base CX k (d.at_.ad K) fd ps sp ∧ FunD K d.name d.qual (defArgs d.st) (defBody d.st) (defScope d.st) [] [] (d.at_.ad K) fd := by
  obtain ⟨fd, F⟩ := c.w.def_ i hi
  have F' : FunD K d.name d.qual (defArgs d.st) (defBody d.st) (defScope d.st) [] [] (d.at_.ad K) fd := by
    have e1 : d.dvs K = [] := by unfold DefW.dvs; rw [h1]; rfl
    have e2 : d.kws K = [] := by unfold DefW.kws; rw [h2]; rfl
    rw [e1, e2] at F
    exact F
  exact ⟨fd, F'.bindsN b, ok fd F', F'⟩

theorem f_dia (X : K.In h) (G : h.Ns mainGlobals mg) (c : SaysX chk3 fns xs K) : Dia K mg (He.ga K "Diary") := diaB_ok (f_glo X G c (by decide +kernel)) (f_ck c 11 rfl)
theorem f_diaO (c : SaysX chk3 fns xs K) : DiaO K (He.ga K "Diary") := by
  have f := f_fa2 c
  exact diaOB_ok (He.cls_ok (f (.cls "Diary") (by simp [fa2]))) (He.noat_ok (f (.noat "Diary" "_modulus") (by simp [fa2]))) (He.noat_ok (f (.noat "Diary" "_weekdays") (by simp [fa2]))) (He.noat_ok (f (.noat "Diary" "_bounds") (by simp [fa2]))) (f_ck c 12 rfl)
variable (X : K.In h) (G : h.Ns mainGlobals mg) (c : SaysX chk3 fns xs K)
include X G c
theorem f_num : Has P w K mg base 1 "is_number" ["value"] (spNum K) := mkHas X G c 0 (by decide +kernel) rfl (fun _ _ _ _ _ _ us hl => match us, hl with | [_], _ => rfl) fun fd F => ok_num F (f_blt X G c)
theorem f_within : Has P w K mg base 2 "is_within" ["value", "low", "high"] (spWithin K) := mkHas X G c 1 (by decide +kernel) rfl (fun _ _ _ _ _ _ us hl => match us, hl with | [_, _, _], _ => rfl) fun fd F => ok_within F (f_num X G c)
theorem f_tupOf : Has P w K mg base 1 "is_tuple_of" ["value", "low", "high"] (spTupOf K) := mkHas X G c 3 (by decide +kernel) rfl (fun _ _ _ _ _ _ us hl => match us, hl with | [_, _, _], _ => rfl) fun fd F => ok_tupOf F (f_blt X G c)
theorem f_bound : Has P w K mg base 3 "is_bound" ["value", "many"] (spBound K) := mkHas X G c 4 (by decide +kernel) rfl (fun _ _ _ _ _ _ us hl => match us, hl with | [_, _], _ => rfl) fun fd F => ok_bound F (f_dia X G c) (f_tupOf X G c) (f_within X G c)
theorem f_wf : Has P w K mg base 3 "weekdays_fault" ["modulus", "weekdays"] (spRowF K (fun x c => [c, x]) "weekdays" 1 16 Sh.note) := mkHas X G c 5 (by decide +kernel) rfl (fun _ _ _ _ _ _ us hl => match us, hl with | [_, _], _ => rfl) fun fd F => ok_wf F (f_blt X G c) (f_dia X G c) (f_tupOf X G c) (f_within X G c)
theorem f_bf : Has P w K mg base 4 "bounds_fault" ["many", "bounds"] (spRowF K (fun x c => [c, x]) "bounds" 0 60 Sh.bound) := mkHas X G c 6 (by decide +kernel) rfl (fun _ _ _ _ _ _ us hl => match us, hl with | [_, _], _ => rfl) fun fd F => ok_bf F (f_blt X G c) (f_dia X G c) (f_tupOf X G c) (f_bound X G c)
theorem f_df : Has P w K mg base 5 "diary_fault" ["modulus", "weekdays", "bounds"] (spDiaryF K) := mkHas X G c 7 (by decide +kernel) rfl (fun _ _ _ _ _ _ us hl => match us, hl with | [_, _, _], _ => rfl) fun fd F => ok_df F (f_blt X G c) (f_dia X G c) (f_within X G c) (f_wf X G c) (f_bf X G c)
variable (hf : P.main.file = file) (hs : (List.lookup ("super" : Str) P.main.scope.names).isSome = false)
include hf hs

theorem f_ex_InvalidEvent : (∃ fI fd, ExT P K mg ["value"] (He.ga K "InvalidEvent") fI ∧ ExI P K ["value"] (He.ga K "InvalidEvent") fI fd ∧ ∀ (s : Shared) (u v : Value), K.In s.heap → BindsTo s fd ⟨[u, v], []⟩ [("self", u), ("value", v)]) ∧ XfC K (He.ga K "InvalidEvent") ∧ PySem.W.exmOne K (.ref (He.ga K "InvalidEvent")) (.ref (He.ga K "InvalidEvent")) = some true := by
  have a1 := f_ck c 2 rfl
  have a2 := f_ck c 3 rfl
  have a3 := f_ck c 4 rfl
  have hi := f_ck c 5 rfl
  have ex := c.ex 0 (d := ⟨"InvalidEvent", s_InvalidEvent_init, true⟩) rfl
  rw [← hf] at hi
  obtain ⟨fd, J, ep, en⟩ := exI_ok (P := P) (fs := ["value"]) (C := He.ga K "InvalidEvent") (d := ⟨"InvalidEvent", s_InvalidEvent_init, true⟩) rfl hi ex ⟨_, rfl, rfl⟩ rfl rfl rfl (by decide +kernel) ⟨_, _, fun n => match n with | 0 => _ | 1 => _ | 2 => _ | 3 => _ | _ => _, [fun n => match n with | 0 => _ | 1 => _ | 2 => _ | _ => _], rfl, rfl, by decide +kernel⟩
  refine ⟨⟨_, fd, exTB_ok (f_free X G c (by decide +kernel)) hs a1, J, ?_⟩, xfacB_ok a2, emB_ok a3⟩
  intro s u v _
  obtain ⟨c1, c2, c3, c4, c5, c6, c7, c8, c9, d1, d2, d3, d4, d5, d6⟩ := fd
  simp only at ep
  subst ep
  have e8 : c8 = .none := by
    cases c8 <;> first | rfl | exact absurd (show false = true from en) (by decide)
  subst e8
  exact BindsTo.of_eq rfl

theorem f_ex_InvalidNumber : (∃ fI fd, ExT P K mg ["value"] (He.ga K "InvalidNumber") fI ∧ ExI P K ["value"] (He.ga K "InvalidNumber") fI fd ∧ ∀ (s : Shared) (u v : Value), K.In s.heap → BindsTo s fd ⟨[u, v], []⟩ [("self", u), ("value", v)]) ∧ XfC K (He.ga K "InvalidNumber") ∧ PySem.W.exmOne K (.ref (He.ga K "InvalidNumber")) (.ref (He.ga K "InvalidNumber")) = some true := by
  have a1 := f_ck c 6 rfl
  have a2 := f_ck c 7 rfl
  have a3 := f_ck c 8 rfl
  have hi := f_ck c 9 rfl
  have ex := c.ex 1 (d := ⟨"InvalidNumber", s_InvalidNumber_init, true⟩) rfl
  rw [← hf] at hi
  obtain ⟨fd, J, ep, en⟩ := exI_ok (P := P) (fs := ["value"]) (C := He.ga K "InvalidNumber") (d := ⟨"InvalidNumber", s_InvalidNumber_init, true⟩) rfl hi ex ⟨_, rfl, rfl⟩ rfl rfl rfl (by decide +kernel) ⟨_, _, fun n => match n with | 0 => _ | 1 => _ | 2 => _ | 3 => _ | _ => _, [fun n => match n with | 0 => _ | 1 => _ | 2 => _ | _ => _], rfl, rfl, by decide +kernel⟩
  refine ⟨⟨_, fd, exTB_ok (f_free X G c (by decide +kernel)) hs a1, J, ?_⟩, xfacB_ok a2, emB_ok a3⟩
  intro s u v _
  obtain ⟨c1, c2, c3, c4, c5, c6, c7, c8, c9, d1, d2, d3, d4, d5, d6⟩ := fd
  simp only at ep
  subst ep
  have e8 : c8 = .none := by
    cases c8 <;> first | rfl | exact absurd (show false = true from en) (by decide)
  subst e8
  exact BindsTo.of_eq rfl

theorem f_diaF : DiaF P w K mg base (He.ga K "Diary") (He.ga K "InvalidEvent") := by
  have f := f_fa2 c
  have O := f_diaO c
  have D := f_dia X G c
  have T := f_blt X G c
  obtain ⟨_, aoth⟩ := He.ba (f_ck c 12 rfl)
  obtain ⟨aoth, _⟩ := He.ba aoth
  obtain ⟨q1, a⟩ := He.ba (f_ck c 13 rfl)
  obtain ⟨q2, a⟩ := He.ba a
  obtain ⟨q3, a⟩ := He.ba a
  obtain ⟨q4, a⟩ := He.ba a
  obtain ⟨q5, a⟩ := He.ba a
  obtain ⟨q6, a⟩ := He.ba a
  obtain ⟨q7, a⟩ := He.ba a
  obtain ⟨q8, a⟩ := He.ba a
  obtain ⟨q9, q10⟩ := He.ba a
  have ev : EvX P K mg (He.ga K "InvalidEvent") := ⟨f_glo X G c (by decide +kernel), (f_ex_InvalidEvent (P := P) X G c hf hs).1⟩
  have mt1 := He.meth_ok (f (.meth "Diary" "need_event") (by simp [fa2]))
  have mt2 := He.meth_ok (f (.meth "Diary" "__len__") (by simp [fa2]))
  have mt3 := He.meth_ok (f (.meth "Diary" "__eq__") (by simp [fa2]))
  obtain ⟨fd1, bi1, ok1, F1⟩ := mkDef (P := P) (w := w) (mg := mg) (base := base) (CX := CX0) (k := 6) (ps := ["self", "modulus", "weekdays", "bounds"]) (sp := spDInit K (He.ga K "Diary")) c 15 rfl rfl rfl (fun _ _ _ _ _ _ us hl => match us, hl with | [_, _, _, _], _ => rfl) fun fd F => ok_dinit F O (f_df X G c)
  obtain ⟨fd2, bi2, ok2, F2⟩ := mkDef (P := P) (w := w) (mg := mg) (base := base) (CX := CX0) (k := 1) (ps := ["self"]) (sp := spGetF (He.ga K "Diary") "_modulus") c 16 rfl rfl rfl (fun _ _ _ _ _ _ us hl => match us, hl with | [_], _ => rfl) fun fd F => ok_dmod F O
  obtain ⟨fd3, bi3, ok3, F3⟩ := mkDef (P := P) (w := w) (mg := mg) (base := base) (CX := CX0) (k := 1) (ps := ["self"]) (sp := spGetF (He.ga K "Diary") "_weekdays") c 17 rfl rfl rfl (fun _ _ _ _ _ _ us hl => match us, hl with | [_], _ => rfl) fun fd F => ok_dwds F O
  obtain ⟨fd4, bi4, ok4, F4⟩ := mkDef (P := P) (w := w) (mg := mg) (base := base) (CX := CX0) (k := 1) (ps := ["self"]) (sp := spGetF (He.ga K "Diary") "_bounds") c 18 rfl rfl rfl (fun _ _ _ _ _ _ us hl => match us, hl with | [_], _ => rfl) fun fd F => ok_dbds F O
  obtain ⟨fd5, bi5, ok5, F5⟩ := mkDef (P := P) (w := w) (mg := mg) (base := base) (CX := CX0) (k := 1) (ps := ["self"]) (sp := spDLen (He.ga K "Diary") K) c 19 rfl rfl rfl (fun _ _ _ _ _ _ us hl => match us, hl with | [_], _ => rfl) fun fd F => ok_dlen F T O
  obtain ⟨fd6, bi6, ok6, F6⟩ := mkDef (P := P) (w := w) (mg := mg) (base := base) (CX := CX0) (k := 1) (ps := ["self", "other"]) (sp := spDEq K (He.ga K "Diary")) c 20 rfl rfl rfl (fun _ _ _ _ _ _ us hl => match us, hl with | [_, _], _ => rfl) fun fd F => ok_deq F T O D
  obtain ⟨fd7, bi7, ok7, F7⟩ := mkDef (P := P) (w := w) (mg := mg) (base := base) (CX := L2.CX P w) (k := 3) (ps := ["self", "event"]) (sp := spNeed K (He.ga K "Diary") (He.ga K "InvalidEvent")) c 23 rfl rfl rfl (fun _ _ _ _ _ _ us hl => match us, hl with | [_, _], _ => rfl) fun fd F => ok_need F T O ev (f_within X G c)
  refine ⟨D, O, ⟨_, fd1, He.mkr_ok (f (.mkr "Diary") (by simp [fa2])), bi1, ok1⟩, ⟨_, _, fd2, propB_ok q1, bi2, ok2⟩, ⟨_, _, fd3, propB_ok q2, bi3, ok3⟩, ⟨_, _, fd4, propB_ok q3, bi4, ok4⟩, ⟨_, fd5, mt2.at_, mt2.fn, bi5, ok5⟩, ⟨_, fd6, mt3.at_, mt3.fn, bi6, ok6⟩, He.eqO_ok q4, sbB_ok q5, fun s => (othB_ok aoth s).2, q6, ⟨_, fd7, mt1, bi7, ok7, ?_⟩, conB_ok q7, conB_ok q8, conB_ok q9, conB_ok q10⟩
  obtain ⟨oc, od, dV, kV, dc, pm, an, cdv, ct, osl, e, _, _, hdV, _⟩ := F7.ex
  refine ⟨fun s us ws _ h1 h2 => ?_, fun h1 h2 => Vals.append h1 h2⟩
  match us, ws, h1, h2 with
  | [u], [v], _, _ =>
    have ed : dV = .none := hdV.elim (fun z => z.2) (fun z => absurd rfl z.1)
    subst ed
    have eb : bindArgs (PySem.W.fnOf "need_event" "Diary.need_event" (defArgs s_Diary_need_event) (defBody s_Diary_need_event) (defScope s_Diary_need_event) .none kV dc pm an cdv ct) { pos := [u], kw := [(("event" : Str), v)] } = pure [(("self" : Str), u), (("event" : Str), v)] := rfl
    rw [e]
    intro M A E Q q
    show wpAny M A (bindArgs (PySem.W.fnOf "need_event" "Diary.need_event" (defArgs s_Diary_need_event) (defBody s_Diary_need_event) (defScope s_Diary_need_event) .none kV dc pm an cdv ct) { pos := [u], kw := [(("event" : Str), v)] }) Q E s
    rw [eb]
    exact wpAny_pure q

omit X G c hf hs
theorem conBB_ok {C : Addr} {f : Str} {b : Bool} (h : conBB K C f b = true) : ∃ u, Con K C f (.bl b) u := by
  unfold conBB at h
  split at h
  · next j e =>
    obtain ⟨a, h⟩ := He.ba h
    obtain ⟨b', c'⟩ := He.ba h
    have e1 := of_decide_eq_true a
    subst e1
    exact ⟨_, e, rfl, He.eqO_ok b', by simpa using c'⟩
  · cases h
theorem cvBB_ok {C : Addr} {f : Str} {b : Bool} (h : cvBB K C f b = true) : ∃ u, ClX.CVal K C (.type "type") f (.bl b) u := by
  unfold cvBB at h
  split at h
  · next j e => exact ⟨_, e, by rw [of_decide_eq_true h]; rfl⟩
  · cases h
include X G c hf hs
theorem f_evn : EvN P K mg (He.ga K "InvalidNumber") := ⟨f_glo X G c (by decide +kernel), (f_ex_InvalidNumber (P := P) X G c hf hs).1⟩
theorem h_neednum : HasE P w K mg base 2 "need_number" ["value"] (spNeedNum K (He.ga K "InvalidNumber")) := mkHasE X G c 2 (by decide +kernel) rfl (fun _ _ _ _ _ _ us hl => match us, hl with | [_], _ => rfl) fun fd F => ok_neednum F (f_evn X G c hf hs) (f_num X G c)
theorem f_evo (i : Nat) {C : Str} (h1 : He.Fa.cls C ∈ fa2) (h2 : He.Fa.noat C "_number" ∈ fa2) (h3 : He.Fa.noat C "_modulus" ∈ fa2) (h4 : He.Fa.noat C "_weekday" ∈ fa2) (h5 : errB05 K (He.ga K C) = true) : EvO K (He.ga K C) := by
  have f := f_fa2 c
  obtain ⟨a, h⟩ := He.ba h5
  obtain ⟨b, h⟩ := He.ba h
  obtain ⟨c1, c2⟩ := He.ba h
  exact ⟨He.cls_ok (f _ h1), He.noat_ok (f _ h2), He.noat_ok (f _ h3), He.noat_ok (f _ h4), He.eqO_ok a, He.eqO_ok b, tkB_ok c1, mrB_ok c2⟩
theorem f_evoD : EvO K (He.ga K "DatedEvent") := f_evo X G c hf hs 0 (by simp [fa2]) (by simp [fa2]) (by simp [fa2]) (by simp [fa2]) (f_ck c 16 rfl)
theorem f_evoU : EvO K (He.ga K "UndatedEvent") := f_evo X G c hf hs 0 (by simp [fa2]) (by simp [fa2]) (by simp [fa2]) (by simp [fa2]) (f_ck c 17 rfl)
theorem f_sup : SupC P K mg (He.ga K "DatedEvent") (He.ma K (He.ga K "Event") "__init__") := by
  obtain ⟨a, h⟩ := He.ba (f_ck c 31 rfl)
  obtain ⟨b, h⟩ := He.ba h
  obtain ⟨c1, h⟩ := He.ba h
  obtain ⟨c2, h⟩ := He.ba h
  obtain ⟨c3, c4⟩ := He.ba h
  exact ⟨He.eqO_ok a, tyB_ok b, c1, He.eqO_ok c2, mrB_ok c3, Option.isSome_iff_exists.mp c4, f_free X G c (by decide +kernel), hs⟩
theorem f_latD : LatF P w K mg base (He.ga K "DatedEvent") (He.ga K "UndatedEvent") (He.ga K "InvalidNumber") (He.ga K "DatedEvent") true := by
  obtain ⟨fd1, bi1, ok1, F1⟩ := mkDef (P := P) (w := w) (mg := mg) (base := base) (CX := L2.CX P w) (k := 3) (ps := ["self", "day"]) (sp := spLat K (He.ga K "DatedEvent") (He.ga K "UndatedEvent") (He.ga K "InvalidNumber") true) c 14 rfl rfl rfl (fun _ _ _ _ _ _ us hl => match us, hl with | [_, _], _ => rfl) fun fd F => ok_latD F (f_evoD X G c hf hs) (h_neednum X G c hf hs)
  exact ⟨_, fd1, He.meth_ok (f_fa2 c (.meth "DatedEvent" "latest") (by simp [fa2])), bi1, ok1, by
    obtain ⟨oc, od, dV, kV, dc, pm, an, cdv, ct, osl, e, _, _, hdV, _⟩ := F1.ex
    refine ⟨fun s us ws _ h1 h2 => ?_, fun h1 h2 => Vals.append h1 h2⟩
    match us, ws, h1, h2 with
    | [u], [v], _, _ =>
      have ed : dV = .none := hdV.elim (fun z => z.2) (fun z => absurd rfl z.1)
      subst ed
      have eb : bindArgs (PySem.W.fnOf "latest" "DatedEvent.latest" (defArgs s_DatedEvent_latest) (defBody s_DatedEvent_latest) (defScope s_DatedEvent_latest) .none kV dc pm an cdv ct) { pos := [u], kw := [(("day" : Str), v)] } = pure [(("self" : Str), u), (("day" : Str), v)] := rfl
      rw [e]
      intro M A E Q q
      show wpAny M A (bindArgs (PySem.W.fnOf "latest" "DatedEvent.latest" (defArgs s_DatedEvent_latest) (defBody s_DatedEvent_latest) (defScope s_DatedEvent_latest) .none kV dc pm an cdv ct) { pos := [u], kw := [(("day" : Str), v)] }) Q E s
      rw [eb]
      exact wpAny_pure q⟩
theorem f_latU : LatF P w K mg base (He.ga K "DatedEvent") (He.ga K "UndatedEvent") (He.ga K "InvalidNumber") (He.ga K "UndatedEvent") false := by
  obtain ⟨fd1, bi1, ok1, F1⟩ := mkDef (P := P) (w := w) (mg := mg) (base := base) (CX := L2.CX P w) (k := 3) (ps := ["self", "day"]) (sp := spLat K (He.ga K "DatedEvent") (He.ga K "UndatedEvent") (He.ga K "InvalidNumber") false) c 10 rfl rfl rfl (fun _ _ _ _ _ _ us hl => match us, hl with | [_, _], _ => rfl) fun fd F => ok_latU F (h_neednum X G c hf hs)
  have m : Meth K (He.ga K "UndatedEvent") "latest" (He.ma K (He.ga K "Event") "latest") := (of_decide_eq_true (f_ck c 40 rfl)) ▸ He.meth_ok (f_fa2 c (.meth "UndatedEvent" "latest") (by simp [fa2]))
  exact ⟨_, fd1, m, bi1, ok1, by
    obtain ⟨oc, od, dV, kV, dc, pm, an, cdv, ct, osl, e, _, _, hdV, _⟩ := F1.ex
    refine ⟨fun s us ws _ h1 h2 => ?_, fun h1 h2 => Vals.append h1 h2⟩
    match us, ws, h1, h2 with
    | [u], [v], _, _ =>
      have ed : dV = .none := hdV.elim (fun z => z.2) (fun z => absurd rfl z.1)
      subst ed
      have eb : bindArgs (PySem.W.fnOf "latest" "Event.latest" (defArgs s_Event_latest) (defBody s_Event_latest) (defScope s_Event_latest) .none kV dc pm an cdv ct) { pos := [u], kw := [(("day" : Str), v)] } = pure [(("self" : Str), u), (("day" : Str), v)] := rfl
      rw [e]
      intro M A E Q q
      show wpAny M A (bindArgs (PySem.W.fnOf "latest" "Event.latest" (defArgs s_Event_latest) (defBody s_Event_latest) (defScope s_Event_latest) .none kV dc pm an cdv ct) { pos := [u], kw := [(("day" : Str), v)] }) Q E s
      rw [eb]
      exact wpAny_pure q⟩
theorem f_fits : FitF P w K mg base (He.ga K "DatedEvent") (He.ga K "UndatedEvent") (He.ga K "InvalidNumber") := by
  obtain ⟨fd1, bi1, ok1, F1⟩ := mkDef (P := P) (w := w) (mg := mg) (base := base) (CX := L2.CX P w) (k := 4) (ps := ["self", "day"]) (sp := spFits K (He.ga K "DatedEvent") (He.ga K "UndatedEvent") (He.ga K "InvalidNumber")) c 11 rfl rfl rfl (fun _ _ _ _ _ _ us hl => match us, hl with | [_, _], _ => rfl) fun fd F => ok_fits F (f_evoD X G c hf hs) (f_evoU X G c hf hs) (f_latD X G c hf hs) (f_latU X G c hf hs)
  have m1 : Meth K (He.ga K "DatedEvent") "fits" (He.ma K (He.ga K "Event") "fits") := (of_decide_eq_true (f_ck c 43 rfl)) ▸ He.meth_ok (f_fa2 c (.meth "DatedEvent" "fits") (by simp [fa2]))
  have m2 : Meth K (He.ga K "UndatedEvent") "fits" (He.ma K (He.ga K "Event") "fits") := (of_decide_eq_true (f_ck c 41 rfl)) ▸ He.meth_ok (f_fa2 c (.meth "UndatedEvent" "fits") (by simp [fa2]))
  exact ⟨_, fd1, m1, m2, bi1, ok1, by
    obtain ⟨oc, od, dV, kV, dc, pm, an, cdv, ct, osl, e, _, _, hdV, _⟩ := F1.ex
    refine ⟨fun s us ws _ h1 h2 => ?_, fun h1 h2 => Vals.append h1 h2⟩
    match us, ws, h1, h2 with
    | [u], [v], _, _ =>
      have ed : dV = .none := hdV.elim (fun z => z.2) (fun z => absurd rfl z.1)
      subst ed
      have eb : bindArgs (PySem.W.fnOf "fits" "Event.fits" (defArgs s_Event_fits) (defBody s_Event_fits) (defScope s_Event_fits) .none kV dc pm an cdv ct) { pos := [u], kw := [(("day" : Str), v)] } = pure [(("self" : Str), u), (("day" : Str), v)] := rfl
      rw [e]
      intro M A E Q q
      show wpAny M A (bindArgs (PySem.W.fnOf "fits" "Event.fits" (defArgs s_Event_fits) (defBody s_Event_fits) (defScope s_Event_fits) .none kV dc pm an cdv ct) { pos := [u], kw := [(("day" : Str), v)] }) Q E s
      rw [eb]
      exact wpAny_pure q⟩
theorem f_evF : EvF P w K mg base (He.ga K "Event") (He.ga K "DatedEvent") (He.ga K "UndatedEvent") (He.ga K "InvalidNumber") := by
  have f := f_fa2 c
  obtain ⟨fd1, bi1, ok1, F1⟩ := mkDef (P := P) (w := w) (mg := mg) (base := base) (CX := CX0) (k := 1) (ps := ["self", "number", "modulus"]) (sp := spEvInit K) c 8 rfl rfl rfl (fun _ _ _ _ _ _ us hl => match us, hl with | [_, _, _], _ => rfl) fun fd F => ok_evinit F
  have mU : Mk K (He.ga K "UndatedEvent") (He.ma K (He.ga K "Event") "__init__") := (of_decide_eq_true (f_ck c 39 rfl)) ▸ He.mkr_ok (f (.mkr "UndatedEvent") (by simp [fa2]))
  have hi := f_ck c 10 rfl
  have ex := c.ex 2 (d := ⟨"DatedEvent", s_DatedEvent_init, true⟩) rfl
  rw [← hf] at hi
  obtain ⟨fd2, J⟩ := ownI_ok (P := P) (K := K) (C := (He.ga K "DatedEvent")) (d := ⟨"DatedEvent", s_DatedEvent_init, true⟩) rfl rfl hi ex
  have B2 : Binds K fd2 ["self", "number", "modulus", "weekday"] [] := by
    obtain ⟨oc, od, osl, nm, qual, doc, pm, ctv, an, cda, cc, rfl, _⟩ := J.ex
    exact Binds.all fun us hl => match us, hl with | [_, _, _, _], _ => rfl
  have ok2 := ok_evinitD (P := P) (w := w) (base := base) J (f_sup X G c hf hs) (f_evoD X G c hf hs) ok1 bi1
  obtain ⟨fd3, F3⟩ := c.w.def_ 12 rfl
  have ok3 := ok_cho (P := P) (w := w) (base := base) F3 (f_blt X G c) (f_evoD X G c hf hs) (f_evoU X G c hf hs) (f_fits X G c hf hs)
  have m1 : Meth K (He.ga K "DatedEvent") "choices" (He.ma K (He.ga K "Event") "choices") := (of_decide_eq_true (f_ck c 44 rfl)) ▸ He.meth_ok (f (.meth "DatedEvent" "choices") (by simp [fa2]))
  have m2 : Meth K (He.ga K "UndatedEvent") "choices" (He.ma K (He.ga K "Event") "choices") := (of_decide_eq_true (f_ck c 42 rfl)) ▸ He.meth_ok (f (.meth "UndatedEvent" "choices") (by simp [fa2]))
  have B3 : Binds K fd3 ["self"] [] := FunD.bindsN F3 fun _ _ _ _ _ _ us hl => match us, hl with | [_], _ => rfl
  exact ⟨f_evoD X G c hf hs, f_evoU X G c hf hs, f_glo X G c (by decide +kernel), f_glo X G c (by decide +kernel), f_glo X G c (by decide +kernel), ⟨_, fd1, mU, bi1, ok1⟩, ⟨_, fd2, He.mkr_ok (f (.mkr "DatedEvent") (by simp [fa2])), B2, ok2⟩, f_latD X G c hf hs, f_latU X G c hf hs, f_fits X G c hf hs, ⟨_, fd3, m1, m2, B3, ok3⟩⟩
theorem f_evS : EvS P w K mg base (He.ga K "Event") (He.ga K "DatedEvent") (He.ga K "UndatedEvent") := by
  obtain ⟨fd1, bi1, ok1, F1⟩ := mkDef (P := P) (w := w) (mg := mg) (base := base) (CX := CX0) (k := 1) (ps := ["self"]) (sp := spGetA K "_number") c 9 rfl rfl rfl (fun _ _ _ _ _ _ us hl => match us, hl with | [_], _ => rfl) fun fd F => ok_evnum F
  obtain ⟨fd2, bi2, ok2, F2⟩ := mkDef (P := P) (w := w) (mg := mg) (base := base) (CX := CX0) (k := 1) (ps := ["self"]) (sp := spGetA K "_weekday") c 13 rfl rfl rfl (fun _ _ _ _ _ _ us hl => match us, hl with | [_], _ => rfl) fun fd F => ok_evwd F
  have p1 := propB_ok (f_ck c 28 rfl)
  have p2 := propB_ok (f_ck c 29 rfl)
  have e1 : He.ma K (He.ga K "DatedEvent") "number" = He.ma K (He.ga K "Event") "number" := (of_decide_eq_true (f_ck c 46 rfl))
  have e2 : He.ma K (He.ga K "UndatedEvent") "number" = He.ma K (He.ga K "Event") "number" := (of_decide_eq_true (f_ck c 45 rfl))
  rw [e1] at p1
  rw [e2] at p2
  exact ⟨f_evoD X G c hf hs, f_evoU X G c hf hs, f_glo X G c (by decide +kernel), f_glo X G c (by decide +kernel), f_glo X G c (by decide +kernel), isB_ok (f_ck c 22 rfl), isB_ok (f_ck c 23 rfl), isB_ok (f_ck c 24 rfl), isB_ok (f_ck c 25 rfl), isB_ok (f_ck c 26 rfl), isB_ok (f_ck c 27 rfl),
    conBB_ok (f_ck c 18 rfl), conBB_ok (f_ck c 19 rfl), ⟨_, _, fd1, p1, p2, bi1, ok1⟩, ⟨_, _, fd2, propB_ok (f_ck c 30 rfl), bi2, ok2⟩⟩
theorem f_evCls : EvCls K (He.ga K "DatedEvent") (He.ga K "UndatedEvent") := by
  obtain ⟨a, b⟩ := He.ba (f_ck c 20 rfl)
  obtain ⟨a2, b2⟩ := He.ba (f_ck c 21 rfl)
  obtain ⟨u, h⟩ := cvBB_ok b
  obtain ⟨u2, h2⟩ := cvBB_ok b2
  exact ⟨⟨_, u, crB_ok a, h⟩, ⟨_, u2, crB_ok a2, h2⟩⟩
theorem f_event : EventF P w K mg base (He.ga K "Diary") (He.ga K "DatedEvent") (He.ga K "UndatedEvent") (He.ga K "InvalidEvent") := by
  obtain ⟨fd1, bi1, ok1, F1⟩ := mkDef (P := P) (w := w) (mg := mg) (base := base) (CX := L2.CX P w) (k := 5) (ps := ["self", "number"]) (sp := spEvent K (He.ga K "Diary") (He.ga K "DatedEvent") (He.ga K "UndatedEvent") (He.ga K "InvalidEvent")) c 21 rfl rfl rfl (fun _ _ _ _ _ _ us hl => match us, hl with | [_, _], _ => rfl) fun fd F => ok_event F (f_blt X G c) (f_diaF X G c hf hs) (f_evF X G c hf hs)
  exact ⟨_, fd1, He.meth_ok (f_fa2 c (.meth "Diary" "event") (by simp [fa2])), bi1, ok1, by
    obtain ⟨oc, od, dV, kV, dc, pm, an, cdv, ct, osl, e, _, _, hdV, _⟩ := F1.ex
    refine ⟨fun s us ws _ h1 h2 => ?_, fun h1 h2 => Vals.append h1 h2⟩
    match us, ws, h1, h2 with
    | [u], [v], _, _ =>
      have ed : dV = .none := hdV.elim (fun z => z.2) (fun z => absurd rfl z.1)
      subst ed
      have eb : bindArgs (PySem.W.fnOf "event" "Diary.event" (defArgs s_Diary_event) (defBody s_Diary_event) (defScope s_Diary_event) .none kV dc pm an cdv ct) { pos := [u], kw := [(("number" : Str), v)] } = pure [(("self" : Str), u), (("number" : Str), v)] := rfl
      rw [e]
      intro M A E Q q
      show wpAny M A (bindArgs (PySem.W.fnOf "event" "Diary.event" (defArgs s_Diary_event) (defBody s_Diary_event) (defScope s_Diary_event) .none kV dc pm an cdv ct) { pos := [u], kw := [(("number" : Str), v)] }) Q E s
      rw [eb]
      exact wpAny_pure q⟩
theorem f_events : EvsM P w K mg base (He.ga K "Diary") (He.ga K "DatedEvent") (He.ga K "UndatedEvent") := by
  obtain ⟨fd3, F3⟩ := c.w.def_ 22 rfl
  exact ⟨_, fd3, He.meth_ok (f_fa2 c (.meth "Diary" "events") (by simp [fa2])), FunD.bindsN F3 fun _ _ _ _ _ _ us hl => match us, hl with | [_], _ => rfl, ok_events F3 (f_blt X G c) (f_diaF X G c hf hs) (f_event X G c hf hs)⟩
theorem f_noting : NoteM P w K mg base (He.ga K "Diary") := by
  obtain ⟨fd1, bi1, ok1, F1⟩ := mkDef (P := P) (w := w) (mg := mg) (base := base) (CX := CX0) (k := 8) (ps := ["self", "event", "weekday"]) (sp := spNoting (He.ga K "Diary")) c 24 rfl rfl rfl (fun _ _ _ _ _ _ us hl => match us, hl with | [_, _, _], _ => rfl) fun fd F => ok_note F (f_blt X G c) (f_diaF X G c hf hs)
  exact ⟨_, fd1, He.meth_ok (f_fa2 c (.meth "Diary" "noting") (by simp [fa2])), bi1, ok1⟩
theorem f_cau : CauD K mg (He.ga K "InvalidEvent") (He.ga K "InvalidNumber") (He.ga K "WeekdaylegsError") := by
  have f := f_fa2 c
  obtain ⟨fd, m, F⟩ := mkFn (st := s_law_caught) (x := "_law_caught") X G c 38 (by decide +kernel) rfl
  exact ⟨⟨_, fd, m, F, F.bindsN (fun _ _ _ _ _ _ us hl => match us, hl with | [_], _ => rfl)⟩, ⟨f_glo X G c (by decide +kernel), f_glo X G c (by decide +kernel), f_glo X G c (by decide +kernel), errcB_ok (f_ex_InvalidEvent (P := P) X G c hf hs).2.1 (show errcB K (He.ga K "InvalidEvent") = true from (f_ck c 32 rfl : errB05 K (He.ga K "InvalidEvent") = true)), errcB_ok (f_ex_InvalidNumber (P := P) X G c hf hs).2.1 (show errcB K (He.ga K "InvalidNumber") = true from (f_ck c 33 rfl : errB05 K (He.ga K "InvalidNumber") = true)),
    isB_ok (f_ck c 34 rfl), isB_ok (f_ck c 35 rfl), isB_ok (f_ck c 36 rfl), He.noat_ok (f (.noat "InvalidEvent" "value") (by simp [fa2])), He.noat_ok (f (.noat "InvalidNumber" "value") (by simp [fa2])), emB_ok (f_ck c 37 rfl), emB_ok (f_ck c 38 rfl)⟩, f_blt X G c⟩
omit hf hs
theorem h_mixed : Has P w K mg base 1 "_law_mixed" ["cell", "n"] (spMixed) := mkHas X G c 25 (by decide +kernel) rfl (fun _ _ _ _ _ _ us hl => match us, hl with | [_, _], _ => rfl) fun fd F => ok_mixed F
theorem h_folded : Has P w K mg base 1 "_law_folded" ["script"] (spFolded K) := mkHas X G c 26 (by decide +kernel) rfl (fun _ _ _ _ _ _ us hl => match us, hl with | [_], _ => rfl) fun fd F => ok_folded F (f_blt X G c)
theorem h_draw : Has P w K mg base 2 "_law_draw" ["m", "top"] (spDraw') := mkHas X G c 27 (by decide +kernel) rfl (fun _ _ _ _ _ _ us hl => match us, hl with | [_, _], _ => rfl) fun fd F => ok_draw F (f_blt X G c) (h_mixed X G c)
theorem h_begun : Has P w K mg base 2 "_law_begun" ["script"] (spBegun K) := mkHas X G c 28 (by decide +kernel) rfl (fun _ _ _ _ _ _ us hl => match us, hl with | [_], _ => rfl) fun fd F => ok_begun F (f_blt X G c) (h_folded X G c)
theorem h_slack : Has P w K mg base 3 "_law_slack" ["m", "cycle"] (spSlack) := mkHas X G c 29 (by decide +kernel) rfl (fun _ _ _ _ _ _ us hl => match us, hl with | [_, _], _ => rfl) fun fd F => ok_slack F (h_draw X G c)
theorem h_book : Has P w K mg base 4 "_law_book" ["m", "cycle", "crowd", "lines_most"] (spBook) := mkHas X G c 30 (by decide +kernel) rfl (fun _ _ _ _ _ _ us hl => match us, hl with | [_, _, _, _], _ => rfl) fun fd F => ok_book F (f_blt X G c) (h_draw X G c) (h_slack X G c)
theorem h_bent : Has P w K mg base 3 "_law_bent" ["m", "book"] (spBent) := mkHas X G c 31 (by decide +kernel) rfl (fun _ _ _ _ _ _ us hl => match us, hl with | [_, _], _ => rfl) fun fd F => ok_bent F (f_blt X G c) (h_draw X G c)
theorem h_any : Has P w K mg base 5 "_law_any_book" ["m", "peak"] (spAnyBook) := mkHas X G c 32 (by decide +kernel) rfl (fun _ _ _ _ _ _ us hl => match us, hl with | [_, _], _ => rfl) fun fd F => ok_any F (f_blt X G c) (h_draw X G c) (h_book X G c) (h_bent X G c)
theorem h_doubled : Has P w K mg base 1 "_law_doubled" ["kind"] (spDoubled K) := mkHas X G c 33 (by decide +kernel) rfl (fun _ _ _ _ _ _ us hl => match us, hl with | [_], _ => rfl) fun fd F => ok_doubled F (f_blt X G c)
theorem h_due : Has P w K mg base 1 "_law_due" ["book", "n"] (spDueE) := mkHas X G c 35 (by decide +kernel) rfl (fun _ _ _ _ _ _ us hl => match us, hl with | [_, _], _ => rfl) fun fd F => ok_dueE F
theorem h_back : Has P w K mg base 1 "_law_back" ["cycle", "note", "at"] (spBackE) := mkHas X G c 36 (by decide +kernel) rfl (fun _ _ _ _ _ _ us hl => match us, hl with | [_, _, _], _ => rfl) fun fd F => ok_backE F (f_blt X G c)
include hf hs
theorem h_shown : Has P w K mg base 3 "_law_shown" ["told"] (spShownE (He.ga K "DatedEvent") (He.ga K "UndatedEvent")) := mkHas X G c 34 (by decide +kernel) rfl (fun _ _ _ _ _ _ us hl => match us, hl with | [_], _ => rfl) fun fd F => ok_shownE F (f_blt X G c) (f_evS X G c hf hs)
theorem h_days : HasG P w K mg base 10 "_law_days_right" ["m", "book", "n", "told"] (spDaysE (He.ga K "DatedEvent") (He.ga K "UndatedEvent")) := mkHasG X G c 37 (by decide +kernel) rfl (fun _ _ _ _ _ _ us hl => match us, hl with | [_, _, _, _], _ => rfl) fun fd F => ok_daysE F (f_blt X G c) (f_free X G c (by decide +kernel)) (He.eqO_ok (f_ck c 15 rfl)) (sysB_ok (f_ck c 14 rfl)) (f_evF X G c hf hs) (h_draw X G c) (h_back X G c)
theorem h_ref {c1 p1 : Addr} (ht : tabA K (He.ga K "_law_refused_right") = some (c1, p1)) (tb : LamX.TabB base mg c1 p1) : HasG P w K mg base 11 "_law_refused_right" ["book", "told", "one"] (spRefE (He.ga K "Diary") (He.ga K "DatedEvent") (He.ga K "UndatedEvent") p1) :=
  mkHasG X G c 39 (by decide +kernel) rfl (fun _ _ _ _ _ _ us hl => match us, hl with | [_, _, _], _ => rfl) fun fd F => ok_refE F ht tb (f_blt X G c) (sysB_ok (f_ck c 14 rfl)) (f_diaF X G c hf hs) (f_evF X G c hf hs) (f_event X G c hf hs) (f_cau X G c hf hs) (h_doubled X G c)
theorem facts {f c1 p1 : Addr} (hfa : mg ("law" : Str) = some (.ref f)) (h1 : tabA K (He.ga K "_law_refused_right") = some (c1, p1)) :
    ∃ fd : FuncData, (∀ (s : Shared) (v : Value), BindsTo s fd ⟨[v], []⟩ [("script", v)]) ∧ ∀ base : Heap, K.In base → base.Ns mainGlobals mg → (∀ q ∈ [(c1, p1)], LamX.TabB base mg q.1 q.2) → GOk P w K mg base 12 f fd ["script"] (spLawT K (TR p1)) := by
  obtain ⟨fd, F⟩ := c.w.def_ 40 rfl
  have F' : FnT K "law" s_law (He.ga K "law") fd := F
  have e := hfa.symm.trans (He.glo_ok X G (f_fa2 c (.glo "law") (by simp [fa2])))
  cases e
  have b := FunD.bindsA (ps := ["script"]) F' fun _ _ _ _ _ _ us hl => match us, hl with | [_], _ => rfl
  exact ⟨fd, fun s v => b s [v] rfl, fun base _ _ tb => ok_law F' (f_blt X G c) (sysB_ok (f_ck c 14 rfl)) (f_diaF X G c hf hs) (f_evS X G c hf hs) (f_evCls X G c hf hs) (f_event X G c hf hs) (f_events X G c hf hs) (f_noting X G c hf hs) (h_draw X G c) (h_begun X G c) (h_any X G c)
    (h_shown X G c hf hs) (h_due X G c) (h_days X G c hf hs) (h_ref X G c hf hs h1 (tb (c1, p1) List.mem_cons_self))⟩
end
end K05
open PySem PySem.W PySem.Calls PyProof.Rows
theorem PySem.Challenge.cw_weekdaylegs_k05_events_as_objects_holds : PySem.Challenge.rw_weekdaylegs_k05_events_as_objects.Holds := by
  w_on; o_law
  refine HandSHeadRun.head_any (r := OpenLaw.row PySem.Challenge.rw_weekdaylegs_k05_events_as_objects) (q := view (OpenLaw.row PySem.Challenge.rw_weekdaylegs_k05_events_as_objects).prog [35]) (H := K05.hk) (ob := K05.ob) (M := 12000) (loose := K05.loose) (d := HandSHeadRun.topDef (OpenLaw.row PySem.Challenge.rw_weekdaylegs_k05_events_as_objects).prog 35) (kwd := []) K05.ob_eq
    (by kernel_rfl) (fun s => by kernel_rfl) K05.run (by kernel_rfl) (by kernel_rfl) (by kernel_rfl) (by rfl) (by first | assumption | decide +kernel) (by decide +kernel) ⟨rfl, rfl, rfl, rfl, rfl, by decide +kernel⟩ ?hw ?hc
  case hw => w_witness2
  case hc =>
    refine WL.walk_gT (l := PySem.Challenge.rw_weekdaylegs_k05_events_as_objects) (n := 63) (k := 12) (x := "script") rfl (by decide) (by kernel_rfl) ⟨rfl, by decide, by decide⟩ ?F
    intro w mg fa h Y G hmg0
    obtain ⟨K, KX, c⟩ := Y
    have hmg : mg ("law" : PySem.Str) = some (.ref fa) := by
      have e : (HandSHeadRun.topDef (OpenLaw.row PySem.Challenge.rw_weekdaylegs_k05_events_as_objects).prog 35).name = ("law" : PySem.Str) := by kernel_rfl
      rw [← e]
      exact hmg0
    obtain ⟨c1, p1, ht1, hcd1, hk1, hp1⟩ := c.tabs (.g "_law_refused_right") List.mem_cons_self
    obtain ⟨fd, hb, hF⟩ := K05.facts (P := PySem.Challenge.rw_weekdaylegs_k05_events_as_objects.prog) (w := w) KX G c.x rfl (by decide +kernel) hmg ht1
    have one : ∀ {P : PySem.Addr × PySem.Addr → Prop}, P (c1, p1) → ∀ q ∈ [(c1, p1)], P q := fun a q hq => by
      rw [List.mem_singleton.mp hq]; exact a
    refine ⟨K, fd, WL.spLawT K (K05.TR p1), [(c1, p1)], KX, one hp1, one hk1, one hcd1, hb, fun H a ns hl hT hS => ⟨a, ns, rfl, hS, hl, fun r hr => ?_, fun _ => rfl⟩, hF⟩
    have e := List.mem_singleton.mp (show r ∈ [(p1, _)] from hr)
    rw [e]
    exact LamX.TabS.nil (hT (c1, p1) List.mem_cons_self)
