import PyProof.Rows.All
import Wide.All
import OpenK.AllK
import Wide.FinOn
import HandS.ForMost
import HandS.Exc
import HandS.TryOnly
import HandS.ExcOwn
import HandS.WordsExc
import HandS.Defaults
import HandS.Property
import HandS.OwnEq
import HandS.ExcSuper
import HandS.ExcField
import HandS.IsInst
import HandS.TupAny
import HandS.Star
import HandS.ClsMeth
import HandS.Wide
import HandS.Zip
import HandS.Head0
import HandS.Head1
import HandS.Head2
import HandS.HeadEnd
import HandS.HeadHook1
import HandS.HeadHook2
import HandS.HeadHook3
import HandS.HeadHook4
import KE.KExcSuper
import HandS.ExcInit
import KE.GoesEnum
import KE.GoesOver
import HandS.MakeKw
import HandS.Style
import HandS.TupMul
import HandS.HeadNt
import HandS.Lambda
import HandS.Text
import KE.KIntText
import KE.LcSums
import KE.KEqNest
import HandS.MakeKwOnly
import HandS.DictComp
import HandS.Dict
import KE.GoesMore
import KE.GoesZip
import HandS.Conv
import HandS.FStr
import HandS.StrMore
import KE.IntTextLaws
import KE.GoesEnumKw
import KE.KExcIs
import PySem.Challenge.RW_weekdaylegs_k56_joining_refused
set_option Elab.async false
set_option linter.all false
set_option maxRecDepth 100000
set_option maxHeartbeats 4000000
/-! Words of our own over the hand layer: promises that know that nothing is being shown around them (guards), the text of a value, caught errors that are kept, the end of a law. -/
namespace WL
open PySem PySem.Spec PyProof.Rows L2

/-! ### promises of defs that show values: nothing is being shown around the call -/
structure GOk (P : Program) (w : World) (K : PySem.W.Frag) (mg : Str → Option Value) (base : Heap) (k : Nat) (f : Addr) (fd : FuncData) (ps : List Str) (sp : Sp) : Prop where
  size : ∀ vs H Q E, sp vs H Q E → vs.length = ps.length
  go : ∀ (A : Around) (up : List Env) (s : Shared) (H : Hp) (ar : Args) (us : List Value) (vs : List V) (Q : VK) (E : XK), A.guards = some [] → Room k A → Env0 P w K mg base A up s H →
    BindsTo s fd ar (ps.zip us) → Vals vs us → sp vs H Q E → codeAny (model P w) A (.call (.ref f) ar) (CR CX0 up P w H s Q E) s
theorem GOk.of {P : Program} {w : World} {K : PySem.W.Frag} {mg : Str → Option Value} {base : Heap} {k : Nat} {f : Addr} {fd : FuncData} {ps : List Str} {sp : Sp} (F : FnOk P w K mg base CX0 k f fd ps sp) : GOk P w K mg base k f fd ps sp :=
  ⟨F.len, fun A up s H ar us vs Q E _ hr he hb hv h => F.run A up s H ar us vs Q E hr he hb hv h⟩
theorem GOk.mono {P : Program} {w : World} {K : PySem.W.Frag} {mg : Str → Option Value} {base : Heap} {j k : Nat} {f : Addr} {fd : FuncData} {ps : List Str} {sp : Sp} (F : GOk P w K mg base j f fd ps sp) (h : j ≤ k) : GOk P w K mg base k f fd ps sp :=
  ⟨F.size, fun A up s H ar us vs Q E hg hr => F.go A up s H ar us vs Q E hg (hr.mono h)⟩

section
variable {P : Program} {w : World} {K : PySem.W.Frag} {mg : Str → Option Value} {base : Heap}
/-- a def by its body, where nothing is being shown -/
theorem gok_body {x qual : Str} {pr : Arguments} {bd : List Stmt} {sc : Scope} {dvs : List V} {kws : List (Str × V)} {f : Addr} {fd : FuncData} {N ps : List Str} {k : Nat} {sp : Sp}
    (F : FunD K x qual pr bd sc dvs kws f fd) (S : FnScope N ps sc) (size : ∀ vs H Q E, sp vs H Q E → vs.length = ps.length)
    (body : ∀ (cdv : Value) (A : Around) (up : List Env) (s : Shared) (H : Hp) (vs : List V) (Q : VK) (E : XK), A.guards = some [] → Room k (A.deeper (envOfC qual sc s.heap.objs.size f cdv)) → sp vs H Q E →
      ∃ t, PSs (cxOf CX0 P w K mg base N qual sc f cdv A up s H E).nox bd t ∧ t { nx := fun _ H' => Q .non H', rt := Q } (start N vs) H) : GOk P w K mg base (k + 1) f fd ps sp := by
  obtain ⟨oc, od, dV, kV, dc, pm, an, cdv, ct, osl, e, lk, hcd, _, _⟩ := F.ex
  subst e
  refine ⟨size, ?_⟩
  intro A up s H ar us vs Q E hg hr e0 hb rv hsp
  have kin : K.In s.heap := e0.mod.kin.keeps (fun b o q => (e0.bs b o q).1)
  have kinds : ∀ z ∈ ps.zip us, sc.names.lookup z.1 = some .local ∨ (sc.names.lookup z.1 = some .cell ∧ ((cellsFrom (s.heap.objs.size + 1) sc.names []).lookup z.1).isSome = true) := by
    intro z hz
    have hm : z.1 ∈ ps := (List.of_mem_zip (a := z.1) (b := z.2) hz).1
    cases S.par z.1 hm with
    | inl q => exact Or.inl q
    | inr q => exact Or.inr ⟨q, PySem.W.cellsFrom_some _ _ _ (Or.inl q)⟩
  refine codeAny_call_function hr.depth (kin _ _ lk) rfl S.co S.gen rfl (PySem.W.codeRec_of kin hcd) (hb _ _ _ _ ?_)
  refine wpAny_newFunctionEnv_cells S.kind kinds ?_
  intro env he s1 x1
  subst he
  have lim : s.heap.NoLimit := e0.mod.nolimit.keeps (fun b o q => (e0.bs b o q).1)
  refine And.intro (lim.keeps x1.toInCall.keep) (codeAny_func ?_)
  obtain ⟨t, ht, hq⟩ := body cdv A up s H vs Q E hg (hr.deeper _) hsp
  have J : Inv (cxOf CX0 P w K mg base N qual sc f cdv A up s H E) [] (start N vs) H s1 := inv_start S hr.hd e0 (size _ _ _ _ hsp) rv x1
  refine wpAny_mono (ht.nox.run [] s1 (start N vs) H _ J hq) ?_ (fun _ _ z => z)
  intro fl s2 hs
  have ends : ∀ {σ : L2.St} {H2 : Hp} {v : V} {u : Value}, Inv (cxOf CX0 P w K mg base N qual sc f cdv A up s H E) [] σ H2 s2 → RelV v u → Q v H2 → CE up P w H s Q u s2 :=
    fun I2 r2 q2 => ⟨_, _, I2.os, I2.bare, I2.base, I2.hok, r2, q2⟩
  match fl, hs with
  | .ret _, ⟨_, _, _, I2, r2, q2⟩ => exact ends I2 r2 q2
  | .next, ⟨_, _, I2, q2⟩ => exact ends (v := V.non) (u := Value.none) I2 rfl q2
  | .brk, ⟨_, _, _, q2⟩ => exact q2.elim
  | .cont, ⟨_, _, _, q2⟩ => exact q2.elim
end

section
variable {X : Cx} {k : Nat} {f : Addr} {fd : FuncData} {ps : List Str} {sp : Sp} {dvs : List V} {ds : List Value} {x : Str} {p pos : Pos} {e : Expr} {es : List Expr} {t : TA}
theorem gok_run {pins : List (Addr × Obj)} {σ : L2.St} {H : Hp} {s : Shared} {Q : VK} {us : List Value} {vs : List V} (F : GOk X.prog X.w X.K X.mg X.base k f fd ps sp) (hg : X.A.guards = some []) (hr : Room k X.A) (hb : Binds X.K fd ps ds) (hd : Vals dvs ds)
    (I : Inv X pins σ H s) (r : Vals vs us) (h : sp (vs ++ dvs) H Q E0) : wpAny (model X.prog X.w) X.A (call (.ref f) us) (EP X pins σ Q) X.xe s := by
  have rr : Vals (vs ++ dvs) (us ++ ds) := Vals.append r hd
  have el : (us ++ ds).length = ps.length := rr.length.symm.trans (F.size _ _ _ _ h)
  refine wpAny_call (codeAny_mono (F.go X.A X.stack s H ⟨us, []⟩ (us ++ ds) (vs ++ dvs) Q E0 hg hr I.env0 (hb s us I.kIn el) rr h) ?_)
  intro res s2 hq
  match res, hq with
  | .error _, z => exact False.elim z
  | .ok (.ret _), z => exact I.after z
  | .ok .next, z => exact False.elim z
  | .ok .brk, z => exact False.elim z
  | .ok .cont, z => exact False.elim z
theorem pe_gcall (F : GOk X.prog X.w X.K X.mg X.base k f fd ps sp) (hg : X.A.guards = some []) (hr : Room k X.A) (gl : Gl X x) (hm : X.mg x = some (.ref f)) (kp : PySem.W.keepIn X.K (.ref f) = true) (hb : Binds X.K fd ps ds) (hd : Vals dvs ds)
    (ha : PA X (e :: es) t) (hdb : (x == ("__debug__" : Str)) = false := by decide) (h1 : starEach (e :: es) X.env = (false, eval e X.env) :: starEach es X.env := by rfl) (h2 : (backTo pos (starEach es X.env)).any (·.1) = false := by rfl) :
    PE X (.Call (.Name x p) (e :: es) [] pos) (tCall sp dvs E0 t) := by
  constructor
  intro pins s σ H Q I h
  refine wpAny_Call_Name_kw (ld_glob I gl hm ?_ hdb)
  exact PySem.W.callWith_K (h₀ := X.base) I.ok.mod.kin kp (thn (ha.run pos pins s σ H _ I h) fun us s1 ⟨vs, H1, I1, r1, q1⟩ => ⟨I1.kIn, gok_run F hg hr hb hd I1 r1 q1⟩) h1 h2
end

/-! ### values as data, for showing and comparing -/
mutual
inductive Dq (H : Hp) : V → PyData → Prop
  | non : Dq H .non .none
  | bl (b : Bool) : Dq H (.bl b) (.bool b)
  | int (i : Int) : Dq H (.int i) (.int i)
  | str (x : Str) : Dq H (.str x) (.str x)
  | tup {a : Addr} {xs : List V} {ds : List PyData} : H a = some (.tup xs) → Dqs H xs ds → Dq H (.ref a) (.tuple ds)
  | lst {a : Addr} {xs : List V} {ds : List PyData} : H a = some (.lst xs) → a ≠ sysModules → Dqs H xs ds → Dq H (.ref a) (.list ds)
  | mtd {a : Addr} : H a = some (.dK []) → Dq H (.ref a) (.dict [])
inductive Dqs (H : Hp) : List V → List PyData → Prop
  | nil : Dqs H [] []
  | cons {v : V} {vs : List V} {d : PyData} {ds : List PyData} : Dq H v d → Dqs H vs ds → Dqs H (v :: vs) (d :: ds)
end
theorem Dqs.length {H : Hp} : ∀ {xs : List V} {ds : List PyData}, Dqs H xs ds → xs.length = ds.length
  | _, _, .nil => rfl
  | _, _, .cons _ h => congrArg Nat.succ h.length
section
variable {X : Cx} {pins : List (Addr × Obj)} {σ : L2.St} {H : Hp} {s : Shared}
mutual
theorem Dq.reads (I : Inv X pins σ H s) : ∀ {v : V} {d : PyData} {u : Value}, Dq H v d → RelV v u → ∃ as, Reads s.heap u d as ∧ sysModules ∉ as
  | _, _, _, .non, r => ⟨[], by cases r; exact .none, List.not_mem_nil⟩
  | _, _, _, .bl b, r => ⟨[], by cases r; exact .bool b, List.not_mem_nil⟩
  | _, _, _, .int i, r => ⟨[], by obtain ⟨t, q⟩ := r; subst q; exact .int i t, List.not_mem_nil⟩
  | _, _, _, .str x, r => ⟨[], by obtain ⟨t, q⟩ := r; subst q; exact .str x t, List.not_mem_nil⟩
  | _, _, _, .tup ha hs, r => by
    cases r
    obtain ⟨_, its, rv, ⟨o, eo, oc, n, od⟩⟩ := I.hok _ _ ha
    obtain ⟨as, q, hn⟩ := Dqs.reads I hs rv
    exact ⟨as, .tuple eo oc od (by simpa using q), hn⟩
  | _, _, _, .lst (a := a) ha hna hs, r => by
    cases r
    obtain ⟨_, its, n, rv, eo⟩ := I.hok _ _ ha
    obtain ⟨as, q, hn⟩ := Dqs.reads I hs rv
    exact ⟨a :: as, .list eo rfl rfl (by simpa using q), fun hm => (List.mem_cons.mp hm).elim (fun z => hna z.symm) hn⟩
  | _, _, _, .mtd (a := a) ha, r => by
    cases r
    obtain ⟨_, hsm, vs, kv, o, es, ep, eo, ex, od, _, pr, _⟩ := dk_of I.hok ha
    cases kv
    have e0 : es.toList = [] := List.eq_nil_of_length_eq_zero pr.length
    refine ⟨a :: [] ++ [], .dict (es := es) (kvs := []) eo ex.1 od (by rw [e0]; exact .nil) (by rw [e0]; exact .nil), fun hm => ?_⟩
    have hz : sysModules = a := by simpa using hm
    rw [← hz] at hsm
    exact absurd hsm (by decide)
theorem Dqs.reads (I : Inv X pins σ H s) : ∀ {vs : List V} {ds : List PyData} {us : List Value}, Dqs H vs ds → Vals vs us → ∃ as, ReadsAll s.heap us ds as ∧ sysModules ∉ as
  | _, _, _, .nil, r => ⟨[], by cases r; exact .nil, List.not_mem_nil⟩
  | _, _, _, .cons h hs, r => by
    cases r with
    | cons r1 r2 =>
      obtain ⟨as, q1, n1⟩ := Dq.reads I h r1
      obtain ⟨bs, q2, n2⟩ := Dqs.reads I hs r2
      exact ⟨as ++ bs, .cons q1 q2, fun hm => (List.mem_append.mp hm).elim n1 n2⟩
end
end
section
variable {X : Cx}
/-- repr(x) -/
def rShow : List V → Hp → VK → Prop := fun vs H Q => ∃ (a : Addr) (d : PyData), vs = [.ref a] ∧ Dq H (.ref a) d ∧ d.showable = true ∧ d.shown.length ≤ sizeLine ∧ d.depth ≤ 50 ∧ Q (.str d.shown) H
theorem call_show {k : Nat} (hg : X.A.guards = some []) (hr : Room k X.A) : CallR X (.builtin "repr") rShow := by
  intro pins s σ H vs us Q I r h
  obtain ⟨a, d, e, hd, hs, hz, hp, q⟩ := h
  subst e
  cases r with
  | cons r1 r2 =>
    cases r2
    cases r1
    obtain ⟨as, rd, hn⟩ := hd.reads I (u := .ref a) rfl
    have hu := hr.units
    exact repr_of_reads' rd hs (fun _ => hn) hg (by omega) (fun _ _ z => z) (fun h' u tk kp => ⟨.str d.shown, H, I.kept (t' := tk) kp, ⟨u, rfl⟩, q⟩) hz
end
end WL
set_option Elab.async false
set_option linter.all false
set_option maxRecDepth 100000
set_option maxHeartbeats 4000000
namespace WL
open PySem PySem.Spec PyProof.Rows L2
/-! ### the end of a law whose def shows values -/
section
variable {P : Program} {w : World} {K : PySem.W.Frag} {mg mb : Str → Option Value} {k : Nat} {fa a : Addr} {fd : FuncData} {x : Str} {sp : Sp} {s : Shared} {vs : List Value} {ns : List Int}
/-- the abstract heap at the law's entry: the script alone, unless it is the module's own -/
def atLaw (K : PySem.W.Frag) (a : Addr) (vs : List Value) (ns : List Int) : Hp := fun b =>
  if b = a ∧ K.lookup a = none then some (.frz { cls := .type "list", data := .seq vs.toArray } (.lst (ns.map V.int))) else none
theorem atLaw_some {b : Addr} {o : HO} (h : atLaw K a vs ns b = some o) : b = a ∧ K.lookup a = none ∧ o = .frz { cls := .type "list", data := .seq vs.toArray } (.lst (ns.map V.int)) := by
  unfold atLaw at h
  by_cases c : b = a ∧ K.lookup a = none
  · rw [if_pos c] at h
    exact ⟨c.1, c.2, (Option.some.inj h).symm⟩
  · rw [if_neg c] at h
    cases h
theorem law_g (kin : K.In s.heap) (gl : s.heap.Ns mainGlobals mg) (bl : s.heap.Ns builtinsNs mb) (bb : ∀ x : Str, x ≠ "__name__" → mb x = bootBuiltins x) (lim : s.heap.NoLimit) (gens : s.gens = #[])
    (ha : s.heap.get? a = some { cls := .type "list", data := .seq vs.toArray }) (hi : IntsAre vs ns) (hl : ns.length ≤ sizeLine) (hr : Room k callerA)
    (F : ∀ base : Heap, K.In base → base.Ns mainGlobals mg → GOk P w K mg base k fa fd [x] sp) (bind : ∀ (s : Shared) (u : Value), BindsTo s fd ⟨[u], []⟩ [(x, u)])
    (hsp : ∀ H : Hp, Only H → SqL K H a (ns.map V.int) → sp [.ref a] H (fun v _ => v = .bl true) fun _ _ _ => False) :
    codeAny (model P w) callerA (.call (.ref fa) ⟨[.ref a], []⟩) (fun r s' => r = .ok (.ret (.bool true)) ∧ PySem.OldK s.heap s'.heap ∧ s'.os = s.os ∧ AllBare s'.gens) s := by
  have hv := vals_ints hi
  have hok : HOk P w (atLaw K a vs ns) s.heap := by
    intro b o hb
    obtain ⟨rfl, _, rfl⟩ := atLaw_some hb
    exact ⟨ha, by rw [List.length_map]; exact hl, vs, _, hv, ha⟩
  have only : Only (atLaw K a vs ns) := fun b => by
    cases q : atLaw K a vs ns b with
    | none => exact .inl rfl
    | some o =>
      obtain ⟨_, _, rfl⟩ := atLaw_some q
      exact .inr ⟨_, _, rfl⟩
  have seen : SqL K (atLaw K a vs ns) a (ns.map V.int) := by
    cases q : K.lookup a with
    | none => exact .inl (.inr ⟨_, if_pos ⟨rfl, q⟩⟩)
    | some o =>
      have e := (kin a o q).symm.trans ha
      cases e
      exact .inr ⟨_, vs.toArray, _, q, rfl, rfl, rfl, by rw [List.size_toArray, hi.length]; exact hl, by simpa using hv⟩
  -- what is not the script is on the ground
  have ground : ∀ {b : Addr} {o : Obj}, s.heap.get? b = some o → (b = a → K.lookup a ≠ none) → (hidT s.heap (atLaw K a vs ns)).get? b = some o := fun {b o} e n => hidT_get e (by
    unfold atLaw
    exact if_neg fun c => n c.1 c.2)
  have noList : ∀ {b : Addr} {o : Obj} {es : Array DictEntry} {ep : Nat}, s.heap.get? b = some o → o.data = .dict es ep → b ≠ a := fun {b o es ep} e d z => by
    rw [z, ha] at e
    cases e
    cases d
  have nsG : ∀ {b : Addr} {m : Str → Option Value}, s.heap.Ns b m → (hidT s.heap (atLaw K a vs ns)).Ns b m := fun {b m} ⟨o, es, ep, e, d, r⟩ => ⟨o, es, ep, ground e fun z => absurd z (noList e d), d, r⟩
  have kin' : K.In (hidT s.heap (atLaw K a vs ns)) := fun b o e => ground (kin b o e) fun z n => by rw [z, n] at e; cases e
  obtain ⟨ml, l1, l2⟩ := lim
  have e0 : Env0 P w K mg (hidT s.heap (atLaw K a vs ns)) callerA [] s (atLaw K a vs ns) :=
    ⟨rfl, ⟨kin', nsG gl, ⟨mb, nsG bl, bb⟩, ⟨ml, nsG l1, l2⟩⟩, fun _ _ e => of_hidT e, Nat.le_of_eq (hidT_size _ _), trivial, fun b hb => absurd hb List.not_mem_nil, hok, .of_eq gens⟩
  refine codeAny_mono ((F _ kin' (nsG gl)).go callerA [] s _ ⟨[.ref a], []⟩ [.ref a] [.ref a] _ _ rfl hr e0 (bind s (.ref a)) (.cons rfl .nil) (hsp _ only seen)) ?_
  intro r s2 h
  match r, h with
  | .error _, z => exact False.elim z
  | .ok .next, z => exact False.elim z
  | .ok .brk, z => exact False.elim z
  | .ok .cont, z => exact False.elim z
  | .ok (.ret u), ⟨v, H2, os, bare, un, hok2, rv, q⟩ =>
    subst q
    cases rv
    refine ⟨rfl, PySem.OldK.of_keep fun b o e => ?_, os, bare⟩
    cases q : atLaw K a vs ns b with
    | none => exact un.keep b o e q List.not_mem_nil List.not_mem_nil
    | some u =>
      obtain ⟨rfl, _, rfl⟩ := atLaw_some q
      have z := (hok2 b _ (un.frzs b _ _ q)).1
      rw [ha] at e
      cases e
      exact z
end
theorem walk_g {l : PySem.W.OpenLaw} {n k : Nat} {q : Program} {loose : List Str} {XP : (Str → Option Value) → Heap → Prop} {YP : World → Heap → Prop} {d : DefRec} {x : Str}
    (hn : l.most = some n) (hn2 : n ≤ sizeLine) (hdf : d.params.defaults = []) (hr : Room k callerA)
    (F : ∀ (w : World) (mg : Str → Option Value) (fa : Addr) (h : Heap), YP w h → h.Ns mainGlobals mg → mg d.name = some (.ref fa) →
      ∃ (K : PySem.W.Frag) (fd : FuncData) (sp : Sp), K.In h ∧ (∀ (s : Shared) (u : Value), BindsTo s fd ⟨[u], []⟩ [(x, u)]) ∧
        (∀ (H : Hp) (a : Addr) (ns : List Int), ns.length ≤ n → Only H → SqL K H a (ns.map V.int) → sp [.ref a] H (fun v _ => v = .bl true) fun _ _ _ => False) ∧
        ∀ base : Heap, K.In base → base.Ns mainGlobals mg → GOk l.prog w K mg base k fa fd [x] sp) :
    PySem.W.WalkO q loose XP YP l.row.toRowW d [] (fun f vs => PySem.call f vs) := by
  refine Att.attach_call hn hdf ?_
  intro w s0 s1 mg mb fa o pm cd doc a vs ns G Y ho hd hcd hmg hobj hints hlen hg
  obtain ⟨K, fd, sp, kin, hb, hsp, hF⟩ := F w mg fa _ Y G.T.g hmg
  exact law_g kin G.T.g G.T.b G.T.builtins G.T.nolimit hg hobj hints (Nat.le_trans hlen hn2) hr hF hb fun H hO hS => hsp H a ns hlen hO hS
/-! ### facts of the top: where an object stands, what is looked at -/
inductive At where
  | g (x : Str)
  | m (C x : Str)
  | pr (C x : Str)
  | st (C x : Str)
  | cm (C x : Str)
def recAd (K : PySem.W.Frag) (p : Addr) (T : String) : Addr := match PySem.W.recIn K p T with
  | some (.ref g :: _) => g
  | _ => 0
def At.ad (K : PySem.W.Frag) : At → Addr
  | .g x => He.ga K x
  | .m C x => He.ma K (He.ga K C) x
  | .pr C x => recAd K (He.ma K (He.ga K C) x) "property"
  | .st C x => recAd K (He.ma K (He.ga K C) x) "staticmethod"
  | .cm C x => recAd K (He.ma K (He.ga K C) x) "classmethod"
def fnA (K : PySem.W.Frag) (a : Addr) : He.FnW := match K.lookup a with
  | some ⟨_, _, .func fd, _⟩ => some (fd.name, fd.qualname, fd.params, fd.body, fd.scope, fd.globals, fd.closure, fd.builtins)
  | _ => none
structure DefW where
  at_ : At
  name : Str
  qual : Str
  st : Stmt
  dfl : List He.Dv := []
  kwd : List (Str × He.Dv) := []
def DefW.val (d : DefW) : He.FnW := some (d.name, d.qual, defArgs d.st, .stmts (defBody d.st), defScope d.st, mainGlobals, [], builtinsNs)
def DefW.dvs (K : PySem.W.Frag) (d : DefW) : List V := d.dfl.map (He.Dv.v K)
def DefW.kws (K : PySem.W.Frag) (d : DefW) : List (Str × V) := d.kwd.map fun q => (q.1, q.2.v K)
def DefW.ok (K : PySem.W.Frag) (d : DefW) : Bool := PySem.W.keepIn K (.ref (d.at_.ad K)) && (match K.lookup (d.at_.ad K) with
  | some ⟨_, _, .func fd, _⟩ => PySem.W.codeIn K fd.code d.qual && (He.dflB K fd.defaults (d.dvs K) && He.kwdB K fd.kwdefaults (d.kws K))
  | _ => false)
theorem DefW.funD {K : PySem.W.Frag} {d : DefW} (e : fnA K (d.at_.ad K) = d.val) (c : d.ok K = true) : ∃ fd, FunD K d.name d.qual (defArgs d.st) (defBody d.st) (defScope d.st) (d.dvs K) (d.kws K) (d.at_.ad K) fd := by
  obtain ⟨c1, c2⟩ := He.ba c
  unfold fnA at e
  cases q : K.lookup (d.at_.ad K) with
  | none =>
    rw [q] at c2
    cases c2
  | some o =>
    obtain ⟨oc, od, dt, sl⟩ := o
    rw [q] at c2 e
    cases dt with
    | func z =>
      obtain ⟨a1, a2, a3, a4, a5, a6, a7, a8, a9, b1, b2, b3, b4, b5, b6⟩ := z
      have e2 : (some (a1, a2, a3, a4, a5, a6, a7, b6) : He.FnW) = some (d.name, d.qual, defArgs d.st, .stmts (defBody d.st), defScope d.st, mainGlobals, [], builtinsNs) := e
      simp only [Option.some.injEq, Prod.mk.injEq] at e2
      obtain ⟨h1, h2, h3, h4, h5, h6, h7, h8⟩ := e2
      subst h1 h2 h3 h4 h5 h6 h7 h8
      obtain ⟨k1, k2⟩ := He.ba (show (PySem.W.codeIn K b4 d.qual && (He.dflB K a8 (d.dvs K) && He.kwdB K a9 (d.kws K))) = true from c2)
      obtain ⟨k3, k4⟩ := He.ba k2
      exact ⟨_, ⟨oc, od, _, _, _, _, _, _, _, sl, rfl, q, k1, He.dflB_ok k3, He.kwdB_ok k4⟩, c1⟩
    | _ => cases c2
/-! ### what the run of the top shows -/
abbrev AlW : Type := Bool × List He.FnW
/-- the addresses of the fragment: what the module reaches, the table of modules, the model's statics -/
def asW (g : Addr → Option Obj) (n : Nat) : List Addr := sysModules :: cStatics :: He.asD g n
def obsW (n : Nat) (chk : PySem.W.Frag → Bool) (fn : List DefW) (g : Addr → Option Obj) : AlW := let K := He.frG g (asW g n); (chk K && fn.all fun d => d.ok K, fn.map fun d => fnA K (d.at_.ad K))
def valW (fn : List DefW) : AlW := (true, fn.map DefW.val)
structure SaysW (chk : PySem.W.Frag → Bool) (fn : List DefW) (K : PySem.W.Frag) : Prop where
  chk : chk K = true
  oks : ∀ d ∈ fn, d.ok K = true
  eqs : fn.map (fun d => fnA K (d.at_.ad K)) = fn.map DefW.val
theorem saysW_of {n : Nat} {chk : PySem.W.Frag → Bool} {fn : List DefW} {g : Addr → Option Obj} (e : obsW n chk fn g = valW fn) : SaysW chk fn (He.frG g (asW g n)) := by
  have e1 := congrArg Prod.fst e
  have e2 := congrArg Prod.snd e
  obtain ⟨h1, h2⟩ := He.ba (show (chk (He.frG g (asW g n)) && fn.all fun d => d.ok (He.frG g (asW g n))) = true from e1)
  exact ⟨h1, fun d hd => List.all_eq_true.mp h2 d hd, e2⟩
theorem SaysW.def_ {chk : PySem.W.Frag → Bool} {fn : List DefW} {K : PySem.W.Frag} (c : SaysW chk fn K) (i : Nat) {d : DefW} (h : fn[i]? = some d) :
    ∃ fd, FunD K d.name d.qual (defArgs d.st) (defBody d.st) (defScope d.st) (d.dvs K) (d.kws K) (d.at_.ad K) fd := by
  have z : (fn.map fun d => fnA K (d.at_.ad K))[i]? = (fn.map DefW.val)[i]? := by rw [c.eqs]
  rw [List.getElem?_map, List.getElem?_map, h] at z
  exact DefW.funD (Option.some.inj z) (c.oks d (List.mem_of_getElem? h))
def hookW (n : Nat) (chk : PySem.W.Frag → Bool) (fn : List DefW) : PySem.W.Hook where
  α := AlW
  obs := fun s => obsW n chk fn s.heap.get?
  val := fun _ => valW fn
  says := fun _ h => ∃ K : PySem.W.Frag, K.In h ∧ SaysW chk fn K
  of := fun _ _ e => ⟨_, He.frG_in, saysW_of e⟩
  keeps := fun _ _ _ ⟨K, hK, c⟩ k => ⟨K, PySem.W.Frag.In.keeps hK k, c⟩
theorem obsW_eq {n : Nat} {chk : PySem.W.Frag → Bool} {fn : List DefW} {g : Addr → Option Obj} {s : Shared} (h : ∀ a, g a = s.heap.get? a) : obsW n chk fn g = (hookW n chk fn).obs s := by
  have e : g = s.heap.get? := funext h
  rw [e]
  rfl
end WL
set_option Elab.async false
set_option linter.all false
set_option maxRecDepth 100000
set_option maxHeartbeats 4000000
namespace WL
open PySem PySem.Spec PyProof.Rows L2
/-! ### errors of the program's own whose __init__ says super().__init__("..") and stores its parameters -/
/-- super().__init__("..") as a statement -/
def supSt (msg : Str) (k : Nat) (q : Nat → Pos) : Stmt := .Expr (.Call (.Attribute (.Call (.Name "super" (q 0)) [] [] (q 1)) "__init__" (q 2)) [.Constant (.str msg) k (q 3)] [] (q 4)) (q 5)
/-- self.f = f -/
def fldSt (f : Str) (q : Nat → Pos) : Stmt := .Assign [.Attribute (.Name "self" (q 0)) f (q 1)] (.Name f (q 2)) (q 3)
def scOk (sc : Scope) (fs : List Str) : Bool := decide (sc.names.lookup ("self" : Str) = some .local) && (decide (sc.names.lookup ("super" : Str) = some .globalImplicit) && (decide (sc.names.lookup ("__class__" : Str) = some .free) &&
  ((fs.all fun f => decide (sc.names.lookup f = some .local)) && sc.names.all fun y => decide (y.2 ≠ .cell))))
structure ExT (P : Program) (K : PySem.W.Frag) (mg : Str → Option Value) (fs : List Str) (C fI : Addr) : Prop where
  cls : ∃ nm q N bs bm sn sub ab col dd k0 k1 k2 k3 k5, K.lookup C = some (excClassObj nm q C N bs bm true sn sub ab col dd k0 k1 k2 k3 k5 "ValueError.__new__") ∧ HandSPX.refsVE bm = true
  sup : PySem.W.ks_superIn K C C "__init__" = some (some (.builtin "ValueError.__init__"))
  opq : PySem.W.nsIn K cStatics "thirdparty.any" = some none
  slf : PySem.W.mroIn K C (.ref C) = some true
  vErr : PySem.W.subIn K (.ref C) (.type "ValueError") = some true
  sa : PySem.W.findIn K (.ref C) "__setattr__" = some (some (.builtin "object.__setattr__"))
  no : ∀ f ∈ fs, PySem.W.findIn K (.ref C) f = some none
  iC : PySem.W.findIn K (.ref C) "__init__" = some (some (.ref fI))
  tI : PySem.W.typeIn K (.ref fI) = some (.type "function")
  kC : PySem.W.keepIn K (.ref C) = true
  exC : PySem.W.subIn K (.ref C) (.type "BaseException") = some true
  tyC : PySem.W.typeIn K (.ref C) = some (.type "type")
  free : mg "super" = none
  top : (P.main.scope.names.lookup ("super" : Str)).isSome = false
/-- the __init__ of such a class -/
structure ExI (P : Program) (K : PySem.W.Frag) (fs : List Str) (C fI : Addr) (fd : FuncData) : Prop where
  at_ : ∃ oc od osl, K.lookup fI = some ⟨oc, od, .func fd, osl⟩
  clo : ∃ cc cl cld csl, fd.closure = [(("__class__" : Str), cc)] ∧ K.lookup cc = some ⟨cl, cld, .cell (some (.ref C)), csl⟩
  code : ∃ cda ccl cdd vs ccs file tf, fd.code = .ref cda ∧ K.lookup cda = some ⟨ccl, cdd, .fields vs, ccs⟩ ∧ vs[2]? = some (.str file tf) ∧ ((P.main.file : Str) == file) = true
  rec_ : PySem.W.codeIn K fd.code fd.qualname = true
  bltn : fd.builtins = builtinsNs
  glob : fd.globals = mainGlobals
  first : ∃ ar, (fd.params.posonlyargs ++ fd.params.args).head? = some ar ∧ ar.arg = ("self" : Str)
  kind : fd.scope.kind = .function
  co : fd.scope.isCoroutine = false
  gen : fd.scope.isGenerator = false
  ok : scOk fd.scope fs = true
  body : ∃ msg k q qs, fd.body = .stmts (supSt msg k q :: (fs.zip qs).map fun p => fldSt p.1 p.2) ∧ qs.length = fs.length ∧ ((q 2).endLine == (q 4).line) = true
section
variable {prog : Program} {w : World} {A : Around} {E : Value → Shared → Prop} {K : PySem.W.Frag} {mg : Str → Option Value} {fs : List Str} {C fI : Addr} {fd : FuncData} {h : Heap} {g : Array GenState} {d : Drawn} {t : Nat} {os : OsState}
/-- the built-in __init__, bound, called: the object's arguments are laid anew -/
theorem mw_call {u e t0 : Addr} {rest : List Value} {Q : Value → Shared → Prop} (T : ExT prog K mg fs C fI) (X : K.In h) (he : h.get? e = some (HandSPX.excO C t0)) (hu : h.get? u = some (PySem.W.kxs_mw "ValueError.__init__" e)) (hz : rest.length ≤ sizeLine)
    (hq : ∀ h' t1, (∀ b o, b ≠ e → h.get? b = some o → h'.get? b = some o) → h'.get? e = some (HandSPX.excO C t1) → Q .none ⟨h', g, d, t, os⟩) : wpAny (model prog w) A (call (.ref u) rest) Q E ⟨h, g, d, t, os⟩ := by
  obtain ⟨nm, q, N, bs, bm, sn, sub, ab, col, dd, k0, k1, k2, k3, k5, hC, _⟩ := T.cls
  have FB := F.excBase_ValueError
  refine wpAny_call (codeAny_of_tree (show wpAny (model prog w) A.in1 (callAny (.ref u) ⟨rest, []⟩) _ _ ⟨h, g, d, t, os⟩ from ?_))
  have c1 : (Value.type "method-wrapper" == Value.type "method" || Value.type "method-wrapper" == Value.type "builtin_function_or_method" || Value.type "method-wrapper" == Value.type "method-wrapper") = true := by decide
  simp only [callAny]
  refine wpAny_bind (wpAny_load hu ?_)
  simp only [PySem.W.kxs_mw, c1, if_true]
  refine PySem.W.KFB.if_so (by decide) ?_
  refine wpAny_bind (PySem.W.check_bound_init FB.toExcCallFacts (X _ _ hC) he rfl (wpAny_bind (wpAny_pure (wpAny_pure ?_))))
  refine ⟨plainId_quiet FB.init.plain _, codeAny_builtin FB.initEntry ?_⟩
  exact PySem.W.exc_init_tree (cls := .ref C) (t0 := t0) (dv := none) (c2 := .none) (c3 := .none) (b4 := .bool false) he hz fun h' k1 k2 _ => hq h' _ k1 k2
/-- the statement super().__init__("..") in such an __init__ -/
theorem sup_step {L x t0 : Addr} {m mb : Str → Option Value} {bd : List Stmt} {msg : Str} {k : Nat} {q : Nat → Pos} {Q : Flow → Shared → Prop} (T : ExT prog K mg fs C fI) (J : ExI prog K fs C fI fd) (X : K.In h) (G : h.Ns mainGlobals mg) (B : h.Ns builtinsNs mb) (bb : ∀ x : Str, x ≠ "__name__" → mb x = bootBuiltins x)
    (hpos : ((q 2).endLine == (q 4).line) = true) (hn : h.Ns L m) (hv : m "self" = some (.ref x)) (hx : h.get? x = some (HandSPX.excO C t0))
    (hq : ∀ h' t' t1, (∀ b o, b ≠ x → h.get? b = some o → h'.get? b = some o) → h'.get? x = some (HandSPX.excO C t1) → Q .next ⟨h', g, d, t', os⟩) :
    PySem.wpAt (model prog w) A (.func bd (callEnv fd L fI)) (exec (supSt msg k q) (callEnv fd L fI)) Q E ⟨h, g, d, t, os⟩ := by
  obtain ⟨oc, od, osl, lk⟩ := J.at_
  obtain ⟨cc, cl, cld, csl, hclo, hcell⟩ := J.clo
  obtain ⟨cda, ccl, cdd, vs, ccs, file, tf, hcode, hcd, hvs, hfile⟩ := J.code
  obtain ⟨ar, har, hself⟩ := J.first
  obtain ⟨nm, qn, N, bs, bm, sn, sub, ab, col, dd, k0, k1, k2, k3, k5, hC, hbm⟩ := T.cls
  have hok := J.ok
  unfold scOk at hok
  obtain ⟨o1, hok⟩ := He.ba hok
  obtain ⟨o2, hok⟩ := He.ba hok
  obtain ⟨o3, _⟩ := He.ba hok
  have ks : (callEnv fd L fI).kindOf "super" = some .globalImplicit := of_decide_eq_true o2
  have kc : (callEnv fd L fI).kindOf "__class__" = some .free := of_decide_eq_true o3
  have kself : (callEnv fd L fI).kindOf "self" = some .local := of_decide_eq_true o1
  have kf : (callEnv fd L fI).scope.kind = .function := J.kind
  have hcl : PySem.W.clsIn K C = some { name := nm, bases := bs, mro := .ref C :: bm, ns := N, qualname := qn, hasDict := true, slotNames := sn, subclasses := sub, abstract := ab, collection := col, hasDel := false } := by
    unfold PySem.W.clsIn
    rw [hC]
  have hsup := T.sup
  unfold PySem.W.ks_superIn at hsup
  rw [hcl] at hsup
  have I0 : PySem.W.InstAt h x (HandSPX.excO C t0) C none := ⟨hx, rfl, rfl, trivial⟩
  have hxC : x ≠ C := PySem.W.ks_ne X I0 hcl
  have oneArg : starEach [Expr.Constant (.str msg) k (q 3)] (callEnv fd L fI) = (false, eval (.Constant (.str msg) k (q 3)) (callEnv fd L fI)) :: starEach [] (callEnv fd L fI) := rfl
  refine PySem.ks_wpAt_Expr_any ?_ (by simp [interactive, kf]) rfl
  refine PySem.ks_wpAt_MethodCall (pl := do return (← importBound (.Call (.Name "super" (q 0)) [] [] (q 1)) (callEnv fd L fI)).getD true) ?_ ?he
  case he =>
    have few : methodCallForm ([Expr.Constant (.str msg) k (q 3)].length + ([] : List Keyword).length) (backTo (q 4) (starEach [Expr.Constant (.str msg) k (q 3)] (callEnv fd L fI))) (backToKw (q 4) (keywordEach [] (callEnv fd L fI))) = true := rfl
    show (attributeBase _ _ _ _ >>= fun ov => standAt _ >>= fun _ => methodCall _ _ _ _ _ ov _ _ _) = _
    unfold methodCall
    rw [few]
    unfold methodCallPos calleeOf
    simp only [Bool.not_true, Bool.false_or, hpos, if_true, pure_bind, bind_assoc]
    rfl
  refine PySem.ks_wpAt_super_base ks kc (by decide) rfl (X _ _ lk) rfl har hcode (X _ _ hcd) rfl hvs hfile T.top ?_
  refine PySem.W.ks_loadName_global kf ks (Calls.loadGlobal_builtin (by show Heap.Ns h fd.globals mg; rw [J.glob]; exact G) T.free (by show Heap.Ns h fd.builtins mb; rw [J.bltn]; exact B) ((bb _ (by decide +kernel)).trans PyProof.Rows.Boot.«super») ⟨rfl, ?_⟩)
  refine wpAny_loadName_free kf kc (by show fd.closure.lookup ("__class__" : Str) = some cc; rw [hclo]; rfl) ⟨_, X _ _ hcell, rfl⟩ ?_
  rw [hself]
  refine wpAny_loadName_local kf kself hn hv ?_
  refine PySem.ks_wpAny_isType_cls (X _ _ hC) rfl ⟨rfl, ?_⟩
  refine PySem.ks_wpAny_call_super (X _ _ hC) rfl hx rfl (fun c e => nomatch e) (PySem.W.looks_mroIn X T.slf) ?_
  intro h1 e1 k1'
  have X1 : K.In h1 := X.keeps k1'
  have hx1 := k1' _ _ hx
  have I1 : PySem.W.InstAt h1 x (HandSPX.excO C t0) C none := ⟨hx1, rfl, rfl, trivial⟩
  refine PySem.W.kxs_getMethod PySem.W.kxs_ValueError e1 (PySem.W.looks_opaque X1 T.opq) (l₀ := .ref C :: bm) (fun A Q E s kp z => wpAny_bind ((PySem.W.looks_clsIn X1 hcl) A _ E s kp (wpAny_pure z))) rfl X1 hsup (I1.type.andThen (PySem.W.looks_subIn X1 T.vErr)) hxC (by decide) ?_
  have keep2 : ∀ b o, h1.get? b = some o → (h1.push (PySem.W.kxs_mw "ValueError.__init__" x)).get? b = some o := fun b o z => Heap.get?_push_of_some _ z
  have hu : (h1.push (PySem.W.kxs_mw "ValueError.__init__" x)).get? h1.objs.size = some (PySem.W.kxs_mw "ValueError.__init__" x) := Heap.get?_push_at rfl rfl
  refine PySem.W.kxs_callWith (i := "ValueError.__init__") (x := x) rfl ?_
  refine Calls.evalArgs_plain ?_
  refine Calls.spliced_cons (Calls.Constant_str (x := msg) (k := k) (pos := q 3) (Calls.spliced_nil ⟨hu, ?_⟩))
  refine mw_call T (X1.keeps keep2) (keep2 _ _ hx1) hu (show 1 ≤ sizeLine by decide) ?_
  intro h3 t3 k3' hx3
  refine hq h3 _ t3 (fun b o hb z => k3' b o hb (keep2 _ _ (k1' _ _ z))) hx3

/-- an error with fields: where it stands, its dict -/
structure ExAt (h : Heap) (x C dx : Addr) (mA : Str → Option Value) : Prop where
  ob : ∃ t1 : Addr, h.get? x = some { cls := .ref C, dict := some dx, data := .fields #[.ref t1, .none, .none, .none, .bool false, .none] }
  ns : h.Ns1 dx mA
theorem fld_first {L x t0 : Addr} {m : Str → Option Value} {f : Str} {v : Value} {q : Nat → Pos} {Q : Flow → Shared → Prop} (T : ExT prog K mg fs C fI) (hf : f ∈ fs) (X : K.In h) (kf : fd.scope.kind = .function) (ls : fd.scope.names.lookup ("self" : Str) = some .local) (lf : fd.scope.names.lookup f = some .local) (nd : (f == ("__debug__" : Str)) = false)
    (hn : h.Ns L m) (hv : m "self" = some (.ref x)) (hw : m f = some v) (hx : h.get? x = some (HandSPX.excO C t0))
    (hq : ∀ h' t' dx, (∀ b o, b ≠ x → h.get? b = some o → h'.get? b = some o) → h.objs.size ≤ dx → dx ≠ x → ExAt h' x C dx (fun y => if y = f then some v else none) → Q .next ⟨h', g, d, t', os⟩) :
    wpAny (model prog w) A (exec (fldSt f q) (callEnv fd L fI)) Q E ⟨h, g, d, t, os⟩ := by
  obtain ⟨nm, qn, N, bs, bm, sn, sub, ab, col, dd, k0, k1, k2, k3, k5, hC, hbm⟩ := T.cls
  have hcl : PySem.W.clsIn K C = some { name := nm, bases := bs, mro := .ref C :: bm, ns := N, qualname := qn, hasDict := true, slotNames := sn, subclasses := sub, abstract := ab, collection := col, hasDel := false } := by
    unfold PySem.W.clsIn
    rw [hC]
  refine plainObj_wpAny_Assign_Attribute (wpAny_Name (wpAny_loadName_local kf lf hn hw ?_) nd)
  refine wpAny_Name (wpAny_loadName_local kf ls hn hv ?_)
  refine PySem.W.set_plain X (ox := HandSPX.excO C t0) (od := none) ⟨hx, rfl, rfl, trivial⟩ T.sa ?_
  refine HandSPX.exc_osa X hx hcl (show HandSPX.refsVE (.ref C :: bm) = true from hbm) rfl (T.no f hf) ?_
  intro h' t' dx k dn dne hx' hn'
  exact hq h' t' dx k dn dne ⟨⟨t0, hx'⟩, hn'⟩
theorem fld_next {L x dx : Addr} {m m0 : Str → Option Value} {f : Str} {v : Value} {nl : List Str} {q : Nat → Pos} {Q : Flow → Shared → Prop} (T : ExT prog K mg fs C fI) (hf : f ∈ fs) (X : K.In h) (kf : fd.scope.kind = .function) (ls : fd.scope.names.lookup ("self" : Str) = some .local) (lf : fd.scope.names.lookup f = some .local) (nd : (f == ("__debug__" : Str)) = false)
    (hn : h.Ns L m) (hv : m "self" = some (.ref x)) (hw : m f = some v) (hx : ExAt h x C dx m0) (hwi : Within m0 nl) (hl : nl.length ≤ 1000)
    (hq : ∀ h' t', (∀ b o, b ≠ dx → h.get? b = some o → h'.get? b = some o) → ExAt h' x C dx (fun y => if y = f then some v else m0 y) → Q .next ⟨h', g, d, t', os⟩) :
    wpAny (model prog w) A (exec (fldSt f q) (callEnv fd L fI)) Q E ⟨h, g, d, t, os⟩ := by
  obtain ⟨nm, qn, N, bs, bm, sn, sub, ab, col, dd, k0, k1, k2, k3, k5, hC, hbm⟩ := T.cls
  have hcl : PySem.W.clsIn K C = some { name := nm, bases := bs, mro := .ref C :: bm, ns := N, qualname := qn, hasDict := true, slotNames := sn, subclasses := sub, abstract := ab, collection := col, hasDel := false } := by
    unfold PySem.W.clsIn
    rw [hC]
  obtain ⟨⟨t1, ho⟩, hns⟩ := hx
  obtain ⟨oD, es, ep, hoD, r1, r2⟩ := id hns
  have dxx : dx ≠ x := fun z => by
    rw [z, ho] at hoD
    cases hoD
    cases r1
  refine plainObj_wpAny_Assign_Attribute (wpAny_Name (wpAny_loadName_local kf lf hn hw ?_) nd)
  refine wpAny_Name (wpAny_loadName_local kf ls hn hv ?_)
  refine PySem.W.set_plain X (ox := { cls := .ref C, dict := some dx, data := .fields #[.ref t1, .none, .none, .none, .bool false, .none] }) (od := some oD) ⟨ho, rfl, rfl, hoD⟩ T.sa ?_
  refine OEX.osa_old X ho hns hwi hl hcl (show HandSPX.refsVE (.ref C :: bm) = true from hbm) rfl (T.no f hf) ?_
  intro h' t' k hn'
  exact hq h' t' k ⟨⟨t1, k x _ (Ne.symm dxx) ho⟩, hn'⟩
theorem look2 {f : Str} {a b : Value} (ns : f ≠ ("self" : Str)) : ([(("self" : Str), a), (f, b)].reverse.lookup ("self" : Str) = some a) ∧ ([(("self" : Str), a), (f, b)].reverse.lookup f = some b) := by
  have e1 : (("self" : Str) == f) = false := beq_eq_false_iff_ne.mpr ns.symm
  constructor
  · show List.lookup ("self" : Str) [(f, b), (("self" : Str), a)] = some a
    rw [List.lookup_cons, e1]
    simp [List.lookup]
  · show List.lookup f [(f, b), (("self" : Str), a)] = some b
    rw [List.lookup_cons, beq_self_eq_true]
/-- the names of one, of two fields -/
def exMap : List Str → List Value → Str → Option Value
  | f :: fs, v :: vs, y => match exMap fs vs y with
    | some u => some u
    | none => if y = f then some v else none
  | _, _, _ => none
theorem ex_init {x t0 : Addr} {v1 : Value} {f1 : Str} {mb : Str → Option Value} {R : Result → Shared → Prop} (T : ExT prog K mg [f1] C fI) (J : ExI prog K [f1] C fI fd) (X : K.In h) (G : h.Ns mainGlobals mg) (B : h.Ns builtinsNs mb) (bb : ∀ x : Str, x ≠ "__name__" → mb x = bootBuiltins x)
    (lim : h.NoLimit) (room : A.depth < recursionLimit) (hx : h.get? x = some (HandSPX.excO C t0)) (hxK : K.lookup x = none) (nd : (f1 == ("__debug__" : Str)) = false) (ns : f1 ≠ ("self" : Str)) (hb : ∀ s : Shared, K.In s.heap → BindsTo s fd ⟨[.ref x, v1], []⟩ [("self", .ref x), (f1, v1)])
    (hq : ∀ h' t' dx, (∀ b o, b ≠ x → h.get? b = some o → h'.get? b = some o) → h.objs.size ≤ dx → dx ≠ x → ExAt h' x C dx (fun y => if y = f1 then some v1 else none) → R (.ok (.ret .none)) ⟨h', g, d, t', os⟩) :
    codeAny (model prog w) A (.call (.ref fI) ⟨[.ref x, v1], []⟩) R ⟨h, g, d, t, os⟩ := by
  obtain ⟨oc, od, osl, lk⟩ := J.at_
  obtain ⟨msg, k, q, qs, hbody, hlen, hpos⟩ := J.body
  have hok := J.ok
  unfold scOk at hok
  obtain ⟨o1, hok⟩ := He.ba hok
  obtain ⟨_, hok⟩ := He.ba hok
  obtain ⟨_, hok⟩ := He.ba hok
  obtain ⟨o4, o5⟩ := He.ba hok
  have ls : fd.scope.names.lookup ("self" : Str) = some .local := of_decide_eq_true o1
  have lf : fd.scope.names.lookup f1 = some .local := of_decide_eq_true (List.all_eq_true.mp o4 f1 List.mem_cons_self)
  match qs, hlen with
  | [q1], _ =>
    refine ks_codeAny_call_defAt (binds := [("self", .ref x), (f1, v1)]) room (X _ _ lk) rfl lim (PySem.W.codeRec_of X J.rec_) hbody (hb _ X) (fun y hy => of_decide_eq_true (List.all_eq_true.mp o5 y hy)) (fun y hy => ?_) ?_ J.co J.gen J.kind
    · rcases List.mem_cons.mp hy with e | hy
      · rw [e]; exact ls
      · rw [List.mem_singleton.mp hy]; exact lf
    · intro h0 hn0 k0
      have Lx : h.objs.size ≠ x := Nat.ne_of_gt (Heap.lt_size hx)
      refine ks_wpAt_execs_cons (sup_step T J (X.keeps k0) (G.keeps k0) (B.keeps k0) bb hpos hn0 (look2 ns).1 (k0 _ _ hx) ?_)
      intro h1 t1 tt k1 hx1
      have k1K : ∀ b o, K.lookup b = some o → b ≠ x := fun b o e z => by rw [z, hxK] at e; cases e
      have X1 : K.In h1 := fun b o e => k1 b o (k1K b o e) (k0 _ _ (X b o e))
      obtain ⟨oL, es, ep, hoL, r1, r2⟩ := hn0
      have hn1 : h1.Ns h.objs.size _ := ⟨oL, es, ep, k1 _ _ Lx hoL, r1, r2⟩
      refine wpAt_of_wpAny (wpAny_execs_cons (fld_first T List.mem_cons_self X1 J.kind ls lf nd hn1 (look2 ns).1 (look2 ns).2 hx1 ?_))
      intro h2 t2 dx k2 dn dne ex
      have hsz : h.objs.size ≤ h1.objs.size := Nat.le_of_lt (Heap.lt_size (k1 _ _ Lx hoL))
      exact wpAny_execs_nil (hq h2 t2 dx (fun b o hb e => k2 b o hb (k1 b o hb (k0 b o e))) (Nat.le_trans hsz dn) dne ex)
end
end WL
set_option Elab.async false
set_option linter.all false
set_option maxRecDepth 100000
set_option maxHeartbeats 4000000
namespace WL
open PySem PySem.Spec PyProof.Rows L2
/-! ### raise X(e), X such a class of one field -/
section
variable {X : Cx} {f : Str} {C fI : Addr} {fd : FuncData}
def tMkEx (C : Addr) (f : Str) (ta : TA) : L2.St → Hp → XK → Prop := fun σ H Q => ta σ H fun vs H1 => ∃ v, vs = [v] ∧ ∀ d, H1 d = none → Q (.ref C) (some d) (upd H1 d (.xd [(f, v)]))
theorem relO_one {f : Str} {v : V} {u : Value} (r : RelV v u) (y : Str) : RelO ([(f, v)].lookup y) (if y = f then some u else none) := by
  rw [lookup_put]
  by_cases e : y = f
  · rw [if_pos e, if_pos e]
    exact r
  · rw [if_neg e, if_neg e]
    exact True.intro
theorem pmk_ex {x : Str} {a : Expr} {ta : TA} {p pos : Pos} {k : Nat} (T : ExT X.prog X.K X.mg [f] C fI) (J : ExI X.prog X.K [f] C fI fd) (hr : Room k X.A) (gC : X.mg x = some (.ref C)) (nd : (f == ("__debug__" : Str)) = false) (ns : f ≠ ("self" : Str))
    (hb : ∀ (s : Shared) (u v : Value), X.K.In s.heap → BindsTo s fd ⟨[u, v], []⟩ [(("self" : Str), u), (f, v)]) (ha : PA X [a] ta) (hg : Gl X x := by rfl) (hd : (x == ("__debug__" : Str)) = false := by decide)
    (h1 : starEach (a :: []) X.env = (false, eval a X.env) :: starEach [] X.env := by rfl) (h2 : (backTo pos (starEach [] X.env)).any (·.1) = false := by rfl) :
    PMk X (.Call (.Name x p) [a] [] pos) (tMkEx C f ta) := by
  intro pins s σ H Q I h
  refine wpAny_Call_Name_kw (ld_glob I hg gC ?_ hd)
  refine PySem.W.callWith_K (h₀ := X.base) I.ok.mod.kin T.kC (thn (ha.run pos pins s σ H _ I h) ?_) h1 h2
  rintro us s1 ⟨vs, H1, I1, r1, v, ev, q1⟩
  subst ev
  refine ⟨I1.kIn, ?_⟩
  obtain ⟨u, rfl, ru⟩ := Vals.one r1
  obtain ⟨nm, qn, N, bs, bm, sn, sub, ab, col, dd, k0, k1, k2, k3, k5, hC, hbm⟩ := T.cls
  have lim := I1.nolimit
  have glo := I1.ok.mod.glob.keeps I1.bk
  obtain ⟨mb, bl, bb⟩ := I1.ok.mod.blt
  have bl' := bl.keeps I1.bk
  have XK := I1.kIn
  have fresh : ∀ b : Addr, s1.heap.objs.size ≤ b → H1 b = none := fun b hb => I1.hok.fresh hb
  obtain ⟨hp, g, dr, tk, os⟩ := s1
  show wpAny _ _ (call (.ref C) [u]) _ _ _
  have up : ∀ b o, hp.get? b = some o → ((hp.push (PySem.W.kdv_tup [u])).push (HandSPX.excO C hp.objs.size)).get? b = some o := fun b o e => Heap.get?_push_of_some _ (Heap.get?_push_of_some _ e)
  have at1 : ((hp.push (PySem.W.kdv_tup [u])).push (HandSPX.excO C hp.objs.size)).get? (hp.objs.size + 1) = some (HandSPX.excO C hp.objs.size) := by heap_get
  have nK : X.K.lookup (hp.objs.size + 1) = none := by
    cases e : X.K.lookup (hp.objs.size + 1) with
    | none => rfl
    | some o => exact absurd (Nat.lt_of_succ_lt (Heap.lt_size (XK _ _ e))) (Nat.lt_irrefl _)
  refine wpAny_call (HandSPX.call_own F.excBase_ValueError (fun Y => HandSPX.refsVE_contains Y bm hbm) (XK _ _ hC) (PySem.W.looks_findIn XK T.iC) (fun self => PySem.W.bind_fn XK self T.tI) (show 1 ≤ sizeLine by decide) ?_)
  refine ex_init T J (XK.keeps up) (glo.keeps up) (bl'.keeps up) bb (lim.keeps up) ?_ at1 nK nd ns (fun s hs => hb s _ _ hs) ?_
  · have := hr.dp
    rw [make_depth]
    omega
  intro h' t' dx kp dn dne ex
  refine ⟨rfl, ?_⟩
  show MkP X pins σ Q (.ref (hp.objs.size + 1)) _
  obtain ⟨⟨t1, he⟩, hns⟩ := ex
  obtain ⟨G', g1, g2⟩ := restrict h' fun b => decide (b ≠ hp.objs.size + 1)
  have gk : ∀ b, b ≠ hp.objs.size + 1 → G'.get? b = h'.get? b := fun b hb => g1 b (decide_eq_true hb)
  have ge : G'.get? (hp.objs.size + 1) = none := g2 _ (by simp)
  have old : ∀ b o, hp.get? b = some o → G'.get? b = some o := fun b o e => by
    have nb : b ≠ hp.objs.size + 1 := Nat.ne_of_lt (Nat.lt_succ_of_lt (Heap.lt_size e))
    rw [gk b nb]
    exact kp b o nb (up b o e)
  have dsz : hp.objs.size ≤ dx := by
    have e : hp.objs.size + 1 + 1 ≤ dx := by
      have z := dn
      rw [Heap.size_push, Heap.size_push] at z
      exact z
    exact Nat.le_trans (Nat.le_trans (Nat.le_succ _) (Nat.le_succ _)) e
  have ob : ObjOk X.prog X.w (upd H1 dx (.xd [(f, v)])) G' dx (.xd [(f, v)]) := ⟨_, hns.at (fun o e => (gk dx dne).trans e), fun y => relO_one ru y⟩
  have Jv : Inv X pins σ (upd H1 dx (.xd [(f, v)])) ⟨G', g, dr, t', os⟩ := I1.laid (t' := t') old dsz ob
  refine ⟨hp.objs.size + 1, _, _, ⟨G', g, dr, t', os⟩, _, .ref C, some dx, rfl, Jv, fun b o e => ?_, ge, he, ⟨rfl, rfl⟩, rfl, rfl, ?_, rfl, Jv.bare, raises_own T.exC T.tyC, q1 dx (fresh dx dsz)⟩
  · by_cases hb : b = hp.objs.size + 1
    · have e' : G'.get? b = some o := e
      rw [hb, ge] at e'
      cases e'
    · exact (gk b hb).symm.trans e
  · rw [upd_ne (Ne.symm dne)]
    exact fresh _ (Nat.le_succ _)
end
/-! ### try: body except X as n: suite, the error kept behind it -/
/-- an error that is held: its class, its own dict -/
def held (a : Addr) (cls : Value) (d : Option Addr) : Heap → Prop := fun h => ∃ (o : Obj) (vs : Array Value), h.get? a = some o ∧ o.cls = cls ∧ o.dict = d ∧ o.data = .fields vs
def Err (a : Addr) (cls : Value) (d : Option Addr) : HO := .ext (held a cls d)
theorem err_ok {P : Program} {w : World} {H : Hp} {h : Heap} {a : Addr} {cls : Value} {d : Option Addr} {o : Obj} {vs : Array Value} (e : h.get? a = some o) (z : Zc cls d o) (f : o.data = .fields vs) : ObjOk P w H h a (Err a cls d) :=
  ⟨⟨o, vs, e, z.1, z.2, f⟩, ⟨o, e⟩, fun _ _ ⟨o, vs, e, r⟩ k => ⟨o, vs, k _ e, r⟩⟩
theorem err_at {P : Program} {w : World} {H : Hp} {h : Heap} {a : Addr} {cls : Value} {d : Option Addr} (hok : HOk P w H h) (e : H a = some (Err a cls d)) : held a cls d h := by
  have x : ObjOk P w H h a (.ext (held a cls d)) := hok a _ e
  exact x.1
section
variable {X : Cx} {pins : List (Addr × Obj)} {σ : L2.St} {H : Hp} {s : Shared}
/-- an error that was new and is pinned may be tracked -/
theorem inv_keepErr {a : Addr} {oe : Obj} {vs : Array Value} {cls : Value} {d : Option Addr} (I : Inv X ((a, oe) :: pins) σ H s) (z : Zc cls d oe) (f : oe.data = .fields vs) (h0 : X.s_0.heap.get? a = none) (hp : ∀ p ∈ X.pn ++ pins, p.1 ≠ a) :
    Inv X pins σ (upd H a (Err a cls d)) s := by
  obtain ⟨e, n, nL, nF, nc⟩ := I.pin (a, oe) (List.mem_append_right _ List.mem_cons_self)
  have ne0 : ∀ {b : Addr} {o : Obj}, X.s_0.heap.get? b = some o → b ≠ a := fun {b o} q z => by rw [z, h0] at q; cases q
  have nes : ∀ {b : Addr} {o : HO}, H b = some o → b ≠ a := fun {b o} q => ne_of_none q n
  refine ⟨I.ok, I.os, I.bare, ⟨I.base.keep, I.base.slot, fun b o q n' hx => ?_, I.base.there, fun b xs q => ?_, fun b o u q => ?_, fun b ps q => ?_⟩, I.loc, I.cell, ?_, fun x c hc => ?_, fun p hp' => ?_, fun b u q => ?_, I.len⟩
  · rw [upd_ne (ne0 q)]
    exact I.base.free b o q n' hx
  · have z := I.base.tups b xs q
    rw [upd_ne (nes z)]
    exact z
  · have z := I.base.frzs b o u q
    rw [upd_ne (nes z)]
    exact z
  · obtain ⟨m, z⟩ := I.base.tbls b ps q
    exact ⟨m, by rw [upd_ne (nes z)]; exact z⟩
  · rw [upd_ne (Ne.symm nL)]
    exact I.free
  · have hca : c ≠ a := fun z => by
      obtain ⟨v, o, q1, q2⟩ := I.cell x c hc
      rw [z, e] at q1
      cases q1
      exact nc v q2
    rw [upd_ne hca]
    exact I.freeC x c hc
  · have hm : p ∈ X.pn ++ ((a, oe) :: pins) := (List.mem_append.mp hp').elim (fun z => List.mem_append_left _ z) fun z => List.mem_append_right _ (List.mem_cons_of_mem _ z)
    obtain ⟨q1, q2, q3⟩ := I.pin p hm
    exact ⟨q1, by rw [upd_ne (hp p hp')]; exact q2, q3⟩
  · by_cases hb : b = a
    · subst hb
      rw [upd_same] at q
      cases q
      exact err_ok e z f
    · rw [upd_ne hb] at q
      exact (I.hok b u q).stay (fun _ _ _ y => y) (fun c y => by rw [upd_ne (nes y)]; exact y) fun c xs y => by rw [upd_ne (nes y)]; exact y
end
/-- what the clause wishes: it takes every error of the body; behind the suite the error is tracked -/
def wKept (K : PySem.W.Frag) (c : Value) (i : Nat) (ts : Addr → Value → Option Addr → TS) (D : Ends) : WX := fun cls d σ H =>
  PySem.W.exmOne K cls c = some true ∧ ∀ a, H a = none → ts a cls d { nx := fun σ' H' => H' a = none → D.nx (σ'.set i none) (upd H' a (Err a cls d)), rt := fun _ _ => False } (σ.set i (some (.ref a))) H
section
variable {X : Cx} {x n : Str} {c : Value} {i : Nat} {body suite : List Stmt} {np pos pos' : Pos} {tb : WX → TS} {ts : Addr → Value → Option Addr → TS} {b0 : Stmt}
theorem ps_try_kept (hs : X.stack = X.env :: X.outer) (hf : X.env.frame = some X.env.locals) (hex : X.ex = []) (hN : X.N.Nodup) (hi : X.N[i]? = some n) (hln : X.env.kindOf n = some .local) (hc : Names X x c)
    (hb : ∀ (W : WX) (pn : List (Addr × Obj)) (xe : Value → Shared → Prop), Takes (X.tr pn xe) W → PassesOwn (model X.prog X.w) X.A X.env xe → PSs (X.tr pn xe) body (tb W))
    (hsu : ∀ (a : Addr) (oe : Obj) (cls : Value) (d : Option Addr) (pn : List (Addr × Obj)), Zc cls d oe → (∃ vs, oe.data = .fields vs) → PSs (X.suite a ((a, oe) :: pn)) (b0 :: suite) (ts a cls d)) :
    PS X (.Try body [.ExceptHandler (some (.Name x np)) (some n) (b0 :: suite) pos'] [] [] pos) (fun D σ H => tb (wKept X.K c i ts D) D σ H) := by
  constructor
  intro pins s σ H D I h
  have ok := I.ok
  have fr : X.A.frames = some (X.env :: X.outer) := ok.frames.trans (congrArg some hs)
  refine wpAny_Try_except (wpAny_mono ((hb (wKept X.K c i ts D) (X.pn ++ pins) _ ?_ PassesOwn.looking).run [] s σ H D (I.toTry _) h) ?_ fun _ _ z => z)
  rotate_left
  · -- nothing was raised
    intro f s1 hsp
    match f, hsp with
    | .next, ⟨_, _, J, q⟩ => exact wpAny_execs_nil ⟨_, _, J.ofTry ok, q⟩
    | .brk, ⟨_, _, J, q⟩ => exact ⟨_, _, J.ofTry ok, q⟩
    | .cont, ⟨_, _, J, q⟩ => exact ⟨_, _, J.ofTry ok, q⟩
    | .ret _, ⟨_, _, _, J, r, q⟩ => exact ⟨_, _, _, J.ofTry ok, r, q⟩
  -- an error came
  rintro u s' ⟨a, B, sI, pl, σ', H', cls, d, rfl, J', nb, up, sky, na, os, ag, hm, hyes⟩
  have J : Inv X pins σ' H' sI := J'.ofTry ok
  rw [show (X.tr (X.pn ++ pins) _).stack = X.env :: X.outer from hs] at sky
  refine Sky.land Zc.steady fr hf sky ?_
  intro h3 fl3 up3
  have J3 : Inv X pins σ' H' { s' with heap := h3 } := J.landed nb fl3.1 (up.trans up3) os ag
  obtain ⟨o3, v3, e3, z3, d3⟩ := fl3.there
  have out : a ∉ frs (X.env :: X.outer) := fun hm => by
    obtain ⟨_, o', e', hnf⟩ := fl3.2.2.1.mem hm
    rw [e3] at e'
    cases e'
    exact hnf _ d3
  have nL : a ≠ X.env.locals := fun z => out (List.mem_filterMap.mpr ⟨X.env, List.mem_cons_self, by rw [hf, z]⟩)
  have nF : a ∉ X.fs := fun hm => by
    obtain ⟨en, he, q⟩ := List.mem_filterMap.mp hm
    exact out (List.mem_filterMap.mpr ⟨en, List.mem_cons_of_mem _ he, q⟩)
  -- it is new
  have newI : sI.heap.get? a = none := by
    cases q : sI.heap.get? a with
    | none => rfl
    | some o =>
      have z := nb a o q (by rw [show (X.tr (X.pn ++ pins) _).stack = X.env :: X.outer from hs]; exact out)
      rw [fl3.2.1] at z
      cases z
  have new0 : X.s_0.heap.get? a = none := by
    cases q : X.s_0.heap.get? a with
    | none => rfl
    | some o =>
      obtain ⟨o', z⟩ := J.base.there a o q (by rw [hex]; exact List.not_mem_nil)
      rw [newI] at z
      cases z
  have newP : ∀ p ∈ X.pn ++ pins, p.1 ≠ a := fun p hp z => by
    have y := (J.pin p hp).1
    rw [z, newI] at y
    cases y
  have S3 := J3.suite e3 d3 na nL nF
  refine wpAny_handleBy_cons (codeAny_handlers_test ?_) (fun q => nomatch q)
  have look : PySem.W.Looks (model X.prog X.w) h3 (typeOf (.ref a)) cls := fun A Q E s k q => wpAny_typeOf_ref (k _ _ e3) (by rw [z3.1]; exact q)
  have lm := PySem.W.exm_one (M := model X.prog X.w) J3.kIn look hm
  have tst : ∀ {Q : Value → Shared → Prop} {E : Value → Shared → Prop}, Q c { s' with heap := h3 } → wpAny (model X.prog X.w) (X.A.mark (some (.ref a))) (eval (.Name x np) X.env) Q E { s' with heap := h3 } := by
    intro Q E q
    obtain ⟨hg, hdbg, hm | ⟨hm, hv, hnn⟩⟩ := hc
    · exact ld_glob (X := X.suite a ((a, o3) :: (X.pn ++ pins))) S3 hg hm q hdbg
    · exact ld_blt (X := X.suite a ((a, o3) :: (X.pn ++ pins))) S3 hg hm hv q hnn hdbg
  refine tst (lm.here (codeAny_handlers_suite_as (HandSPX.lands_againZ fl3 ?_)))
  intro h4 fl4 up4
  have J4 : Inv X pins σ' H' { s' with heap := h4 } := J.landed nb fl4.1 ((up.trans up3).trans up4) os ag
  obtain ⟨o4, v4, e4, z4, d4⟩ := fl4.there
  refine store_ok (X := X.suite a ((a, o4) :: (X.pn ++ pins))) (v := .ref a) (J4.suite e4 d4 na nL nF) hN hi (.inl hln) rfl ?_ (.inr hln)
  intro s5 S5
  refine wpAny_mono ((hsu a o4 cls d (X.pn ++ pins) z4 ⟨_, d4⟩).run [] s5 _ H' _ S5 (hyes a na)) ?_ fun _ _ z => z.elim
  intro f s6 hsp
  match f, hsp with
  | .brk, ⟨_, _, _, q⟩ => exact q.elim
  | .cont, ⟨_, _, _, q⟩ => exact q.elim
  | .ret _, ⟨_, _, _, _, _, q⟩ => exact q.elim
  | .next, ⟨σ6, H6, S6, q6⟩ =>
    have P6 : Inv X ((a, o4) :: pins) σ6 H6 s6 :=
      ⟨ok, S6.os, S6.bare, S6.base, S6.loc, S6.cell, S6.free, S6.freeC, fun p hp => S6.pin p (by
        refine List.mem_append_left _ ?_
        rcases List.mem_append.mp hp with hp | hp
        · exact List.mem_cons_of_mem _ (List.mem_append_left _ hp)
        · rcases List.mem_cons.mp hp with hp | hp
          · rw [hp]; exact List.mem_cons_self
          · exact List.mem_cons_of_mem _ (List.mem_append_right _ hp)), S6.hok, S6.len⟩
    have n6 : H6 a = none := (S6.pin (a, o4) (List.mem_append_left _ List.mem_cons_self)).2.1
    refine gone_ok P6 hN hi hln ?_
    intro s7 J7
    exact ⟨_, _, inv_keepErr J7 z4 d4 new0 newP, q6 n6⟩
end
/-- error.f, error a held one -/
def tErrF (C : Addr) (f : Str) (te : TE) : TE := fun σ H Q => te σ H fun x H1 => ∃ a d fs v, x = .ref a ∧ H1 a = some (Err a (.ref C) (some d)) ∧ H1 d = some (.xd fs) ∧ fs.lookup f = some v ∧ Q v H1
theorem pe_errf {X : Cx} {C : Addr} {e : Expr} {te : TE} {pos : Pos} {f : Str} (T : XfC X.K C) (no : PySem.W.findIn X.K (.ref C) f = some none) (he : PE X e te) (hb : attributeBase e f X.env (eval e X.env) = eval e X.env := by rfl) :
    PE X (.Attribute e f pos) (tErrF C f te) := by
  constructor
  intro pins s σ H Q I h
  refine attr_of hb (thn (he.run pins s σ H _ I h) ?_)
  rintro u s1 ⟨x, H1, I1, rx, a, d, fs, v, ex, ea, ed, l, q⟩
  subst ex
  cases rx
  obtain ⟨o, vs, eo, oc, od, of⟩ := err_at I1.hok ea
  obtain ⟨mA, hns, hr⟩ := (I1.hok d _ ed : ObjOk X.prog X.w H1 s1.heap d (.xd fs))
  obtain ⟨oD, hoD, hl⟩ := lookIn_ns hns
  obtain ⟨u, hu, ru⟩ := RelO.some_of (v := v) (o := mA f) (by rw [← l]; exact hr f)
  have Ji : PySem.W.InstAt s1.heap a o C (some oD) := ⟨eo, oc, by unfold PySem.W.notCls; rw [of], by rw [od]; exact hoD⟩
  exact HandSPX.exc_get I1.kIn Ji T.ga T.gg T.exC (PySem.W.findObj_own T.hdC no rfl (by rw [hl, hu])) (handed_of ru) ⟨v, H1, I1.tok _, ru, q⟩
end WL
set_option Elab.async false
set_option linter.all false
set_option maxRecDepth 100000
set_option maxHeartbeats 4000000
namespace WL
open PySem PySem.Spec PyProof.Rows L2
/-! ### what kind of thing a value is -/
def Ty (H : Hp) : V → Value → Prop
  | .non, t => t = .type "NoneType"
  | .bl _, t => t = .type "bool"
  | .int _, t => t = .type "int"
  | .str _, t => t = .type "str"
  | .ref p, t => (t = .type "list" ∧ ∃ xs, H p = some (.lst xs)) ∨ (t = .type "tuple" ∧ ∃ xs, H p = some (.tup xs)) ∨ (t = .type "dict" ∧ ∃ kvs, H p = some (.dK kvs)) ∨ ∃ C dx fs, t = .ref C ∧ H p = some (.ins C dx fs)
  | _, _ => False
section
variable {X : Cx} {pins : List (Addr × Obj)} {σ : L2.St} {H : Hp} {s : Shared}
theorem ty_looks {x : V} {u t : Value} (I : Inv X pins σ H s) (r : RelV x u) (ty : Ty H x t) : PySem.W.Looks (model X.prog X.w) s.heap (typeOf u) t := by
  cases x with
  | non =>
    cases r
    cases (show t = .type "NoneType" from ty)
    exact .now
  | bl b =>
    cases r
    cases (show t = .type "bool" from ty)
    exact .now
  | int i =>
    obtain ⟨tk, rfl⟩ := r
    cases (show t = .type "int" from ty)
    exact .now
  | str z =>
    obtain ⟨tk, rfl⟩ := r
    cases (show t = .type "str" from ty)
    exact .now
  | ref p =>
    cases r
    rcases ty with ⟨rfl, xs, h⟩ | ⟨rfl, xs, h⟩ | ⟨rfl, kvs, h⟩ | ⟨C, dx, fs, rfl, h⟩
    · obtain ⟨_, its, n, _, e⟩ := I.hok p _ h
      exact fun A Q E s k q => wpAny_typeOf_ref (k _ _ e) q
    · obtain ⟨_, its, _, ⟨o, e, c, n, d⟩⟩ := I.hok p _ h
      exact fun A Q E s k q => wpAny_typeOf_ref (k _ _ e) (by rw [c]; exact q)
    · obtain ⟨_, _, _, _, o, _, _, e, ex, _⟩ := I.hok p _ h
      exact fun A Q E s k q => wpAny_typeOf_ref (k _ _ e) (by rw [ex.1]; exact q)
    · obtain ⟨_, J, _⟩ := ins_get I.hok h
      obtain ⟨_, J, _⟩ := J.look
      exact J.type
  | byt b => exact (show False from ty).elim
  | flt b => exact (show False from ty).elim
  | ty n => exact (show False from ty).elim
end
/-! ### == and != by a class's own __eq__ -/
section
variable {X : Cx} {C g : Addr} {fd : FuncData} {ps : List Str} {sp : Sp} {k : Nat}
/-- the own __eq__ gives a truth value -/
def rOwnEq (K : PySem.W.Frag) (C : Addr) (sp : Sp) (f : Bool → Bool) : R2 := fun x y H Q => ∃ a dx fs t, x = .ref a ∧ H a = some (.ins C dx fs) ∧ Ty H y t ∧ PySem.W.notFirst K C t = true ∧ sp [x, y] H (fun z H' => ∃ b, z = .bl b ∧ Q (.bl (f b)) H') E0
theorem eq_run {pins : List (Addr × Obj)} {σ : L2.St} {H : Hp} {s : Shared} {A : Around} {a : Addr} {y : V} {u : Value} {Q : VK} {R : Value → Shared → Prop} (F : FnOk X.prog X.w X.K X.mg X.base CX0 k g fd ps sp) (hb : Binds X.K fd ps []) (hr : Room k A) (hf : A.frames = X.A.frames)
    (I : Inv X pins σ H s) (ry : RelV y u) (h : sp [.ref a, y] H Q E0) (hq : ∀ v s', EP X pins σ Q v s' → R v s') : wpAny (model X.prog X.w) A (call (.ref g) [.ref a, u]) R X.xe s := by
  have e1 := I.env0
  have e0 : Env0 X.prog X.w X.K X.mg X.base A X.stack s H := ⟨hf.trans e1.frames, e1.mod, e1.bs, e1.bsz, e1.funs, e1.frf, e1.hok, e1.bare⟩
  have el : 2 = ps.length := F.len _ _ _ _ h
  refine wpAny_call (codeAny_mono (F.run A X.stack s H ⟨[.ref a, u], []⟩ [.ref a, u] [.ref a, y] Q E0 hr e0 (by simpa using hb s [.ref a, u] I.kIn (by simpa using el)) (.cons rfl (.cons ry .nil)) h) ?_)
  intro r s' z
  match r, z with
  | .error _, z => exact False.elim z
  | .ok (.ret v), z => exact hq v s' (I.after z)
  | .ok .next, z => exact False.elim z
  | .ok .brk, z => exact False.elim z
  | .ok .cont, z => exact False.elim z
theorem op_ownEq (F : FnOk X.prog X.w X.K X.mg X.base CX0 k g fd ps sp) (hb : Binds X.K fd ps []) (hr : Room k X.A) (he : PySem.W.findIn X.K (.ref C) "__eq__" = some (some (.ref g))) (hfn : PySem.W.isFn X.K (.ref g) = true) : OpR X (compareOp .Eq) (rOwnEq X.K C sp id) := by
  intro pins s σ H x y v u Q I rx ry h
  obtain ⟨a, dx, fs, t, ex, ea, ty, hn, q⟩ := h
  subst ex
  cases rx
  obtain ⟨_, J, _⟩ := ins_get I.hok ea
  obtain ⟨_, J, _⟩ := J.look
  obtain ⟨m, fr⟩ := I.fr
  refine PySem.W.cmp_K (op := .Eq) hr.units0 fr I.ok.mod.kin J (ty_looks I ry ty) hn he hfn ?_
  refine eq_run F hb hr rfl I ry q ?_
  rintro w s' ⟨z, H', I', rz, b, ez, qz⟩
  subst ez
  cases rz
  exact ⟨.bl b, H', I', rfl, qz⟩
theorem op_ownNe (Fe : FnOk X.prog X.w X.K X.mg X.base CX0 k g fd ps sp) (hb : Binds X.K fd ps []) (hr : Room (k + 1) X.A) (he : PySem.W.findIn X.K (.ref C) "__eq__" = some (some (.ref g))) (hfn : PySem.W.isFn X.K (.ref g) = true)
    (hne : PySem.W.findIn X.K (.ref C) "__ne__" = some (some (.builtin "object.__ne__"))) (hob : PySem.W.subIn X.K (.ref C) (.type "object") = some true) : OpR X (compareOp .NotEq) (rOwnEq X.K C sp not) := by
  intro pins s σ H x y v u Q I rx ry h
  obtain ⟨a, dx, fs, t, ex, ea, ty, hn, q⟩ := h
  subst ex
  cases rx
  obtain ⟨_, J, _⟩ := ins_get I.hok ea
  obtain ⟨_, J, _⟩ := J.look
  have XK := I.kIn
  have hu := hr.units
  -- the built-in's body: the own __eq__, turned
  have body : wpAny (model X.prog X.w) X.A.in1 (Builtin.«object.__ne__» ⟨[.ref a, u], []⟩) (fun fin s' => ∃ b, fin = .done (.ret (.bool b)) ∧ EP X pins σ Q (.bool b) s') X.xe s := by
    unfold Builtin.«object.__ne__»
    refine wpAny_bind (wpAny_pure ?_)
    refine wpAny_bind (wpAny_cRoomFor (by show X.A.units + 1 < cLine; omega) ?_)
    refine wpAny_bind (PySem.W.ifBound_K XK J he hfn (eq_run Fe hb hr.in1 rfl I ry q ?_))
    rintro w s' ⟨z, H', I', rz, b, ez, qz⟩
    subst ez
    cases rz
    show wpAny _ _ (do ret (.bool (!(← truthy (.bool b))))) _ _ _
    refine wpAny_bind (wpAny_truthy_bool (wpAny_pure ⟨!b, rfl, .bl (!b), H', I', rfl, qz⟩))
  have one : wpAny (model X.prog X.w) X.A (tryCompare (.ref a) "__ne__" u) (fun r s' => ∃ w, r = some w ∧ EP X pins σ Q w s') X.xe s := by
    unfold tryCompare
    refine wpAny_bind ?_
    simp only [callSpecialIfBound?, bindSpecialIfBound?]
    refine wpAny_holding (wpAny_bind (wpAny_bind (wpAny_bind (J.type.here ((PySem.W.looks_findIn XK hne).here ?_)))))
    have fin : wpAny (model X.prog X.w) X.A (call (.builtin "object.__ne__") ([.ref a] ++ [u]) >>= fun v => pure (some v)) (fun r s' => wpAny (model X.prog X.w) X.A (match r with | some .notImplemented | none => pure none | some v => pure (some v)) (fun r s' => ∃ w, r = some w ∧ EP X pins σ Q w s') X.xe s') X.xe s := by
      refine wpAny_bind (wpAny_call (codeAny_call_builtin F.cmp_object.ne.plain F.cmpEntry_ne (PySem.W.check_slot F.cmpKind_ne F.cmpSplit_ne (J.type.andThen (PySem.W.looks_subIn XK hob)) (F.cmpArgs_ne _ _) (wpAny_mono body ?_ fun _ _ z => z))))
      rintro fin s' ⟨b, rfl, z⟩
      exact wpAny_pure (wpAny_pure ⟨_, rfl, z⟩)
    have bd : bindSpecial (.builtin "object.__ne__") (.ref a) = pure (.builtin "object.__ne__", [.ref a]) := F.cmp_object.ne.bind _
    refine wpAny_bind (wpAny_askSetting (wpAny_ite ?_))
    split
    · exact wpAny_bind (wpAny_of_eq bd (wpAny_pure fin))
    · exact wpAny_tryCatch (wpAny_bind (wpAny_of_eq bd (wpAny_pure fin)))
  show wpAny _ _ (richCompare .NotEq (.ref a) u) _ _ _
  unfold richCompare
  simp only [oneThing_ref]
  refine wpAny_holding (wpAny_bind (wpAny_cRoomFor (by omega) ?_))
  refine wpAny_bind (J.type.here (wpAny_bind ((ty_looks I ry ty).here ?_)))
  split
  · rename_i c
    have e : PySem.W.subIn X.K t (.ref C) = some false := by
      rcases Bool.or_eq_true_iff.mp hn with e | e
      · rw [beq_iff_eq.mp e] at c
        simp at c
      · exact beq_iff_eq.mp e
    refine wpAny_bind ((PySem.W.looks_subIn XK e).here ?_)
    simp only [Bool.false_eq_true, if_false]
    refine wpAny_bind (wpAny_mono one ?_ fun _ _ z => z)
    rintro r s' ⟨w, rfl, z⟩
    exact wpAny_pure z
  · refine wpAny_bind (wpAny_pure ?_)
    simp only [Bool.false_eq_true, if_false]
    refine wpAny_bind (wpAny_mono one ?_ fun _ _ z => z)
    rintro r s' ⟨w, rfl, z⟩
    exact wpAny_pure z
end
end WL
set_option Elab.async false
set_option linter.all false
set_option maxRecDepth 100000
set_option maxHeartbeats 4000000
namespace WL
open PySem PySem.Spec PyProof.Rows L2
section
variable {X : Cx} {CX : CXT} {k : Nat} {f C : Addr} {fd : FuncData} {ps : List Str} {sp : Sp} {m : Str} {e o : Expr} {es : List Expr} {ta : TE} {t : TA} {pos apos : Pos}
/-- len(o), o of a class with its own __len__ -/
def rLenOwn (C : Addr) (sp : Sp) : List V → Hp → VK → Prop := fun vs H Q => ∃ a dx fs, vs = [.ref a] ∧ H a = some (.ins C dx fs) ∧ sp [.ref a] H (fun z H' => ∃ n : Int, z = .int n ∧ (0 ≤ n ∧ n < 2 ^ 63) ∧ Q (.int n) H') E0
theorem call_lenOwn (Fl : FnOk X.prog X.w X.K X.mg X.base CX0 k f fd ps sp) (hb : Binds X.K fd ps []) (hr : Room (k + 1) X.A) (hl : PySem.W.findIn X.K (.ref C) "__len__" = some (some (.ref f))) (hfn : PySem.W.isFn X.K (.ref f) = true) : CallR X (.builtin "len") (rLenOwn C sp) := by
  intro pins s σ H vs us Q I r h
  obtain ⟨a, dx, fs, e, ea, q⟩ := h
  subst e
  obtain ⟨u, rfl, ru⟩ := Vals.one r
  cases ru
  obtain ⟨_, J, _⟩ := ins_get I.hok ea
  obtain ⟨_, J, _⟩ := J.look
  obtain ⟨m, fr⟩ := I.fr
  have e1 := I.env0
  have e0 : Env0 X.prog X.w X.K X.mg X.base X.A.in1 X.stack s H := e1.in1
  have el : 1 = ps.length := Fl.len _ _ _ _ q
  refine PySem.W.len_K fr I.ok.mod.kin J hl hfn ?_
  refine wpAny_call (codeAny_mono (Fl.run X.A.in1 X.stack s H ⟨[.ref a], []⟩ [.ref a] [.ref a] _ E0 hr.in1 e0 (by simpa using hb s [.ref a] I.kIn (by simpa using el)) (.cons rfl .nil) q) ?_)
  intro res s' z
  match res, z with
  | .error _, z => exact False.elim z
  | .ok .next, z => exact False.elim z
  | .ok .brk, z => exact False.elim z
  | .ok .cont, z => exact False.elim z
  | .ok (.ret v), z =>
    obtain ⟨y, H', I', ry, n, ey, hn, qn⟩ := I.after z
    subst ey
    obtain ⟨tk, rfl⟩ := ry
    exact ⟨hn, .int n, H', I'.tok _, ⟨_, rfl⟩, qn⟩
/-- o.m(e, ..) in a try's body: the wish of errors may speak of the slots -/
def tMethS (C : Addr) (m : Str) (sp : Sp) (E : L2.St → XK) (ta : TE) (t : TA) : TE := fun σ H Q => ta σ H fun x H1 => ∃ a dx fs, x = .ref a ∧ H1 a = some (.ins C dx fs) ∧ fs.lookup m = none ∧ t σ H1 fun vs H2 => sp (x :: vs) H2 Q (E σ)
theorem pe_methS {E : L2.St → XK} {pl : Sem Bool} (he : PE X o ta) (c : Cls X.K C) (hm : Meth X.K C m f) (Fm : FnOk X.prog X.w X.K X.mg X.base CX k f fd ps sp) (hr : Room k X.A) (hb : Binds X.K fd ps []) (hx : ∀ σ, PassesAt CX X σ (E σ)) (ha : PA X (e :: es) t)
    (h1 : starEach (e :: es) X.env = (false, eval e X.env) :: starEach es X.env := by rfl) (h2 : (backTo pos (starEach es X.env)).any (·.1) = false := by rfl)
    (ht : eval (.Call (.Attribute o m apos) (e :: es) [] pos) X.env = (do
      let ov ← eval o X.env
      standAt apos.atName
      let (f, first) ← holding [ov] (getMethod ov m pl)
      callWith pos f first (backTo pos (starEach (e :: es) X.env)) (backToKw pos (keywordEach [] X.env))) := by rfl) :
    PE X (.Call (.Attribute o m apos) (e :: es) [] pos) (tMethS C m sp E ta t) := by
  constructor
  intro pins s σ H Q I h
  refine PySem.W.methodCall_KW (pl := pl) (thn (he.run pins s σ H _ I h) ?_) ht
  rintro u s1 ⟨x, H1, I1, rx, a, dx, fs, ex, ea, l, q⟩
  subst ex
  cases rx
  refine getmeth_ok I1 ea c hm l (PySem.W.callWith_K (first := [.ref a]) (h₀ := X.base) I.ok.mod.kin hm.kp (thn (ha.run pos pins s1 σ H1 _ I1 q) ?_) h1 h2)
  rintro us s2 ⟨vs, H2, I2, r, q2⟩
  exact ⟨I2.kIn, run_fnS (us := .ref a :: us) (vs := .ref a :: vs) Fm hr hb (hx σ) I2 (.cons rfl r) q2⟩
/-- o.m(k = v, ..) -/
def tMethK0 (C : Addr) (m : Str) (n : Nat) (sp : Sp) (gV : List V → List V → List V) (E : XK) (ta : TE) (tk : TA) : TE := fun σ H Q => ta σ H fun x H1 => ∃ a dx fs, x = .ref a ∧ H1 a = some (.ins C dx fs) ∧ fs.lookup m = none ∧
  tk σ H1 fun zs H2 => zs.length = n ∧ sp (gV [x] zs) H2 Q E
theorem pe_methK0 {E : XK} {pl : Sem Bool} {kws : List Keyword} {ks : List Str} {tk : TA} {g : List Value → List Value → List Value} {gV : List V → List V → List V} (he : PE X o ta) (c : Cls X.K C) (hm : Meth X.K C m f) (Fm : FnOk X.prog X.w X.K X.mg X.base CX k f fd ps sp) (hr : Room k X.A)
    (hb : KBn X.K fd ps 1 ks g gV) (hx : Passes CX X E) (hkw : PK X kws tk) (hall : (backToKw pos (keywordEach kws X.env)).all (·.1.isSome) = true := by rfl) (hks : (backToKw pos (keywordEach kws X.env)).filterMap (·.1) = ks := by rfl)
    (hpl : ((backTo pos (starEach [] X.env)).any (·.1) || (backToKw pos (keywordEach kws X.env)).any (·.1.isNone)) = false := by rfl)
    (ht : eval (.Call (.Attribute o m apos) [] kws pos) X.env = (do
      let ov ← eval o X.env
      standAt apos.atName
      let (f, first) ← holding [ov] (getMethod ov m pl)
      callWith pos f first (backTo pos (starEach [] X.env)) (backToKw pos (keywordEach kws X.env))) := by rfl) :
    PE X (.Call (.Attribute o m apos) [] kws pos) (tMethK0 C m ks.length sp gV E ta tk) := by
  constructor
  intro pins s σ H Q I h
  refine PySem.W.methodCall_KW (pl := pl) (thn (he.run pins s σ H _ I h) ?_) ht
  rintro u s1 ⟨x, H1, I1, rx, a, dx, fs, ex, ea, l, q⟩
  subst ex
  cases rx
  refine getmeth_ok I1 ea c hm l (PySem.W.callWith_KW0 (first := [.ref a]) (h₀ := X.base) I.ok.mod.kin hm.kp hall (thn (hkw.run pos pins s1 σ H1 _ I1 q) ?_) hpl)
  rintro ws s2 ⟨zs, H2, I2, rz, l2, q2⟩
  refine ⟨I2.kIn, ?_⟩
  rw [hks]
  exact run_fnN (us := [.ref a]) (vs := [.ref a]) Fm hr hb hx I2 (.cons rfl .nil) rz rfl l2 q2
end
/-! ### a new list whose place is not that of the modules' table -/
def tLstS (t : TA) : TE := fun σ H Q => t σ H fun xs H1 => xs.length ≤ sizeLine ∧ ∀ p, H1 p = none → p ≠ sysModules → Q (.ref p) (upd H1 p (.lst xs))
section
variable {X : Cx} {es : List Expr} {t : TA} {pos : Pos}
theorem pe_lstS (h : PA X es t) : PE X (.List es pos) (tLstS t) := by
  constructor
  intro pins s σ H Q I hq
  refine wpAny_List_spliced (thn (h.run pos pins s σ H _ I hq) ?_)
  rintro us s1 ⟨xs, H1, I1, r, z, q⟩
  refine ⟨by rw [← r.length]; exact z, ?_⟩
  have hf : H1 s1.heap.objs.size = none := I1.hok.fresh (Nat.le_refl _)
  exact ⟨.ref s1.heap.objs.size, upd H1 s1.heap.objs.size (.lst xs), I1.laid (t' := s1.toks) (fun b u e => Heap.get?_push_of_some _ e) (Nat.le_refl _) ⟨z, us, 0, r, Heap.get?_push_size _ rfl⟩, rfl, q _ hf (Nat.ne_of_gt I1.big)⟩
end
end WL
set_option Elab.async false
set_option linter.all false
set_option maxRecDepth 100000
set_option maxHeartbeats 4000000
namespace WL
open PySem PySem.Spec PyProof.Rows L2
/-! ### a def of the module, by its name -/
structure Has (P : Program) (w : World) (K : PySem.W.Frag) (mg : Str → Option Value) (base : Heap) (k : Nat) (x : Str) (ps : List Str) (sp : Sp) : Prop where
  ex : ∃ fa fd, mg x = some (.ref fa) ∧ PySem.W.keepIn K (.ref fa) = true ∧ Binds K fd ps [] ∧ FnOk P w K mg base CX0 k fa fd ps sp
structure HasG (P : Program) (w : World) (K : PySem.W.Frag) (mg : Str → Option Value) (base : Heap) (k : Nat) (x : Str) (ps : List Str) (sp : Sp) : Prop where
  ex : ∃ fa fd, mg x = some (.ref fa) ∧ PySem.W.keepIn K (.ref fa) = true ∧ Binds K fd ps [] ∧ GOk P w K mg base k fa fd ps sp
theorem HasG.of {P : Program} {w : World} {K : PySem.W.Frag} {mg : Str → Option Value} {base : Heap} {k : Nat} {x : Str} {ps : List Str} {sp : Sp} (h : Has P w K mg base k x ps sp) : HasG P w K mg base k x ps sp := by
  obtain ⟨fa, fd, h1, h2, h3, h4⟩ := h.ex
  exact ⟨fa, fd, h1, h2, h3, GOk.of h4⟩
section
variable {X : Cx} {k j : Nat} {x : Str} {ps : List Str} {sp : Sp} {e : Expr} {es : List Expr} {t : TA} {p pos : Pos}
theorem pe_has (h : Has X.prog X.w X.K X.mg X.base k x ps sp) (hr : Room j X.A) (hk : k ≤ j) (ha : PA X (e :: es) t) (gl : Gl X x := by rfl) (hdb : (x == ("__debug__" : Str)) = false := by decide)
    (h1 : starEach (e :: es) X.env = (false, eval e X.env) :: starEach es X.env := by rfl) (h2 : (backTo pos (starEach es X.env)).any (·.1) = false := by rfl) : PE X (.Call (.Name x p) (e :: es) [] pos) (tCall sp [] E0 t) := by
  obtain ⟨fa, fd, m, kp, b, F⟩ := h.ex
  exact pe_call F (hr.mono hk) gl m kp b .nil pass0 ha hdb h1 h2
theorem pe_hasG (h : HasG X.prog X.w X.K X.mg X.base k x ps sp) (hg : X.A.guards = some []) (hr : Room j X.A) (hk : k ≤ j) (ha : PA X (e :: es) t) (gl : Gl X x := by rfl) (hdb : (x == ("__debug__" : Str)) = false := by decide)
    (h1 : starEach (e :: es) X.env = (false, eval e X.env) :: starEach es X.env := by rfl) (h2 : (backTo pos (starEach es X.env)).any (·.1) = false := by rfl) : PE X (.Call (.Name x p) (e :: es) [] pos) (tCall sp [] E0 t) := by
  obtain ⟨fa, fd, m, kp, b, F⟩ := h.ex
  exact pe_gcall F hg (hr.mono hk) gl m kp b .nil ha hdb h1 h2
end
/-- the built-ins that the texts use -/
structure Blt (mg : Str → Option Value) : Prop where
  range : mg "range" = none
  len : mg "len" = none
  tuple : mg "tuple" = none
  list : mg "list" = none
  enumerate : mg "enumerate" = none
  zip : mg "zip" = none
  repr : mg "repr" = none
  min : mg "min" = none
  isinstance : mg "isinstance" = none
  int : mg "int" = none
  bool : mg "bool" = none
/-! ### reading, step by step -/
section
variable {σ : L2.St} {H : Hp} {Q : VK} {D : Ends}
theorem g_seq {t u : TS} (h : t { D with nx := u D } σ H) : tSeq t u D σ H := h
theorem g_asgN {te : TE} {i : Nat} (h : te σ H fun x H1 => D.nx (σ.set i (some x)) H1) : tAsg te (gName i) D σ H := h
theorem g_ret {te : TE} (h : te σ H D.rt) : tRet te D σ H := h
theorem g_drop {te : TE} (h : te σ H fun _ H1 => D.nx σ H1) : tDrop te D σ H := h
theorem g_ifS {c : TT} {t u : TS} (h : c σ H fun b H1 => if b = true then t D σ H1 else u D σ H1) : tIfS c t u D σ H := h
theorem g_next (h : D.nx σ H) : tNext D σ H := h
theorem g_var {i : Nat} {v : V} (e : σ[i]? = some (some v)) (h : Q v H) : tVar i σ H Q := ⟨v, e, h⟩
theorem g_c {v : V} (h : Q v H) : tC v σ H Q := h
theorem g_op {r : R2} {ta tb : TE} (h : ta σ H fun x H1 => tb σ H1 fun y H2 => r x y H2 Q) : tOp r ta tb σ H Q := h
theorem g_un {r : V → Hp → VK → Prop} {ta : TE} (h : ta σ H fun x H1 => r x H1 Q) : tUn r ta σ H Q := h
theorem g_rI0 {g : Int → Int → V} {i j : Int} (h : Q (g i j) H) : rI0 g (.int i) (.int j) H Q := ⟨i, j, rfl, rfl, h⟩
theorem g_rI {C : Int → Int → Prop} {g : Int → Int → V} {i j : Int} (c : C i j) (h : Q (g i j) H) : rI C g (.int i) (.int j) H Q := ⟨i, j, rfl, rfl, c, h⟩
theorem g_test {t : TE} {Q : Bool → Hp → Prop} (h : t σ H fun x H' => ∃ k, x = .bl k ∧ Q k H') : tTest t σ H Q := h
theorem g_bl {k : Bool} {P : Bool → Prop} (h : P k) : ∃ k', V.bl k = V.bl k' ∧ P k' := ⟨k, rfl, h⟩
theorem g_nil {Q : List V → Hp → Prop} (h : Q [] H) : tNil σ H Q := h
theorem g_cons {ta : TE} {tr : TA} {Q : List V → Hp → Prop} (h : ta σ H fun x H1 => tr σ H1 fun xs H2 => Q (x :: xs) H2) : tCons ta tr σ H Q := h
theorem g_call {sp : Sp} {t : TA} {E : XK} (h : t σ H fun vs H1 => sp vs H1 Q E) : tCall sp [] E t σ H Q := by
  show t σ H fun vs H1 => sp (vs ++ []) H1 Q E
  simpa using h
theorem g_tup {t : TA} (h : t σ H fun xs H1 => xs.length ≤ sizeLine ∧ ∀ p, H1 p = none → Q (.ref p) (upd H1 p (.tup xs))) : tTup t σ H Q := h
theorem g_lst {t : TA} (h : t σ H fun xs H1 => xs.length ≤ sizeLine ∧ ∀ p, H1 p = none → Q (.ref p) (upd H1 p (.lst xs))) : tLst t σ H Q := h
theorem g_cb {r : List V → Hp → VK → Prop} {t : TA} (h : t σ H fun vs H1 => r vs H1 Q) : tCB r t σ H Q := h
theorem g_if {t : TT} {ta tb : TE} (h : t σ H fun c H1 => if c = true then ta σ H1 Q else tb σ H1 Q) : tIf t ta tb σ H Q := h
theorem g_par {i j : Nat} {ta : TA} (h : ta σ H fun vs H1 => ∃ v w, vs = [v, w] ∧ D.nx ((σ.set i (some v)).set j (some w)) H1) : tPar i j ta D σ H := h
theorem g_two {v w : V} {P : V → V → Prop} (h : P v w) : ∃ v' w', [v, w] = [v', w'] ∧ P v' w' := ⟨v, w, rfl, h⟩
theorem g_isN {y : V} (h : Q (.bl (decide (y = .non))) H) : (V.non = .non ∧ Q (.bl (decide (y = .non))) H) := ⟨rfl, h⟩
end
/-! ### drawn numbers -/
def spMixed : Sp := fun vs H Q _ => ∃ c n : Int, vs = [.int c, .int n] ∧ (0 ≤ c ∧ c < 2 ^ 40) ∧ (0 ≤ n ∧ n < 2 ^ 40) ∧ ∀ r : Int, 0 ≤ r → r < 2 ^ 31 → Q (.int r) H
/-- a list of 64 numbers -/
def Cells (l : List Int) : Prop := l.length = 64 ∧ ∀ c ∈ l, 0 ≤ c ∧ c < 2147483647
def spFolded (K : PySem.W.Frag) : Sp := fun vs H Q _ => ∃ (a : Addr) (ns : List Int), vs = [.ref a] ∧ SqL K H a (ns.map V.int) ∧ ns.length ≤ 63 ∧ ∀ (p : Addr) (l : List Int) (H' : Hp), Cells l → H p = none → H' p = some (.lst (l.map V.int)) → (∀ b, b ≠ p → ∀ o, H b = some o → H' b = some o) → Q (.ref p) H'
/-- the state from which numbers are drawn: at m, its cells at c, its great cells at g, n numbers drawn -/
structure Dr (H : Hp) (m c g : Addr) (n : Int) : Prop where
  dict : H m = some (.dK [(Sum.inr "cells", .ref c), (Sum.inr "great", .ref g), (Sum.inr "spot", .int n)])
  cells : ∃ l, Cells l ∧ H c = some (.lst (l.map V.int))
  great : ∃ l : List Int, l.length ≤ 63 ∧ H g = some (.lst (l.map V.int))
  ne : c ≠ g
  pos : 0 ≤ n
/-- all but m and g is as it was -/
def But (m g : Addr) (H H' : Hp) : Prop := ∀ b o, b ≠ m → b ≠ g → H b = some o → H' b = some o
theorem But.refl {m g : Addr} {H : Hp} : But m g H H := fun _ _ _ _ h => h
theorem But.trans {m g : Addr} {H H1 H2 : Hp} (a : But m g H H1) (b : But m g H1 H2) : But m g H H2 := fun c o h1 h2 h => b c o h1 h2 (a c o h1 h2 h)
theorem But.same {m g : Addr} {H H1 H2 : Hp} (a : But m g H H1) (b : ∀ b o, H1 b = some o → H2 b = some o) : But m g H H2 := fun c o h1 h2 h => b c o (a c o h1 h2 h)
theorem But.of_same {m g : Addr} {H H1 : Hp} (a : ∀ b o, H b = some o → H1 b = some o) : But m g H H1 := fun c o _ _ h => a c o h
/-- what is free afterwards was free -/
def Old (H H' : Hp) : Prop := ∀ b, H' b = none → H b = none
def spDraw : Sp := fun vs H Q _ => ∃ (m c g : Addr) (n top : Int), vs = [.ref m, .int top] ∧ Dr H m c g n ∧ n < 2 ^ 30 ∧ (0 < top ∧ top < 1073741824) ∧
  ∀ (k : Int) (H' : Hp), 0 ≤ k → k < top → Dr H' m c g (n + 1) → But m g H H' → Old H H' → Q (.int k) H'
end WL
set_option Elab.async false
set_option linter.all false
set_option maxRecDepth 100000
set_option maxHeartbeats 4000000
namespace WL
open PySem PySem.Spec PyProof.Rows L2
/-! ### tuples stay what they are -/
def Tk (H H' : Hp) : Prop := ∀ b xs, H b = some (.tup xs) → H' b = some (.tup xs)
theorem Tk.refl {H : Hp} : Tk H H := fun _ _ h => h
theorem Tk.trans {H H1 H2 : Hp} (a : Tk H H1) (b : Tk H1 H2) : Tk H H2 := fun c o h => b c o (a c o h)
theorem Tk.new {H : Hp} {p : Addr} {o : HO} (n : H p = none) : Tk H (upd H p o) := fun b xs h => by
  unfold upd
  by_cases e : b = p
  · subst e; rw [n] at h; exact absurd h (by simp)
  · simpa [e] using h
theorem Tk.same {H H' : Hp} (a : ∀ b o, H b = some o → H' b = some o) : Tk H H' := fun b xs h => a b _ h
theorem Tk.upd {H : Hp} {p : Addr} {o : HO} {u : HO} (q : H p = some u) (n : ∀ xs, u ≠ .tup xs) : Tk H (upd H p o) := fun b xs h => by
  unfold L2.upd
  by_cases e : b = p
  · subst e; rw [q] at h; exact absurd (Option.some.inj h) (n xs)
  · simpa [e] using h
mutual
/-- data of tuples and plain values -/
inductive Fz (H : Hp) : V → PyData → Prop
  | non : Fz H .non .none
  | bl (b : Bool) : Fz H (.bl b) (.bool b)
  | int (i : Int) : Fz H (.int i) (.int i)
  | str (x : Str) : Fz H (.str x) (.str x)
  | tup {a : Addr} {xs : List V} {ds : List PyData} : H a = some (.tup xs) → Fzs H xs ds → Fz H (.ref a) (.tuple ds)
inductive Fzs (H : Hp) : List V → List PyData → Prop
  | nil : Fzs H [] []
  | cons {v : V} {vs : List V} {d : PyData} {ds : List PyData} : Fz H v d → Fzs H vs ds → Fzs H (v :: vs) (d :: ds)
end
section
variable {H H' : Hp}
mutual
theorem Fz.tk (k : Tk H H') : ∀ {v : V} {d : PyData}, Fz H v d → Fz H' v d
  | _, _, .non => .non
  | _, _, .bl b => .bl b
  | _, _, .int i => .int i
  | _, _, .str x => .str x
  | _, _, .tup h q => .tup (k _ _ h) (q.tk k)
theorem Fzs.tk (k : Tk H H') : ∀ {vs : List V} {ds : List PyData}, Fzs H vs ds → Fzs H' vs ds
  | _, _, .nil => .nil
  | _, _, .cons h q => .cons (h.tk k) (q.tk k)
end
mutual
theorem Fz.dq : ∀ {v : V} {d : PyData}, Fz H v d → Dq H v d
  | _, _, .non => .non
  | _, _, .bl b => .bl b
  | _, _, .int i => .int i
  | _, _, .str x => .str x
  | _, _, .tup h q => .tup h q.dqs
theorem Fzs.dqs : ∀ {vs : List V} {ds : List PyData}, Fzs H vs ds → Dqs H vs ds
  | _, _, .nil => .nil
  | _, _, .cons h q => .cons h.dq q.dqs
end
mutual
theorem Fz.dp {K : PySem.W.Frag} : ∀ {v : V} {d : PyData}, Fz H v d → Dp K H v d
  | _, _, .non => .non
  | _, _, .bl b => .bl b
  | _, _, .int i => .int i
  | _, _, .str x => .str x
  | _, _, .tup h q => .tup (SqT.of h) q.dps
theorem Fzs.dps {K : PySem.W.Frag} : ∀ {vs : List V} {ds : List PyData}, Fzs H vs ds → DpAll K H vs ds
  | _, _, .nil => .nil
  | _, _, .cons h q => .cons h.dp q.dps
end
theorem Fzs.length : ∀ {vs : List V} {ds : List PyData}, Fzs H vs ds → vs.length = ds.length
  | _, _, .nil => rfl
  | _, _, .cons _ h => congrArg Nat.succ h.length
theorem Fzs.get : ∀ {vs : List V} {ds : List PyData}, Fzs H vs ds → ∀ {i : Nat} {v : V}, vs[i]? = some v → ∃ d, ds[i]? = some d ∧ Fz H v d
  | _, _, .nil, _, _, e => by simp at e
  | _, _, .cons h q, 0, v, e => ⟨_, rfl, by simp at e; subst e; exact h⟩
  | _, _, .cons h q, i + 1, v, e => by
    obtain ⟨d, e1, f⟩ := q.get (i := i) (v := v) (by simpa using e)
    exact ⟨d, by simpa using e1, f⟩
theorem Fzs.append : ∀ {vs us : List V} {ds es : List PyData}, Fzs H vs ds → Fzs H us es → Fzs H (vs ++ us) (ds ++ es)
  | _, _, _, _, .nil, h => h
  | _, _, _, _, .cons a b, h => .cons a (b.append h)
theorem Fzs.take : ∀ {vs : List V} {ds : List PyData}, Fzs H vs ds → ∀ n, Fzs H (vs.take n) (ds.take n)
  | _, _, _, 0 => by simpa using Fzs.nil
  | _, _, .nil, n + 1 => by simpa using Fzs.nil
  | _, _, .cons a b, n + 1 => by simpa using Fzs.cons a (b.take n)
theorem Fzs.drop : ∀ {vs : List V} {ds : List PyData}, Fzs H vs ds → ∀ n, Fzs H (vs.drop n) (ds.drop n)
  | _, _, h, 0 => by simpa using h
  | _, _, .nil, n + 1 => by simpa using Fzs.nil
  | _, _, .cons a b, n + 1 => by simpa using b.drop n
theorem Fzs.reverse : ∀ {vs : List V} {ds : List PyData}, Fzs H vs ds → Fzs H vs.reverse ds.reverse
  | _, _, .nil => by simpa using Fzs.nil
  | _, _, .cons a b => by simpa using b.reverse.append (.cons a .nil)
theorem Fz.tup_inv {v : V} {ds : List PyData} (h : Fz H v (.tuple ds)) : ∃ a xs, v = .ref a ∧ H a = some (.tup xs) ∧ Fzs H xs ds := by
  cases h with
  | tup a b => exact ⟨_, _, rfl, a, b⟩
theorem Fz.int_inv {v : V} {i : Int} (h : Fz H v (.int i)) : v = .int i := by cases h; rfl
theorem Fz.non_inv {v : V} (h : Fz H v .none) : v = .non := by cases h; rfl
theorem Fzs.get_d : ∀ {vs : List V} {ds : List PyData}, Fzs H vs ds → ∀ {i : Nat} {d : PyData}, ds[i]? = some d → ∃ v, vs[i]? = some v ∧ Fz H v d
  | _, _, .nil, _, _, e => by simp at e
  | _, _, .cons h q, 0, d, e => ⟨_, rfl, by simp at e; subst e; exact h⟩
  | _, _, .cons h q, i + 1, d, e => by
    obtain ⟨v, e1, f⟩ := q.get_d (i := i) (d := d) (by simpa using e)
    exact ⟨v, by simpa using e1, f⟩
theorem Fzs.ints : ∀ {vs : List V} {is : List Int}, Fzs H vs (is.map PyData.int) → vs = is.map V.int
  | _, [], h => by cases h; rfl
  | _, i :: is, h => by
    cases h with
    | cons a b => rw [a.int_inv, b.ints]; rfl
theorem Fzs.of_ints : ∀ (is : List Int), Fzs H (is.map V.int) (is.map PyData.int)
  | [] => .nil
  | i :: is => .cons (.int i) (Fzs.of_ints is)
end
/-! ### drawing goes on: all but the drawn state is as it was, and so many numbers were drawn at most -/
structure Pr (m c g : Addr) (H0 H : Hp) (B : Int) : Prop where
  dr : ∃ n, n ≤ B ∧ Dr H m c g n
  but : But m g H0 H
section
variable {m c g : Addr} {H0 H H1 H2 : Hp} {B B' : Int}
theorem Pr.old (p : Pr m c g H0 H B) {b : Addr} (n : H b = none) : H0 b = none := by
  obtain ⟨k, _, d⟩ := p.dr
  obtain ⟨l, _, hg⟩ := d.great
  have hm := d.dict
  cases h : H0 b with
  | none => rfl
  | some o =>
    have nm : b ≠ m := fun e => by subst e; rw [n] at hm; exact absurd hm (by simp)
    have ng : b ≠ g := fun e => by subst e; rw [n] at hg; exact absurd hg (by simp)
    exact absurd (p.but _ _ nm ng h) (by rw [n]; simp)
theorem Dr.upd {n : Int} {p : Addr} {o : HO} (d : Dr H m c g n) (h1 : p ≠ m) (h2 : p ≠ c) (h3 : p ≠ g) : Dr (upd H p o) m c g n := by
  obtain ⟨d1, ⟨l, hl, d2⟩, ⟨l', hl', d3⟩, d4, d5⟩ := d
  refine ⟨?_, ⟨l, hl, ?_⟩, ⟨l', hl', ?_⟩, d4, d5⟩
  · rw [upd_ne (Ne.symm h1)]; exact d1
  · rw [upd_ne (Ne.symm h2)]; exact d2
  · rw [upd_ne (Ne.symm h3)]; exact d3
theorem Dr.off {n : Int} {p : Addr} (d : Dr H m c g n) (h : H p = none) : p ≠ m ∧ p ≠ c ∧ p ≠ g := by
  obtain ⟨d1, ⟨l, hl, d2⟩, ⟨l', hl', d3⟩, d4, d5⟩ := d
  refine ⟨fun e => ?_, fun e => ?_, fun e => ?_⟩
  · subst e; rw [h] at d1; exact absurd d1 (by simp)
  · subst e; rw [h] at d2; exact absurd d2 (by simp)
  · subst e; rw [h] at d3; exact absurd d3 (by simp)
theorem Pr.refl {n : Int} (d : Dr H m c g n) (h : n ≤ B) : Pr m c g H H B := ⟨⟨n, h, d⟩, But.refl⟩
/-- something new, or something made since, is written -/
theorem Pr.put (p : Pr m c g H0 H B) {b : Addr} {o : HO} (n : H0 b = none) (h1 : b ≠ m) (h2 : b ≠ c) (h3 : b ≠ g) : Pr m c g H0 (upd H b o) B := by
  obtain ⟨⟨k, hk, d⟩, q⟩ := p
  refine ⟨⟨k, hk, d.upd h1 h2 h3⟩, fun a u n1 n2 h => ?_⟩
  have : a ≠ b := fun e => by subst e; rw [n] at h; exact absurd h (by simp)
  rw [upd_ne this]; exact q _ _ n1 n2 h
theorem Pr.new (p : Pr m c g H0 H B) {b : Addr} {o : HO} (n : H b = none) : Pr m c g H0 (upd H b o) B := by
  obtain ⟨k, _, d⟩ := p.dr
  obtain ⟨h1, h2, h3⟩ := d.off n
  exact p.put (p.old n) h1 h2 h3
theorem Pr.trans (p : Pr m c g H0 H B) (q : Pr m c g H H1 B') : Pr m c g H0 H1 B' := ⟨q.dr, p.but.trans q.but⟩
theorem Pr.le (p : Pr m c g H0 H B) (h : B ≤ B') : Pr m c g H0 H B' := by
  obtain ⟨⟨k, hk, d⟩, q⟩ := p
  exact ⟨⟨k, by omega, d⟩, q⟩
theorem Pr.self (p : Pr m c g H0 H B) : Pr m c g H H B := ⟨p.dr, But.refl⟩
theorem Pr.keep (p : Pr m c g H0 H B) {b : Addr} {o : HO} (h : H0 b = some o) (n1 : b ≠ m) (n2 : b ≠ g) : H b = some o := p.but _ _ n1 n2 h
theorem Pr.tk (p : Pr m c g H0 H B) (q : Pr m c g H0 H0 B') : Tk H0 H := fun b xs h => by
  obtain ⟨k, _, d⟩ := q.dr
  obtain ⟨l, _, hg⟩ := d.great
  have hm := d.dict
  refine p.but _ _ (fun e => ?_) (fun e => ?_) h
  · subst e; rw [h] at hm; exact absurd hm (by simp)
  · subst e; rw [h] at hg; exact absurd hg (by simp)
theorem Pr.ne (p : Pr m c g H0 H B) {b : Addr} (n : H0 b = none) {B' : Int} (q : Pr m c g H0 H0 B') : b ≠ m ∧ b ≠ c ∧ b ≠ g := by
  obtain ⟨k, _, d⟩ := q.dr
  exact d.off n
end
/-- a number is drawn -/
def spDraw' : Sp := fun vs H Q _ => ∃ (m c g : Addr) (B top : Int), vs = [.ref m, .int top] ∧ Pr m c g H H B ∧ B < 2 ^ 29 ∧ (0 < top ∧ top < 1073741824) ∧
  ∀ (k : Int) (H' : Hp), 0 ≤ k → k < top → Pr m c g H H' (B + 1) → Q (.int k) H'
end WL
set_option Elab.async false
set_option linter.all false
set_option maxRecDepth 100000
set_option maxHeartbeats 4000000
namespace WL
open PySem PySem.Spec PyProof.Rows L2
/-- for n, x in enumerate(xs) -/
theorem for_enum {K : PySem.W.Frag} {a : Addr} {xs : List V} {g : TG} {tb : TS} {D : Ends} {σ : L2.St} {H : Hp} (Pv : Nat → L2.St → Hp → Prop) (h0 : Pv 0 σ H) (hl : ∀ i σ H, i ≤ xs.length → Pv i σ H → SqL K H a xs)
    (hs : ∀ (i : Nat) (x : V) (T : Addr) (σ : L2.St) (H : Hp), xs[i]? = some x → Pv i σ H → H T = none → g (.ref T) σ (upd H T (.tup [.int (i : Nat), x])) fun σ2 H2 => tb { D with nx := Pv (i + 1), ct := Pv (i + 1), bk := D.nx } σ2 H2) (hd : ∀ σ H, Pv xs.length σ H → D.nx σ H) :
    ∃ W : Nat → Nat → L2.St → Hp → Prop, (∃ m, W 0 m σ H) ∧ ∀ i m σ H, W i m σ H → ((Ite K a).stop i H ∧ D.nx σ H) ∨ ((Ite K a).go i H ∧ ∃ N : L2.St → Hp → Prop, (∀ σ' H', N σ' H' → ∃ m', m' < m ∧ W (i + 1) m' σ' H') ∧
      ∀ x H', (Ite K a).yld i H x H' → g x σ H' fun σ2 H2 => tb { D with nx := N, ct := N, bk := D.nx } σ2 H2) := by
  refine ⟨fun i m σ H => i ≤ xs.length ∧ m = xs.length - i ∧ Pv i σ H, ⟨_, Nat.zero_le _, rfl, h0⟩, ?_⟩
  intro i m σ H ⟨hi, hm, hp⟩
  have hS := hl i σ H hi hp
  by_cases e : i = xs.length
  · subst e
    exact Or.inl ⟨⟨xs, hS, Nat.le_refl _⟩, hd _ _ hp⟩
  · have hlt : i < xs.length := by omega
    refine Or.inr ⟨⟨xs, xs[i], hS, by simp [hlt]⟩, Pv (i + 1), fun σ' H' h => ⟨xs.length - (i + 1), by omega, by omega, rfl, h⟩, ?_⟩
    intro v H' hy
    obtain ⟨T, x, e1, hT, e2, hx⟩ := hy
    subst e1; subst e2
    exact hs i x T σ H (hx xs hS) hp hT
/-! ### places -/
theorem ixN_at {n : Nat} {i : Int} (h0 : 0 ≤ i) (h : i < n) : ixN n i = some i.toNat := by
  unfold ixN
  rw [if_pos h0, if_pos h]
theorem atI_at {α : Type} {xs : List α} {i : Int} {v : α} (h0 : 0 ≤ i) (h : xs[i.toNat]? = some v) : atI xs i = some v := by
  have hl : i.toNat < xs.length := by
    rcases Nat.lt_or_ge i.toNat xs.length with q | q
    · exact q
    · rw [List.getElem?_eq_none q] at h; exact absurd h (by simp)
  unfold atI
  rw [ixN_at h0 (by omega)]
  exact h
theorem atI_nat {α : Type} {xs : List α} {i : Nat} {v : α} (h : xs[i]? = some v) : atI xs (i : Int) = some v := atI_at (by omega) (by simpa using h)
section
variable {σ : L2.St} {H : Hp} {Q : VK} {D : Ends} {K : PySem.W.Frag}
theorem g_asg {te : TE} {g : TG} (h : te σ H fun x H1 => g x σ H1 D.nx) : tAsg te g D σ H := h
theorem g_name {i : Nat} {v : V} {Q : L2.St → Hp → Prop} (h : Q (σ.set i (some v)) H) : gName i v σ H Q := h
theorem g_sub {to ti : TE} {t : TSet} {v : V} {Q : L2.St → Hp → Prop} (h : to σ H fun o H1 => ti σ H1 fun i H2 => t o i v H2 fun H3 => Q σ H3) : gSub to ti t v σ H Q := h
theorem g_tupg {n : Nat} {t : TGs} {a : Addr} {xs : List V} {Q : L2.St → Hp → Prop} (h1 : SqT K H a xs) (h2 : xs.length = n) (h3 : t xs σ H Q) : gTup K n t (.ref a) σ H Q := ⟨a, xs, rfl, h1, h2, h3⟩
theorem g_ixL {p : Addr} {xs : List V} {i : Int} {v : V} (h1 : SqL K H p xs) (h2 : atI xs i = some v) (h : Q v H) : rIxL K (.ref p) (.int i) H Q := ⟨p, xs, i, v, rfl, rfl, h1, h2, h⟩
theorem g_ixT {p : Addr} {xs : List V} {i : Int} {v : V} (h1 : SqT K H p xs) (h2 : atI xs i = some v) (h : Q v H) : rIxT K (.ref p) (.int i) H Q := ⟨p, xs, i, v, rfl, rfl, h1, h2, h⟩
theorem g_setL {p : Addr} {xs : List V} {i : Int} {v : V} {Q : Hp → Prop} (h1 : H p = some (.lst xs)) (h0 : 0 ≤ i) (h2 : i < xs.length) (h : Q (upd H p (.lst (xs.set i.toNat v)))) : rSetL (.ref p) (.int i) v H Q := ⟨p, xs, i, i.toNat, rfl, rfl, h1, ixN_at h0 h2, h⟩
theorem g_app {p : Addr} {xs : List V} {v : V} (h1 : H p = some (.lst xs)) (h2 : xs.length < sizeLine) (h : Q .non (upd H p (.lst (xs ++ [v])))) : rAppend (.ref p) [v] H Q := ⟨p, xs, v, rfl, rfl, h1, h2, h⟩
theorem g_eqD {x y : V} {d e : PyData} (h1 : Dp K H x d) (h2 : Dp K H y e) (s1 : SeqAt.shaped d = true) (s2 : SeqAt.shaped e = true) (h : Q (.bl (d.eqv e)) H) : rEqD K x y H Q := ⟨d, e, h1, h2, s1, s2, h⟩
theorem g_neD {x y : V} {d e : PyData} (h1 : Dp K H x d) (h2 : Dp K H y e) (s1 : SeqAt.shaped d = true) (s2 : SeqAt.shaped e = true) (h : Q (.bl (!d.eqv e)) H) : rNeD K x y H Q := ⟨d, e, h1, h2, s1, s2, h⟩
theorem g_isNon {x : V} (h : Q (.bl (decide (x = .non))) H) : (V.non = .non ∧ Q (.bl (decide (x = .non))) H) := ⟨rfl, h⟩
theorem g_notNon {x : V} (h : Q (.bl (!decide (x = .non))) H) : (V.non = .non ∧ Q (.bl (!decide (x = .non))) H) := ⟨rfl, h⟩
theorem g_rng1 {ta : TA} {R : It → Hp → Prop} (h : ta σ H fun vs H1 => ∃ j, vs = [V.int j] ∧ -2 ^ 62 ≤ j ∧ j < 2 ^ 62 ∧ R (Itr 0 j.toNat) H1) : iRng1 ta σ H R := h
theorem g_rng2 {ta : TA} {R : It → Hp → Prop} (h : ta σ H fun vs H1 => ∃ i j, vs = [V.int i, V.int j] ∧ (-2 ^ 62 ≤ i ∧ i < 2 ^ 62 ∧ -2 ^ 62 ≤ j ∧ j < 2 ^ 62) ∧ R (Itr i (j - i).toNat) H1) : iRng2 ta σ H R := h
theorem g_one {j : Int} {P : Int → Prop} (h1 : -2 ^ 62 ≤ j ∧ j < 2 ^ 62) (h : P j) : ∃ k, [V.int j] = [V.int k] ∧ -2 ^ 62 ≤ k ∧ k < 2 ^ 62 ∧ P k := ⟨j, rfl, h1.1, h1.2, h⟩
theorem g_twoI {i j : Int} {P : Int → Int → Prop} (h1 : -2 ^ 62 ≤ i ∧ i < 2 ^ 62 ∧ -2 ^ 62 ≤ j ∧ j < 2 ^ 62) (h : P i j) : ∃ k l, [V.int i, V.int j] = [V.int k, V.int l] ∧ (-2 ^ 62 ≤ k ∧ k < 2 ^ 62 ∧ -2 ^ 62 ≤ l ∧ l < 2 ^ 62) ∧ P k l := ⟨i, j, rfl, h1, h⟩
theorem g_dget {td ty : TE} (h : td σ H fun x H1 => ty σ H1 fun y H2 => ∃ a v, x = V.ref a ∧ DGet H2 a y (some v) ∧ Q v H2) : tDGet td ty σ H Q := h
theorem g_dg {a : Addr} {x : Str} {v : V} {kvs : List (Key × V)} (h1 : H a = some (.dK kvs)) (h2 : valV kvs (Sum.inr x) = some v) {P : V → Prop} (h : P v) : ∃ a' v', V.ref a = V.ref a' ∧ DGet H a' (.str x) (some v') ∧ P v' :=
  ⟨a, v, rfl, Or.inl ⟨kvs, Sum.inr x, Or.inl h1, rfl, h2.symm⟩, h⟩
theorem g_dput {td ty tv : TE} (h : tv σ H fun v H1 => td σ H1 fun x H2 => ty σ H2 fun y H3 => ∃ a H4, x = V.ref a ∧ DPut H3 a y v H4 ∧ D.nx σ H4) : sDPut td ty tv D σ H := h
theorem g_dp {a : Addr} {x : Str} {v : V} {kvs : List (Key × V)} (h1 : H a = some (.dK kvs)) (h2 : kvs.length < sizeLine) {P : Hp → Prop} (h : P (upd H a (.dK (putK kvs (Sum.inr x) v)))) : ∃ a' H', V.ref a = V.ref a' ∧ DPut H a' (.str x) v H' ∧ P H' :=
  ⟨a, _, rfl, Or.inl ⟨kvs, Sum.inr x, h1, rfl, h2, rfl⟩, h⟩
theorem g_len {p : Addr} {xs : List V} {P : Addr → List V → Prop} (h1 : SqL K H p xs ∨ SqT K H p xs) (h : P p xs) : ∃ p' ys, [V.ref p] = [V.ref p'] ∧ (SqL K H p' ys ∨ SqT K H p' ys) ∧ P p' ys := ⟨p, xs, rfl, h1, h⟩
theorem g_tupOfL {p : Addr} {xs : List V} {P : Addr → List V → Prop} {R : Addr → Prop} (h1 : SqL K H p xs) (h : P p xs) : ∃ p' ys, [V.ref p] = [V.ref p'] ∧ ((SqL K H p' ys ∧ P p' ys) ∨ SqT K H p' ys ∧ R p') := ⟨p, xs, rfl, Or.inl ⟨h1, h⟩⟩
theorem g_tupOfT {p : Addr} {xs : List V} {P : Addr → List V → Prop} {R : Addr → Prop} (h1 : SqT K H p xs) (h : R p) : ∃ p' ys, [V.ref p] = [V.ref p'] ∧ ((SqL K H p' ys ∧ P p' ys) ∨ SqT K H p' ys ∧ R p') := ⟨p, xs, rfl, Or.inr ⟨h1, h⟩⟩
theorem g_lstOf {p : Addr} {xs : List V} {P : Addr → List V → Prop} (h1 : SqL K H p xs ∨ SqT K H p xs) (h : P p xs) : ∃ p' ys, [V.ref p] = [V.ref p'] ∧ (SqL K H p' ys ∨ SqT K H p' ys) ∧ P p' ys := ⟨p, xs, rfl, h1, h⟩
theorem g_yes {Q : Bool → Hp → Prop} (h : Q true H) : tYes σ H Q := h
theorem g_gnil {Q : L2.St → Hp → Prop} (h : Q σ H) : gNil [] σ H Q := ⟨rfl, h⟩
theorem g_gcons {t : TG} {u : TGs} {v : V} {vs : List V} {Q : L2.St → Hp → Prop} (h : t v σ H fun σ' H' => u vs σ' H' Q) : gCons t u (v :: vs) σ H Q := ⟨v, vs, rfl, h⟩
end
/-! ### loops, from what is walked on -/
def LcQ (g : TG) (tt : TT) (te : TE) (vs : List Nat) (σ : L2.St) (Q : VK) (J : It) (H1 : Hp) : Prop :=
  ∀ D : Addr, H1 D = none → ∃ W : Nat → Nat → Hp → Prop, (∃ m, W 0 m (upd H1 D (.lst []))) ∧ ∀ i m H, W i m H → (J.stop i H ∧ Q (.ref D) H) ∨ (J.go i H ∧ ∃ Nx : Hp → Prop, (∀ H', Nx H' → ∃ m', m' < m ∧ W (i + 1) m' H') ∧
    ∀ x H', J.yld i H x H' → g x (wipe σ vs) H' fun σ2 H2 => wipe σ2 vs = wipe σ vs ∧ tt σ2 H2 fun b H3 => if b = true then te σ2 H3 fun y H4 => ∃ acc, H4 D = some (.lst acc) ∧ acc.length < sizeLine ∧ Nx (upd H4 D (.lst (acc ++ [y]))) else Nx H3)
def ForQ (g : TG) (tb : TS) (D : Ends) (σ : L2.St) (J : It) (H1 : Hp) : Prop :=
  ∃ W : Nat → Nat → L2.St → Hp → Prop, (∃ m, W 0 m σ H1) ∧ ∀ i m σ H, W i m σ H → (J.stop i H ∧ D.nx σ H) ∨ (J.go i H ∧ ∃ N : L2.St → Hp → Prop, (∀ σ' H', N σ' H' → ∃ m', m' < m ∧ W (i + 1) m' σ' H') ∧
    ∀ x H', J.yld i H x H' → g x σ H' fun σ2 H2 => tb { D with nx := N, ct := N, bk := D.nx } σ2 H2)
section
variable {σ : L2.St} {H H1 : Hp} {Q : VK} {D : Ends} {K : PySem.W.Frag} {g : TG} {tt : TT} {te : TE} {vs : List Nat} {tb : TS} {wi : TI}
theorem g_lc (h : wi σ H (LcQ g tt te vs σ Q)) : tLc wi g tt te vs σ H Q := h
theorem g_for (h : wi σ H (ForQ g tb D σ)) : tFor wi g tb D σ H := h
theorem g_and {α : Type} {a : α} {P : Prop} (h : P) : a = a ∧ P := ⟨rfl, h⟩
theorem g_ift {A B : Prop} (h : A) : if true = true then A else B := by rw [if_pos rfl]; exact h
theorem g_iff {A B : Prop} (h : B) : if false = true then A else B := by rw [if_neg (by decide)]; exact h
theorem g_tt {A B : Prop} (h : A) : if (true : Bool) = true then A else B := by rw [if_pos rfl]; exact h
theorem LcQ.range {lo : Int} {n : Nat} (I : Addr → Nat → Hp → Prop) (h0 : ∀ D, H1 D = none → I D 0 (upd H1 D (.lst [])))
    (hs : ∀ D, H1 D = none → ∀ i H, i < n → I D i H → g (.int (lo + (i : Nat))) (wipe σ vs) H fun σ2 H2 => wipe σ2 vs = wipe σ vs ∧ tt σ2 H2 fun b H3 => if b = true then te σ2 H3 fun y H4 => ∃ acc, H4 D = some (.lst acc) ∧ acc.length < sizeLine ∧ I D (i + 1) (upd H4 D (.lst (acc ++ [y]))) else I D (i + 1) H3)
    (hd : ∀ D, H1 D = none → ∀ H, I D n H → Q (.ref D) H) : LcQ g tt te vs σ Q (Itr lo n) H1 :=
  fun D nD => lc_range (I D) (h0 D nD) (hs D nD) (hd D nD)
theorem LcQ.list {a : Addr} {xs : List V} (I : Addr → Nat → Hp → Prop) (h0 : ∀ D, H1 D = none → I D 0 (upd H1 D (.lst [])))
    (hl : ∀ D, H1 D = none → ∀ i H, i ≤ xs.length → I D i H → SqL K H a xs)
    (hs : ∀ D, H1 D = none → ∀ (i : Nat) x H, xs[i]? = some x → I D i H → g x (wipe σ vs) H fun σ2 H2 => wipe σ2 vs = wipe σ vs ∧ tt σ2 H2 fun b H3 => if b = true then te σ2 H3 fun y H4 => ∃ acc, H4 D = some (.lst acc) ∧ acc.length < sizeLine ∧ I D (i + 1) (upd H4 D (.lst (acc ++ [y]))) else I D (i + 1) H3)
    (hd : ∀ D, H1 D = none → ∀ H, I D xs.length H → Q (.ref D) H) : LcQ g tt te vs σ Q (Itl K a) H1 :=
  fun D nD => lc_list (I D) (h0 D nD) (hl D nD) (hs D nD) (hd D nD)
theorem ForQ.range {lo : Int} {n : Nat} (I : Nat → L2.St → Hp → Prop) (h0 : I 0 σ H1)
    (hs : ∀ i σ H, i < n → I i σ H → g (.int (lo + (i : Nat))) σ H fun σ2 H2 => tb { D with nx := I (i + 1), ct := I (i + 1), bk := D.nx } σ2 H2) (hd : ∀ σ H, I n σ H → D.nx σ H) : ForQ g tb D σ (Itr lo n) H1 := for_range I h0 hs hd
theorem ForQ.list {a : Addr} {xs : List V} (I : Nat → L2.St → Hp → Prop) (h0 : I 0 σ H1) (hl : ∀ i σ H, i ≤ xs.length → I i σ H → SqL K H a xs)
    (hs : ∀ (i : Nat) x σ H, xs[i]? = some x → I i σ H → g x σ H fun σ2 H2 => tb { D with nx := I (i + 1), ct := I (i + 1), bk := D.nx } σ2 H2) (hd : ∀ σ H, I xs.length σ H → D.nx σ H) : ForQ g tb D σ (Itl K a) H1 := for_list I h0 hl hs hd
theorem ForQ.tup {a : Addr} {xs : List V} (I : Nat → L2.St → Hp → Prop) (h0 : I 0 σ H1) (hl : ∀ i σ H, i ≤ xs.length → I i σ H → SqT K H a xs)
    (hs : ∀ (i : Nat) x σ H, xs[i]? = some x → I i σ H → g x σ H fun σ2 H2 => tb { D with nx := I (i + 1), ct := I (i + 1), bk := D.nx } σ2 H2) (hd : ∀ σ H, I xs.length σ H → D.nx σ H) : ForQ g tb D σ (Itt K a) H1 := for_tup I h0 hl hs hd
theorem ForQ.enum {a : Addr} {xs : List V} (I : Nat → L2.St → Hp → Prop) (h0 : I 0 σ H1) (hl : ∀ i σ H, i ≤ xs.length → I i σ H → SqL K H a xs)
    (hs : ∀ (i : Nat) (x : V) (T : Addr) (σ : L2.St) (H : Hp), xs[i]? = some x → I i σ H → H T = none → g (.ref T) σ (upd H T (.tup [.int (i : Nat), x])) fun σ2 H2 => tb { D with nx := I (i + 1), ct := I (i + 1), bk := D.nx } σ2 H2) (hd : ∀ σ H, I xs.length σ H → D.nx σ H) : ForQ g tb D σ (Ite K a) H1 := for_enum I h0 hl hs hd
theorem g_enum {ta : TA} {R : It → Hp → Prop} (h : ta σ H fun vs H1 => ∃ a xs, vs = [.ref a] ∧ SqL K H1 a xs ∧ R (Ite K a) H1) : iEnum K ta σ H R := h
theorem g_list {tl : TE} {R : It → Hp → Prop} (h : tl σ H fun x H1 => ∃ a, x = V.ref a ∧ (∃ xs, SqL K H1 a xs) ∧ R (Itl K a) H1) : iList K tl σ H R := h
theorem g_lq {a : Addr} {xs : List V} {P : Addr → Prop} (h1 : SqL K H a xs) (h : P a) : ∃ a', V.ref a = V.ref a' ∧ (∃ xs, SqL K H a' xs) ∧ P a' := ⟨a, rfl, ⟨xs, h1⟩, h⟩
theorem g_oneL {a : Addr} {xs : List V} {P : Addr → Prop} (h1 : SqL K H a xs) (h : P a) : ∃ a' xs', [V.ref a] = [V.ref a'] ∧ SqL K H a' xs' ∧ P a' := ⟨a, xs, rfl, h1, h⟩
end
theorem SqL.same {K : PySem.W.Frag} {H H' : Hp} {a : Addr} {xs : List V} (h : SqL K H a xs) (s : ∀ b o, H b = some o → H' b = some o) : SqL K H' a xs := by
  rcases h with (h | ⟨o, h⟩) | h
  · exact Or.inl (Or.inl (s _ _ h))
  · exact Or.inl (Or.inr ⟨o, s _ _ h⟩)
  · exact Or.inr h
theorem SqT.same {K : PySem.W.Frag} {H H' : Hp} {a : Addr} {xs : List V} (h : SqT K H a xs) (s : ∀ b o, H b = some o → H' b = some o) : SqT K H' a xs := by
  rcases h with (h | ⟨o, h⟩) | h
  · exact Or.inl (Or.inl (s _ _ h))
  · exact Or.inl (Or.inr ⟨o, s _ _ h⟩)
  · exact Or.inr h
theorem g_one' {K : PySem.W.Frag} {a : Addr} {xs : List V} {H : Hp} {P : Addr → Prop} (h1 : SqL K H a xs) (h : P a) : ∃ a' xs', [V.ref a] = [V.ref a'] ∧ SqL K H a' xs' ∧ P a' := ⟨a, xs, rfl, h1, h⟩
theorem Cells.get {l : List Int} (h : Cells l) {i : Nat} (hi : i < 64) : ∃ c, l[i]? = some c ∧ 0 ≤ c ∧ c < 2147483647 := by
  have hl : i < l.length := by rw [h.1]; exact hi
  exact ⟨l[i], by simp [hl], h.2 _ (List.getElem_mem hl)⟩
theorem Cells.set {l : List Int} (h : Cells l) (i : Nat) {c : Int} (h0 : 0 ≤ c) (h1 : c < 2147483647) : Cells (l.set i c) := by
  refine ⟨by rw [List.length_set]; exact h.1, fun x hx => ?_⟩
  rcases List.mem_or_eq_of_mem_set hx with q | q
  · exact h.2 _ q
  · subst q; exact ⟨h0, h1⟩
theorem map_set_int (l : List Int) (i : Nat) (c : Int) : (l.map V.int).set i (.int c) = (l.set i c).map V.int := by rw [List.map_set]
theorem map_get_int {l : List Int} {i : Nat} {c : Int} (h : l[i]? = some c) : (l.map V.int)[i]? = some (.int c) := by rw [List.getElem?_map, h]; rfl
theorem Dr.spot {H : Hp} {m c g : Addr} {n : Int} (d : Dr H m c g n) : H m = some (.dK [(Sum.inr "cells", .ref c), (Sum.inr "great", .ref g), (Sum.inr "spot", .int n)]) := d.dict
end WL
set_option Elab.async false
set_option linter.all false
set_option maxRecDepth 100000
set_option maxHeartbeats 4000000
namespace WL
open PySem PySem.Spec PyProof.Rows L2
/-! ### plain data: None, whole numbers, and lists and tuples of such, so many levels deep -/
def pl : Nat → PyData → Prop
  | _, .none => True
  | _, .int _ => True
  | n + 1, .list ds => ∀ d ∈ ds, pl n d
  | n + 1, .tuple ds => ∀ d ∈ ds, pl n d
  | _, _ => False
theorem pl_mono : ∀ {n : Nat} {d : PyData}, pl n d → pl (n + 1) d := by
  intro n
  induction n with
  | zero => intro d h; cases d <;> simp_all [pl]
  | succ n ih =>
    intro d h
    cases d with
    | none => simp [pl]
    | int i => simp [pl]
    | bool b => simp [pl] at h
    | str x => simp [pl] at h
    | dict kvs => simp [pl] at h
    | list ds => simp only [pl] at h ⊢; exact fun d hd => ih (h d hd)
    | tuple ds => simp only [pl] at h ⊢; exact fun d hd => ih (h d hd)
theorem all_lay : ∀ (ds : List PyData), (∀ d ∈ ds, d.canLay0 = true) → PyData.canLayAll0 ds = true
  | [], _ => rfl
  | d :: ds, h => by
    show (PyData.canLay0 d && PyData.canLayAll0 ds) = true
    rw [h d (by simp), all_lay ds (fun e he => h e (by simp [he]))]; rfl
theorem all_depth {n : Nat} : ∀ (ds : List PyData), (∀ d ∈ ds, d.depth ≤ n) → PyData.depthAll ds ≤ n
  | [], _ => by rw [PyData.depthAll.eq_1]; omega
  | d :: ds, h => by
    rw [PyData.depthAll.eq_2]
    have h1 := h d (by simp)
    have h2 := all_depth ds (fun e he => h e (by simp [he]))
    omega
theorem pl_lay : ∀ {n : Nat} {d : PyData}, pl n d → d.canLay0 = true ∧ d.depth ≤ n := by
  intro n
  induction n with
  | zero => 
    intro d h
    cases d <;> simp [pl] at h
    · exact ⟨rfl, by rw [PyData.depth.eq_4] <;> simp⟩
    · exact ⟨rfl, by rw [PyData.depth.eq_6]; omega⟩
  | succ n ih =>
    intro d h
    cases d with
    | none => exact ⟨rfl, by rw [PyData.depth.eq_4]; omega⟩
    | int i => exact ⟨rfl, by rw [PyData.depth.eq_6]; omega⟩
    | bool b => simp [pl] at h
    | str x => simp [pl] at h
    | dict kvs => simp [pl] at h
    | list ds =>
      simp only [pl] at h
      refine ⟨all_lay ds (fun e he => (ih (h e he)).1), ?_⟩
      have := all_depth ds (fun e he => (ih (h e he)).2)
      rw [PyData.depth.eq_1]; omega
    | tuple ds =>
      simp only [pl] at h
      refine ⟨all_lay ds (fun e he => (ih (h e he)).1), ?_⟩
      have := all_depth ds (fun e he => (ih (h e he)).2)
      rw [PyData.depth.eq_2]; omega
theorem pl_shaped {n : Nat} {d : PyData} (h : pl n d) (hn : n ≤ 64) : SeqAt.shaped d = true := by
  obtain ⟨a, b⟩ := pl_lay h
  unfold SeqAt.shaped
  rw [a, Bool.true_and]
  exact decide_eq_true (by omega)
theorem eqvAll_iff : ∀ (ds es : List PyData), (∀ d ∈ ds, ∀ e ∈ es, (d.eqv e = true ↔ d = e)) → (PyData.eqvAll ds es = true ↔ ds = es)
  | [], [], _ => by simp [PyData.eqvAll.eq_1]
  | [], e :: es, _ => by simp [PyData.eqvAll.eq_3]
  | d :: ds, [], _ => by
    have : PyData.eqvAll (d :: ds) [] = false := rfl
    simp [this]
  | d :: ds, e :: es, h => by
    rw [PyData.eqvAll.eq_2, Bool.and_eq_true, h d (by simp) e (by simp), eqvAll_iff ds es (fun a ha b hb => h a (by simp [ha]) b (by simp [hb]))]
    simp
theorem pl_eqv : ∀ {n : Nat} {d e : PyData}, pl n d → pl n e → (d.eqv e = true ↔ d = e) := by
  intro n
  induction n with
  | zero =>
    intro d e h1 h2
    cases d <;> simp [pl] at h1 <;> cases e <;> simp [pl] at h2
    · simp [PyData.eqv.eq_1]
    · have : ∀ i : Int, PyData.none.eqv (.int i) = false := fun _ => rfl
      simp [this]
    · have : ∀ i : Int, (PyData.int i).eqv .none = false := fun _ => rfl
      simp [this]
    · simp [PyData.eqv.eq_5]
  | succ n ih =>
    intro d e h1 h2
    cases d with
    | bool b => simp [pl] at h1
    | str x => simp [pl] at h1
    | dict kvs => simp [pl] at h1
    | none => cases e <;> first | (simp [pl] at h2; done) | (simp [PyData.eqv.eq_1]; done) | (exact ⟨fun h => absurd (show false = true from h) (by decide), fun h => by cases h⟩)
    | int i => cases e <;> first | (simp [pl] at h2; done) | (simp [PyData.eqv.eq_5]; done) | (exact ⟨fun h => absurd (show false = true from h) (by decide), fun h => by cases h⟩)
    | list ds =>
      simp only [pl] at h1
      cases e with
      | list es =>
        simp only [pl] at h2
        rw [PyData.eqv.eq_7, eqvAll_iff ds es (fun a ha b hb => ih (h1 a ha) (h2 b hb))]
        simp
      | _ => first | (simp [pl] at h2; done) | (exact ⟨fun h => absurd (show false = true from h) (by decide), fun h => by cases h⟩)
    | tuple ds =>
      simp only [pl] at h1
      cases e with
      | tuple es =>
        simp only [pl] at h2
        rw [PyData.eqv.eq_8, eqvAll_iff ds es (fun a ha b hb => ih (h1 a ha) (h2 b hb))]
        simp
      | _ => first | (simp [pl] at h2; done) | (exact ⟨fun h => absurd (show false = true from h) (by decide), fun h => by cases h⟩)
theorem pl_ints (l : List Int) : pl 1 (.list (l.map PyData.int)) := by
  simp only [pl]
  intro d hd
  obtain ⟨i, _, rfl⟩ := List.mem_map.mp hd
  simp [pl]
theorem pl_intsT (l : List Int) : pl 1 (.tuple (l.map PyData.int)) := by
  simp only [pl]
  intro d hd
  obtain ⟨i, _, rfl⟩ := List.mem_map.mp hd
  simp [pl]
section
variable {K : PySem.W.Frag} {H : Hp}
theorem dps_ints : ∀ (l : List Int), DpAll K H (l.map V.int) (l.map PyData.int)
  | [] => .nil
  | i :: l => .cons (.int i) (dps_ints l)
theorem dp_ints {a : Addr} {l : List Int} (h : SqL K H a (l.map V.int)) : Dp K H (.ref a) (.list (l.map PyData.int)) := .lst h (dps_ints l)
theorem dp_nilL {a : Addr} (h : SqL K H a []) : Dp K H (.ref a) (.list []) := .lst h .nil
theorem dp_nilT {a : Addr} (h : SqT K H a []) : Dp K H (.ref a) (.tuple []) := .tup h .nil
end
theorem room1 {k : Nat} {A : Around} (h : Room k A) : A.units + 1 < cLine := by have := h.units; omega
/-- the state after a put at "spot" -/
theorem g_spot {H : Hp} {m c g : Addr} {n : Int} {k : Int} (d : Dr H m c g n) {P : Hp → Prop} (h : ∀ H1, H1 = upd H m (.dK [(Sum.inr "cells", .ref c), (Sum.inr "great", .ref g), (Sum.inr "spot", .int k)]) → P H1) :
    ∃ a' H', V.ref m = V.ref a' ∧ DPut H a' (.str "spot") (.int k) H' ∧ P H' :=
  ⟨m, _, rfl, Or.inl ⟨_, Sum.inr "spot", d.dict, rfl, by show (3 : Nat) < sizeLine; decide, rfl⟩, h _ rfl⟩
theorem pl_nilL : pl 1 (.list []) := by simp [pl]
theorem pl_nilT : pl 1 (.tuple []) := by simp [pl]
section
variable {σ : L2.St} {H : Hp}
theorem g_disp {trs : List (TE × TE)} {Q : VK} (h : ∀ p, H p = none → tPairs trs σ (upd H p (.dK [])) fun ps H2 => H2 p = some (.dK []) ∧ ∃ kvs, ps = List.map (fun kv => (kV kv.fst, kv.snd)) kvs ∧ kvs.length ≤ 15 ∧ Q (.ref p) (upd H2 p (.dK (mergeK [] kvs)))) : tDisp trs σ H Q := h
theorem g_pcons {tk tv : TE} {r : List (TE × TE)} {Q : List (V × V) → Hp → Prop} (h : tk σ H fun x H1 => tv σ H1 fun y H2 => tPairs r σ H2 fun ps H3 => Q ((x, y) :: ps) H3) : tPairs ((tk, tv) :: r) σ H Q := h
theorem g_pnil {Q : List (V × V) → Hp → Prop} (h : Q [] H) : tPairs [] σ H Q := h
theorem g_lst' {t : TA} {Q : VK} (h : t σ H fun xs H1 => xs.length ≤ sizeLine ∧ ∀ p, H1 p = none → Q (.ref p) (upd H1 p (.lst xs))) : tLst t σ H Q := h
end
abbrev drK (c g : Addr) (n : Int) : List (Key × V) := [(Sum.inr "cells", .ref c), (Sum.inr "great", .ref g), (Sum.inr "spot", .int n)]
theorem merge_dr (c g : Addr) (n : Int) : mergeK [] (drK c g n) = drK c g n := rfl
theorem len_dr (c g : Addr) (n : Int) : (drK c g n).length ≤ 15 := by show 3 ≤ 15; decide
def spBegun (K : PySem.W.Frag) : Sp := fun vs H Q _ => ∃ (a : Addr) (ns : List Int), vs = [.ref a] ∧ SqL K H a (ns.map V.int) ∧ ns.length ≤ 63 ∧
  ∀ (m c g : Addr) (H' : Hp), Dr H' m c g 0 → (∀ b o, H b = some o → H' b = some o) → Q (.ref m) H'
end WL
set_option Elab.async false
set_option linter.all false
set_option maxRecDepth 100000
set_option maxHeartbeats 4000000
namespace WL
open PySem PySem.Spec PyProof.Rows L2
theorem sz {n : Nat} (h : n ≤ 100000) : n ≤ sizeLine := Nat.le_trans h (by decide)
theorem szl {n : Nat} (h : n ≤ 100000) : n < sizeLine := Nat.lt_of_le_of_lt h (by decide)
theorem g_tup' {σ : L2.St} {H : Hp} {t : TA} {Q : VK} (h : t σ H fun xs H1 => xs.length ≤ sizeLine ∧ ∀ p, H1 p = none → Q (.ref p) (upd H1 p (.tup xs))) : tTup t σ H Q := h
theorem g_bmL {K : PySem.W.Frag} {σ : L2.St} {H : Hp} {t : TA} {Q : VK} {p : Addr} {i : Nat} {xs : List V} {r : V → List V → Hp → VK → Prop} (e : σ[i]? = some (some (.ref p))) (h1 : H p = some (.lst xs)) (h : t σ H fun ys H2 => r (.ref p) ys H2 Q) : tBM K "list" r (tVar i) t σ H Q :=
  ⟨_, e, Or.inl ⟨rfl, xs, SqL.of h1⟩, h⟩
theorem g_ixPick {K : PySem.W.Frag} {H : Hp} {Q : VK} {p : Addr} {xs : List V} {i : Int} (h1 : SqL K H p xs) (h0 : 0 ≤ i) (h2 : i < xs.length) (h : ∀ v ∈ xs, Q v H) : rIxL K (.ref p) (.int i) H Q := by
  have hl : i.toNat < xs.length := by omega
  exact g_ixL h1 (atI_at (v := xs[i.toNat]) h0 (by simp [hl])) (h _ (List.getElem_mem hl))
/-! ### nothing new but tuples -/
inductive Nt (H : Hp) : Hp → Prop
  | refl : Nt H H
  | new {H' : Hp} {p : Addr} {xs : List V} : Nt H H' → H' p = none → Nt H (upd H' p (.tup xs))
theorem Nt.same {H H' : Hp} (h : Nt H H') : ∀ b o, H b = some o → H' b = some o := by
  induction h with
  | refl => exact fun _ _ h => h
  | new _ n ih => intro b o h; rw [upd_ne (ne_of_none (ih b o h) n)]; exact ih b o h
theorem Nt.tk {H H' : Hp} (h : Nt H H') : Tk H H' := Tk.same h.same
theorem Nt.trans {H H1 H2 : Hp} (a : Nt H H1) (b : Nt H1 H2) : Nt H H2 := by
  induction b with
  | refl => exact a
  | new _ n ih => exact .new ih n
theorem Nt.pr {m c g : Addr} {H0 H H' : Hp} {B : Int} (p : Pr m c g H0 H B) (h : Nt H H') : Pr m c g H0 H' B := by
  induction h with
  | refl => exact p
  | new _ n ih => exact ih.new n
theorem g_slA {K : PySem.W.Frag} {H : Hp} {Q : VK} {a : Addr} {xs : List V} {lo hi : Option Int} (h : H a = some (.tup xs)) (q : ∀ a' H', Nt H H' → H' a' = some (.tup (cutV xs lo hi)) → Q (.ref a') H') : rSlA K (.ref a) lo hi H Q := by
  refine ⟨a, xs, rfl, SqT.of h, fun e => q a H .refl ?_, fun _ p np => q p _ (.new .refl np) upd_same⟩
  rw [h]
  unfold cutV
  rw [e.1, e.2]
  simp
theorem g_catA {K : PySem.W.Frag} {H : Hp} {Q : VK} {a b : Addr} {xs ys : List V} (h1 : H a = some (.tup xs)) (h2 : H b = some (.tup ys)) (hl : xs.length + ys.length ≤ 100000) (q : ∀ a' H', Nt H H' → H' a' = some (.tup (xs ++ ys)) → Q (.ref a') H') : rCatA K (.ref a) (.ref b) H Q := by
  refine ⟨a, b, xs, ys, rfl, rfl, SqT.of h1, SqT.of h2, sz hl, fun e => q b H .refl ?_, fun _ e => q a H .refl ?_, fun _ _ p np => q p _ (.new .refl np) upd_same⟩
  · rw [h2, e]; rfl
  · rw [h1, e, List.append_nil]
theorem g_tupN {σ : L2.St} {H : Hp} {t : TA} {Q : VK} (h : t σ H fun xs H1 => xs.length ≤ 100000 ∧ ∀ p H', Nt H1 H' → H' p = some (.tup xs) → Q (.ref p) H') (mt : ∀ (P P' : List V → Hp → Prop), (∀ xs H, P xs H → P' xs H) → t σ H P → t σ H P') : tTup t σ H Q :=
  mt _ _ (fun xs H1 ⟨h1, h2⟩ => ⟨sz h1, fun p np => h2 p _ (.new .refl np) upd_same⟩) h
theorem cut_take (xs : List V) {i : Int} (h0 : 0 ≤ i) : cutV xs none (some i) = xs.take i.toNat := by
  unfold cutV HT.sIx
  simp only [Nat.sub_zero, List.drop_zero]
  rw [if_neg (by omega)]
  rcases Nat.le_total i.toNat xs.length with q | q
  · rw [Nat.min_eq_left q]
  · rw [Nat.min_eq_right q, List.take_length, List.take_of_length_le q]
theorem cut_drop (xs : List V) {i : Int} (h0 : 0 ≤ i) : cutV xs (some i) none = xs.drop i.toNat := by
  unfold cutV HT.sIx
  simp only
  rw [if_neg (by omega)]
  rcases Nat.le_total i.toNat xs.length with q | q
  · rw [Nat.min_eq_left q, List.take_of_length_le (by simp)]
  · rw [Nat.min_eq_right q]; simp [q]
theorem g_andT {t u : TT} {σ : L2.St} {H : Hp} {Q : Bool → Hp → Prop} (h : t σ H fun c H1 => if c = true then u σ H1 Q else Q false H1) : tAnd t u σ H Q := h
theorem g_orT {t u : TT} {σ : L2.St} {H : Hp} {Q : Bool → Hp → Prop} (h : t σ H fun c H1 => if c = true then Q true H1 else u σ H1 Q) : tOr t u σ H Q := h
theorem g_notT {t : TT} {σ : L2.St} {H : Hp} {Q : Bool → Hp → Prop} (h : t σ H fun c H1 => Q (!c) H1) : tNot t σ H Q := h
theorem g_sl {r : V → Option Int → Option Int → Hp → VK → Prop} {te : TE} {tl th : TO} {σ : L2.St} {H : Hp} {Q : VK} (h : te σ H fun x H1 => tl σ H1 fun l H2 => th σ H2 fun u H3 => r x l u H3 Q) : tSl r te tl th σ H Q := h
theorem g_part {t : TE} {σ : L2.St} {H : Hp} {Q : Option Int → Hp → Prop} (h : t σ H fun x H1 => ∃ i, x = V.int i ∧ Q (some i) H1) : tPart t σ H Q := h
theorem g_parI {i : Int} {P : Int → Prop} (h : P i) : ∃ j, V.int i = V.int j ∧ P j := ⟨i, rfl, h⟩
theorem g_noPart {σ : L2.St} {H : Hp} {Q : Option Int → Hp → Prop} (h : Q none H) : tNoPart σ H Q := h
theorem g_ifR {c : TT} {t u : TS} {D : Ends} {σ : L2.St} {H : Hp} (R : Bool → Hp → Prop) (h : ∀ Q : Bool → Hp → Prop, (∀ b H', R b H' → Q b H') → c σ H Q) (h2 : ∀ b H', R b H' → if b = true then t D σ H' else u D σ H') : tIfS c t u D σ H := h _ h2
theorem g_join {t u : TS} {D : Ends} {σ : L2.St} {H : Hp} (R : L2.St → Hp → Prop) (h : ∀ D' : Ends, (∀ σ' H', R σ' H' → D'.nx σ' H') → D'.rt = D.rt → D'.bk = D.bk → D'.ct = D.ct → t D' σ H) (h2 : ∀ σ' H', R σ' H' → u D σ' H') : tSeq t u D σ H := h { D with nx := u D } h2 rfl rfl rfl
theorem g_teR {te : TE} {σ : L2.St} {H : Hp} {Q : VK} (R : V → Hp → Prop) (h : ∀ Q : VK, (∀ v H', R v H' → Q v H') → te σ H Q) (h2 : ∀ v H', R v H' → Q v H') : te σ H Q := h _ h2
section
variable {u : TS} {D : Ends} {σ : L2.St} {H : Hp}
theorem g_proj {nx : L2.St → Hp → Prop} {rt : VK} {bk ct : L2.St → Hp → Prop} (h : nx σ H) : (Ends.mk nx rt bk ct).nx σ H := h
theorem g_seqAsg {te : TE} {g : TG} (h : tAsg te g { D with nx := u D } σ H) : tSeq (tAsg te g) u D σ H := h
theorem g_seqDrop {te : TE} (h : tDrop te { D with nx := u D } σ H) : tSeq (tDrop te) u D σ H := h
theorem g_seqPut {a b c : TE} (h : sDPut a b c { D with nx := u D } σ H) : tSeq (sDPut a b c) u D σ H := h
theorem g_seqPar {i j : Nat} {ta : TA} (h : tPar i j ta { D with nx := u D } σ H) : tSeq (tPar i j ta) u D σ H := h
end
/-! ### what a diary is made of, and perhaps one of its calendars -/
structure Book where
  c : Int
  notes : List (Option Int)
  lines : List (Int × Int × Int)
  dates : Option (List Int)
def noteV : Option Int → V
  | none => .non
  | some i => .int i
def noteD : Option Int → PyData
  | none => .none
  | some i => .int i
def lineD (l : Int × Int × Int) : PyData := .tuple [.int l.1, .int l.2.1, .int l.2.2]
def datesD : Option (List Int) → PyData
  | none => .none
  | some xs => .tuple (xs.map .int)
def notesD (ns : List (Option Int)) : PyData := .tuple (ns.map noteD)
def linesD (ls : List (Int × Int × Int)) : PyData := .tuple (ls.map lineD)
def Book.d (b : Book) : PyData := .tuple [.int b.c, notesD b.notes, linesD b.lines, datesD b.dates]
/-- the days are a calendar -/
structure Cal (c : Int) (notes : List (Option Int)) (lines : List (Int × Int × Int)) (xs : List Int) : Prop where
  len : xs.length = notes.length
  days : ∀ (n : Nat) (i x : Int), notes[n]? = some (some i) → xs[n]? = some x → x % c = i
  gaps : ∀ l ∈ lines, ∀ x y : Int, xs[l.1.toNat]? = some x → xs[l.2.1.toNat]? = some y → y - x ≤ l.2.2
/-- values of a diary -/
structure DOK (c : Int) (notes : List (Option Int)) (lines : List (Int × Int × Int)) (w : Int) : Prop where
  c2 : 2 ≤ c
  c100 : c ≤ 100
  n1 : 1 ≤ notes.length
  n16 : notes.length ≤ 16
  note : ∀ i : Int, some i ∈ notes → 0 ≤ i ∧ i < c
  line : ∀ l ∈ lines, (0 ≤ l.1 ∧ l.1 < notes.length) ∧ (0 ≤ l.2.1 ∧ l.2.1 < notes.length) ∧ -w ≤ l.2.2 ∧ l.2.2 ≤ w
structure Book.OK (b : Book) (w : Int) (most : Nat) : Prop where
  dok : DOK b.c b.notes b.lines w
  many : b.lines.length ≤ most
  cal : ∀ xs, b.dates = some xs → Cal b.c b.notes b.lines xs
theorem Book.OK.le {b : Book} {w w' : Int} {q q' : Nat} (h : b.OK w q) (h1 : w ≤ w') (h2 : q ≤ q') : b.OK w' q' := by
  obtain ⟨⟨a1, a2, a3, a4, a5, a6⟩, h3, h4⟩ := h
  refine ⟨⟨a1, a2, a3, a4, a5, fun l hl => ?_⟩, by omega, h4⟩
  obtain ⟨x, y, z, u⟩ := a6 l hl
  exact ⟨x, y, by omega, by omega⟩
section
variable {H : Hp}
theorem fz_note : ∀ n : Option Int, Fz H (noteV n) (noteD n)
  | none => .non
  | some i => .int i
theorem fzs_notes : ∀ ns : List (Option Int), Fzs H (ns.map noteV) (ns.map noteD)
  | [] => .nil
  | n :: ns => .cons (fz_note n) (fzs_notes ns)
theorem fzs_notes_inv : ∀ {ns : List (Option Int)} {vs : List V}, Fzs H vs (ns.map noteD) → vs = ns.map noteV
  | [], _, h => by cases h; rfl
  | none :: ns, _, h => by
    cases h with
    | cons a b => rw [a.non_inv, fzs_notes_inv b]; rfl
  | some i :: ns, _, h => by
    cases h with
    | cons a b => rw [a.int_inv, fzs_notes_inv b]; rfl
theorem fz_line_inv {v : V} {l : Int × Int × Int} (h : Fz H v (lineD l)) : ∃ a, v = .ref a ∧ H a = some (.tup [.int l.1, .int l.2.1, .int l.2.2]) := by
  obtain ⟨a, xs, rfl, h1, h2⟩ := Fz.tup_inv h
  have e : xs = [V.int l.1, .int l.2.1, .int l.2.2] := Fzs.ints (is := [l.1, l.2.1, l.2.2]) h2
  exact ⟨a, rfl, by rw [h1, e]⟩
theorem fz_line {a : Addr} {o f h : Int} (e : H a = some (.tup [.int o, .int f, .int h])) : Fz H (.ref a) (lineD (o, f, h)) := .tup e (Fzs.of_ints [o, f, h])
theorem fz_notes_inv {v : V} {ns : List (Option Int)} (h : Fz H v (notesD ns)) : ∃ a, v = .ref a ∧ H a = some (.tup (ns.map noteV)) := by
  obtain ⟨a, xs, rfl, h1, h2⟩ := Fz.tup_inv h
  exact ⟨a, rfl, by rw [h1, fzs_notes_inv h2]⟩
theorem fz_notes {a : Addr} {ns : List (Option Int)} (e : H a = some (.tup (ns.map noteV))) : Fz H (.ref a) (notesD ns) := .tup e (fzs_notes ns)
theorem book_inv {v : V} {b : Book} (h : Fz H v b.d) : ∃ a na la dv, v = .ref a ∧ H a = some (.tup [.int b.c, .ref na, .ref la, dv]) ∧ H na = some (.tup (b.notes.map noteV)) ∧ (∃ rows, H la = some (.tup rows) ∧ Fzs H rows (b.lines.map lineD)) ∧ Fz H dv (datesD b.dates) := by
  obtain ⟨a, xs, rfl, h1, h2⟩ := Fz.tup_inv h
  cases h2 with
  | cons c1 h2 => cases h2 with
    | cons c2 h2 => cases h2 with
      | cons c3 h2 => cases h2 with
        | cons c4 h2 =>
          cases h2
          obtain ⟨na, rfl, hn⟩ := fz_notes_inv c2
          obtain ⟨la, rows, rfl, hl, hr⟩ := Fz.tup_inv c3
          rw [c1.int_inv] at h1
          exact ⟨a, na, la, _, rfl, h1, hn, ⟨rows, hl, hr⟩, c4⟩
theorem book_mk {a : Addr} {c : Int} {n l d : V} {ns : List (Option Int)} {ls : List (Int × Int × Int)} {ds : Option (List Int)} (h : H a = some (.tup [.int c, n, l, d])) (hn : Fz H n (notesD ns)) (hl : Fz H l (linesD ls)) (hd : Fz H d (datesD ds)) : Fz H (.ref a) (Book.d ⟨c, ns, ls, ds⟩) :=
  .tup h (.cons (.int c) (.cons hn (.cons hl (.cons hd .nil))))
end
theorem pl_mono' {n k : Nat} {d : PyData} (h : pl n d) (hk : n ≤ k) : pl k d := by
  induction hk with
  | refl => exact h
  | step _ ih => exact pl_mono ih
theorem pl_notes (ns : List (Option Int)) : pl 1 (notesD ns) := by
  show ∀ d ∈ ns.map noteD, pl 0 d
  intro d hd
  obtain ⟨n, _, rfl⟩ := List.mem_map.mp hd
  cases n <;> simp [noteD, pl]
theorem pl_line (l : Int × Int × Int) : pl 1 (lineD l) := by simp [lineD, pl]
theorem pl_lines (ls : List (Int × Int × Int)) : pl 2 (linesD ls) := by
  show ∀ d ∈ ls.map lineD, pl 1 d
  intro d hd
  obtain ⟨l, _, rfl⟩ := List.mem_map.mp hd
  exact pl_line l
theorem fzs_row {H : Hp} {rows : List V} {ls : List (Int × Int × Int)} (h : Fzs H rows (ls.map lineD)) {i : Nat} (hi : i < ls.length) : ∃ r, rows[i]? = some (.ref r) ∧ H r = some (.tup [.int ls[i].1, .int ls[i].2.1, .int ls[i].2.2]) := by
  obtain ⟨v, h1, h2⟩ := h.get_d (i := i) (d := lineD ls[i]) (by simp [hi])
  obtain ⟨r, rfl, h3⟩ := fz_line_inv h2
  exact ⟨r, h1, h3⟩
theorem dok_lines {c w w' : Int} {ns : List (Option Int)} {ls ls' : List (Int × Int × Int)} (h : DOK c ns ls w) (q : ∀ l ∈ ls', (l ∈ ls ∧ w ≤ w') ∨ ((0 ≤ l.1 ∧ l.1 < ns.length) ∧ (0 ≤ l.2.1 ∧ l.2.1 < ns.length) ∧ -w' ≤ l.2.2 ∧ l.2.2 ≤ w')) : DOK c ns ls' w' := by
  obtain ⟨a1, a2, a3, a4, a5, a6⟩ := h
  refine ⟨a1, a2, a3, a4, a5, fun l hl => ?_⟩
  rcases q l hl with ⟨h, hw⟩ | h
  · obtain ⟨x, y, z, u⟩ := a6 l h
    exact ⟨x, y, by omega, by omega⟩
  · exact h
theorem dok_notes {c w w' : Int} {ns ns' : List (Option Int)} {ls : List (Int × Int × Int)} (h : DOK c ns ls w) (hw : w ≤ w') (hl : ns'.length = ns.length) (q : ∀ i : Int, some i ∈ ns' → some i ∈ ns ∨ (0 ≤ i ∧ i < c)) : DOK c ns' ls w' := by
  obtain ⟨a1, a2, a3, a4, a5, a6⟩ := h
  refine ⟨a1, a2, by omega, by omega, fun i hi => ?_, fun l h => ?_⟩
  · rcases q i hi with h | h
    · exact a5 i h
    · exact h
  · obtain ⟨x, y, z, u⟩ := a6 l h
    rw [hl]
    exact ⟨x, y, by omega, by omega⟩
theorem cut_len {α : Type} (xs : List α) (i : Nat) (x : α) (h : i < xs.length) : (xs.take i ++ [x] ++ xs.drop (i + 1)).length = xs.length := by
  simp only [List.length_append, List.length_take, List.length_cons, List.length_nil, List.length_drop]
  omega
theorem cut_mem {α : Type} {xs : List α} {i : Nat} {x y : α} (h : y ∈ xs.take i ++ [x] ++ xs.drop (i + 1)) : y ∈ xs ∨ y = x := by
  simp only [List.mem_append, List.mem_cons, List.not_mem_nil, or_false] at h
  rcases h with (h | h) | h
  · exact Or.inl (List.mem_of_mem_take h)
  · exact Or.inr h
  · exact Or.inl (List.mem_of_mem_drop h)
/-! ### promises -/
def spSlack : Sp := fun vs H Q _ => ∃ (m c g : Addr) (B cy : Int), vs = [.ref m, .int cy] ∧ Pr m c g H H B ∧ B < 2 ^ 28 ∧ (2 ≤ cy ∧ cy ≤ 100) ∧ ∀ (k : Int) (H' : Hp), 0 ≤ k → k < 5 * cy → Pr m c g H H' (B + 4) → Q (.int k) H'
def spBook : Sp := fun vs H Q _ => ∃ (m c g : Addr) (B cy cr lm : Int), vs = [.ref m, .int cy, .int cr, .int lm] ∧ Pr m c g H H B ∧ B < 2 ^ 27 ∧ (2 ≤ cy ∧ cy ≤ 100) ∧ (1 ≤ cr ∧ cr ≤ 16) ∧ (0 ≤ lm ∧ lm ≤ 60) ∧
  ∀ (v : V) (b : Book) (H' : Hp), Fz H' v b.d → b.c = cy → b.notes.length = cr.toNat → b.OK 1000 lm.toNat → b.dates.isSome = true → Pr m c g H H' (B + 400) → Q v H'
def spBent : Sp := fun vs H Q _ => ∃ (m c g : Addr) (B : Int) (v : V) (b : Book) (wd : Int) (most : Nat), vs = [.ref m, v] ∧ Pr m c g H H B ∧ B < 2 ^ 27 ∧ Fz H v b.d ∧ b.OK wd most ∧ most ≤ 1000 ∧ wd < 2 ^ 40 ∧
  ∀ (v' : V) (b' : Book) (H' : Hp), Fz H' v' b'.d → b'.c = b.c → b'.notes.length = b.notes.length → b'.OK (wd + 201) most → b'.dates = none → Pr m c g H H' (B + 3) → Q v' H'
def spAnyBook : Sp := fun vs H Q _ => ∃ (m c g : Addr) (B peak : Int), vs = [.ref m, .int peak] ∧ Pr m c g H H B ∧ B < 2 ^ 26 ∧ (2 ≤ peak ∧ peak ≤ 16) ∧
  ∀ (v : V) (b : Book) (H' : Hp), Fz H' v b.d → 2 ≤ b.notes.length → b.OK 2000 48 → Pr m c g H H' (B + 500) → Q v H'
theorem Fzs.snoc {H : Hp} {vs : List V} {ds : List PyData} {v : V} {d : PyData} (h : Fzs H vs ds) (q : Fz H v d) : Fzs H (vs ++ [v]) (ds ++ [d]) := h.append (.cons q .nil)
end WL
set_option Elab.async false
set_option linter.all false
set_option maxRecDepth 100000
set_option maxHeartbeats 4000000
namespace WL
open PySem PySem.Spec PyProof.Rows L2
/-! ### enumerate over whatever begins a walk (a tuple too), without a start -/
theorem meets_enum1 {v : Value} {o : Obj} {Hb : Heap → Prop} (b : Begins v o Hb) : Meets (Builtin.«enumerate.__new__» { pos := [.type "enumerate", v] }) fun x R s => Hb s.heap ∧
    R (.ok (.ret (.ref (s.heap.push o).objs.size))) { heap := (s.heap.push o).push { cls := .type "enumerate", data := .fields #[.none, .bool false, .ref s.heap.objs.size, rawInt 0, .none, .none] }, gens := s.gens, drawn := s.drawn, toks := s.toks, os := s.os } := by
  refine Meets.of_wp fun prog w A R s h => ?_
  obtain ⟨hl, h⟩ := h
  refine wpAny_bind (id (wpAny_bind (id (wpAny_pure (wpAny_ite_false rfl (wpAny_bind (wpAny_of_eq sub_enumerate (wpAny_ite_false rfl (wpAny_pure (wpAny_ite_true rfl (wpAny_bind (id (wpAny_bind (wpAny_stack_any fun st => wpAny_pure ?_))))))))))))))
  have fin : wpAny (model prog w) A.in1 (pyIter v >>= fun it => Builtin.SmallTypes.newRecord (Value.type "enumerate") (Builtin.SmallTypes.ownedTupleFields ++ [it, rawInt 0, Value.none, Value.none]) >>= fun r => ret r) (fun fin s' => ∃ v, fin = Fin.done (Flow.ret v) ∧ R (Except.ok (Flow.ret v)) s') (fun e s' => R (Except.error e) s') s := by
    refine wpAny_bind (b.iter _ _ _ _ _ _ hl ?_)
    refine wpAny_bind ?_
    unfold Builtin.SmallTypes.newRecord
    show wpAny _ _ (newObj _ _) _ _ _
    unfold newObj
    show wpAny _ _ (if (Builtin.SmallTypes.ownedTupleFields ++ [Value.ref s.heap.objs.size, rawInt 0, Value.none, Value.none]).toArray.size > sizeLine + 2 then _ else newObjAsIs (.type "enumerate") (.fields (Builtin.SmallTypes.ownedTupleFields ++ [Value.ref s.heap.objs.size, rawInt 0, Value.none, Value.none]).toArray)) _ _ _
    refine wpAny_ite_false rfl ?_
    refine wpAny_bind (wpAny_alloc' (wpAny_pure ?_))
    exact wpAny_pure ⟨_, rfl, h⟩
  split
  · next c tl kw snd t2 _ =>
    cases hc : (c == Value.type "enumerate") with
    | false =>
      refine wpAny_ite_false rfl (wpAny_bind ?_)
      show wpAny _ _ (pure (v, none)) _ _ _
      exact wpAny_pure fin
    | true =>
      refine wpAny_ite_true rfl (wpAny_bind ?_)
      exact wpAny_pure fin
  · refine wpAny_ite_false rfl (wpAny_bind ?_)
    show wpAny _ _ (pure (v, none)) _ _ _
    exact wpAny_pure fin
theorem call_enum1 {prog : Program} {w : World} {A : Around} {E : Value → Shared → Prop} {s : Shared} {v : Value} {o : Obj} {Hb : Heap → Prop} {Q : Value → Shared → Prop} (b : Begins v o Hb) (hH : Hb s.heap)
    (h : ∀ h' : Heap, IsEnum h' (s.heap.objs.size + 1) s.heap.objs.size 0 .none → h'.get? s.heap.objs.size = some o → (∀ (b : Addr) (u : Obj), s.heap.get? b = some u → h'.get? b = some u) → Q (.ref (s.heap.objs.size + 1)) { heap := h', gens := s.gens, drawn := s.drawn, toks := s.toks, os := s.os }) :
    wpAny (model prog w) A (call (.type "enumerate") [v]) Q E s := by
  refine callType_new F.called_enumerate (of_decide_eq_true (id (Eq.refl true))) (F.typeCall_enumerate_1 v) (F.newCall_enumerate_1 v) (fun obj => F.args_object_init_2 obj v) F.entry_enumerate_new (meets_enum1 b) ⟨hH, ?_⟩
  have hz := Heap.size_push s.heap o
  have he := Heap.get?_push_size (s.heap.push o) (o := { cls := .type "enumerate", data := .fields #[.none, .bool false, .ref s.heap.objs.size, rawInt 0, .none, .none] }) rfl
  rw [hz] at he ⊢
  refine ⟨⟨_, he, rfl⟩, h _ he ?_ ?_⟩
  · rw [Heap.get?_push_ne _ _ _ (by rw [hz]; exact Nat.ne_of_lt (Nat.lt_succ_self _))]
    exact Heap.get?_push_size s.heap b.free
  · intro c u hc
    exact Heap.get?_push_of_some _ (Heap.get?_push_of_some _ hc)
/-- what enumerate of the tuple at a gives -/
def IteT (K : PySem.W.Frag) (a : Addr) (xs : List V) : It where
  go := fun i H => SqT K H a xs ∧ i < xs.length
  yld := fun i H v H' => ∃ T x, v = .ref T ∧ H T = none ∧ H' = upd H T (.tup [.int (i : Nat), x]) ∧ xs[i]? = some x
  stop := fun i H => SqT K H a xs ∧ i = xs.length
def iEnumT (K : PySem.W.Frag) (ta : TA) : TI := fun σ H R => ta σ H fun vs H1 => ∃ a xs, vs = [.ref a] ∧ SqT K H1 a xs ∧ R (IteT K a xs) H1
theorem turn_enumT {P : Program} {w : World} {K : PySem.W.Frag} {elts : List Expr} {kk : Nat} {tpos : Pos} (a e it : Addr) (xs : List V) :
    Turn P w K (.Tuple elts kk tpos) (IteT K a xs) [e, it] e fun i h => (∃ old, IsEnum h e it (i : Nat) old) ∧ h.IsTupleIter it a i ∧ e ≠ it ∧ a ≠ it ∧ a ≠ e where
  mem := by simp
  obj := by
    rintro i h ⟨⟨old, he⟩, ⟨o, ho, hc, hd⟩, _⟩ b hb
    simp only [List.mem_cons, List.not_mem_nil, or_false] at hb
    rcases hb with rfl | rfl
    · exact ⟨_, he, fun v q => by cases q⟩
    · exact ⟨_, ho, fun v q => by rw [hd] at q; cases q⟩
  keep := by
    rintro i h h' ⟨⟨old, he⟩, hi, hne⟩ k
    exact ⟨⟨old, k e (by simp) _ he⟩, Heap.IsTupleIter.at hi (fun o q => k it (by simp) o q), hne⟩
  item := by
    intro X hP hw hK hc i pins s σ H E I hf st hg
    subst hP; subst hw; subst hK
    obtain ⟨⟨old, he⟩, hit, hne, h1, h2⟩ := st
    obtain ⟨hq, hlt⟩ := hg
    obtain ⟨its, rv, ht, hz⟩ := Inv.tuple I hq
    obtain ⟨u, hu, ru⟩ := Vals.get rv (i := i) (x := xs[i]) (by simp [hlt])
    have hel := Heap.lt_size he
    have hil : it < s.heap.objs.size := by obtain ⟨o, ho, _⟩ := hit; exact Heap.lt_size ho
    have hln := rv.length
    have htt : s.heap.IsTuple a its.toArray := ht
    refine wpAny_pyNext_enum_itemD (Draws.tuple (A := X.A.in1) (show X.A.in1.handled = none from I.ok.hd hc) it a h1 its.toArray) he ⟨hit, htt⟩ (by simp only [List.size_toArray]; omega) hne (by simp [hne, Ne.symm h2]) fun x h' tk hx ho hst hT hsz hk => ?_
    have ex : x = u := by
      have : its[i]? = some x := by simpa using hx
      rw [hu] at this
      exact (Option.some.inj this).symm
    subst ex
    refine ⟨_, rfl, wpAny_letOwnedTupleGo_enum ho fun h'' he' sb => ?_⟩
    have hT2 := (sb.2 s.heap.objs.size (Nat.ne_of_gt hel)).trans hT
    have I1 := Inv.turnedNew (h' := h'') (ch := [e, it]) (T := s.heap.objs.size) (ob := .tup [.int (i : Nat), xs[i]]) (t' := tk + 1) I
      (fun b ob hb q => (sb.2 b (fun z => hb (by simp [z]))).trans (hk b ob (fun z => hb (by simp [z])) (fun z => hb (by simp [z])) q)) hf (Nat.le_refl _)
      ⟨sz (by simp), [.int (i : Nat) tk, x], .cons ⟨tk, rfl⟩ (.cons ru .nil), _, hT2, rfl, 0, rfl⟩
    refine ⟨.ref s.heap.objs.size, _, I1, rfl, ⟨_, _, rfl, HOk.fresh I.hok (Nat.le_refl _), rfl, by simp [hlt]⟩, ⟨⟨x, he'⟩, ?_, hne, h1, h2⟩, fun b hb => ?_⟩
    · exact Heap.IsTupleIter.at hst.1 (fun o q => (sb.2 it (Ne.symm hne)).trans q)
    · have hb' : b < s.heap.objs.size := by
        simp only [List.mem_cons, List.not_mem_nil, or_false] at hb
        rcases hb with rfl | rfl
        · exact hel
        · exact hil
      rw [upd_ne (Nat.ne_of_lt hb')]
      exact (hf b hb).1
  done := by
    intro X hP hw hK hc i pins s σ H E I hf st hg
    subst hP; subst hw; subst hK
    obtain ⟨⟨old, he⟩, hit, hne, h1, h2⟩ := st
    obtain ⟨hq, hle⟩ := hg
    obtain ⟨its, rv, ht, hz⟩ := Inv.tuple I hq
    have hln := rv.length
    obtain ⟨f0, f1, f2, f3, f4, f5⟩ := hf it (by simp)
    have hi : i = its.toArray.size := by simp only [List.size_toArray]; omega
    subst hi
    refine wpAny_pyNext_enum_endD (Draws.tuple (A := X.A.in1) (show X.A.in1.handled = none from I.ok.hd hc) it a h1 its.toArray) he ⟨hit, ht⟩ fun h' eb => ⟨rfl, ?_⟩
    exact Inv.turned I (fun b o hb q => eb b o hb q) f0 f1 f3 f4 f5
  self := by
    rintro A i s Q E ⟨⟨old, he⟩, _⟩ h
    exact wpAny_pyIter_enum he h
theorem pi_enumT {X : Cx} {e : Expr} {ta : TA} {p pos tpos : Pos} {elts : List Expr} {kk : Nat} (hg : Gl X "enumerate") (hm : X.mg "enumerate" = none) (ha : PA X [e] ta) (hs : starEach [e] X.env = [(false, eval e X.env)] := by rfl) :
    PI X (.Tuple elts kk tpos) (.Call (.Name "enumerate" p) [e] [] pos) (iEnumT X.K ta) := by
  constructor
  intro pins s σ H R I h
  refine PyProof.Rows.Call_ (ld_blt I hg hm PyProof.Rows.boot_enumerate (PyProof.Rows.callWith_type1 (thn (ha.run pos pins s σ H _ I h) ?_) hs rfl))
  rintro us s1 ⟨vs, H1, I1, r1, a, xs, rfl, hq, q⟩
  cases r1 with
  | cons r rr =>
    cases rr
    cases r
    obtain ⟨its, rv, ht, hz⟩ := Inv.tuple I1 hq
    have hlt : a < s1.heap.objs.size := by obtain ⟨o, ho, _⟩ := ht; exact Heap.lt_size ho
    refine call_enum1 (begins_tuple a its.toArray) ht fun h' he hit hk => ?_
    refine wpAny_pyIter_enum he ?_
    have I2 := Inv.kept (t' := s1.toks) I1 hk
    refine ⟨_, [s1.heap.objs.size + 1, s1.heap.objs.size], _, IteT X.K a xs, H1, rfl, I2, turn_enumT a (s1.heap.objs.size + 1) s1.heap.objs.size xs, ⟨⟨_, he⟩, ⟨_, hit, rfl, rfl⟩, Nat.succ_ne_self _, Nat.ne_of_lt hlt, Nat.ne_of_lt (Nat.lt_succ_of_lt hlt)⟩, fun b hb => ?_, q⟩
    have hle : s1.heap.objs.size ≤ b := by
      simp only [List.mem_cons, List.not_mem_nil, or_false] at hb
      rcases hb with rfl | rfl
      · exact Nat.le_succ _
      · exact Nat.le_refl _
    exact Inv.fpOk I1 hle (HOk.fresh I1.hok hle)
theorem g_enumT {K : PySem.W.Frag} {σ : L2.St} {H : Hp} {ta : TA} {R : It → Hp → Prop} (h : ta σ H fun vs H1 => ∃ a xs, vs = [.ref a] ∧ SqT K H1 a xs ∧ R (IteT K a xs) H1) : iEnumT K ta σ H R := h
theorem g_one'T {K : PySem.W.Frag} {a : Addr} {xs : List V} {H : Hp} {P : Addr → List V → Prop} (h1 : SqT K H a xs) (h : P a xs) : ∃ a' xs', [V.ref a] = [V.ref a'] ∧ SqT K H a' xs' ∧ P a' xs' := ⟨a, xs, rfl, h1, h⟩
theorem ForQ.enumT {K : PySem.W.Frag} {g : TG} {tb : TS} {D : Ends} {σ : L2.St} {H1 : Hp} {a : Addr} {xs : List V} (I : Nat → L2.St → Hp → Prop) (h0 : I 0 σ H1) (hl : ∀ i σ H, i ≤ xs.length → I i σ H → SqT K H a xs)
    (hs : ∀ (i : Nat) (x : V) (T : Addr) (σ : L2.St) (H : Hp), xs[i]? = some x → I i σ H → H T = none → g (.ref T) σ (upd H T (.tup [.int (i : Nat), x])) fun σ2 H2 => tb { D with nx := I (i + 1), ct := I (i + 1), bk := D.nx } σ2 H2) (hd : ∀ σ H, I xs.length σ H → D.nx σ H) : ForQ g tb D σ (IteT K a xs) H1 := by
  refine ⟨fun i m σ H => i ≤ xs.length ∧ m = xs.length - i ∧ I i σ H, ⟨_, Nat.zero_le _, rfl, h0⟩, ?_⟩
  intro i m σ H ⟨hi, hm, hp⟩
  have hS := hl i σ H hi hp
  by_cases e : i = xs.length
  · subst e
    exact Or.inl ⟨⟨hS, rfl⟩, hd _ _ hp⟩
  · have hlt : i < xs.length := by omega
    refine Or.inr ⟨⟨hS, hlt⟩, I (i + 1), fun σ' H' h => ⟨xs.length - (i + 1), by omega, by omega, rfl, h⟩, ?_⟩
    intro v H' hy
    obtain ⟨T, x, e1, hT, e2, hx⟩ := hy
    subst e1; subst e2
    exact hs i x T σ H hx hp hT
end WL
set_option Elab.async false
set_option linter.all false
set_option maxRecDepth 100000
set_option maxHeartbeats 4000000
namespace WL
open PySem PySem.Spec PyProof.Rows L2
/-! ### any value, by its shape -/
inductive Sh where
  | non | bl | str | lst | dct
  | int (i : Int)
  | tup (ss : List Sh)
def Sh.isInt : Sh → Bool
  | .int _ => true
  | _ => false
def Sh.isNon : Sh → Bool
  | .non => true
  | _ => false
def Sh.within (lo hi : Int) : Sh → Bool
  | .int i => decide (lo ≤ i) && decide (i ≤ hi)
  | _ => false
def Sh.sized (lo hi : Int) : Sh → Bool
  | .tup ss => decide (lo ≤ (ss.length : Int)) && decide ((ss.length : Int) ≤ hi)
  | _ => false
mutual
inductive AnS (K : PySem.W.Frag) (H : Hp) : V → Sh → Prop
  | non : AnS K H .non .non
  | bl (b : Bool) : AnS K H (.bl b) .bl
  | int (i : Int) : AnS K H (.int i) (.int i)
  | str (x : Str) : AnS K H (.str x) .str
  | lst {a : Addr} {xs : List V} : SqL K H a xs → AnS K H (.ref a) .lst
  | dct {a : Addr} {kvs : List (Key × V)} : H a = some (.dK kvs) → AnS K H (.ref a) .dct
  | tup {a : Addr} {xs : List V} {ss : List Sh} : SqT K H a xs → AnSs K H xs ss → AnS K H (.ref a) (.tup ss)
inductive AnSs (K : PySem.W.Frag) (H : Hp) : List V → List Sh → Prop
  | nil : AnSs K H [] []
  | cons {v : V} {s : Sh} {vs : List V} {ss : List Sh} : AnS K H v s → AnSs K H vs ss → AnSs K H (v :: vs) (s :: ss)
end
section
variable {K : PySem.W.Frag} {H H' : Hp}
mutual
theorem AnS.same (k : ∀ b o, H b = some o → H' b = some o) : ∀ {v : V} {s : Sh}, AnS K H v s → AnS K H' v s
  | _, _, .non => .non
  | _, _, .bl b => .bl b
  | _, _, .int i => .int i
  | _, _, .str x => .str x
  | _, _, .lst h => .lst (SqL.same h k)
  | _, _, .dct h => .dct (k _ _ h)
  | _, _, .tup h q => .tup (SqT.same h k) (q.same k)
theorem AnSs.same (k : ∀ b o, H b = some o → H' b = some o) : ∀ {vs : List V} {ss : List Sh}, AnSs K H vs ss → AnSs K H' vs ss
  | _, _, .nil => .nil
  | _, _, .cons h q => .cons (h.same k) (q.same k)
end
theorem AnSs.length : ∀ {vs : List V} {ss : List Sh}, AnSs K H vs ss → vs.length = ss.length
  | _, _, .nil => rfl
  | _, _, .cons _ h => congrArg Nat.succ h.length
theorem AnSs.get : ∀ {vs : List V} {ss : List Sh}, AnSs K H vs ss → ∀ {i : Nat} {v : V}, vs[i]? = some v → ∃ s, ss[i]? = some s ∧ AnS K H v s
  | _, _, .nil, _, _, e => by simp at e
  | _, _, .cons h q, 0, v, e => ⟨_, rfl, by simp at e; subst e; exact h⟩
  | _, _, .cons h q, i + 1, v, e => by
    obtain ⟨s, e1, f⟩ := q.get (i := i) (v := v) (by simpa using e)
    exact ⟨s, by simpa using e1, f⟩
/-- the class of a value, by its shape -/
def Sh.ty : Sh → String
  | .non => "NoneType"
  | .bl => "bool"
  | .str => "str"
  | .lst => "list"
  | .dct => "dict"
  | .int _ => "int"
  | .tup _ => "tuple"
theorem AnS.ty : ∀ {v : V} {s : Sh}, AnS K H v s → TyX K H v (.type s.ty)
  | _, _, .non => .base .non
  | _, _, .bl b => .base (.bl b)
  | _, _, .int i => .base (.int i)
  | _, _, .str x => .base (.str x)
  | _, _, .lst (.inl (.inl h)) => .base (.lst h)
  | _, _, .lst (.inl (.inr ⟨_, h⟩)) => .base (.frz h)
  | _, _, .lst (.inr ⟨o, _, _, h, c, _⟩) => .kList h c
  | _, _, .dct h => .base (.dK h)
  | _, _, .tup (.inl (.inl h)) _ => .base (.tup h)
  | _, _, .tup (.inl (.inr ⟨_, h⟩)) _ => .fTuple h
  | _, _, .tup (.inr ⟨o, _, _, h, c, _⟩) _ => .kTuple h c
theorem isi_int (K : PySem.W.Frag) : ∀ s : Sh, PySem.W.kitOne K (.type s.ty) (.type "int") = some (s.isInt || s.ty == "bool")
  | .non => rfl
  | .bl => rfl
  | .str => rfl
  | .lst => rfl
  | .dct => rfl
  | .int _ => rfl
  | .tup _ => rfl
theorem isi_bool (K : PySem.W.Frag) : ∀ s : Sh, PySem.W.kitOne K (.type s.ty) (.type "bool") = some (s.ty == "bool")
  | .non => rfl
  | .bl => rfl
  | .str => rfl
  | .lst => rfl
  | .dct => rfl
  | .int _ => rfl
  | .tup _ => rfl
theorem isi_tup (K : PySem.W.Frag) : ∀ s : Sh, PySem.W.kitOne K (.type s.ty) (.type "tuple") = some (s.ty == "tuple")
  | .non => rfl
  | .bl => rfl
  | .str => rfl
  | .lst => rfl
  | .dct => rfl
  | .int _ => rfl
  | .tup _ => rfl
end
section
variable {K : PySem.W.Frag} {σ : L2.St} {H : Hp} {Q : VK}
theorem g_isi {x : V} {s : Sh} {T : String} {b : Bool} (h : AnS K H x s) (e : PySem.W.kitOne K (.type s.ty) (.type T) = some b) (q : Q (.bl b) H) : rIsi K [x, .ty T] H Q := ⟨x, .ty T, _, _, b, rfl, .ty T, h.ty, e, q⟩
theorem g_andV {ta tb : TE} (h : ta σ H fun x H1 => ∃ c, x = V.bl c ∧ if c = true then tb σ H1 Q else Q (.bl false) H1) : tAndV ta tb σ H Q := h
theorem g_orV {ta tb : TE} (h : ta σ H fun x H1 => ∃ c, x = V.bl c ∧ if c = true then Q (.bl true) H1 else tb σ H1 Q) : tOrV ta tb σ H Q := h
theorem g_notV {ta : TE} (h : ta σ H fun x H1 => ∃ c, x = V.bl c ∧ Q (.bl !c) H1) : tNotV ta σ H Q := h
theorem g_tB {t : TE} {Q : Bool → Hp → Prop} (h : t σ H fun x H1 => ∃ c, x = V.bl c ∧ Q c H1) : tB t σ H Q := h
theorem g_chain {r r' : R2} {ta tb tc : TE} (h : ta σ H fun x H1 => tb σ H1 fun y H2 => r x y H2 fun z H3 => ∃ k, z = V.bl k ∧ if k = true then tc σ H3 fun w' H4 => r' y w' H4 Q else Q (V.bl false) H3) : tChain r r' ta tb tc σ H Q := h
theorem g_neg {i : Int} {g : Int → V} (h : Q (g i) H) : rU g (.int i) H Q := ⟨i, rfl, h⟩
theorem g_cval {K : PySem.W.Frag} {ta : TE} {f : Str} (h : ta σ H fun x H1 => ∃ C mc v u, x = .ref C ∧ ClX.CRead K C mc ∧ ClX.CVal K C mc f v u ∧ Q v H1) : ClX.tCVal K ta f σ H Q := h
end
theorem g_iftn {A B : Prop} (h : A) : if (!false) = true then A else B := h
theorem g_iffn {A B : Prop} (h : B) : if (!true) = true then A else B := h
theorem ps_no {X : Cx} {s : Stmt} : PS X s (fun _ _ _ => False) := by
  constructor
  intros
  contradiction
theorem pe_ref {X : Cx} {x : Str} {a : Addr} {pos : Pos} (hm : X.mg x = some (.ref a)) (hg : Gl X x := by rfl) (h1 : x ≠ "__name__" := by decide) (h2 : (x == ("__debug__" : Str)) = false := by decide) : PE X (.Name x pos) (tC (.ref a)) := by first | exact pe_glob hg hm rfl h1 h2 | exact pe_glob hg hm rfl h2
/-- the class Diary: where it stands, its class values -/
structure Dia (K : PySem.W.Frag) (mg : Str → Option Value) (DC : Addr) : Prop where
  at_ : mg "Diary" = some (.ref DC)
  rd : ∃ mc, ClX.CRead K DC mc ∧ (∃ u, ClX.CVal K DC mc "MAX_MODULUS" (.int 100) u) ∧ (∃ u, ClX.CVal K DC mc "MAX_EVENTS" (.int 16) u) ∧ (∃ u, ClX.CVal K DC mc "MAX_BOUNDS" (.int 60) u) ∧ ∃ u, ClX.CVal K DC mc "MAX_DAYS" (.int 1000000000) u
section
variable {K : PySem.W.Frag} {mg : Str → Option Value} {DC : Addr} (h : Dia K mg DC) {P : V → Prop}
include h
theorem Dia.modulus (q : P (.int 100)) : ∃ C mc v u, V.ref DC = .ref C ∧ ClX.CRead K C mc ∧ ClX.CVal K C mc "MAX_MODULUS" v u ∧ P v := by
  obtain ⟨mc, r, ⟨u, c⟩, _⟩ := h.rd
  exact ⟨DC, mc, _, u, rfl, r, c, q⟩
theorem Dia.events (q : P (.int 16)) : ∃ C mc v u, V.ref DC = .ref C ∧ ClX.CRead K C mc ∧ ClX.CVal K C mc "MAX_EVENTS" v u ∧ P v := by
  obtain ⟨mc, r, _, ⟨u, c⟩, _⟩ := h.rd
  exact ⟨DC, mc, _, u, rfl, r, c, q⟩
theorem Dia.bounds (q : P (.int 60)) : ∃ C mc v u, V.ref DC = .ref C ∧ ClX.CRead K C mc ∧ ClX.CVal K C mc "MAX_BOUNDS" v u ∧ P v := by
  obtain ⟨mc, r, _, _, ⟨u, c⟩, _⟩ := h.rd
  exact ⟨DC, mc, _, u, rfl, r, c, q⟩
theorem Dia.days (q : P (.int 1000000000)) : ∃ C mc v u, V.ref DC = .ref C ∧ ClX.CRead K C mc ∧ ClX.CVal K C mc "MAX_DAYS" v u ∧ P v := by
  obtain ⟨mc, r, _, _, _, u, c⟩ := h.rd
  exact ⟨DC, mc, _, u, rfl, r, c, q⟩
end
/-! ### what is wrong with a diary's values, by their shapes -/
def Sh.bound (many : Int) : Sh → Bool
  | .tup [a, b, c] => a.within 0 (many - 1) && b.within 0 (many - 1) && c.within (-1000000000) 1000000000
  | _ => false
def Sh.note (c : Int) (s : Sh) : Bool := s.isNon || s.within 0 (c - 1)
def firstNot (p : Sh → Bool) (ss : List Sh) : Option Nat := ss.findIdx? fun s => !p s
/-- none: nothing is wrong; some none: the whole; some (some i): item i -/
def rowFault (lo hi : Int) (p : Sh → Bool) (s : Sh) : Option (Option Nat) :=
  if s.sized lo hi then
    match s with
    | .tup ss => (firstNot p ss).map some
    | _ => some none
  else some none
theorem firstNot_some {p : Sh → Bool} {ss : List Sh} {i : Nat} {s : Sh} (h : ss[i]? = some s) (hp : p s = false) (ha : ∀ j s', j < i → ss[j]? = some s' → p s' = true) : firstNot p ss = some i := by
  have hi : i < ss.length := by
    rcases Nat.lt_or_ge i ss.length with q | q
    · exact q
    · rw [List.getElem?_eq_none q] at h; exact absurd h (by simp)
  have e : ss[i] = s := by rw [List.getElem?_eq_getElem hi] at h; exact Option.some.inj h
  refine List.findIdx?_eq_some_iff_getElem.mpr ⟨hi, by rw [e, hp]; rfl, fun j hj => ?_⟩
  rw [ha j ss[j] hj (by simp)]
  decide
theorem firstNot_none {p : Sh → Bool} {ss : List Sh} (ha : ∀ (j : Nat) s', ss[j]? = some s' → p s' = true) : firstNot p ss = none := by
  refine List.findIdx?_eq_none_iff.mpr fun s hs => ?_
  obtain ⟨j, hj, e⟩ := List.getElem_of_mem hs
  rw [ha j s (by rw [List.getElem?_eq_getElem hj, e])]
  decide
theorem firstNot_inv {p : Sh → Bool} {ss : List Sh} (h : firstNot p ss = none) {s : Sh} (hs : s ∈ ss) : p s = true := by
  have := List.findIdx?_eq_none_iff.mp h s hs
  cases hp : p s with
  | true => rfl
  | false => rw [hp] at this; exact absurd this (by decide)
def itemV : Option Nat → V
  | none => .non
  | some i => .int (i : Nat)
def spNum (K : PySem.W.Frag) : Sp := fun vs H Q _ => ∃ (x : V) (s : Sh), vs = [x] ∧ AnS K H x s ∧ Q (.bl s.isInt) H
def spWithin (K : PySem.W.Frag) : Sp := fun vs H Q _ => ∃ (x : V) (s : Sh) (lo hi : Int), vs = [x, .int lo, .int hi] ∧ AnS K H x s ∧ Q (.bl (s.within lo hi)) H
def spTupOf (K : PySem.W.Frag) : Sp := fun vs H Q _ => ∃ (x : V) (s : Sh) (lo hi : Int), vs = [x, .int lo, .int hi] ∧ AnS K H x s ∧ Q (.bl (s.sized lo hi)) H
def spBound (K : PySem.W.Frag) : Sp := fun vs H Q _ => ∃ (x : V) (s : Sh) (many : Int), vs = [x, .int many] ∧ AnS K H x s ∧ Q (.bl (s.bound many)) H
def spRowF (K : PySem.W.Frag) (first : V → V → List V) (word : Str) (lo hi : Int) (p : Int → Sh → Bool) : Sp := fun vs H Q _ => ∃ (x : V) (s : Sh) (c : Int), vs = first x (.int c) ∧ AnS K H x s ∧
  (rowFault lo hi (p c) s = none → ∀ H', Nt H H' → Q .non H') ∧ (∀ it, rowFault lo hi (p c) s = some it → ∀ a H', Nt H H' → H' a = some (.tup [.str word, itemV it]) → Q (.ref a) H')
def restFault (w b : Sh) : Option (Str × Option Nat) := match w with
  | .tup ss => (rowFault 0 60 (Sh.bound ss.length) b).map fun it => ("bounds", it)
  | _ => some ("weekdays", none)
def wordFault (c : Int) (w b : Sh) : Option (Str × Option Nat) := match rowFault 1 16 (Sh.note c) w with
  | some it => some ("weekdays", it)
  | none => restFault w b
/-- the word and the item of what is wrong first -/
def diaryFault (m w b : Sh) : Option (Str × Option Nat) :=
  if m.within 2 100 then
    match m with
    | .int c => wordFault c w b
    | _ => some ("modulus", none)
  else some ("modulus", none)
theorem diaryFault_int {c : Int} {w b : Sh} (h : Sh.within 2 100 (.int c) = true) : diaryFault (.int c) w b = wordFault c w b := by
  unfold diaryFault
  rw [if_pos h]
theorem wordFault_some {c : Int} {w b : Sh} {it : Option Nat} (h : rowFault 1 16 (Sh.note c) w = some it) : wordFault c w b = some (("weekdays" : Str), it) := by
  unfold wordFault
  rw [h]
theorem wordFault_tup {c : Int} {ss : List Sh} {b : Sh} (h : rowFault 1 16 (Sh.note c) (.tup ss) = none) : wordFault c (.tup ss) b = (rowFault 0 60 (Sh.bound ss.length) b).map fun it => (("bounds" : Str), it) := by
  unfold wordFault
  rw [h]
  rfl
def spDiaryF (K : PySem.W.Frag) : Sp := fun vs H Q _ => ∃ (x y z : V) (m w b : Sh), vs = [x, y, z] ∧ AnS K H x m ∧ AnS K H y w ∧ AnS K H z b ∧
  (diaryFault m w b = none → ∀ H', Nt H H' → Q .non H') ∧ (∀ word it, diaryFault m w b = some (word, it) → ∀ a H', Nt H H' → H' a = some (.tup [.str word, itemV it]) → Q (.ref a) H')
end WL
set_option Elab.async false
set_option linter.all false
set_option maxRecDepth 100000
set_option maxHeartbeats 4000000
namespace WL
open PySem PySem.Spec PyProof.Rows L2
/-! ### objects of the class Diary -/
/-- what the model's facts say of the class -/
structure DiaO (K : PySem.W.Frag) (DC : Addr) : Prop where
  cls : Cls K DC
  n1 : NoAttr K DC "_modulus"
  n2 : NoAttr K DC "_weekdays"
  n3 : NoAttr K DC "_bounds"
  same : PySem.W.kitOne K (.ref DC) (.ref DC) = some true
  other : ∀ s : Sh, PySem.W.kitOne K (.type s.ty) (.ref DC) = some false
  g1 : PySem.W.findIn K (.ref DC) "__class__" = some (some (.builtin "object.__class__"))
  g2 : PySem.W.specialIn K (.builtin "object.__class__") "__get__" = some (some (.builtin "getset_descriptor.__get__"))
  g3 : PySem.W.takesIn K (.builtin "object.__class__") = some true
  g4 : PySem.W.mroIn K DC (.type "object") = some true
theorem DiaO.ty {K : PySem.W.Frag} {DC a dx : Addr} {fs : List (Str × V)} {H : Hp} (D : DiaO K DC) (h : H a = some (.ins DC dx fs)) : TyX K H (.ref a) (.ref DC) := .base (.ins h D.cls D.g1 D.g2 D.g3 D.g4)
/-- the fields of a diary -/
def dFs (x y z : V) : List (Str × V) := [("_modulus", x), ("_weekdays", y), ("_bounds", z)]
/-- objects stay what they are -/
def Ik (H H' : Hp) : Prop := ∀ b C dx fs, H b = some (.ins C dx fs) → H' b = some (.ins C dx fs)
theorem Ik.refl {H : Hp} : Ik H H := fun _ _ _ _ h => h
theorem Ik.trans {H H1 H2 : Hp} (a : Ik H H1) (b : Ik H1 H2) : Ik H H2 := fun _ _ _ _ h => b _ _ _ _ (a _ _ _ _ h)
theorem Ik.same {H H' : Hp} (a : ∀ b o, H b = some o → H' b = some o) : Ik H H' := fun b _ _ _ h => a b _ h
theorem Ik.new {H : Hp} {p : Addr} {o : HO} (n : H p = none) : Ik H (upd H p o) := fun b _ _ _ h => by
  rw [upd_ne (ne_of_none h n)]; exact h
theorem Pr.ik {m c g : Addr} {H0 H : Hp} {B B' : Int} (p : Pr m c g H0 H B) (q : Pr m c g H0 H0 B') : Ik H0 H := fun b C dx fs h => by
  obtain ⟨k, _, d⟩ := q.dr
  obtain ⟨l, _, hg⟩ := d.great
  have hm := d.dict
  refine p.but _ _ (fun e => ?_) (fun e => ?_) h
  · subst e; rw [h] at hm; exact absurd hm (by simp)
  · subst e; rw [h] at hg; exact absurd hg (by simp)
def spDInit (K : PySem.W.Frag) (DC : Addr) : Sp := fun vs H Q _ => ∃ (a dx : Addr) (x y z : V) (m w b : Sh), vs = [.ref a, x, y, z] ∧ H a = some (.ins DC dx []) ∧ AnS K H x m ∧ AnS K H y w ∧ AnS K H z b ∧ diaryFault m w b = none ∧
  ∀ H', H' a = some (.ins DC dx (dFs x y z)) → (∀ b o, b ≠ a → H b = some o → H' b = some o) → Q .non H'
def spGetF (DC : Addr) (f : Str) : Sp := fun vs H Q _ => ∃ (a dx : Addr) (fs : List (Str × V)) (v : V), vs = [.ref a] ∧ H a = some (.ins DC dx fs) ∧ fs.lookup f = some v ∧ Q v H
/-- a diary of these values at v -/
def DiaAt (DC : Addr) (H : Hp) (v : V) (c : Int) (ns : List (Option Int)) (ls : List (Int × Int × Int)) : Prop := ∃ a dx wv bv, v = .ref a ∧ H a = some (.ins DC dx (dFs (.int c) wv bv)) ∧ Fz H wv (notesD ns) ∧ Fz H bv (linesD ls)
theorem DiaAt.keep {DC : Addr} {H H' : Hp} {v : V} {c : Int} {ns : List (Option Int)} {ls : List (Int × Int × Int)} (h : DiaAt DC H v c ns ls) (t : Tk H H') (i : Ik H H') : DiaAt DC H' v c ns ls := by
  obtain ⟨a, dx, wv, bv, e, h1, h2, h3⟩ := h
  exact ⟨a, dx, wv, bv, e, i _ _ _ _ h1, h2.tk t, h3.tk t⟩
section
variable {K : PySem.W.Frag} {σ : L2.St} {H : Hp} {Q : VK} {D : Ends}
theorem g_fld {ta : TE} {f : Str} (h : ta σ H fun x H1 => ∃ a C dx fs v, x = .ref a ∧ H1 a = some (.ins C dx fs) ∧ Cls K C ∧ NoAttr K C f ∧ fs.lookup f = some v ∧ Q v H1) : tFld K ta f σ H Q := h
theorem g_f1 {DC a dx : Addr} {x y z : V} {P : V → Prop} (d : DiaO K DC) (h : H a = some (.ins DC dx (dFs x y z))) (q : P x) : ∃ a' C dx' fs v, V.ref a = .ref a' ∧ H a' = some (.ins C dx' fs) ∧ Cls K C ∧ NoAttr K C "_modulus" ∧ fs.lookup ("_modulus" : Str) = some v ∧ P v := ⟨a, DC, dx, _, x, rfl, h, d.cls, d.n1, rfl, q⟩
theorem g_f2 {DC a dx : Addr} {x y z : V} {P : V → Prop} (d : DiaO K DC) (h : H a = some (.ins DC dx (dFs x y z))) (q : P y) : ∃ a' C dx' fs v, V.ref a = .ref a' ∧ H a' = some (.ins C dx' fs) ∧ Cls K C ∧ NoAttr K C "_weekdays" ∧ fs.lookup ("_weekdays" : Str) = some v ∧ P v := ⟨a, DC, dx, _, y, rfl, h, d.cls, d.n2, rfl, q⟩
theorem g_f3 {DC a dx : Addr} {x y z : V} {P : V → Prop} (d : DiaO K DC) (h : H a = some (.ins DC dx (dFs x y z))) (q : P z) : ∃ a' C dx' fs v, V.ref a = .ref a' ∧ H a' = some (.ins C dx' fs) ∧ Cls K C ∧ NoAttr K C "_bounds" ∧ fs.lookup ("_bounds" : Str) = some v ∧ P v := ⟨a, DC, dx, _, z, rfl, h, d.cls, d.n3, rfl, q⟩
theorem g_sfld {ta tv : TE} {f : Str} (h : tv σ H fun y H1 => ta σ H1 fun x H2 => ∃ a C dx fs, x = .ref a ∧ H2 a = some (.ins C dx fs) ∧ Cls K C ∧ NoAttr K C f ∧ fs.length < 1000 ∧ D.nx σ (upd H2 a (.ins C dx (putF f y fs)))) : sFld K ta tv f D σ H := h
theorem g_seqFld {ta tv : TE} {f : Str} {u : TS} (h : sFld K ta tv f { D with nx := u D } σ H) : tSeq (sFld K ta tv f) u D σ H := h
theorem g_put {C a dx : Addr} {f : Str} {fs : List (Str × V)} {P : Hp → Prop} {y : V} (c : Cls K C) (n : NoAttr K C f) (h : H a = some (.ins C dx fs)) (hl : fs.length < 1000) (q : P (upd H a (.ins C dx (putF f y fs)))) : ∃ a' C' dx' fs', V.ref a = .ref a' ∧ H a' = some (.ins C' dx' fs') ∧ Cls K C' ∧ NoAttr K C' f ∧ fs'.length < 1000 ∧ P (upd H a' (.ins C' dx' (putF f y fs'))) := ⟨a, C, dx, fs, rfl, h, c, n, hl, q⟩
end
def spDLen (DC : Addr) (K : PySem.W.Frag) : Sp := fun vs H Q _ => ∃ (a dx : Addr) (x z : V) (wa : Addr) (ws : List V), vs = [.ref a] ∧ H a = some (.ins DC dx (dFs x (.ref wa) z)) ∧ SqT K H wa ws ∧ Q (.int ws.length) H
theorem noteD_inj {a b : Option Int} (h : noteD a = noteD b) : a = b := by
  cases a <;> cases b <;> simp_all [noteD]
theorem lineD_inj {a b : Int × Int × Int} (h : lineD a = lineD b) : a = b := by
  obtain ⟨a1, a2, a3⟩ := a
  obtain ⟨b1, b2, b3⟩ := b
  simp [lineD] at h
  simp [h]
theorem map_inj {α β : Type} {f : α → β} (hf : ∀ a b, f a = f b → a = b) : ∀ {xs ys : List α}, xs.map f = ys.map f → xs = ys
  | [], [], _ => rfl
  | [], y :: ys, h => by simp at h
  | x :: xs, [], h => by simp at h
  | x :: xs, y :: ys, h => by
    simp only [List.map_cons, List.cons.injEq] at h
    rw [hf _ _ h.1, map_inj hf h.2]
theorem notesD_inj {a b : List (Option Int)} (h : notesD a = notesD b) : a = b := map_inj (fun _ _ => noteD_inj) (PyData.tuple.inj h)
theorem linesD_inj {a b : List (Int × Int × Int)} (h : linesD a = linesD b) : a = b := map_inj (fun _ _ => lineD_inj) (PyData.tuple.inj h)
def spDEq (K : PySem.W.Frag) (DC : Addr) : Sp := fun vs H Q _ => ∃ (v x : V) (c : Int) (ns : List (Option Int)) (ls : List (Int × Int × Int)), vs = [v, x] ∧ DiaAt DC H v c ns ls ∧
  ((∃ (c2 : Int) (ns2 : List (Option Int)) (ls2 : List (Int × Int × Int)), DiaAt DC H x c2 ns2 ls2 ∧ ∀ r : Bool, (r = true ↔ (c = c2 ∧ ns = ns2 ∧ ls = ls2)) → Q (.bl r) H) ∨ (∃ s, AnS K H x s ∧ Q (.bl false) H))
/-- the class InvalidEvent -/
structure EvX (P : Program) (K : PySem.W.Frag) (mg : Str → Option Value) (IE : Addr) : Prop where
  at_ : mg "InvalidEvent" = some (.ref IE)
  ex : ∃ fI fd, ExT P K mg ["value"] IE fI ∧ ExI P K ["value"] IE fI fd ∧ ∀ (s : Shared) (u v : Value), K.In s.heap → BindsTo s fd ⟨[u, v], []⟩ [("self", u), ("value", v)]
def spNeed (K : PySem.W.Frag) (DC IE : Addr) : Sp := fun vs H Q E => ∃ (a dx : Addr) (x z y : V) (wa : Addr) (ws : List V) (s : Sh), vs = [.ref a, y] ∧ H a = some (.ins DC dx (dFs x (.ref wa) z)) ∧ SqT K H wa ws ∧ AnS K H y s ∧
  (s.within 0 ((ws.length : Int) - 1) = true → Q .non H) ∧ (s.within 0 ((ws.length : Int) - 1) = false → ∀ d, H d = none → E (.ref IE) (some d) (upd H d (.xd [("value", y)])))
theorem g_mkex {C : Addr} {f : Str} {ta : TA} {σ : L2.St} {H : Hp} {Q : XK} (h : ta σ H fun vs H1 => ∃ v, vs = [v] ∧ ∀ (d : Addr), H1 d = none → Q (.ref C) (some d) (upd H1 d (.xd [(f, v)]))) : tMkEx C f ta σ H Q := h
end WL
set_option Elab.async false
set_option linter.all false
set_option maxRecDepth 100000
set_option maxHeartbeats 4000000
namespace WL
open PySem PySem.Spec PyProof.Rows L2
/-! ### the class Diary for its callers -/
structure PropF (P : Program) (w : World) (K : PySem.W.Frag) (mg : Str → Option Value) (base : Heap) (DC : Addr) (n f : Str) : Prop where
  ex : ∃ p g fd, PropOf K DC n p g ∧ Binds K fd ["self"] [] ∧ FnOk P w K mg base CX0 1 g fd ["self"] (spGetF DC f)
structure DiaF (P : Program) (w : World) (K : PySem.W.Frag) (mg : Str → Option Value) (base : Heap) (DC IE : Addr) : Prop where
  at_ : Dia K mg DC
  obj : DiaO K DC
  make : ∃ f fd, Mk K DC f ∧ Binds K fd ["self", "modulus", "weekdays", "bounds"] [] ∧ FnOk P w K mg base CX0 6 f fd ["self", "modulus", "weekdays", "bounds"] (spDInit K DC)
  pm : PropF P w K mg base DC "modulus" "_modulus"
  pw : PropF P w K mg base DC "weekdays" "_weekdays"
  pb : PropF P w K mg base DC "bounds" "_bounds"
  len : ∃ f fd, PySem.W.findIn K (.ref DC) "__len__" = some (some (.ref f)) ∧ PySem.W.isFn K (.ref f) = true ∧ Binds K fd ["self"] [] ∧ FnOk P w K mg base CX0 1 f fd ["self"] (spDLen DC K)
  eq : ∃ g fd, PySem.W.findIn K (.ref DC) "__eq__" = some (some (.ref g)) ∧ PySem.W.isFn K (.ref g) = true ∧ Binds K fd ["self", "other"] [] ∧ FnOk P w K mg base CX0 1 g fd ["self", "other"] (spDEq K DC)
  ne : PySem.W.findIn K (.ref DC) "__ne__" = some (some (.builtin "object.__ne__"))
  ob : PySem.W.subIn K (.ref DC) (.type "object") = some true
  nf : ∀ s : Sh, PySem.W.notFirst K DC (.type s.ty) = true
  nfD : PySem.W.notFirst K DC (.ref DC) = true
  need : ∃ f fd, Meth K DC "need_event" f ∧ Binds K fd ["self", "event"] [] ∧ FnOk P w K mg base (CX P w) 3 f fd ["self", "event"] (spNeed K DC IE) ∧ KBn K fd ["self", "event"] 1 ["event"] (fun us ws => us ++ ws) (fun vs zs => vs ++ zs)
  cm : ∃ u, Con K DC "MAX_MODULUS" (.int 100) u
  ce : ∃ u, Con K DC "MAX_EVENTS" (.int 16) u
  cb : ∃ u, Con K DC "MAX_BOUNDS" (.int 60) u
  cd : ∃ u, Con K DC "MAX_DAYS" (.int 1000000000) u
/-! ### right values have no fault -/
def noteSh : Option Int → Sh
  | none => .non
  | some i => .int i
def lineSh (l : Int × Int × Int) : Sh := .tup [.int l.1, .int l.2.1, .int l.2.2]
section
variable {K : PySem.W.Frag} {H : Hp}
theorem ans_note : ∀ n : Option Int, AnS K H (noteV n) (noteSh n)
  | none => .non
  | some i => .int i
theorem anss_notes : ∀ ns : List (Option Int), AnSs K H (ns.map noteV) (ns.map noteSh)
  | [] => .nil
  | n :: ns => .cons (ans_note n) (anss_notes ns)
theorem ans_notes {v : V} {ns : List (Option Int)} (h : Fz H v (notesD ns)) : AnS K H v (.tup (ns.map noteSh)) := by
  obtain ⟨a, rfl, ha⟩ := fz_notes_inv h
  exact .tup (SqT.of ha) (anss_notes ns)
theorem anss_lines : ∀ {ls : List (Int × Int × Int)} {rows : List V}, Fzs H rows (ls.map lineD) → AnSs K H rows (ls.map lineSh)
  | [], _, h => by cases h; exact .nil
  | l :: ls, _, h => by
    cases h with
    | cons a b =>
      obtain ⟨r, rfl, hr⟩ := fz_line_inv a
      exact .cons (.tup (SqT.of hr) (.cons (.int _) (.cons (.int _) (.cons (.int _) .nil)))) (anss_lines b)
theorem ans_lines {v : V} {ls : List (Int × Int × Int)} (h : Fz H v (linesD ls)) : AnS K H v (.tup (ls.map lineSh)) := by
  obtain ⟨a, rows, rfl, ha, hr⟩ := Fz.tup_inv h
  exact .tup (SqT.of ha) (anss_lines hr)
end
theorem and2 {a b : Bool} (h : a = true) (k : b = true) : (a && b) = true := by rw [h, k]; rfl
theorem within_int {lo hi i : Int} (h : lo ≤ i ∧ i ≤ hi) : Sh.within lo hi (.int i) = true := and2 (decide_eq_true h.1) (decide_eq_true h.2)
theorem sized_tup {lo hi : Int} {ss : List Sh} (h : lo ≤ (ss.length : Int) ∧ (ss.length : Int) ≤ hi) : Sh.sized lo hi (.tup ss) = true := by
  show (decide (lo ≤ (ss.length : Int)) && decide ((ss.length : Int) ≤ hi)) = true
  rw [decide_eq_true h.1, decide_eq_true h.2]; rfl
theorem no_fault {c : Int} {ns : List (Option Int)} {ls : List (Int × Int × Int)} {w : Int} (h : DOK c ns ls w) (hw : w ≤ 1000000000) (hl : ls.length ≤ 60) : diaryFault (.int c) (.tup (ns.map noteSh)) (.tup (ls.map lineSh)) = none := by
  obtain ⟨a1, a2, a3, a4, a5, a6⟩ := h
  rw [diaryFault_int (within_int ⟨a1, a2⟩)]
  have e1 : rowFault 1 16 (Sh.note c) (.tup (ns.map noteSh)) = none := by
    unfold rowFault
    rw [if_pos (show Sh.sized 1 16 (.tup (ns.map noteSh)) = true from sized_tup ⟨by rw [List.length_map]; omega, by rw [List.length_map]; omega⟩)]
    show (firstNot (Sh.note c) (ns.map noteSh)).map some = none
    rw [firstNot_none fun j s' e => ?_]
    · rfl
    · rw [List.getElem?_map] at e
      cases hn : ns[j]? with
      | none => rw [hn] at e; exact absurd e (by simp)
      | some n =>
        rw [hn] at e
        have e' := Option.some.inj e
        subst e'
        cases n with
        | none => rfl
        | some i =>
          have := a5 i (List.mem_of_getElem? hn)
          show (Sh.isNon (.int i) || Sh.within 0 (c - 1) (.int i)) = true
          rw [within_int ⟨this.1, by omega⟩]
          rfl
  rw [wordFault_tup e1]
  have e2 : rowFault 0 60 (Sh.bound (ns.map noteSh).length) (.tup (ls.map lineSh)) = none := by
    unfold rowFault
    rw [if_pos (show Sh.sized 0 60 (.tup (ls.map lineSh)) = true from sized_tup ⟨by rw [List.length_map]; omega, by rw [List.length_map]; omega⟩)]
    show (firstNot (Sh.bound (ns.map noteSh).length) (ls.map lineSh)).map some = none
    rw [firstNot_none fun j s' e => ?_]
    · rfl
    · rw [List.getElem?_map] at e
      cases hn : ls[j]? with
      | none => rw [hn] at e; exact absurd e (by simp)
      | some l =>
        rw [hn] at e
        have e' := Option.some.inj e
        subst e'
        obtain ⟨g1, g2, g3⟩ := a6 l (List.mem_of_getElem? hn)
        rw [List.length_map]
        exact and2 (and2 (within_int ⟨g1.1, by omega⟩) (within_int ⟨g2.1, by omega⟩)) (within_int ⟨by omega, by omega⟩)
  rw [e2]
  rfl
section
variable {K : PySem.W.Frag} {σ : L2.St} {H : Hp} {Q : VK} {DC : Addr}
theorem g_make {C : Addr} {sp : Sp} {dvs : List V} {E : XK} {t : TA} (h : t σ H fun vs H1 => ∀ (x dx : Addr), H1 x = none → H1 dx = none → dx ≠ x → sp (.ref x :: (vs ++ dvs)) (upd (upd H1 dx (.own x)) x (.ins C dx [])) (fun v H2 => v = .non ∧ Q (.ref x) H2) E) : tMake C sp dvs E t σ H Q := h
/-- a diary of right values is made -/
theorem g_makeD {wv bv : V} {c w : Int} {ns : List (Option Int)} {ls : List (Int × Int × Int)} {E : XK} {R : Addr → Hp → Prop} (hn : Fz H wv (notesD ns)) (hl : Fz H bv (linesD ls)) (ok : DOK c ns ls w) (hw : w ≤ 1000000000) (h60 : ls.length ≤ 60)
    (q : ∀ (x : Addr) (H' : Hp), H x = none → DiaAt DC H' (.ref x) c ns ls → (∀ b o, H b = some o → H' b = some o) → R x H') :
    ∀ (x dx : Addr), H x = none → H dx = none → dx ≠ x → spDInit K DC (.ref x :: ([.int c, wv, bv] ++ [])) (upd (upd H dx (.own x)) x (.ins DC dx [])) (fun v H2 => v = .non ∧ R x H2) E := by
  intro x dx nx ndx ne
  have s1 : ∀ b o, H b = some o → upd (upd H dx (.own x)) x (.ins DC dx []) b = some o := fun b o h => by
    rw [upd_ne (ne_of_none h nx), upd_ne (ne_of_none h ndx)]; exact h
  refine ⟨x, dx, .int c, wv, bv, .int c, _, _, rfl, upd_same, .int c, (ans_notes hn).same s1, (ans_lines hl).same s1, no_fault ok hw h60, fun H' h1 h2 => ⟨rfl, ?_⟩⟩
  have s2 : ∀ b o, H b = some o → H' b = some o := fun b o h => h2 b o (ne_of_none h nx) (s1 b o h)
  exact q x H' nx ⟨x, dx, wv, bv, rfl, h1, hn.tk (Tk.same s2), hl.tk (Tk.same s2)⟩ s2
theorem g_prop {C : Addr} {sp : Sp} {dvs : List V} {E : XK} {ta : TE} (h : ta σ H fun x H1 => ∃ a dx fs, x = .ref a ∧ H1 a = some (.ins C dx fs) ∧ sp (.ref a :: dvs) H1 Q E) : tProp C sp dvs E ta σ H Q := h
theorem g_p1 {a dx : Addr} {x y z : V} {E : XK} {Q : VK} (h : H a = some (.ins DC dx (dFs x y z))) (q : Q x H) : ∃ a' dx' fs, V.ref a = .ref a' ∧ H a' = some (.ins DC dx' fs) ∧ spGetF DC "_modulus" (.ref a' :: []) H Q E := ⟨a, dx, _, rfl, h, a, dx, _, x, rfl, h, rfl, q⟩
theorem g_p2 {a dx : Addr} {x y z : V} {E : XK} {Q : VK} (h : H a = some (.ins DC dx (dFs x y z))) (q : Q y H) : ∃ a' dx' fs, V.ref a = .ref a' ∧ H a' = some (.ins DC dx' fs) ∧ spGetF DC "_weekdays" (.ref a' :: []) H Q E := ⟨a, dx, _, rfl, h, a, dx, _, y, rfl, h, rfl, q⟩
theorem g_p3 {a dx : Addr} {x y z : V} {E : XK} {Q : VK} (h : H a = some (.ins DC dx (dFs x y z))) (q : Q z H) : ∃ a' dx' fs, V.ref a = .ref a' ∧ H a' = some (.ins DC dx' fs) ∧ spGetF DC "_bounds" (.ref a' :: []) H Q E := ⟨a, dx, _, rfl, h, a, dx, _, z, rfl, h, rfl, q⟩
theorem g_lenO {a dx : Addr} {x z : V} {wa : Addr} {ws : List V} (h : H a = some (.ins DC dx (dFs x (.ref wa) z))) (hw : SqT K H wa ws) (hl : ws.length ≤ 100000) (q : Q (.int ws.length) H) : rLenOwn DC (spDLen DC K) [.ref a] H Q :=
  ⟨a, dx, _, rfl, h, a, dx, x, z, wa, ws, rfl, h, hw, _, rfl, ⟨by omega, by omega⟩, q⟩
theorem g_con {ta : TE} {f : Str} (h : ta σ H fun x H1 => ∃ a C dx fs v u, x = .ref a ∧ H1 a = some (.ins C dx fs) ∧ Cls K C ∧ Con K C f v u ∧ fs.lookup f = none ∧ Q v H1) : tCon K ta f σ H Q := h
theorem g_c1 {a dx : Addr} {f : Str} {fs : List (Str × V)} {v : V} {P : V → Prop} (O : DiaO K DC) (h : H a = some (.ins DC dx fs)) (c : ∃ u, Con K DC f v u) (n : fs.lookup f = none) (q : P v) : ∃ a' C dx' fs' v' u, V.ref a = .ref a' ∧ H a' = some (.ins C dx' fs') ∧ Cls K C ∧ Con K C f v' u ∧ fs'.lookup f = none ∧ P v' := by
  obtain ⟨u, c⟩ := c
  exact ⟨a, DC, dx, fs, v, u, rfl, h, O.cls, c, n, q⟩
theorem g_ownEq {a : Addr} {y : V} {f : Bool → Bool} {c : Int} {ns : List (Option Int)} {ls : List (Int × Int × Int)} {t : Value} (d : DiaAt DC H (.ref a) c ns ls) (ht : WL.Ty H y t) (nf : PySem.W.notFirst K DC t = true)
    (q : spDEq K DC [.ref a, y] H (fun z H' => ∃ b, z = V.bl b ∧ Q (.bl (f b)) H') E0) : rOwnEq K DC (spDEq K DC) f (.ref a) y H Q := by
  obtain ⟨a', dx, wv, bv, e, h1, _, _⟩ := d
  cases e
  exact ⟨a, dx, _, t, rfl, h1, ht, nf, q⟩
end
section
variable {X : Cx} {DC IE : Addr} {k : Nat} {n f : Str} {e : Expr} {te : TE} {pos : Pos}
theorem pe_pm (F : PropF X.prog X.w X.K X.mg X.base DC n f) (O : DiaO X.K DC) (hr : Room k X.A) (hk : 2 ≤ k) (he : PE X e te) (hab : attributeBase e n X.env (eval e X.env) = eval e X.env := by rfl) : PE X (.Attribute e n pos) (tProp DC (spGetF DC f) [] E0 te) := by
  obtain ⟨p, g, fd, h1, h2, h3⟩ := F.ex
  exact pe_prop he O.cls h1 h3 (hr.mono hk) h2 .nil pass0 hab
theorem call_lenD (F : DiaF X.prog X.w X.K X.mg X.base DC IE) (hr : Room k X.A) (hk : 2 ≤ k) : CallR X (.builtin "len") (rLenOwn DC (spDLen DC X.K)) := by
  obtain ⟨f, fd, h1, h2, h3, h4⟩ := F.len
  exact call_lenOwn h4 h3 (hr.mono hk) h1 h2
theorem op_dEq (F : DiaF X.prog X.w X.K X.mg X.base DC IE) (hr : Room k X.A) (hk : 1 ≤ k) : OpR X (compareOp .Eq) (rOwnEq X.K DC (spDEq X.K DC) id) := by
  obtain ⟨f, fd, h1, h2, h3, h4⟩ := F.eq
  exact op_ownEq h4 h3 (hr.mono hk) h1 h2
theorem op_dNe (F : DiaF X.prog X.w X.K X.mg X.base DC IE) (hr : Room k X.A) (hk : 2 ≤ k) : OpR X (compareOp .NotEq) (rOwnEq X.K DC (spDEq X.K DC) not) := by
  obtain ⟨f, fd, h1, h2, h3, h4⟩ := F.eq
  exact op_ownNe h4 h3 (hr.mono hk) h1 h2 F.ne F.ob
theorem pe_mkD (F : DiaF X.prog X.w X.K X.mg X.base DC IE) (hr : Room k X.A) (hk : 7 ≤ k) {es : List Expr} {t : TA} {p : Pos} (ha : PA X (e :: es) t) (hg : Gl X "Diary" := by rfl)
    (h1 : starEach (e :: es) X.env = (false, eval e X.env) :: starEach es X.env := by rfl) (h2 : (backTo pos (starEach es X.env)).any (·.1) = false := by rfl) : PE X (.Call (.Name "Diary" p) (e :: es) [] pos) (tMake DC (spDInit X.K DC) [] E0 t) := by
  obtain ⟨f, fd, m, b, Fn⟩ := F.make
  exact pe_make m Fn (hr.mono hk) hg F.at_.at_ b .nil pass0 ha (by decide) h1 h2
end
/-! ### promises of the law's own defs -/
def readV (c : Int) (wv bv : V) (n : Nat) : List V := [.int c, wv, bv, .int n, .int 100, .int 16, .int 60]
def spRead (DC : Addr) : Sp := fun vs H Q _ => ∃ (v : V) (c : Int) (ns : List (Option Int)) (ls : List (Int × Int × Int)), vs = [v] ∧ DiaAt DC H v c ns ls ∧ ns.length ≤ 100 ∧
  ∀ (p : Addr) (wv bv : V), H p = none → Fz H wv (notesD ns) → Fz H bv (linesD ls) → Q (.ref p) (upd H p (.lst (readV c wv bv ns.length)))
def spShown : Sp := fun vs H Q _ => ∃ (v : V) (b : Book), vs = [v] ∧ Fz H v b.d ∧
  ∀ (p : Addr) (wv bv : V), H p = none → Fz H wv (notesD b.notes) → Fz H bv (linesD b.lines) → Q (.ref p) (upd H p (.lst (readV b.c wv bv b.notes.length)))
def spValue (K : PySem.W.Frag) (DC : Addr) : Sp := fun vs H Q _ => ∃ (v y : V) (c : Int) (ns : List (Option Int)) (ls : List (Int × Int × Int)) (s : Sh), vs = [v, y] ∧ DiaAt DC H v c ns ls ∧ AnS K H y s ∧ ns.length ≤ 100 ∧
  ∀ (p : Addr) (H' : Hp), H p = none → (∀ b o, H b = some o → H' b = some o) → H' p = some (.lst (if s.within 0 ((ns.length : Int) - 1) then [] else [y])) → Q (.ref p) H'
section
variable {K : PySem.W.Frag} {σ : L2.St} {H : Hp} {Q : VK}
theorem g_methS {C : Addr} {m : Str} {sp : Sp} {E : L2.St → XK} {ta : TE} {t : TA} (h : ta σ H fun x H1 => ∃ a dx fs, x = .ref a ∧ H1 a = some (.ins C dx fs) ∧ fs.lookup m = none ∧ t σ H1 fun vs H2 => sp (x :: vs) H2 Q (E σ)) : WL.tMethS C m sp E ta t σ H Q := h
theorem g_errF {C : Addr} {f : Str} {te : TE} (h : te σ H fun x H1 => ∃ a d fs v, x = .ref a ∧ H1 a = some (Err a (.ref C) (some d)) ∧ H1 d = some (.xd fs) ∧ fs.lookup f = some v ∧ Q v H1) : tErrF C f te σ H Q := h
theorem none_up {H1 : Hp} {p : Addr} (n : H1 p = none) (h : ∀ b o, H b = some o → H1 b = some o) : H p = none := by
  cases e : H p with
  | none => rfl
  | some o => rw [h _ _ e] at n; exact absurd n (by simp)
theorem same_up {H1 : Hp} {p : Addr} {o : HO} (n : H1 p = none) (h : ∀ b o, H b = some o → H1 b = some o) : ∀ b u, H b = some u → upd H1 p o b = some u := fun b u hb => by rw [upd_ne (ne_of_none (h _ _ hb) n)]; exact h _ _ hb
end
theorem g_methK0 {C : Addr} {m : Str} {n : Nat} {sp : Sp} {gV : List V → List V → List V} {E : XK} {ta : TE} {tk : TA} {σ : L2.St} {H : Hp} {Q : VK} (h : ta σ H fun x H1 => ∃ a dx fs, x = .ref a ∧ H1 a = some (.ins C dx fs) ∧ fs.lookup m = none ∧ tk σ H1 fun zs H2 => zs.length = n ∧ sp (gV [x] zs) H2 Q E) : tMethK0 C m n sp gV E ta tk σ H Q := h
end WL
set_option Elab.async false
set_option linter.all false
set_option maxRecDepth 100000
set_option maxHeartbeats 4000000
namespace WL
open PySem PySem.Spec PyProof.Rows L2
/-! ### the class facts, asked of the model's fragment -/
def crB (K : PySem.W.Frag) (C : Addr) : Bool := PySem.W.readsIn K C (.type "type") && He.eqO (PySem.W.specialIn K (.ref C) "__getattribute__") (some (some (.builtin "type.__getattribute__")))
def cvB (K : PySem.W.Frag) (C : Addr) (f : Str) (i : Int) : Bool := match PySem.W.findCls K (.ref C) (.type "type") f with
  | some (.val (.int j _)) => decide (j = i)
  | _ => false
def conB (K : PySem.W.Frag) (C : Addr) (f : Str) (i : Int) : Bool := match PySem.W.findIn K (.ref C) f with
  | some (some (.int j t)) => decide (j = i) && (He.eqO (PySem.W.specialIn K (.int j t) "__get__") (some none) && !(PySem.W.copiedNames.contains f))
  | _ => false
def shTys : List String := ["NoneType", "bool", "str", "list", "dict", "int", "tuple"]
def isB (K : PySem.W.Frag) (t c : Value) (b : Bool) : Bool := match PySem.W.kitOne K t c with
  | some true => b
  | some false => !b
  | none => false
def othB (K : PySem.W.Frag) (C : Addr) : Bool := shTys.all fun T => isB K (.type T) (.ref C) false && PySem.W.notFirst K C (.type T)
def tkB (K : PySem.W.Frag) (v : Value) : Bool := match PySem.W.takesIn K v with
  | some true => true
  | _ => false
def sbB (K : PySem.W.Frag) (v c : Value) : Bool := match PySem.W.subIn K v c with
  | some true => true
  | _ => false
def mrB (K : PySem.W.Frag) (C : Addr) (c : Value) : Bool := match PySem.W.mroIn K C c with
  | some true => true
  | _ => false
def propB (K : PySem.W.Frag) (C : Addr) (n : Str) : Bool := He.eqO (PySem.W.findIn K (.ref C) n) (some (some (.ref (He.ma K C n)))) && (He.eqO (PySem.W.specialIn K (.ref (He.ma K C n)) "__get__") (some (some (.builtin "property.__get__"))) && (tkB K (.ref (He.ma K C n)) && (match PySem.W.recIn K (He.ma K C n) "property" with
  | some (.ref _ :: _) => true
  | _ => false)))
def diaB (K : PySem.W.Frag) (C : Addr) : Bool :=
  crB K C && (cvB K C "MAX_MODULUS" 100 && (cvB K C "MAX_EVENTS" 16 && (cvB K C "MAX_BOUNDS" 60 && cvB K C "MAX_DAYS" 1000000000)))
def diaOB (K : PySem.W.Frag) (C : Addr) : Bool :=
  isB K (.ref C) (.ref C) true && (othB K C && (He.eqO (PySem.W.findIn K (.ref C) "__class__") (some (some (.builtin "object.__class__"))) && (He.eqO (PySem.W.specialIn K (.builtin "object.__class__") "__get__") (some (some (.builtin "getset_descriptor.__get__"))) && (tkB K (.builtin "object.__class__") && mrB K C (.type "object")))))
def diaFB (K : PySem.W.Frag) (C : Addr) : Bool :=
  propB K C "modulus" && (propB K C "weekdays" && (propB K C "bounds" && (He.eqO (PySem.W.findIn K (.ref C) "__ne__") (some (some (.builtin "object.__ne__"))) && (sbB K (.ref C) (.type "object") && (PySem.W.notFirst K C (.ref C) && (conB K C "MAX_MODULUS" 100 && (conB K C "MAX_EVENTS" 16 && (conB K C "MAX_BOUNDS" 60 && conB K C "MAX_DAYS" 1000000000))))))))
/-- an exception class with fields and an __init__ of its own -/
def exB (K : PySem.W.Frag) (C : Addr) : Bool := match K.lookup C with
  | some ⟨.type T, _, .cls cd, sl⟩ => decide (T = "type") && (match cd.mro, sl.toList with
    | .ref C' :: bm, [_, _, _, _, some (.builtin n), _] => decide (C' = C) && (decide (n = "ValueError.__new__") && (!cd.hasDel && (cd.hasDict && HandSPX.refsVE bm)))
    | _, _ => false)
  | _ => false
def tyB (K : PySem.W.Frag) (v : Value) (t : String) : Bool := match PySem.W.typeIn K v with
  | some (.type T) => decide (T = t)
  | _ => false
def exTB (K : PySem.W.Frag) (fs : List Str) (C fI : Addr) : Bool :=
  exB K C && (He.eqO (PySem.W.ks_superIn K C C "__init__") (some (some (.builtin "ValueError.__init__"))) && (He.eqO (PySem.W.nsIn K cStatics "thirdparty.any") (some none) && (mrB K C (.ref C) && (sbB K (.ref C) (.type "ValueError") && (He.eqO (PySem.W.findIn K (.ref C) "__setattr__") (some (some (.builtin "object.__setattr__"))) && ((fs.all fun f => He.eqO (PySem.W.findIn K (.ref C) f) (some none)) &&
  (He.eqO (PySem.W.findIn K (.ref C) "__init__") (some (some (.ref fI))) && (tyB K (.ref fI) "function" && (PySem.W.keepIn K (.ref C) && (sbB K (.ref C) (.type "BaseException") && tyB K (.ref C) "type"))))))))))
def xfacB (K : PySem.W.Frag) (C : Addr) : Bool := He.eqO (PySem.W.findIn K (.ref C) "__getattribute__") (some (some (.builtin "BaseException.__getattribute__"))) && (He.eqO (PySem.W.findIn K (.ref C) "__getattr__") (some none) && (sbB K (.ref C) (.type "BaseException") && PySem.W.hasDictIn K C))
def emB (K : PySem.W.Frag) (a b : Value) : Bool := match PySem.W.exmOne K a b with
  | some true => true
  | _ => false
section
variable {K : PySem.W.Frag} {C : Addr}
theorem crB_ok (h : crB K C = true) : ClX.CRead K C (.type "type") := by
  obtain ⟨a, b⟩ := He.ba h
  exact ⟨a, He.eqO_ok b⟩
theorem cvB_ok {f : Str} {i : Int} (h : cvB K C f i = true) : ∃ u, ClX.CVal K C (.type "type") f (.int i) u := by
  unfold cvB at h
  split at h
  · next j t e => exact ⟨_, e, t, by rw [of_decide_eq_true h]⟩
  · cases h
theorem conB_ok {f : Str} {i : Int} (h : conB K C f i = true) : ∃ u, Con K C f (.int i) u := by
  unfold conB at h
  split at h
  · next j t e =>
    obtain ⟨a, h⟩ := He.ba h
    obtain ⟨b, c⟩ := He.ba h
    have e1 := of_decide_eq_true a
    subst e1
    exact ⟨_, e, ⟨t, rfl⟩, He.eqO_ok b, by simpa using c⟩
  · cases h
theorem isB_ok {t c : Value} {b : Bool} (h : isB K t c b = true) : PySem.W.kitOne K t c = some b := by
  unfold isB at h
  split at h
  · next e => rw [e, h]
  · next e => rw [e]; cases b <;> simp_all
  · cases h
theorem othB_ok (h : othB K C = true) : ∀ s : Sh, PySem.W.kitOne K (.type s.ty) (.ref C) = some false ∧ PySem.W.notFirst K C (.type s.ty) = true := by
  intro s
  have hs : s.ty ∈ shTys := by cases s <;> simp [Sh.ty, shTys]
  obtain ⟨a, b⟩ := He.ba (List.all_eq_true.mp h _ hs)
  exact ⟨isB_ok a, b⟩
theorem tkB_ok {v : Value} (h : tkB K v = true) : PySem.W.takesIn K v = some true := by
  unfold tkB at h
  split at h
  · next e => exact e
  · cases h
theorem sbB_ok {v c : Value} (h : sbB K v c = true) : PySem.W.subIn K v c = some true := by
  unfold sbB at h
  split at h
  · next e => exact e
  · cases h
theorem mrB_ok {c : Value} (h : mrB K C c = true) : PySem.W.mroIn K C c = some true := by
  unfold mrB at h
  split at h
  · next e => exact e
  · cases h
theorem emB_ok {a b : Value} (h : emB K a b = true) : PySem.W.exmOne K a b = some true := by
  unfold emB at h
  split at h
  · next e => exact e
  · cases h
theorem tyB_ok {v : Value} {t : String} (h : tyB K v t = true) : PySem.W.typeIn K v = some (.type t) := by
  unfold tyB at h
  split at h
  · next T e => rw [e, of_decide_eq_true h]
  · cases h
theorem propB_ok {n : Str} (h : propB K C n = true) : PropOf K C n (He.ma K C n) (recAd K (He.ma K C n) "property") := by
  obtain ⟨a, h⟩ := He.ba h
  obtain ⟨b, h⟩ := He.ba h
  obtain ⟨c, d⟩ := He.ba h
  refine ⟨He.eqO_ok a, He.eqO_ok b, tkB_ok c, ?_⟩
  unfold recAd
  split at d
  · next g r e => rw [e]; exact ⟨r, rfl⟩
  · cases d
theorem diaB_ok {mg : Str → Option Value} (m : mg "Diary" = some (.ref C)) (h : diaB K C = true) : Dia K mg C := by
  obtain ⟨a, h⟩ := He.ba h
  obtain ⟨b, h⟩ := He.ba h
  obtain ⟨c, h⟩ := He.ba h
  obtain ⟨d, e⟩ := He.ba h
  exact ⟨m, _, crB_ok a, cvB_ok b, cvB_ok c, cvB_ok d, cvB_ok e⟩
theorem diaOB_ok (c : Cls K C) (n1 : NoAttr K C "_modulus") (n2 : NoAttr K C "_weekdays") (n3 : NoAttr K C "_bounds") (h : diaOB K C = true) : DiaO K C := by
  obtain ⟨a, h⟩ := He.ba h
  obtain ⟨b, h⟩ := He.ba h
  obtain ⟨c1, h⟩ := He.ba h
  obtain ⟨c2, h⟩ := He.ba h
  obtain ⟨c3, c4⟩ := He.ba h
  exact ⟨c, n1, n2, n3, isB_ok a, fun s => (othB_ok b s).1, He.eqO_ok c1, He.eqO_ok c2, tkB_ok c3, mrB_ok c4⟩
theorem exB_ok (h : exB K C = true) : ∃ nm q N bs bm sn sub ab col dd k0 k1 k2 k3 k5, K.lookup C = some (excClassObj nm q C N bs bm true sn sub ab col dd k0 k1 k2 k3 k5 "ValueError.__new__") ∧ HandSPX.refsVE bm = true := by
  unfold exB at h
  split at h
  · next T dd cd sl e =>
    obtain ⟨a, h⟩ := He.ba h
    split at h
    · next C' bm k0 k1 k2 k3 n k5 em es =>
      obtain ⟨b, h⟩ := He.ba h
      obtain ⟨c, h⟩ := He.ba h
      obtain ⟨d, h⟩ := He.ba h
      obtain ⟨f, g⟩ := He.ba h
      have e1 := of_decide_eq_true a
      have e2 := of_decide_eq_true b
      have e3 := of_decide_eq_true c
      subst e1 e2 e3
      obtain ⟨nm, bs, mro, N, q, hd, sn, sub, ab, col, del⟩ := cd
      simp only at em d f
      have d' : del = false := by simpa using d
      subst em d' f
      have e4 : sl = #[k0, k1, k2, k3, some (.builtin "ValueError.__new__"), k5] := by
        rw [← Array.toList_inj]; exact es
      subst e4
      exact ⟨nm, q, N, bs, bm, sn, sub, ab, col, dd, k0, k1, k2, k3, k5, e, g⟩
    · cases h
  · cases h
theorem exTB_ok {P : Program} {mg : Str → Option Value} {fs : List Str} {fI : Addr} (free : mg "super" = none) (top : (List.lookup ("super" : Str) P.main.scope.names).isSome = false) (h : exTB K fs C fI = true) : ExT P K mg fs C fI := by
  obtain ⟨a1, h⟩ := He.ba h
  obtain ⟨a2, h⟩ := He.ba h
  obtain ⟨a3, h⟩ := He.ba h
  obtain ⟨a4, h⟩ := He.ba h
  obtain ⟨a5, h⟩ := He.ba h
  obtain ⟨a6, h⟩ := He.ba h
  obtain ⟨a7, h⟩ := He.ba h
  obtain ⟨a8, h⟩ := He.ba h
  obtain ⟨a9, h⟩ := He.ba h
  obtain ⟨b1, h⟩ := He.ba h
  obtain ⟨b2, b3⟩ := He.ba h
  exact ⟨exB_ok a1, He.eqO_ok a2, He.eqO_ok a3, mrB_ok a4, sbB_ok a5, He.eqO_ok a6, fun f hf => He.eqO_ok (List.all_eq_true.mp a7 f hf), He.eqO_ok a8, tyB_ok a9, b1, sbB_ok b2, tyB_ok b3, free, top⟩
theorem xfacB_ok (h : xfacB K C = true) : XfC K C := by
  obtain ⟨a1, h⟩ := He.ba h
  obtain ⟨a2, h⟩ := He.ba h
  obtain ⟨a3, a4⟩ := He.ba h
  exact ⟨He.eqO_ok a1, He.eqO_ok a2, sbB_ok a3, a4⟩
end
end WL
set_option Elab.async false
set_option linter.all false
set_option maxRecDepth 100000
set_option maxHeartbeats 4000000
namespace WL
open PySem PySem.Spec PyProof.Rows L2
/-! ### defs of exception classes: __init__ with super() -/
abbrev XnW : Type := Option (Arguments × FuncBody × Scope × Addr × Addr × Bool)
def noDfl (fd : FuncData) : Bool := match fd.defaults, fd.kwdefaults with
  | .none, .none => true
  | _, _ => false
structure DefX where
  cls : Str
  st : Stmt
  nd : Bool := true
def DefX.C (K : PySem.W.Frag) (d : DefX) : Addr := He.ga K d.cls
def DefX.ad (K : PySem.W.Frag) (d : DefX) : Addr := He.ma K (He.ga K d.cls) "__init__"
def DefX.val (d : DefX) : XnW := some (defArgs d.st, .stmts (defBody d.st), defScope d.st, mainGlobals, builtinsNs, d.nd)
def fnX (K : PySem.W.Frag) (a : Addr) : XnW := match K.lookup a with
  | some ⟨_, _, .func fd, _⟩ => some (fd.params, fd.body, fd.scope, fd.globals, fd.builtins, noDfl fd)
  | _ => none
def exIB (K : PySem.W.Frag) (file : Str) (C fI : Addr) : Bool := match K.lookup fI with
  | some ⟨_, _, .func fd, _⟩ => (match fd.closure with
      | [(x, cc)] => decide (x = ("__class__" : Str)) && (match K.lookup cc with
        | some ⟨_, _, .cell (some (.ref C')), _⟩ => decide (C' = C)
        | _ => false)
      | _ => false) && ((match fd.code with
      | .ref cda => (match K.lookup cda with
        | some ⟨_, _, .fields vs, _⟩ => (match (vs[2]? : Option Value) with
          | some (.str fl _) => file == fl
          | _ => false)
        | _ => false)
      | _ => false) && PySem.W.codeIn K fd.code fd.qualname)
  | _ => false
theorem exI_ok {P : Program} {K : PySem.W.Frag} {fs : List Str} {C : Addr} {d : DefX} (hC : d.C K = C) (h : exIB K P.main.file C (d.ad K) = true) (e : fnX K (d.ad K) = d.val)
    (first : ∃ ar, ((defArgs d.st).posonlyargs ++ (defArgs d.st).args).head? = some ar ∧ ar.arg = ("self" : Str)) (kind : (defScope d.st).kind = .function) (co : (defScope d.st).isCoroutine = false) (gen : (defScope d.st).isGenerator = false) (ok : scOk (defScope d.st) fs = true)
    (body : ∃ msg k q qs, defBody d.st = supSt msg k q :: List.map (fun p => fldSt p.1 p.2) (fs.zip qs) ∧ qs.length = fs.length ∧ ((q 2).endLine == (q 4).line) = true) :
    ∃ fd, ExI P K fs C (d.ad K) fd ∧ fd.params = defArgs d.st ∧ noDfl fd = d.nd := by
  unfold exIB at h
  unfold fnX at e
  split at h
  · next oc od fd osl lk =>
    rw [lk] at e
    simp only [DefX.val, Option.some.injEq, Prod.mk.injEq] at e
    obtain ⟨e1, e2, e3, e4, e5, e6⟩ := e
    obtain ⟨h1, h⟩ := He.ba h
    obtain ⟨h2, h3⟩ := He.ba h
    refine ⟨fd, ⟨⟨oc, od, osl, lk⟩, ?_, ?_, h3, e5, e4, by rw [e1]; exact first, by rw [e3]; exact kind, by rw [e3]; exact co, by rw [e3]; exact gen, by rw [e3]; exact ok, ?_⟩, e1, e6⟩
    · split at h1
      · next x cc ec =>
        obtain ⟨a, b⟩ := He.ba h1
        split at b
        · next cl cld C' csl el =>
          rw [of_decide_eq_true a] at ec
          rw [of_decide_eq_true b] at el
          exact ⟨cc, cl, cld, csl, ec, el⟩
        · cases b
      · cases h1
    · split at h2
      · next cda ec =>
        split at h2
        · next ccl cdd vs ccs el =>
          split at h2
          · next fl tf ev => exact ⟨cda, ccl, cdd, vs, ccs, fl, tf, ec, el, ev, h2⟩
          · cases h2
        · cases h2
      · cases h2
    · obtain ⟨msg, k, q, qs, b1, b2, b3⟩ := body
      exact ⟨msg, k, q, qs, by rw [e2, b1], b2, b3⟩
  · cases h
/-! ### the hook with both kinds of defs -/
abbrev AlX : Type := AlW × List XnW
def obsX (n : Nat) (chk : PySem.W.Frag → Bool) (fn : List DefW) (xs : List DefX) (g : Addr → Option Obj) : AlX := (obsW n chk fn g, let K := He.frG g (asW g n); xs.map fun d => fnX K (d.ad K))
def valX (fn : List DefW) (xs : List DefX) : AlX := (valW fn, xs.map DefX.val)
structure SaysX (chk : PySem.W.Frag → Bool) (fn : List DefW) (xs : List DefX) (K : PySem.W.Frag) : Prop where
  w : SaysW chk fn K
  eqs : xs.map (fun d => fnX K (d.ad K)) = xs.map DefX.val
theorem SaysX.ex {chk : PySem.W.Frag → Bool} {fn : List DefW} {xs : List DefX} {K : PySem.W.Frag} (c : SaysX chk fn xs K) (i : Nat) {d : DefX} (h : xs[i]? = some d) : fnX K (d.ad K) = d.val := by
  have z : (xs.map fun d => fnX K (d.ad K))[i]? = (xs.map DefX.val)[i]? := by rw [c.eqs]
  rw [List.getElem?_map, List.getElem?_map, h] at z
  exact Option.some.inj z
def hookX (n : Nat) (chk : PySem.W.Frag → Bool) (fn : List DefW) (xs : List DefX) : PySem.W.Hook where
  α := AlX
  obs := fun s => obsX n chk fn xs s.heap.get?
  val := fun _ => valX fn xs
  says := fun _ h => ∃ K : PySem.W.Frag, K.In h ∧ SaysX chk fn xs K
  of := fun _ _ e => ⟨_, He.frG_in, saysW_of (congrArg Prod.fst e), congrArg Prod.snd e⟩
  keeps := fun _ _ _ ⟨K, hK, c⟩ k => ⟨K, PySem.W.Frag.In.keeps hK k, c⟩
theorem obsX_eq {n : Nat} {chk : PySem.W.Frag → Bool} {fn : List DefW} {xs : List DefX} {g : Addr → Option Obj} {s : Shared} (h : ∀ a, g a = s.heap.get? a) : obsX n chk fn xs g = (hookX n chk fn xs).obs s := by
  have e : g = s.heap.get? := funext h
  rw [e]
  rfl
end WL
set_option Elab.async false
set_option linter.all false
set_option maxRecDepth 100000
set_option maxHeartbeats 4000000
namespace WL
open PySem PySem.Spec PyProof.Rows L2
/-- list(xs): the new list is not the module table -/
def rListS (K : PySem.W.Frag) : List V → Hp → VK → Prop := fun xs H Q => ∃ p ys, xs = [V.ref p] ∧ (SqL K H p ys ∨ SqT K H p ys) ∧ ∀ l, H l = none → l ≠ sysModules → Q (.ref l) (upd H l (.lst ys))
theorem call_list_ofS {X : Cx} : CallR X (.type "list") (rListS X.K) := by
  intro pins s σ H xs us Q I r h
  obtain ⟨p, ys, rfl, hq, q⟩ := h
  cases r with
  | cons r rr =>
    cases rr
    cases r
    have fin : ∀ (its : List Value), Vals ys its → ys.length ≤ sizeLine → ∀ (h' : Heap) (c' : Nat), (∀ (b : Addr) (o' : Obj), s.heap.get? b = some o' → h'.get? b = some o') → h'.get? s.heap.objs.size = some { cls := .type "list", data := .seq its.toArray c' } →
        EP X pins σ Q (.ref s.heap.objs.size) { heap := h', gens := s.gens, drawn := s.drawn, toks := s.toks, os := s.os } := fun its r' hz h' c' kp e =>
      ⟨.ref s.heap.objs.size, upd H s.heap.objs.size (.lst ys), I.laid kp (Nat.le_refl _) ⟨hz, its, c', r', e⟩, rfl, q _ (I.hok.fresh (Nat.le_refl _)) (Nat.ne_of_gt I.big)⟩
    rcases hq with hq | hq
    · obtain ⟨its, r', pl, hz⟩ := Inv.list I hq
      have hlen := r'.length
      obtain ⟨o, ho, hc, n, hd⟩ := PlainL.isList pl
      exact call_list_seq p (.inl rfl) ho hc hd (fun h' c' kp e => fin its r' hz h' c' kp e) (by rw [List.size_toArray]; omega)
    · obtain ⟨its, r', pl, hz⟩ := Inv.tuple I hq
      have hlen := r'.length
      obtain ⟨o, ho, hc, n, hd⟩ := pl
      exact call_list_seq p (.inr rfl) ho hc hd (fun h' c' kp e => fin its r' hz h' c' kp e) (by rw [List.size_toArray]; omega)
/-! ### data for showing, without a word on where lists stand -/
mutual
inductive DqB (H : Hp) : V → PyData → Prop
  | non : DqB H .non .none
  | bl (b : Bool) : DqB H (.bl b) (.bool b)
  | int (i : Int) : DqB H (.int i) (.int i)
  | str (x : Str) : DqB H (.str x) (.str x)
  | tup {a : Addr} {xs : List V} {ds : List PyData} : H a = some (.tup xs) → DqBs H xs ds → DqB H (.ref a) (.tuple ds)
  | lst {a : Addr} {xs : List V} {ds : List PyData} : H a = some (.lst xs) → DqBs H xs ds → DqB H (.ref a) (.list ds)
  | mtd {a : Addr} : H a = some (.dK []) → DqB H (.ref a) (.dict [])
inductive DqBs (H : Hp) : List V → List PyData → Prop
  | nil : DqBs H [] []
  | cons {v : V} {vs : List V} {d : PyData} {ds : List PyData} : DqB H v d → DqBs H vs ds → DqBs H (v :: vs) (d :: ds)
end
section
variable {H : Hp}
mutual
theorem DqB.dq (h : ∀ xs, H sysModules ≠ some (.lst xs)) : ∀ {v : V} {d : PyData}, DqB H v d → Dq H v d
  | _, _, .non => .non
  | _, _, .bl b => .bl b
  | _, _, .int i => .int i
  | _, _, .str x => .str x
  | _, _, .tup a b => .tup a (b.dqs h)
  | _, _, .lst (xs := xs) a b => .lst a (fun e => h xs (by rw [← e]; exact a)) (b.dqs h)
  | _, _, .mtd a => .mtd a
theorem DqBs.dqs (h : ∀ xs, H sysModules ≠ some (.lst xs)) : ∀ {vs : List V} {ds : List PyData}, DqBs H vs ds → Dqs H vs ds
  | _, _, .nil => .nil
  | _, _, .cons a b => .cons (a.dq h) (b.dqs h)
end
mutual
theorem Fz.dqB : ∀ {v : V} {d : PyData}, Fz H v d → DqB H v d
  | _, _, .non => .non
  | _, _, .bl b => .bl b
  | _, _, .int i => .int i
  | _, _, .str x => .str x
  | _, _, .tup h q => .tup h q.dqBs
theorem Fzs.dqBs : ∀ {vs : List V} {ds : List PyData}, Fzs H vs ds → DqBs H vs ds
  | _, _, .nil => .nil
  | _, _, .cons h q => .cons h.dqB q.dqBs
end
end
/-- the table of modules is a thing of the model's own, and no list -/
def SysB (K : PySem.W.Frag) : Prop := ∃ o, K.lookup sysModules = some o ∧ (o.cls == .type "list") = false
def rShowB : List V → Hp → VK → Prop := fun vs H Q => ∃ a d, vs = [V.ref a] ∧ DqB H (V.ref a) d ∧ d.showable = true ∧ d.shown.length ≤ sizeLine ∧ d.depth ≤ 50 ∧ Q (V.str d.shown) H
theorem call_showB {X : Cx} {k : Nat} (hs : SysB X.K) (hg : X.A.guards = some []) (hr : Room k X.A) : CallR X (.builtin "repr") rShowB := by
  intro pins s σ H xs us Q I r h
  obtain ⟨a, d, e, hd, h1, h2, h3, q⟩ := h
  refine call_show hg hr pins s σ H xs us Q I r ⟨a, d, e, hd.dq fun ys hy => ?_, h1, h2, h3, q⟩
  obtain ⟨o, ho, hc⟩ := hs
  obtain ⟨_, its, n, _, _, eo⟩ := Inv.lstM I hy
  have e2 := Option.some.inj ((I.kIn _ _ ho).symm.trans eo)
  subst e2
  exact absurd (show true = false from hc) (by decide)
def sysB (K : PySem.W.Frag) : Bool := match K.lookup sysModules with
  | some o => !(o.cls == .type "list")
  | none => false
theorem sysB_ok {K : PySem.W.Frag} (h : sysB K = true) : SysB K := by
  unfold sysB at h
  split at h
  · next o e => exact ⟨o, e, by simpa using h⟩
  · cases h
section
variable {H H' : Hp}
mutual
theorem DqB.same (k : ∀ b o, H b = some o → H' b = some o) : ∀ {v : V} {d : PyData}, DqB H v d → DqB H' v d
  | _, _, .non => .non
  | _, _, .bl b => .bl b
  | _, _, .int i => .int i
  | _, _, .str x => .str x
  | _, _, .tup a b => .tup (k _ _ a) (b.same k)
  | _, _, .lst a b => .lst (k _ _ a) (b.same k)
  | _, _, .mtd a => .mtd (k _ _ a)
theorem DqBs.same (k : ∀ b o, H b = some o → H' b = some o) : ∀ {vs : List V} {ds : List PyData}, DqBs H vs ds → DqBs H' vs ds
  | _, _, .nil => .nil
  | _, _, .cons a b => .cons (a.same k) (b.same k)
end
end
/-- a value that is no event of so many, and can be shown in a list -/
structure Odd (K : PySem.W.Frag) (H : Hp) (n : Int) (x : V) : Prop where
  ex : ∃ s d, AnS K H x s ∧ s.within 0 (n - 1) = false ∧ DqB H x d ∧ (PyData.list [d]).showable = true ∧ (PyData.list [d]).shown.length ≤ sizeLine ∧ (PyData.list [d]).depth ≤ 50
theorem Odd.same {K : PySem.W.Frag} {H H' : Hp} {n : Int} {x : V} (k : ∀ b o, H b = some o → H' b = some o) (h : Odd K H n x) : Odd K H' n x := by
  obtain ⟨s, d, h1, h2, h3, h4⟩ := h.ex
  exact ⟨s, d, h1.same k, h2, h3.same k, h4⟩
theorem g_showB {H : Hp} {Q : VK} {a : Addr} {d : PyData} (h : DqB H (.ref a) d) (h1 : d.showable = true) (h2 : d.shown.length ≤ sizeLine) (h3 : d.depth ≤ 50) (q : Q (.str d.shown) H) : rShowB [.ref a] H Q := ⟨a, d, rfl, h, h1, h2, h3, q⟩
def spEvents (K : PySem.W.Frag) (DC : Addr) : Sp := fun vs H Q _ => ∃ (v : V) (c : Int) (ns : List (Option Int)) (ls : List (Int × Int × Int)), vs = [v] ∧ DiaAt DC H v c ns ls ∧ 1 ≤ ns.length ∧ ns.length ≤ 16 ∧ ∀ H', (∀ b o, H b = some o → H' b = some o) → Q (.bl true) H'
theorem DiaAt.same {DC : Addr} {H H' : Hp} {v : V} {c : Int} {ns : List (Option Int)} {ls : List (Int × Int × Int)} (h : DiaAt DC H v c ns ls) (k : ∀ b o, H b = some o → H' b = some o) : DiaAt DC H' v c ns ls := h.keep (Tk.same k) (Ik.same k)
theorem show_int16 {n : Nat} (h : n ≤ 16) : (PyData.list [.int n]).showable = true ∧ (PyData.list [.int n]).shown.length ≤ sizeLine ∧ (PyData.list [.int n]).depth ≤ 50 := by
  have : n = 0 ∨ n = 1 ∨ n = 2 ∨ n = 3 ∨ n = 4 ∨ n = 5 ∨ n = 6 ∨ n = 7 ∨ n = 8 ∨ n = 9 ∨ n = 10 ∨ n = 11 ∨ n = 12 ∨ n = 13 ∨ n = 14 ∨ n = 15 ∨ n = 16 := by omega
  rcases this with rfl | rfl | rfl | rfl | rfl | rfl | rfl | rfl | rfl | rfl | rfl | rfl | rfl | rfl | rfl | rfl | rfl <;> refine ⟨?_, ?_, ?_⟩ <;> decide +kernel
def rLenS (K : PySem.W.Frag) : List V → Hp → VK → Prop := fun xs H Q => ∃ p ys, xs = [V.ref p] ∧ (SqL K H p ys ∨ SqT K H p ys) ∧ Q (V.int ys.length) H
theorem call_lenS {X : Cx} : CallR X (.builtin "len") (rLenS X.K) := call_len_seq
theorem neD_nil {K : PySem.W.Frag} {H : Hp} {Q : VK} {a b : Addr} (h1 : H a = some (.lst [])) (h2 : H b = some (.lst [])) (q : Q (.bl false) H) : rNeD K (.ref a) (.ref b) H Q :=
  g_neD (K := K) (dp_nilL (SqL.of h1)) (dp_nilL (SqL.of h2)) (pl_shaped pl_nilL (by decide)) (pl_shaped pl_nilL (by decide)) q
theorem g_itup {K : PySem.W.Frag} {σ : L2.St} {H : Hp} {tl : TE} {R : It → Hp → Prop} (h : tl σ H fun x H1 => ∃ a, x = V.ref a ∧ (∃ xs, SqT K H1 a xs) ∧ R (Itt K a) H1) : iTup K tl σ H R := h
theorem g_tq {K : PySem.W.Frag} {H : Hp} {a : Addr} {xs : List V} {P : Addr → Prop} (h1 : SqT K H a xs) (h : P a) : ∃ a', V.ref a = V.ref a' ∧ (∃ xs, SqT K H a' xs) ∧ P a' := ⟨a, rfl, ⟨xs, h1⟩, h⟩
theorem g_dnew {σ : L2.St} {H : Hp} {Q : VK} (h : ∀ p, H p = none → Q (.ref p) (upd H p (.dK []))) : tDNewK σ H Q := h
theorem ne_same {H : Hp} {Q : VK} {x : Str} (q : Q (.bl false) H) : rNe (.str x) (.str x) H Q := ⟨rfl, by rw [decide_eq_true rfl]; exact q⟩
theorem odd_int {K : PySem.W.Frag} {H : Hp} {n i : Int} (h : i < 0 ∨ n ≤ i) (h1 : (PyData.list [.int i]).showable = true ∧ (PyData.list [.int i]).shown.length ≤ sizeLine ∧ (PyData.list [.int i]).depth ≤ 50) : Odd K H n (.int i) := by
  refine ⟨.int i, .int i, .int i, ?_, .int i, h1⟩
  show (decide (0 ≤ i) && decide (i ≤ n - 1)) = false
  rcases h with h | h
  · rw [decide_eq_false (show ¬ 0 ≤ i by omega)]; rfl
  · rw [decide_eq_false (show ¬ i ≤ n - 1 by omega), Bool.and_false]
theorem kp {H : Hp} {p q : Addr} {o o' : HO} (n : H q = none) (h : H p = some o) : upd H q o' p = some o := by rw [upd_ne (ne_of_none h n)]; exact h
end WL
set_option Elab.async false
set_option linter.all false
set_option maxRecDepth 100000
set_option maxHeartbeats 4000000
namespace WL
open PySem PySem.Spec PyProof.Rows L2
/-! ### what the data of a diary may be shown as: small numbers, few parts -/
def smI (i : Int) : Prop := -999999999999 ≤ i ∧ i ≤ 999999999999
structure Sm (d : PyData) : Prop where
  short : PyData.leavesShort 13 d = true
  show_ : d.showable = true
theorem sm_int {i : Int} (h : smI i) : Sm (.int i) := by
  have hl := PyData.shown_int_le2 h.1 h.2
  refine ⟨?_, ?_⟩
  · first
      | exact decide_eq_true hl
      | (show decide _ = true; exact decide_eq_true hl)
  · rw [PyData.showable.eq_4]
    refine decide_eq_true ?_
    by_cases z : i.natAbs = 0
    · rw [z]; decide
    · have : i.natAbs < 2 ^ 1920 := Nat.lt_of_lt_of_le (show i.natAbs < 2 ^ 40 by have := h.1; have := h.2; omega) (Nat.pow_le_pow_right (by decide) (by decide))
      exact (Nat.log2_lt z).mpr this
theorem sm_non : Sm .none := ⟨rfl, rfl⟩
theorem sm_all {ds : List PyData} (h : ∀ d ∈ ds, Sm d) : PyData.leavesShortAll 13 ds = true ∧ PyData.showableAll ds = true := by
  induction ds with
  | nil => exact ⟨rfl, rfl⟩
  | cons d ds ih =>
    obtain ⟨a, b⟩ := ih (fun e he => h e (by simp [he]))
    have hd := h d (by simp)
    refine ⟨?_, ?_⟩
    · rw [PyData.leavesShortAll.eq_2, hd.short, a]; rfl
    · rw [PyData.showableAll.eq_2, hd.show_, b]; rfl
theorem sm_tup {ds : List PyData} (h : ∀ d ∈ ds, Sm d) : Sm (.tuple ds) := ⟨(sm_all h).1, by rw [PyData.showable.eq_6]; exact (sm_all h).2⟩
theorem sm_lst {ds : List PyData} (h : ∀ d ∈ ds, Sm d) : Sm (.list ds) := ⟨(sm_all h).1, by rw [PyData.showable.eq_5]; exact (sm_all h).2⟩
theorem sm_fits {d : PyData} (h : Sm d) (hb : d.bulk ≤ 100000) : d.shown.length ≤ sizeLine := by
  have := PyData.shown_le_bulk 13 (by decide) d h.short
  exact sz' (Nat.le_trans this (by omega))
where sz' {n : Nat} (h : n ≤ 1600000) : n ≤ sizeLine := Nat.le_trans h (by decide)
theorem bulk_all0 {α : Type} (f : α → PyData) (k : Nat) (hf : ∀ a, (f a).bulk = k) : ∀ xs : List α, PyData.bulkAll (xs.map f) = (k + 1) * xs.length
  | [] => by simp [PyData.bulkAll.eq_1]
  | x :: xs => by
    rw [List.map_cons, PyData.bulkAll.eq_2, hf, bulk_all0 f k hf xs, List.length_cons, Nat.mul_add]
    omega
theorem bulk_notes (ns : List (Option Int)) : (notesD ns).bulk = ns.length := by
  show (PyData.tuple (ns.map noteD)).bulk = _
  rw [PyData.bulk.eq_3, bulk_all0 noteD 0 (fun a => by cases a <;> rfl)]
  omega
theorem bulk_lines (ls : List (Int × Int × Int)) : (linesD ls).bulk = 4 * ls.length := by
  show (PyData.tuple (ls.map lineD)).bulk = _
  rw [PyData.bulk.eq_3, bulk_all0 lineD 3 (fun a => rfl)]
theorem sm_notes {c : Int} {ns : List (Option Int)} {ls : List (Int × Int × Int)} {w : Int} (h : DOK c ns ls w) : Sm (notesD ns) := by
  refine sm_tup fun d hd => ?_
  obtain ⟨n, hn, rfl⟩ := List.mem_map.mp hd
  cases n with
  | none => exact sm_non
  | some i =>
    obtain ⟨a, b⟩ := h.note i hn
    have := h.c100
    exact sm_int ⟨by omega, by omega⟩
theorem sm_lines {c : Int} {ns : List (Option Int)} {ls : List (Int × Int × Int)} {w : Int} (h : DOK c ns ls w) (hw : w ≤ 999999999999) : Sm (linesD ls) := by
  refine sm_tup fun d hd => ?_
  obtain ⟨l, hl, rfl⟩ := List.mem_map.mp hd
  obtain ⟨⟨a1, a2⟩, ⟨b1, b2⟩, c1, c2⟩ := h.line l hl
  have := h.n16
  refine sm_tup fun d hd => ?_
  simp only [List.mem_cons, List.not_mem_nil, or_false] at hd
  rcases hd with rfl | rfl | rfl
  · exact sm_int ⟨by omega, by omega⟩
  · exact sm_int ⟨by omega, by omega⟩
  · exact sm_int ⟨by omega, by omega⟩
/-- what a diary is read as -/
def readD (c : Int) (ns : List (Option Int)) (ls : List (Int × Int × Int)) : PyData := .list [.int c, notesD ns, linesD ls, .int ns.length, .int 100, .int 16, .int 60]
def rowD (c : Int) (ns : List (Option Int)) (ls : List (Int × Int × Int)) : List PyData := [.int c, notesD ns, linesD ls]
theorem dok_c {c : Int} {ns : List (Option Int)} {ls : List (Int × Int × Int)} {w : Int} (h : DOK c ns ls w) : Sm (.int c) := sm_int ⟨by have := h.c2; omega, by have := h.c100; omega⟩
theorem sm_read {c : Int} {ns : List (Option Int)} {ls : List (Int × Int × Int)} {w : Int} (h : DOK c ns ls w) (hw : w ≤ 999999999999) : Sm (readD c ns ls) := by
  refine sm_lst fun d hd => ?_
  have := h.n16
  simp only [List.mem_cons, List.not_mem_nil, or_false] at hd
  rcases hd with rfl | rfl | rfl | rfl | rfl | rfl | rfl
  · exact dok_c h
  · exact sm_notes h
  · exact sm_lines h hw
  · exact sm_int ⟨by omega, by omega⟩
  · exact sm_int ⟨by omega, by omega⟩
  · exact sm_int ⟨by omega, by omega⟩
  · exact sm_int ⟨by omega, by omega⟩
theorem bulk_read {c : Int} {ns : List (Option Int)} {ls : List (Int × Int × Int)} : (readD c ns ls).bulk = 7 + ns.length + 4 * ls.length := by
  show (PyData.list _).bulk = _
  rw [PyData.bulk.eq_2]
  simp only [PyData.bulkAll.eq_2, PyData.bulkAll.eq_1, PyData.bulk.eq_7, bulk_notes, bulk_lines]
  omega
theorem sm_row {c : Int} {ns : List (Option Int)} {ls : List (Int × Int × Int)} {w : Int} (h : DOK c ns ls w) (hw : w ≤ 999999999999) : Sm (.list (rowD c ns ls)) := by
  refine sm_lst fun d hd => ?_
  simp only [rowD, List.mem_cons, List.not_mem_nil, or_false] at hd
  rcases hd with rfl | rfl | rfl
  · exact dok_c h
  · exact sm_notes h
  · exact sm_lines h hw
theorem bulk_row {c : Int} {ns : List (Option Int)} {ls : List (Int × Int × Int)} : (PyData.list (rowD c ns ls)).bulk = 3 + ns.length + 4 * ls.length := by
  rw [PyData.bulk.eq_2]
  simp only [rowD, PyData.bulkAll.eq_2, PyData.bulkAll.eq_1, PyData.bulk.eq_7, bulk_notes, bulk_lines]
  omega
theorem pl_read (c : Int) (ns : List (Option Int)) (ls : List (Int × Int × Int)) : pl 3 (readD c ns ls) := by
  intro d hd
  simp only [List.mem_cons, List.not_mem_nil, or_false] at hd
  rcases hd with rfl | rfl | rfl | rfl | rfl | rfl | rfl
  · simp [pl]
  · exact pl_mono' (pl_notes ns) (by decide)
  · exact pl_lines ls
  · simp [pl]
  · simp [pl]
  · simp [pl]
  · simp [pl]
theorem pl_row (c : Int) (ns : List (Option Int)) (ls : List (Int × Int × Int)) : pl 3 (.list (rowD c ns ls)) := by
  intro d hd
  simp only [rowD, List.mem_cons, List.not_mem_nil, or_false] at hd
  rcases hd with rfl | rfl | rfl
  · simp [pl]
  · exact pl_mono' (pl_notes ns) (by decide)
  · exact pl_lines ls
/-- all that repr asks of what is read -/
theorem show_read {c : Int} {ns : List (Option Int)} {ls : List (Int × Int × Int)} {w : Int} (h : DOK c ns ls w) (hw : w ≤ 999999999999) (hl : ls.length ≤ 1000) : (readD c ns ls).showable = true ∧ (readD c ns ls).shown.length ≤ sizeLine ∧ (readD c ns ls).depth ≤ 50 :=
  ⟨(sm_read h hw).show_, sm_fits (sm_read h hw) (by rw [bulk_read]; have := h.n16; omega), Nat.le_trans (pl_lay (pl_read c ns ls)).2 (by decide)⟩
theorem show_row {c : Int} {ns : List (Option Int)} {ls : List (Int × Int × Int)} {w : Int} (h : DOK c ns ls w) (hw : w ≤ 999999999999) (hl : ls.length ≤ 1000) : (PyData.list (rowD c ns ls)).showable = true ∧ (PyData.list (rowD c ns ls)).shown.length ≤ sizeLine ∧ (PyData.list (rowD c ns ls)).depth ≤ 50 :=
  ⟨(sm_row h hw).show_, sm_fits (sm_row h hw) (by rw [bulk_row]; have := h.n16; omega), Nat.le_trans (pl_lay (pl_row c ns ls)).2 (by decide)⟩
end WL
set_option Elab.async false
set_option linter.all false
set_option maxRecDepth 100000
set_option maxHeartbeats 4000000
namespace WL
open PySem PySem.Spec PyProof.Rows L2
/-! ### a diary beside another value -/
structure OddE (K : PySem.W.Frag) (H : Hp) (x : V) : Prop where
  ex : ∃ s, AnS K H x s ∧ WL.Ty H x (.type s.ty)
section
variable {P : Program} {w : World} {K : PySem.W.Frag} {mg : Str → Option Value} {base : Heap} {DC IE : Addr} {H : Hp} {Q : VK} {f : Bool → Bool} {a : Addr} {c : Int} {ns : List (Option Int)} {ls : List (Int × Int × Int)}
theorem g_eqOdd {x : V} (D : DiaF P w K mg base DC IE) (d : DiaAt DC H (.ref a) c ns ls) (o : OddE K H x) (q : Q (.bl (f false)) H) : rOwnEq K DC (spDEq K DC) f (.ref a) x H Q := by
  obtain ⟨s, h1, h2⟩ := o.ex
  exact g_ownEq d h2 (D.nf s) ⟨_, x, c, ns, ls, rfl, d, .inr ⟨s, h1, false, rfl, q⟩⟩
theorem g_eqDia {b : Addr} {c2 : Int} {ns2 : List (Option Int)} {ls2 : List (Int × Int × Int)} (D : DiaF P w K mg base DC IE) (d : DiaAt DC H (.ref a) c ns ls) (e : DiaAt DC H (.ref b) c2 ns2 ls2)
    (q : ∀ r : Bool, (r = true ↔ (c = c2 ∧ ns = ns2 ∧ ls = ls2)) → Q (.bl (f r)) H) : rOwnEq K DC (spDEq K DC) f (.ref a) (.ref b) H Q := by
  obtain ⟨b', dx, wv, bv, eb, hb, _⟩ := e
  cases eb
  refine g_ownEq d (t := .ref DC) (Or.inr (Or.inr (Or.inr ⟨DC, dx, _, rfl, hb⟩))) D.nfD ⟨_, .ref b, c, ns, ls, rfl, d, .inl ⟨c2, ns2, ls2, ⟨b, dx, wv, bv, rfl, hb, ‹_›⟩, fun r hr => ⟨r, rfl, q r hr⟩⟩⟩
end
/-- the row of another diary's values -/
structure RowAt (H : Hp) (v : V) : Prop where
  ex : ∃ c ns ls, Fz H v (.tuple (rowD c ns ls)) ∧ DOK c ns ls 4000 ∧ ls.length ≤ 60
theorem RowAt.tk {H H' : Hp} {v : V} (k : Tk H H') (h : RowAt H v) : RowAt H' v := by
  obtain ⟨c, ns, ls, a, b⟩ := h.ex
  exact ⟨c, ns, ls, a.tk k, b⟩
def spOthers : Sp := fun vs H Q _ => ∃ (m c g : Addr) (B : Int) (v : V) (b : Book), vs = [.ref m, v] ∧ Pr m c g H H B ∧ B < 2 ^ 25 ∧ Fz H v b.d ∧ b.OK 3000 48 ∧ 2 ≤ b.notes.length ∧
  ∀ (p : Addr) (rows : List V) (H' : Hp), H p = none → Pr m c g H H' (B + 2) → H' p = some (.lst rows) → rows.length ≤ 100 → (∀ r ∈ rows, RowAt H' r) → Q (.ref p) H'
def spEqual (K : PySem.W.Frag) (DC : Addr) : Sp := fun vs H Q _ => ∃ (m cc g : Addr) (B : Int) (v d : V) (b : Book), vs = [.ref m, v, d] ∧ Pr m cc g H H B ∧ B < 2 ^ 24 ∧ Fz H v b.d ∧ b.OK 3000 48 ∧ 2 ≤ b.notes.length ∧ DiaAt DC H d b.c b.notes b.lines ∧
  ∀ H', Pr m cc g H H' (B + 2) → Q (.bl true) H'
theorem row_inv {H : Hp} {v : V} {c : Int} {ns : List (Option Int)} {ls : List (Int × Int × Int)} (h : Fz H v (.tuple (rowD c ns ls))) : ∃ a wv bv, v = .ref a ∧ H a = some (.tup [.int c, wv, bv]) ∧ Fz H wv (notesD ns) ∧ Fz H bv (linesD ls) := by
  obtain ⟨a, xs, rfl, h1, h2⟩ := Fz.tup_inv h
  cases h2 with
  | cons c1 h2 => cases h2 with
    | cons c2 h2 => cases h2 with
      | cons c3 h2 =>
        cases h2
        rw [c1.int_inv] at h1
        exact ⟨a, _, _, rfl, h1, c2, c3⟩
def rTupS (K : PySem.W.Frag) : List V → Hp → VK → Prop := fun xs H Q => ∃ p ys, xs = [V.ref p] ∧ ((SqL K H p ys ∧ ∀ l, H l = none → Q (.ref l) (upd H l (.tup ys))) ∨ SqT K H p ys ∧ Q (.ref p) H)
theorem call_tuple_ofS {X : Cx} : CallR X (.type "tuple") (rTupS X.K) := call_tuple_of
theorem LcQ.tup {K : PySem.W.Frag} {g : TG} {tt : TT} {te : TE} {vs : List Nat} {σ : L2.St} {Q : VK} {H1 : Hp} {a : Addr} {xs : List V} (I : Addr → Nat → Hp → Prop) (h0 : ∀ D, H1 D = none → I D 0 (upd H1 D (.lst [])))
    (hl : ∀ D, H1 D = none → ∀ i H, i ≤ xs.length → I D i H → SqT K H a xs)
    (hs : ∀ D, H1 D = none → ∀ (i : Nat) x H, xs[i]? = some x → I D i H → g x (wipe σ vs) H fun σ2 H2 => wipe σ2 vs = wipe σ vs ∧ tt σ2 H2 fun b H3 => if b = true then te σ2 H3 fun y H4 => ∃ acc, H4 D = some (.lst acc) ∧ acc.length < sizeLine ∧ I D (i + 1) (upd H4 D (.lst (acc ++ [y]))) else I D (i + 1) H3)
    (hd : ∀ D, H1 D = none → ∀ H, I D xs.length H → Q (.ref D) H) : LcQ g tt te vs σ Q (Itt K a) H1 :=
  fun D nD => lc_tup (I D) (h0 D nD) (hl D nD) (hs D nD) (hd D nD)
section
variable {K : PySem.W.Frag} {H : Hp}
theorem odde_non : OddE K H .non := ⟨.non, .non, rfl⟩
theorem odde_int (i : Int) : OddE K H (.int i) := ⟨.int i, .int i, rfl⟩
theorem odde_str (x : Str) : OddE K H (.str x) := ⟨.str, .str x, rfl⟩
theorem odde_lst {a : Addr} {xs : List V} (h : H a = some (.lst xs)) : OddE K H (.ref a) := ⟨.lst, .lst (SqL.of h), Or.inl ⟨rfl, _, h⟩⟩
theorem odde_dct {a : Addr} {kvs : List (Key × V)} (h : H a = some (.dK kvs)) : OddE K H (.ref a) := ⟨.dct, .dct h, Or.inr (Or.inr (Or.inl ⟨rfl, _, h⟩))⟩
theorem odde_tup {a : Addr} {xs : List V} {ss : List Sh} (h : H a = some (.tup xs)) (q : AnSs K H xs ss) : OddE K H (.ref a) := ⟨.tup ss, .tup (SqT.of h) q, Or.inr (Or.inl ⟨rfl, _, h⟩)⟩
mutual
theorem Fz.ans : ∀ {v : V} {d : PyData}, Fz H v d → ∃ s, AnS K H v s
  | _, _, .non => ⟨_, .non⟩
  | _, _, .bl b => ⟨_, .bl b⟩
  | _, _, .int i => ⟨_, .int i⟩
  | _, _, .str x => ⟨_, .str x⟩
  | _, _, .tup h q => by
    obtain ⟨ss, z⟩ := q.anss
    exact ⟨_, .tup (SqT.of h) z⟩
theorem Fzs.anss : ∀ {vs : List V} {ds : List PyData}, Fzs H vs ds → ∃ ss, AnSs K H vs ss
  | _, _, .nil => ⟨_, .nil⟩
  | _, _, .cons h q => by
    obtain ⟨s, y⟩ := h.ans
    obtain ⟨ss, z⟩ := q.anss
    exact ⟨_, .cons y z⟩
end
theorem odde_fz {a : Addr} {ds : List PyData} (h : Fz H (.ref a) (.tuple ds)) : OddE K H (.ref a) := by
  obtain ⟨a', xs, e, h1, h2⟩ := Fz.tup_inv h
  cases e
  obtain ⟨ss, z⟩ := h2.anss (K := K)
  exact odde_tup h1 z
theorem g_notBl {a b : Bool} {Q : VK} (q : Q (.bl (!decide (a = b))) H) : rNotB (.bl a) (.bl b) H Q := ⟨a, b, rfl, rfl, q⟩
end
theorem OddE.same {K : PySem.W.Frag} {H H' : Hp} {x : V} (k : ∀ b o, H b = some o → H' b = some o) (h : OddE K H x) : OddE K H' x := by
  obtain ⟨s, a, b⟩ := h.ex
  refine ⟨s, a.same k, ?_⟩
  cases x with
  | ref p =>
    rcases b with ⟨e, xs, z⟩ | ⟨e, xs, z⟩ | ⟨e, xs, z⟩ | ⟨C, dx, fs, e, z⟩
    · exact Or.inl ⟨e, xs, k _ _ z⟩
    · exact Or.inr (Or.inl ⟨e, xs, k _ _ z⟩)
    · exact Or.inr (Or.inr (Or.inl ⟨e, xs, k _ _ z⟩))
    · exact Or.inr (Or.inr (Or.inr ⟨C, dx, fs, e, k _ _ z⟩))
  | _ => exact b
theorem Pr.of_same {m c g : Addr} {H H' : Hp} {B : Int} (p : Pr m c g H H B) (k : ∀ b o, H b = some o → H' b = some o) : Pr m c g H H' B := by
  obtain ⟨⟨n, hn, d1, ⟨l, hl, d2⟩, ⟨l', hl', d3⟩, d4, d5⟩, _⟩ := p
  exact ⟨⟨n, hn, k _ _ d1, ⟨l, hl, k _ _ d2⟩, ⟨l', hl', k _ _ d3⟩, d4, d5⟩, fun b o _ _ h => k b o h⟩
theorem row_eqv {c c2 : Int} {ns ns2 : List (Option Int)} {ls ls2 : List (Int × Int × Int)} : (PyData.tuple (rowD c ns ls)).eqv (.tuple (rowD c2 ns2 ls2)) = true ↔ (c = c2 ∧ ns = ns2 ∧ ls = ls2) := by
  have p1 : pl 3 (.tuple (rowD c ns ls)) := pl_row c ns ls
  have p2 : pl 3 (.tuple (rowD c2 ns2 ls2)) := pl_row c2 ns2 ls2
  rw [pl_eqv p1 p2]
  constructor
  · intro h
    simp only [rowD, PyData.tuple.injEq, List.cons.injEq, PyData.int.injEq, and_true] at h
    exact ⟨h.1, notesD_inj h.2.1, linesD_inj h.2.2⟩
  · rintro ⟨rfl, rfl, rfl⟩; rfl
theorem b_ext {a b : Bool} {P : Prop} (h : a = true ↔ P) (k : b = true ↔ P) : a = b := by
  cases a <;> cases b <;> simp_all
theorem neD_bools {K : PySem.W.Frag} {H : Hp} {Q : VK} {p q : Addr} {r : Bool} (h1 : H p = some (.lst [.bl r, .bl r, .bl (!r)])) (h2 : H q = some (.lst [.bl r, .bl r, .bl (!r)])) (k : Q (.bl false) H) : rNeD K (.ref p) (.ref q) H Q := by
  refine g_neD (K := K) (d := .list [.bool r, .bool r, .bool (!r)]) (e := .list [.bool r, .bool r, .bool (!r)]) (.lst (SqL.of h1) (.cons (.bl _) (.cons (.bl _) (.cons (.bl _) .nil)))) (.lst (SqL.of h2) (.cons (.bl _) (.cons (.bl _) (.cons (.bl _) .nil)))) (by cases r <;> decide +kernel) (by cases r <;> decide +kernel) ?_
  rw [show (PyData.list [.bool r, .bool r, .bool (!r)]).eqv (.list [.bool r, .bool r, .bool (!r)]) = true by cases r <;> decide +kernel]
  exact k
end WL
set_option Elab.async false
set_option linter.all false
set_option maxRecDepth 100000
set_option maxHeartbeats 4000000
namespace WL
open PySem PySem.Spec PyProof.Rows L2
theorem places_rev (n : Nat) : Builtin.Slice.slicePlaces ((n : Int) - 1) (-1) (-1) = n := by
  unfold Builtin.Slice.slicePlaces
  rw [if_neg (by decide)]
  by_cases h : (n : Int) - 1 > -1
  · rw [if_pos h]; simp
  · rw [if_neg h]
    have : n = 0 := by omega
    subst this; rfl
theorem pick_self {α : Type} : ∀ l : List α, (List.range l.length).filterMap (fun k => l[k]?) = l
  | [] => rfl
  | a :: t => by
    rw [List.length_cons, List.range_succ_eq_map, List.filterMap_cons, List.filterMap_map]
    show a :: (List.range t.length).filterMap (fun k => (a :: t)[k + 1]?) = a :: t
    have := pick_self t
    simp only [List.getElem?_cons_succ]
    rw [this]
theorem fm_congr {α β : Type} {f g : α → Option β} : ∀ {l : List α}, (∀ x ∈ l, f x = g x) → l.filterMap f = l.filterMap g
  | [], _ => rfl
  | x :: l, h => by
    rw [List.filterMap_cons, List.filterMap_cons, h x (by simp), fm_congr (l := l) fun y hy => h y (by simp [hy])]
theorem pick_rev {α : Type} (xs : Array α) : ((List.range xs.size).filterMap fun (k : Nat) => xs[((xs.size : Int) - 1 + (k : Int) * -1).toNat]?).toArray = xs.toList.reverse.toArray := by
  congr 1
  have h := pick_self xs.toList.reverse
  rw [List.length_reverse, Array.length_toList] at h
  refine Eq.trans (fm_congr fun k hk => ?_) h
  have hk' : k < xs.size := List.mem_range.mp hk
  rw [List.getElem?_reverse (by simpa using hk'), show ((xs.size : Int) - 1 + (k : Int) * -1).toNat = xs.toList.length - 1 - k by rw [Array.length_toList]; omega]
  simp
theorem slice_rev {prog : Program} {w : World} {A : Around} {E : Value → Shared → Prop} {s : Shared} {sl : Addr} {vl vu vs : Value} {n : Nat} {Q : Int × Int × Nat → Shared → Prop} (hs : s.heap.IsSliceOf sl vl vu vs) (pl : IsPart vl none) (pu : IsPart vu none) (ps : IsPart vs (some (-1))) (h : Q ((n : Int) - 1, -1, n) s) :
    wpAny (model prog w) A (Builtin.Slice.sliceApplied (.ref sl) (pure (n : Int))) Q E s := by
  obtain ⟨o, ho, hc, hd⟩ := hs
  unfold Builtin.Slice.sliceApplied
  refine wpAny_bind ?_
  unfold Builtin.Slice.sliceFields
  refine wpAny_bind (wpAny_field ho hd rfl (wpAny_bind (wpAny_field ho hd rfl (wpAny_bind (wpAny_field ho hd rfl (wpAny_pure ?_))))))
  refine wpAny_bind (HT.slicePart_ ps ?_)
  refine wpAny_ite_false (by rfl) ?_
  refine wpAny_bind (HT.slicePart_ pl (wpAny_bind (HT.slicePart_ pu (wpAny_bind (wpAny_pure ?_)))))
  show wpAny _ _ (pure ((n : Int) - 1, -1, Builtin.Slice.slicePlaces ((n : Int) - 1) (-1) (-1))) Q E s
  rw [places_rev]
  exact wpAny_pure h
theorem getItem_tuple_rev {prog : Program} {w : World} {A : Around} {E : Value → Shared → Prop} {s : Shared} {t sl : Addr} {items : Array Value} {vl vu vs : Value} {Q : Value → Shared → Prop} (ht : PyProof.Rows.IsTup s.heap t items) (hs : s.heap.IsSliceOf sl vl vu vs) (pl : IsPart vl none) (pu : IsPart vu none) (ps : IsPart vs (some (-1))) (hsz : items.size ≤ sizeLine)
    (h : Q (.ref s.heap.objs.size) { heap := s.heap.push { cls := .type "tuple", data := .seq items.toList.reverse.toArray }, gens := s.gens, drawn := s.drawn, toks := s.toks, os := s.os }) : wpAny (model prog w) A (getItem (.ref t) (.ref sl)) Q E s := by
  have hs0 := hs
  obtain ⟨os, hos, hcs, hds⟩ := hs0
  have hTs : s.TypeIs (.ref sl) "slice" := ⟨os, hos, hcs⟩
  refine id (wpAny_holding (wpAny_bind (wpAny_sequenceKey (IsTup.typeIs ht) (by decide) (wpAny_bind (wpAny_callSpecial?_slot (IsTup.typeIs ht) slot_tuple_getitem (wpAny_call_entry slot_tuple_getitem (IsTup.typeIs ht) entry_tuple_getitem ?_))))))
  refine wpAny_bind ?_
  show wpAny _ _ (pure (Value.ref t, [Value.ref sl])) _ _ _
  refine wpAny_pure ?_
  refine wpAny_bind (tupleItemsOf_ ht (wpAny_bind (wpAny_typeOf hTs ?_)))
  refine wpAny_ite_true (by rfl) ?_
  refine wpAny_bind (slice_rev hs pl pu ps ?_)
  refine wpAny_ite_false ?_ ?_
  · show decide (((items.size : Int) - 1 == 0 && (-1 : Int) == 1 && items.size == items.size) = true) = false
    refine decide_eq_false ?_
    simp
  · rw [pick_rev]
    unfold Builtin.Tuple.tupleExact
    refine wpAny_bind (wpAny_newObj_type ?_ ?_)
    · exact wpAny_pure ⟨_, rfl, wpAny_pure h⟩
    · show items.toList.reverse.toArray.size ≤ sizeLine
      simpa using hsz
/-- xs[::-1] of a tuple -/
def tRevT (K : PySem.W.Frag) (te : TE) : TE := fun σ H Q => te σ H fun x H1 => ∃ a xs, x = V.ref a ∧ SqT K H1 a xs ∧ ∀ p, H1 p = none → Q (V.ref p) (upd H1 p (.tup xs.reverse))
theorem pe_revT {X : Cx} {e : Expr} {te : TE} {k : Nat} {p1 p2 p3 pos : Pos} (he : PE X e te) : PE X (e.Subscript (Expr.Slice none none (some (Expr.UnaryOp UnaryOp.USub (Expr.Constant (Const.int 1) k p1) p2)) p3) pos) (tRevT X.K te) := by
  constructor
  intro pins s σ H Q I h
  refine PyProof.Rows.Subscript_ (thn (he.run pins s σ H _ I h) ?_)
  rintro v s1 ⟨x, H1, I1, r1, a, xs, rfl, hx, q⟩
  cases r1
  have hst : PO X (some (Expr.UnaryOp UnaryOp.USub (Expr.Constant (Const.int 1) k p1) p2)) _ := po_some (pe_un un_neg pe_int)
  refine wpAny_Slice (thn (po_none.run pins s1 σ H1 (fun o H2 => o = none ∧ H2 = H1) I1 ⟨rfl, rfl⟩) ?_)
  rintro vl s2 ⟨l, H2, I2, pl, rfl, e2⟩
  subst e2
  refine thn (po_none.run pins s2 σ H2 (fun o H3 => o = none ∧ H3 = H2) I2 ⟨rfl, rfl⟩) ?_
  rintro vu s3 ⟨u, H3, I3, pu, rfl, e3⟩
  subst e3
  refine thn (hst.run pins s3 σ H3 (fun o H4 => o = some (-1) ∧ H4 = H3) I3 ⟨1, rfl, -1, rfl, rfl, rfl⟩) ?_
  rintro vs s4 ⟨o, H4, I4, ps, rfl, e4⟩
  subst e4
  have I5 := Inv.kept (t' := s4.toks) (h' := s4.heap.push { cls := .type "slice", data := .fields #[vl, vu, vs] }) I4 fun b ob q => Heap.get?_push_of_some _ q
  obtain ⟨its, r, ht, hz⟩ := Inv.tuple I5 hx
  have hlen := r.length
  refine tail_any (IsTup.typeIs ht) slot_tuple_getitem.lookup (getItem_tuple_rev ht (Heap.IsSliceOf.new s4.heap vl vu vs) pl pu ps (by rw [List.size_toArray]; omega) ?_) rfl
  refine ⟨.ref (s4.heap.push { cls := .type "slice", data := .fields #[vl, vu, vs] }).objs.size, upd H4 (s4.heap.push { cls := .type "slice", data := .fields #[vl, vu, vs] }).objs.size (.tup xs.reverse), Inv.laid I5 (fun b ob q => Heap.get?_push_of_some _ q) (Nat.le_refl _) ⟨by rw [List.length_reverse]; exact hz, its.reverse, Vals.reverse r, _, Heap.get?_push_size _ rfl, rfl, 0, rfl⟩, rfl, q _ (I5.hok.fresh (Nat.le_refl _))⟩
theorem g_revT {K : PySem.W.Frag} {te : TE} {σ : L2.St} {H : Hp} {Q : VK} (h : te σ H fun x H1 => ∃ a xs, x = V.ref a ∧ SqT K H1 a xs ∧ ∀ p, H1 p = none → Q (V.ref p) (upd H1 p (.tup xs.reverse))) : tRevT K te σ H Q := h
/-! ### rows of values before those too great are left out -/
structure RowC (c : Int) (ns : List (Option Int)) (ls : List (Int × Int × Int)) : Prop where
  c2 : 2 ≤ c
  c101 : c ≤ 1000
  n1 : 1 ≤ ns.length
  note : ∀ i : Int, some i ∈ ns → 0 ≤ i ∧ i < c
  line : ∀ l ∈ ls, (0 ≤ l.1 ∧ l.1 < ns.length) ∧ (0 ≤ l.2.1 ∧ l.2.1 < ns.length) ∧ -4000 ≤ l.2.2 ∧ l.2.2 ≤ 4000
structure RowB (H : Hp) (v : V) : Prop where
  ex : ∃ c ns ls, Fz H v (.tuple (rowD c ns ls)) ∧ RowC c ns ls
theorem RowB.tk {H H' : Hp} {v : V} (k : Tk H H') (h : RowB H v) : RowB H' v := by
  obtain ⟨c, ns, ls, a, b⟩ := h.ex
  exact ⟨c, ns, ls, a.tk k, b⟩
theorem rowC_of {b : Book} (h : b.OK 3000 48) : RowC b.c b.notes b.lines := by
  obtain ⟨⟨a1, a2, a3, a4, a5, a6⟩, _, _⟩ := h
  refine ⟨a1, by omega, a3, a5, fun l hl => ?_⟩
  obtain ⟨x, y, z, u⟩ := a6 l hl
  exact ⟨x, y, by omega, by omega⟩
theorem mk_row {H : Hp} {a : Addr} {c : Int} {n l : V} {ns : List (Option Int)} {ls : List (Int × Int × Int)} (h : H a = some (.tup [.int c, n, l])) (hn : Fz H n (notesD ns)) (hl : Fz H l (linesD ls)) (r : RowC c ns ls) : RowB H (.ref a) := ⟨c, ns, ls, .tup h (.cons (.int c) (.cons hn (.cons hl .nil))), r⟩
theorem RowC.notes {c : Int} {ns ns' : List (Option Int)} {ls : List (Int × Int × Int)} (r : RowC c ns ls) (hl : ns.length ≤ ns'.length) (h : ∀ i : Int, some i ∈ ns' → some i ∈ ns ∨ (0 ≤ i ∧ i < c)) : RowC c ns' ls := by
  obtain ⟨a1, a2, a3, a4, a5⟩ := r
  refine ⟨a1, a2, by omega, fun i hi => (h i hi).elim (a4 i) id, fun l hl' => ?_⟩
  obtain ⟨x, y, z⟩ := a5 l hl'
  exact ⟨⟨x.1, by omega⟩, ⟨y.1, by omega⟩, z⟩
theorem RowC.lines {c : Int} {ns : List (Option Int)} {ls ls' : List (Int × Int × Int)} (r : RowC c ns ls) (h : ∀ l ∈ ls', l ∈ ls ∨ ((0 ≤ l.1 ∧ l.1 < ns.length) ∧ (0 ≤ l.2.1 ∧ l.2.1 < ns.length) ∧ -4000 ≤ l.2.2 ∧ l.2.2 ≤ 4000)) : RowC c ns ls' := by
  obtain ⟨a1, a2, a3, a4, a5⟩ := r
  exact ⟨a1, a2, a3, a4, fun l hl => (h l hl).elim (a5 l) id⟩
theorem RowC.up {c : Int} {ns : List (Option Int)} {ls : List (Int × Int × Int)} (r : RowC c ns ls) (h : c < 1000) : RowC (c + 1) ns ls := by
  obtain ⟨a1, a2, a3, a4, a5⟩ := r
  exact ⟨by omega, by omega, a3, fun i hi => by have := a4 i hi; omega, a5⟩
theorem RowB.at_ {H : Hp} {c : Int} {ns : List (Option Int)} {ls : List (Int × Int × Int)} (r : RowC c ns ls) (h1 : c < 101) (h2 : ns.length < 17) (h3 : ls.length < 61) : DOK c ns ls 4000 ∧ ls.length ≤ 60 := by
  obtain ⟨a1, a2, a3, a4, a5⟩ := r
  exact ⟨⟨a1, by omega, a3, by omega, a4, a5⟩, by omega⟩
theorem notes_rev (ns : List (Option Int)) : (ns.map noteV).reverse = ns.reverse.map noteV := by rw [List.map_reverse]
def spLaw (K : PySem.W.Frag) : Sp := fun vs H Q _ => ∃ (a : Addr) (ns : List Int), vs = [.ref a] ∧ SqL K H a (ns.map V.int) ∧ ns.length ≤ 63 ∧ ∀ H', Q (.bl true) H'
/-- Diary.of(2, 1) -/
def spOf (DC : Addr) : Sp := fun vs H Q _ => ∃ i j : Int, vs = [.ref DC, .int i, .int j] ∧ (2 ≤ i ∧ i ≤ 100) ∧ (0 ≤ j ∧ j < i) ∧ ∀ (x : Addr) (H' : Hp), H x = none → DiaAt DC H' (.ref x) i [some j] [] → (∀ b o, H b = some o → H' b = some o) → Q (.ref x) H'
end WL
set_option Elab.async false
set_option linter.all false
set_option maxRecDepth 100000
set_option maxHeartbeats 4000000
namespace WL
open PySem PySem.Spec PyProof.Rows L2
/-! ### zip of two lists -/
section
variable {σ : L2.St} {H H1 : Hp} {Q : VK} {D : Ends} {K : PySem.W.Frag} {g : TG} {tt : TT} {te : TE} {vs : List Nat} {tb : TS}
theorem g_zip {ta : TA} {R : It → Hp → Prop} (h : ta σ H fun vs H1 => ∃ a b xs ys, vs = [.ref a, .ref b] ∧ SqL K H1 a xs ∧ SqL K H1 b ys ∧ R (Itz K a b) H1) : iZip K ta σ H R := h
theorem g_zq {a b : Addr} {xs ys : List V} {P : Addr → Addr → Prop} (h1 : SqL K H a xs) (h2 : SqL K H b ys) (h : P a b) : ∃ a' b' xs' ys', [V.ref a, V.ref b] = [V.ref a', V.ref b'] ∧ SqL K H a' xs' ∧ SqL K H b' ys' ∧ P a' b' := ⟨a, b, xs, ys, rfl, h1, h2, h⟩
theorem ForQ.zip {a b : Addr} {xs ys : List V} (hl : xs.length = ys.length) (I : Nat → L2.St → Hp → Prop) (h0 : I 0 σ H1) (hq : ∀ i σ H, I i σ H → SqL K H a xs ∧ SqL K H b ys)
    (hs : ∀ (i : Nat) (x y : V) (T : Addr) (σ : L2.St) (H : Hp), xs[i]? = some x → ys[i]? = some y → I i σ H → H T = none → g (.ref T) σ (upd H T (.tup [x, y])) fun σ2 H2 => tb { D with nx := I (i + 1), ct := I (i + 1), bk := D.nx } σ2 H2) (hd : ∀ σ H, I xs.length σ H → D.nx σ H) : ForQ g tb D σ (Itz K a b) H1 := RZ.for_zipL hl I h0 hq hs hd
theorem LcQ.zip {a b : Addr} {xs ys : List V} (hl : xs.length = ys.length) (I : Addr → Nat → Hp → Prop) (h0 : ∀ D, H1 D = none → I D 0 (upd H1 D (.lst [])))
    (hq : ∀ D, H1 D = none → ∀ i H, I D i H → SqL K H a xs ∧ SqL K H b ys)
    (hs : ∀ D, H1 D = none → ∀ (i : Nat) (x y : V) (T : Addr) (H : Hp), xs[i]? = some x → ys[i]? = some y → I D i H → H T = none → g (.ref T) (wipe σ vs) (upd H T (.tup [x, y])) fun σ2 H2 => wipe σ2 vs = wipe σ vs ∧ tt σ2 H2 fun b H3 => if b = true then te σ2 H3 fun y H4 => ∃ acc, H4 D = some (.lst acc) ∧ acc.length < sizeLine ∧ I D (i + 1) (upd H4 D (.lst (acc ++ [y]))) else I D (i + 1) H3)
    (hd : ∀ D, H1 D = none → ∀ H, I D xs.length H → Q (.ref D) H) : LcQ g tt te vs σ Q (Itz K a b) H1 := by
  intro D nD
  refine ⟨fun i m H => m = xs.length - i ∧ i ≤ xs.length ∧ I D i H, ⟨xs.length, rfl, Nat.zero_le _, h0 D nD⟩, ?_⟩
  rintro i m H ⟨rfl, hi, p⟩
  obtain ⟨qx, qy⟩ := hq D nD i H p
  by_cases hlt : i < xs.length
  · have hx : xs[i]? = some xs[i] := List.getElem?_eq_getElem hlt
    have hlt2 : i < ys.length := by omega
    have hy : ys[i]? = some ys[i] := List.getElem?_eq_getElem hlt2
    refine .inr ⟨⟨xs, ys, _, _, qx, qy, hx, hy⟩, I D (i + 1), fun H' p' => ⟨xs.length - (i + 1), by omega, rfl, hlt, p'⟩, fun v H' y => ?_⟩
    obtain ⟨T, x', y', rfl, hT, rfl, f1, f2⟩ := y
    exact hs D nD i x' y' T H (f1 xs qx) (f2 ys qy) p hT
  · have e : i = xs.length := by omega
    subst e
    exact .inl ⟨⟨xs, ys, qx, qy, Or.inl (Nat.le_refl _)⟩, hd D nD H p⟩
theorem g_cmeth {C : Addr} {sp : Sp} {E : XK} {ta : TE} {t : TA} (h : ta σ H fun x H1 => x = .ref C ∧ t σ H1 fun vs H2 => sp (.ref C :: vs) H2 Q E) : ClX.tCMeth C sp E ta t σ H Q := h
theorem g_rep {l : Addr} {k : Int} {xs : List V} (h : H l = some (.lst xs)) (h1 : 0 ≤ k) (h2 : k ≤ 1000) (h3 : xs.length ≤ 100) (q : ∀ p, H p = none → Q (.ref p) (upd H p (.lst (List.replicate k.toNat xs).flatten))) : rRep (.ref l) (.int k) H Q := by
  refine ⟨l, k, xs, rfl, rfl, h, by omega, by omega, ?_, q⟩
  have e : xs.length * k.toNat ≤ 100 * 1000 := Nat.mul_le_mul h3 (by omega)
  exact Nat.le_trans e (by decide)
theorem g_repT {l : Addr} {k : Int} {xs : List V} (h : SqT K H l xs) (h0 : xs ≠ []) (h1 : 2 ≤ k) (h2 : k ≤ 1000) (h3 : xs.length ≤ 1000) (q : ∀ p, H p = none → Q (.ref p) (upd H p (.tup (List.replicate k.toNat xs).flatten))) : rRepT K (.ref l) (.int k) H Q := ⟨l, k, xs, rfl, rfl, h, h0, h1, h2, h3, q⟩
end
/-! ### books and their diaries -/
structure BkAt (H : Hp) (v : V) : Prop where
  ex : ∃ b : Book, Fz H v b.d ∧ 2 ≤ b.notes.length ∧ b.OK 3000 48
theorem BkAt.tk {H H' : Hp} {v : V} (k : Tk H H') (h : BkAt H v) : BkAt H' v := by
  obtain ⟨b, f, n, o⟩ := h.ex
  exact ⟨b, f.tk k, n, o⟩
structure PairAt (DC : Addr) (H : Hp) (x y : V) : Prop where
  ex : ∃ b : Book, Fz H x b.d ∧ 2 ≤ b.notes.length ∧ b.OK 3000 48 ∧ DiaAt DC H y b.c b.notes b.lines
theorem PairAt.keep {DC : Addr} {H H' : Hp} {x y : V} (t : Tk H H') (i : Ik H H') (h : PairAt DC H x y) : PairAt DC H' x y := by
  obtain ⟨b, f, n, o, d⟩ := h.ex
  exact ⟨b, f.tk t, n, o, d.keep t i⟩
theorem Ik.updL {H : Hp} {p : Addr} {o : HO} {xs : List V} (q : H p = some (.lst xs)) : Ik H (upd H p o) := fun b C dx fs h => by
  rw [upd_ne (fun e => by subst e; rw [q] at h; cases h)]; exact h
theorem fzs_rep {H : Hp} {v : V} {d : PyData} (h : Fz H v d) : ∀ n : Nat, Fzs H (List.replicate n v) (List.replicate n d)
  | 0 => .nil
  | n + 1 => .cons h (fzs_rep h n)
theorem bulk_two (d : PyData) : (PyData.list [d, d]).bulk = 2 + 2 * d.bulk := by
  rw [PyData.bulk.eq_2]
  simp only [PyData.bulkAll.eq_2, PyData.bulkAll.eq_1]
  omega
theorem show_two {c : Int} {ns : List (Option Int)} {ls : List (Int × Int × Int)} {w : Int} (h : DOK c ns ls w) (hw : w ≤ 999999999999) (hl : ls.length ≤ 1000) : (PyData.list [readD c ns ls, readD c ns ls]).showable = true ∧ (PyData.list [readD c ns ls, readD c ns ls]).shown.length ≤ sizeLine ∧ (PyData.list [readD c ns ls, readD c ns ls]).depth ≤ 50 := by
  have s : Sm (.list [readD c ns ls, readD c ns ls]) := sm_lst fun d hd => by
    simp only [List.mem_cons, List.not_mem_nil, or_false, or_self] at hd
    subst hd
    exact sm_read h hw
  have p : pl 4 (.list [readD c ns ls, readD c ns ls]) := fun d hd => by
    simp only [List.mem_cons, List.not_mem_nil, or_false, or_self] at hd
    subst hd
    exact pl_read c ns ls
  exact ⟨s.show_, sm_fits s (by rw [bulk_two, bulk_read]; have := h.n16; omega), Nat.le_trans (pl_lay p).2 (by decide)⟩
/-! ### a class held by a local name is called -/
def tMakeL (i : Nat) (C : Addr) (sp : Sp) (dvs : List V) (E : XK) (t : TA) : TE := fun σ H Q => σ[i]? = some (some (.ref C)) ∧ tMake C sp dvs E t σ H Q
theorem g_makeL {i : Nat} {C : Addr} {sp : Sp} {dvs : List V} {E : XK} {t : TA} {σ : L2.St} {H : Hp} {Q : VK} (h1 : σ[i]? = some (some (.ref C))) (h : tMake C sp dvs E t σ H Q) : tMakeL i C sp dvs E t σ H Q := ⟨h1, h⟩
theorem pe_makeL {X : Cx} {CX : CXT} {k i : Nat} {f C : Addr} {fd : FuncData} {ps : List Str} {sp : Sp} {dvs : List V} {ds : List Value} {E : XK} {x : Str} {p pos : Pos} {e : Expr} {es : List Expr} {t : TA} (M : Mk X.K C f) (F : FnOk X.prog X.w X.K X.mg X.base CX k f fd ps sp) (hr : Room (k + 1) X.A) (hN : X.N[i]? = some x) (hv : Vis X.env.scope x)
    (hb : Binds X.K fd ps ds) (hd : Vals dvs ds) (hx : Passes CX X E) (ha : PA X (e :: es) t) (hdb : (x == ("__debug__" : Str)) = false := by decide) (hcd : (x == ("__classdict__" : Str)) = false := by decide)
    (he : starEach (e :: es) X.env = (false, eval e X.env) :: starEach es X.env := by rfl) (hpl : (backTo pos (starEach es X.env)).any (·.1) = false := by rfl) : PE X (.Call (.Name x p) (e :: es) [] pos) (tMakeL i C sp dvs E t) := by
  refine ⟨fun pins s σ H Q I h => ?_⟩
  obtain ⟨hs, ht⟩ := h
  refine wpAny_Call_Name_kw (thn ((pe_var (pos := p) hN hv hdb hcd).run pins s σ H (fun v H1 => v = .ref C ∧ H1 = H) I ⟨.ref C, hs, rfl, rfl⟩) fun u s1 ⟨v, H1, I1, r1, q1⟩ => ?_)
  obtain ⟨rfl, rfl⟩ := q1
  cases r1
  refine PySem.W.callWith_K (h₀ := X.base) I.ok.mod.kin M.kp (thn (ha.run pos pins s1 σ _ _ I1 ht) fun us s2 ⟨vs, H2, I2, r, q⟩ => ⟨I2.kIn, ?_⟩) he hpl
  exact run_make M F hr hb hd hx I2 r q
/-- Diary.of(2, 1), what is behind the first two in a tuple -/
def spOfT (DC : Addr) : Sp := fun vs H Q _ => ∃ (i j : Int) (p : Addr), vs = [.ref DC, .int i, .ref p] ∧ H p = some (.tup [.int j]) ∧ (2 ≤ i ∧ i ≤ 100) ∧ (0 ≤ j ∧ j < i) ∧ ∀ (x : Addr) (H' : Hp), H x = none → DiaAt DC H' (.ref x) i [some j] [] → (∀ b o, H b = some o → H' b = some o) → Q (.ref x) H'
theorem of_star {DC : Addr} : ∀ vs H Q E, spOf DC vs H Q E → ∃ ws rest, vs = ws ++ rest ∧ ws.length = (["cls", "modulus"] : List Str).length ∧ rest.length ≤ sizeLine ∧ ∀ p, H p = Option.none → spOfT DC (ws ++ [V.ref p]) (upd H p (.tup rest)) Q E := by
  rintro vs H Q E ⟨i, j, rfl, hi, hj, q⟩
  refine ⟨[.ref DC, .int i], [.int j], rfl, rfl, by simp [sizeLine_eq], fun p np => ⟨i, j, p, rfl, upd_same, hi, hj, fun x H' nx d s => ?_⟩⟩
  have u := same_up (o := .tup [.int j]) np (H := H) (fun _ _ h => h)
  exact q x H' (none_up nx u) d fun b o h => s _ _ (u _ _ h)
/-- a class method as the head sees it -/
def cmB (K : PySem.W.Frag) (C : Addr) (m : Str) : Bool := He5.wrapB K C "classmethod" "classmethod.__get__" m && PySem.W.fnIn K (He5.wf K C "classmethod" m)
theorem cmB_ok {K : PySem.W.Frag} {C : Addr} {m : Str} (h : cmB K C m = true) : ClX.CMet K C (.type "type") m (He.ma K C m) (He5.wf K C "classmethod" m) := by
  obtain ⟨a, b⟩ := He.ba h
  exact He5.cmet_of a b
theorem wf_rec {K : PySem.W.Frag} {C : Addr} {T : String} {m : Str} : He5.wf K C T m = recAd K (He.ma K C m) T := by
  unfold He5.wf recAd
  rfl
end WL
set_option Elab.async false
set_option linter.all false
set_option maxRecDepth 100000
set_option maxHeartbeats 4000000
namespace WL
open PySem PySem.Spec PyProof.Rows L2
/-! ### the end of a law that shows values and makes lambdas -/
/-- the module that the builtins stand in -/
def BmW (mg : Str → Option Value) (h : Heap) : Prop := ∃ (b : Addr) (o : Obj), mg "__builtins__" = some (.ref b) ∧ b ≠ builtinsNs ∧ h.get? b = some o ∧ o.cls = .type "module" ∧ o.dict = some builtinsNs ∧ o.data = .plain
section
variable {P : Program} {w : World} {K : PySem.W.Frag} {mg mb : Str → Option Value} {k : Nat} {fa a : Addr} {fd : FuncData} {x : Str} {sp : Sp} {s : Shared} {vs : List Value} {ns : List Int} {cs : List (Addr × Addr)}
/-- the script and the empty tables -/
def atLawT (K : PySem.W.Frag) (cs : List (Addr × Addr)) (a : Addr) (vs : List Value) (ns : List Int) : Hp := fun b => if b ∈ cs.map Prod.snd then some (.tbl #[]) else atLaw K a vs ns b
theorem law_gT (kin : K.In s.heap) (gl : s.heap.Ns mainGlobals mg) (bl : s.heap.Ns builtinsNs mb) (bb : ∀ x : Str, x ≠ "__name__" → mb x = bootBuiltins x) (lim : s.heap.NoLimit) (gens : s.gens = #[]) (bm : BmW mg s.heap)
    (tE : ∀ p ∈ cs, s.heap.get? p.2 = some (PySem.W.tabObj #[])) (tK : ∀ p ∈ cs, K.lookup p.2 = none) (tC : ∀ p ∈ cs, PySem.W.CodeHd s.heap p.1 p.2)
    (ha : s.heap.get? a = some { cls := .type "list", data := .seq vs.toArray }) (hi : IntsAre vs ns) (hl : ns.length ≤ sizeLine) (hr : Room k callerA)
    (F : ∀ base : Heap, K.In base → base.Ns mainGlobals mg → (∀ p ∈ cs, LamX.TabB base mg p.1 p.2) → GOk P w K mg base k fa fd [x] sp) (bind : ∀ (s : Shared) (u : Value), BindsTo s fd ⟨[u], []⟩ [(x, u)])
    (hsp : ∀ H : Hp, (∀ p ∈ cs, H p.2 = some (.tbl #[])) → SqL K H a (ns.map V.int) → sp [.ref a] H (fun v _ => v = .bl true) fun _ _ _ => False) :
    codeAny (model P w) callerA (.call (.ref fa) ⟨[.ref a], []⟩) (fun r s' => r = .ok (.ret (.bool true)) ∧ PySem.OldK s.heap s'.heap ∧ s'.os = s.os ∧ AllBare s'.gens) s := by
  have hv := vals_ints hi
  have isTab : ∀ {b : Addr}, b ∈ cs.map Prod.snd → s.heap.get? b = some (PySem.W.tabObj #[]) := fun {b} m => by
    obtain ⟨p, hp, rfl⟩ := List.mem_map.mp m
    exact tE p hp
  have notTab : ∀ {b : Addr} {o : Obj}, s.heap.get? b = some o → o.data ≠ .fields #[] → b ∉ cs.map Prod.snd := fun {b o} e d m => by
    rw [isTab m] at e
    cases e
    exact d rfl
  have aNo : a ∉ cs.map Prod.snd := notTab ha (fun z => nomatch z)
  have atA : ∀ {b : Addr}, b ∉ cs.map Prod.snd → atLawT K cs a vs ns b = atLaw K a vs ns b := fun m => if_neg m
  have atT : ∀ {b : Addr}, b ∈ cs.map Prod.snd → atLawT K cs a vs ns b = some (.tbl #[]) := fun m => if_pos m
  have hok : HOk P w (atLawT K cs a vs ns) s.heap := by
    intro b o hb
    by_cases m : b ∈ cs.map Prod.snd
    · rw [atT m] at hb
      cases hb
      exact isTab m
    · rw [atA m] at hb
      obtain ⟨rfl, _, rfl⟩ := atLaw_some hb
      exact ⟨ha, by rw [List.length_map]; exact hl, vs, _, hv, ha⟩
  have seen : SqL K (atLawT K cs a vs ns) a (ns.map V.int) := by
    cases q : K.lookup a with
    | none => exact .inl (.inr ⟨_, (atA aNo).trans (if_pos ⟨rfl, q⟩)⟩)
    | some o =>
      have e := (kin a o q).symm.trans ha
      cases e
      exact .inr ⟨_, vs.toArray, _, q, rfl, rfl, rfl, by rw [List.size_toArray, hi.length]; exact hl, by simpa using hv⟩
  have ground : ∀ {b : Addr} {o : Obj}, s.heap.get? b = some o → (b = a → K.lookup a ≠ none) → b ∉ cs.map Prod.snd → (hidT s.heap (atLawT K cs a vs ns)).get? b = some o := fun {b o} e n m => hidT_get e (by
    rw [atA m]
    exact if_neg fun c => n c.1 c.2)
  have notA : ∀ {b : Addr} {o : Obj}, s.heap.get? b = some o → (∀ ys n, o.data ≠ .seq ys n) → b ≠ a := fun {b o} e d z => by
    rw [z, ha] at e
    cases e
    exact d _ _ rfl
  have nsG : ∀ {b : Addr} {m : Str → Option Value}, s.heap.Ns b m → (hidT s.heap (atLawT K cs a vs ns)).Ns b m := fun {b m} ⟨o, es, ep, e, d, r⟩ =>
    ⟨o, es, ep, ground e (fun z => absurd z (notA e (by rw [d]; exact fun _ _ z => nomatch z))) (notTab e (by rw [d]; exact fun z => nomatch z)), d, r⟩
  have kin' : K.In (hidT s.heap (atLawT K cs a vs ns)) := fun b o e => ground (kin b o e) (fun z n => by rw [z, n] at e; cases e) (fun m => by
    obtain ⟨p, hp, rfl⟩ := List.mem_map.mp m
    rw [tK p hp] at e
    cases e)
  have tb : ∀ p ∈ cs, LamX.TabB (hidT s.heap (atLawT K cs a vs ns)) mg p.1 p.2 := fun p hp => by
    have eP := tE p hp
    constructor
    · obtain ⟨o, us, file, tf, flags, tg, inF, text, tt, e1, r1, r2, r3, rest⟩ := tC p hp
      refine ⟨o, us, file, tf, flags, tg, inF, text, tt, ground e1 (fun z => absurd z (notA e1 (by rw [r2]; exact fun _ _ z => nomatch z))) (notTab e1 (by
        rw [r2]
        intro z
        cases z
        simp at r3)), r1, r2, r3, rest⟩
    · obtain ⟨b, o, b1, b2, b3, b4, b5, b6⟩ := bm
      have n1 : b ≠ mainGlobals := fun z => by
        obtain ⟨og, es, ep, e, d, _⟩ := gl
        rw [z, e] at b3
        cases b3
        rw [d] at b6
        cases b6
      have n2 : b ≠ p.2 := fun z => by
        rw [z, eP] at b3
        cases b3
        cases b6
      exact ⟨b, o, b1, b2, n1, n2, ground b3 (fun z => absurd z (notA b3 (by rw [b6]; exact fun _ _ z => nomatch z))) (notTab b3 (by rw [b6]; exact fun z => nomatch z)), b4, b5, b6⟩
    · intro z
      obtain ⟨og, es, ep, e, d, _⟩ := gl
      rw [z, eP] at e
      cases e
      cases d
  obtain ⟨ml, l1, l2⟩ := lim
  have e0 : Env0 P w K mg (hidT s.heap (atLawT K cs a vs ns)) callerA [] s (atLawT K cs a vs ns) :=
    ⟨rfl, ⟨kin', nsG gl, ⟨mb, nsG bl, bb⟩, ⟨ml, nsG l1, l2⟩⟩, fun _ _ e => of_hidT e, Nat.le_of_eq (hidT_size _ _), trivial, fun b hb => absurd hb List.not_mem_nil, hok, .of_eq gens⟩
  have fin := (F _ kin' (nsG gl) tb).go callerA [] s _ ⟨[.ref a], []⟩ [.ref a] [.ref a] _ _ rfl hr e0 (bind s (.ref a)) (.cons rfl .nil) (hsp _ (fun p hp => atT (List.mem_map.mpr ⟨p, hp, rfl⟩)) seen)
  refine codeAny_mono fin ?_
  intro r s2 h
  match r, h with
  | .error _, z => exact False.elim z
  | .ok .next, z => exact False.elim z
  | .ok .brk, z => exact False.elim z
  | .ok .cont, z => exact False.elim z
  | .ok (.ret u), ⟨v, H2, os, bare, un, hok2, rv, q⟩ =>
    subst q
    cases rv
    have kept : ∀ b o, b ∉ cs.map Prod.snd → s.heap.get? b = some o → s2.heap.get? b = some o := fun b o m e => by
      cases q : atLaw K a vs ns b with
      | none => exact un.keep b o e ((atA m).trans q) List.not_mem_nil List.not_mem_nil
      | some u =>
        obtain ⟨rfl, _, rfl⟩ := atLaw_some q
        have z := (hok2 b _ (un.frzs b _ _ ((atA m).trans q))).1
        rw [ha] at e
        cases e
        exact z
    have grew : ∀ p ∈ cs, ∃ more : Array Value, s2.heap.get? p.2 = some (PySem.W.tabObj more) := fun p hp => by
      obtain ⟨more, z⟩ := un.tbls p.2 #[] (atT (List.mem_map.mpr ⟨p, hp, rfl⟩))
      exact ⟨_, hok2 p.2 _ z⟩
    have both : ∀ b o, s.heap.get? b = some o → PySem.asItWas s.heap s2.heap b o ∧ ∃ o', s2.heap.get? b = some o' := fun b o e => by
      by_cases m : b ∈ cs.map Prod.snd
      · obtain ⟨p, hp, rfl⟩ := List.mem_map.mp m
        obtain ⟨more, g⟩ := grew p hp
        have eP := tE p hp
        rw [eP] at e
        cases e
        exact ⟨.inr (.inl ⟨((tC p hp).tab eP).isCodeTable, rfl, #[], more, rfl, by rw [Array.empty_append]; exact g⟩), _, g⟩
      · exact ⟨.inl (kept b o m e), o, kept b o m e⟩
    exact ⟨rfl, ⟨fun b o e => (both b o e).1, fun b o e => (both b o e).2⟩, os, bare⟩
end
theorem walk_gT {l : PySem.W.OpenLaw} {n k : Nat} {q : Program} {loose : List Str} {XP : (Str → Option Value) → Heap → Prop} {YP : World → Heap → Prop} {d : DefRec} {x : Str}
    (hn : l.most = some n) (hn2 : n ≤ sizeLine) (hdf : d.params.defaults = []) (hr : Room k callerA)
    (F : ∀ (w : World) (mg : Str → Option Value) (fa : Addr) (h : Heap), YP w h → h.Ns mainGlobals mg → mg d.name = some (.ref fa) →
      ∃ (K : PySem.W.Frag) (fd : FuncData) (sp : Sp) (cs : List (Addr × Addr)), K.In h ∧ (∀ p ∈ cs, h.get? p.2 = some (PySem.W.tabObj #[])) ∧ (∀ p ∈ cs, K.lookup p.2 = none) ∧ (∀ p ∈ cs, PySem.W.CodeHd h p.1 p.2) ∧ (∀ (s : Shared) (u : Value), BindsTo s fd ⟨[u], []⟩ [(x, u)]) ∧
        (∀ (H : Hp) (a : Addr) (ns : List Int), ns.length ≤ n → (∀ p ∈ cs, H p.2 = some (.tbl #[])) → SqL K H a (ns.map V.int) → sp [.ref a] H (fun v _ => v = .bl true) fun _ _ _ => False) ∧
        ∀ base : Heap, K.In base → base.Ns mainGlobals mg → (∀ p ∈ cs, LamX.TabB base mg p.1 p.2) → GOk l.prog w K mg base k fa fd [x] sp) :
    PySem.W.WalkO q loose XP YP l.row.toRowW d [] (fun f vs => PySem.call f vs) := by
  refine Att.attach_call hn hdf ?_
  intro w s0 s1 mg mb fa o pm cd doc a vs ns G Y ho hd hcd hmg hobj hints hlen hg
  obtain ⟨K, fd, sp, cs, kin, tE, tK, tC, hb, hsp, hF⟩ := F w mg fa _ Y G.T.g hmg
  exact law_gT kin G.T.g G.T.b G.T.builtins G.T.nolimit hg G.T.bmain tE tK tC hobj hints (Nat.le_trans hlen hn2) hr hF hb fun H hT hS => hsp H a ns hlen hT hS
/-! ### the hook with empty tables -/
/-- the code object of the def at f, its table -/
def tabA (K : PySem.W.Frag) (f : Addr) : Option (Addr × Addr) := match K.lookup f with
  | some ⟨_, _, .func fd, _⟩ => (match fd.code with
    | .ref c => (match K.lookup c with
      | some ⟨_, _, .fields us, _⟩ => (match (us[11]? : Option Value) with
        | some (.ref p) => some (c, p)
        | _ => none)
      | _ => none)
    | _ => none)
  | _ => none
def emptyTab (o : Option Obj) : Bool := match o with
  | some ⟨.none, none, .fields us, sl⟩ => us.size == 0 && sl.size == 0
  | _ => false
theorem emptyTab_ok {o : Option Obj} (h : emptyTab o = true) : o = some (PySem.W.tabObj #[]) := by
  unfold emptyTab at h
  split at h
  · rename_i us sl
    obtain ⟨h1, h2⟩ := He.ba h
    rw [Array.eq_empty_of_size_eq_zero (beq_iff_eq.mp h1), Array.eq_empty_of_size_eq_zero (beq_iff_eq.mp h2)]
  · cases h
def asT (g : Addr → Option Obj) (n : Nat) : List Addr := (asW g n).filter fun a => !emptyTab (g a)
def tabOk (K : PySem.W.Frag) (t : At) : Bool := match tabA K (t.ad K) with
  | some (c, p) => PySem.W.codeHdIn K c p && (K.lookup p).isNone
  | none => false
def tabG (K : PySem.W.Frag) (g : Addr → Option Obj) (t : At) : Bool := match tabA K (t.ad K) with
  | some (_, p) => emptyTab (g p)
  | none => false
abbrev AlT : Type := AlX × List Bool
def obsT (n : Nat) (chk : PySem.W.Frag → Bool) (fn : List DefW) (xs : List DefX) (ls : List At) (g : Addr → Option Obj) : AlT :=
  let K := He.frG g (asT g n)
  (((chk K && fn.all fun d => d.ok K, fn.map fun d => fnA K (d.at_.ad K)), xs.map fun d => fnX K (d.ad K)), ls.map fun t => tabOk K t && tabG K g t)
def valT (fn : List DefW) (xs : List DefX) (ls : List At) : AlT := (valX fn xs, ls.map fun _ => true)
structure SaysT (chk : PySem.W.Frag → Bool) (fn : List DefW) (xs : List DefX) (ls : List At) (K : PySem.W.Frag) (h : Heap) : Prop where
  x : SaysX chk fn xs K
  tabs : ∀ t ∈ ls, ∃ c p, tabA K (t.ad K) = some (c, p) ∧ PySem.W.CodeHd h c p ∧ K.lookup p = none ∧ h.get? p = some (PySem.W.tabObj #[])
theorem saysT_of {n : Nat} {chk : PySem.W.Frag → Bool} {fn : List DefW} {xs : List DefX} {ls : List At} {h : Heap} (e : obsT n chk fn xs ls h.get? = valT fn xs ls) : SaysT chk fn xs ls (He.frG h.get? (asT h.get? n)) h := by
  have e1 := congrArg (fun z : AlT => z.1.1.1) e
  have e2 := congrArg (fun z : AlT => z.1.1.2) e
  have e3 := congrArg (fun z : AlT => z.1.2) e
  have e4 := congrArg Prod.snd e
  obtain ⟨h1, h2⟩ := He.ba (show (chk (He.frG h.get? (asT h.get? n)) && fn.all fun d => d.ok (He.frG h.get? (asT h.get? n))) = true from e1)
  refine ⟨⟨⟨h1, fun d hd => List.all_eq_true.mp h2 d hd, e2⟩, e3⟩, fun t ht => ?_⟩
  have z : (tabOk (He.frG h.get? (asT h.get? n)) t && tabG (He.frG h.get? (asT h.get? n)) h.get? t) = true := List.map_inj_left.mp (show ls.map (fun t => tabOk (He.frG h.get? (asT h.get? n)) t && tabG (He.frG h.get? (asT h.get? n)) h.get? t) = ls.map fun _ => true from e4) t ht
  obtain ⟨z1, z2⟩ := He.ba z
  unfold tabOk at z1
  unfold tabG at z2
  cases q : tabA (He.frG h.get? (asT h.get? n)) (t.ad (He.frG h.get? (asT h.get? n))) with
  | none => rw [q] at z1; cases z1
  | some cp =>
    obtain ⟨c, p⟩ := cp
    rw [q] at z1 z2
    obtain ⟨k1, k2⟩ := He.ba z1
    have z3 : emptyTab (h.get? p) = true := z2
    clear z2
    exact ⟨c, p, rfl, PySem.W.codeHd_of_K He.frG_in k1, Option.isNone_iff_eq_none.mp k2, emptyTab_ok z3⟩
def hookT (n : Nat) (chk : PySem.W.Frag → Bool) (fn : List DefW) (xs : List DefX) (ls : List At) : PySem.W.Hook where
  α := AlT
  obs := fun s => obsT n chk fn xs ls s.heap.get?
  val := fun _ => valT fn xs ls
  says := fun _ h => ∃ K : PySem.W.Frag, K.In h ∧ SaysT chk fn xs ls K h
  of := fun _ _ e => ⟨_, He.frG_in, saysT_of e⟩
  keeps := fun _ _ _ ⟨K, hK, c⟩ k => ⟨K, PySem.W.Frag.In.keeps hK k, c.x, fun t ht => by
    obtain ⟨a, p, h1, h2, h3, h4⟩ := c.tabs t ht
    exact ⟨a, p, h1, h2.keeps k, h3, k _ _ h4⟩⟩
theorem obsT_eq {n : Nat} {chk : PySem.W.Frag → Bool} {fn : List DefW} {xs : List DefX} {ls : List At} {g : Addr → Option Obj} {s : Shared} (h : ∀ a, g a = s.heap.get? a) : obsT n chk fn xs ls g = (hookT n chk fn xs ls).obs s := by
  have e : g = s.heap.get? := funext h
  rw [e]
  rfl
end WL
set_option Elab.async false
set_option linter.all false
set_option maxRecDepth 100000
set_option maxHeartbeats 4000000
namespace WL
open PySem PySem.Spec PyProof.Rows L2
/-! ### an exception's __init__ whose last parameter has the default None -/
def exDB (K : PySem.W.Frag) (fI : Addr) : Bool := match K.lookup fI with
  | some ⟨_, _, .func fd, _⟩ => He.dflB K fd.defaults [.non]
  | _ => false
theorem exDB_ok {K : PySem.W.Frag} {fI : Addr} {fd : FuncData} (at_ : ∃ oc od osl, K.lookup fI = some ⟨oc, od, .func fd, osl⟩) (h : exDB K fI = true) :
    ∃ (T : Addr) (x : Value) (o : Obj) (n : Nat), fd.defaults = .ref T ∧ K.lookup T = some o ∧ o.data = .seq [x].toArray n := by
  obtain ⟨oc, od, osl, lk⟩ := at_
  unfold exDB at h
  rw [lk] at h
  rcases He.dflB_ok h with ⟨e, _⟩ | ⟨_, T, o, its, n, e1, e2, e3, e4⟩
  · cases e
  · obtain ⟨u, rfl, _⟩ := Vals.one e4
    exact ⟨T, u, o, n, e1, e2, e3⟩
theorem bind_dfl {K : PySem.W.Frag} {s : Shared} {fd : FuncData} {args : Args} {T : Addr} {o : Obj} {its : Array Value} {n : Nat} {binds : List (Str × Value)} (hK : K.In s.heap) (lT : K.lookup T = some o) (oT : o.data = .seq its n)
    (h : ∃ k, bindArgs fd args = seqItems? (.ref T) >>= k ∧ k (some its) = pure binds) : BindsTo s fd args binds := by
  obtain ⟨k, e1, e2⟩ := h
  refine BindsTo.of_looks fun M => ?_
  rw [e1]
  exact looks_items hK lT oT (.of_pure e2)
end WL
set_option Elab.async false
set_option linter.all false
set_option maxRecDepth 100000
set_option maxHeartbeats 0
namespace K56
open PySem PySem.Spec PyProof.Rows L2 WL
def top (i : Nat) : Stmt := PySem.Challenge.pw_weekdaylegs_k56_joining_refused.main.body.getD i (.Pass ⟨0, 0, 0, 0⟩)
abbrev s_wall : Stmt := top 0
abbrev s_InvalidDiary_init : Stmt := inClass (top 3) 0
abbrev s_InvalidEvent_init : Stmt := inClass (top 4) 0
abbrev s_InvalidDays_init : Stmt := inClass (top 5) 0
abbrev s_InvalidWalk_init : Stmt := inClass (top 6) 0
abbrev s_InvalidNumber_init : Stmt := inClass (top 7) 0
abbrev s_InvalidAnswer_init : Stmt := inClass (top 8) 0
abbrev s_NoCalendar_init : Stmt := inClass (top 9) 0
abbrev s_InvalidWindow_init : Stmt := inClass (top 10) 0
abbrev s_InvalidRank_init : Stmt := inClass (top 11) 0
abbrev s_LimitExceeded_init : Stmt := inClass (top 12) 0
abbrev s_Mismatch_init : Stmt := inClass (top 13) 0
abbrev s_NothingToUndo_init : Stmt := inClass (top 14) 0
abbrev s_ParseError_init : Stmt := inClass (top 15) 0
abbrev s_is_number : Stmt := top 17
abbrev s_is_within : Stmt := top 18
abbrev s_is_tuple_of : Stmt := top 19
abbrev s_is_bound : Stmt := top 20
abbrev s_weekdays_fault : Stmt := top 21
abbrev s_bounds_fault : Stmt := top 22
abbrev s_diary_fault : Stmt := top 23
abbrev s_Event_init : Stmt := inClass (top 24) 1
abbrev s_Event_number : Stmt := inClass (top 24) 2
abbrev s_Event_latest : Stmt := inClass (top 24) 3
abbrev s_Event_fits : Stmt := inClass (top 24) 4
abbrev s_Event_choices : Stmt := inClass (top 24) 5
abbrev s_DatedEvent_init : Stmt := inClass (top 25) 1
abbrev s_DatedEvent_weekday : Stmt := inClass (top 25) 2
abbrev s_DatedEvent_latest : Stmt := inClass (top 25) 3
abbrev s_Diary_init : Stmt := inClass (top 27) 4
abbrev s_Diary_is_diary : Stmt := inClass (top 27) 5
abbrev s_Diary_limits : Stmt := inClass (top 27) 6
abbrev s_Diary_of : Stmt := inClass (top 27) 7
abbrev s_Diary_modulus : Stmt := inClass (top 27) 8
abbrev s_Diary_weekdays : Stmt := inClass (top 27) 9
abbrev s_Diary_bounds : Stmt := inClass (top 27) 10
abbrev s_Diary_len : Stmt := inClass (top 27) 11
abbrev s_Diary_eq : Stmt := inClass (top 27) 12
abbrev s_Diary_event : Stmt := inClass (top 27) 13
abbrev s_Diary_events : Stmt := inClass (top 27) 14
abbrev s_Diary_need_event : Stmt := inClass (top 27) 15
abbrev s_Diary_adding : Stmt := inClass (top 27) 16
abbrev s_Diary_noting : Stmt := inClass (top 27) 17
abbrev s_Diary_between : Stmt := inClass (top 27) 18
abbrev s_Diary_mirrored : Stmt := inClass (top 27) 19
abbrev s_Diary_shifted : Stmt := inClass (top 27) 20
abbrev s_joined : Stmt := top 29
abbrev s_need_pairs : Stmt := top 30
abbrev s_is_pair : Stmt := top 31
abbrev s_is_taken : Stmt := top 32
abbrev s_need_agreement : Stmt := top 33
abbrev s_new_numbers : Stmt := top 34
abbrev s_law_mixed : Stmt := top 36
abbrev s_law_folded : Stmt := top 37
abbrev s_law_draw : Stmt := top 38
abbrev s_law_begun : Stmt := top 39
abbrev s_law_class : Stmt := top 40
abbrev s_law_value_class : Stmt := top 41
abbrev s_law_told : Stmt := top 42
abbrev s_law_pairs_right : Stmt := top 43
abbrev s_law_three_right : Stmt := top 44
abbrev s_law_first_right : Stmt := top 45
abbrev s_law_sizes_right : Stmt := top 46
abbrev s_law : Stmt := top 47
end K56
set_option Elab.async false
set_option linter.all false
set_option maxRecDepth 100000
set_option maxHeartbeats 0
namespace K56
open PySem PySem.Spec PyProof.Rows L2 WL
def names : List Str := (["_wall", "WeekdaylegsError", "InvalidDiary", "InvalidEvent", "InvalidDays", "InvalidWalk", "InvalidNumber", "InvalidAnswer", "NoCalendar", "InvalidWindow", "InvalidRank", "LimitExceeded", "Mismatch", "NothingToUndo", "ParseError", "is_number", "is_within", "is_tuple_of"] : List Str) ++ (["is_bound", "weekdays_fault", "bounds_fault", "diary_fault", "Event", "DatedEvent", "UndatedEvent", "Diary", "joined", "need_pairs", "is_pair", "is_taken", "need_agreement", "new_numbers", "_law_mixed", "_law_folded", "_law_draw", "_law_begun"] : List Str) ++ (["_law_class", "_law_value_class", "_law_told", "_law_pairs_right", "_law_three_right", "_law_first_right", "_law_sizes_right"] : List Str)
def loose : List Str := names ++ ([] : List Str)
def builtins_ : List Str := (["ValueError", "any", "bool", "classmethod", "enumerate", "int", "isinstance", "len", "list", "min", "property", "range", "repr", "staticmethod", "super", "tuple", "zip"] : List Str)
def fns : List DefW := ([
  ⟨.g "is_number", "is_number", "is_number", s_is_number, [], []⟩,
  ⟨.g "is_within", "is_within", "is_within", s_is_within, [], []⟩,
  ⟨.g "is_tuple_of", "is_tuple_of", "is_tuple_of", s_is_tuple_of, [], []⟩,
  ⟨.g "is_bound", "is_bound", "is_bound", s_is_bound, [], []⟩,
  ⟨.g "weekdays_fault", "weekdays_fault", "weekdays_fault", s_weekdays_fault, [], []⟩,
  ⟨.g "bounds_fault", "bounds_fault", "bounds_fault", s_bounds_fault, [], []⟩,
  ⟨.g "diary_fault", "diary_fault", "diary_fault", s_diary_fault, [], []⟩,
  ⟨.m "Diary" "__init__", "__init__", "Diary.__init__", s_Diary_init, [], []⟩,
  ⟨.cm "Diary" "of", "of", "Diary.of", s_Diary_of, [], []⟩,
  ⟨.pr "Diary" "modulus", "modulus", "Diary.modulus", s_Diary_modulus, [], []⟩,
  ⟨.pr "Diary" "weekdays", "weekdays", "Diary.weekdays", s_Diary_weekdays, [], []⟩,
  ⟨.pr "Diary" "bounds", "bounds", "Diary.bounds", s_Diary_bounds, [], []⟩,
  ⟨.m "Diary" "__len__", "__len__", "Diary.__len__", s_Diary_len, [], []⟩,
  ⟨.m "Diary" "__eq__", "__eq__", "Diary.__eq__", s_Diary_eq, [], []⟩,
  ⟨.m "Diary" "need_event", "need_event", "Diary.need_event", s_Diary_need_event, [], []⟩,
  ⟨.g "joined", "joined", "joined", s_joined, [], []⟩,
  ⟨.g "need_pairs", "need_pairs", "need_pairs", s_need_pairs, [], []⟩,
  ⟨.g "is_pair", "is_pair", "is_pair", s_is_pair, [], []⟩] : List DefW) ++ ([
  ⟨.g "is_taken", "is_taken", "is_taken", s_is_taken, [], []⟩,
  ⟨.g "need_agreement", "need_agreement", "need_agreement", s_need_agreement, [], []⟩,
  ⟨.g "new_numbers", "new_numbers", "new_numbers", s_new_numbers, [], []⟩,
  ⟨.g "_law_mixed", "_law_mixed", "_law_mixed", s_law_mixed, [], []⟩,
  ⟨.g "_law_folded", "_law_folded", "_law_folded", s_law_folded, [], []⟩,
  ⟨.g "_law_draw", "_law_draw", "_law_draw", s_law_draw, [], []⟩,
  ⟨.g "_law_begun", "_law_begun", "_law_begun", s_law_begun, [], []⟩,
  ⟨.g "_law_class", "_law_class", "_law_class", s_law_class, [], []⟩,
  ⟨.g "_law_told", "_law_told", "_law_told", s_law_told, [], []⟩,
  ⟨.g "_law_pairs_right", "_law_pairs_right", "_law_pairs_right", s_law_pairs_right, [], []⟩,
  ⟨.g "_law_three_right", "_law_three_right", "_law_three_right", s_law_three_right, [], []⟩,
  ⟨.g "_law_first_right", "_law_first_right", "_law_first_right", s_law_first_right, [], []⟩,
  ⟨.g "_law_sizes_right", "_law_sizes_right", "_law_sizes_right", s_law_sizes_right, [], []⟩,
  ⟨.g "law", "law", "law", s_law, [], []⟩] : List DefW)
def fa : List He.Fa := names.map (fun x => He.Fa.glo x) ++ builtins_.map (fun x => He.Fa.free x)
def fa2 : List He.Fa := [.cls "Diary", .noat "Diary" "_modulus", .noat "Diary" "_weekdays", .noat "Diary" "_bounds", .mkr "Diary", .meth "Diary" "need_event", .meth "Diary" "__len__", .meth "Diary" "__eq__", .noat "InvalidDiary" "part", .noat "InvalidDiary" "item", .noat "Mismatch" "part", .noat "Mismatch" "spot", .glo "law"]
def file : Str := PySem.Challenge.rw_weekdaylegs_k56_joining_refused.prog.main.file
def errB56 (K : PySem.W.Frag) (D : Addr) : Bool := He.eqO (PySem.W.findIn K (.ref D) "__class__") (some (some (.builtin "object.__class__"))) && (He.eqO (PySem.W.specialIn K (.builtin "object.__class__") "__get__") (some (some (.builtin "getset_descriptor.__get__"))) && (tkB K (.builtin "object.__class__") && mrB K D (.type "object")))
def tabP (K : PySem.W.Frag) (f : Addr) : Addr := match tabA K f with
  | some (_, p) => p
  | none => 0
def tabND (K : PySem.W.Frag) (fs : List Addr) : Bool := decide ((fs.map (tabP K)).Nodup)
def cks : List (PySem.W.Frag → Bool) := ([fun K => fa.all fun f => f.ok K, fun K => fa2.all fun f => f.ok K, fun K => exTB K ["value"] (He.ga K "InvalidEvent") (He.ma K (He.ga K "InvalidEvent") "__init__"), fun K => xfacB K (He.ga K "InvalidEvent"), fun K => emB K (.ref (He.ga K "InvalidEvent")) (.ref (He.ga K "InvalidEvent")), fun K => exIB K file (He.ga K "InvalidEvent") (He.ma K (He.ga K "InvalidEvent") "__init__"), fun K => exTB K ["part", "item"] (He.ga K "InvalidDiary") (He.ma K (He.ga K "InvalidDiary") "__init__"), fun K => xfacB K (He.ga K "InvalidDiary"), fun K => emB K (.ref (He.ga K "InvalidDiary")) (.ref (He.ga K "InvalidDiary")), fun K => exIB K file (He.ga K "InvalidDiary") (He.ma K (He.ga K "InvalidDiary") "__init__"), fun K => exDB K (He.ma K (He.ga K "InvalidDiary") "__init__"), fun K => exTB K ["part", "spot"] (He.ga K "Mismatch") (He.ma K (He.ga K "Mismatch") "__init__"), fun K => xfacB K (He.ga K "Mismatch"), fun K => emB K (.ref (He.ga K "Mismatch")) (.ref (He.ga K "Mismatch")), fun K => exIB K file (He.ga K "Mismatch") (He.ma K (He.ga K "Mismatch") "__init__"), fun K => exDB K (He.ma K (He.ga K "Mismatch") "__init__"), fun K => diaB K (He.ga K "Diary"), fun K => diaOB K (He.ga K "Diary")] : List (PySem.W.Frag → Bool)) ++ ([fun K => diaFB K (He.ga K "Diary"), fun K => cmB K (He.ga K "Diary") "of", fun K => crB K (He.ga K "Diary"), fun K => errB56 K (He.ga K "Mismatch"), fun K => errB56 K (He.ga K "InvalidDiary"), fun K => isB K (.ref (He.ga K "InvalidDiary")) (.ref (He.ga K "InvalidDiary")) true, fun K => isB K (.ref (He.ga K "Mismatch")) (.ref (He.ga K "InvalidDiary")) false, fun K => isB K (.ref (He.ga K "Mismatch")) (.ref (He.ga K "InvalidDays")) false, fun K => isB K (.ref (He.ga K "Mismatch")) (.ref (He.ga K "Mismatch")) true, fun K => emB K (.ref (He.ga K "Mismatch")) (.ref (He.ga K "WeekdaylegsError")), fun K => emB K (.ref (He.ga K "InvalidDiary")) (.ref (He.ga K "WeekdaylegsError")), fun K => tabND K [He.ga K "_law_pairs_right", He.ga K "_law_three_right", He.ga K "_law_first_right", He.ga K "_law_sizes_right", He.ga K "law"]] : List (PySem.W.Frag → Bool))
def xs : List DefX := [⟨"InvalidEvent", s_InvalidEvent_init, true⟩, ⟨"InvalidDiary", s_InvalidDiary_init, false⟩, ⟨"Mismatch", s_Mismatch_init, false⟩]
def ls : List At := [.g "_law_pairs_right", .g "_law_three_right", .g "_law_first_right", .g "_law_sizes_right", .g "law"]
def chk3 (K : PySem.W.Frag) : Bool := cks.all fun f => f K
abbrev hk : PySem.W.Hook := hookT 6 chk3 fns xs ls
def ob (s : PySem.W.SharedT) : AlT := obsT 6 chk3 fns xs ls (HandSHeadRun.getT s)
theorem ob_eq (s : PySem.W.SharedT) : ob s = hk.obs s.abs := obsT_eq (HandSHeadRun.getT_eq s)
abbrev R : PySem.W.OpenRow := PySem.W.OpenLaw.row PySem.Challenge.rw_weekdaylegs_k56_joining_refused
theorem run (w : World) : HandSHeadRun.RunEq R (PySem.W.view R.prog [47]) hk ob 12000 loose w := by
  intro os
  kernel_rfl
end K56
set_option Elab.async false
set_option linter.all false
set_option maxRecDepth 100000
set_option maxHeartbeats 4000000
namespace WL
open PySem PySem.Spec PyProof.Rows L2
/-! ### a def that makes lambdas: its code object is known -/
section
variable {P : Program} {w : World} {K : PySem.W.Frag} {mg : Str → Option Value} {base : Heap}
theorem gok_bodyC {x qual : Str} {pr : Arguments} {bd : List Stmt} {sc : Scope} {dvs : List V} {kws : List (Str × V)} {f c p : Addr} {fd : FuncData} {N ps : List Str} {k : Nat} {sp : Sp}
    (F : FunD K x qual pr bd sc dvs kws f fd) (ht : tabA K f = some (c, p)) (S : FnScope N ps sc) (size : ∀ vs H Q E, sp vs H Q E → vs.length = ps.length)
    (body : ∀ (A : Around) (up : List Env) (s : Shared) (H : Hp) (vs : List V) (Q : VK) (E : XK), A.guards = some [] → Room k (A.deeper (envOfC qual sc s.heap.objs.size f (.ref c))) → sp vs H Q E →
      ∃ t, PSs (cxOf CX0 P w K mg base N qual sc f (.ref c) A up s H E).nox bd t ∧ t { nx := fun _ H' => Q .non H', rt := Q } (start N vs) H) : GOk P w K mg base (k + 1) f fd ps sp := by
  obtain ⟨oc, od, dV, kV, dc, pm, an, cdv, ct, osl, e, lk, hcd, _, _⟩ := F.ex
  have ec : cdv = .ref c := by
    unfold tabA at ht
    rw [lk, e] at ht
    simp only [PySem.W.fnOf] at ht
    split at ht
    · rename_i c1
      split at ht
      · split at ht
        · cases ht; rfl
        · cases ht
      · cases ht
    · cases ht
  subst e ec
  refine ⟨size, ?_⟩
  intro A up s H ar us vs Q E hg hr e0 hb rv hsp
  have kin : K.In s.heap := e0.mod.kin.keeps (fun b o q => (e0.bs b o q).1)
  have kinds : ∀ z ∈ ps.zip us, sc.names.lookup z.1 = some .local ∨ (sc.names.lookup z.1 = some .cell ∧ ((cellsFrom (s.heap.objs.size + 1) sc.names []).lookup z.1).isSome = true) := by
    intro z hz
    cases S.par z.1 (List.of_mem_zip (a := z.1) (b := z.2) hz).1 with
    | inl q => exact Or.inl q
    | inr q => exact Or.inr ⟨q, PySem.W.cellsFrom_some _ _ _ (Or.inl q)⟩
  refine codeAny_call_function hr.depth (kin _ _ lk) rfl S.co S.gen rfl (PySem.W.codeRec_of kin hcd) (hb _ _ _ _ (wpAny_newFunctionEnv_cells S.kind kinds ?_))
  intro env he s1 x1
  subst he
  refine And.intro ((e0.mod.nolimit.keeps (fun b o q => (e0.bs b o q).1)).keeps x1.toInCall.keep) (codeAny_func ?_)
  obtain ⟨t, ht', hq⟩ := body A up s H vs Q E hg (hr.deeper _) hsp
  have J : Inv (cxOf CX0 P w K mg base N qual sc f (.ref c) A up s H E) [] (start N vs) H s1 := inv_start S hr.hd e0 (size _ _ _ _ hsp) rv x1
  refine wpAny_mono (ht'.nox.run [] s1 (start N vs) H _ J hq) ?_ (fun _ _ z => z)
  intro fl s2 hs
  have ends : ∀ {σ : L2.St} {H2 : Hp} {v : V} {u : Value}, Inv (cxOf CX0 P w K mg base N qual sc f (.ref c) A up s H E) [] σ H2 s2 → RelV v u → Q v H2 → CE up P w H s Q u s2 :=
    fun I2 r2 q2 => ⟨_, _, I2.os, I2.bare, I2.base, I2.hok, r2, q2⟩
  match fl, hs with
  | .ret _, ⟨_, _, _, I2, r2, q2⟩ => exact ends I2 r2 q2
  | .next, ⟨_, _, I2, q2⟩ => exact ends (v := V.non) (u := Value.none) I2 rfl q2
  | .brk, ⟨_, _, _, q2⟩ => exact q2.elim
  | .cont, ⟨_, _, _, q2⟩ => exact q2.elim
end
/-! ### all but the tables stays -/
theorem Tk.ext {H H' : Hp} (e : LamX.ExtN H H') : Tk H H' := fun b xs h => e b _ h (fun ps z => nomatch z)
theorem Ik.ext {H H' : Hp} (e : LamX.ExtN H H') : Ik H H' := fun b C dx fs h => e b _ h (fun ps z => nomatch z)
theorem Dr.ext {H H' : Hp} {m c g : Addr} {n : Int} (d : Dr H m c g n) (e : LamX.ExtN H H') : Dr H' m c g n := by
  obtain ⟨l, hl, hc⟩ := d.cells
  obtain ⟨l2, hl2, hg⟩ := d.great
  exact ⟨e _ _ d.dict (fun ps z => nomatch z), ⟨l, hl, e _ _ hc (fun ps z => nomatch z)⟩, ⟨l2, hl2, e _ _ hg (fun ps z => nomatch z)⟩, d.ne, d.pos⟩
theorem Tabs.pr {T : List (Addr × Str)} {m c g : Addr} {H H' : Hp} {B B' : Int} (t : LamX.Tabs T H) (p : Pr m c g H H' B) (q : Pr m c g H H B') : LamX.Tabs T H' := fun r hr => by
  obtain ⟨ps, e, ok, h⟩ := t r hr
  obtain ⟨_, _, d⟩ := q.dr
  obtain ⟨l, _, hg⟩ := d.great
  have n1 : r.1 ≠ m := fun z => by rw [z, d.dict] at e; cases e
  have n2 : r.1 ≠ g := fun z => by rw [z, hg] at e; cases e
  refine ⟨ps, p.but _ _ n1 n2 e, ok, fun pos cv hc => ?_⟩
  obtain ⟨c', e1, e2⟩ := h pos cv hc
  refine ⟨c', e1, p.but _ _ (fun z => ?_) (fun z => ?_) e2⟩
  · rw [z, d.dict] at e2; cases e2
  · rw [z, hg] at e2; cases e2
/-! ### told: error = None; try: a() except C as e: error = e; return [] if error is None else [error.f] -/
def TVal (f : Str) (C : Addr) : (XK → Hp → VK → Prop) → Hp → VK → Prop := fun tl H Q => ∀ Q1 : VK, (∀ v H', (∀ p, H' p = none → Q (.ref p) (upd H' p (.lst []))) → Q1 v H') →
  tl (fun cls d H' => cls = .ref C ∧ ∃ dd y, d = some dd ∧ H' dd = some (.xd [(f, y)]) ∧ ∀ (p : Addr) (H2 : Hp), H' p = none → (∀ b o, H' b = some o → H2 b = some o) → H2 p = some (.lst [y]) → Q (.ref p) H2) H Q1
theorem takes_len {X : Cx} {W : WX} (t : Takes X W) : Takes X (fun cls d σ H => σ.length = X.N.length → W cls d σ H) := fun u s' ⟨a, B, sI, pins, σ, H, cls, d, e, I, nb, up, sky, na, os, ag, w⟩ =>
  t u s' ⟨a, B, sI, pins, σ, H, cls, d, e, I, nb, up, sky, na, os, ag, w I.len⟩
theorem passLam {X : Cx} {A : Around} {outer : List Env} {s : Shared} {H : Hp} {E : XK} {scope : Scope} {f c' : Addr} : Passes (L2.CX X.prog X.w) (LamX.lamCx X A outer s H E scope f c') E :=
  passes_call (takes_of rfl rfl rfl rfl) (fun _ _ _ _ h => h)
end WL
set_option Elab.async false
set_option linter.all false
set_option maxRecDepth 100000
set_option maxHeartbeats 4000000
namespace WL
open PySem PySem.Spec PyProof.Rows L2
/-! ### mirrored and shifted diaries -/
def mirN (c : Int) (ns : List (Option Int)) : List (Option Int) := ns.map fun n => n.map fun w => (-w) % c
def mirL (ls : List (Int × Int × Int)) : List (Int × Int × Int) := ls.map fun l => (l.2.1, l.1, l.2.2)
def shN (c i : Int) (ns : List (Option Int)) : List (Option Int) := ns.map fun n => n.map fun w => (w + i) % c
theorem mirN_ok {c w : Int} {ns : List (Option Int)} {ls : List (Int × Int × Int)} (h : DOK c ns ls w) : DOK c (mirN c ns) (mirL ls) w := by
  obtain ⟨a1, a2, a3, a4, a5, a6⟩ := h
  refine ⟨a1, a2, by simp [mirN]; exact a3, by simp [mirN]; exact a4, fun i hi => ?_, fun l hl => ?_⟩
  · obtain ⟨n, hn, e⟩ := List.mem_map.mp hi
    cases n with
    | none => cases e
    | some w => cases e; exact ⟨Int.emod_nonneg _ (by omega), Int.emod_lt_of_pos _ (by omega)⟩
  · obtain ⟨l', hl', rfl⟩ := List.mem_map.mp hl
    obtain ⟨x, y, z⟩ := a6 l' hl'
    have e : (mirN c ns).length = ns.length := by simp [mirN]
    rw [e]
    exact ⟨y, x, z⟩
theorem shN_ok {c w i : Int} {ns : List (Option Int)} {ls : List (Int × Int × Int)} (h : DOK c ns ls w) : DOK c (shN c i ns) ls w := by
  obtain ⟨a1, a2, a3, a4, a5, a6⟩ := h
  have e : (shN c i ns).length = ns.length := by simp [shN]
  refine ⟨a1, a2, by rw [e]; exact a3, by rw [e]; exact a4, fun j hj => ?_, fun l hl => by rw [e]; exact a6 l hl⟩
  obtain ⟨n, hn, e⟩ := List.mem_map.mp hj
  cases n with
  | none => cases e
  | some w => cases e; exact ⟨Int.emod_nonneg _ (by omega), Int.emod_lt_of_pos _ (by omega)⟩
theorem pe_fldK {K : PySem.W.Frag} {X : Cx} {e : Expr} {f : Str} {pos : Pos} {ta : TE} (he : PE X e ta) (hK : X.K = K := by rfl) (hb : attributeBase e f X.env (eval e X.env) = eval e X.env := by rfl) : PE X (.Attribute e f pos) (tFld K ta f) := by
  subst hK
  exact pe_fld he hb
theorem map_at {α : Type} {f : α → V} {xs : List α} {i : Nat} {x : V} (h : (xs.map f)[i]? = some x) : ∃ (hi : i < xs.length), x = f xs[i] := by
  rw [List.getElem?_map] at h
  rcases Nat.lt_or_ge i xs.length with q | q
  · rw [List.getElem?_eq_getElem q] at h
    exact ⟨q, (Option.some.inj h).symm⟩
  · rw [List.getElem?_eq_none q] at h; cases h
theorem take_map {α β : Type} (f : α → β) (xs : List α) {i : Nat} (h : i < xs.length) : (xs.take (i + 1)).map f = (xs.take i).map f ++ [f xs[i]] := by
  rw [List.take_succ, List.getElem?_eq_getElem h, List.map_append]; rfl
/-- the class InvalidNumber -/
structure EvN (P : Program) (K : PySem.W.Frag) (mg : Str → Option Value) (IN : Addr) : Prop where
  at_ : mg "InvalidNumber" = some (.ref IN)
  ex : ∃ fI fd, ExT P K mg ["value"] IN fI ∧ ExI P K ["value"] IN fI fd ∧ ∀ (s : Shared) (u v : Value), K.In s.heap → BindsTo s fd ⟨[u, v], []⟩ [("self", u), ("value", v)]
/-- a def by its name that may raise -/
structure HasE (P : Program) (w : World) (K : PySem.W.Frag) (mg : Str → Option Value) (base : Heap) (k : Nat) (x : Str) (ps : List Str) (sp : Sp) : Prop where
  ex : ∃ fa fd, mg x = some (.ref fa) ∧ PySem.W.keepIn K (.ref fa) = true ∧ Binds K fd ps [] ∧ FnOk P w K mg base (L2.CX P w) k fa fd ps sp
theorem pe_hasE {X : Cx} {k j : Nat} {x : Str} {ps : List Str} {sp : Sp} {E : XK} {e : Expr} {es : List Expr} {t : TA} {p pos : Pos} (h : HasE X.prog X.w X.K X.mg X.base k x ps sp) (hr : Room j X.A) (hk : k ≤ j) (hx : Passes (L2.CX X.prog X.w) X E) (ha : PA X (e :: es) t) (gl : Gl X x := by rfl) (hdb : (x == ("__debug__" : Str)) = false := by decide)
    (h1 : starEach (e :: es) X.env = (false, eval e X.env) :: starEach es X.env := by rfl) (h2 : (backTo pos (starEach es X.env)).any (·.1) = false := by rfl) : PE X (.Call (.Name x p) (e :: es) [] pos) (tCall sp [] E t) := by
  obtain ⟨fa, fd, m, kp, b, F⟩ := h.ex
  exact pe_call F (hr.mono hk) gl m kp b .nil hx ha hdb h1 h2
def spNeedNum (K : PySem.W.Frag) (IN : Addr) : Sp := fun vs H Q E => ∃ (y : V) (s : Sh), vs = [y] ∧ AnS K H y s ∧ (s.isInt = true → Q .non H) ∧ (s.isInt = false → ∀ d, H d = none → E (.ref IN) (some d) (upd H d (.xd [("value", y)])))
def spMir (DC : Addr) : Sp := fun vs H Q _ => ∃ (v : V) (c w : Int) (ns : List (Option Int)) (ls : List (Int × Int × Int)), vs = [v] ∧ DiaAt DC H v c ns ls ∧ DOK c ns ls w ∧ w ≤ 1000000000 ∧ ls.length ≤ 60 ∧
  ∀ (x : Addr) (H' : Hp), H x = none → DiaAt DC H' (.ref x) c (mirN c ns) (mirL ls) → (∀ b o, H b = some o → H' b = some o) → Q (.ref x) H'
def spShift (K : PySem.W.Frag) (DC IN : Addr) : Sp := fun vs H Q E => ∃ (v y : V) (c w : Int) (ns : List (Option Int)) (ls : List (Int × Int × Int)) (s : Sh), vs = [v, y] ∧ DiaAt DC H v c ns ls ∧ AnS K H y s ∧ DOK c ns ls w ∧ w ≤ 1000000000 ∧ ls.length ≤ 60 ∧
  (∀ i, y = .int i → ∀ (x : Addr) (H' : Hp), H x = none → DiaAt DC H' (.ref x) c (shN c i ns) ls → (∀ b o, H b = some o → H' b = some o) → Q (.ref x) H') ∧
  (s.isInt = false → ∀ d, H d = none → E (.ref IN) (some d) (upd H d (.xd [("value", y)])))
/-! ### all of a list of truth values -/
def rAllB (K : PySem.W.Frag) : List V → Hp → VK → Prop := fun xs H Q => ∃ (p : Addr) (bs : List Bool), xs = [.ref p] ∧ SqL K H p (bs.map V.bl) ∧ Q (.bl (bs.all id)) H
theorem bools_at : ∀ {bs : List Bool} {us : List Value}, Vals (bs.map V.bl) us → ∀ (i : Nat) (u : Value), us[i]? = some u → ∃ b, bs[i]? = some b ∧ u = .bool b
  | [], _, .nil, i, u, h => by simp at h
  | b :: bs, _, .cons r t, 0, u, h => by
    cases r
    simp only [List.getElem?_cons_zero, Option.some.injEq] at h
    exact ⟨b, rfl, h.symm⟩
  | b :: bs, _, .cons r t, i + 1, u, h => by
    simp only [List.getElem?_cons_succ] at h ⊢
    exact bools_at t i u h
theorem call_allB {X : Cx} (calm : X.calm = true) : CallR X (.builtin "all") (rAllB X.K) := by
  intro pins s σ H xs us Q I r h
  obtain ⟨p, bs, rfl, hq, q⟩ := h
  obtain ⟨u, rfl, rx⟩ := vals1 r
  cases rx
  obtain ⟨its, rv, pl, _⟩ := I.list hq
  have len : its.length = bs.length := by rw [← rv.length, List.length_map]
  have low : p < s.heap.objs.size := by obtain ⟨_, e, _⟩ := pl.isList; exact Heap.lt_size e
  refine call_all_walk (wpAny_pyIter_list pl.isList ?_)
  refine ⟨s.heap.objs.size, [s.heap.objs.size, p], [s.heap.objs.size], its.toArray.size, _, _, fun i => (bs[i]?).getD true, rfl, Walks.list (A := X.A.in1) (I.ok.hd calm) _ p (Nat.ne_of_lt low) its.toArray, ⟨⟨_, Heap.get?_push_size _ rfl, rfl, rfl⟩, pl.isList.push _⟩, ?_, ?_⟩
  · intro i v s' Q' E' hP hQ
    obtain ⟨b, e, rfl⟩ := bools_at rv i v (by simpa using hP)
    simp only [e, Option.getD_some] at hQ
    exact wpAny_truthy_bool hQ
  · intro h' tk hk
    have e : ((List.range its.toArray.size).all fun i => (bs[i]?).getD true) = bs.all id := by
      rw [List.size_toArray, len]
      exact LSm.range_all bs
    rw [e]
    exact ⟨.bl (bs.all id), H, I.kept (t' := tk) (LSm.kept_iter hk), rfl, q⟩
theorem anss_ints {K : PySem.W.Frag} {H : Hp} : ∀ xs : List Int, AnSs K H (xs.map V.int) (xs.map Sh.int)
  | [] => .nil
  | x :: xs => .cons (.int x) (anss_ints xs)
theorem all_true (n : Nat) : (List.replicate n true).all id = true := by simp
/-- the days are a calendar of this diary -/
def spDays (DC : Addr) : Sp := fun vs H Q _ => ∃ (v : V) (t : Addr) (c : Int) (ns : List (Option Int)) (ls : List (Int × Int × Int)) (xs : List Int), vs = [v, .ref t] ∧ DiaAt DC H v c ns ls ∧ H t = some (.tup (xs.map V.int)) ∧ xs.length = ns.length ∧ ns.length ≤ 16 ∧
  ∀ H', (∀ b o, H b = some o → H' b = some o) → Q (.bl true) H'
def spFault (DC : Addr) : Sp := fun vs H Q _ => ∃ (v : V) (t : Addr) (c w : Int) (ns : List (Option Int)) (ls : List (Int × Int × Int)) (xs : List Int), vs = [v, .ref t] ∧ DiaAt DC H v c ns ls ∧ DOK c ns ls w ∧ ls.length ≤ 100 ∧ H t = some (.tup (xs.map V.int)) ∧ Cal c ns ls xs ∧
  ∀ H', (∀ b o, H b = some o → H' b = some o) → Q .non H'
def spCal (DC : Addr) : Sp := fun vs H Q _ => ∃ (v : V) (t : Addr) (c w : Int) (ns : List (Option Int)) (ls : List (Int × Int × Int)) (xs : List Int), vs = [v, .ref t] ∧ DiaAt DC H v c ns ls ∧ DOK c ns ls w ∧ ls.length ≤ 100 ∧ H t = some (.tup (xs.map V.int)) ∧ Cal c ns ls xs ∧
  ∀ H', (∀ b o, H b = some o → H' b = some o) → Q (.bl true) H'
/-! ### the law's own turning and moving -/
def spRow (f : Int → List (Option Int) → List (Option Int)) (g : List (Int × Int × Int) → List (Int × Int × Int)) (H : Hp) (b : Book) (Q : VK) : Prop :=
  ∀ (p : Addr) (wv bv : V) (H' : Hp), H p = none → H' p = some (.lst [.int b.c, wv, bv]) → Fz H' wv (notesD (f b.c b.notes)) → Fz H' bv (linesD (g b.lines)) → (∀ b o, H b = some o → H' b = some o) → Q (.ref p) H'
def spTurned : Sp := fun vs H Q _ => ∃ (v : V) (b : Book) (w : Int), vs = [v] ∧ Fz H v b.d ∧ DOK b.c b.notes b.lines w ∧ b.lines.length ≤ 100 ∧ spRow mirN mirL H b Q
def spMoved : Sp := fun vs H Q _ => ∃ (v : V) (b : Book) (w i : Int), vs = [v, .int i] ∧ Fz H v b.d ∧ DOK b.c b.notes b.lines w ∧ b.lines.length ≤ 100 ∧ spRow (fun c ns => shN c i ns) id H b Q
def spRead3 (DC : Addr) : Sp := fun vs H Q _ => ∃ (v : V) (c : Int) (ns : List (Option Int)) (ls : List (Int × Int × Int)), vs = [v] ∧ DiaAt DC H v c ns ls ∧
  ∀ (p : Addr) (wv bv : V) (H' : Hp), H p = none → H' p = some (.lst [.int c, wv, bv]) → Fz H' wv (notesD ns) → Fz H' bv (linesD ls) → (∀ b o, H b = some o → H' b = some o) → Q (.ref p) H'
theorem turn_eq {c k : Int} (h0 : 0 ≤ k) (h1 : k < c) : (if k = 0 then 0 else c - k) = (-k) % c := by
  by_cases e : k = 0
  · rw [if_pos e, e]; simp
  · rw [if_neg e]
    have : (-k) % c = (-k + c) % c := by simp
    rw [this, Int.emod_eq_of_lt (by omega) (by omega)]
    omega
/-! ### heaps without their tables -/
def noTab (H : Hp) : Hp := fun b => match H b with
  | some (.tbl _) => none
  | o => o
theorem noTab_at {H : Hp} {b : Addr} {o : HO} (h : H b = some o) (n : ∀ ps, o ≠ .tbl ps) : noTab H b = some o := by
  unfold noTab
  rw [h]
  split
  · rename_i ps e
    exact absurd (Option.some.inj e) (n ps)
  · rfl
theorem noTab_of {H : Hp} {b : Addr} {o : HO} (h : noTab H b = some o) : H b = some o ∧ ∀ ps, o ≠ .tbl ps := by
  unfold noTab at h
  split at h
  · cases h
  · rename_i q
    refine ⟨h, fun ps e => ?_⟩
    subst e
    exact q ps h
theorem noTab_same {H : Hp} : ∀ b o, noTab H b = some o → H b = some o := fun _ _ h => (noTab_of h).1
theorem noTab_ext {H H1 H2 : Hp} (s : ∀ b o, noTab H b = some o → H1 b = some o) (e : LamX.ExtN H1 H2) : ∀ b o, noTab H b = some o → H2 b = some o := fun b o h => e b o (s b o h) (noTab_of h).2
theorem noTab_out {H H1 : Hp} (s : ∀ b o, noTab H b = some o → H1 b = some o) : LamX.ExtN H H1 := fun b o h n => s b o (noTab_at h n)
/-- a value that is no number and can be shown -/
structure OddN (K : PySem.W.Frag) (H : Hp) (x : V) : Prop where
  ex : ∃ s d, AnS K H x s ∧ s.isInt = false ∧ DqB H x d ∧ (PyData.list [d]).showable = true ∧ (PyData.list [d]).shown.length ≤ sizeLine ∧ (PyData.list [d]).depth ≤ 50
theorem OddN.same {K : PySem.W.Frag} {H H' : Hp} {x : V} (k : ∀ b o, H b = some o → H' b = some o) (h : OddN K H x) : OddN K H' x := by
  obtain ⟨s, d, h1, h2, h3, h4⟩ := h.ex
  exact ⟨s, d, h1.same k, h2, h3.same k, h4⟩
/-- the methods mirrored and shifted -/
structure DiaS (P : Program) (w : World) (K : PySem.W.Frag) (mg : Str → Option Value) (base : Heap) (DC IN : Addr) : Prop where
  mir : ∃ f fd, Meth K DC "mirrored" f ∧ Binds K fd ["self"] [] ∧ FnOk P w K mg base CX0 8 f fd ["self"] (spMir DC)
  sh : ∃ f fd, Meth K DC "shifted" f ∧ Binds K fd ["self", "days"] [] ∧ FnOk P w K mg base (L2.CX P w) 8 f fd ["self", "days"] (spShift K DC IN) ∧ KBn K fd ["self", "days"] 1 ["days"] (fun us ws => us ++ ws) (fun vs ws => vs ++ ws)
theorem g_meth {C : Addr} {m : Str} {sp : Sp} {dvs : List V} {E : XK} {ta : TE} {t : TA} {σ : L2.St} {H : Hp} {Q : VK} (h : ta σ H fun x H1 => ∃ a dx fs, x = .ref a ∧ H1 a = some (.ins C dx fs) ∧ fs.lookup m = none ∧ t σ H1 fun vs H2 => sp (x :: (vs ++ dvs)) H2 Q E) : tMeth C m sp dvs E ta t σ H Q := h
theorem g_lam {T : List (Addr × Str)} {TT : (XK → Hp → VK → Prop) → Hp → VK → Prop} {t : XK → TE} {σ : L2.St} {H : Hp} {Q : VK} (h : LamX.Tabs T H) (h2 : ∀ H1, LamX.ExtN H H1 → LamX.Tabs T H1 → TT (fun E H' Q' => t E σ H' Q') H1 Q) : LamX.tLam T TT t σ H Q := ⟨h, h2⟩
def spRefused (DC : Addr) (T : List (Addr × Str)) : Sp := fun vs H Q _ => ∃ (v : V) (c w : Int) (ns : List (Option Int)) (ls : List (Int × Int × Int)), vs = [v] ∧ DiaAt DC H v c ns ls ∧ DOK c ns ls w ∧ w ≤ 1000000000 ∧ ls.length ≤ 60 ∧ LamX.Tabs T H ∧
  ∀ H', LamX.ExtN H H' → LamX.Tabs T H' → Q (.bl true) H'
end WL
set_option Elab.async false
set_option linter.all false
set_option maxRecDepth 100000
set_option maxHeartbeats 4000000
namespace PySem.W
open PySem PySem.Calls PySem.NumText PyProof.Rows
/-- int of a text of more than 640 signs, where the limit of digits is what it is at first -/
theorem wp_textL {M : Model} {A : Around} {E : Value → Shared → Prop} {s : Shared} {Q : Value → Shared → Prop} {v : Value} {text : List Nat} {n : Int} (nd : s.heap.NoDigits)
    (hs : ¬ (text.takeWhile (· != 0)).length ≤ 640) (hr : (int_private% "readNumeral") 4300 10 (text.takeWhile (· != 0)) = (int_private% "Numeral.value") n)
    (ha : ((text.takeWhile (· != 0)).length == text.length) = true) (h : Q (.int n s.toks) { s with toks := s.toks + 1 }) :
    wpAny M A ((int_private% "intFromText") v text 10) Q E s := by
  obtain ⟨mc, hns, hnone⟩ := nd
  obtain ⟨hp, g, d, tk, os⟩ := s
  wp_step
  refine wpAny_ite_false (decide_eq_false hs) ?_
  refine wpAny_bind ?_
  unfold Builtin.intMaxStrDigits
  refine wpAny_bind (wpAny_nsGet hns ?_)
  rw [hnone]
  refine wpAny_pure ?_
  dsimp only
  rw [hr]
  dsimp only
  refine wpAny_ite_true (decide_eq_true ha) ?_
  wp_step
  all_goals exact h
structure LongT (x : PySem.Str) (n : Int) : Prop where
  long : ¬ (numSeenOf x).length ≤ 640
  reads : (int_private% "readNumeral") 4300 10 (numSeenOf x) = (int_private% "Numeral.value") n
  all : ((numSeenOf x).length == (numTextOf x).length) = true
theorem long_meets {x : PySem.Str} {u : Tok} {n : Int} (L : LongT x n) : Meets (Builtin.«int.__new__» ⟨[.type "int", .str x u], []⟩) (fun _ R s => s.heap.NoDigits ∧ R (.ok (.ret (.int n s.toks))) { s with toks := s.toks + 1 }) :=
  .of_wp fun prog w A R s z => by
    obtain ⟨nd, z⟩ := z
    obtain ⟨hp, g, d, tk, os⟩ := s
    have q1 := F.conv_sub_int
    have q2 := F.madeHere_int
    have q3 := KIN.str_int
    have q4 := KIN.str_idx
    have q5 := KIN.str_trunc
    have q6 : typeOf (.str x u) = pure (.type "str") := rfl
    have hk := KIN.Hid.mk L
    clear L
    repeat (any_goals (first
      | assumption
      | ((with_reducible show wpAny _ _ ((int_private% "intFromText") _ _ _) _ _ _); refine wp_textL nd hk.out.long hk.out.reads hk.out.all ?_)
      | wp_step))
    all_goals first | exact ⟨_, rfl, z⟩ | trace_state
end PySem.W
namespace WL
open PySem PySem.Spec PyProof.Rows L2
/-- the module of the model that says how many digits are read has nothing of it -/
def NoDig (K : PySem.W.Frag) : Prop := PySem.W.nsIn K cStatics "sys.int_max_str_digits" = some none
def rBigI : List V → Hp → VK → Prop := fun xs H Q => ∃ (a : Str) (n : Int), xs = [.str a] ∧ PySem.W.LongT a n ∧ Q (.int n) H
theorem call_bigI {X : Cx} (nd : NoDig X.K) : CallR X (.type "int") rBigI := by
  intro pins s σ H xs us Q I r h
  obtain ⟨a, n, rfl, hL, q⟩ := h
  obtain ⟨u, rfl, rx⟩ := vals1 r
  obtain ⟨t, rfl⟩ := rx
  obtain ⟨mc, hns, _⟩ := I.nolimit
  have hd : s.heap.NoDigits := ⟨mc, hns, PySem.W.ns_none_of I.kIn hns nd⟩
  refine call_int_1 (PySem.W.long_meets hL) ⟨hd, ?_⟩
  exact ⟨typeIs_int _ _ _, .int n, H, I.tok _, ⟨_, rfl⟩, q⟩
/-- so many of a text -/
def manyS (a : Str) (k : Nat) : Str := ⟨(List.replicate k a.cps).foldl (· ++ ·) #[]⟩
def rMulS : R2 := fun x y H Q => ∃ (a : Str) (k : Int), x = .str a ∧ y = .int k ∧ 2 ≤ k ∧ k ≤ 2000 ∧ a.length = 1 ∧ (manyS a k.toNat).length ≤ sizeLine ∧ Q (.str (manyS a k.toNat)) H
theorem op_mulS {X : Cx} : OpR X (binaryOp .Mult) rMulS := by
  intro pins s σ H x y v u Q I rx ry h
  obtain ⟨a, k, rfl, rfl, h1, h2, hl, hz, q⟩ := h
  obtain ⟨t, rfl⟩ := rx
  obtain ⟨t2, rfl⟩ := ry
  refine PySem.P.mul_str ?_ (fun _ _ => ?_) (fun _ _ => ?_) ?_
  · rw [decide_eq_false (by omega), decide_eq_false (by omega)]; rfl
  · rw [hl]
    intro z
    have : (1 : Int) ≤ (2 ^ 63 - 1) / k := Int.le_ediv_of_mul_le (by omega) (by omega)
    omega
  · rw [hl]
    exact decide_eq_false (Nat.not_lt.mpr (Nat.le_trans (show 1 * k.toNat ≤ 2000 by omega) (by decide)))
  · rw [if_neg (by omega), if_neg (by rw [hl]; simp; omega)]
    exact ⟨hz, .str _, H, I.tok _, ⟨_, rfl⟩, q⟩
end WL
set_option Elab.async false
set_option linter.all false
set_option maxRecDepth 100000
set_option maxHeartbeats 4000000
namespace WL
open PySem PySem.W PySem.Calls PySem.NumText PySem.Spec PyProof.Rows L2
theorem fold_many (c : Nat) : ∀ (m : Nat) (acc : Array Nat), (List.replicate m #[c]).foldl (· ++ ·) acc = acc ++ (List.replicate m c).toArray
  | 0, acc => by simp
  | m + 1, acc => by
    rw [List.replicate_succ, List.foldl_cons, fold_many c m, List.replicate_succ]
    apply Array.ext'
    simp
theorem many_cps {a : Str} {c : Nat} (h : a.cps = #[c]) (m : Nat) : (manyS a m).cps.toList = List.replicate m c := by
  show ((List.replicate m a.cps).foldl (· ++ ·) #[]).toList = _
  rw [h, fold_many]
  simp
theorem many_len {a : Str} {c : Nat} (h : a.cps = #[c]) (m : Nat) : (manyS a m).length = m := by
  show (manyS a m).cps.size = m
  rw [← Array.length_toList, many_cps h, List.length_replicate]
theorem text_many {a : Str} {c : Nat} (h : a.cps = #[c]) (hc : c < 128) (m : Nat) : numTextOf (manyS a m) = List.replicate m c := by
  have e := many_cps h m
  have al : (manyS a m).cps.all (· < 128) = true := by
    rw [← Array.all_toList, e]
    simp [hc]
  unfold numTextOf
  first
    | rw [if_pos al, e]
    | (simp only [al, if_true]; exact e)
theorem seen_many {a : Str} {c : Nat} (h : a.cps = #[c]) (hc : c < 128) (h0 : c ≠ 0) (m : Nat) : numSeenOf (manyS a m) = List.replicate m c := by
  unfold numSeenOf
  rw [text_many h hc]
  have : ∀ m, (List.replicate m c).takeWhile (· != 0) = List.replicate m c := by
    intro m
    induction m with
    | zero => rfl
    | succ m ih => rw [List.replicate_succ, List.takeWhile_cons, ih]; simp [h0]
  exact this m
theorem long_many {a : Str} {c m : Nat} {n : Int} (h : a.cps = #[c]) (hc : c < 128) (h0 : c ≠ 0) (hm : 640 < m) (r : (int_private% "readNumeral") 4300 10 (List.replicate m c) = (int_private% "Numeral.value") n) : PySem.W.LongT (manyS a m) n := by
  constructor
  · rw [seen_many h hc h0, List.length_replicate]; omega
  · rw [seen_many h hc h0]; exact r
  · rw [seen_many h hc h0, text_many h hc]; simp
theorem digits_fold {c e : Nat} (hs : ∀ arr b, NumText.step 10 (arr, b) c = some (arr.push e, true)) : ∀ (k : Nat) (arr : Array Nat) (b : Bool), ∃ arr', (List.replicate (k + 1) c).foldlM (NumText.step 10) (arr, b) = some (arr', true) ∧ arr'.size = arr.size + (k + 1)
  | 0, arr, b => ⟨arr.push e, by rw [List.replicate_succ, List.foldlM_cons, hs]; rfl, by simp⟩
  | k + 1, arr, b => by
    obtain ⟨arr', h1, h2⟩ := digits_fold hs k (arr.push e) true
    refine ⟨arr', ?_, by rw [h2, Array.size_push]; omega⟩
    rw [List.replicate_succ, List.foldlM_cons, hs]
    exact h1
theorem drop_rep {c : Nat} (hb : NumText.blank c = false) (m : Nat) : (List.replicate m c).dropWhile NumText.blank = List.replicate m c := by
  cases m with
  | zero => rfl
  | succ m => rw [List.replicate_succ, List.dropWhile_cons, hb]; rfl
theorem core_rep {c : Nat} (hb : NumText.blank c = false) (h1 : c ≠ 45) (h2 : c ≠ 43) (m : Nat) : NumText.core (List.replicate m c) = List.replicate m c ∧ (NumText.sign (List.replicate m c)).1 = false := by
  have s : NumText.sign (List.replicate m c) = (false, List.replicate m c) := by
    cases m with
    | zero => rfl
    | succ m =>
      rw [List.replicate_succ]
      unfold NumText.sign
      split
      · rename_i r e; exact absurd (List.cons.inj e).1 h1
      · rename_i r e; exact absurd (List.cons.inj e).1 h2
      · rfl
  refine ⟨?_, by rw [s]⟩
  unfold NumText.core
  rw [drop_rep hb, s, List.reverse_replicate, drop_rep hb, List.reverse_replicate]
theorem reads_many {c e m : Nat} (hb : NumText.blank c = false) (h1 : c ≠ 45) (h2 : c ≠ 43) (hs : ∀ arr b, NumText.step 10 (arr, b) c = some (arr.push e, true)) (hm : m + 1 ≤ 4300) : ∃ n, (int_private% "readNumeral") 4300 10 (List.replicate (m + 1) c) = (int_private% "Numeral.value") n := by
  obtain ⟨ds, f1, f2⟩ := digits_fold hs m #[] false
  obtain ⟨c1, c2⟩ := core_rep hb h1 h2 (m + 1)
  have dg : NumText.digits? 10 (NumText.core (List.replicate (m + 1) c)) = some ds := by
    rw [c1]
    unfold NumText.digits?
    rw [f1]
    rfl
  refine ⟨NumText.worth (NumText.sign ((List.replicate (m + 1) c).dropWhile NumText.blank)).1 ds, (NumText.readNumeral_ten 4300 _).trans ?_⟩
  rw [dg]
  exact NumText.judge_ok (Or.inr (by rw [f2]; simp; omega)) (by rw [f2]; simp; omega)
theorem long7 : ∃ n, PySem.W.LongT (manyS "7" 1000) n := by
  obtain ⟨n, h⟩ := reads_many (c := 55) (e := 7) (m := 999) rfl (by decide) (by decide) (fun _ _ => rfl) (by decide)
  exact ⟨n, long_many (a := "7") rfl (by decide) (by decide) (by decide) h⟩
theorem long3 : ∃ n, PySem.W.LongT (manyS "3" 999) n := by
  obtain ⟨n, h⟩ := reads_many (c := 51) (e := 3) (m := 998) rfl (by decide) (by decide) (fun _ _ => rfl) (by decide)
  exact ⟨n, long_many (a := "3") rfl (by decide) (by decide) (by decide) h⟩
theorem many7 : (manyS "7" 1000).length ≤ sizeLine := by
  rw [many_len (a := "7") (c := 55) rfl]; decide
theorem many3 : (manyS "3" 999).length ≤ sizeLine := by
  rw [many_len (a := "3") (c := 51) rfl]; decide
end WL
set_option Elab.async false
set_option linter.all false
set_option maxRecDepth 100000
set_option maxHeartbeats 4000000
namespace WL
open PySem PySem.Spec PyProof.Rows L2
/-! ### what mirroring and shifting do together -/
theorem map_opt_id {f : Int → Int} {ns : List (Option Int)} (h : ∀ k : Int, some k ∈ ns → f k = k) : ns.map (fun n => n.map f) = ns := by
  induction ns with
  | nil => rfl
  | cons n ns ih =>
    rw [List.map_cons, ih fun k hk => h k (List.mem_cons_of_mem _ hk)]
    cases n with
    | none => rfl
    | some k => rw [Option.map_some, h k List.mem_cons_self]
theorem mir_mir {c w : Int} {ns : List (Option Int)} {ls : List (Int × Int × Int)} (ok : DOK c ns ls w) : mirN c (mirN c ns) = ns := by
  unfold mirN
  rw [List.map_map]
  have e : ((fun n : Option Int => n.map fun w => (-w) % c) ∘ fun n : Option Int => n.map fun w => (-w) % c) = fun n => n.map fun w => (-((-w) % c)) % c := by
    funext n; cases n <;> rfl
  rw [e]
  refine map_opt_id fun k hk => ?_
  obtain ⟨h0, h1⟩ := ok.note k hk
  rw [Int.neg_emod_emod_neg k c h0 h1]
where
  Int.neg_emod_emod_neg (k c : Int) (h0 : 0 ≤ k) (h1 : k < c) : (-((-k) % c)) % c = k := by
    have e := Int.emod_add_mul_ediv (-k) c
    have : -((-k) % c) = k + c * ((-k) / c) := by omega
    rw [this, Int.add_mul_emod_self_left, Int.emod_eq_of_lt h0 h1]
theorem mirL_mirL (ls : List (Int × Int × Int)) : mirL (mirL ls) = ls := by
  unfold mirL
  rw [List.map_map]
  exact List.map_id' _
theorem sh_sh {c w i : Int} {ns : List (Option Int)} {ls : List (Int × Int × Int)} (ok : DOK c ns ls w) : shN c (0 - i) (shN c i ns) = ns := by
  unfold shN
  rw [List.map_map]
  have e : ((fun n : Option Int => n.map fun w => (w + (0 - i)) % c) ∘ fun n : Option Int => n.map fun w => (w + i) % c) = fun n => n.map fun w => ((w + i) % c + (0 - i)) % c := by
    funext n; cases n <;> rfl
  rw [e]
  refine map_opt_id fun k hk => ?_
  obtain ⟨h0, h1⟩ := ok.note k hk
  rw [Int.emod_add_emod, show k + i + (0 - i) = k by omega, Int.emod_eq_of_lt h0 h1]
theorem mir_sh (c i : Int) (ns : List (Option Int)) : mirN c (shN c i ns) = shN c (0 - i) (mirN c ns) := by
  unfold mirN shN
  rw [List.map_map, List.map_map]
  congr 1
  funext n
  cases n with
  | none => rfl
  | some k =>
    show some _ = some _
    congr 1
    show (-((k + i) % c)) % c = ((-k) % c + (0 - i)) % c
    rw [Int.emod_add_emod]
    have e := Int.emod_add_mul_ediv (k + i) c
    have : -((k + i) % c) = (-k + (0 - i)) + c * ((k + i) / c) := by omega
    rw [this, Int.add_mul_emod_self_left]
theorem get_note {f : Int → Int} {ns : List (Option Int)} {n : Nat} {i : Int} (h : (ns.map fun m => m.map f)[n]? = some (some i)) : ∃ k, ns[n]? = some (some k) ∧ f k = i := by
  rw [List.getElem?_map] at h
  cases e : ns[n]? with
  | none => rw [e] at h; cases h
  | some m =>
    rw [e] at h
    cases m with
    | none => cases h
    | some k => cases h; exact ⟨k, rfl, rfl⟩
theorem get_int {f : Int → Int} {xs : List Int} {n : Nat} {y : Int} (h : (xs.map f)[n]? = some y) : ∃ x, xs[n]? = some x ∧ f x = y := by
  rw [List.getElem?_map] at h
  cases e : xs[n]? with
  | none => rw [e] at h; cases h
  | some x => rw [e] at h; cases h; exact ⟨x, rfl, rfl⟩
theorem cal_mir {c : Int} {ns : List (Option Int)} {ls : List (Int × Int × Int)} {xs : List Int} (h : Cal c ns ls xs) : Cal c (mirN c ns) (mirL ls) (xs.map fun x => 0 - x) := by
  refine ⟨by simp [mirN, h.len], fun n i x hn hx => ?_, fun l hl x y hx hy => ?_⟩
  · obtain ⟨k, ek, rfl⟩ := get_note hn
    obtain ⟨x', ex, rfl⟩ := get_int hx
    have e := h.days n k x' ek ex
    rw [← e]
    have q := Int.emod_add_mul_ediv x' c
    have : 0 - x' = -(x' % c) + c * (-(x' / c)) := by rw [Int.mul_neg]; omega
    rw [this, Int.add_mul_emod_self_left]
  · obtain ⟨l', hl', rfl⟩ := List.mem_map.mp hl
    obtain ⟨x', ex, rfl⟩ := get_int hx
    obtain ⟨y', ey, rfl⟩ := get_int hy
    have := h.gaps l' hl' y' x' ey ex
    show 0 - y' - (0 - x') ≤ l'.2.2
    omega
theorem cal_sh {c i : Int} {ns : List (Option Int)} {ls : List (Int × Int × Int)} {xs : List Int} (h : Cal c ns ls xs) : Cal c (shN c i ns) ls (xs.map fun x => x + i) := by
  refine ⟨by simp [shN, h.len], fun n j x hn hx => ?_, fun l hl x y hx hy => ?_⟩
  · obtain ⟨k, ek, rfl⟩ := get_note hn
    obtain ⟨x', ex, rfl⟩ := get_int hx
    rw [← h.days n k x' ek ex, Int.emod_add_emod]
  · obtain ⟨x', ex, rfl⟩ := get_int hx
    obtain ⟨y', ey, rfl⟩ := get_int hy
    have := h.gaps l hl x' y' ex ey
    omega
theorem show_twoR {c : Int} {ns : List (Option Int)} {ls : List (Int × Int × Int)} {w : Int} (h : DOK c ns ls w) (hw : w ≤ 999999999999) (hl : ls.length ≤ 1000) : (PyData.list [.list (rowD c ns ls), .list (rowD c ns ls)]).showable = true ∧ (PyData.list [.list (rowD c ns ls), .list (rowD c ns ls)]).shown.length ≤ sizeLine ∧ (PyData.list [.list (rowD c ns ls), .list (rowD c ns ls)]).depth ≤ 50 := by
  have s : Sm (.list [.list (rowD c ns ls), .list (rowD c ns ls)]) := sm_lst fun d hd => by
    simp only [List.mem_cons, List.not_mem_nil, or_false, or_self] at hd
    subst hd
    exact sm_row h hw
  have p : pl 4 (.list [.list (rowD c ns ls), .list (rowD c ns ls)]) := fun d hd => by
    simp only [List.mem_cons, List.not_mem_nil, or_false, or_self] at hd
    subst hd
    exact pl_row c ns ls
  exact ⟨s.show_, sm_fits s (by rw [bulk_two, bulk_row]; have := h.n16; omega), Nat.le_trans (pl_lay p).2 (by decide)⟩
theorem g_shI {K : PySem.W.Frag} {DC IN a : Addr} {H : Hp} {c w i : Int} {ns : List (Option Int)} {ls : List (Int × Int × Int)} {Q : VK} {E : XK} (hD : DiaAt DC H (.ref a) c ns ls) (ok : DOK c ns ls w) (hw : w ≤ 1000000000) (h60 : ls.length ≤ 60)
    (q : ∀ (x : Addr) (H' : Hp), H x = none → DiaAt DC H' (.ref x) c (shN c i ns) ls → (∀ b o, H b = some o → H' b = some o) → Q (.ref x) H') : spShift K DC IN [.ref a, .int i] H Q E :=
  ⟨.ref a, .int i, c, w, ns, ls, .int i, rfl, hD, .int i, ok, hw, h60, fun j e => by cases e; exact q, fun h => by cases h⟩
theorem g_mirI {DC a : Addr} {H : Hp} {c w : Int} {ns : List (Option Int)} {ls : List (Int × Int × Int)} {Q : VK} {E : XK} (hD : DiaAt DC H (.ref a) c ns ls) (ok : DOK c ns ls w) (hw : w ≤ 1000000000) (h60 : ls.length ≤ 60)
    (q : ∀ (x : Addr) (H' : Hp), H x = none → DiaAt DC H' (.ref x) c (mirN c ns) (mirL ls) → (∀ b o, H b = some o → H' b = some o) → Q (.ref x) H') : spMir DC [.ref a] H Q E :=
  ⟨.ref a, c, w, ns, ls, rfl, hD, ok, hw, h60, q⟩
/-- a method of a diary is asked for -/
theorem g_mAt {DC a : Addr} {H : Hp} {c : Int} {ns : List (Option Int)} {ls : List (Int × Int × Int)} {m : Str} {R : Prop} (hD : DiaAt DC H (.ref a) c ns ls) (hm : ∀ x y z, (dFs x y z).lookup m = none) (r : R) : ∃ a' dx fs, V.ref a = .ref a' ∧ H a' = some (.ins DC dx fs) ∧ fs.lookup m = none ∧ R := by
  obtain ⟨a0, dx, wv, bv, e, h1, _, _⟩ := hD
  cases e
  exact ⟨a, dx, _, rfl, h1, hm _ _ _, r⟩
def spRight (DC : Addr) : Sp := fun vs H Q _ => ∃ (m cc g : Addr) (B : Int) (v : V) (b : Book), vs = [.ref m, v] ∧ Pr m cc g H H B ∧ B < 2 ^ 24 ∧ Fz H v b.d ∧ b.OK 3000 48 ∧ 2 ≤ b.notes.length ∧ ∀ H', Pr m cc g H H' (B + 3) → Q (.bl true) H'
theorem Pr.ext {m c g : Addr} {H H' : Hp} {B : Int} (p : Pr m c g H H B) (e : LamX.ExtN H H') : Pr m c g H' H' B := by
  obtain ⟨n, h, d⟩ := p.dr
  exact ⟨⟨n, h, d.ext e⟩, But.refl⟩
def spLawT (K : PySem.W.Frag) (T : List (Addr × Str)) : Sp := fun vs H Q _ => ∃ (a : Addr) (ns : List Int), vs = [.ref a] ∧ SqL K H a (ns.map V.int) ∧ ns.length ≤ 63 ∧ LamX.Tabs T H ∧ ∀ H', Q (.bl true) H'
end WL
set_option Elab.async false
set_option linter.all false
set_option maxRecDepth 100000
set_option maxHeartbeats 4000000
namespace WL
open PySem PySem.Spec PyProof.Rows L2
/-! ### walks: what a row of values is as one -/
def placeV : Option Int → V
  | none => .non
  | some i => .int i
/-- the first value, counted from n, that does not go on from this place -/
def walkF (ls : List (Int × Int × Int)) : List Sh → Nat → Option Int → Option Nat
  | [], _, _ => none
  | s :: ss, n, place => match s with
    | .int i => if 0 ≤ i ∧ i < ls.length then (match ls[i.toNat]? with
        | some l => if place.isSome ∧ place ≠ some l.1 then some n else walkF ls ss (n + 1) (some l.2.1)
        | none => some n) else some n
    | _ => some n
theorem walkF_int {ls : List (Int × Int × Int)} {i : Int} {ss : List Sh} {n : Nat} {place : Option Int} (h0 : 0 ≤ i) (h1 : i.toNat < ls.length) : walkF ls (.int i :: ss) n place = if place.isSome ∧ place ≠ some ls[i.toNat].1 then some n else walkF ls ss (n + 1) (some ls[i.toNat].2.1) := by
  have e : walkF ls (.int i :: ss) n place = (if 0 ≤ i ∧ i < (ls.length : Int) then (match ls[i.toNat]? with
        | some l => if place.isSome ∧ place ≠ some l.1 then some n else walkF ls ss (n + 1) (some l.2.1)
        | none => some n) else some n) := rfl
  rw [e, if_pos (show 0 ≤ i ∧ i < (ls.length : Int) from ⟨h0, by omega⟩), List.getElem?_eq_getElem h1]
theorem walkF_out {ls : List (Int × Int × Int)} {s : Sh} {ss : List Sh} {n : Nat} {place : Option Int} (h : s.within 0 ((ls.length : Int) - 1) = false) : walkF ls (s :: ss) n place = some n := by
  cases s with
  | int i =>
    have e : walkF ls (.int i :: ss) n place = (if 0 ≤ i ∧ i < (ls.length : Int) then (match ls[i.toNat]? with
        | some l => if place.isSome ∧ place ≠ some l.1 then some n else walkF ls ss (n + 1) (some l.2.1)
        | none => some n) else some n) := rfl
    rw [e]
    have : ¬ (0 ≤ i ∧ i < ls.length) := fun ⟨a, b⟩ => by
      rw [within_int ⟨a, by omega⟩] at h
      cases h
    rw [if_neg this]
  | _ => rfl
/-- the class InvalidWalk -/
structure EvK (P : Program) (K : PySem.W.Frag) (mg : Str → Option Value) (IW : Addr) : Prop where
  at_ : mg "InvalidWalk" = some (.ref IW)
  ex : ∃ fI fd, ExT P K mg ["spot"] IW fI ∧ ExI P K ["spot"] IW fI fd ∧ ∀ (s : Shared) (u v : Value), K.In s.heap → BindsTo s fd ⟨[u, v], []⟩ [("self", u), ("spot", v)]
def spotV : Option Nat → V
  | none => .non
  | some n => .int n
def spWalkF (K : PySem.W.Frag) (DC : Addr) : Sp := fun vs H Q _ => ∃ (v : V) (t : Addr) (us : List V) (ss : List Sh) (c w : Int) (ns : List (Option Int)) (ls : List (Int × Int × Int)), vs = [v, .ref t] ∧ DiaAt DC H v c ns ls ∧ DOK c ns ls w ∧ ls.length ≤ 100 ∧ SqT K H t us ∧ AnSs K H us ss ∧
  ∀ H', (∀ b o, H b = some o → H' b = some o) → Q (spotV (walkF ls ss 0 none)) H'
def spNoFault (IW : Addr) : Sp := fun vs H Q E => ∃ (o : Option Nat), vs = [spotV o] ∧ (o = none → Q .non H) ∧ ∀ n, o = some n → ∀ d, H d = none → E (.ref IW) (some d) (upd H d (.xd [("spot", .int n)]))
def wFs (x y : V) : List (Str × V) := [("_diary", x), ("_numbers", y)]
/-- Walk's __init__, what is behind the diary in a tuple -/
def spWInitT (K : PySem.W.Frag) (DC WC IW : Addr) : Sp := fun vs H Q E => ∃ (a dx t : Addr) (v : V) (us : List V) (ss : List Sh) (c w : Int) (ns : List (Option Int)) (ls : List (Int × Int × Int)), vs = [.ref a, v, .ref t] ∧ H a = some (.ins WC dx []) ∧ DiaAt DC H v c ns ls ∧ DOK c ns ls w ∧ ls.length ≤ 100 ∧ SqT K H t us ∧ us.length ≤ 100000 ∧ AnSs K H us ss ∧
  (us = [] → ∀ d, H d = none → E (.ref IW) (some d) (upd H d (.xd [("spot", .non)]))) ∧
  (∀ n, us ≠ [] → walkF ls ss 0 none = some n → ∀ H' d, (∀ b o, H b = some o → H' b = some o) → H' d = none → E (.ref IW) (some d) (upd H' d (.xd [("spot", .int n)]))) ∧
  (us ≠ [] → walkF ls ss 0 none = none → ∀ H', H' a = some (.ins WC dx (wFs v (.ref t))) → (∀ b o, b ≠ a → H b = some o → H' b = some o) → Q .non H')
/-- Walk(diary, ..): what is behind the diary goes into a tuple -/
def spWInit (K : PySem.W.Frag) (DC WC IW : Addr) : Sp := fun vs H Q E => ∃ ws rest, vs = ws ++ rest ∧ ws.length = (["self", "diary"] : List Str).length ∧ rest.length ≤ sizeLine ∧ ∀ p, H p = Option.none → spWInitT K DC WC IW (ws ++ [V.ref p]) (upd H p (.tup rest)) Q E
/-- the class Walk -/
structure WkO (K : PySem.W.Frag) (WC : Addr) : Prop where
  cls : Cls K WC
  n1 : NoAttr K WC "_diary"
  n2 : NoAttr K WC "_numbers"
end WL
set_option Elab.async false
set_option linter.all false
set_option maxRecDepth 100000
set_option maxHeartbeats 4000000
namespace WL
open PySem PySem.Spec PyProof.Rows L2
/-! ### the sum of a list of numbers -/
def rSumI (K : PySem.W.Frag) : List V → Hp → VK → Prop := fun xs H Q => ∃ (p : Addr) (is : List Int), xs = [.ref p] ∧ SqL K H p (is.map V.int) ∧ Q (.int is.sum) H
theorem ints_at : ∀ {is : List Int} {us : List Value}, Vals (is.map V.int) us → ∀ (i : Nat) (u : Value), us[i]? = some u → ∃ n t, is[i]? = some n ∧ u = .int n t
  | [], _, .nil, i, u, h => by simp at h
  | b :: bs, _, .cons r t, 0, u, h => by
    obtain ⟨k, rfl⟩ := r
    simp only [List.getElem?_cons_zero, Option.some.injEq] at h
    exact ⟨b, k, rfl, h.symm⟩
  | b :: bs, _, .cons r t, i + 1, u, h => by
    simp only [List.getElem?_cons_succ] at h ⊢
    exact ints_at t i u h
theorem sum_at (is : List Int) : ∀ k, k ≤ is.length → preSum (fun i => (is[i]?).getD 0) k = (is.take k).sum
  | 0, _ => by simp [preSum]
  | k + 1, h => by
    have hk : k < is.length := h
    have e : preSum (fun i => (is[i]?).getD 0) (k + 1) = preSum (fun i => (is[i]?).getD 0) k + (is[k]?).getD 0 := by
      first
        | rfl
        | simp [preSum]
    rw [e, sum_at is k (Nat.le_of_lt hk), List.take_succ, List.getElem?_eq_getElem hk, List.sum_append]
    simp
theorem call_sumI {X : Cx} (calm : X.calm = true) : CallR X (.builtin "sum") (rSumI X.K) := by
  intro pins s σ H xs us Q I r h
  obtain ⟨p, is, rfl, hq, q⟩ := h
  obtain ⟨u, rfl, rx⟩ := vals1 r
  cases rx
  obtain ⟨its, rv, pl, _⟩ := I.list hq
  have len : its.length = is.length := by rw [← rv.length, List.length_map]
  have low : p < s.heap.objs.size := by obtain ⟨_, e, _⟩ := pl.isList; exact Heap.lt_size e
  refine call_sum_walkG (wpAny_pyIter_list pl.isList ?_)
  refine ⟨s.heap.objs.size, [s.heap.objs.size, p], [s.heap.objs.size], its.toArray.size, _, _, fun i => (is[i]?).getD 0, rfl, Walks.list (A := X.A.in1) (I.ok.hd calm) _ p (Nat.ne_of_lt low) its.toArray, ⟨⟨_, Heap.get?_push_size _ rfl, rfl, rfl⟩, pl.isList.push _⟩, ?_, ?_, ?_⟩
  · intro b hb
    show b < (s.heap.push _).objs.size
    rw [Heap.size_push]
    rcases List.mem_cons.mp hb with rfl | hb
    · exact Nat.lt_succ_self _
    · rw [List.mem_singleton.mp hb]; exact Nat.lt_succ_of_lt low
  · intro i v hP
    obtain ⟨n, t, e, rfl⟩ := ints_at rv i v (by simpa using hP)
    exact ⟨t, by show Value.int n t = Value.int ((is[i]?).getD 0) t; rw [e]; rfl⟩
  · intro h' tk t' hk
    have e : preSum (fun i => (is[i]?).getD 0) its.toArray.size = is.sum := by
      rw [List.size_toArray, len, sum_at is _ (Nat.le_refl _), List.take_length]
    rw [e]
    exact ⟨.int is.sum, H, I.kept (t' := tk) (LSm.kept_iter hk), ⟨_, rfl⟩, q⟩
end WL
set_option Elab.async false
set_option linter.all false
set_option maxRecDepth 100000
set_option maxHeartbeats 4000000
namespace WL
open PySem PySem.Spec PyProof.Rows L2
/-! ### walks as objects -/
def lineAt (ls : List (Int × Int × Int)) (i : Int) : Int × Int × Int := ls.getD i.toNat (0, 0, 0)
def stopsOf (ls : List (Int × Int × Int)) (is : List Int) : List Int := (is.take 1).map (fun i => (lineAt ls i).1) ++ is.map fun i => (lineAt ls i).2.1
def totalOf (ls : List (Int × Int × Int)) (is : List Int) : Int := (is.map fun i => (lineAt ls i).2.2).sum
def InR (ls : List (Int × Int × Int)) (is : List Int) : Prop := ∀ i ∈ is, 0 ≤ i ∧ i.toNat < ls.length
theorem lineAt_get {ls : List (Int × Int × Int)} {i : Int} (h : i.toNat < ls.length) : lineAt ls i = ls[i.toNat] := by
  unfold lineAt
  rw [List.getD_eq_getElem?_getD, List.getElem?_eq_getElem h]; rfl
def WkAt (DC WC : Addr) (H : Hp) (v : V) (c : Int) (ns : List (Option Int)) (ls : List (Int × Int × Int)) (is : List Int) : Prop := ∃ a dx dv t, v = .ref a ∧ H a = some (.ins WC dx (wFs dv (.ref t))) ∧ DiaAt DC H dv c ns ls ∧ H t = some (.tup (is.map V.int))
theorem WkAt.keep {DC WC : Addr} {H H' : Hp} {v : V} {c : Int} {ns : List (Option Int)} {ls : List (Int × Int × Int)} {is : List Int} (h : WkAt DC WC H v c ns ls is) (t : Tk H H') (i : Ik H H') : WkAt DC WC H' v c ns ls is := by
  obtain ⟨a, dx, dv, u, e, h1, h2, h3⟩ := h
  exact ⟨a, dx, dv, u, e, i _ _ _ _ h1, h2.keep t i, t _ _ h3⟩
theorem WkAt.same {DC WC : Addr} {H H' : Hp} {v : V} {c : Int} {ns : List (Option Int)} {ls : List (Int × Int × Int)} {is : List Int} (h : WkAt DC WC H v c ns ls is) (k : ∀ b o, H b = some o → H' b = some o) : WkAt DC WC H' v c ns ls is := h.keep (Tk.same k) (Ik.same k)
section
variable {K : PySem.W.Frag} {WC : Addr} {H : Hp}
theorem g_w1 {a dx : Addr} {x y : V} {P : V → Prop} (d : WkO K WC) (h : H a = some (.ins WC dx (wFs x y))) (q : P x) : ∃ a' C dx' fs v, V.ref a = .ref a' ∧ H a' = some (.ins C dx' fs) ∧ Cls K C ∧ NoAttr K C "_diary" ∧ fs.lookup ("_diary" : Str) = some v ∧ P v := ⟨a, WC, dx, _, x, rfl, h, d.cls, d.n1, rfl, q⟩
theorem g_w2 {a dx : Addr} {x y : V} {P : V → Prop} (d : WkO K WC) (h : H a = some (.ins WC dx (wFs x y))) (q : P y) : ∃ a' C dx' fs v, V.ref a = .ref a' ∧ H a' = some (.ins C dx' fs) ∧ Cls K C ∧ NoAttr K C "_numbers" ∧ fs.lookup ("_numbers" : Str) = some v ∧ P v := ⟨a, WC, dx, _, y, rfl, h, d.cls, d.n2, rfl, q⟩
end
def spStops (DC WC : Addr) : Sp := fun vs H Q _ => ∃ (v : V) (c : Int) (ns : List (Option Int)) (ls : List (Int × Int × Int)) (is : List Int), vs = [v] ∧ WkAt DC WC H v c ns ls is ∧ InR ls is ∧ is ≠ [] ∧ is.length ≤ 1000 ∧
  ∀ (p : Addr) (H' : Hp), H' p = some (.tup ((stopsOf ls is).map V.int)) → (∀ b o, H b = some o → H' b = some o) → Q (.ref p) H'
def spTotal (DC WC : Addr) : Sp := fun vs H Q _ => ∃ (v : V) (c : Int) (ns : List (Option Int)) (ls : List (Int × Int × Int)) (is : List Int), vs = [v] ∧ WkAt DC WC H v c ns ls is ∧ InR ls is ∧ is.length ≤ 1000 ∧
  ∀ H', (∀ b o, H b = some o → H' b = some o) → Q (.int (totalOf ls is)) H'
def spWLen (DC WC : Addr) : Sp := fun vs H Q _ => ∃ (v : V) (c : Int) (ns : List (Option Int)) (ls : List (Int × Int × Int)) (is : List Int), vs = [v] ∧ WkAt DC WC H v c ns ls is ∧ Q (.int is.length) H
/-- a property of a class of one's own -/
structure PropE (P : Program) (w : World) (K : PySem.W.Frag) (mg : Str → Option Value) (base : Heap) (k : Nat) (C : Addr) (n : Str) (sp : Sp) : Prop where
  ex : ∃ p g fd, PropOf K C n p g ∧ Binds K fd ["self"] [] ∧ FnOk P w K mg base CX0 k g fd ["self"] sp
theorem pe_pe {X : Cx} {C : Addr} {k j : Nat} {n : Str} {sp : Sp} {e : Expr} {te : TE} {pos : Pos} (F : PropE X.prog X.w X.K X.mg X.base k C n sp) (O : Cls X.K C) (hr : Room j X.A) (hk : k + 1 ≤ j) (he : PE X e te) (hab : attributeBase e n X.env (eval e X.env) = eval e X.env := by rfl) : PE X (.Attribute e n pos) (tProp C sp [] E0 te) := by
  obtain ⟨p, g, fd, h1, h2, h3⟩ := F.ex
  exact pe_prop he O h1 h3 (hr.mono hk) h2 .nil pass0 hab
end WL
set_option Elab.async false
set_option linter.all false
set_option maxRecDepth 100000
set_option maxHeartbeats 4000000
namespace WL
open PySem PySem.Spec PyProof.Rows L2
/-! ### more of walks: equality; diaries with one bound, one note more -/
structure WkQ (K : PySem.W.Frag) (DC WC : Addr) : Prop where
  same : PySem.W.kitOne K (.ref WC) (.ref WC) = some true
  other : ∀ s : Sh, PySem.W.kitOne K (.type s.ty) (.ref WC) = some false
  dia : PySem.W.kitOne K (.ref DC) (.ref WC) = some false
  g1 : PySem.W.findIn K (.ref WC) "__class__" = some (some (.builtin "object.__class__"))
  g2 : PySem.W.specialIn K (.builtin "object.__class__") "__get__" = some (some (.builtin "getset_descriptor.__get__"))
  g3 : PySem.W.takesIn K (.builtin "object.__class__") = some true
  g4 : PySem.W.mroIn K WC (.type "object") = some true
theorem WkQ.ty {K : PySem.W.Frag} {DC WC a dx : Addr} {fs : List (Str × V)} {H : Hp} (D : WkQ K DC WC) (O : WkO K WC) (h : H a = some (.ins WC dx fs)) : TyX K H (.ref a) (.ref WC) := .base (.ins h O.cls D.g1 D.g2 D.g3 D.g4)
/-- a value that is no walk -/
inductive NoWk (K : PySem.W.Frag) (DC : Addr) (H : Hp) : V → Prop
  | an {x : V} {s : Sh} : AnS K H x s → OddE K H x → NoWk K DC H x
  | dia {x : V} {c : Int} {ns : List (Option Int)} {ls : List (Int × Int × Int)} : DiaAt DC H x c ns ls → NoWk K DC H x
def spWEq (K : PySem.W.Frag) (DC WC : Addr) : Sp := fun vs H Q _ => ∃ (v x : V) (c : Int) (ns : List (Option Int)) (ls : List (Int × Int × Int)) (is : List Int), vs = [v, x] ∧ WkAt DC WC H v c ns ls is ∧
  ((∃ c2 ns2 ls2 is2, WkAt DC WC H x c2 ns2 ls2 is2 ∧ ∀ r : Bool, (r = true ↔ (c = c2 ∧ ns = ns2 ∧ ls = ls2 ∧ is = is2)) → Q (.bl r) H) ∨ (NoWk K DC H x ∧ Q (.bl false) H))
def spAdd (DC : Addr) : Sp := fun vs H Q _ => ∃ (v : V) (rest : List V) (c w : Int) (ns : List (Option Int)) (ls ls2 : List (Int × Int × Int)), vs = v :: rest ∧ DiaAt DC H v c ns ls ∧ Fzs H rest (ls2.map lineD) ∧ DOK c ns (ls ++ ls2) w ∧ w ≤ 1000000000 ∧ (ls ++ ls2).length ≤ 60 ∧
  ∀ (x : Addr) (H' : Hp), H x = none → DiaAt DC H' (.ref x) c ns (ls ++ ls2) → (∀ b o, H b = some o → H' b = some o) → Q (.ref x) H'
def spAddT (DC : Addr) : Sp := fun vs H Q _ => ∃ (v : V) (t : Addr) (c w : Int) (ns : List (Option Int)) (ls ls2 : List (Int × Int × Int)), vs = [v, .ref t] ∧ DiaAt DC H v c ns ls ∧ Fz H (.ref t) (linesD ls2) ∧ DOK c ns (ls ++ ls2) w ∧ w ≤ 1000000000 ∧ (ls ++ ls2).length ≤ 60 ∧
  ∀ (x : Addr) (H' : Hp), H x = none → DiaAt DC H' (.ref x) c ns (ls ++ ls2) → (∀ b o, H b = some o → H' b = some o) → Q (.ref x) H'
theorem add_star {DC : Addr} : ∀ vs H Q E, spAdd DC vs H Q E → ∃ ws rest, vs = ws ++ rest ∧ ws.length = (["self"] : List Str).length ∧ rest.length ≤ sizeLine ∧ ∀ p, H p = Option.none → spAddT DC (ws ++ [V.ref p]) (upd H p (.tup rest)) Q E := by
  rintro vs H Q E ⟨v, rest, c, w, ns, ls, ls2, rfl, hD, hr, ok, hw, h60, q⟩
  refine ⟨[v], rest, rfl, rfl, ?_, fun p np => ⟨v, p, c, w, ns, ls, ls2, rfl, hD.same (same_up np fun _ _ h => h), .tup upd_same (hr.tk (Tk.new np)), ok, hw, h60, fun x H' nx d s => ?_⟩⟩
  · rw [hr.length, List.length_map]
    rw [List.length_append] at h60
    exact sz (by omega)
  · have u := same_up (o := .tup rest) np (H := H) (fun _ _ h => h)
    exact q x H' (none_up nx u) d fun b o h => s _ _ (u _ _ h)
def spNoting (DC : Addr) : Sp := fun vs H Q _ => ∃ (v : V) (i : Int) (n : Option Int) (c w : Int) (ns : List (Option Int)) (ls : List (Int × Int × Int)), vs = [v, .int i, noteV n] ∧ DiaAt DC H v c ns ls ∧ DOK c ns ls w ∧ w ≤ 1000000000 ∧ ls.length ≤ 60 ∧ (0 ≤ i ∧ i.toNat < ns.length) ∧ (∀ k, n = some k → 0 ≤ k ∧ k < c) ∧
  ∀ (x : Addr) (H' : Hp), H x = none → DiaAt DC H' (.ref x) c (ns.set i.toNat n) ls → (∀ b o, H b = some o → H' b = some o) → Q (.ref x) H'
theorem note_ok {c w : Int} {ns : List (Option Int)} {ls : List (Int × Int × Int)} {i : Nat} {n : Option Int} (h : DOK c ns ls w) (hn : ∀ k, n = some k → 0 ≤ k ∧ k < c) : DOK c (ns.set i n) ls w := by
  obtain ⟨a1, a2, a3, a4, a5, a6⟩ := h
  refine ⟨a1, a2, by rw [List.length_set]; exact a3, by rw [List.length_set]; exact a4, fun k hk => ?_, fun l hl => by rw [List.length_set]; exact a6 l hl⟩
  rcases List.mem_or_eq_of_mem_set hk with q | q
  · exact a5 k q
  · exact hn k q.symm
end WL
set_option Elab.async false
set_option linter.all false
set_option maxRecDepth 100000
set_option maxHeartbeats 4000000
namespace WL
open PySem PySem.Spec PyProof.Rows L2
/-! ### a def with a star parameter, called by keywords only -/
def FnRK (P : Program) (w : World) (K : PySem.W.Frag) (mg : Str → Option Value) (base : Heap) (CX : CXT) (k : Nat) (f : Addr) (n : Nat) (ks : List Str) (sp : Sp) : Prop :=
  ∀ (A : Around) (outer : List Env) (s : Shared) (H : Hp) (us ws : List Value) (vs zs : List V) (Q : VK) (E : XK), Room k A → Env0 P w K mg base A outer s H → Vals vs us → Vals zs ws → vs.length = n → zs.length = ks.length → sp (vs ++ zs) H Q E →
    codeAny (model P w) A (.call (.ref f) ⟨us, ks.zip ws⟩) (CR CX outer P w H s Q E) s
section
variable {CX : CXT} {P : Program} {w : World} {K : PySem.W.Frag} {mg : Str → Option Value} {base : Heap} {k : Nat} {f : Addr} {name qual : Str} {params : Arguments} {body : List Stmt} {scope : Scope} {dV kV doc pm cdv ct oc : Value} {an od : Option Addr}
  {osl : Array (Option Value)} {N ps ks : List Str} {sp : Sp} {n : Nat}
theorem fn_starK {pv : Str} (lk : K.lookup f = some ⟨oc, od, .func (PySem.W.fnOf name qual params body scope dV kV doc pm an cdv ct), osl⟩) (hcd : PySem.W.codeIn K cdv qual = true) (S : FnScope N (ps ++ [pv]) scope) (hCX : StX.CXUp CX) (hps : n + ks.length = ps.length)
    (hb : ∀ us ws : List Value, us.length = n → ws.length = ks.length → bindArgs (PySem.W.fnOf name qual params body scope dV kV doc pm an cdv ct) ⟨us, ks.zip ws⟩ = (newTuple [] >>= fun t => pure (ps.zip (us ++ ws) ++ [(pv, t)])))
    (hbody : ∀ (A : Around) (outer : List Env) (s : Shared) (H : Hp) (vs : List V) (Q : VK) (E : XK), Room k (A.deeper (envOfC qual scope s.heap.objs.size f cdv)) → sp vs H Q E →
      ∃ t, PSs (cxOf CX P w K mg base N qual scope f cdv A outer s H E) body t ∧ t { nx := fun _ H' => Q .non H', rt := Q } (start N vs) H) :
    FnRK P w K mg base CX (k + 1) f n ks (fun vs H Q E => ∀ p, H p = Option.none → sp (vs ++ [V.ref p]) (upd H p (.tup [])) Q E) := by
  intro A outer s H us ws vs zs Q E hr e0 r rz l1 l2 hq
  have hn : H s.heap.objs.size = Option.none := e0.hok.fresh (Nat.le_refl _)
  have h1 : us.length = n := by rw [← r.length]; exact l1
  have h2 : ws.length = ks.length := by rw [← rz.length]; exact l2
  have rr : Vals (vs ++ zs) (us ++ ws) := r.append rz
  have hl1 : (us ++ ws).length = ps.length := by rw [List.length_append, h1, h2]; exact hps
  refine StX.run_bnd lk hcd S hr e0 (G := fun xs H2 => ∃ p, H p = Option.none ∧ xs = (vs ++ zs) ++ [V.ref p] ∧ H2 = upd H p (.tup [])) (fun A' Ex Q' h => ?_) fun s2 H2 xs ⟨p, hp, ex, eH⟩ hr' => ?_
  · rw [hb us ws h1 h2]
    refine wpAny_bind (wpAny_newTuple (wpAny_pure ?_) (Nat.zero_le _))
    have new : ObjOk P w (upd H s.heap.objs.size (.tup [])) (s.heap.push ({ cls := .type "tuple", data := .seq ([] : List Value).toArray } : Obj)) s.heap.objs.size (.tup []) := ⟨Nat.zero_le _, [], .nil, ⟨_, Heap.get?_push_size _ rfl, rfl, _, rfl⟩⟩
    have un := StX.un_laid (fs := frs outer) (s := s) (o := ({ cls := .type "tuple", data := .seq ([] : List Value).toArray } : Obj)) (u := .tup []) hn
    have z := h _ _ ((vs ++ zs) ++ [V.ref s.heap.objs.size]) ((us ++ ws) ++ [Value.ref s.heap.objs.size]) (StX.env0_laid e0 new) un rfl (fun e s' => hCX outer s H _ _ E e s' un (fun b o q => Heap.get?_push_of_some _ q) rfl) (rr.append (.cons rfl .nil))
      (by rw [List.length_append, rr.length, hl1, List.length_append] <;> rfl) ⟨_, hn, rfl, rfl⟩
    rw [List.zip_append hl1.symm] at z
    exact z
  · subst ex eH
    exact hbody A outer s2 _ _ Q E hr' (hq p hp)
end
def tMakeRK (C : Addr) (m : Nat) (sp : Sp) (E : XK) (tk : TA) : TE := fun σ H Q => tk σ H fun zs H2 => zs.length = m ∧ ∀ x dx, H2 x = none → H2 dx = none → dx ≠ x →
  sp (V.ref x :: zs) (upd (upd H2 dx (.own x)) x (.ins C dx [])) (fun v H3 => v = .non ∧ Q (.ref x) H3) E
section
variable {X : Cx} {CX : CXT} {k : Nat} {f C : Addr} {ks : List Str} {sp : Sp} {E : XK} {x : Str} {p pos : Pos} {kws : List Keyword} {tk : TA}
theorem run_makeRK {pins : List (Addr × Obj)} {σ : L2.St} {H : Hp} {s : Shared} {Q : VK} {ws : List Value} {zs : List V} (M : Mk X.K C f) (F : FnRK X.prog X.w X.K X.mg X.base CX k f 1 ks sp) (hr : Room (k + 1) X.A) (hx : Passes CX X E)
    (I : Inv X pins σ H s) (rz : Vals zs ws) (l2 : zs.length = ks.length)
    (h : ∀ x dx, H x = none → H dx = none → dx ≠ x → sp (V.ref x :: zs) (upd (upd H dx (.own x)) x (.ins C dx [])) (fun v H2 => v = .non ∧ Q (.ref x) H2) E) :
    wpAny (model X.prog X.w) X.A (call (.ref C) [] (ks.zip ws)) (EP X pins σ Q) X.xe s := by
  have hq := h (s.heap.objs.size + 1) s.heap.objs.size (I.hok.fresh (Nat.le_succ _)) (I.hok.fresh (Nat.le_refl _)) (Nat.ne_of_lt (Nat.lt_succ_self _))
  have I2 := Inv.made (C := C) I
  have r1 : Vals [V.ref (s.heap.objs.size + 1)] [Value.ref (s.heap.objs.size + 1)] := .cons rfl .nil
  refine wpAny_call (make_map (f := f) I.kIn M.makes M.init (beq_iff_eq.mp M.fn) (codeAny_mono (F _ X.stack _ _ [Value.ref (s.heap.objs.size + 1)] ws [V.ref (s.heap.objs.size + 1)] zs _ E (hr.make C [] (ks.zip ws))
    (I2.env0.make C [] (ks.zip ws)) r1 rz rfl l2 hq) fun r s' hq' => ?_))
  cases r with
  | error e => exact hx pins σ _ _ e s' I2 hq'
  | ok fl =>
    cases fl with
    | ret u =>
      obtain ⟨v, H', I3, rv, ev, q3⟩ := I2.after hq'
      subst ev
      exact ⟨rv, ⟨V.ref (s.heap.objs.size + 1), H', I3, rfl, q3⟩⟩
    | next => exact False.elim hq'
    | brk => exact False.elim hq'
    | cont => exact False.elim hq'
theorem pe_makeRK0 (M : Mk X.K C f) (F : FnRK X.prog X.w X.K X.mg X.base CX k f 1 ks sp) (hr : Room (k + 1) X.A) (hg : Gl X x) (hm : X.mg x = some (.ref C)) (hx : Passes CX X E) (hkw : PK X kws tk)
    (hall : (backToKw pos (keywordEach kws X.env)).all (·.1.isSome) = true := by rfl) (hks : (backToKw pos (keywordEach kws X.env)).filterMap (·.1) = ks := by rfl) (hdb : (x == ("__debug__" : Str)) = false := by decide)
    (hpl : ((backTo pos (starEach [] X.env)).any (·.1) || (backToKw pos (keywordEach kws X.env)).any (·.1.isNone)) = false := by rfl) :
    PE X (.Call (.Name x p) [] kws pos) (tMakeRK C ks.length sp E tk) := by
  refine ⟨fun pins s σ H Q I h => ?_⟩
  refine wpAny_Call_Name_kw (ld_glob I hg hm ?_ hdb)
  refine PySem.W.callWith_KW0 (h₀ := X.base) I.ok.mod.kin M.kp hall ?_ hpl
  refine thn (hkw.run pos pins s σ H _ I h) fun ws s2 ⟨zs, H2, I2, rz, l2, q2⟩ => ⟨I2.kIn, ?_⟩
  rw [hks]
  exact run_makeRK M F hr hx I2 rz l2 q2
end
/-! ### a tuple beside the empty one -/
def rEqT0 (K : PySem.W.Frag) : R2 := fun x y H Q => ∃ a b xs, x = .ref a ∧ y = .ref b ∧ SqT K H a xs ∧ SqT K H b [] ∧ Q (.bl (decide (xs = []))) H
theorem op_eqT0 {X : Cx} (hu : X.A.units + 64 < cLine) : OpR X (compareOp .Eq) (rEqT0 X.K) := by
  intro pins s σ H x y v u Q I rx ry h
  obtain ⟨a, b, xs, rfl, rfl, ha, hb, q⟩ := h
  cases rx
  cases ry
  obtain ⟨its, rv, pl, _⟩ := I.tuple ha
  obtain ⟨its2, rv2, pl2, _⟩ := I.tuple hb
  cases rv2
  have t1 : s.heap.IsTuple a its.toArray := pl
  have t2 : s.heap.IsTuple b #[] := pl2
  refine PySem.W.eq_tuplesT (e := fun _ => true) (n := 0) t1 t2 (fun j h1 h2 => absurd h2 (by simp)) (by omega) ?_
  have e : ((List.range (min its.toArray.size (#[] : Array Value).size)).all (fun _ => true) && its.toArray.size == (#[] : Array Value).size) = decide (xs = []) := by
    have hl := rv.length
    cases xs with
    | nil => cases rv; rfl
    | cons x xs =>
      cases its with
      | nil => simp at hl
      | cons i its => simp
  rw [e]
  exact ⟨.bl _, H, I, rfl, q⟩
theorem g_eqT0 {K : PySem.W.Frag} {H : Hp} {Q : VK} {a b : Addr} {xs : List V} (h : SqT K H a xs) (k : H b = some (.tup [])) (q : Q (.bl (decide (xs = []))) H) : rEqT0 K (.ref a) (.ref b) H Q := ⟨a, b, xs, rfl, rfl, h, SqT.of k, q⟩
/-! ### walks of a book -/
/-- numbers of bounds that go on from one another -/
def WOK (ls : List (Int × Int × Int)) (is : List Int) : Prop := is ≠ [] ∧ InR ls is ∧ ∀ j (h : j + 1 < is.length), (lineAt ls (is[j]'(by omega))).2.1 = (lineAt ls is[j + 1]).1
theorem stopsOf_snoc (ls : List (Int × Int × Int)) (is : List Int) (x : Int) : stopsOf ls (is ++ [x]) = stopsOf ls is ++ (if is = [] then [(lineAt ls x).1] else []) ++ [(lineAt ls x).2.1] := by
  cases is with
  | nil => simp [stopsOf]
  | cons i is => simp [stopsOf]
theorem stopsOf_take {ls : List (Int × Int × Int)} {is : List Int} {i : Nat} (h : i < is.length) : stopsOf ls (is.take (i + 1)) = stopsOf ls (is.take i) ++ (if i = 0 then [(lineAt ls is[i]).1] else []) ++ [(lineAt ls is[i]).2.1] := by
  have e : is.take (i + 1) = is.take i ++ [is[i]] := by rw [List.take_succ, List.getElem?_eq_getElem h]; rfl
  rw [e, stopsOf_snoc]
  by_cases z : i = 0
  · subst z; simp
  · have : is.take i ≠ [] := by
      intro q
      have := congrArg List.length q
      rw [List.length_take, List.length_nil] at this
      omega
    rw [if_neg z, if_neg this]
theorem stopsOf_len {ls : List (Int × Int × Int)} {is : List Int} (h : is ≠ []) : (stopsOf ls is).length = is.length + 1 := by
  cases is with
  | nil => exact absurd rfl h
  | cons i is => simp [stopsOf]
theorem stopsOf_last {ls : List (Int × Int × Int)} {is : List Int} {i : Nat} (h : i < is.length) : (stopsOf ls (is.take (i + 1)))[i + 1]? = some (lineAt ls is[i]).2.1 := by
  rw [stopsOf_take h]
  have e : (stopsOf ls (is.take i) ++ if i = 0 then [(lineAt ls is[i]).1] else []).length = i + 1 := by
    by_cases z : i = 0
    · subst z; simp [stopsOf]
    · have : is.take i ≠ [] := by
        intro q
        have := congrArg List.length q
        rw [List.length_take, List.length_nil] at this
        omega
      rw [List.length_append, stopsOf_len this, if_neg z, List.length_take]
      simp; omega
  rw [List.getElem?_append_right (by rw [e]; exact Nat.le_refl _), e]
  simp
/-- a walk of ints is seen as one -/
theorem walkF_go {ls : List (Int × Int × Int)} : ∀ (is : List Int) (n : Nat) (pl : Option Int), InR ls is → (∀ j (h : j + 1 < is.length), (lineAt ls (is[j]'(by omega))).2.1 = (lineAt ls is[j + 1]).1) → (∀ (h : 0 < is.length), pl = none ∨ pl = some (lineAt ls is[0]).1) → walkF ls (is.map Sh.int) n pl = none
  | [], _, _, _, _, _ => rfl
  | i :: is, n, pl, hin, hc, hp => by
    obtain ⟨i0, i1⟩ := hin i (List.mem_cons_self)
    rw [List.map_cons, walkF_int i0 i1]
    have z := hp (by simp)
    have e : ls[i.toNat].1 = (lineAt ls i).1 := by rw [lineAt_get i1]
    have e2 : ls[i.toNat].2.1 = (lineAt ls i).2.1 := by rw [lineAt_get i1]
    rw [if_neg (by
      rintro ⟨h1, h2⟩
      rcases z with z | z
      · rw [z] at h1; cases h1
      · exact h2 (by rw [z, e]; rfl))]
    refine walkF_go is (n + 1) _ (fun k hk => hin k (List.mem_cons_of_mem _ hk)) (fun j h => hc (j + 1) (by simpa using h)) fun h => Or.inr ?_
    rw [e2]
    exact congrArg some (hc 0 (by simpa using h))
theorem WOK.walk {ls : List (Int × Int × Int)} {is : List Int} (h : WOK ls is) : walkF ls (is.map Sh.int) 0 none = none := walkF_go is 0 none h.2.1 h.2.2 fun _ => Or.inl rfl
/-- what has no fault is a row of whole numbers -/
theorem walkF_none {ls : List (Int × Int × Int)} : ∀ (ss : List Sh) (n : Nat) (pl : Option Int), walkF ls ss n pl = none → ∃ is : List Int, ss = is.map Sh.int ∧ InR ls is ∧ (∀ j (h : j + 1 < is.length), (lineAt ls (is[j]'(by omega))).2.1 = (lineAt ls is[j + 1]).1) ∧ ∀ (h : 0 < is.length), pl = none ∨ pl = some (lineAt ls is[0]).1
  | [], _, _, _ => ⟨[], rfl, fun i hi => absurd hi (by simp), fun j h => absurd h (by simp), fun h => absurd h (by simp)⟩
  | s :: ss, n, pl, h => by
    cases hin : s.within 0 ((ls.length : Int) - 1) with
    | false => rw [walkF_out hin] at h; cases h
    | true =>
      obtain ⟨i, rfl⟩ : ∃ i, s = .int i := by
        cases s with
        | int i => exact ⟨i, rfl⟩
        | _ => cases hin
      have z : (decide (0 ≤ i) && decide (i ≤ (ls.length : Int) - 1)) = true := hin
      rw [Bool.and_eq_true, decide_eq_true_eq, decide_eq_true_eq] at z
      have i1 : i.toNat < ls.length := by omega
      rw [walkF_int z.1 i1] at h
      have e : ls[i.toNat].1 = (lineAt ls i).1 := by rw [lineAt_get i1]
      have e2 : ls[i.toNat].2.1 = (lineAt ls i).2.1 := by rw [lineAt_get i1]
      by_cases q : pl.isSome ∧ pl ≠ some ls[i.toNat].1
      · rw [if_pos q] at h; cases h
      · rw [if_neg q] at h
        obtain ⟨is, rfl, a1, a2, a3⟩ := walkF_none ss (n + 1) _ h
        refine ⟨i :: is, rfl, fun k hk => ?_, fun j hj => ?_, fun _ => ?_⟩
        · rcases List.mem_cons.mp hk with rfl | hk
          · exact ⟨z.1, i1⟩
          · exact a1 k hk
        · cases j with
          | zero =>
            have hj' : 0 < is.length := by simpa using hj
            rcases a3 hj' with w | w
            · cases w
            · rw [e2] at w
              exact Option.some.inj w
          | succ j => exact a2 j (by simpa using hj)
        · cases pl with
          | none => exact Or.inl rfl
          | some p =>
            right
            by_cases w : some p = some ls[i.toNat].1
            · rw [w, e]; rfl
            · exact absurd ⟨rfl, w⟩ q
theorem walkF_wok {ls : List (Int × Int × Int)} {ss : List Sh} (h : walkF ls ss 0 none = none) (hn : ss ≠ []) : ∃ is : List Int, ss = is.map Sh.int ∧ WOK ls is := by
  obtain ⟨is, rfl, a1, a2, _⟩ := walkF_none ss 0 none h
  exact ⟨is, rfl, fun e => hn (by rw [e]; rfl), a1, a2⟩
theorem anss_of_ints {K : PySem.W.Frag} {H : Hp} : ∀ {us : List V} {is : List Int}, AnSs K H us (is.map Sh.int) → us = is.map V.int
  | [], [], _ => rfl
  | [], _ :: _, h => by cases h
  | _ :: _, [], h => by cases h
  | u :: us, i :: is, h => by
    cases h with
    | cons a b =>
      cases a
      rw [anss_of_ints b]; rfl
theorem atI_neg1 {α : Type} {xs : List α} {n : Nat} {v : α} (hl : xs.length = n + 1) (h : xs[n]? = some v) : atI xs (-1) = some v := by
  have e : ixN xs.length (-1) = some n := by
    unfold ixN
    simp only [hl]
    split <;> first | (simp; omega) | (rename_i z; exact absurd z (by omega))
  unfold atI
  rw [e]
  exact h
/-! ### the law's own reading of walks -/
def spSumL : Sp := fun vs H Q _ => ∃ (v : V) (t : Addr) (b : Book) (is : List Int), vs = [v, .ref t] ∧ Fz H v b.d ∧ H t = some (.tup (is.map V.int)) ∧ InR b.lines is ∧ is.length ≤ 1000 ∧ ∀ H', (∀ b o, H b = some o → H' b = some o) → Q (.int (totalOf b.lines is)) H'
def spStopsL : Sp := fun vs H Q _ => ∃ (v : V) (t : Addr) (b : Book) (is : List Int), vs = [v, .ref t] ∧ Fz H v b.d ∧ H t = some (.tup (is.map V.int)) ∧ WOK b.lines is ∧ is.length ≤ 1000 ∧
  ∀ (p : Addr) (H' : Hp), H' p = some (.lst ((stopsOf b.lines is).map V.int)) → (∀ b o, H b = some o → H' b = some o) → Q (.ref p) H'
def dueOf (ls : List (Int × Int × Int)) (ss : List Sh) : List V := if ss = [] then [.non] else match walkF ls ss 0 none with
  | none => []
  | some n => [.int n]
def spDue (K : PySem.W.Frag) : Sp := fun vs H Q _ => ∃ (v : V) (t : Addr) (us : List V) (ss : List Sh) (b : Book), vs = [v, .ref t] ∧ Fz H v b.d ∧ SqT K H t us ∧ AnSs K H us ss ∧ us.length ≤ 1000 ∧
  ∀ (p : Addr) (H' : Hp), H' p = some (.lst (dueOf b.lines ss)) → (∀ b o, H b = some o → H' b = some o) → Q (.ref p) H'
end WL
set_option Elab.async false
set_option linter.all false
set_option maxRecDepth 100000
set_option maxHeartbeats 4000000
namespace WL
open PySem PySem.Spec PyProof.Rows L2
/-! ### the class Walk for its callers -/
/-- Walk(diary = ..): nothing is left over -/
def spWInitK (K : PySem.W.Frag) (DC WC IW : Addr) : Sp := fun vs H Q E => ∀ p, H p = Option.none → spWInitT K DC WC IW (vs ++ [V.ref p]) (upd H p (.tup [])) Q E
structure WkF (P : Program) (w : World) (K : PySem.W.Frag) (mg : Str → Option Value) (base : Heap) (DC WC IW : Addr) : Prop where
  at_ : mg "Walk" = some (.ref WC)
  obj : WkO K WC
  q : WkQ K DC WC
  make : ∃ f, Mk K WC f ∧ FnR P w K mg base (L2.CX P w) 5 f (spWInit K DC WC IW)
  makeK : ∃ f, Mk K WC f ∧ FnRK P w K mg base (L2.CX P w) 5 f 1 ["diary"] (spWInitK K DC WC IW)
  diary : PropE P w K mg base 1 WC "diary" (spGetF WC "_diary")
  numbers : PropE P w K mg base 1 WC "numbers" (spGetF WC "_numbers")
  stops : PropE P w K mg base 3 WC "stops" (spStops DC WC)
  total : PropE P w K mg base 3 WC "total" (spTotal DC WC)
  len : ∃ f fd, PySem.W.findIn K (.ref WC) "__len__" = some (some (.ref f)) ∧ PySem.W.isFn K (.ref f) = true ∧ Binds K fd ["self"] [] ∧ FnOk P w K mg base CX0 1 f fd ["self"] (spWLen DC WC)
  eq : ∃ g fd, PySem.W.findIn K (.ref WC) "__eq__" = some (some (.ref g)) ∧ PySem.W.isFn K (.ref g) = true ∧ Binds K fd ["self", "other"] [] ∧ FnOk P w K mg base CX0 3 g fd ["self", "other"] (spWEq K DC WC)
  ne : PySem.W.findIn K (.ref WC) "__ne__" = some (some (.builtin "object.__ne__"))
  ob : PySem.W.subIn K (.ref WC) (.type "object") = some true
  nf : ∀ s : Sh, PySem.W.notFirst K WC (.type s.ty) = true
  nfW : PySem.W.notFirst K WC (.ref WC) = true
  nfD : PySem.W.notFirst K WC (.ref DC) = true
  most : ∃ f fd, Meth K WC "most" f ∧ Binds K fd ["self"] [] ∧ FnOk P w K mg base CX0 5 f fd ["self"] (spTotal DC WC)
section
variable {X : Cx} {DC WC IW : Addr} {k : Nat} {e : Expr} {te : TE} {pos : Pos}
theorem pe_mkW (F : WkF X.prog X.w X.K X.mg X.base DC WC IW) (hr : Room k X.A) (hk : 6 ≤ k) {E : XK} (hx : Passes (L2.CX X.prog X.w) X E) {es : List Expr} {t : TA} {p : Pos} (ha : PA X (e :: es) t) (hg : Gl X "Walk" := by rfl)
    (h1 : starEach (e :: es) X.env = (false, eval e X.env) :: starEach es X.env := by rfl) (h2 : (backTo pos (starEach es X.env)).any (·.1) = false := by rfl) : PE X (.Call (.Name "Walk" p) (e :: es) [] pos) (StX.tMakeR WC (spWInit X.K DC WC IW) E t) := by
  obtain ⟨f, m, Fn⟩ := F.make
  exact StX.pe_makeR m Fn (hr.mono hk) hg F.at_ hx ha (by decide) h1 h2
end
/-- a walk made of these values -/
def spWalkL (K : PySem.W.Frag) (DC WC IW : Addr) : Sp := fun vs H Q E => ∃ (v : V) (t : Addr) (us : List V) (ss : List Sh) (c w : Int) (ns : List (Option Int)) (ls : List (Int × Int × Int)), vs = [v, .ref t] ∧ DiaAt DC H v c ns ls ∧ DOK c ns ls w ∧ ls.length ≤ 100 ∧ H t = some (.tup us) ∧ AnSs K H us ss ∧ (us.length ≤ 6 ∨ us.length = 9) ∧
  (us = [] → ∀ H' d, (∀ b o, H b = some o → H' b = some o) → H' d = none → E (.ref IW) (some d) (upd H' d (.xd [("spot", .non)]))) ∧
  (∀ n, us ≠ [] → walkF ls ss 0 none = some n → ∀ H' d, (∀ b o, H b = some o → H' b = some o) → H' d = none → E (.ref IW) (some d) (upd H' d (.xd [("spot", .int n)]))) ∧
  (∀ is : List Int, us = is.map V.int → WOK ls is → ∀ x H', H x = none → WkAt DC WC H' (.ref x) c ns ls is → (∀ b o, H b = some o → H' b = some o) → Q (.ref x) H')
theorem g_mkW {K : PySem.W.Frag} {DC WC IW : Addr} {H H1 : Hp} {Q : VK} {E : XK} {v : V} {us : List V} {ss : List Sh} {c w : Int} {ns : List (Option Int)} {ls : List (Int × Int × Int)} (s1 : ∀ b o, H b = some o → H1 b = some o) (hD : DiaAt DC H v c ns ls) (ok : DOK c ns ls w) (h60 : ls.length ≤ 100) (hss : AnSs K H us ss) (hl : us.length ≤ 1000)
    (q1 : us = [] → ∀ H' d, (∀ b o, H b = some o → H' b = some o) → H' d = none → E (.ref IW) (some d) (upd H' d (.xd [("spot", .non)])))
    (q2 : ∀ n, us ≠ [] → walkF ls ss 0 none = some n → ∀ H' d, (∀ b o, H b = some o → H' b = some o) → H' d = none → E (.ref IW) (some d) (upd H' d (.xd [("spot", .int n)])))
    (q3 : ∀ is : List Int, us = is.map V.int → WOK ls is → ∀ x H', H x = none → WkAt DC WC H' (.ref x) c ns ls is → (∀ b o, H b = some o → H' b = some o) → Q (.ref x) H') :
    ∀ (x dx : Addr), H1 x = none → H1 dx = none → dx ≠ x → spWInit K DC WC IW (V.ref x :: v :: us) (upd (upd H1 dx (.own x)) x (.ins WC dx [])) (fun v H2 => v = .non ∧ Q (.ref x) H2) E := by
  intro x dx nx ndx hne
  have s2 : ∀ b o, H b = some o → upd (upd H1 dx (.own x)) x (.ins WC dx []) b = some o := fun b o h => by
    have k := s1 _ _ h
    rw [upd_ne (ne_of_none k nx), upd_ne (ne_of_none k ndx)]
    exact k
  refine ⟨[.ref x, v], us, rfl, rfl, sz (by omega), fun p np => ?_⟩
  have s3 := same_up (o := .tup us) np s2
  have hx : x ≠ p := fun z => by rw [← z, upd_same] at np; cases np
  refine ⟨x, dx, p, v, us, ss, c, w, ns, ls, rfl, by rw [upd_ne hx, upd_same], hD.same s3, ok, h60, SqT.of upd_same, by omega, hss.same s3, fun e d nd => ?_, fun n hn hw H' d s4 nd => ?_, fun hn hw H' hx' s4 => ⟨rfl, ?_⟩⟩
  · exact q1 e _ d s3 nd
  · exact q2 n hn hw H' d (fun b o h => s4 _ _ (s3 _ _ h)) nd
  · have hsn : ss ≠ [] := by
      rintro rfl
      cases hss
      exact hn rfl
    obtain ⟨is, rfl, hwok⟩ := walkF_wok hw hsn
    have eu := anss_of_ints hss
    have s5 : ∀ b o, H b = some o → H' b = some o := fun b o h => s4 _ _ (fun z => by rw [z] at h; exact absurd (s1 _ _ h) (by rw [nx]; simp)) (s3 _ _ h)
    refine q3 is eu hwok x H' (none_up nx s1) ⟨x, dx, v, p, rfl, hx', hD.same s5, ?_⟩ s5
    rw [s4 p _ (fun z => hx z.symm) upd_same, eu]
theorem g_mkR {C : Addr} {sp : Sp} {E : XK} {t : TA} {σ : L2.St} {H : Hp} {Q : VK} (h : t σ H fun vs H1 => ∀ x dx, H1 x = Option.none → H1 dx = Option.none → dx ≠ x → sp (V.ref x :: vs) (upd (upd H1 dx (.own x)) x (.ins C dx [])) (fun v H2 => v = .non ∧ Q (.ref x) H2) E) : StX.tMakeR C sp E t σ H Q := h
theorem g_ifD {b : Bool} {A B : Prop} (h : b = true) (a : A) : if b = true then A else B := by rw [if_pos h]; exact a
theorem g_elD {b : Bool} {A B : Prop} (h : b = false) (a : B) : if b = true then A else B := by rw [if_neg (by rw [h]; decide)]; exact a
/-! ### a comprehension over enumerate of a tuple -/
theorem LcQ.enumT {K : PySem.W.Frag} {g : TG} {tt : TT} {te : TE} {vs : List Nat} {σ : L2.St} {Q : VK} {H1 : Hp} {a : Addr} {xs : List V} (I : Addr → Nat → Hp → Prop) (h0 : ∀ D, H1 D = none → I D 0 (upd H1 D (.lst [])))
    (hl : ∀ D, H1 D = none → ∀ i H, i ≤ xs.length → I D i H → SqT K H a xs)
    (hs : ∀ D, H1 D = none → ∀ (i : Nat) (x : V) (T : Addr) (H : Hp), xs[i]? = some x → I D i H → H T = none → g (.ref T) (wipe σ vs) (upd H T (.tup [.int (i : Nat), x])) fun σ2 H2 => wipe σ2 vs = wipe σ vs ∧ tt σ2 H2 fun b H3 => if b = true then te σ2 H3 fun y H4 => ∃ acc, H4 D = some (.lst acc) ∧ acc.length < sizeLine ∧ I D (i + 1) (upd H4 D (.lst (acc ++ [y]))) else I D (i + 1) H3)
    (hd : ∀ D, H1 D = none → ∀ H, I D xs.length H → Q (.ref D) H) : LcQ g tt te vs σ Q (IteT K a xs) H1 := by
  intro D nD
  refine ⟨fun i m H => m = xs.length - i ∧ i ≤ xs.length ∧ I D i H, ⟨xs.length, by simp, Nat.zero_le _, h0 D nD⟩, ?_⟩
  rintro i m H ⟨rfl, hi, p⟩
  have q := hl D nD i H hi p
  by_cases e : i = xs.length
  · subst e
    exact Or.inl ⟨⟨q, rfl⟩, hd D nD H p⟩
  · refine Or.inr ⟨⟨q, by omega⟩, I D (i + 1), fun H' h => ⟨xs.length - (i + 1), by omega, rfl, by omega, h⟩, ?_⟩
    rintro v H' ⟨T, x, rfl, hT, rfl, hx⟩
    exact hs D nD i x T H hx p hT
theorem eqv_nilInts (is : List Int) : (PyData.list (is.map PyData.int)).eqv (.list []) = decide (is = []) := by
  cases is with
  | nil => rfl
  | cons i is =>
    rw [show decide (i :: is = []) = false by simp]
    cases hb : (PyData.list ((i :: is).map PyData.int)).eqv (.list []) with
    | false => rfl
    | true =>
      have := (pl_eqv (pl_ints (i :: is)) pl_nilL).mp hb
      simp at this
/-! ### drawn walks -/
def Chain (ls : List (Int × Int × Int)) (is : List Int) : Prop := ∀ (j : Nat) (x y : Int), is[j]? = some x → is[j + 1]? = some y → (lineAt ls x).2.1 = (lineAt ls y).1
theorem Chain.snoc {ls : List (Int × Int × Int)} {is : List Int} {r : Int} (h : Chain ls is) (k : ∀ z, is.getLast? = some z → (lineAt ls z).2.1 = (lineAt ls r).1) : Chain ls (is ++ [r]) := by
  intro j x y hx hy
  rcases Nat.lt_or_ge (j + 1) is.length with q | q
  · rw [List.getElem?_append_left (by omega)] at hx
    rw [List.getElem?_append_left q] at hy
    exact h j x y hx hy
  · rcases Nat.lt_or_ge j is.length with z | z
    · rw [List.getElem?_append_left z] at hx
      rw [List.getElem?_append_right q, show j + 1 - is.length = 0 by omega] at hy
      have ey : r = y := by simpa using hy
      subst ey
      refine k x ?_
      rw [List.getLast?_eq_getElem?, show is.length - 1 = j by omega]
      exact hx
    · rw [List.getElem?_append_right (by omega)] at hy
      rw [show j + 1 - is.length = (j - is.length) + 1 by omega] at hy
      simp at hy
theorem Chain.wok {ls : List (Int × Int × Int)} {is : List Int} (h : Chain ls is) (hn : is ≠ []) (hi : InR ls is) : WOK ls is := ⟨hn, hi, fun j hj => h j _ _ (List.getElem?_eq_getElem (by omega)) (List.getElem?_eq_getElem hj)⟩
def spWalked : Sp := fun vs H Q _ => ∃ (m c g : Addr) (B size : Int) (v : V) (b : Book), vs = [.ref m, v, .int size] ∧ Pr m c g H H B ∧ B < 2 ^ 28 ∧ Fz H v b.d ∧ b.lines ≠ [] ∧ b.lines.length ≤ 100 ∧ (1 ≤ size ∧ size ≤ 100) ∧
  ∀ (t : Addr) (is : List Int) (H' : Hp), H t = none → Pr m c g H H' (B + size) → H' t = some (.tup (is.map V.int)) → WOK b.lines is → is.length ≤ size → Q (.ref t) H'
theorem pe_mkWK {X : Cx} {DC WC IW : Addr} {k : Nat} {pos p : Pos} (F : WkF X.prog X.w X.K X.mg X.base DC WC IW) (hr : Room k X.A) (hk : 6 ≤ k) {E : XK} (hx : Passes (L2.CX X.prog X.w) X E) {kws : List Keyword} {tk : TA} (hkw : PK X kws tk) (hg : Gl X "Walk" := by rfl)
    (hall : (backToKw pos (keywordEach kws X.env)).all (·.1.isSome) = true := by rfl) (hks : (backToKw pos (keywordEach kws X.env)).filterMap (·.1) = (["diary"] : List Str) := by rfl)
    (hpl : ((backTo pos (starEach [] X.env)).any (·.1) || (backToKw pos (keywordEach kws X.env)).any (·.1.isNone)) = false := by rfl) : PE X (.Call (.Name "Walk" p) [] kws pos) (tMakeRK WC 1 (spWInitK X.K DC WC IW) E tk) := by
  obtain ⟨f, m, Fn⟩ := F.makeK
  exact pe_makeRK0 m Fn (hr.mono hk) hg F.at_ hx hkw hall hks (by decide) hpl
theorem g_mkRK {C : Addr} {m : Nat} {sp : Sp} {E : XK} {t : TA} {σ : L2.St} {H : Hp} {Q : VK} (h : t σ H fun zs H2 => zs.length = m ∧ ∀ x dx, H2 x = none → H2 dx = none → dx ≠ x → sp (V.ref x :: zs) (upd (upd H2 dx (.own x)) x (.ins C dx [])) (fun v H3 => v = .non ∧ Q (.ref x) H3) E) : tMakeRK C m sp E t σ H Q := h
theorem g_mkWK {K : PySem.W.Frag} {DC WC IW : Addr} {H H1 : Hp} {Q : VK} {E : XK} {v : V} {c w : Int} {ns : List (Option Int)} {ls : List (Int × Int × Int)} (s1 : ∀ b o, H b = some o → H1 b = some o) (hD : DiaAt DC H v c ns ls) (ok : DOK c ns ls w) (h60 : ls.length ≤ 100)
    (q1 : ∀ H' d, (∀ b o, H b = some o → H' b = some o) → H' d = none → E (.ref IW) (some d) (upd H' d (.xd [("spot", .non)]))) :
    ∀ (x dx : Addr), H1 x = none → H1 dx = none → dx ≠ x → spWInitK K DC WC IW [V.ref x, v] (upd (upd H1 dx (.own x)) x (.ins WC dx [])) (fun v H2 => v = .non ∧ Q (.ref x) H2) E := by
  intro x dx nx ndx hne p np
  have s2 : ∀ b o, H b = some o → upd (upd H1 dx (.own x)) x (.ins WC dx []) b = some o := fun b o h => by
    have k := s1 _ _ h
    rw [upd_ne (ne_of_none k nx), upd_ne (ne_of_none k ndx)]
    exact k
  have s3 := same_up (o := .tup []) np s2
  have hx : x ≠ p := fun z => by rw [← z, upd_same] at np; cases np
  exact ⟨x, dx, p, v, [], [], c, w, ns, ls, rfl, by rw [upd_ne hx, upd_same], hD.same s3, ok, h60, SqT.of upd_same, Nat.zero_le _, .nil, fun _ d nd => q1 _ d s3 nd, fun n hn => absurd rfl hn, fun hn => absurd rfl hn⟩
end WL
set_option Elab.async false
set_option linter.all false
set_option maxRecDepth 100000
set_option maxHeartbeats 4000000
namespace WL
open PySem PySem.Spec PyProof.Rows L2
/-! ### what a walk is read as, and what it ought to be -/
def wD (ls : List (Int × Int × Int)) (is : List Int) : PyData := .list [.tuple (is.map .int), .tuple ((stopsOf ls is).map .int), .int (totalOf ls is), .int (totalOf ls is), .int is.length]
def WRow (H : Hp) (p : Addr) (ls : List (Int × Int × Int)) (is : List Int) : Prop := ∃ t u, H p = some (.lst [.ref t, .ref u, .int (totalOf ls is), .int (totalOf ls is), .int is.length]) ∧ H t = some (.tup (is.map V.int)) ∧ H u = some (.tup ((stopsOf ls is).map V.int))
theorem WRow.same {H H' : Hp} {p : Addr} {ls : List (Int × Int × Int)} {is : List Int} (k : ∀ b o, H b = some o → H' b = some o) (h : WRow H p ls is) : WRow H' p ls is := by
  obtain ⟨t, u, a, b, c⟩ := h
  exact ⟨t, u, k _ _ a, k _ _ b, k _ _ c⟩
theorem fzs_dqb {H : Hp} : ∀ is : List Int, DqBs H (is.map V.int) (is.map PyData.int)
  | [] => .nil
  | i :: is => .cons (.int i) (fzs_dqb is)
theorem WRow.dq {H : Hp} {p : Addr} {ls : List (Int × Int × Int)} {is : List Int} (h : WRow H p ls is) : DqB H (.ref p) (wD ls is) := by
  obtain ⟨t, u, a, b, c⟩ := h
  exact .lst a (.cons (.tup b (fzs_dqb is)) (.cons (.tup c (fzs_dqb _)) (.cons (.int _) (.cons (.int _) (.cons (.int _) .nil)))))
def spReadW (DC WC : Addr) : Sp := fun vs H Q _ => ∃ (v : V) (c : Int) (ns : List (Option Int)) (ls : List (Int × Int × Int)) (is : List Int), vs = [v] ∧ WkAt DC WC H v c ns ls is ∧ InR ls is ∧ is ≠ [] ∧ is.length ≤ 1000 ∧
  ∀ (p : Addr) (H' : Hp), H p = none → WRow H' p ls is → (∀ b o, H b = some o → H' b = some o) → Q (.ref p) H'
def spShownW : Sp := fun vs H Q _ => ∃ (v : V) (t : Addr) (b : Book) (is : List Int), vs = [v, .ref t] ∧ Fz H v b.d ∧ H t = some (.tup (is.map V.int)) ∧ WOK b.lines is ∧ is.length ≤ 1000 ∧
  ∀ (p : Addr) (H' : Hp), H p = none → WRow H' p b.lines is → (∀ b o, H b = some o → H' b = some o) → Q (.ref p) H'
section
variable {X : Cx} {DC WC IW : Addr} {k : Nat}
theorem call_lenW (F : WkF X.prog X.w X.K X.mg X.base DC WC IW) (hr : Room k X.A) (hk : 2 ≤ k) : CallR X (.builtin "len") (rLenOwn WC (spWLen DC WC)) := by
  obtain ⟨f, fd, h1, h2, h3, h4⟩ := F.len
  exact call_lenOwn h4 h3 (hr.mono hk) h1 h2
theorem op_wEq (F : WkF X.prog X.w X.K X.mg X.base DC WC IW) (hr : Room k X.A) (hk : 3 ≤ k) : OpR X (compareOp .Eq) (rOwnEq X.K WC (spWEq X.K DC WC) id) := by
  obtain ⟨f, fd, h1, h2, h3, h4⟩ := F.eq
  exact op_ownEq h4 h3 (hr.mono hk) h1 h2
theorem op_wNe (F : WkF X.prog X.w X.K X.mg X.base DC WC IW) (hr : Room k X.A) (hk : 4 ≤ k) : OpR X (compareOp .NotEq) (rOwnEq X.K WC (spWEq X.K DC WC) not) := by
  obtain ⟨f, fd, h1, h2, h3, h4⟩ := F.eq
  exact op_ownNe h4 h3 (hr.mono hk) h1 h2 F.ne F.ob
end
theorem g_lenW {K : PySem.W.Frag} {DC WC : Addr} {H : Hp} {Q : VK} {v : V} {c : Int} {ns : List (Option Int)} {ls : List (Int × Int × Int)} {is : List Int} (h : WkAt DC WC H v c ns ls is) (hl : is.length ≤ 1000) (q : Q (.int is.length) H) : rLenOwn WC (spWLen DC WC) [v] H Q := by
  obtain ⟨a, dx, dv, t, rfl, ha, hd, ht⟩ := h
  exact ⟨a, dx, _, rfl, ha, .ref a, c, ns, ls, is, rfl, ⟨a, dx, dv, t, rfl, ha, hd, ht⟩, _, rfl, ⟨by omega, by omega⟩, q⟩
end WL
set_option Elab.async false
set_option linter.all false
set_option maxRecDepth 100000
set_option maxHeartbeats 4000000
namespace WL
open PySem PySem.Spec PyProof.Rows L2
/-! ### any value in a heap without its tables -/
theorem SqL.noT {K : PySem.W.Frag} {H : Hp} {a : Addr} {xs : List V} (h : SqL K H a xs) : SqL K (noTab H) a xs := by
  rcases h with h | h
  · left
    rcases h with h | ⟨o, h⟩
    · exact Or.inl (noTab_at h (fun ps z => nomatch z))
    · exact Or.inr ⟨o, noTab_at h (fun ps z => nomatch z)⟩
  · exact Or.inr h
theorem SqT.noT {K : PySem.W.Frag} {H : Hp} {a : Addr} {xs : List V} (h : SqT K H a xs) : SqT K (noTab H) a xs := by
  rcases h with h | h
  · left
    rcases h with h | ⟨o, h⟩
    · exact Or.inl (noTab_at h (fun ps z => nomatch z))
    · exact Or.inr ⟨o, noTab_at h (fun ps z => nomatch z)⟩
  · exact Or.inr h
mutual
theorem AnS.noT {K : PySem.W.Frag} {H : Hp} : ∀ {v : V} {s : Sh}, AnS K H v s → AnS K (noTab H) v s
  | _, _, .non => .non
  | _, _, .bl b => .bl b
  | _, _, .int i => .int i
  | _, _, .str x => .str x
  | _, _, .lst h => .lst (SqL.noT h)
  | _, _, .dct h => .dct (noTab_at h (fun ps z => nomatch z))
  | _, _, .tup h q => .tup (SqT.noT h) q.noT
theorem AnSs.noT {K : PySem.W.Frag} {H : Hp} : ∀ {vs : List V} {ss : List Sh}, AnSs K H vs ss → AnSs K (noTab H) vs ss
  | _, _, .nil => .nil
  | _, _, .cons h q => .cons h.noT q.noT
end
theorem Fz.noT {H : Hp} {v : V} {d : PyData} (h : Fz H v d) : Fz (noTab H) v d := h.tk fun b xs h => noTab_at h (fun ps z => nomatch z)
theorem DiaAt.noT {DC : Addr} {H : Hp} {v : V} {c : Int} {ns : List (Option Int)} {ls : List (Int × Int × Int)} (h : DiaAt DC H v c ns ls) : DiaAt DC (noTab H) v c ns ls := by
  obtain ⟨a, dx, wv, bv, e, ha, hn, hl⟩ := h
  exact ⟨a, dx, wv, bv, e, noTab_at ha (fun ps z => nomatch z), hn.noT, hl.noT⟩
theorem noTab_tup {H : Hp} {a : Addr} {xs : List V} (h : H a = some (.tup xs)) : noTab H a = some (.tup xs) := noTab_at h (fun ps z => nomatch z)
theorem noTab_lst {H : Hp} {a : Addr} {xs : List V} (h : H a = some (.lst xs)) : noTab H a = some (.lst xs) := noTab_at h (fun ps z => nomatch z)
theorem AnSs.app {K : PySem.W.Frag} {H : Hp} : ∀ {a b : List V} {x y : List Sh}, AnSs K H a x → AnSs K H b y → AnSs K H (a ++ b) (x ++ y)
  | _, _, _, _, .nil, q => q
  | _, _, _, _, .cons h t, q => .cons h (t.app q)
theorem AnSs.take {K : PySem.W.Frag} {H : Hp} : ∀ {a : List V} {x : List Sh} (n : Nat), AnSs K H a x → AnSs K H (a.take n) (x.take n)
  | _, _, 0, _ => by simpa using AnSs.nil
  | _, _, n + 1, .nil => .nil
  | _, _, n + 1, .cons h t => .cons h (t.take n)
theorem AnSs.drop {K : PySem.W.Frag} {H : Hp} : ∀ {a : List V} {x : List Sh} (n : Nat), AnSs K H a x → AnSs K H (a.drop n) (x.drop n)
  | _, _, 0, h => by simpa using h
  | _, _, n + 1, .nil => .nil
  | _, _, n + 1, .cons h t => t.drop n
def spWrong (DC : Addr) (T : List (Addr × Str)) : Sp := fun vs H Q _ => ∃ (m c g : Addr) (B : Int) (v d : V) (t : Addr) (b : Book) (wd : Int) (is : List Int), vs = [.ref m, v, d, .ref t] ∧ Pr m c g H H B ∧ B < 2 ^ 27 ∧ Fz H v b.d ∧ DOK b.c b.notes b.lines wd ∧ b.lines.length ≤ 60 ∧ DiaAt DC H d b.c b.notes b.lines ∧ H t = some (.tup (is.map V.int)) ∧ is.length ≤ 6 ∧ LamX.Tabs T H ∧
  ∀ H', Pr m c g (noTab H) H' (B + 4) → LamX.Tabs T H' → Q (.bl true) H'
/-! ### calls that may raise, in a lambda -/
section
variable {X : Cx} {A : Around} {outer : List Env} {s : Shared} {H : Hp} {E : XK} {scope : Scope} {f c' : Addr}
theorem pe_hasEL {k j : Nat} {x : Str} {ps : List Str} {sp : Sp} {e : Expr} {es : List Expr} {t : TA} {p pos : Pos} (h : HasE X.prog X.w X.K X.mg X.base k x ps sp) (hr : Room j (LamX.lamCx X A outer s H E scope f c').A) (hk : k ≤ j) (ha : PA (LamX.lamCx X A outer s H E scope f c') (e :: es) t) (gl : Gl (LamX.lamCx X A outer s H E scope f c') x := by rfl) (hdb : (x == ("__debug__" : Str)) = false := by decide)
    (h1 : starEach (e :: es) (LamX.lamCx X A outer s H E scope f c').env = (false, eval e (LamX.lamCx X A outer s H E scope f c').env) :: starEach es (LamX.lamCx X A outer s H E scope f c').env := by rfl) (h2 : (backTo pos (starEach es (LamX.lamCx X A outer s H E scope f c').env)).any (·.1) = false := by rfl) : PE (LamX.lamCx X A outer s H E scope f c') (.Call (.Name x p) (e :: es) [] pos) (tCall sp [] E t) :=
  pe_hasE (X := LamX.lamCx X A outer s H E scope f c') (E := E) h hr hk (passLam (X := X)) ha gl hdb h1 h2
theorem pe_mkWKL {DC WC IW : Addr} {k : Nat} {pos p : Pos} (F : WkF X.prog X.w X.K X.mg X.base DC WC IW) (hr : Room k (LamX.lamCx X A outer s H E scope f c').A) (hk : 6 ≤ k) {kws : List Keyword} {tk : TA} (hkw : PK (LamX.lamCx X A outer s H E scope f c') kws tk) (hg : Gl (LamX.lamCx X A outer s H E scope f c') "Walk" := by rfl)
    (hall : (backToKw pos (keywordEach kws (LamX.lamCx X A outer s H E scope f c').env)).all (·.1.isSome) = true := by rfl) (hks : (backToKw pos (keywordEach kws (LamX.lamCx X A outer s H E scope f c').env)).filterMap (·.1) = (["diary"] : List Str) := by rfl)
    (hpl : ((backTo pos (starEach [] (LamX.lamCx X A outer s H E scope f c').env)).any (·.1) || (backToKw pos (keywordEach kws (LamX.lamCx X A outer s H E scope f c').env)).any (·.1.isNone)) = false := by rfl) : PE (LamX.lamCx X A outer s H E scope f c') (.Call (.Name "Walk" p) [] kws pos) (tMakeRK WC 1 (spWInitK X.K DC WC IW) E tk) :=
  pe_mkWK (X := LamX.lamCx X A outer s H E scope f c') (E := E) F hr hk (passLam (X := X)) hkw hg hall hks hpl
end
/-! ### what goes on over lambdas -/
theorem Pr.out {m c g : Addr} {H HA H' : Hp} {B : Int} (p : Pr m c g H HA B) (s : ∀ b o, noTab HA b = some o → H' b = some o) : Pr m c g (noTab H) H' B := by
  obtain ⟨n, h, d⟩ := p.dr
  exact ⟨⟨n, h, d.ext (noTab_out s)⟩, fun b o n1 n2 h => s b o (noTab_at (p.but b o n1 n2 (noTab_of h).1) (noTab_of h).2)⟩
theorem anss_ints_inv {K : PySem.W.Frag} {H : Hp} : ∀ {is : List Int} {ss : List Sh}, AnSs K H (is.map V.int) ss → ss = is.map Sh.int
  | [], _, .nil => rfl
  | i :: is, _, .cons a q => by
    cases a
    rw [anss_ints_inv q]; rfl
theorem due_cases (ls : List (Int × Int × Int)) (ss : List Sh) : dueOf ls ss = [] ∨ dueOf ls ss = [.non] ∨ ∃ n : Nat, dueOf ls ss = [.int n] := by
  unfold dueOf
  by_cases e : ss = []
  · rw [if_pos e]; exact Or.inr (Or.inl rfl)
  · rw [if_neg e]
    cases walkF ls ss 0 none with
    | none => exact Or.inl rfl
    | some n => exact Or.inr (Or.inr ⟨n, rfl⟩)
theorem due_ne {K : PySem.W.Frag} {H : Hp} {Q : VK} {p q : Addr} {ls : List (Int × Int × Int)} {ss : List Sh} (h1 : H p = some (.lst (dueOf ls ss))) (h2 : H q = some (.lst (dueOf ls ss))) (k : Q (.bl false) H) : rNeD K (.ref p) (.ref q) H Q := by
  rcases due_cases ls ss with e | e | ⟨n, e⟩
  · rw [e] at h1 h2
    refine g_neD (K := K) (d := .list []) (e := .list []) (.lst (SqL.of h1) .nil) (.lst (SqL.of h2) .nil) (by decide +kernel) (by decide +kernel) ?_
    exact k
  · rw [e] at h1 h2
    refine g_neD (K := K) (d := .list [.none]) (e := .list [.none]) (.lst (SqL.of h1) (.cons .non .nil)) (.lst (SqL.of h2) (.cons .non .nil)) (by decide +kernel) (by decide +kernel) ?_
    rw [show (PyData.list [.none]).eqv (.list [.none]) = true by decide +kernel]
    exact k
  · rw [e] at h1 h2
    have pln : pl 1 (.list [PyData.int n]) := pl_ints [(n : Int)]
    refine g_neD (K := K) (d := .list [.int n]) (e := .list [.int n]) (.lst (SqL.of h1) (.cons (.int _) .nil)) (.lst (SqL.of h2) (.cons (.int _) .nil)) (pl_shaped pln (by decide)) (pl_shaped pln (by decide)) ?_
    rw [(pl_eqv pln pln).mpr rfl]
    exact k
theorem due_nil (ls : List (Int × Int × Int)) : dueOf ls [] = [.non] := rfl
theorem SqT.pr {K : PySem.W.Frag} {m c g : Addr} {H0 H : Hp} {B B' : Int} (p : Pr m c g H0 H B) (q : Pr m c g H0 H0 B') {a : Addr} {xs : List V} (h : SqT K H0 a xs) : SqT K H a xs := by
  obtain ⟨_, _, d⟩ := q.dr
  obtain ⟨l, _, hg⟩ := d.great
  rcases h with h | h
  · left
    rcases h with h | ⟨o, h⟩
    · exact Or.inl (p.tk q _ _ h)
    · exact Or.inr ⟨o, p.but _ _ (fun z => by rw [z, d.dict] at h; cases h) (fun z => by rw [z, hg] at h; cases h) h⟩
  · exact Or.inr h
theorem SqL.pr {K : PySem.W.Frag} {m c g : Addr} {H0 H : Hp} {B B' : Int} (p : Pr m c g H0 H B) (q : Pr m c g H0 H0 B') {a : Addr} {xs : List V} (h : SqL K H0 a xs) : ∃ ys, SqL K H a ys := by
  obtain ⟨_, _, d⟩ := q.dr
  obtain ⟨l, _, hg⟩ := d.great
  obtain ⟨_, _, d2⟩ := p.dr
  obtain ⟨l2, _, hg2⟩ := d2.great
  by_cases z : a = g
  · rw [z]; exact ⟨_, SqL.of hg2⟩
  rcases h with h | h
  · rcases h with h | ⟨o, h⟩
    · exact ⟨xs, Or.inl (Or.inl (p.but _ _ (fun z => by rw [z, d.dict] at h; cases h) z h))⟩
    · exact ⟨xs, Or.inl (Or.inr ⟨o, p.but _ _ (fun z => by rw [z, d.dict] at h; cases h) z h⟩)⟩
  · exact ⟨xs, Or.inr h⟩
mutual
theorem AnS.pr {K : PySem.W.Frag} {m c g : Addr} {H0 H : Hp} {B B' : Int} (p : Pr m c g H0 H B) (q : Pr m c g H0 H0 B') : ∀ {v : V} {s : Sh}, AnS K H0 v s → AnS K H v s
  | _, _, .non => .non
  | _, _, .bl b => .bl b
  | _, _, .int i => .int i
  | _, _, .str x => .str x
  | _, _, .lst h => by
    obtain ⟨ys, k⟩ := SqL.pr p q h
    exact .lst k
  | _, _, .dct (a := a) h => by
    obtain ⟨_, _, d⟩ := q.dr
    obtain ⟨l, _, hg⟩ := d.great
    obtain ⟨_, _, d2⟩ := p.dr
    by_cases z : a = m
    · rw [z]; exact .dct d2.dict
    · exact .dct (p.but _ _ z (fun z => by rw [z, hg] at h; cases h) h)
  | _, _, .tup h t => .tup (SqT.pr p q h) (AnSs.pr p q t)
theorem AnSs.pr {K : PySem.W.Frag} {m c g : Addr} {H0 H : Hp} {B B' : Int} (p : Pr m c g H0 H B) (q : Pr m c g H0 H0 B') : ∀ {vs : List V} {ss : List Sh}, AnSs K H0 vs ss → AnSs K H vs ss
  | _, _, .nil => .nil
  | _, _, .cons h t => .cons (AnS.pr p q h) (AnSs.pr p q t)
end
end WL
set_option Elab.async false
set_option linter.all false
set_option maxRecDepth 100000
set_option maxHeartbeats 4000000
namespace WL
open PySem PySem.Spec PyProof.Rows L2
/-! ### walks beside other values -/
def OddWk (K : PySem.W.Frag) (DC WC : Addr) (H : Hp) (x : V) (c : Int) (ns : List (Option Int)) (ls : List (Int × Int × Int)) (is : List Int) : Prop := NoWk K DC H x ∨ ∃ c2 ns2 ls2 is2, WkAt DC WC H x c2 ns2 ls2 is2 ∧ ¬ (c = c2 ∧ ns = ns2 ∧ ls = ls2 ∧ is = is2)
theorem NoWk.same {K : PySem.W.Frag} {DC : Addr} {H H' : Hp} {x : V} (k : ∀ b o, H b = some o → H' b = some o) (h : NoWk K DC H x) : NoWk K DC H' x := by
  cases h with
  | an a b => exact .an (a.same k) (b.same k)
  | dia d => exact .dia (d.same k)
theorem OddWk.same {K : PySem.W.Frag} {DC WC : Addr} {H H' : Hp} {x : V} {c : Int} {ns : List (Option Int)} {ls : List (Int × Int × Int)} {is : List Int} (k : ∀ b o, H b = some o → H' b = some o) (h : OddWk K DC WC H x c ns ls is) : OddWk K DC WC H' x c ns ls is := by
  rcases h with h | ⟨c2, ns2, ls2, is2, a, b⟩
  · exact .inl (h.same k)
  · exact .inr ⟨c2, ns2, ls2, is2, a.same k, b⟩
section
variable {P : Program} {w : World} {K : PySem.W.Frag} {mg : Str → Option Value} {base : Heap} {DC WC IW IE : Addr} {H : Hp} {Q : VK} {f : Bool → Bool} {v : V} {c : Int} {ns : List (Option Int)} {ls : List (Int × Int × Int)} {is : List Int}
theorem g_wEqW (W : WkF P w K mg base DC WC IW) {y : V} {c2 : Int} {ns2 : List (Option Int)} {ls2 : List (Int × Int × Int)} {is2 : List Int} (d : WkAt DC WC H v c ns ls is) (e : WkAt DC WC H y c2 ns2 ls2 is2) (q : ∀ r : Bool, (r = true ↔ (c = c2 ∧ ns = ns2 ∧ ls = ls2 ∧ is = is2)) → Q (.bl (f r)) H) : rOwnEq K WC (spWEq K DC WC) f v y H Q := by
  have d' := d
  have e' := e
  obtain ⟨a, dx, dv, t, rfl, ha, _, _⟩ := d
  obtain ⟨a2, dx2, dv2, t2, rfl, ha2, _, _⟩ := e
  exact ⟨a, dx, _, .ref WC, rfl, ha, Or.inr (Or.inr (Or.inr ⟨WC, dx2, _, rfl, ha2⟩)), W.nfW, .ref a, .ref a2, c, ns, ls, is, rfl, d', .inl ⟨c2, ns2, ls2, is2, e', fun r hr => ⟨r, rfl, q r hr⟩⟩⟩
theorem g_wEqO (W : WkF P w K mg base DC WC IW) {y : V} (d : WkAt DC WC H v c ns ls is) (e : OddWk K DC WC H y c ns ls is) (q : Q (.bl (f false)) H) : rOwnEq K WC (spWEq K DC WC) f v y H Q := by
  rcases e with e | ⟨c2, ns2, ls2, is2, e, hne⟩
  · have d' := d
    have e' := e
    obtain ⟨a, dx, dv, t, rfl, ha, _, _⟩ := d
    cases e with
    | an h1 h2 =>
      obtain ⟨s, h3, h4⟩ := h2.ex
      exact ⟨a, dx, _, _, rfl, ha, h4, W.nf s, .ref a, y, c, ns, ls, is, rfl, d', .inr ⟨e', false, rfl, q⟩⟩
    | dia h =>
      obtain ⟨a2, dx2, wv, bv, rfl, ha2, _, _⟩ := h
      exact ⟨a, dx, _, .ref DC, rfl, ha, Or.inr (Or.inr (Or.inr ⟨DC, dx2, _, rfl, ha2⟩)), W.nfD, .ref a, .ref a2, c, ns, ls, is, rfl, d', .inr ⟨e', false, rfl, q⟩⟩
  · refine g_wEqW W d e fun r hr => ?_
    cases r with
    | false => exact q
    | true => exact absurd (hr.mp rfl) hne
theorem walkL_ok {E : XK} {t : Addr} {wd : Int} (hD : DiaAt DC H v c ns ls) (ok : DOK c ns ls wd) (h100 : ls.length ≤ 100) (ht : H t = some (.tup (is.map V.int))) (hw : WOK ls is) (hl : is.length ≤ 6 ∨ is.length = 9)
    (q : ∀ x H', H x = none → WkAt DC WC H' (.ref x) c ns ls is → (∀ b o, H b = some o → H' b = some o) → Q (.ref x) H') : spWalkL K DC WC IW [v, .ref t] H Q E := by
  refine ⟨v, t, is.map V.int, is.map Sh.int, c, wd, ns, ls, rfl, hD, ok, h100, ht, anss_ints is, by rw [List.length_map]; exact hl, fun e => absurd (List.map_eq_nil_iff.mp e) hw.1, fun n _ h => ?_, fun is' e hw' x H' nx hW s => ?_⟩
  · rw [hw.walk] at h; cases h
  · have inj : ∀ {a b : List Int}, a.map V.int = b.map V.int → a = b := by
      intro a
      induction a with
      | nil => intro b h; cases b with
        | nil => rfl
        | cons _ _ => simp at h
      | cons i a ih => intro b h; cases b with
        | nil => simp at h
        | cons j b =>
          simp only [List.map_cons, List.cons.injEq, V.int.injEq] at h
          rw [h.1, ih h.2]
    have := inj e
    subst this
    exact q x H' nx hW s
end
/-- the list of what is not equal, as it grows -/
def OthA (K : PySem.W.Frag) (DC WC : Addr) (c : Int) (ns : List (Option Int)) (ls : List (Int × Int × Int)) (is : List Int) (H H' : Hp) (L : Addr) (n : Nat) : Prop := ∃ (G : Hp) (rows : List V), (∀ b o, H b = some o → G b = some o) ∧ (∀ b o, G b = some o → H' b = some o) ∧ G L = none ∧ H' L = some (.lst rows) ∧ rows.length ≤ n ∧ ∀ r ∈ rows, OddWk K DC WC G r c ns ls is
theorem OthA.old {K : PySem.W.Frag} {DC WC : Addr} {c : Int} {ns : List (Option Int)} {ls : List (Int × Int × Int)} {is : List Int} {H H' : Hp} {L : Addr} {n : Nat} (h : OthA K DC WC c ns ls is H H' L n) : ∀ b o, H b = some o → H' b = some o := by
  obtain ⟨G, rows, a, b, _⟩ := h
  exact fun x o e => b _ _ (a _ _ e)
theorem OthA.up {K : PySem.W.Frag} {DC WC : Addr} {c : Int} {ns : List (Option Int)} {ls : List (Int × Int × Int)} {is : List Int} {H H' H2 : Hp} {L : Addr} {n : Nat} (h : OthA K DC WC c ns ls is H H' L n) (s : ∀ b o, H' b = some o → H2 b = some o) : OthA K DC WC c ns ls is H H2 L n := by
  obtain ⟨G, rows, a, b, e, f, g⟩ := h
  exact ⟨G, rows, a, fun x o h => s _ _ (b _ _ h), e, s _ _ f, g⟩
theorem OthA.app {K : PySem.W.Frag} {DC WC : Addr} {c : Int} {ns : List (Option Int)} {ls : List (Int × Int × Int)} {is : List Int} {H H' : Hp} {L : Addr} {n : Nat} {x : V} {c2 : Int} {ns2 : List (Option Int)} {ls2 : List (Int × Int × Int)} {is2 : List Int} {Q : VK} (h : OthA K DC WC c ns ls is H H' L n) (hn : n ≤ 1000) (hx : WkAt DC WC H' x c2 ns2 ls2 is2) (hne : ¬ (c = c2 ∧ ns = ns2 ∧ ls = ls2 ∧ is = is2))
    (q : ∀ H2, OthA K DC WC c ns ls is H H2 L (n + 1) → Q .non H2) : rAppend (.ref L) [x] H' Q := by
  obtain ⟨G, rows, a, b, e, f, g, k⟩ := h
  refine g_app f (szl (by omega)) (q _ ?_)
  refine ⟨fun y => if y = L then none else H' y, rows ++ [x], fun y o h => ?_, fun y o h => ?_, by simp, upd_same, by simp; omega, fun r hr => ?_⟩
  · have : y ≠ L := fun z => by rw [z] at h; exact absurd (a _ _ h) (by rw [e]; simp)
    simp only [this, if_false]
    exact b _ _ (a _ _ h)
  · have h : (if y = L then none else H' y) = some o := h
    by_cases z : y = L
    · rw [if_pos z] at h; cases h
    · rw [if_neg z] at h
      rw [upd_ne z]; exact h
  · rcases List.mem_append.mp hr with h | h
    · refine (k r h).same fun y o h => ?_
      have : y ≠ L := fun z => by rw [z, e] at h; cases h
      simp only [this, if_false]
      exact b _ _ h
    · have er : r = x := by simpa using h
      subst er
      refine .inr ⟨c2, ns2, ls2, is2, hx.keep (fun y ys h => ?_) (fun y C dx fs h => ?_), hne⟩
      · have : y ≠ L := fun z => by rw [z, f] at h; cases h
        simp only [this, if_false]; exact h
      · have : y ≠ L := fun z => by rw [z, f] at h; cases h
        simp only [this, if_false]; exact h
theorem cut_neg1 (xs : List V) (h : xs ≠ []) : cutV xs none (some (-1)) = xs.take (xs.length - 1) := by
  unfold cutV HT.sIx
  simp only [Nat.sub_zero, List.drop_zero]
  rw [if_pos (by decide)]
  congr 1
  have := List.length_pos_iff.mpr h
  omega
def spEqualW (DC WC : Addr) : Sp := fun vs H Q _ => ∃ (v d o : V) (t : Addr) (b : Book) (wd : Int) (is : List Int), vs = [v, d, .ref t, o] ∧ Fz H v b.d ∧ DOK b.c b.notes b.lines wd ∧ (0 ≤ wd ∧ wd ≤ 1000000000) ∧ b.lines.length ≤ 60 ∧ DiaAt DC H d b.c b.notes b.lines ∧ H t = some (.tup (is.map V.int)) ∧ WOK b.lines is ∧ is.length ≤ 6 ∧ WkAt DC WC H o b.c b.notes b.lines is ∧
  ∀ H', (∀ b o, H b = some o → H' b = some o) → Q (.bl true) H'
theorem OthA.le {K : PySem.W.Frag} {DC WC : Addr} {c : Int} {ns : List (Option Int)} {ls : List (Int × Int × Int)} {is : List Int} {H H' : Hp} {L : Addr} {n n' : Nat} (h : OthA K DC WC c ns ls is H H' L n) (k : n ≤ n') : OthA K DC WC c ns ls is H H' L n' := by
  obtain ⟨G, rows, a, b, e, f, g, z⟩ := h
  exact ⟨G, rows, a, b, e, f, by omega, z⟩
theorem OthA.at_ {K : PySem.W.Frag} {DC WC : Addr} {c : Int} {ns : List (Option Int)} {ls : List (Int × Int × Int)} {is : List Int} {H H' : Hp} {L : Addr} {n : Nat} (h : OthA K DC WC c ns ls is H H' L n) : ∃ rows, H' L = some (.lst rows) := by
  obtain ⟨G, rows, a, b, e, f, g, z⟩ := h
  exact ⟨rows, f⟩
theorem lineAt_app {ls l2 : List (Int × Int × Int)} {i : Int} (h : i.toNat < ls.length) : lineAt (ls ++ l2) i = lineAt ls i := by
  rw [lineAt_get h, lineAt_get (by rw [List.length_append]; omega), List.getElem_append_left h]
theorem WOK.app {ls l2 : List (Int × Int × Int)} {is : List Int} (h : WOK ls is) : WOK (ls ++ l2) is := by
  obtain ⟨a, b, c⟩ := h
  refine ⟨a, fun i hi => ⟨(b i hi).1, by rw [List.length_append]; have := (b i hi).2; omega⟩, fun j hj => ?_⟩
  rw [lineAt_app (b _ (List.getElem_mem _)).2, lineAt_app (b _ (List.getElem_mem _)).2]
  exact c j hj
theorem WOK.tail {ls : List (Int × Int × Int)} {i : Int} {is : List Int} (h : WOK ls (i :: is)) (hn : is ≠ []) : WOK ls is := by
  obtain ⟨a, b, c⟩ := h
  exact ⟨hn, fun j hj => b j (List.mem_cons_of_mem _ hj), fun j hj => c (j + 1) (by simpa using hj)⟩
theorem WOK.take {ls : List (Int × Int × Int)} {is : List Int} {n : Nat} (h : WOK ls is) (hn : 0 < n) : WOK ls (is.take n) := by
  obtain ⟨a, b, c⟩ := h
  have hp := List.length_pos_iff.mpr a
  refine ⟨fun e => ?_, fun j hj => b j (List.mem_of_mem_take hj), fun j hj => ?_⟩
  · have := congrArg List.length e
    rw [List.length_take, List.length_nil] at this
    omega
  · rw [List.length_take] at hj
    rw [List.getElem_take, List.getElem_take]
    exact c j (by omega)
theorem WOK.head {ls : List (Int × Int × Int)} {i j : Int} {is : List Int} (h : WOK ls (i :: is)) (hj : 0 ≤ j ∧ j.toNat < ls.length) (e : lineAt ls j = lineAt ls i) : WOK ls (j :: is) := by
  obtain ⟨a, b, c⟩ := h
  refine ⟨by simp, fun k hk => ?_, fun k hk => ?_⟩
  · rcases List.mem_cons.mp hk with rfl | hk
    · exact hj
    · exact b k (List.mem_cons_of_mem _ hk)
  · cases k with
    | zero =>
      have := c 0 (by simpa using hk)
      show (lineAt ls j).2.1 = _
      rw [e]
      exact this
    | succ k => exact c (k + 1) hk
theorem g_methR {C : Addr} {m : Str} {sp : Sp} {E : XK} {ta : TE} {t : TA} {σ : L2.St} {H : Hp} {Q : VK} (h : ta σ H fun x H1 => ∃ a dx fs, x = .ref a ∧ H1 a = some (.ins C dx fs) ∧ fs.lookup m = none ∧ t σ H1 fun vs H2 => sp (x :: vs) H2 Q E) : tMethR C m sp E ta t σ H Q := h
theorem OthA.cat {K : PySem.W.Frag} {DC WC : Addr} {c : Int} {ns : List (Option Int)} {ls : List (Int × Int × Int)} {is : List Int} {H H' : Hp} {L Lb : Addr} {n : Nat} {x y : V} {Q : VK} (h : OthA K DC WC c ns ls is H H' L n) (hn : n ≤ 1000) (hb : H' Lb = some (.lst [x, y])) (hx : OddWk K DC WC H' x c ns ls is) (hy : OddWk K DC WC H' y c ns ls is)
    (q : ∀ p H2, OthA K DC WC c ns ls is H H2 p (n + 2) → Q (.ref p) H2) : rCat (.ref L) (.ref Lb) H' Q := by
  obtain ⟨G, rows, a, b, e, f, g, k⟩ := h
  refine ⟨L, Lb, rows, [x, y], rfl, rfl, f, hb, Nat.le_trans (show rows.length + [x, y].length ≤ 2000 by simp; omega) (by decide), fun p np => q p _ ⟨H', rows ++ [x, y], fun z o h => b _ _ (a _ _ h), same_up np fun _ _ h => h, np, upd_same, by simp; omega, fun r hr => ?_⟩⟩
  rcases List.mem_append.mp hr with h | h
  · exact (k r h).same b
  · simp only [List.mem_cons, List.not_mem_nil, or_false] at h
    rcases h with rfl | rfl
    · exact hx
    · exact hy
end WL
set_option Elab.async false
set_option linter.all false
set_option maxRecDepth 100000
set_option maxHeartbeats 4000000
namespace WL
open PySem PySem.Spec PyProof.Rows L2
/-! ### what a walk is read as can be shown -/
theorem line_in {c w : Int} {ns : List (Option Int)} {ls : List (Int × Int × Int)} (h : DOK c ns ls w) {i : Int} (hi : i.toNat < ls.length) : (0 ≤ (lineAt ls i).1 ∧ (lineAt ls i).1 < 16) ∧ (0 ≤ (lineAt ls i).2.1 ∧ (lineAt ls i).2.1 < 16) ∧ -w ≤ (lineAt ls i).2.2 ∧ (lineAt ls i).2.2 ≤ w := by
  rw [lineAt_get hi]
  obtain ⟨⟨a, b⟩, ⟨c, d⟩, e, f⟩ := h.line _ (List.getElem_mem hi)
  have := h.n16
  exact ⟨⟨a, by omega⟩, ⟨c, by omega⟩, e, f⟩
theorem total_in {c w : Int} {ns : List (Option Int)} {ls : List (Int × Int × Int)} (h : DOK c ns ls w) (hw : 0 ≤ w) : ∀ {is : List Int}, InR ls is → -(is.length * w) ≤ totalOf ls is ∧ totalOf ls is ≤ is.length * w
  | [], _ => by simp [totalOf]
  | i :: is, hi => by
    have ih := total_in h hw (is := is) fun j hj => hi j (List.mem_cons_of_mem _ hj)
    obtain ⟨_, _, e, f⟩ := line_in h (hi i (List.mem_cons_self)).2
    have et : totalOf ls (i :: is) = (lineAt ls i).2.2 + totalOf ls is := by simp [totalOf]
    have el : (((i :: is).length : Nat) : Int) * w = is.length * w + w := by
      rw [List.length_cons]; push_cast; rw [Int.add_mul, Int.one_mul]
    rw [et, el]
    omega
theorem sm_wD {c w : Int} {ns : List (Option Int)} {ls : List (Int × Int × Int)} {is : List Int} (h : DOK c ns ls w) (hw : 0 ≤ w ∧ w ≤ 1000000000) (hl : ls.length ≤ 1000) (hi : InR ls is) (hn : is.length ≤ 100) : Sm (wD ls is) := by
  have ht := total_in h hw.1 hi
  have hb : (is.length : Int) * w ≤ 100 * 1000000000 := Int.mul_le_mul (by omega) hw.2 hw.1 (by decide)
  refine sm_lst fun d hd => ?_
  simp only [List.mem_cons, List.not_mem_nil, or_false] at hd
  rcases hd with rfl | rfl | rfl | rfl | rfl
  · refine sm_tup fun d hd => ?_
    obtain ⟨i, hi', rfl⟩ := List.mem_map.mp hd
    obtain ⟨a, b⟩ := hi i hi'
    exact sm_int ⟨by omega, by omega⟩
  · refine sm_tup fun d hd => ?_
    obtain ⟨x, hx, rfl⟩ := List.mem_map.mp hd
    unfold stopsOf at hx
    rcases List.mem_append.mp hx with hx | hx
    · obtain ⟨i, hi', rfl⟩ := List.mem_map.mp hx
      have := (line_in h (hi i (List.mem_of_mem_take hi')).2).1
      exact sm_int ⟨by omega, by omega⟩
    · obtain ⟨i, hi', rfl⟩ := List.mem_map.mp hx
      have := (line_in h (hi i hi').2).2.1
      exact sm_int ⟨by omega, by omega⟩
  · exact sm_int ⟨by omega, by omega⟩
  · exact sm_int ⟨by omega, by omega⟩
  · exact sm_int ⟨by omega, by omega⟩
theorem bulk_intsA : ∀ l : List Int, PyData.bulkAll (l.map PyData.int) = l.length
  | [] => rfl
  | i :: l => by
    rw [List.map_cons, PyData.bulkAll.eq_2, bulk_intsA l]
    simp only [PyData.bulk.eq_7, List.length_cons]
    omega
theorem pl_wD (ls : List (Int × Int × Int)) (is : List Int) : pl 2 (wD ls is) := by
  intro d hd
  simp only [List.mem_cons, List.not_mem_nil, or_false] at hd
  rcases hd with rfl | rfl | rfl | rfl | rfl
  · exact pl_intsT is
  · exact pl_intsT _
  · simp [pl]
  · simp [pl]
  · simp [pl]
theorem bulk_wD (ls : List (Int × Int × Int)) (is : List Int) : (wD ls is).bulk = 5 + is.length + (stopsOf ls is).length := by
  show (PyData.list _).bulk = _
  rw [PyData.bulk.eq_2]
  simp only [PyData.bulkAll.eq_2, PyData.bulkAll.eq_1, PyData.bulk.eq_7, PyData.bulk.eq_3, bulk_intsA]
  omega
theorem stops_len (ls : List (Int × Int × Int)) (is : List Int) : (stopsOf ls is).length ≤ is.length + 1 := by
  unfold stopsOf
  rw [List.length_append, List.length_map, List.length_map, List.length_take]
  omega
theorem show_wD {c w : Int} {ns : List (Option Int)} {ls : List (Int × Int × Int)} {is : List Int} (h : DOK c ns ls w) (hw : 0 ≤ w ∧ w ≤ 1000000000) (hl : ls.length ≤ 1000) (hi : InR ls is) (hn : is.length ≤ 100) : (wD ls is).showable = true ∧ (wD ls is).shown.length ≤ sizeLine ∧ (wD ls is).depth ≤ 50 :=
  ⟨(sm_wD h hw hl hi hn).show_, sm_fits (sm_wD h hw hl hi hn) (by rw [bulk_wD]; have := stops_len ls is; omega), Nat.le_trans (pl_lay (pl_wD ls is)).2 (by decide)⟩
theorem show_wD2 {c w : Int} {ns : List (Option Int)} {ls : List (Int × Int × Int)} {is : List Int} (h : DOK c ns ls w) (hw : 0 ≤ w ∧ w ≤ 1000000000) (hl : ls.length ≤ 1000) (hi : InR ls is) (hn : is.length ≤ 100) : (PyData.list [wD ls is, wD ls is]).showable = true ∧ (PyData.list [wD ls is, wD ls is]).shown.length ≤ sizeLine ∧ (PyData.list [wD ls is, wD ls is]).depth ≤ 50 := by
  have s : Sm (.list [wD ls is, wD ls is]) := sm_lst fun d hd => by
    simp only [List.mem_cons, List.not_mem_nil, or_false] at hd
    rcases hd with rfl | rfl <;> exact sm_wD h hw hl hi hn
  have p : pl 3 (.list [wD ls is, wD ls is]) := by
    intro d hd
    simp only [List.mem_cons, List.not_mem_nil, or_false] at hd
    rcases hd with rfl | rfl <;> exact pl_wD ls is
  refine ⟨s.show_, sm_fits s ?_, Nat.le_trans (pl_lay p).2 (by decide)⟩
  rw [PyData.bulk.eq_2]
  simp only [PyData.bulkAll.eq_2, PyData.bulkAll.eq_1, bulk_wD, List.length_cons, List.length_nil]
  have := stops_len ls is
  omega
end WL
set_option Elab.async false
set_option linter.all false
set_option maxRecDepth 100000
set_option maxHeartbeats 4000000
namespace WL
open PySem PySem.Spec PyProof.Rows L2
/-! ### all but the drawn state and the tables stays -/
def Sb (m g : Addr) (H H2 : Hp) : Prop := ∀ b o, b ≠ m → b ≠ g → (∀ ps, o ≠ .tbl ps) → H b = some o → H2 b = some o
theorem Sb.refl {m g : Addr} {H : Hp} : Sb m g H H := fun b o _ _ _ h => h
theorem Sb.trans {m g : Addr} {H H1 H2 : Hp} (a : Sb m g H H1) (b : Sb m g H1 H2) : Sb m g H H2 := fun x o n1 n2 t h => b x o n1 n2 t (a x o n1 n2 t h)
theorem Sb.of {m g : Addr} {H H1 : Hp} (s : ∀ b o, H b = some o → H1 b = some o) : Sb m g H H1 := fun b o _ _ _ h => s b o h
theorem Sb.pr {m c g : Addr} {H H1 : Hp} {B : Int} (p : Pr m c g H H1 B) : Sb m g H H1 := fun b o n1 n2 _ h => p.but b o n1 n2 h
theorem Sb.out {m c g : Addr} {H H1 : Hp} {B : Int} (p : Pr m c g (noTab H) H1 B) : Sb m g H H1 := fun b o n1 n2 t h => p.but b o n1 n2 (noTab_at h t)
theorem Sb.tk {m c g : Addr} {H H1 : Hp} {n : Int} (s : Sb m g H H1) (d : Dr H m c g n) : Tk H H1 := fun b xs h => by
  obtain ⟨l, _, hg⟩ := d.great
  exact s b _ (fun z => by rw [z, d.dict] at h; cases h) (fun z => by rw [z, hg] at h; cases h) (fun ps z => nomatch z) h
theorem Sb.ik {m c g : Addr} {H H1 : Hp} {n : Int} (s : Sb m g H H1) (d : Dr H m c g n) : Ik H H1 := fun b C dx fs h => by
  obtain ⟨l, _, hg⟩ := d.great
  exact s b _ (fun z => by rw [z, d.dict] at h; cases h) (fun z => by rw [z, hg] at h; cases h) (fun ps z => nomatch z) h
/-- a walk and what it is to be read as, in a tuple -/
def Kp (DC WC : Addr) (G : Hp) (x : V) : Prop := ∃ (p sh : Addr) (one : V) (c wd : Int) (ns : List (Option Int)) (ls : List (Int × Int × Int)) (is : List Int), x = .ref p ∧ G p = some (.tup [one, .ref sh]) ∧ WkAt DC WC G one c ns ls is ∧ WRow G sh ls is ∧ DOK c ns ls wd ∧ (0 ≤ wd ∧ wd ≤ 1000000000) ∧ ls.length ≤ 60 ∧ WOK ls is ∧ is.length ≤ 6
theorem Kp.same {DC WC : Addr} {G G' : Hp} {x : V} (k : ∀ b o, G b = some o → G' b = some o) (h : Kp DC WC G x) : Kp DC WC G' x := by
  obtain ⟨p, sh, one, c, wd, ns, ls, is, a, b, d, e, f⟩ := h
  exact ⟨p, sh, one, c, wd, ns, ls, is, a, k _ _ b, d.same k, e.same k, f⟩
def KeptA (DC WC m c g L : Addr) (H' : Hp) (n : Nat) : Prop := ∃ (G : Hp) (items : List V), (∀ b o, G b = some o → H' b = some o ∧ (∀ ps, o ≠ .tbl ps) ∧ b ≠ m ∧ b ≠ g ∧ b ≠ L) ∧ (L ≠ m ∧ L ≠ c ∧ L ≠ g) ∧ H' L = some (.lst items) ∧ items.length ≤ n ∧ ∀ x ∈ items, Kp DC WC G x
theorem KeptA.step {DC WC m c g L : Addr} {H' H2 : Hp} {n : Nat} (h : KeptA DC WC m c g L H' n) (s : Sb m g H' H2) : KeptA DC WC m c g L H2 n := by
  obtain ⟨G, items, a, ⟨b1, b2, b3⟩, e, d, f⟩ := h
  exact ⟨G, items, fun b o h => ⟨s b o (a b o h).2.2.1 (a b o h).2.2.2.1 (a b o h).2.1 (a b o h).1, (a b o h).2⟩, ⟨b1, b2, b3⟩, s L _ b1 b3 (fun ps z => nomatch z) e, d, f⟩
theorem KeptA.le {DC WC m c g L : Addr} {H' : Hp} {n n' : Nat} (h : KeptA DC WC m c g L H' n) (k : n ≤ n') : KeptA DC WC m c g L H' n' := by
  obtain ⟨G, items, a, b, e, d, f⟩ := h
  exact ⟨G, items, a, b, e, by omega, f⟩
theorem KeptA.at_ {DC WC m c g L : Addr} {H' : Hp} {n : Nat} (h : KeptA DC WC m c g L H' n) : ∃ items, H' L = some (.lst items) := by
  obtain ⟨G, items, a, b, e, d, f⟩ := h
  exact ⟨items, e⟩
theorem KeptA.app {DC WC m c g L p sh : Addr} {H' : Hp} {n : Nat} {k : Int} {one : V} {cy wd : Int} {ns : List (Option Int)} {ls : List (Int × Int × Int)} {is : List Int} {Q : VK} (h : KeptA DC WC m c g L H' n) (hn : n ≤ 1000) (d : Dr H' m c g k) (hp : H' p = some (.tup [one, .ref sh])) (hW : WkAt DC WC H' one cy ns ls is) (hR : WRow H' sh ls is) (n1 : sh ≠ m) (n2 : sh ≠ g) (n3 : sh ≠ L)
    (ok : DOK cy ns ls wd) (hw : 0 ≤ wd ∧ wd ≤ 1000000000) (h60 : ls.length ≤ 60) (hok : WOK ls is) (hl : is.length ≤ 6) (q : ∀ H2, KeptA DC WC m c g L H2 (n + 1) → Dr H2 m c g k → Tk H' H2 → Ik H' H2 → (∀ T, LamX.Tabs T H' → LamX.Tabs T H2) → Q .non H2) : rAppend (.ref L) [.ref p] H' Q := by
  obtain ⟨G, items, a, ⟨b1, b2, b3⟩, f, e, z⟩ := h
  obtain ⟨l, hl0, hg⟩ := d.great
  have tkG : ∀ (b : Addr) (o : HO), b ≠ m → b ≠ g → b ≠ L → (∀ ps, o ≠ .tbl ps) → H' b = some o → (fun y => if y = m ∨ y = g ∨ y = L then none else noTab H' y : Hp) b = some o := fun b o m1 m2 m3 t h => by
    show (if b = m ∨ b = g ∨ b = L then none else noTab H' b) = some o
    rw [if_neg (by rintro (w | w | w) <;> contradiction)]
    exact noTab_at h t
  generalize hG : (fun y => if y = m ∨ y = g ∨ y = L then none else noTab H' y : Hp) = G' at tkG
  have tk : Tk H' G' := fun b xs h => tkG b _ (fun z => by rw [z, d.dict] at h; cases h) (fun z => by rw [z, hg] at h; cases h) (fun z => by rw [z, f] at h; cases h) (fun ps z => nomatch z) h
  have ik : Ik H' G' := fun b C dx fs h => tkG b _ (fun z => by rw [z, d.dict] at h; cases h) (fun z => by rw [z, hg] at h; cases h) (fun z => by rw [z, f] at h; cases h) (fun ps z => nomatch z) h
  have keepL : ∀ (b : Addr) (o : HO), b ≠ L → H' b = some o → upd H' L (.lst (items ++ [.ref p])) b = some o := fun b o nb h => by rw [upd_ne nb]; exact h
  refine g_app f (szl (by omega)) (q _ ⟨G', items ++ [.ref p], fun b o h => ?_, ⟨b1, b2, b3⟩, upd_same, by simp; omega, fun x hx => ?_⟩ (d.upd b1 b2 b3) (fun b xs h => keepL b _ (fun z => by rw [z, f] at h; cases h) h) (fun b C dx fs h => keepL b _ (fun z => by rw [z, f] at h; cases h) h) fun T t r hr => ?_)
  · rw [← hG] at h
    have h : (if b = m ∨ b = g ∨ b = L then none else noTab H' b) = some o := h
    by_cases w : b = m ∨ b = g ∨ b = L
    · rw [if_pos w] at h; cases h
    · rw [if_neg w] at h
      have w1 : b ≠ m := fun e => w (Or.inl e)
      have w2 : b ≠ g := fun e => w (Or.inr (Or.inl e))
      have w3 : b ≠ L := fun e => w (Or.inr (Or.inr e))
      exact ⟨keepL b _ w3 (noTab_of h).1, (noTab_of h).2, w1, w2, w3⟩
  · rcases List.mem_append.mp hx with h | h
    · refine (z x h).same fun b o h => ?_
      obtain ⟨k1, k2, k3, k4, k5⟩ := a b o h
      exact tkG b o k3 k4 k5 k2 k1
    · have ex : x = .ref p := by simpa using h
      subst ex
      obtain ⟨t, u, r1, r2, r3⟩ := hR
      exact ⟨p, sh, one, cy, wd, ns, ls, is, rfl, tk _ _ hp, hW.keep tk ik, ⟨t, u, tkG sh _ n1 n2 n3 (fun ps z => nomatch z) r1, tk _ _ r2, tk _ _ r3⟩, ok, hw, h60, hok, hl⟩
  · obtain ⟨ps, e, okT, hc⟩ := t r hr
    refine ⟨ps, keepL _ _ (fun z => by rw [z, f] at e; cases e) e, okT, fun pos cv hcv => ?_⟩
    obtain ⟨c', w1, w2⟩ := hc pos cv hcv
    exact ⟨c', w1, keepL _ _ (fun z => by rw [z, f] at w2; cases w2) w2⟩
end WL
set_option Elab.async false
set_option linter.all false
set_option maxRecDepth 100000
set_option maxHeartbeats 4000000
namespace WL
open PySem PySem.Spec PyProof.Rows L2
/-! ### two diaries joined: the pure side -/
def jfind (ps : List (Nat × Nat)) (k : Nat) : Option Nat := (ps.find? fun p => p.2 == k).map (·.1)
def jfree (ps : List (Nat × Nat)) (k : Nat) : Bool := (jfind ps k).isNone
def jnew (ps : List (Nat × Nat)) (m : Nat) : List Nat := (List.range m).filter (jfree ps)
def jnum (ps : List (Nat × Nat)) (n1 k : Nat) : Nat := (jfind ps k).getD (n1 + (jnew ps k).length)
structure JOK (ps : List (Nat × Nat)) (N1 N2 : List (Option Int)) : Prop where
  fst : ∀ p ∈ ps, p.1 < N1.length
  snd : ∀ p ∈ ps, p.2 < N2.length
  ndF : (ps.map (·.1)).Nodup
  ndS : (ps.map (·.2)).Nodup
  fit : ∀ p ∈ ps, N1.getD p.1 none = none ∨ N2.getD p.2 none = none ∨ N1.getD p.1 none = N2.getD p.2 none
def jfst (ps : List (Nat × Nat)) (N1 N2 : List (Option Int)) (t : Nat) : List (Option Int) := N1.mapIdx fun i x => match ps.find? (fun p => p.1 == i) with
  | some p => if p.2 < t ∧ N2.getD p.2 none ≠ none then N2.getD p.2 none else x
  | none => x
def jsnd (ps : List (Nat × Nat)) (N2 : List (Option Int)) (t : Nat) : List (Option Int) := (jnew ps N2.length).map fun k => if k < t then N2.getD k none else none
def jW (ps : List (Nat × Nat)) (N1 N2 : List (Option Int)) (t : Nat) : List (Option Int) := jfst ps N1 N2 t ++ jsnd ps N2 t
def joinN (ps : List (Nat × Nat)) (N1 N2 : List (Option Int)) : List (Option Int) := jW ps N1 N2 N2.length
theorem find_nd {f : Nat × Nat → Nat} : ∀ {ps : List (Nat × Nat)} {p : Nat × Nat}, (ps.map f).Nodup → p ∈ ps → ps.find? (fun q => f q == f p) = some p
  | q :: ps, p, nd, hp => by
    rw [List.map_cons, List.nodup_cons] at nd
    rcases List.mem_cons.mp hp with rfl | hp
    · simp
    · have ne : f q ≠ f p := fun e => nd.1 (e ▸ List.mem_map_of_mem hp)
      rw [List.find?_cons, beq_eq_false_iff_ne.mpr ne]
      exact find_nd nd.2 hp
theorem jfind_in {ps : List (Nat × Nat)} {p : Nat × Nat} (nd : (ps.map (·.2)).Nodup) (hp : p ∈ ps) : jfind ps p.2 = some p.1 := by
  unfold jfind
  rw [find_nd (f := (·.2)) nd hp]; rfl
theorem jfind_some {ps : List (Nat × Nat)} {k i : Nat} (h : jfind ps k = some i) : (i, k) ∈ ps := by
  unfold jfind at h
  cases e : ps.find? (fun p => p.2 == k) with
  | none => rw [e] at h; cases h
  | some p =>
    rw [e] at h
    cases h
    have z := List.find?_some e
    have z' : p.2 = k := by simpa using z
    subst z'
    exact List.mem_of_find?_eq_some e
theorem jfree_not {ps : List (Nat × Nat)} {k : Nat} (h : jfree ps k = true) : ∀ p ∈ ps, p.2 ≠ k := by
  intro p hp e
  unfold jfree jfind at h
  cases q : ps.find? (fun p => p.2 == k) with
  | none =>
    have z := List.find?_eq_none.mp q p hp
    exact z (by simp [e])
  | some x => rw [q] at h; cases h
theorem jfree_false {ps : List (Nat × Nat)} {k : Nat} (h : jfree ps k = false) : ∃ i, jfind ps k = some i := by
  unfold jfree at h
  cases q : jfind ps k with
  | none => rw [q] at h; cases h
  | some i => exact ⟨i, rfl⟩
theorem jnew_succ (ps : List (Nat × Nat)) (m : Nat) : jnew ps (m + 1) = jnew ps m ++ if jfree ps m then [m] else [] := by
  unfold jnew
  rw [List.range_succ, List.filter_append]
  congr 1
  by_cases h : jfree ps m <;> simp [h]
theorem jnew_le (ps : List (Nat × Nat)) : ∀ m, (jnew ps m).length ≤ m
  | 0 => by simp [jnew]
  | m + 1 => by
    have z := jnew_le ps m
    rw [jnew_succ, List.length_append]
    split <;> simp <;> omega
theorem jnew_at {ps : List (Nat × Nat)} {t : Nat} (h : jfree ps t = true) : ∀ {m : Nat}, t < m → (jnew ps m)[(jnew ps t).length]? = some t
  | m + 1, hm => by
    rw [jnew_succ]
    rcases Nat.lt_or_ge t m with q | q
    · have z := jnew_at h q
      have l := (List.getElem?_eq_some_iff.mp z).1
      rw [List.getElem?_append_left l]
      exact z
    · have e : t = m := by omega
      subst e
      rw [h, List.getElem?_append_right (Nat.le_refl _)]
      simp
theorem jnew_nd (ps : List (Nat × Nat)) (m : Nat) : (jnew ps m).Nodup := List.Pairwise.filter _ List.nodup_range
theorem jnew_mem {ps : List (Nat × Nat)} {m k : Nat} (h : k ∈ jnew ps m) : k < m ∧ jfree ps k = true := by
  have z := List.mem_filter.mp h
  exact ⟨List.mem_range.mp z.1, z.2⟩
theorem nd_inj {α : Type} {l : List α} (nd : l.Nodup) {i j : Nat} {hi : i < l.length} {hj : j < l.length} (e : l[i] = l[j]) : i = j := by
  have p := List.pairwise_iff_getElem.mp nd
  rcases Nat.lt_trichotomy i j with h | h | h
  · exact absurd e (p i j hi hj h)
  · exact h
  · exact absurd e.symm (p j i hj hi h)
theorem jnew_only {ps : List (Nat × Nat)} {t m j : Nat} (h : jfree ps t = true) (hm : t < m) (e : (jnew ps m)[j]? = some t) : j = (jnew ps t).length := by
  have a := jnew_at h hm
  obtain ⟨l1, e1⟩ := List.getElem?_eq_some_iff.mp e
  obtain ⟨l2, e2⟩ := List.getElem?_eq_some_iff.mp a
  exact nd_inj (jnew_nd ps m) (e1.trans e2.symm)

theorem jnew_len {ps : List (Nat × Nat)} {m : Nat} (nd : (ps.map (·.2)).Nodup) (hs : ∀ p ∈ ps, p.2 < m) : (jnew ps m).length + ps.length = m := by
  have p1 : ((List.range m).filter fun k => !(jfree ps k)).Perm (ps.map (·.2)) := by
    refine (List.perm_ext_iff_of_nodup (List.Pairwise.filter _ List.nodup_range) nd).mpr fun k => ?_
    rw [List.mem_filter, List.mem_range, List.mem_map]
    constructor
    · rintro ⟨h1, h2⟩
      obtain ⟨i, hi⟩ := jfree_false (by simpa using h2)
      exact ⟨_, jfind_some hi, rfl⟩
    · rintro ⟨p, hp, rfl⟩
      refine ⟨hs p hp, ?_⟩
      unfold jfree
      rw [jfind_in nd hp]; rfl
  have l1 := p1.length_eq
  rw [List.length_map] at l1
  have l2 : ∀ xs : List Nat, (xs.filter (jfree ps)).length + (xs.filter fun k => !(jfree ps k)).length = xs.length := by
    intro xs
    induction xs with
    | nil => rfl
    | cons x xs ih =>
      rw [List.filter_cons, List.filter_cons, List.length_cons]
      cases h : jfree ps x <;> simp <;> omega
  have z := l2 (List.range m)
  rw [List.length_range, l1] at z
  exact z
section
variable {ps : List (Nat × Nat)} {N1 N2 : List (Option Int)}
theorem jfst_len (t : Nat) : (jfst ps N1 N2 t).length = N1.length := by unfold jfst; rw [List.length_mapIdx]
theorem jsnd_len (t : Nat) : (jsnd ps N2 t).length = (jnew ps N2.length).length := by unfold jsnd; rw [List.length_map]
theorem jW_len (J : JOK ps N1 N2) (t : Nat) : (jW ps N1 N2 t).length = N1.length + (N2.length - ps.length) := by
  unfold jW
  rw [List.length_append, jfst_len, jsnd_len]
  have := jnew_len J.ndS J.snd
  omega
theorem jW_zero (J : JOK ps N1 N2) : jW ps N1 N2 0 = N1 ++ List.replicate (N2.length - ps.length) none := by
  have := jnew_len J.ndS J.snd
  unfold jW jfst jsnd
  congr 1
  · refine List.ext_getElem? fun i => ?_
    rw [List.getElem?_mapIdx]
    cases N1[i]? with
    | none => rfl
    | some x =>
      simp only [Option.map_some, Nat.not_lt_zero, false_and, if_false]
      split <;> rfl
  · have e : N2.length - ps.length = (jnew ps N2.length).length := by omega
    rw [e]
    simp [List.map_const']
theorem jnum_lt (J : JOK ps N1 N2) {t : Nat} (ht : t < N2.length) : jnum ps N1.length t < N1.length + (N2.length - ps.length) := by
  unfold jnum
  cases q : jfind ps t with
  | some i =>
    have := J.fst _ (jfind_some q)
    show i < _
    have z : i < N1.length := this
    omega
  | none =>
    have f : jfree ps t = true := by unfold jfree; rw [q]; rfl
    obtain ⟨l, _⟩ := List.getElem?_eq_some_iff.mp (jnew_at f ht)
    have := jnew_len J.ndS J.snd
    show N1.length + _ < _
    omega
theorem jsame {t : Nat} (h : ∀ p ∈ ps, p.2 = t → N2.getD p.2 none = none) : jfst ps N1 N2 (t + 1) = jfst ps N1 N2 t := by
  unfold jfst
  refine List.ext_getElem? fun i => ?_
  rw [List.getElem?_mapIdx, List.getElem?_mapIdx]
  cases N1[i]? with
  | none => rfl
  | some x =>
    rw [Option.map_some, Option.map_some]
    congr 1
    cases q : ps.find? (fun p => p.1 == i) with
    | none => rfl
    | some p =>
      have hp := List.mem_of_find?_eq_some q
      simp only
      by_cases e : p.2 = t
      · have z := h p hp e
        rw [if_neg (fun c => c.2 z), if_neg (fun c => c.2 z)]
      · have e2 : p.2 < t + 1 ↔ p.2 < t := by omega
        simp only [e2]
theorem jsame2 {t : Nat} (h : t < N2.length → jfree ps t = true → N2.getD t none = none) : jsnd ps N2 (t + 1) = jsnd ps N2 t := by
  unfold jsnd
  refine List.map_congr_left fun k hk => ?_
  obtain ⟨k1, k2⟩ := jnew_mem hk
  by_cases e : k = t
  · subst e
    have z := h k1 k2
    rw [if_neg (Nat.lt_irrefl k), z]
    simp
  · have e2 : k < t + 1 ↔ k < t := by omega
    simp only [e2]
theorem jW_none {t : Nat} (h : N2.getD t none = none) : jW ps N1 N2 (t + 1) = jW ps N1 N2 t := by
  unfold jW
  rw [jsame (fun p _ e => by rw [e]; exact h), jsame2 (fun _ _ => h)]
theorem jW_some (J : JOK ps N1 N2) {t : Nat} {d : Int} (ht : t < N2.length) (h : N2.getD t none = some d) : (jW ps N1 N2 t).set (jnum ps N1.length t) (some d) = jW ps N1 N2 (t + 1) := by
  unfold jW
  cases q : jfind ps t with
  | some i =>
    have hp := jfind_some q
    have hi : i < N1.length := J.fst _ hp
    have e : jnum ps N1.length t = i := by unfold jnum; rw [q]; rfl
    rw [e, List.set_append_left _ _ (by rw [jfst_len]; exact hi), jsame2 (N2 := N2) (t := t) (fun _ f => absurd rfl (jfree_not f _ hp))]
    congr 1
    unfold jfst
    refine List.ext_getElem? fun j => ?_
    rw [List.getElem?_set, List.length_mapIdx, List.getElem?_mapIdx, List.getElem?_mapIdx]
    by_cases ej : i = j
    · subst ej
      rw [if_pos rfl, if_pos hi, List.getElem?_eq_getElem hi, Option.map_some]
      have z : ps.find? (fun p => p.1 == i) = some (i, t) := find_nd (f := (·.1)) (p := (i, t)) J.ndF hp
      rw [z]
      have cc : t < t + 1 ∧ N2.getD t none ≠ none := ⟨Nat.lt_succ_self t, by rw [h]; exact fun z => by cases z⟩
      simp only
      rw [if_pos cc, h]
    · rw [if_neg ej]
      cases N1[j]? with
      | none => rfl
      | some x =>
        rw [Option.map_some, Option.map_some]
        congr 1
        cases q2 : ps.find? (fun p => p.1 == j) with
        | none => rfl
        | some p =>
          have hp2 := List.mem_of_find?_eq_some q2
          have e1 : p.1 = j := by simpa using List.find?_some q2
          have ne : p.2 ≠ t := fun e2 => by
            have z := jfind_in J.ndS hp2
            rw [e2, q] at z
            cases z
            exact ej e1
          have e3 : p.2 < t + 1 ↔ p.2 < t := by omega
          simp only [e3]
  | none =>
    have f : jfree ps t = true := by unfold jfree; rw [q]; rfl
    have e : jnum ps N1.length t = N1.length + (jnew ps t).length := by unfold jnum; rw [q]; rfl
    rw [e, List.set_append_right _ _ (by rw [jfst_len]; omega), jfst_len, Nat.add_sub_cancel_left, jsame (N1 := N1) (N2 := N2) (t := t) (fun p hp z => absurd z (jfree_not f p hp))]
    congr 1
    unfold jsnd
    refine List.ext_getElem? fun j => ?_
    rw [List.getElem?_set, List.length_map, List.getElem?_map, List.getElem?_map]
    have at_ := jnew_at f ht
    obtain ⟨l, _⟩ := List.getElem?_eq_some_iff.mp at_
    by_cases ej : (jnew ps t).length = j
    · subst ej
      rw [if_pos rfl, if_pos l, at_, Option.map_some, if_pos (Nat.lt_succ_self t), h]
    · rw [if_neg ej]
      cases q2 : (jnew ps N2.length)[j]? with
      | none => rfl
      | some k =>
        have ne : k ≠ t := fun e2 => by
          subst e2
          exact ej (jnew_only f ht q2).symm
        have e3 : k < t + 1 ↔ k < t := by omega
        simp only [Option.map_some, e3]
/-! the law's way -/
def jL (ps : List (Nat × Nat)) (N1 N2 : List (Option Int)) (j : Nat) : List (Option Int) := N1.mapIdx fun i x => match (ps.take j).find? (fun p => p.1 == i) with
  | some p => if x = none then N2.getD p.2 none else x
  | none => x
theorem jL_len (j : Nat) : (jL ps N1 N2 j).length = N1.length := by unfold jL; rw [List.length_mapIdx]
theorem jL_zero : jL ps N1 N2 0 = N1 := by
  unfold jL
  refine List.ext_getElem? fun i => ?_
  rw [List.getElem?_mapIdx]
  cases N1[i]? <;> simp
theorem take_find {j : Nat} {p : Nat × Nat} (J : JOK ps N1 N2) (hj : ps[j]? = some p) : (ps.take j).find? (fun q => q.1 == p.1) = none := by
  refine List.find?_eq_none.mpr fun q hq => ?_
  obtain ⟨i, hi, e⟩ := List.mem_take_iff_getElem.mp hq
  obtain ⟨l, e2⟩ := List.getElem?_eq_some_iff.mp hj
  intro z
  have z' : q.1 = p.1 := by simpa using z
  have a : (ps.map (·.1))[i]'(by rw [List.length_map]; omega) = (ps.map (·.1))[j]'(by rw [List.length_map]; omega) := by
    rw [List.getElem_map, List.getElem_map, e, e2, z']
  have := nd_inj J.ndF a
  omega
theorem jL_at (J : JOK ps N1 N2) {j : Nat} {p : Nat × Nat} (hj : ps[j]? = some p) : (jL ps N1 N2 j).getD p.1 none = N1.getD p.1 none := by
  have hi := J.fst _ (List.mem_of_getElem? hj)
  unfold jL
  rw [List.getD_eq_getElem?_getD, List.getD_eq_getElem?_getD, List.getElem?_mapIdx, List.getElem?_eq_getElem hi, Option.map_some, take_find J hj]
theorem jL_other {j : Nat} {p : Nat × Nat} (hj : ps[j]? = some p) {i : Nat} (ne : p.1 ≠ i) : (ps.take (j + 1)).find? (fun q => q.1 == i) = (ps.take j).find? (fun q => q.1 == i) := by
  obtain ⟨l, e⟩ := List.getElem?_eq_some_iff.mp hj
  rw [List.take_succ, hj, List.find?_append]
  cases (ps.take j).find? (fun q => q.1 == i) with
  | some x => rfl
  | none => simp [ne]
theorem jL_set (J : JOK ps N1 N2) {j : Nat} {p : Nat × Nat} (hj : ps[j]? = some p) (h : N1.getD p.1 none = none) : (jL ps N1 N2 j).set p.1 (N2.getD p.2 none) = jL ps N1 N2 (j + 1) := by
  have hi := J.fst _ (List.mem_of_getElem? hj)
  refine List.ext_getElem? fun i => ?_
  rw [List.getElem?_set, jL_len]
  by_cases e : p.1 = i
  · subst e
    rw [if_pos rfl, if_pos hi]
    unfold jL
    rw [List.getElem?_mapIdx, List.getElem?_eq_getElem hi, Option.map_some]
    have z : (ps.take (j + 1)).find? (fun q => q.1 == p.1) = some p := by
      rw [List.take_succ, hj, List.find?_append, take_find J hj]
      simp
    rw [List.getD_eq_getElem?_getD, List.getElem?_eq_getElem hi] at h
    have h' : N1[p.1] = none := h
    rw [z, h']
    simp
  · rw [if_neg e]
    unfold jL
    rw [List.getElem?_mapIdx, List.getElem?_mapIdx, jL_other hj e]
theorem jL_keep (J : JOK ps N1 N2) {j : Nat} {p : Nat × Nat} (hj : ps[j]? = some p) (h : N1.getD p.1 none ≠ none) : jL ps N1 N2 (j + 1) = jL ps N1 N2 j := by
  have hi := J.fst _ (List.mem_of_getElem? hj)
  refine List.ext_getElem? fun i => ?_
  unfold jL
  rw [List.getElem?_mapIdx, List.getElem?_mapIdx]
  by_cases e : p.1 = i
  · subst e
    rw [List.getElem?_eq_getElem hi, Option.map_some, Option.map_some]
    have z : (ps.take (j + 1)).find? (fun q => q.1 == p.1) = some p := by
      rw [List.take_succ, hj, List.find?_append, take_find J hj]
      simp
    rw [List.getD_eq_getElem?_getD, List.getElem?_eq_getElem hi] at h
    have h' : N1[p.1] ≠ none := h
    rw [z, take_find J hj]
    simp [h']
  · rw [jL_other hj e]
theorem jL_end (J : JOK ps N1 N2) : jL ps N1 N2 ps.length = jfst ps N1 N2 N2.length := by
  refine List.ext_getElem? fun i => ?_
  unfold jL jfst
  rw [List.getElem?_mapIdx, List.getElem?_mapIdx, List.take_length]
  cases q : N1[i]? with
  | none => rfl
  | some x =>
    rw [Option.map_some, Option.map_some]
    congr 1
    cases q2 : ps.find? (fun p => p.1 == i) with
    | none => rfl
    | some p =>
      have hp := List.mem_of_find?_eq_some q2
      have e1 : p.1 = i := by simpa using List.find?_some q2
      have f := J.fit p hp
      rw [e1, List.getD_eq_getElem?_getD, q] at f
      have f' : x = none ∨ N2.getD p.2 none = none ∨ x = N2.getD p.2 none := f
      have hs := J.snd p hp
      simp only [hs, true_and]
      by_cases h1 : x = none
      · subst h1
        by_cases h2 : N2.getD p.2 none = none
        · rw [if_pos rfl, if_neg (fun c => c h2), h2]
        · rw [if_pos rfl, if_pos h2]
      · rw [if_neg h1]
        by_cases h2 : N2.getD p.2 none = none
        · rw [if_neg (fun c => c h2)]
        · rw [if_pos h2]
          rcases f' with f | f | f
          · exact absurd f h1
          · exact absurd f h2
          · exact f
theorem jsnd_end : jsnd ps N2 N2.length = (jnew ps N2.length).map fun k => N2.getD k none := by
  unfold jsnd
  exact List.map_congr_left fun k hk => if_pos (jnew_mem hk).1
end
def jlines (ps : List (Nat × Nat)) (n1 : Nat) (ls : List (Int × Int × Int)) : List (Int × Int × Int) := ls.map fun l => ((jnum ps n1 l.1.toNat : Int), (jnum ps n1 l.2.1.toNat : Int), l.2.2)
theorem join_dok {c w : Int} {ps : List (Nat × Nat)} {N1 N2 : List (Option Int)} {L1 L2 : List (Int × Int × Int)} (J : JOK ps N1 N2) (a : DOK c N1 L1 w) (b : DOK c N2 L2 w) (h : N1.length + N2.length ≤ 16) : DOK c (joinN ps N1 N2) (L1 ++ jlines ps N1.length L2) w := by
  have len : (joinN ps N1 N2).length = N1.length + (N2.length - ps.length) := jW_len J _
  refine ⟨a.c2, a.c100, by rw [len]; have := a.n1; omega, by rw [len]; omega, fun i hi => ?_, fun l hl => ?_⟩
  · unfold joinN jW at hi
    rcases List.mem_append.mp hi with z | z
    · unfold jfst at z
      obtain ⟨j, hj, e⟩ := List.mem_mapIdx.mp z
      have m1 : N1[j] ∈ N1 := List.getElem_mem hj
      have m2 : ∀ {k : Nat}, N2.getD k none = some i → some i ∈ N2 := fun {k} e => by
        rw [List.getD_eq_getElem?_getD] at e
        cases q : N2[k]? with
        | none => rw [q] at e; cases e
        | some y =>
          rw [q] at e
          have e' : y = some i := e
          rw [← e']
          exact List.mem_of_getElem? q
      split at e
      · split at e
        · exact b.note i (m2 e)
        · rw [e] at m1; exact a.note i m1
      · rw [e] at m1; exact a.note i m1
    · rw [jsnd_end] at z
      obtain ⟨k, _, e⟩ := List.mem_map.mp z
      rw [List.getD_eq_getElem?_getD] at e
      cases q : N2[k]? with
      | none => rw [q] at e; cases e
      | some y =>
        rw [q] at e
        have e' : y = some i := e
        exact b.note i (by rw [← e']; exact List.mem_of_getElem? q)
  · rw [len]
    rcases List.mem_append.mp hl with z | z
    · obtain ⟨⟨x1, x2⟩, ⟨y1, y2⟩, z1, z2⟩ := a.line l z
      exact ⟨⟨x1, by omega⟩, ⟨y1, by omega⟩, z1, z2⟩
    · obtain ⟨r, hr, rfl⟩ := List.mem_map.mp z
      obtain ⟨⟨x1, x2⟩, ⟨y1, y2⟩, z1, z2⟩ := b.line r hr
      have j1 := jnum_lt J (t := r.1.toNat) (by omega)
      have j2 := jnum_lt J (t := r.2.1.toNat) (by omega)
      exact ⟨⟨by simp, by simp only; omega⟩, ⟨by simp, by simp only; omega⟩, z1, z2⟩
end WL
set_option Elab.async false
set_option linter.all false
set_option maxRecDepth 100000
set_option maxHeartbeats 4000000
namespace WL
open PySem PySem.Spec PyProof.Rows L2
/-! ### any of a list of truth values -/
def rAnyB (K : PySem.W.Frag) : List V → Hp → VK → Prop := fun xs H Q => ∃ (p : Addr) (bs : List Bool), xs = [.ref p] ∧ SqL K H p (bs.map V.bl) ∧ Q (.bl (bs.any id)) H
theorem call_anyB {X : Cx} (calm : X.calm = true) : CallR X (.builtin "any") (rAnyB X.K) := by
  intro pins s σ H xs us Q I r h
  obtain ⟨p, bs, rfl, hq, q⟩ := h
  obtain ⟨u, rfl, rx⟩ := vals1 r
  cases rx
  obtain ⟨its, rv, pl, _⟩ := I.list hq
  have len : its.length = bs.length := by rw [← rv.length, List.length_map]
  have low : p < s.heap.objs.size := by obtain ⟨_, e, _⟩ := pl.isList; exact Heap.lt_size e
  refine call_any_walk (wpAny_pyIter_list pl.isList ?_)
  refine ⟨s.heap.objs.size, [s.heap.objs.size, p], [s.heap.objs.size], its.toArray.size, _, _, fun i => (bs[i]?).getD false, rfl, Walks.list (A := X.A.in1) (I.ok.hd calm) _ p (Nat.ne_of_lt low) its.toArray, ⟨⟨_, Heap.get?_push_size _ rfl, rfl, rfl⟩, pl.isList.push _⟩, ?_, ?_⟩
  · intro i v s' Q' E' hP hQ
    obtain ⟨b, e, rfl⟩ := bools_at rv i v (by simpa using hP)
    simp only [e, Option.getD_some] at hQ
    exact wpAny_truthy_bool hQ
  · intro h' tk hk
    have e : ((List.range its.toArray.size).any fun i => (bs[i]?).getD false) = bs.any id := by
      rw [List.size_toArray, len]
      exact LSm.range_any bs
    rw [e]
    exact ⟨.bl (bs.any id), H, I.kept (t' := tk) (LSm.kept_iter hk), rfl, q⟩
theorem any_false (n : Nat) : (List.replicate n false).any id = false := by simp
/-! ### pairs of events -/
def pairD (p : Nat × Nat) : PyData := .tuple [.int p.1, .int p.2]
theorem fzs_pair {H : Hp} {vs : List V} {ps : List (Nat × Nat)} (h : Fzs H vs (ps.map pairD)) {j : Nat} (hj : j < ps.length) : ∃ t, vs[j]? = some (.ref t) ∧ H t = some (.tup [.int (ps[j].1 : Nat), .int (ps[j].2 : Nat)]) := by
  obtain ⟨v, e, z⟩ := h.get_d (i := j) (d := pairD ps[j]) (by rw [List.getElem?_map, List.getElem?_eq_getElem hj]; rfl)
  obtain ⟨a, xs, rfl, ha, hx⟩ := Fz.tup_inv z
  match xs, hx with
  | [x, y], .cons hx (.cons hy .nil) =>
    rw [Fz.int_inv hx, Fz.int_inv hy] at ha
    exact ⟨a, e, ha⟩
theorem fz_pair {H : Hp} {t : Addr} {p : Nat × Nat} (h : H t = some (.tup [.int (p.1 : Nat), .int (p.2 : Nat)])) : Fz H (.ref t) (pairD p) := .tup h (.cons (.int _) (.cons (.int _) .nil))
def spIsPair (K : PySem.W.Frag) (DC : Addr) : Sp := fun vs H Q _ => ∃ (v u : V) (t : Addr) (c1 c2 i j : Int) (n1 n2 : List (Option Int)) (l1 l2 : List (Int × Int × Int)), vs = [v, u, .ref t] ∧ DiaAt DC H v c1 n1 l1 ∧ DiaAt DC H u c2 n2 l2 ∧ H t = some (.tup [.int i, .int j]) ∧ n1.length ≤ 100 ∧ n2.length ≤ 100 ∧
  (0 ≤ i ∧ i < n1.length) ∧ (0 ≤ j ∧ j < n2.length) ∧ Q (.bl true) H
def spIsTaken (K : PySem.W.Frag) : Sp := fun vs H Q _ => ∃ (t u : Addr) (p : Nat × Nat) (ps : List (Nat × Nat)) (rows : List V), vs = [.ref t, .ref u] ∧ H t = some (.tup [.int (p.1 : Nat), .int (p.2 : Nat)]) ∧ H u = some (.tup rows) ∧ Fzs H rows (ps.map pairD) ∧ ps.length ≤ 1000 ∧
  (∀ q ∈ ps, q.1 ≠ p.1 ∧ q.2 ≠ p.2) ∧ ∀ H', (∀ b o, H b = some o → H' b = some o) → Q (.bl false) H'
def spNeedPairs (DC : Addr) : Sp := fun vs H Q _ => ∃ (v u : V) (t : Addr) (c1 c2 : Int) (n1 n2 : List (Option Int)) (l1 l2 : List (Int × Int × Int)) (ps : List (Nat × Nat)) (rows : List V), vs = [v, u, .ref t] ∧ DiaAt DC H v c1 n1 l1 ∧ DiaAt DC H u c2 n2 l2 ∧ H t = some (.tup rows) ∧ Fzs H rows (ps.map pairD) ∧ n1.length ≤ 100 ∧ n2.length ≤ 100 ∧ ps.length ≤ 1000 ∧ JOK ps n1 n2 ∧
  ∀ H', (∀ b o, H b = some o → H' b = some o) → Q .non H'
def spNewNums (DC : Addr) : Sp := fun vs H Q _ => ∃ (v u : V) (t : Addr) (c1 c2 : Int) (n1 n2 : List (Option Int)) (l1 l2 : List (Int × Int × Int)) (ps : List (Nat × Nat)) (rows : List V), vs = [v, u, .ref t] ∧ DiaAt DC H v c1 n1 l1 ∧ DiaAt DC H u c2 n2 l2 ∧ H t = some (.tup rows) ∧ Fzs H rows (ps.map pairD) ∧ n1.length ≤ 100 ∧ n2.length ≤ 100 ∧ ps.length ≤ 1000 ∧ JOK ps n1 n2 ∧
  ∀ (p : Addr) (H' : Hp), H p = none → H' p = some (.lst ((List.range n2.length).map fun k => V.int (jnum ps n1.length k : Nat))) → (∀ b o, H b = some o → H' b = some o) → Q (.ref p) H'
theorem cut_takeV {xs : List V} {i : Nat} : cutV xs none (some (i : Int)) = xs.take i := by rw [cut_take xs (by omega)]; simp
theorem earlier_ne {ps : List (Nat × Nat)} {n1 n2 : List (Option Int)} (J : JOK ps n1 n2) {i : Nat} (hi : i < ps.length) : ∀ q ∈ ps.take i, q.1 ≠ ps[i].1 ∧ q.2 ≠ ps[i].2 := by
  intro q hq
  obtain ⟨j, hj, e⟩ := List.mem_take_iff_getElem.mp hq
  constructor
  · intro z
    have a : (ps.map (·.1))[j]'(by rw [List.length_map]; omega) = (ps.map (·.1))[i]'(by rw [List.length_map]; omega) := by
      rw [List.getElem_map, List.getElem_map, e, z]
    have := nd_inj J.ndF a
    omega
  · intro z
    have a : (ps.map (·.2))[j]'(by rw [List.length_map]; omega) = (ps.map (·.2))[i]'(by rw [List.length_map]; omega) := by
      rw [List.getElem_map, List.getElem_map, e, z]
    have := nd_inj J.ndS a
    omega
/-- the dict of the pairs, so far -/
def PairsD (ps : List (Nat × Nat)) (kvs : List (Key × V)) : Prop := kvs.length ≤ ps.length ∧ ∀ k : Nat, valV kvs (Sum.inl (k : Int)) = (jfind ps k).map fun i => V.int (i : Nat)
theorem pairsD_nil : PairsD [] [] := ⟨Nat.le_refl _, fun _ => rfl⟩
theorem jfind_append {ps : List (Nat × Nat)} {p : Nat × Nat} (hne : ∀ q ∈ ps, q.2 ≠ p.2) (k : Nat) : jfind (ps ++ [p]) k = if k = p.2 then some p.1 else jfind ps k := by
  unfold jfind
  rw [List.find?_append]
  by_cases e : k = p.2
  · subst e
    have z : ps.find? (fun q => q.2 == p.2) = none := List.find?_eq_none.mpr fun q hq h => hne q hq (by simpa using h)
    rw [if_pos rfl, z]
    simp
  · rw [if_neg e]
    cases ps.find? (fun q => q.2 == k) with
    | some x => rfl
    | none => simp [Ne.symm e]
theorem PairsD.put {ps : List (Nat × Nat)} {kvs : List (Key × V)} {p : Nat × Nat} (h : PairsD ps kvs) (hne : ∀ q ∈ ps, q.2 ≠ p.2) : PairsD (ps ++ [p]) (putK kvs (Sum.inl (p.2 : Int)) (.int (p.1 : Nat))) := by
  refine ⟨by have := length_putK kvs (Sum.inl (p.2 : Int) : Key) (.int (p.1 : Nat)); have := h.1; rw [List.length_append]; simp; omega, fun k => ?_⟩
  rw [valV_put, jfind_append hne, h.2 k]
  by_cases e : k = p.2
  · subst e
    simp
  · rw [if_neg e, if_neg (fun z => e (by injection z with z; exact Int.ofNat_inj.mp z))]
/-! ### dict comprehensions, dicts of numbers -/
def DcQ (g : TG) (tt : TT) (tk tv : TE) (vs : List Nat) (σ : L2.St) (Q : VK) (J : It) (H1 : Hp) : Prop := ∀ D, H1 D = none → ∃ W : Nat → Nat → Hp → Prop, (∃ m, W 0 m (upd H1 D (.dK []))) ∧ ∀ i m H, W i m H →
  (J.stop i H ∧ Q (.ref D) H) ∨ (J.go i H ∧ ∃ Nx : Hp → Prop, (∀ H', Nx H' → ∃ m', m' < m ∧ W (i + 1) m' H') ∧ ∀ x H', J.yld i H x H' → g x (wipe σ vs) H' fun σ2 H2 => wipe σ2 vs = wipe σ vs ∧ tt σ2 H2 fun b H3 =>
    if b = true then tk σ2 H3 fun y H4 => tv σ2 H4 fun z H5 => ∃ kvs k, y = kV k ∧ H5 D = some (.dK kvs) ∧ kvs.length < sizeLine ∧ Nx (upd H5 D (.dK (putK kvs k z))) else Nx H3)
theorem g_dc {wi : TI} {g : TG} {tt : TT} {tk tv : TE} {vs : List Nat} {σ : L2.St} {H : Hp} {Q : VK} (h : wi σ H (DcQ g tt tk tv vs σ Q)) : tDc wi g tt tk tv vs σ H Q := h
theorem DcQ.tup {K : PySem.W.Frag} {g : TG} {tt : TT} {tk tv : TE} {vs : List Nat} {σ : L2.St} {Q : VK} {H1 : Hp} {a : Addr} {xs : List V} (I : Addr → Nat → Hp → Prop) (h0 : ∀ D, H1 D = none → I D 0 (upd H1 D (.dK [])))
    (hl : ∀ D, H1 D = none → ∀ i H, i ≤ xs.length → I D i H → SqT K H a xs)
    (hs : ∀ D, H1 D = none → ∀ (i : Nat) x H, xs[i]? = some x → I D i H → g x (wipe σ vs) H fun σ2 H2 => wipe σ2 vs = wipe σ vs ∧ tt σ2 H2 fun b H3 => if b = true then tk σ2 H3 fun y H4 => tv σ2 H4 fun z H5 => ∃ kvs k, y = kV k ∧ H5 D = some (.dK kvs) ∧ kvs.length < sizeLine ∧ I D (i + 1) (upd H5 D (.dK (putK kvs k z))) else I D (i + 1) H3)
    (hd : ∀ D, H1 D = none → ∀ H, I D xs.length H → Q (.ref D) H) : DcQ g tt tk tv vs σ Q (Itt K a) H1 :=
  fun D nD => dc_tup (I D) (h0 D nD) (hl D nD) (hs D nD) (hd D nD)
theorem g_din {ty td : TE} {σ : L2.St} {H : Hp} {Q : VK} (h : ty σ H fun y H1 => td σ H1 fun x H2 => ∃ a o, x = .ref a ∧ DGet H2 a y o ∧ Q (.bl o.isSome) H2) : tDIn ty td σ H Q := h
theorem g_dnin {ty td : TE} {σ : L2.St} {H : Hp} {Q : VK} (h : ty σ H fun y H1 => td σ H1 fun x H2 => ∃ a o, x = .ref a ∧ DGet H2 a y o ∧ Q (.bl (!o.isSome)) H2) : tDNotIn ty td σ H Q := h
theorem dget_int {H : Hp} {a : Addr} {kvs : List (Key × V)} {k : Nat} (e : H a = some (.dK kvs)) : DGet H a (.int (k : Int)) (valV kvs (Sum.inl (k : Int))) := DGet.k (k := Sum.inl (k : Int)) e
theorem dput_int {H : Hp} {a : Addr} {kvs : List (Key × V)} {k : Nat} {v : V} (e : H a = some (.dK kvs)) (h : kvs.length < sizeLine) : DPut H a (.int (k : Int)) v (upd H a (.dK (putK kvs (Sum.inl (k : Int)) v))) := DPut.k (k := Sum.inl (k : Int)) e h
theorem g_aug {i : Nat} {te : TE} {ti : V → V → Hp → VK → Prop} {D : Ends} {σ : L2.St} {H : Hp} (h : ∃ x, σ[i]? = some (some x) ∧ te σ H fun y H1 => ti x y H1 fun z H2 => D.nx (σ.set i (some z)) H2) : tAug i te ti D σ H := h
/-- a local is given a new dict, on one line -/
theorem ps_setDc {X : Cx} {n : Nat} {x : Str} {xp dp ap : Pos} {ek ev g0 walked : Expr} {cs : List Expr} {sc : Scope} {mine : List (Str × Nat)} {wi : TI} {g : TG} {tt : TT} {tk tv : TE} (calm : X.calm = true) (nd : X.N.Nodup) (at_ : X.N[n]? = some x) (loc : X.env.scope.names.lookup x = some .local)
    (sw : swapsWith (.DictComp ek ev [⟨g0, walked, cs, 0⟩] sc dp) (some (.Name x xp)) ap.line X.env = pure true) (pi : PI X g0 walked wi) (blk : BlkOk X.N X.env.scope sc mine)
    (pg : ∀ s H C cl fp, PG (X.blk s H sc (compEnvC sc cl C X.env) fp) g0 g) (pt : ∀ s H C cl fp, PTs (X.blk s H sc (compEnvC sc cl C X.env) fp) cs tt)
    (pk : ∀ s H C cl fp, PE (X.blk s H sc (compEnvC sc cl C X.env) fp) ek tk) (pv : ∀ s H C cl fp, PE (X.blk s H sc (compEnvC sc cl C X.env) fp) ev tv) (fold : ∀ u, foldedSetIterable walked X.env u = pure u := by intro _; rfl) :
    PS X (.Assign [.Name x xp] (.DictComp ek ev [⟨g0, walked, cs, 0⟩] sc dp) ap) (tAsg (tDc wi g tt tk tv (mine.map (·.2))) (gName n)) := by
  constructor
  intro pins s σ H D I w0
  have w1 : tDc wi g tt tk tv (mine.map (·.2)) σ H (fun y H1 => gName n y σ H1 D.nx) := w0
  rw [exec_Assign_Name_used _ _ _ _ sw]
  refine wpAny_bind (wpAny_standAt (wpAny_bind ?_))
  show wpAny _ X.A (do
    let _ ← comprehension (.DictComp ek ev [⟨g0, walked, cs, 0⟩] sc dp) sc X.env (firstIterPos [⟨g0, walked, cs, 0⟩] dp) newDict false (eval walked X.env) (some (assign (.Name x xp) X.env))) _ _ s
  have end_ : ∀ (B : Value) (s' : Shared), SP X pins D .next s' → wpAny (model X.prog X.w) X.A (pure Flow.next) (SP X pins D) X.xe s' := fun _ _ z => wpAny_pure z
  refine wpAny_bind (thn (dc_core (Qf := fun _ s2 => SP X pins D .next s2) calm nd I pi blk pg pt pk pv fold w1 fun B C s2 m H2 I2 q ns fp => ?_) fun _ _ z => wpAny_pure (wpAny_pure z))
  obtain ⟨p0, p1, p2, p3, p4, p5⟩ := fp
  show wpAny _ _ (assign (.Name x xp) X.env (.ref B)) _ _ _
  refine wpAny_assign_Name (store_ok2 (v := V.ref B) I2 nd at_ (.inl loc) rfl (fun s3 I3 ⟨a, but, wh⟩ => ?_) (.inr loc))
  have ne : C ≠ a := by
    cases wh with
    | inl z => rw [z]; exact p1
    | inr z => exact fun e => p4 x a z e.symm
  exact ⟨m, ns.sameBut but ne, fun h4 but4 => ⟨_, H2, I3.turned (t' := s3.toks) (fun b o hb e => (but4.2 b hb).trans e) p0 p1 p3 p4 p5, q⟩⟩
theorem swD_true {ek ev : Expr} {gs : List Comprehension} {sc : Scope} {dp xp : Pos} {x : Str} {l : Nat} {env : Env} (fn : env.scope.kind = .function) (loc : env.scope.names.lookup x = some .local) (line : (xp.line == dp.line) = true)
    (no : (sc.names.any fun q => q.1 == x && (q.2 == .local || q.2 == .cell)) = false) : swapsWith (.DictComp ek ev gs sc dp) (some (.Name x xp)) l env = pure true := by
  have k1 : env.kindOf x = some .local := loc
  have k2 : env.blockKind = .function := by
    unfold Env.blockKind
    rw [fn]; rfl
  unfold swapsWith
  simp only [k2, k1, no, Expr.pos, line]
  rfl
end WL
set_option Elab.async false
set_option linter.all false
set_option maxRecDepth 100000
set_option maxHeartbeats 4000000
namespace WL
open PySem PySem.Spec PyProof.Rows L2
/-! ### zip of a list and a tuple of one length -/
def IzM (K : PySem.W.Frag) (a b : Addr) (xs ys : List V) : It where
  go := fun i H => SqL K H a xs ∧ SqT K H b ys ∧ i < xs.length ∧ i < ys.length
  yld := fun i H v H' => ∃ T x y, v = .ref T ∧ H T = none ∧ H' = upd H T (.tup [x, y]) ∧ xs[i]? = some x ∧ ys[i]? = some y
  stop := fun i H => SqL K H a xs ∧ SqT K H b ys ∧ i = xs.length ∧ i = ys.length
def iZipM (K : PySem.W.Frag) (ta : TA) : TI := fun σ H R => ta σ H fun vs H1 => ∃ a b xs ys, vs = [.ref a, .ref b] ∧ SqL K H1 a xs ∧ SqT K H1 b ys ∧ R (IzM K a b xs ys) H1
abbrev ZMs (a b z TI TO i1 i2 : Addr) (i : Nat) (h : Heap) : Prop := (IsZip h z TI TO .none ∧ IsTupOf2 h TI (.ref i1) (.ref i2) ∧ ∃ u v, IsTupOf2 h TO u v) ∧ h.IsListIter i1 a i ∧ h.IsTupleIter i2 b i
theorem turn_zipM {P : Program} {w : World} {K : PySem.W.Frag} {elts : List Expr} {kk : Nat} {tpos : Pos} {a b z TI TO i1 i2 : Addr} (xs ys : List V) (S : ZipSep2 z TI TO i1 i2 [i1, a] [i2, b]) (na : a ≠ i1) (nb : b ≠ i2) :
    Turn P w K (.Tuple elts kk tpos) (IzM K a b xs ys) [z, TI, TO, i1, i2] z (ZMs a b z TI TO i1 i2) where
  mem := List.mem_cons_self
  obj := by
    rintro i h ⟨⟨hz, hT, u, v, hO⟩, ⟨o1, e1, _, d1⟩, ⟨o2, e2, _, d2⟩⟩ c hc
    simp only [List.mem_cons, List.not_mem_nil, or_false] at hc
    rcases hc with rfl | rfl | rfl | rfl | rfl
    · exact ⟨_, hz, fun _ q => by cases q⟩
    · exact ⟨_, hT, fun _ q => by cases q⟩
    · exact ⟨_, hO, fun _ q => by cases q⟩
    · exact ⟨o1, e1, fun _ q => by rw [d1] at q; cases q⟩
    · exact ⟨o2, e2, fun _ q => by rw [d2] at q; cases q⟩
  keep := by
    rintro i h h' ⟨⟨hz, hT, u, v, hO⟩, q1, q2⟩ k
    exact ⟨⟨k z (by simp) _ hz, k TI (by simp) _ hT, u, v, k TO (by simp) _ hO⟩, Heap.IsListIter.at q1 (fun o q => k i1 (by simp) o q), Heap.IsTupleIter.at q2 (fun o q => k i2 (by simp) o q)⟩
  item := by
    intro X hP hw hK hc i pins s σ H E I hf st hg
    subst hP; subst hw; subst hK
    obtain ⟨⟨hz, hT, u0, v0, hO⟩, q1, q2⟩ := st
    obtain ⟨sx, sy, l1, l2⟩ := hg
    obtain ⟨us, ru, pu, _⟩ := Inv.list I sx
    obtain ⟨vs, rv, pv, _⟩ := Inv.tuple I sy
    obtain ⟨u, hu, ru1⟩ := Vals.get ru (i := i) (x := xs[i]) (List.getElem?_eq_getElem l1)
    obtain ⟨v, hv, rv1⟩ := Vals.get rv (i := i) (x := ys[i]) (List.getElem?_eq_getElem l2)
    have n1 := ru.length
    have n2 := rv.length
    have hh : X.A.in1.handled = none := I.ok.hd hc
    refine wpAny_pyNext_zipD2_item S (Draws.list (A := X.A.in1) hh i1 a na us.toArray) (Draws.tuple (A := X.A.in1) hh i2 b nb vs.toArray) hz hT hO ⟨q1, pu.isList⟩ ⟨q2, pv⟩ (by simp only [List.size_toArray]; omega) (by simp only [List.size_toArray]; omega) fun x1 x2 h' tk y1 y2 z' O' st1 st2 new hsz hk => ?_
    have e1 : x1 = u := by
      have z : us[i]? = some x1 := by simpa using y1
      rw [hu] at z
      exact (Option.some.inj z).symm
    have e2 : x2 = v := by
      have z : vs[i]? = some x2 := by simpa using y2
      rw [hv] at z
      exact (Option.some.inj z).symm
    subst e1; subst e2
    have low : ∀ {c : Addr} {o : Obj}, s.heap.get? c = some o → c < s.heap.objs.size := fun e => Heap.lt_size e
    have zl := low hz
    refine ⟨_, rfl, wpAny_letOwnedTupleGo_zip (s := { s with heap := h', toks := tk }) z' fun h2 z2 but => ?_⟩
    have new2 := (but.2 s.heap.objs.size (Nat.ne_of_gt zl)).trans new
    have I1 := Inv.turnedNew (h' := h2) (ch := [z, TI, TO, i1, i2]) (T := s.heap.objs.size) (ob := .tup [xs[i], ys[i]]) (t' := tk) I
      (fun c o hb q => (but.2 c (fun z => hb (by simp [z]))).trans (hk c o (fun z => hb (by simp [z])) (fun z => hb (by simp [z])) (fun z => hb (by simp [z])) (fun z => hb (by simp [z])) q)) hf (Nat.le_refl _)
      ⟨sz (by simp), [x1, x2], .cons ru1 (.cons rv1 .nil), _, new2, rfl, 0, rfl⟩
    refine ⟨.ref s.heap.objs.size, _, I1, rfl, ⟨_, _, _, rfl, HOk.fresh I.hok (Nat.le_refl _), rfl, List.getElem?_eq_getElem l1, List.getElem?_eq_getElem l2⟩, ⟨⟨z2, ?_, x1, x2, ?_⟩, ?_, ?_⟩, fun c hc' => ?_⟩
    · exact (but.2 TI S.TIz).trans (hk TI _ S.TIz S.TITO S.TIi1 S.TIi2 hT)
    · exact (but.2 TO S.TOz).trans O'
    · exact Heap.IsListIter.at st1.1 (fun o q => (but.2 i1 (Ne.symm S.zi1)).trans q)
    · exact Heap.IsTupleIter.at st2.1 (fun o q => (but.2 i2 (Ne.symm S.zi2)).trans q)
    · have lt : c < s.heap.objs.size := by
        simp only [List.mem_cons, List.not_mem_nil, or_false] at hc'
        rcases hc' with rfl | rfl | rfl | rfl | rfl
        · exact zl
        · exact low hT
        · exact low hO
        · obtain ⟨_, e, _⟩ := q1; exact low e
        · obtain ⟨_, e, _⟩ := q2; exact low e
      rw [upd_ne (Nat.ne_of_lt lt)]
      exact (hf c hc').1
  done := by
    intro X hP hw hK hc i pins s σ H E I hf st hg
    subst hP; subst hw; subst hK
    obtain ⟨⟨hz, hT, u0, v0, hO⟩, q1, q2⟩ := st
    obtain ⟨sx, sy, l1, l2⟩ := hg
    obtain ⟨us, ru, pu, _⟩ := Inv.list I sx
    obtain ⟨vs, rv, pv, _⟩ := Inv.tuple I sy
    have n1 := ru.length
    have n2 := rv.length
    have hh : X.A.in1.handled = none := I.ok.hd hc
    refine wpAny_pyNext_zipD2_end S (Draws.list (A := X.A.in1) hh i1 a na us.toArray) (Draws.tuple (A := X.A.in1) hh i2 b nb vs.toArray) hz hT hO ⟨q1, pu.isList⟩ ⟨q2, pv⟩ (by simp only [List.size_toArray]; omega) (by simp only [List.size_toArray]; omega) (by simp only [List.size_toArray]; omega) fun h' tk hk => ⟨rfl, ?_⟩
    exact Inv.turnedL (t' := tk) (ch := [z, TI, TO, i1, i2]) I (fun c o hb q => hk c o (fun z => hb (by simp [z])) (fun z => hb (by simp [z])) (fun z => hb (by simp [z])) (fun z => hb (by simp [z])) q) hf
  self := by
    rintro A i s Q E ⟨⟨hz, _⟩, _⟩ h
    exact wpAny_pyIter_zip hz h
theorem pi_zipM {X : Cx} {e e2 : Expr} {ta : TA} {p pos tpos : Pos} {elts : List Expr} {kk : Nat} (gl : Gl X "zip") (no : X.mg "zip" = none) (ha : PA X [e, e2] ta)
    (h1 : starEach [e, e2] X.env = (false, eval e X.env) :: starEach [e2] X.env := by rfl) (h2 : (backTo pos (starEach [e2] X.env)).any (·.1) = false := by rfl) :
    PI X (.Tuple elts kk tpos) (.Call (.Name "zip" p) [e, e2] [] pos) (iZipM X.K ta) := by
  constructor
  intro pins s σ H R I w
  refine PyProof.Rows.Call_ (ld_blt I gl no PyProof.Rows.boot_zip (PyProof.Rows.callWith_type1 (thn (ha.run pos pins s σ H _ I w) ?_) h1 h2))
  rintro us s1 ⟨vs, H1, I1, r, a, b, xs, ys, rfl, sx, sy, q⟩
  obtain ⟨u1, t1, rfl, r1, r⟩ : ∃ u t, us = u :: t ∧ RelV (.ref a) u ∧ Vals [.ref b] t := by
    cases r with
    | cons r1 r2 => exact ⟨_, _, rfl, r1, r2⟩
  obtain ⟨u2, rfl, r2⟩ := Vals.one r
  cases r1
  cases r2
  obtain ⟨its, ru, pu, _⟩ := Inv.list I1 sx
  obtain ⟨jts, rv, pv, _⟩ := Inv.tuple I1 sy
  have la : a < s1.heap.objs.size := by obtain ⟨_, e, _⟩ := pu.isList; exact Heap.lt_size e
  have lb : b < s1.heap.objs.size := by obtain ⟨_, e, _⟩ := id pv; exact Heap.lt_size e
  refine zip_begins2 (begins_list a its.toArray) (begins_tuple b jts.toArray) pu.isList pv fun h' hz hT hO g1 g2 hsz hk => wpAny_pyIter_zip hz ?_
  generalize hn : s1.heap.objs.size = n at *
  have I2 := Inv.kept (t' := s1.toks) I1 hk
  have Z := PySem.W.ktu_apart n a b la lb
  have two : ∀ {c d e : Addr}, c ≠ d → c ≠ e → c ∉ [d, e] := fun x y m => by
    rcases List.mem_cons.mp m with z | m
    · exact x z
    · exact y (List.mem_singleton.mp m)
  have S : ZipSep2 (n + 4) (n + 2) (n + 3) n (n + 1) [n, a] [n + 1, b] :=
    ⟨Z.TIz, Z.TOz, Z.TITO, Z.TIi1, List.mem_cons_self, two (Ne.symm Z.i1z) (Ne.symm Z.l1z), two Z.TOi1 (Ne.symm Z.l1TO), Z.TIi2, List.mem_cons_self, two (Ne.symm Z.i2z) (Ne.symm Z.l2z), two Z.TOi2 (Ne.symm Z.l2TO), two Z.i12 (Ne.symm Z.l2i1), two (Ne.symm Z.i12) (Ne.symm Z.l1i2)⟩
  refine ⟨_, [n + 4, n + 2, n + 3, n, n + 1], _, IzM X.K a b xs ys, H1, rfl, I2, turn_zipM xs ys S Z.l1i1 Z.l2i2, ⟨⟨hz, hT, _, _, hO⟩, ⟨_, g1, rfl, rfl⟩, ⟨_, g2, rfl, rfl⟩⟩, fun c hc => ?_, q⟩
  have hle : s1.heap.objs.size ≤ c := by
    simp only [List.mem_cons, List.not_mem_nil, or_false] at hc
    rw [hn]
    rcases hc with e | e | e | e | e <;> rw [e]
    · exact Nat.le_add_right n 4
    · exact Nat.le_add_right n 2
    · exact Nat.le_add_right n 3
    · exact Nat.le_refl n
    · exact Nat.le_add_right n 1
  exact Inv.fpOk I1 hle (HOk.fresh I1.hok hle)
theorem g_zipM {K : PySem.W.Frag} {σ : L2.St} {H : Hp} {ta : TA} {R : It → Hp → Prop} (h : ta σ H fun vs H1 => ∃ a b xs ys, vs = [.ref a, .ref b] ∧ SqL K H1 a xs ∧ SqT K H1 b ys ∧ R (IzM K a b xs ys) H1) : iZipM K ta σ H R := h
theorem ForQ.zipM {K : PySem.W.Frag} {g : TG} {tb : TS} {D : Ends} {σ : L2.St} {H1 : Hp} {a b : Addr} {xs ys : List V} (len : xs.length = ys.length) (I : Nat → L2.St → Hp → Prop) (h0 : I 0 σ H1) (hq : ∀ i σ H, I i σ H → SqL K H a xs ∧ SqT K H b ys)
    (hs : ∀ (i : Nat) (x y : V) (T : Addr) (σ : L2.St) (H : Hp), xs[i]? = some x → ys[i]? = some y → I i σ H → H T = none → g (.ref T) σ (upd H T (.tup [x, y])) fun σ2 H2 => tb { D with nx := I (i + 1), ct := I (i + 1), bk := D.nx } σ2 H2) (hd : ∀ σ H, I xs.length σ H → D.nx σ H) : ForQ g tb D σ (IzM K a b xs ys) H1 := by
  refine ⟨fun i m σ H => i ≤ xs.length ∧ m = xs.length - i ∧ I i σ H, ⟨_, Nat.zero_le _, rfl, h0⟩, ?_⟩
  intro i m σ H ⟨hi, hm, hp⟩
  obtain ⟨sx, sy⟩ := hq i σ H hp
  by_cases e : i = xs.length
  · subst e
    exact Or.inl ⟨⟨sx, sy, rfl, len⟩, hd _ _ hp⟩
  · have hlt : i < xs.length := by omega
    refine Or.inr ⟨⟨sx, sy, hlt, by omega⟩, I (i + 1), fun σ' H' h => ⟨xs.length - (i + 1), by omega, by omega, rfl, h⟩, ?_⟩
    intro v H' hy
    obtain ⟨T, x, y, e1, hT, e2, hx, hy'⟩ := hy
    subst e1; subst e2
    exact hs i x y T σ H hx hy' hp hT
/-! ### joined, what it promises -/
def spJoined (DC : Addr) : Sp := fun vs H Q _ => ∃ (v u : V) (rest : List V) (c w : Int) (n1 n2 : List (Option Int)) (l1 l2 : List (Int × Int × Int)) (ps : List (Nat × Nat)), vs = v :: u :: rest ∧ DiaAt DC H v c n1 l1 ∧ DiaAt DC H u c n2 l2 ∧ Fzs H rest (ps.map pairD) ∧ ps.length ≤ 1000 ∧ JOK ps n1 n2 ∧
  DOK c n1 l1 w ∧ DOK c n2 l2 w ∧ n1.length + n2.length ≤ 16 ∧ l1.length + l2.length ≤ 60 ∧ w ≤ 1000000000 ∧ ∀ (x : Addr) (H' : Hp), H x = none → DiaAt DC H' (.ref x) c (joinN ps n1 n2) (l1 ++ jlines ps n1.length l2) → (∀ b o, H b = some o → H' b = some o) → Q (.ref x) H'
def spJoinedT (DC : Addr) : Sp := fun vs H Q _ => ∃ (v u : V) (t : Addr) (rows : List V) (c w : Int) (n1 n2 : List (Option Int)) (l1 l2 : List (Int × Int × Int)) (ps : List (Nat × Nat)), vs = [v, u, .ref t] ∧ DiaAt DC H v c n1 l1 ∧ DiaAt DC H u c n2 l2 ∧ H t = some (.tup rows) ∧ Fzs H rows (ps.map pairD) ∧ ps.length ≤ 1000 ∧ JOK ps n1 n2 ∧
  DOK c n1 l1 w ∧ DOK c n2 l2 w ∧ n1.length + n2.length ≤ 16 ∧ l1.length + l2.length ≤ 60 ∧ w ≤ 1000000000 ∧ ∀ (x : Addr) (H' : Hp), H x = none → DiaAt DC H' (.ref x) c (joinN ps n1 n2) (l1 ++ jlines ps n1.length l2) → (∀ b o, H b = some o → H' b = some o) → Q (.ref x) H'
theorem joined_star {DC : Addr} : ∀ vs H Q E, spJoined DC vs H Q E → ∃ ws rest, vs = ws ++ rest ∧ ws.length = (["one", "other"] : List Str).length ∧ rest.length ≤ sizeLine ∧ ∀ p, H p = Option.none → spJoinedT DC (ws ++ [V.ref p]) (upd H p (.tup rest)) Q E := by
  rintro vs H Q E ⟨v, u, rest, c, w, n1, n2, l1, l2, ps, rfl, h1, h2, hr, hl, J, o1, o2, h16, h60, hw, q⟩
  refine ⟨[v, u], rest, rfl, rfl, by rw [hr.length, List.length_map]; exact sz (by omega), fun p np => ?_⟩
  have up := same_up (o := .tup rest) np (H := H) (fun _ _ h => h)
  exact ⟨v, u, p, rest, c, w, n1, n2, l1, l2, ps, rfl, h1.same up, h2.same up, upd_same, hr.tk (Tk.new np), hl, J, o1, o2, h16, h60, hw, fun x H' nx d s => q x H' (none_up nx up) d fun b o h => s _ _ (up _ _ h)⟩
/-! ### the law's helpers -/
def spMixedUp : Sp := fun vs H Q _ => ∃ (m c g t : Addr) (B : Int) (xs : List Int), vs = [.ref m, .ref t] ∧ Pr m c g H H B ∧ B < 2 ^ 28 ∧ H t = some (.lst (xs.map V.int)) ∧ xs.length ≤ 100 ∧
  ∀ (p : Addr) (ys : List Int) (H' : Hp), H p = none → H' p = some (.lst (ys.map V.int)) → ys.Perm xs → Pr m c g H H' (B + 100) → Q (.ref p) H'
theorem seq_at {k : Int} {n : Nat} (h0 : 0 ≤ k) (h1 : k < n) : seqIndex? k n = some k.toNat := by
  have e : (if k < 0 then k + (n : Int) else k) = k := if_neg (by omega)
  unfold seqIndex?
  simp only [e]
  rw [if_pos (by simp; omega)]
theorem erase_perm {α : Type} {xs : List α} {k : Nat} (h : k < xs.length) : (xs[k] :: xs.eraseIdx k).Perm xs := by
  rw [List.eraseIdx_eq_take_drop_succ]
  refine List.perm_middle.symm.trans ?_
  rw [← List.drop_eq_getElem_cons h, List.take_append_drop]
theorem g_popAt {p : Addr} {xs : List V} {k : Int} {y : V} {H : Hp} {Q : VK} (h : H p = some (.lst xs)) (h0 : 0 ≤ k) (h1 : k < xs.length) (h2 : k < 2 ^ 63) (e : xs[k.toNat]? = some y) (q : Q y (upd H p (.lst (xs.eraseIdx k.toNat)))) : rPopAt (.ref p) [.int k] H Q :=
  ⟨p, xs, k, k.toNat, y, rfl, rfl, h, by omega, h2, seq_at h0 h1, e, q⟩
theorem erase_map {α β : Type} (f : α → β) : ∀ (xs : List α) (k : Nat), (xs.map f).eraseIdx k = (xs.eraseIdx k).map f
  | [], _ => rfl
  | _ :: _, 0 => rfl
  | x :: xs, k + 1 => by rw [List.map_cons, List.eraseIdx_cons_succ, List.eraseIdx_cons_succ, List.map_cons, erase_map f xs k]
def joinD (b1 b2 : Book) (ps : List (Nat × Nat)) : PyData := .tuple [.int b1.c, notesD (joinN ps b1.notes b2.notes), linesD (b1.lines ++ jlines ps b1.notes.length b2.lines)]
def spDue54 : Sp := fun vs H Q _ => ∃ (v u : V) (t : Addr) (b1 b2 : Book) (w : Int) (ps : List (Nat × Nat)) (rows : List V), vs = [v, u, .ref t] ∧ Fz H v b1.d ∧ Fz H u b2.d ∧ H t = some (.lst rows) ∧ Fzs H rows (ps.map pairD) ∧ JOK ps b1.notes b2.notes ∧ b1.notes.length ≤ 100 ∧ ps.length ≤ 100 ∧ DOK b2.c b2.notes b2.lines w ∧ b1.lines.length ≤ 100 ∧ b2.lines.length ≤ 100 ∧
  ∀ (x : V) (H' : Hp), Fz H' x (joinD b1 b2 ps) → (∀ b o, H b = some o → H' b = some o) → Q x H'
def NamesD (ps : List (Nat × Nat)) (n1 k : Nat) (kvs : List (Key × V)) : Prop := kvs.length ≤ ps.length + k ∧ ∀ j : Nat, valV kvs (Sum.inl (j : Int)) = if j < k then some (V.int (jnum ps n1 j : Nat)) else (jfind ps j).map fun i => V.int (i : Nat)
theorem NamesD.start {ps : List (Nat × Nat)} {n1 : Nat} {kvs : List (Key × V)} (h : PairsD ps kvs) : NamesD ps n1 0 kvs := ⟨h.1, fun j => by rw [if_neg (Nat.not_lt_zero j)]; exact h.2 j⟩
theorem NamesD.skip {ps : List (Nat × Nat)} {n1 k i : Nat} {kvs : List (Key × V)} (h : NamesD ps n1 k kvs) (e : jfind ps k = some i) : NamesD ps n1 (k + 1) kvs := by
  refine ⟨Nat.le_succ_of_le h.1, fun j => ?_⟩
  rw [h.2 j]
  by_cases q : j = k
  · subst q
    rw [if_neg (Nat.lt_irrefl j), if_pos (Nat.lt_succ_self j), e]
    unfold jnum
    rw [e]; rfl
  · by_cases q2 : j < k
    · rw [if_pos q2, if_pos (by omega)]
    · rw [if_neg q2, if_neg (by omega)]
theorem NamesD.put {ps : List (Nat × Nat)} {n1 k : Nat} {kvs : List (Key × V)} (h : NamesD ps n1 k kvs) : NamesD ps n1 (k + 1) (putK kvs (Sum.inl (k : Int)) (.int (jnum ps n1 k : Nat))) := by
  refine ⟨by have := length_putK kvs (Sum.inl (k : Int) : Key) (.int (jnum ps n1 k : Nat)); have := h.1; omega, fun j => ?_⟩
  rw [valV_put, h.2 j]
  by_cases q : j = k
  · subst q
    rw [if_pos rfl, if_pos (Nat.lt_succ_self j)]
  · rw [if_neg (fun z => q (by injection z with z; exact Int.ofNat_inj.mp z))]
    by_cases q2 : j < k
    · rw [if_pos q2, if_pos (by omega)]
    · rw [if_neg q2, if_neg (by omega)]
theorem NamesD.get {ps : List (Nat × Nat)} {n1 m : Nat} {kvs : List (Key × V)} (h : NamesD ps n1 m kvs) {H : Hp} {a : Addr} (e : H a = some (.dK kvs)) {i : Int} (h0 : 0 ≤ i) (h1 : i < m) : DGet H a (.int i) (some (.int (jnum ps n1 i.toNat : Nat))) := by
  have z := dget_int (k := i.toNat) e
  rw [h.2 i.toNat, if_pos (by omega), show ((i.toNat : Nat) : Int) = i by omega] at z
  exact z
/-! ### pairs drawn -/
theorem ForQ.zipN {K : PySem.W.Frag} {g : TG} {tb : TS} {D : Ends} {σ : L2.St} {H1 : Hp} {a b : Addr} {xs ys : List V} (I : Nat → L2.St → Hp → Prop) (h0 : I 0 σ H1) (hq : ∀ i σ H, I i σ H → SqL K H a xs ∧ SqL K H b ys)
    (hs : ∀ (i : Nat) (x y : V) (T : Addr) (σ : L2.St) (H : Hp), xs[i]? = some x → ys[i]? = some y → I i σ H → H T = none → g (.ref T) σ (upd H T (.tup [x, y])) fun σ2 H2 => tb { D with nx := I (i + 1), ct := I (i + 1), bk := D.nx } σ2 H2) (hd : ∀ i σ H, I i σ H → D.nx σ H) : ForQ g tb D σ (Itz K a b) H1 := by
  refine ⟨fun i m σ H => i ≤ xs.length ∧ m = xs.length - i ∧ I i σ H, ⟨_, Nat.zero_le _, rfl, h0⟩, ?_⟩
  intro i m σ H ⟨hi, hm, hp⟩
  obtain ⟨sx, sy⟩ := hq i σ H hp
  rcases Nat.lt_or_ge i xs.length with h1 | h1
  · rcases Nat.lt_or_ge i ys.length with h2 | h2
    · refine Or.inr ⟨⟨xs, ys, xs[i], ys[i], sx, sy, List.getElem?_eq_getElem h1, List.getElem?_eq_getElem h2⟩, I (i + 1), fun σ' H' h => ⟨xs.length - (i + 1), by omega, by omega, rfl, h⟩, ?_⟩
      rintro v H' ⟨T, x, y, rfl, hT, rfl, hx, hy⟩
      exact hs i x y T σ H (hx xs sx) (hy ys sy) hp hT
    · exact Or.inl ⟨⟨xs, ys, sx, sy, Or.inr h2⟩, hd i _ _ hp⟩
  · exact Or.inl ⟨⟨xs, ys, sx, sy, Or.inl h1⟩, hd i _ _ hp⟩
theorem g_lstRg {te : L2.St → Hp → (Int → Int → Hp → Prop) → Prop} {σ : L2.St} {H : Hp} {Q : VK} (h : te σ H fun a b H1 => RgOk a b ∧ ∀ q, H1 q = none → Q (.ref q) (upd H1 q (.lst (rgV a b)))) : tLstRg te σ H Q := h
theorem g_rg1 {ta : TE} {σ : L2.St} {H : Hp} {R : Int → Int → Hp → Prop} (h : ta σ H fun x H1 => ∃ n, x = V.int n ∧ R 0 n H1) : tRg1 ta σ H R := h
theorem rgV_ints (n : Nat) : rgV 0 (n : Int) = (((List.range n).map fun i => ((i : Nat) : Int))).map V.int := by
  unfold rgV
  rw [show ((n : Int) - 0).toNat = n by omega, List.map_map]
  exact List.map_congr_left fun i _ => by simp
/-- an arrangement of the numbers below n -/
theorem perm_nats {ys : List Int} {n : Nat} (h : ys.Perm ((List.range n).map fun i => ((i : Nat) : Int))) : ∃ A : List Nat, ys = A.map (fun i => ((i : Nat) : Int)) ∧ A.Nodup ∧ (∀ i ∈ A, i < n) ∧ A.length = n := by
  have p : (ys.map Int.toNat).Perm (List.range n) := by
    have z := h.map Int.toNat
    rw [List.map_map] at z
    have e : (List.range n).map (Int.toNat ∘ fun i => ((i : Nat) : Int)) = List.range n := by
      conv => rhs; rw [← List.map_id (List.range n)]
      exact List.map_congr_left fun i _ => rfl
    rw [e] at z
    exact z
  refine ⟨ys.map Int.toNat, ?_, p.nodup_iff.mpr List.nodup_range, fun i hi => List.mem_range.mp (p.mem_iff.mp hi), by rw [p.length_eq, List.length_range]⟩
  rw [List.map_map]
  conv => lhs; rw [← List.map_id ys]
  refine List.map_congr_left fun y hy => ?_
  obtain ⟨i, _, rfl⟩ := List.mem_map.mp (h.mem_iff.mp hy)
  rfl
def PFit (N1 N2 : List (Option Int)) (p : Nat × Nat) : Prop := N1.getD p.1 none = none ∨ N2.getD p.2 none = none ∨ N1.getD p.1 none = N2.getD p.2 none
theorem zip_fst : ∀ (A B : List Nat), ((A.zip B).map (·.1)).Sublist A
  | [], _ => by simp
  | _ :: _, [] => by simp
  | a :: A, b :: B => by rw [List.zip_cons_cons, List.map_cons]; exact (zip_fst A B).cons_cons a
theorem zip_snd : ∀ (A B : List Nat), ((A.zip B).map (·.2)).Sublist B
  | [], _ => by simp
  | _ :: _, [] => by simp
  | a :: A, b :: B => by rw [List.zip_cons_cons, List.map_cons]; exact (zip_snd A B).cons_cons b
theorem jok_of {A B : List Nat} {N1 N2 : List (Option Int)} {ps : List (Nat × Nat)} (hA : A.Nodup) (hB : B.Nodup) (lA : ∀ i ∈ A, i < N1.length) (lB : ∀ i ∈ B, i < N2.length) (s : ps.Sublist (A.zip B)) (f : ∀ p ∈ ps, PFit N1 N2 p) : JOK ps N1 N2 := by
  have m : ∀ p ∈ ps, p.1 ∈ A ∧ p.2 ∈ B := fun p hp => List.of_mem_zip (s.subset hp)
  have s1 : (ps.map (·.1)).Sublist A := (s.map (·.1)).trans (zip_fst A B)
  have s2 : (ps.map (·.2)).Sublist B := (s.map (·.2)).trans (zip_snd A B)
  exact ⟨fun p hp => lA _ (m p hp).1, fun p hp => lB _ (m p hp).2, s1.nodup hA, s2.nodup hB, f⟩
theorem JOK.take {ps : List (Nat × Nat)} {N1 N2 : List (Option Int)} (J : JOK ps N1 N2) (k : Nat) : JOK (ps.take k) N1 N2 := by
  have s := List.take_sublist k ps
  exact ⟨fun p hp => J.fst p (s.subset hp), fun p hp => J.snd p (s.subset hp), (s.map (·.1)).nodup J.ndF, (s.map (·.2)).nodup J.ndS, fun p hp => J.fit p (s.subset hp)⟩
def spPairs54 : Sp := fun vs H Q _ => ∃ (m c g : Addr) (B : Int) (v u : V) (b1 b2 : Book), vs = [.ref m, v, u] ∧ Pr m c g H H B ∧ B < 2 ^ 27 ∧ Fz H v b1.d ∧ Fz H u b2.d ∧ b1.notes.length ≤ 100 ∧ b2.notes.length ≤ 100 ∧
  ∀ (p : Addr) (rows : List V) (ps : List (Nat × Nat)) (H' : Hp), H p = none → H' p = some (.lst rows) → Fzs H' rows (ps.map pairD) → ps.length ≤ 3 → JOK ps b1.notes b2.notes → Pr m c g H H' (B + 300) → Q (.ref p) H'
theorem pl_pairs (ps : List (Nat × Nat)) : pl 2 (.list (ps.map pairD)) := by
  show ∀ d ∈ ps.map pairD, pl 1 d
  intro d hd
  obtain ⟨p, _, rfl⟩ := List.mem_map.mp hd
  simp [pairD, pl]
theorem eqv_nilPairs (ps : List (Nat × Nat)) : (PyData.list (ps.map pairD)).eqv (.list []) = decide (ps = []) := by
  have e := pl_eqv (pl_pairs ps) (pl_mono' pl_nilL (by decide : 1 ≤ 2))
  by_cases h : ps = []
  · subst h
    rfl
  · rw [decide_eq_false h]
    cases q : (PyData.list (ps.map pairD)).eqv (.list []) with
    | false => rfl
    | true =>
      have z := e.mp q
      injection z with z
      exact absurd (List.map_eq_nil_iff.mp z) h
theorem pl_joinD (b1 b2 : Book) (ps : List (Nat × Nat)) : pl 3 (joinD b1 b2 ps) := by
  unfold joinD
  show ∀ d ∈ _, pl 2 d
  intro d hd
  simp only [List.mem_cons, List.not_mem_nil, or_false] at hd
  rcases hd with rfl | rfl | rfl
  · simp [pl]
  · exact pl_mono (pl_notes _)
  · exact pl_lines _
theorem joinD_eqv (b1 b2 : Book) (ps : List (Nat × Nat)) : (joinD b1 b2 ps).eqv (joinD b1 b2 ps) = true := (pl_eqv (pl_joinD b1 b2 ps) (pl_joinD b1 b2 ps)).mpr rfl
/-! ### defs with a star, by their names -/
structure HasR (P : Program) (w : World) (K : PySem.W.Frag) (mg : Str → Option Value) (base : Heap) (CX : CXT) (k : Nat) (x : Str) (sp : Sp) : Prop where
  ex : ∃ f, mg x = some (.ref f) ∧ PySem.W.keepIn K (.ref f) = true ∧ FnR P w K mg base CX k f sp
def tCallR (sp : Sp) (E : XK) (t : TA) : TE := fun σ H Q => t σ H fun vs H1 => sp vs H1 Q E
theorem g_callR {sp : Sp} {E : XK} {t : TA} {σ : L2.St} {H : Hp} {Q : VK} (h : t σ H fun vs H1 => sp vs H1 Q E) : tCallR sp E t σ H Q := h
theorem pe_hasR {X : Cx} {CX : CXT} {k j : Nat} {x : Str} {sp : Sp} {E : XK} {e : Expr} {es : List Expr} {t : TA} {p pos : Pos} (F : HasR X.prog X.w X.K X.mg X.base CX k x sp) (room : Room j X.A) (le : k ≤ j) (pass : Passes CX X E) (ha : PA X (e :: es) t) (gl : Gl X x := by rfl) (db : (x == ("__debug__" : Str)) = false := by decide)
    (h1 : starEach (e :: es) X.env = (false, eval e X.env) :: starEach es X.env := by rfl) (h2 : (backTo pos (starEach es X.env)).any (·.1) = false := by rfl) : PE X (.Call (.Name x p) (e :: es) [] pos) (tCallR sp E t) := by
  obtain ⟨f, m, kp, F⟩ := F.ex
  constructor
  intro pins s σ H Q I w0
  refine wpAny_Call_Name_kw (ld_glob I gl m ?_ db)
  refine PySem.W.callWith_K (h₀ := X.base) I.ok.mod.kin kp (thn (ha.run pos pins s σ H _ I w0) ?_) h1 h2
  rintro us s1 ⟨vs, H1, I1, r, q⟩
  exact ⟨I1.kIn, wpAny_call (run_fnR F (room.mono le) pass I1 r q)⟩
theorem len1 {α : Type} {xs : List α} (h : xs.length = 1) : ∃ a, xs = [a] := by
  match xs, h with
  | [a], _ => exact ⟨a, rfl⟩
theorem len2 {α : Type} {xs : List α} (h : xs.length = 2) : ∃ a b, xs = [a, b] := by
  match xs, h with
  | [a, b], _ => exact ⟨a, b, rfl⟩
theorem len3 {α : Type} {xs : List α} (h : xs.length = 3) : ∃ a b c, xs = [a, b, c] := by
  match xs, h with
  | [a, b, c], _ => exact ⟨a, b, c, rfl⟩
theorem dec_len {n k : Nat} : decide (V.int (n : Int) = V.int (k : Int)) = decide (n = k) := by
  by_cases e : n = k
  · rw [e]; simp
  · rw [decide_eq_false e, decide_eq_false (fun z => by injection z with z; exact e (Int.ofNat_inj.mp z))]
end WL
set_option Elab.async false
set_option linter.all false
set_option maxRecDepth 100000
set_option maxHeartbeats 4000000
namespace WL
open PySem PySem.Spec PyProof.Rows L2
/-! ### exceptions of two fields -/
theorem look3 {f1 f2 : Str} {a b c : Value} (n1 : f1 ≠ ("self" : Str)) (n2 : f2 ≠ ("self" : Str)) (n12 : f1 ≠ f2) : ([(("self" : Str), a), (f1, b), (f2, c)].reverse.lookup ("self" : Str) = some a) ∧ ([(("self" : Str), a), (f1, b), (f2, c)].reverse.lookup f1 = some b) ∧ ([(("self" : Str), a), (f1, b), (f2, c)].reverse.lookup f2 = some c) := by
  have e1 : (("self" : Str) == f2) = false := beq_eq_false_iff_ne.mpr n2.symm
  have e2 : (("self" : Str) == f1) = false := beq_eq_false_iff_ne.mpr n1.symm
  have e3 : (f1 == f2) = false := beq_eq_false_iff_ne.mpr n12
  refine ⟨?_, ?_, ?_⟩
  · show List.lookup ("self" : Str) [(f2, c), (f1, b), (("self" : Str), a)] = some a
    rw [List.lookup_cons, e1, List.lookup_cons, e2]
    simp [List.lookup]
  · show List.lookup f1 [(f2, c), (f1, b), (("self" : Str), a)] = some b
    rw [List.lookup_cons, e3, List.lookup_cons, beq_self_eq_true]
  · show List.lookup f2 [(f2, c), (f1, b), (("self" : Str), a)] = some c
    rw [List.lookup_cons, beq_self_eq_true]
section
variable {prog : Program} {w : World} {A : Around} {E : Value → Shared → Prop} {K : PySem.W.Frag} {mg : Str → Option Value} {C fI : Addr} {fd : FuncData} {h : Heap} {g : Array GenState} {d : Drawn} {t : Nat} {os : OsState}
theorem ex_init2 {x t0 : Addr} {v1 v2 : Value} {f1 f2 : Str} {mb : Str → Option Value} {R : Result → Shared → Prop} (T : ExT prog K mg [f1, f2] C fI) (J : ExI prog K [f1, f2] C fI fd) (X : K.In h) (G : h.Ns mainGlobals mg) (B : h.Ns builtinsNs mb) (bb : ∀ x : Str, x ≠ "__name__" → mb x = bootBuiltins x) (lim : h.NoLimit) (room : A.depth < recursionLimit)
    (hx : h.get? x = some (HandSPX.excO C t0)) (hxK : K.lookup x = none) (d1 : (f1 == ("__debug__" : Str)) = false) (d2 : (f2 == ("__debug__" : Str)) = false) (n1 : f1 ≠ ("self" : Str)) (n2 : f2 ≠ ("self" : Str)) (n12 : f1 ≠ f2)
    (hb : ∀ s : Shared, K.In s.heap → BindsTo s fd ⟨[.ref x, v1, v2], []⟩ [("self", .ref x), (f1, v1), (f2, v2)])
    (hq : ∀ h' t' dx, (∀ b o, b ≠ x → h.get? b = some o → h'.get? b = some o) → h.objs.size ≤ dx → dx ≠ x → ExAt h' x C dx (fun y => if y = f2 then some v2 else if y = f1 then some v1 else none) → R (.ok (.ret .none)) ⟨h', g, d, t', os⟩) :
    codeAny (model prog w) A (.call (.ref fI) ⟨[.ref x, v1, v2], []⟩) R ⟨h, g, d, t, os⟩ := by
  obtain ⟨oc, od, osl, lk⟩ := J.at_
  obtain ⟨msg, k, q, qs, hbody, hlen, hpos⟩ := J.body
  have ok := J.ok
  unfold scOk at ok
  obtain ⟨o1, ok⟩ := He.ba ok
  obtain ⟨_, ok⟩ := He.ba ok
  obtain ⟨_, ok⟩ := He.ba ok
  obtain ⟨o4, o5⟩ := He.ba ok
  have ls : fd.scope.names.lookup ("self" : Str) = some .local := of_decide_eq_true o1
  have m1 : f1 ∈ [f1, f2] := List.mem_cons_self
  have m2 : f2 ∈ [f1, f2] := List.mem_cons_of_mem _ List.mem_cons_self
  have lf1 : fd.scope.names.lookup f1 = some .local := of_decide_eq_true (List.all_eq_true.mp o4 f1 m1)
  have lf2 : fd.scope.names.lookup f2 = some .local := of_decide_eq_true (List.all_eq_true.mp o4 f2 m2)
  match qs, hlen with
  | [q1, q2], _ =>
    have lk3 := look3 (a := Value.ref x) (b := v1) (c := v2) n1 n2 n12
    refine ks_codeAny_call_defAt (binds := [("self", .ref x), (f1, v1), (f2, v2)]) room (X _ _ lk) rfl lim (PySem.W.codeRec_of X J.rec_) hbody (hb _ X) (fun y hy => of_decide_eq_true (List.all_eq_true.mp o5 y hy)) (fun y hy => ?_) ?_ J.co J.gen J.kind
    · rcases List.mem_cons.mp hy with rfl | hy
      · exact ls
      · rcases List.mem_cons.mp hy with rfl | hy
        · exact lf1
        · rw [List.mem_singleton.mp hy]
          exact lf2
    · intro h0 hn0 k0
      have Lx : h.objs.size ≠ x := Nat.ne_of_gt (Heap.lt_size hx)
      refine ks_wpAt_execs_cons (sup_step T J (X.keeps k0) (G.keeps k0) (B.keeps k0) bb hpos hn0 lk3.1 (k0 _ _ hx) ?_)
      intro h1 t1 tt k1 hx1
      have kK : ∀ b o, K.lookup b = some o → b ≠ x := fun b o e z => by rw [z, hxK] at e; cases e
      have X1 : K.In h1 := fun b o e => k1 b o (kK b o e) (k0 _ _ (X b o e))
      obtain ⟨oL, es, ep, hoL, r1, r2⟩ := hn0
      have hoL1 := k1 _ _ Lx hoL
      have hn1 : h1.Ns h.objs.size _ := ⟨oL, es, ep, hoL1, r1, r2⟩
      refine wpAt_of_wpAny (wpAny_execs_cons (fld_first T m1 X1 J.kind ls lf1 d1 hn1 lk3.1 lk3.2.1 hx1 ?_))
      intro h2 t2 dx k2 dn dne ex
      have X2 : K.In h2 := fun b o e => k2 b o (kK b o e) (X1 b o e)
      have hn2 : h2.Ns h.objs.size _ := ⟨oL, es, ep, k2 _ _ Lx hoL1, r1, r2⟩
      have hsz : h.objs.size ≤ h1.objs.size := Nat.le_of_lt (Heap.lt_size hoL1)
      have hi : Within (fun y : Str => if y = f1 then some v1 else none) [f1] := fun y hy => by
        by_cases e : y = f1
        · rw [e]; exact List.mem_cons_self
        · exact absurd (if_neg e) hy
      refine wpAny_execs_cons (fld_next T m2 X2 J.kind ls lf2 d2 hn2 lk3.1 lk3.2.2 ex hi (by simp) ?_)
      intro h3 t3 k3 ex3
      refine wpAny_execs_nil (hq h3 t3 dx (fun b o hb e => ?_) (Nat.le_trans hsz dn) dne ex3)
      have e2 := k2 b o hb (k1 b o hb (k0 b o e))
      by_cases z : b = dx
      · have lt := Heap.lt_size e
        rw [z] at lt
        exact absurd (Nat.lt_of_lt_of_le lt (Nat.le_trans hsz dn)) (Nat.lt_irrefl _)
      · exact k3 b o z e2
end
section
variable {X : Cx} {f1 f2 : Str} {C fI : Addr} {fd : FuncData}
def tMkEx2 (C : Addr) (f1 f2 : Str) (ta : TA) : L2.St → Hp → XK → Prop := fun σ H Q => ta σ H fun vs H1 => ∃ v u, vs = [v, u] ∧ ∀ d, H1 d = none → Q (.ref C) (some d) (upd H1 d (.xd [(f1, v), (f2, u)]))
theorem g_mkex2 {ta : TA} {σ : L2.St} {H : Hp} {Q : XK} (h : ta σ H fun vs H1 => ∃ v u, vs = [v, u] ∧ ∀ (d : Addr), H1 d = none → Q (.ref C) (some d) (upd H1 d (.xd [(f1, v), (f2, u)]))) : tMkEx2 C f1 f2 ta σ H Q := h
theorem relO_two {v u : V} {a b : Value} (r1 : RelV v a) (r2 : RelV u b) (n12 : f1 ≠ f2) (y : Str) : RelO ([(f1, v), (f2, u)].lookup y) (if y = f2 then some b else if y = f1 then some a else none) := by
  by_cases e1 : y = f1
  · subst e1
    rw [if_neg n12, if_pos rfl, List.lookup_cons, beq_self_eq_true]
    exact r1
  · rw [if_neg e1, List.lookup_cons, beq_eq_false_iff_ne.mpr e1]
    by_cases e2 : y = f2
    · subst e2
      rw [if_pos rfl]
      show RelO (List.lookup y [(y, u)]) _
      rw [List.lookup_cons, beq_self_eq_true]
      exact r2
    · rw [if_neg e2]
      show RelO (List.lookup y [(f2, u)]) _
      rw [List.lookup_cons, beq_eq_false_iff_ne.mpr e2]
      exact True.intro
theorem Vals.two' {v u : V} {us : List Value} (h : Vals [v, u] us) : ∃ a b, us = [a, b] ∧ RelV v a ∧ RelV u b := by
  cases h with
  | cons r1 h =>
    cases h with
    | cons r2 h =>
      cases h
      exact ⟨_, _, rfl, r1, r2⟩
theorem pmk_ex2 {x : Str} {e1 e2 : Expr} {ta : TA} {p pos : Pos} {k : Nat} (T : ExT X.prog X.K X.mg [f1, f2] C fI) (J : ExI X.prog X.K [f1, f2] C fI fd) (hr : Room k X.A) (gC : X.mg x = some (.ref C)) (d1 : (f1 == ("__debug__" : Str)) = false) (d2 : (f2 == ("__debug__" : Str)) = false) (n1 : f1 ≠ ("self" : Str)) (n2 : f2 ≠ ("self" : Str)) (n12 : f1 ≠ f2)
    (hb : ∀ (s : Shared) (u v1 v2 : Value), X.K.In s.heap → BindsTo s fd ⟨[u, v1, v2], []⟩ [(("self" : Str), u), (f1, v1), (f2, v2)]) (ha : PA X [e1, e2] ta) (hg : Gl X x := by rfl) (hd : (x == ("__debug__" : Str)) = false := by decide)
    (h1 : starEach [e1, e2] X.env = (false, eval e1 X.env) :: starEach [e2] X.env := by rfl) (h2 : (backTo pos (starEach [e2] X.env)).any (·.1) = false := by rfl) :
    PMk X (.Call (.Name x p) [e1, e2] [] pos) (tMkEx2 C f1 f2 ta) := by
  intro pins s σ H Q I h
  refine wpAny_Call_Name_kw (ld_glob I hg gC ?_ hd)
  refine PySem.W.callWith_K (h₀ := X.base) I.ok.mod.kin T.kC (thn (ha.run pos pins s σ H _ I h) ?_) h1 h2
  rintro us s1 ⟨vs, H1, I1, r1, v, v', ev, q1⟩
  subst ev
  refine ⟨I1.kIn, ?_⟩
  obtain ⟨u, u', rfl, ru, ru'⟩ := Vals.two' r1
  obtain ⟨nm, qn, N, bs, bm, sn, sub, ab, col, dd, k0, k1, k2, k3, k5, hC, hbm⟩ := T.cls
  have lim := I1.nolimit
  have glo := I1.ok.mod.glob.keeps I1.bk
  obtain ⟨mb, bl, bb⟩ := I1.ok.mod.blt
  have bl' := bl.keeps I1.bk
  have XK := I1.kIn
  have fresh : ∀ b : Addr, s1.heap.objs.size ≤ b → H1 b = none := fun b hb => I1.hok.fresh hb
  obtain ⟨hp, g, dr, tk, os⟩ := s1
  show wpAny _ _ (call (.ref C) [u, u']) _ _ _
  have up : ∀ b o, hp.get? b = some o → ((hp.push (PySem.W.kdv_tup [u, u'])).push (HandSPX.excO C hp.objs.size)).get? b = some o := fun b o e => Heap.get?_push_of_some _ (Heap.get?_push_of_some _ e)
  have at1 : ((hp.push (PySem.W.kdv_tup [u, u'])).push (HandSPX.excO C hp.objs.size)).get? (hp.objs.size + 1) = some (HandSPX.excO C hp.objs.size) := by heap_get
  have nK : X.K.lookup (hp.objs.size + 1) = none := by
    cases e : X.K.lookup (hp.objs.size + 1) with
    | none => rfl
    | some o => exact absurd (Nat.lt_of_succ_lt (Heap.lt_size (XK _ _ e))) (Nat.lt_irrefl _)
  refine wpAny_call (HandSPX.call_own F.excBase_ValueError (fun Y => HandSPX.refsVE_contains Y bm hbm) (XK _ _ hC) (PySem.W.looks_findIn XK T.iC) (fun self => PySem.W.bind_fn XK self T.tI) (show 2 ≤ sizeLine by decide) ?_)
  refine ex_init2 T J (XK.keeps up) (glo.keeps up) (bl'.keeps up) bb (lim.keeps up) ?_ at1 nK d1 d2 n1 n2 n12 (fun s hs => hb s _ _ _ hs) ?_
  · have := hr.dp
    rw [make_depth]
    omega
  intro h' t' dx kp dn dne ex
  refine ⟨rfl, ?_⟩
  show MkP X pins σ Q (.ref (hp.objs.size + 1)) _
  obtain ⟨⟨t1, he⟩, hns⟩ := ex
  obtain ⟨G', g1, g2⟩ := restrict h' fun b => decide (b ≠ hp.objs.size + 1)
  have gk : ∀ b, b ≠ hp.objs.size + 1 → G'.get? b = h'.get? b := fun b hb => g1 b (decide_eq_true hb)
  have ge : G'.get? (hp.objs.size + 1) = none := g2 _ (by simp)
  have old : ∀ b o, hp.get? b = some o → G'.get? b = some o := fun b o e => by
    have nb : b ≠ hp.objs.size + 1 := Nat.ne_of_lt (Nat.lt_succ_of_lt (Heap.lt_size e))
    rw [gk b nb]
    exact kp b o nb (up b o e)
  have dsz : hp.objs.size ≤ dx := by
    have e : hp.objs.size + 1 + 1 ≤ dx := by
      have z := dn
      rw [Heap.size_push, Heap.size_push] at z
      exact z
    exact Nat.le_trans (Nat.le_trans (Nat.le_succ _) (Nat.le_succ _)) e
  have ob : ObjOk X.prog X.w (upd H1 dx (.xd [(f1, v), (f2, v')])) G' dx (.xd [(f1, v), (f2, v')]) := ⟨_, hns.at (fun o e => (gk dx dne).trans e), fun y => relO_two ru ru' n12 y⟩
  have Jv : Inv X pins σ (upd H1 dx (.xd [(f1, v), (f2, v')])) ⟨G', g, dr, t', os⟩ := I1.laid (t' := t') old dsz ob
  refine ⟨hp.objs.size + 1, _, _, ⟨G', g, dr, t', os⟩, _, .ref C, some dx, rfl, Jv, fun b o e => ?_, ge, he, ⟨rfl, rfl⟩, rfl, rfl, ?_, rfl, Jv.bare, raises_own T.exC T.tyC, q1 dx (fresh dx dsz)⟩
  · by_cases hb : b = hp.objs.size + 1
    · have e' : G'.get? b = some o := e
      rw [hb, ge] at e'
      cases e'
    · exact (gk b hb).symm.trans e
  · rw [upd_ne (Ne.symm dne)]
    exact fresh _ (Nat.le_succ _)
end
/-- such a class for its callers: part, and another field -/
structure EvD (P : Program) (K : PySem.W.Frag) (mg : Str → Option Value) (x f1 f2 : Str) (C : Addr) : Prop where
  at_ : mg x = some (.ref C)
  ex : ∃ fI fd, ExT P K mg [f1, f2] C fI ∧ ExI P K [f1, f2] C fI fd ∧ ∀ (s : Shared) (u v1 v2 : Value), K.In s.heap → BindsTo s fd ⟨[u, v1, v2], []⟩ [("self", u), (f1, v1), (f2, v2)]
end WL
set_option Elab.async false
set_option linter.all false
set_option maxRecDepth 100000
set_option maxHeartbeats 4000000
namespace WL
open PySem PySem.Spec PyProof.Rows L2
/-! ### texts of numbers -/
def numS (i : Int) : Str := Str.ofString (toString i)
theorem tl_numN (n : Nat) : TL.tl (numS (n : Int)) = TL.numL n := TL.tl_num n
theorem tl_numNeg (n : Nat) : TL.tl (numS (-((n : Int) + 1))) = 45 :: TL.numL (n + 1) := by
  have e : numS (-((n : Int) + 1)) = Str.ofString ("-" ++ toString (((n + 1 : Nat) : Int))) := by
    unfold numS
    rw [show -((n : Int) + 1) = Int.negSucc n by omega]
    rfl
  rw [e, TL.tl_ofString, String.toList_append, List.map_append, ← TL.tl_ofString, ← TL.tl_ofString, TL.tl_num]
  rfl
theorem num_cases (i : Int) : (∃ n : Nat, i = n) ∨ ∃ n : Nat, i = -((n : Int) + 1) := by
  rcases (by omega : i < 0 ∨ 0 ≤ i) with h | h
  · exact Or.inr ⟨(-i - 1).toNat, by omega⟩
  · exact Or.inl ⟨i.toNat, by omega⟩
theorem num_free {i : Int} {s : Nat} (h : s < 45 ∨ 57 < s) : s ∉ TL.tl (numS i) := by
  rcases num_cases i with ⟨n, rfl⟩ | ⟨n, rfl⟩
  · rw [tl_numN]
    exact TL.numL_free (by omega)
  · rw [tl_numNeg]
    intro hm
    rcases List.mem_cons.mp hm with z | z
    · omega
    · exact TL.numL_free (by omega) z
theorem num_len {i : Int} (h : -10000000000 < i ∧ i < 10000000000) : (numS i).length ≤ 11 := by
  rcases num_cases i with ⟨n, rfl⟩ | ⟨n, rfl⟩
  · rw [TL.len_tl, tl_numN]
    have := TL.numL_len (n := n) (k := 10) (by decide) (by omega)
    omega
  · rw [TL.len_tl, tl_numNeg, List.length_cons]
    have := TL.numL_len (n := n + 1) (k := 10) (by decide) (by omega)
    omega
theorem num_ne_dash (i : Int) : numS i ≠ (("-" : Str)) := by
  intro e
  have z := congrArg TL.tl e
  rcases num_cases i with ⟨n, rfl⟩ | ⟨n, rfl⟩
  · rw [tl_numN] at z
    have h := TL.numL_free (n := n) (s := 45) (by omega)
    rw [z] at h
    exact h (by decide)
  · rw [tl_numNeg] at z
    have e2 : TL.tl ("-" : Str) = [45] := rfl
    rw [e2] at z
    injection z with _ z
    exact TL.numL_ne _ z
/-- the digits alone -/
def digS (i : Int) : Str := ⟨(TL.numL i.natAbs).toArray⟩
theorem tl_digS (i : Int) : TL.tl (digS i) = TL.numL i.natAbs := rfl
theorem sub_dash (n : Nat) : Builtin.Str.subAt (numS (-((n : Int) + 1))) "-" 0 = true := by
  unfold Builtin.Str.subAt
  rw [beq_iff_eq]
  apply Array.toList_inj.mp
  rw [Array.toList_extract]
  show ((TL.tl (numS (-((n : Int) + 1)))).drop 0).take _ = [45]
  rw [tl_numNeg]
  rfl
theorem sub_no (n : Nat) : Builtin.Str.subAt (numS (n : Int)) "-" 0 = false := by
  unfold Builtin.Str.subAt
  refine beq_eq_false_iff_ne.mpr fun e => ?_
  have z := congrArg Array.toList e
  rw [Array.toList_extract] at z
  have z2 : ((TL.tl (numS (n : Int))).drop 0).take (0 + ("-" : Str).length - 0) = [45] := z
  rw [tl_numN] at z2
  have h := TL.numL_free (n := n) (s := 45) (by omega)
  have m : 45 ∈ ((TL.numL n).drop 0).take (0 + ("-" : Str).length - 0) := by rw [z2]; simp
  exact h (List.mem_of_mem_drop (List.mem_of_mem_take m))
theorem num_strip (i : Int) : Txt.removeprefix (numS i) "-" = digS i := by
  rcases num_cases i with ⟨n, rfl⟩ | ⟨n, rfl⟩
  · rw [StrLaws.removeprefix_eq, sub_no, if_neg (by simp)]
    apply TL.ext_tl
    rw [tl_digS, tl_numN, Int.natAbs_natCast]
  · rw [StrLaws.removeprefix_eq, sub_dash, if_pos (by
      rw [TL.len_tl (numS _), tl_numNeg, List.length_cons]
      simp [show ("-" : Str).length = 1 from rfl])]
    apply TL.ext_tl
    rw [TL.tl_mk, tl_digS]
    have e1 : (numS (-((n : Int) + 1))).cps.toList = 45 :: TL.numL (n + 1) := tl_numNeg n
    have e2 : (numS (-((n : Int) + 1))).length = (TL.numL (n + 1)).length + 1 := by rw [TL.len_tl, tl_numNeg, List.length_cons]
    rw [e1, e2, show ("-" : Str).length = 1 from rfl, List.drop_succ_cons, List.drop_zero, Nat.add_sub_cancel, List.take_length, show (-((n : Int) + 1)).natAbs = n + 1 by omega]
theorem dig_len {i : Int} (h : -10000000000 < i ∧ i < 10000000000) : (digS i).length ≤ 10 := by
  rw [TL.len_tl, tl_digS]
  exact TL.numL_len (by decide) (by omega)
theorem digit_sign {c : Nat} (h : 48 ≤ c ∧ c ≤ 57) : Unicode.isDigit c = true := by
  have k : ∀ n : _root_.Fin 58, 48 ≤ n.val → Unicode.isDigit n.val = true := by decide +kernel
  exact k ⟨c, by omega⟩ h.1
theorem dig_isdigit (i : Int) : Txt.isdigit (digS i) = true := by
  unfold Txt.isdigit
  rw [Bool.and_eq_true]
  constructor
  · rw [TL.len_tl, tl_digS]
    exact decide_eq_true (List.length_pos_iff.mpr (TL.numL_ne _))
  · rw [← Array.all_toList]
    refine List.all_eq_true.mpr fun c hc => digit_sign ?_
    exact TL.numL_digits _ c hc
theorem dig_isascii (i : Int) : Txt.isascii (digS i) = true := by
  unfold Txt.isascii
  rw [← Array.all_toList]
  refine List.all_eq_true.mpr fun c hc => ?_
  have z := TL.numL_digits _ c hc
  simp
  omega
theorem num_int {i : Int} (h : -10000000000 < i ∧ i < 10000000000) : PySem.intText? (numS i) = some i := by
  have hl := num_len h
  rcases num_cases i with ⟨n, rfl⟩ | ⟨n, rfl⟩
  · exact TL.int_num (by have := TL.numL_len (n := n) (k := 10) (by decide) (by omega); omega)
  · have z := PySem.intText_neg (x := numS (-((n : Int) + 1))) (cs := TL.numL (n + 1)) (tl_numNeg n) (TL.numL_digits _) (TL.numL_ne _) (by omega)
    rw [z, TL.numL_val]
    congr 1
/-! ### words, lines, a diary's text -/
def spS : Str := " "
def nlS : Str := "\n"
def wordS : Option Int → Str
  | none => "-"
  | some i => numS i
def wM (c : Int) : List Str := ["modulus", numS c]
def wE (n : Option Int) : List Str := ["event", wordS n]
def wB (l : Int × Int × Int) : List Str := ["bound", numS l.1, numS l.2.1, numS l.2.2]
def rowT (ws : List Str) : Str := Txt.join spS ws
def rowsT (c : Int) (ns : List (Option Int)) (ls : List (Int × Int × Int)) : List Str := rowT (wM c) :: (ns.map (fun n => rowT (wE n)) ++ ls.map fun l => rowT (wB l))
def textT (c : Int) (ns : List (Option Int)) (ls : List (Int × Int × Int)) : Str := Txt.join nlS (rowsT c ns ls)
theorem word_free {n : Option Int} {s : Nat} (h : s < 45 ∨ 57 < s) : s ∉ TL.tl (wordS n) := by
  cases n with
  | none =>
    show s ∉ [45]
    simp
    omega
  | some i => exact num_free h
def Clean (s : Nat) (ws : List Str) : Prop := ∀ p ∈ ws, s ∉ TL.tl p
theorem cleanM {c : Int} {s : Nat} (h : s = 10 ∨ s = 32) : Clean s (wM c) := by
  intro p hp
  simp only [wM, List.mem_cons, List.not_mem_nil, or_false] at hp
  rcases hp with rfl | rfl
  · rcases h with rfl | rfl <;> decide
  · exact num_free (by omega)
theorem cleanE {n : Option Int} {s : Nat} (h : s = 10 ∨ s = 32) : Clean s (wE n) := by
  intro p hp
  simp only [wE, List.mem_cons, List.not_mem_nil, or_false] at hp
  rcases hp with rfl | rfl
  · rcases h with rfl | rfl <;> decide
  · exact word_free (by omega)
theorem cleanB {l : Int × Int × Int} {s : Nat} (h : s = 10 ∨ s = 32) : Clean s (wB l) := by
  intro p hp
  simp only [wB, List.mem_cons, List.not_mem_nil, or_false] at hp
  rcases hp with rfl | rfl | rfl | rfl
  · rcases h with rfl | rfl <;> decide
  · exact num_free (by omega)
  · exact num_free (by omega)
  · exact num_free (by omega)
theorem split_row {ws : List Str} (h : Clean 32 ws) (hne : ws ≠ []) : Txt.split (rowT ws) spS = ws := TL.split_join (s := 32) (S := []) rfl (by decide +kernel) hne h
theorem mem_joinL {S : List Nat} {x : Nat} : ∀ {ps : List (List Nat)}, x ∈ TL.joinL S ps → x ∈ S ∨ ∃ p ∈ ps, x ∈ p
  | [], h => absurd h (by simp [TL.joinL])
  | [p], h => Or.inr ⟨p, List.mem_singleton.mpr rfl, h⟩
  | p :: q :: r, h => by
    have z : x ∈ p ++ (S ++ TL.joinL S (q :: r)) := h
    rcases List.mem_append.mp z with z | z
    · exact Or.inr ⟨p, List.mem_cons_self, z⟩
    · rcases List.mem_append.mp z with z | z
      · exact Or.inl z
      · rcases mem_joinL z with z | ⟨p', hp', z⟩
        · exact Or.inl z
        · exact Or.inr ⟨p', List.mem_cons_of_mem _ hp', z⟩
theorem tl_row (ws : List Str) : TL.tl (rowT ws) = TL.joinL [32] (ws.map TL.tl) := by
  unfold rowT
  rw [TL.join_eq, TL.tl_join]
  rfl
theorem row_free {ws : List Str} (h : Clean 10 ws) : 10 ∉ TL.tl (rowT ws) := by
  rw [tl_row]
  intro hm
  rcases mem_joinL hm with z | ⟨p, hp, z⟩
  · simp at z
  · obtain ⟨q, hq, rfl⟩ := List.mem_map.mp hp
    exact h q hq z
theorem clean_rows (c : Int) (ns : List (Option Int)) (ls : List (Int × Int × Int)) : Clean 10 (rowsT c ns ls) := by
  intro p hp
  unfold rowsT at hp
  rcases List.mem_cons.mp hp with rfl | hp
  · exact row_free (cleanM (Or.inl rfl))
  · rcases List.mem_append.mp hp with hp | hp
    · obtain ⟨n, _, rfl⟩ := List.mem_map.mp hp
      exact row_free (cleanE (Or.inl rfl))
    · obtain ⟨l, _, rfl⟩ := List.mem_map.mp hp
      exact row_free (cleanB (Or.inl rfl))
theorem split_text (c : Int) (ns : List (Option Int)) (ls : List (Int × Int × Int)) : Txt.split (textT c ns ls) nlS = rowsT c ns ls := TL.split_join (s := 10) (S := []) rfl (by decide +kernel) (by unfold rowsT; simp) (clean_rows c ns ls)
theorem joinL_len {S : List Nat} : ∀ ps : List (List Nat), (TL.joinL S ps).length ≤ (ps.map List.length).sum + ps.length * S.length
  | [] => by simp [TL.joinL]
  | [p] => by
    show p.length ≤ _
    simp
  | p :: q :: r => by
    have z := joinL_len (S := S) (q :: r)
    have e : (TL.joinL S (p :: q :: r)).length = p.length + (S.length + (TL.joinL S (q :: r)).length) := by
      show (p ++ (S ++ TL.joinL S (q :: r))).length = _
      rw [List.length_append, List.length_append]
    rw [e, List.map_cons, List.sum_cons, List.length_cons, Nat.succ_mul]
    omega
theorem sum_len {ys : List Str} {k : Nat} (h : ∀ y ∈ ys, y.length ≤ k) : (ys.map (·.length)).sum ≤ ys.length * k := by
  induction ys with
  | nil => simp
  | cons y ys ih =>
    rw [List.map_cons, List.sum_cons, List.length_cons, Nat.succ_mul]
    have a := h y List.mem_cons_self
    have b := ih fun z hz => h z (List.mem_cons_of_mem _ hz)
    omega
theorem join_len {y : Str} {ys : List Str} {k : Nat} (h : ∀ x ∈ ys, x.length ≤ k) : (Txt.join y ys).length ≤ ys.length * k + ys.length * y.length := by
  rw [TL.len_tl, TL.join_eq, TL.tl_join]
  have z := joinL_len (S := TL.tl y) (ys.map TL.tl)
  have e : (ys.map TL.tl).map List.length = ys.map (·.length) := by
    rw [List.map_map]
    exact List.map_congr_left fun x _ => (TL.len_tl x).symm
  rw [e, List.length_map, ← TL.len_tl] at z
  have := sum_len h
  omega
def NumOk (i : Int) : Prop := -10000000000 < i ∧ i < 10000000000
theorem word_len {n : Option Int} (h : ∀ i, n = some i → NumOk i) : (wordS n).length ≤ 11 := by
  cases n with
  | none => decide
  | some i => exact num_len (h i rfl)
structure TOK (c : Int) (ns : List (Option Int)) (ls : List (Int × Int × Int)) : Prop where
  c : NumOk c
  n : ∀ i, some i ∈ ns → NumOk i
  l : ∀ l ∈ ls, NumOk l.1 ∧ NumOk l.2.1 ∧ NumOk l.2.2
  ns : ns.length ≤ 16
  ls : ls.length ≤ 60
theorem TOK.of {c w : Int} {ns : List (Option Int)} {ls : List (Int × Int × Int)} (h : DOK c ns ls w) (hw : w ≤ 1000000000) (h60 : ls.length ≤ 60) : TOK c ns ls := by
  have a := h.c2
  have b := h.c100
  have d := h.n16
  refine ⟨⟨by omega, by omega⟩, fun i hi => ?_, fun l hl => ?_, h.n16, h60⟩
  · have z := h.note i hi
    exact ⟨by omega, by omega⟩
  · obtain ⟨⟨x1, x2⟩, ⟨y1, y2⟩, z1, z2⟩ := h.line l hl
    exact ⟨⟨by omega, by omega⟩, ⟨by omega, by omega⟩, ⟨by omega, by omega⟩⟩
theorem row_len {ws : List Str} (h : ∀ x ∈ ws, x.length ≤ 11) (hl : ws.length ≤ 4) : (rowT ws).length ≤ 48 := by
  have z := join_len (y := spS) h
  have e : spS.length = 1 := rfl
  unfold rowT
  rw [e] at z
  omega
theorem rows_len {c : Int} {ns : List (Option Int)} {ls : List (Int × Int × Int)} (h : TOK c ns ls) : ∀ x ∈ rowsT c ns ls, x.length ≤ 48 := by
  intro x hx
  unfold rowsT at hx
  rcases List.mem_cons.mp hx with rfl | hx
  · refine row_len (fun y hy => ?_) (by simp [wM])
    simp only [wM, List.mem_cons, List.not_mem_nil, or_false] at hy
    rcases hy with rfl | rfl
    · decide
    · exact num_len h.c
  · rcases List.mem_append.mp hx with hx | hx
    · obtain ⟨n, hn, rfl⟩ := List.mem_map.mp hx
      refine row_len (fun y hy => ?_) (by simp [wE])
      simp only [wE, List.mem_cons, List.not_mem_nil, or_false] at hy
      rcases hy with rfl | rfl
      · decide
      · exact word_len fun i e => h.n i (e ▸ hn)
    · obtain ⟨l, hl, rfl⟩ := List.mem_map.mp hx
      obtain ⟨a, b, d⟩ := h.l l hl
      refine row_len (fun y hy => ?_) (by simp [wB])
      simp only [wB, List.mem_cons, List.not_mem_nil, or_false] at hy
      rcases hy with rfl | rfl | rfl | rfl
      · decide
      · exact num_len a
      · exact num_len b
      · exact num_len d
theorem rows_many {c : Int} {ns : List (Option Int)} {ls : List (Int × Int × Int)} : (rowsT c ns ls).length = 1 + ns.length + ls.length := by
  unfold rowsT
  rw [List.length_cons, List.length_append, List.length_map, List.length_map]
  omega
theorem text_len {c : Int} {ns : List (Option Int)} {ls : List (Int × Int × Int)} (h : TOK c ns ls) : (textT c ns ls).length ≤ 4000 := by
  have z := join_len (y := nlS) (rows_len h)
  have e : nlS.length = 1 := rfl
  have a := h.ns
  have b := h.ls
  unfold textT
  rw [e, rows_many] at z
  omega
/-! what f-strings and + give -/
theorem rowM_eq (c : Int) : (Str.ofString "modulus ") ++ numS c = rowT (wM c) := by
  apply TL.ext_tl
  rw [TL.tl_append, tl_row]
  rfl
theorem rowE_eq (n : Option Int) : (Str.ofString "event ") ++ wordS n = rowT (wE n) := by
  apply TL.ext_tl
  rw [TL.tl_append, tl_row]
  rfl
theorem rowB_eq (l : Int × Int × Int) : (Str.ofString "bound ") ++ numS l.1 ++ spS ++ numS l.2.1 ++ spS ++ numS l.2.2 = rowT (wB l) := by
  apply TL.ext_tl
  rw [TL.tl_append, TL.tl_append, TL.tl_append, TL.tl_append, TL.tl_append, tl_row]
  show _ = TL.tl (Str.ofString "bound") ++ ([32] ++ (TL.tl (numS l.1) ++ ([32] ++ (TL.tl (numS l.2.1) ++ ([32] ++ TL.tl (numS l.2.2))))))
  have e : TL.tl (Str.ofString "bound ") = TL.tl (Str.ofString "bound") ++ [32] := rfl
  rw [e]
  simp only [List.append_assoc]
  rfl
theorem rowB_eq2 (l : Int × Int × Int) : (Str.ofString "bound ") ++ Txt.join spS [numS l.1, numS l.2.1, numS l.2.2] = rowT (wB l) := by
  apply TL.ext_tl
  rw [TL.tl_append, tl_row, TL.join_eq, TL.tl_join]
  show TL.tl (Str.ofString "bound ") ++ (TL.tl (numS l.1) ++ ([32] ++ (TL.tl (numS l.2.1) ++ ([32] ++ TL.tl (numS l.2.2))))) = TL.tl (Str.ofString "bound") ++ ([32] ++ (TL.tl (numS l.1) ++ ([32] ++ (TL.tl (numS l.2.1) ++ ([32] ++ TL.tl (numS l.2.2))))))
  have e : TL.tl (Str.ofString "bound ") = TL.tl (Str.ofString "bound") ++ [32] := rfl
  rw [e, List.append_assoc]
/-! ### promises of the defs that write and read texts -/
def spWord : Sp := fun vs H Q _ => ∃ n : Option Int, vs = [noteV n] ∧ (∀ i, n = some i → NumOk i) ∧ Q (.str (wordS n)) H
def spText (DC : Addr) : Sp := fun vs H Q _ => ∃ (v : V) (c : Int) (ns : List (Option Int)) (ls : List (Int × Int × Int)), vs = [v] ∧ DiaAt DC H v c ns ls ∧ TOK c ns ls ∧ ∀ H', (∀ b o, H b = some o → H' b = some o) → Q (.str (textT c ns ls)) H'
def spNumber : Sp := fun vs H Q _ => ∃ i : Int, vs = [.str (numS i)] ∧ NumOk i ∧ Q (.int i) H
theorem log_ok {i : Int} (h : NumOk i) : i.natAbs.log2 < 1920 := by
  by_cases z : i.natAbs = 0
  · rw [z]
    decide
  · rw [Nat.log2_lt z]
    have : i.natAbs < 2 ^ 34 := by have := h.1; have := h.2; omega
    exact Nat.lt_of_lt_of_le this (Nat.pow_le_pow_right (by decide) (by decide))
theorem app_len (a b : Str) : (a ++ b).length = a.length + b.length := by rw [TL.len_tl, TL.tl_append, List.length_append, ← TL.len_tl, ← TL.len_tl]
theorem empty_app (a : Str) : Str.empty ++ a = a := by
  apply TL.ext_tl
  rw [TL.tl_append]
  rfl
section
variable {ts : List TE} {acc : Str} {σ : L2.St} {H : Hp} {Q : Str → Hp → Prop}
theorem g_js0 (h : Q acc H) : tJs [] acc σ H Q := h
theorem g_jsC {y : Str} (l : (acc ++ y).length ≤ 100000) (h : tJs ts (acc ++ y) σ H Q) : tJs (tC (.str y) :: ts) acc σ H Q := ⟨y, rfl, sz l, h⟩
theorem g_jsT {te : TE} (h : te σ H fun x H1 => (∃ y : Str, x = .str y ∧ y.length ≤ sizeLine ∧ ∃ z : Str, V.str y = .str z ∧ (acc ++ z).length ≤ sizeLine ∧ tJs ts (acc ++ z) σ H1 Q) ∨ ∃ i : Int, x = .int i ∧ i.natAbs.log2 < 1920 ∧ ∃ z : Str, V.str (toString i) = .str z ∧ (acc ++ z).length ≤ sizeLine ∧ tJs ts (acc ++ z) σ H1 Q) : tJs (tFmt te :: ts) acc σ H Q := h
theorem g_fI {i : Int} (ok : NumOk i) (l : (acc ++ numS i).length ≤ 100000) (q : tJs ts (acc ++ numS i) σ H Q) : (∃ y : Str, V.int i = .str y ∧ y.length ≤ sizeLine ∧ ∃ z : Str, V.str y = .str z ∧ (acc ++ z).length ≤ sizeLine ∧ tJs ts (acc ++ z) σ H Q) ∨ ∃ i' : Int, V.int i = .int i' ∧ i'.natAbs.log2 < 1920 ∧ ∃ z : Str, V.str (toString i') = .str z ∧ (acc ++ z).length ≤ sizeLine ∧ tJs ts (acc ++ z) σ H Q :=
  Or.inr ⟨i, rfl, log_ok ok, numS i, rfl, sz l, q⟩
theorem g_fS {x : Str} (l1 : x.length ≤ 100000) (l : (acc ++ x).length ≤ 100000) (q : tJs ts (acc ++ x) σ H Q) : (∃ y : Str, V.str x = .str y ∧ y.length ≤ sizeLine ∧ ∃ z : Str, V.str y = .str z ∧ (acc ++ z).length ≤ sizeLine ∧ tJs ts (acc ++ z) σ H Q) ∨ ∃ i' : Int, V.str x = .int i' ∧ i'.natAbs.log2 < 1920 ∧ ∃ z : Str, V.str (toString i') = .str z ∧ (acc ++ z).length ≤ sizeLine ∧ tJs ts (acc ++ z) σ H Q :=
  Or.inl ⟨x, rfl, sz l1, x, rfl, sz l, q⟩
theorem g_ext' {p b : Addr} {xs zs : List V} {R : VK} (h1 : H p = some (.lst xs)) (h2 : H b = some (.lst zs)) (l : xs.length + zs.length ≤ 100000) (q : R .non (upd H p (.lst (xs ++ zs)))) : rExtend (.ref p) [.ref b] H R := ⟨p, b, xs, zs, rfl, rfl, h1, h2, sz l, q⟩
end
theorem take1 {α β : Type} (f : α → β) (xs : List α) (i : Nat) (hi : i < xs.length) : (xs.take (i + 1)).map f = (xs.take i).map f ++ [f xs[i]] := by
  rw [List.take_succ, List.getElem?_eq_getElem hi, List.map_append]
  rfl
end WL
set_option Elab.async false
set_option linter.all false
set_option maxRecDepth 100000
set_option maxHeartbeats 4000000
namespace WL
open PySem PySem.Spec PyProof.Rows L2
/-! ### enumerate(row, start = k) over a tuple -/
def IsNT (K : PySem.W.Frag) (a : Addr) (k : Int) (xs : List V) : It where
  go := fun i H => SqT K H a xs ∧ i < xs.length
  yld := fun i H v H' => ∃ T x, v = .ref T ∧ H T = none ∧ H' = upd H T (.tup [.int (k + (i : Nat)), x]) ∧ xs[i]? = some x
  stop := fun i H => SqT K H a xs ∧ i = xs.length
def iSNT (K : PySem.W.Frag) (k : Int) (ta : TA) : TI := fun σ H R => ta σ H fun vs H1 => ∃ a xs, vs = [.ref a] ∧ SqT K H1 a xs ∧ R (IsNT K a k xs) H1
theorem turn_sNT {P : Program} {w : World} {K : PySem.W.Frag} {elts : List Expr} {kk : Nat} {tpos : Pos} (a e it : Addr) (k : Int) (xs : List V) :
    Turn P w K (.Tuple elts kk tpos) (IsNT K a k xs) [e, it] e fun i h => (∃ old, IsEnum h e it (k + (i : Nat)) old) ∧ h.IsTupleIter it a i ∧ e ≠ it ∧ a ≠ it ∧ a ≠ e where
  mem := by simp
  obj := by
    rintro i h ⟨⟨old, he⟩, ⟨o, ho, hc, hd⟩, _⟩ b hb
    simp only [List.mem_cons, List.not_mem_nil, or_false] at hb
    rcases hb with rfl | rfl
    · exact ⟨_, he, fun v q => by cases q⟩
    · exact ⟨_, ho, fun v q => by rw [hd] at q; cases q⟩
  keep := by
    rintro i h h' ⟨⟨old, he⟩, hi, hne⟩ k
    exact ⟨⟨old, k e (by simp) _ he⟩, Heap.IsTupleIter.at hi (fun o q => k it (by simp) o q), hne⟩
  item := by
    intro X hP hw hK hc i pins s σ H E I hf st hg
    subst hP; subst hw; subst hK
    obtain ⟨⟨old, he⟩, hit, hne, h1, h2⟩ := st
    obtain ⟨hq, hlt⟩ := hg
    obtain ⟨its, rv, ht, hz⟩ := Inv.tuple I hq
    obtain ⟨u, hu, ru⟩ := Vals.get rv (i := i) (x := xs[i]) (by simp [hlt])
    have hel := Heap.lt_size he
    have hil : it < s.heap.objs.size := by obtain ⟨o, ho, _⟩ := hit; exact Heap.lt_size ho
    have hln := rv.length
    have htt : s.heap.IsTuple a its.toArray := ht
    refine wpAny_pyNext_enum_itemC (Draws.tuple (A := X.A.in1) (show X.A.in1.handled = none from I.ok.hd hc) it a h1 its.toArray) he ⟨hit, htt⟩ (by simp only [List.size_toArray]; omega) hne (by simp [hne, Ne.symm h2]) fun x h' tk hx ho hst hT hsz hk => ?_
    have ex : x = u := by
      have : its[i]? = some x := by simpa using hx
      rw [hu] at this
      exact (Option.some.inj this).symm
    subst ex
    refine ⟨_, rfl, wpAny_letOwnedTupleGo_enum ho fun h'' he' sb => ?_⟩
    have hT2 := (sb.2 s.heap.objs.size (Nat.ne_of_gt hel)).trans hT
    have I1 := Inv.turnedNew (h' := h'') (ch := [e, it]) (T := s.heap.objs.size) (ob := .tup [.int (k + (i : Nat)), xs[i]]) (t' := tk + 1) I
      (fun b ob hb q => (sb.2 b (fun z => hb (by simp [z]))).trans (hk b ob (fun z => hb (by simp [z])) (fun z => hb (by simp [z])) q)) hf (Nat.le_refl _)
      ⟨sz (by simp), [.int (k + (i : Nat)) tk, x], .cons ⟨tk, rfl⟩ (.cons ru .nil), _, hT2, rfl, 0, rfl⟩
    refine ⟨.ref s.heap.objs.size, _, I1, rfl, ⟨_, _, rfl, HOk.fresh I.hok (Nat.le_refl _), rfl, by simp [hlt]⟩, ⟨⟨x, ?_⟩, ?_, hne, h1, h2⟩, fun b hb => ?_⟩
    · have e1 : k + ((i + 1 : Nat) : Int) = k + (i : Nat) + 1 := by omega
      rw [e1]
      exact he'
    · exact Heap.IsTupleIter.at hst.1 (fun o q => (sb.2 it (Ne.symm hne)).trans q)
    · have hb' : b < s.heap.objs.size := by
        simp only [List.mem_cons, List.not_mem_nil, or_false] at hb
        rcases hb with rfl | rfl
        · exact hel
        · exact hil
      rw [upd_ne (Nat.ne_of_lt hb')]
      exact (hf b hb).1
  done := by
    intro X hP hw hK hc i pins s σ H E I hf st hg
    subst hP; subst hw; subst hK
    obtain ⟨⟨old, he⟩, hit, hne, h1, h2⟩ := st
    obtain ⟨hq, hle⟩ := hg
    obtain ⟨its, rv, ht, hz⟩ := Inv.tuple I hq
    have hln := rv.length
    obtain ⟨f0, f1, f2, f3, f4, f5⟩ := hf it (by simp)
    have htt : s.heap.IsTuple a its.toArray := ht
    have hi : i = its.toArray.size := by simp only [List.size_toArray]; omega
    subst hi
    refine wpAny_pyNext_enum_endD (Draws.tuple (A := X.A.in1) (show X.A.in1.handled = none from I.ok.hd hc) it a h1 its.toArray) he ⟨hit, htt⟩ fun h' eb => ⟨rfl, ?_⟩
    exact Inv.turned I (fun b o hb q => eb b o hb q) f0 f1 f3 f4 f5
  self := by
    rintro A i s Q E ⟨⟨old, he⟩, _⟩ h
    exact wpAny_pyIter_enum he h
theorem pi_sNT {X : Cx} {e : Expr} {ta : TA} {p pos tpos p1 p2 : Pos} {elts : List Expr} {kk j : Nat} {k : Int} (hg : Gl X "enumerate") (hm : X.mg "enumerate" = none) (ha : PA X [e] ta) (hk0 : -(2 ^ 63) ≤ k) (hk1 : k < 2 ^ 63)
    (he : starEach [e] X.env = (false, eval e X.env) :: starEach [] X.env := by rfl) :
    PI X (.Tuple elts kk tpos) (.Call (.Name "enumerate" p) [e] [⟨some "start", .Constant (.int k) j p1, p2⟩] pos) (iSNT X.K k ta) := by
  constructor
  intro pins s σ H R I h
  refine wpAny_Call_Name_kw (ld_blt I hg hm PyProof.Rows.boot_enumerate ?_)
  refine PySem.W.callWith_of (P := fun _ => True) (by rw [he]; rfl) (fun h _ => ⟨.machine, .inr (.inl rfl), PySem.W.Looks.of_pure rfl⟩) ?_
  refine evalArgs_kw2 rfl (thn (ha.run pos pins s σ H _ I h) ?_) he
  rintro us s1 ⟨vs, H1, I1, r1, a, xs, rfl, hq, q⟩
  cases r1 with
  | cons r rr =>
    cases rr
    cases r
    refine thn (PK.run (X := X) (pk_cons (nm := some "start") (kpos := p2) (pe_int (X := X) (i := k) (j := j) (pos := p1)) pk_nil) pos pins s1 σ H1 (fun zs H2 => zs = [.int k] ∧ H2 = H1) I1 (show _ ∧ _ from ⟨rfl, rfl⟩)) ?_
    rintro ws s2 ⟨zs, H2, I2, rz, rfl, rfl⟩
    obtain ⟨u, rfl, t, rfl⟩ := vals1 rz
    obtain ⟨its, rv, ht, hz⟩ := Inv.tuple I2 hq
    have htt : s2.heap.IsTuple a its.toArray := ht
    have hlt : a < s2.heap.objs.size := by obtain ⟨o, ho, _⟩ := id htt; exact Heap.lt_size ho
    refine ⟨trivial, enum_begins_start (begins_tuple a its.toArray) htt hk0 hk1 fun h' he hit hsz hk => ?_⟩
    refine wpAny_pyIter_enum he ?_
    have I3 := Inv.kept (t' := s2.toks) I2 hk
    have he0 : IsEnum h' (s2.heap.objs.size + 1) s2.heap.objs.size (k + ((0 : Nat) : Int)) .none := by
      rw [show k + ((0 : Nat) : Int) = k by omega]
      exact he
    refine ⟨_, [s2.heap.objs.size + 1, s2.heap.objs.size], _, IsNT X.K a k xs, _, rfl, I3, turn_sNT a (s2.heap.objs.size + 1) s2.heap.objs.size k xs, ⟨⟨_, he0⟩, ⟨_, hit, rfl, rfl⟩, Nat.succ_ne_self _, Nat.ne_of_lt hlt, Nat.ne_of_lt (Nat.lt_succ_of_lt hlt)⟩, fun b hb => ?_, q⟩
    have hle : s2.heap.objs.size ≤ b := by
      simp only [List.mem_cons, List.not_mem_nil, or_false] at hb
      rcases hb with rfl | rfl
      · exact Nat.le_succ _
      · exact Nat.le_refl _
    exact Inv.fpOk I2 hle (HOk.fresh I2.hok hle)
theorem g_sNT {K : PySem.W.Frag} {σ : L2.St} {H : Hp} {k : Int} {ta : TA} {R : It → Hp → Prop} (h : ta σ H fun vs H1 => ∃ a xs, vs = [.ref a] ∧ SqT K H1 a xs ∧ R (IsNT K a k xs) H1) : iSNT K k ta σ H R := h
theorem g_oneNT {K : PySem.W.Frag} {a : Addr} {xs : List V} {H : Hp} {P : Addr → List V → Prop} (h1 : SqT K H a xs) (h : P a xs) : ∃ a' xs', [V.ref a] = [V.ref a'] ∧ SqT K H a' xs' ∧ P a' xs' := ⟨a, xs, rfl, h1, h⟩
theorem ForQ.sNT {K : PySem.W.Frag} {g : TG} {tb : TS} {D : Ends} {σ : L2.St} {H1 : Hp} {a : Addr} {k : Int} {xs : List V} (I : Nat → L2.St → Hp → Prop) (h0 : I 0 σ H1) (hl : ∀ i σ H, i ≤ xs.length → I i σ H → SqT K H a xs)
    (hs : ∀ (i : Nat) (x : V) (T : Addr) (σ : L2.St) (H : Hp), xs[i]? = some x → I i σ H → H T = none → g (.ref T) σ (upd H T (.tup [.int (k + (i : Nat)), x])) fun σ2 H2 => tb { D with nx := I (i + 1), ct := I (i + 1), bk := D.nx } σ2 H2) (hd : ∀ σ H, I xs.length σ H → D.nx σ H) : ForQ g tb D σ (IsNT K a k xs) H1 := by
  refine ⟨fun i m σ H => i ≤ xs.length ∧ m = xs.length - i ∧ I i σ H, ⟨_, Nat.zero_le _, rfl, h0⟩, ?_⟩
  intro i m σ H ⟨hi, hm, hp⟩
  have hS := hl i σ H hi hp
  by_cases e : i = xs.length
  · subst e
    exact Or.inl ⟨⟨hS, rfl⟩, hd _ _ hp⟩
  · have hlt : i < xs.length := by omega
    refine Or.inr ⟨⟨hS, hlt⟩, I (i + 1), fun σ' H' h => ⟨xs.length - (i + 1), by omega, by omega, rfl, h⟩, ?_⟩
    intro v H' hy
    obtain ⟨T, x, e1, hT, e2, hx⟩ := hy
    subst e1; subst e2
    exact hs i x T σ H hx hp hT
/-! ### enumerate(row, start = k) over a list -/
def IsNL (K : PySem.W.Frag) (a : Addr) (k : Int) (xs : List V) : It where
  go := fun i H => SqL K H a xs ∧ i < xs.length
  yld := fun i H v H' => ∃ T x, v = .ref T ∧ H T = none ∧ H' = upd H T (.tup [.int (k + (i : Nat)), x]) ∧ xs[i]? = some x
  stop := fun i H => SqL K H a xs ∧ i = xs.length
def iSNL (K : PySem.W.Frag) (k : Int) (ta : TA) : TI := fun σ H R => ta σ H fun vs H1 => ∃ a xs, vs = [.ref a] ∧ SqL K H1 a xs ∧ R (IsNL K a k xs) H1
theorem turn_sNL {P : Program} {w : World} {K : PySem.W.Frag} {elts : List Expr} {kk : Nat} {tpos : Pos} (a e it : Addr) (k : Int) (xs : List V) :
    Turn P w K (.Tuple elts kk tpos) (IsNL K a k xs) [e, it] e fun i h => (∃ old, IsEnum h e it (k + (i : Nat)) old) ∧ h.IsListIter it a i ∧ e ≠ it ∧ a ≠ it ∧ a ≠ e where
  mem := by simp
  obj := by
    rintro i h ⟨⟨old, he⟩, ⟨o, ho, hc, hd⟩, _⟩ b hb
    simp only [List.mem_cons, List.not_mem_nil, or_false] at hb
    rcases hb with rfl | rfl
    · exact ⟨_, he, fun v q => by cases q⟩
    · exact ⟨_, ho, fun v q => by rw [hd] at q; cases q⟩
  keep := by
    rintro i h h' ⟨⟨old, he⟩, hi, hne⟩ k
    exact ⟨⟨old, k e (by simp) _ he⟩, Heap.IsListIter.at hi (fun o q => k it (by simp) o q), hne⟩
  item := by
    intro X hP hw hK hc i pins s σ H E I hf st hg
    subst hP; subst hw; subst hK
    obtain ⟨⟨old, he⟩, hit, hne, h1, h2⟩ := st
    obtain ⟨hq, hlt⟩ := hg
    obtain ⟨its, rv, ht, hz⟩ := Inv.list I hq
    obtain ⟨u, hu, ru⟩ := Vals.get rv (i := i) (x := xs[i]) (by simp [hlt])
    have hel := Heap.lt_size he
    have hil : it < s.heap.objs.size := by obtain ⟨o, ho, _⟩ := hit; exact Heap.lt_size ho
    have hln := rv.length
    have htt : s.heap.IsList a its.toArray := ht.isList
    refine wpAny_pyNext_enum_itemC (Draws.list (A := X.A.in1) (show X.A.in1.handled = none from I.ok.hd hc) it a h1 its.toArray) he ⟨hit, htt⟩ (by simp only [List.size_toArray]; omega) hne (by simp [hne, Ne.symm h2]) fun x h' tk hx ho hst hT hsz hk => ?_
    have ex : x = u := by
      have : its[i]? = some x := by simpa using hx
      rw [hu] at this
      exact (Option.some.inj this).symm
    subst ex
    refine ⟨_, rfl, wpAny_letOwnedTupleGo_enum ho fun h'' he' sb => ?_⟩
    have hT2 := (sb.2 s.heap.objs.size (Nat.ne_of_gt hel)).trans hT
    have I1 := Inv.turnedNew (h' := h'') (ch := [e, it]) (T := s.heap.objs.size) (ob := .tup [.int (k + (i : Nat)), xs[i]]) (t' := tk + 1) I
      (fun b ob hb q => (sb.2 b (fun z => hb (by simp [z]))).trans (hk b ob (fun z => hb (by simp [z])) (fun z => hb (by simp [z])) q)) hf (Nat.le_refl _)
      ⟨sz (by simp), [.int (k + (i : Nat)) tk, x], .cons ⟨tk, rfl⟩ (.cons ru .nil), _, hT2, rfl, 0, rfl⟩
    refine ⟨.ref s.heap.objs.size, _, I1, rfl, ⟨_, _, rfl, HOk.fresh I.hok (Nat.le_refl _), rfl, by simp [hlt]⟩, ⟨⟨x, ?_⟩, ?_, hne, h1, h2⟩, fun b hb => ?_⟩
    · have e1 : k + ((i + 1 : Nat) : Int) = k + (i : Nat) + 1 := by omega
      rw [e1]
      exact he'
    · exact Heap.IsListIter.at hst.1 (fun o q => (sb.2 it (Ne.symm hne)).trans q)
    · have hb' : b < s.heap.objs.size := by
        simp only [List.mem_cons, List.not_mem_nil, or_false] at hb
        rcases hb with rfl | rfl
        · exact hel
        · exact hil
      rw [upd_ne (Nat.ne_of_lt hb')]
      exact (hf b hb).1
  done := by
    intro X hP hw hK hc i pins s σ H E I hf st hg
    subst hP; subst hw; subst hK
    obtain ⟨⟨old, he⟩, hit, hne, h1, h2⟩ := st
    obtain ⟨hq, hle⟩ := hg
    obtain ⟨its, rv, ht, hz⟩ := Inv.list I hq
    have hln := rv.length
    obtain ⟨f0, f1, f2, f3, f4, f5⟩ := hf it (by simp)
    have htt : s.heap.IsList a its.toArray := ht.isList
    have hi : i = its.toArray.size := by simp only [List.size_toArray]; omega
    subst hi
    refine wpAny_pyNext_enum_endD (Draws.list (A := X.A.in1) (show X.A.in1.handled = none from I.ok.hd hc) it a h1 its.toArray) he ⟨hit, htt⟩ fun h' eb => ⟨rfl, ?_⟩
    exact Inv.turned I (fun b o hb q => eb b o hb q) f0 f1 f3 f4 f5
  self := by
    rintro A i s Q E ⟨⟨old, he⟩, _⟩ h
    exact wpAny_pyIter_enum he h
theorem pi_sNL {X : Cx} {e : Expr} {ta : TA} {p pos tpos p1 p2 : Pos} {elts : List Expr} {kk j : Nat} {k : Int} (hg : Gl X "enumerate") (hm : X.mg "enumerate" = none) (ha : PA X [e] ta) (hk0 : -(2 ^ 63) ≤ k) (hk1 : k < 2 ^ 63)
    (he : starEach [e] X.env = (false, eval e X.env) :: starEach [] X.env := by rfl) :
    PI X (.Tuple elts kk tpos) (.Call (.Name "enumerate" p) [e] [⟨some "start", .Constant (.int k) j p1, p2⟩] pos) (iSNL X.K k ta) := by
  constructor
  intro pins s σ H R I h
  refine wpAny_Call_Name_kw (ld_blt I hg hm PyProof.Rows.boot_enumerate ?_)
  refine PySem.W.callWith_of (P := fun _ => True) (by rw [he]; rfl) (fun h _ => ⟨.machine, .inr (.inl rfl), PySem.W.Looks.of_pure rfl⟩) ?_
  refine evalArgs_kw2 rfl (thn (ha.run pos pins s σ H _ I h) ?_) he
  rintro us s1 ⟨vs, H1, I1, r1, a, xs, rfl, hq, q⟩
  cases r1 with
  | cons r rr =>
    cases rr
    cases r
    refine thn (PK.run (X := X) (pk_cons (nm := some "start") (kpos := p2) (pe_int (X := X) (i := k) (j := j) (pos := p1)) pk_nil) pos pins s1 σ H1 (fun zs H2 => zs = [.int k] ∧ H2 = H1) I1 (show _ ∧ _ from ⟨rfl, rfl⟩)) ?_
    rintro ws s2 ⟨zs, H2, I2, rz, rfl, rfl⟩
    obtain ⟨u, rfl, t, rfl⟩ := vals1 rz
    obtain ⟨its, rv, ht, hz⟩ := Inv.list I2 hq
    have htt : s2.heap.IsList a its.toArray := ht.isList
    have hlt : a < s2.heap.objs.size := by obtain ⟨o, ho, _⟩ := id htt; exact Heap.lt_size ho
    refine ⟨trivial, enum_begins_start (begins_list a its.toArray) htt hk0 hk1 fun h' he hit hsz hk => ?_⟩
    refine wpAny_pyIter_enum he ?_
    have I3 := Inv.kept (t' := s2.toks) I2 hk
    have he0 : IsEnum h' (s2.heap.objs.size + 1) s2.heap.objs.size (k + ((0 : Nat) : Int)) .none := by
      rw [show k + ((0 : Nat) : Int) = k by omega]
      exact he
    refine ⟨_, [s2.heap.objs.size + 1, s2.heap.objs.size], _, IsNL X.K a k xs, _, rfl, I3, turn_sNL a (s2.heap.objs.size + 1) s2.heap.objs.size k xs, ⟨⟨_, he0⟩, ⟨_, hit, rfl, rfl⟩, Nat.succ_ne_self _, Nat.ne_of_lt hlt, Nat.ne_of_lt (Nat.lt_succ_of_lt hlt)⟩, fun b hb => ?_, q⟩
    have hle : s2.heap.objs.size ≤ b := by
      simp only [List.mem_cons, List.not_mem_nil, or_false] at hb
      rcases hb with rfl | rfl
      · exact Nat.le_succ _
      · exact Nat.le_refl _
    exact Inv.fpOk I2 hle (HOk.fresh I2.hok hle)
theorem g_sNL {K : PySem.W.Frag} {σ : L2.St} {H : Hp} {k : Int} {ta : TA} {R : It → Hp → Prop} (h : ta σ H fun vs H1 => ∃ a xs, vs = [.ref a] ∧ SqL K H1 a xs ∧ R (IsNL K a k xs) H1) : iSNL K k ta σ H R := h
theorem g_oneNL {K : PySem.W.Frag} {a : Addr} {xs : List V} {H : Hp} {P : Addr → List V → Prop} (h1 : SqL K H a xs) (h : P a xs) : ∃ a' xs', [V.ref a] = [V.ref a'] ∧ SqL K H a' xs' ∧ P a' xs' := ⟨a, xs, rfl, h1, h⟩
theorem ForQ.sNL {K : PySem.W.Frag} {g : TG} {tb : TS} {D : Ends} {σ : L2.St} {H1 : Hp} {a : Addr} {k : Int} {xs : List V} (I : Nat → L2.St → Hp → Prop) (h0 : I 0 σ H1) (hl : ∀ i σ H, i ≤ xs.length → I i σ H → SqL K H a xs)
    (hs : ∀ (i : Nat) (x : V) (T : Addr) (σ : L2.St) (H : Hp), xs[i]? = some x → I i σ H → H T = none → g (.ref T) σ (upd H T (.tup [.int (k + (i : Nat)), x])) fun σ2 H2 => tb { D with nx := I (i + 1), ct := I (i + 1), bk := D.nx } σ2 H2) (hd : ∀ σ H, I xs.length σ H → D.nx σ H) : ForQ g tb D σ (IsNL K a k xs) H1 := by
  refine ⟨fun i m σ H => i ≤ xs.length ∧ m = xs.length - i ∧ I i σ H, ⟨_, Nat.zero_le _, rfl, h0⟩, ?_⟩
  intro i m σ H ⟨hi, hm, hp⟩
  have hS := hl i σ H hi hp
  by_cases e : i = xs.length
  · subst e
    exact Or.inl ⟨⟨hS, rfl⟩, hd _ _ hp⟩
  · have hlt : i < xs.length := by omega
    refine Or.inr ⟨⟨hS, hlt⟩, I (i + 1), fun σ' H' h => ⟨xs.length - (i + 1), by omega, by omega, rfl, h⟩, ?_⟩
    intro v H' hy
    obtain ⟨T, x, e1, hT, e2, hx⟩ := hy
    subst e1; subst e2
    exact hs i x T σ H hx hp hT

/-! ### a def called by keywords alone -/
structure HasK0 (P : Program) (w : World) (K : PySem.W.Frag) (mg : Str → Option Value) (base : Heap) (k : Nat) (x : Str) (ps : List Str) (sp : Sp) : Prop where
  ex : ∃ fa fd, mg x = some (.ref fa) ∧ PySem.W.keepIn K (.ref fa) = true ∧ KBn K fd ps 0 ps (fun us ws => us ++ ws) (fun vs zs => vs ++ zs) ∧ FnOk P w K mg base CX0 k fa fd ps sp
def tCallK0 (n : Nat) (sp : Sp) (tk : TA) : TE := fun σ H Q => tk σ H fun zs H1 => zs.length = n ∧ sp zs H1 Q E0
theorem pe_hasK0 {X : Cx} {k j : Nat} {x : Str} {ps : List Str} {sp : Sp} {tk : TA} {p pos : Pos} {kws : List Keyword} (h : HasK0 X.prog X.w X.K X.mg X.base k x ps sp) (room : Room j X.A) (le : k ≤ j) (hkw : PK X kws tk) (gl : Gl X x := by rfl) (db : (x == ("__debug__" : Str)) = false := by decide)
    (hall : (backToKw pos (keywordEach kws X.env)).all (·.1.isSome) = true := by rfl) (hks : (backToKw pos (keywordEach kws X.env)).filterMap (·.1) = ps := by rfl)
    (hpl : ((backTo pos (starEach [] X.env)).any (·.1) || (backToKw pos (keywordEach kws X.env)).any (·.1.isNone)) = false := by rfl) :
    PE X (.Call (.Name x p) [] kws pos) (tCallK0 ps.length sp tk) := by
  obtain ⟨fa, fd, m, kp, b, F⟩ := h.ex
  constructor
  intro pins s σ H Q I w0
  refine wpAny_Call_Name_kw (ld_glob I gl m ?_ db)
  refine PySem.W.callWith_KW0 (first := []) (h₀ := X.base) I.ok.mod.kin kp hall (thn (hkw.run pos pins s σ H _ I w0) ?_) hpl
  rintro ws s2 ⟨zs, H2, I2, rz, l2, q2⟩
  refine ⟨I2.kIn, ?_⟩
  rw [hks]
  exact run_fnN (us := []) (vs := []) F (room.mono le) b pass0 I2 .nil rz rfl l2 q2
theorem g_m1 {r : V → List V → Hp → VK → Prop} {to te : TE} {σ : L2.St} {H : Hp} {Q : VK} (h : to σ H fun x H1 => (∃ a, x = .str a) ∧ te σ H1 fun y H2 => r x [y] H2 Q) : tM1 r to te σ H Q := h
theorem g_m0 {r : V → List V → Hp → VK → Prop} {to : TE} {σ : L2.St} {H : Hp} {Q : VK} (h : to σ H fun x H1 => (∃ a, x = .str a) ∧ r x [] H1 Q) : tM0 r to σ H Q := h
theorem g_callK0 {n : Nat} {sp : Sp} {tk : TA} {σ : L2.St} {H : Hp} {Q : VK} (h : tk σ H fun zs H1 => zs.length = n ∧ sp zs H1 Q E0) : tCallK0 n sp tk σ H Q := h
end WL
set_option Elab.async false
set_option linter.all false
set_option maxRecDepth 100000
set_option maxHeartbeats 4000000
namespace WL
open PySem PySem.Spec PyProof.Rows L2
/-! ### exceptions of two fields, the second left to its default None -/
section
variable {prog : Program} {w : World} {A : Around} {E : Value → Shared → Prop} {K : PySem.W.Frag} {mg : Str → Option Value} {C fI : Addr} {fd : FuncData} {h : Heap} {g : Array GenState} {d : Drawn} {t : Nat} {os : OsState}
theorem ex_init2a {x t0 : Addr} {ar : Args} {v1 v2 : Value} {f1 f2 : Str} {mb : Str → Option Value} {R : Result → Shared → Prop} (T : ExT prog K mg [f1, f2] C fI) (J : ExI prog K [f1, f2] C fI fd) (X : K.In h) (G : h.Ns mainGlobals mg) (B : h.Ns builtinsNs mb) (bb : ∀ x : Str, x ≠ "__name__" → mb x = bootBuiltins x) (lim : h.NoLimit) (room : A.depth < recursionLimit)
    (hx : h.get? x = some (HandSPX.excO C t0)) (hxK : K.lookup x = none) (d1 : (f1 == ("__debug__" : Str)) = false) (d2 : (f2 == ("__debug__" : Str)) = false) (n1 : f1 ≠ ("self" : Str)) (n2 : f2 ≠ ("self" : Str)) (n12 : f1 ≠ f2)
    (hb : ∀ s : Shared, K.In s.heap → BindsTo s fd ar [("self", .ref x), (f1, v1), (f2, v2)])
    (hq : ∀ h' t' dx, (∀ b o, b ≠ x → h.get? b = some o → h'.get? b = some o) → h.objs.size ≤ dx → dx ≠ x → ExAt h' x C dx (fun y => if y = f2 then some v2 else if y = f1 then some v1 else none) → R (.ok (.ret .none)) ⟨h', g, d, t', os⟩) :
    codeAny (model prog w) A (.call (.ref fI) ar) R ⟨h, g, d, t, os⟩ := by
  obtain ⟨oc, od, osl, lk⟩ := J.at_
  obtain ⟨msg, k, q, qs, hbody, hlen, hpos⟩ := J.body
  have ok := J.ok
  unfold scOk at ok
  obtain ⟨o1, ok⟩ := He.ba ok
  obtain ⟨_, ok⟩ := He.ba ok
  obtain ⟨_, ok⟩ := He.ba ok
  obtain ⟨o4, o5⟩ := He.ba ok
  have ls : fd.scope.names.lookup ("self" : Str) = some .local := of_decide_eq_true o1
  have m1 : f1 ∈ [f1, f2] := List.mem_cons_self
  have m2 : f2 ∈ [f1, f2] := List.mem_cons_of_mem _ List.mem_cons_self
  have lf1 : fd.scope.names.lookup f1 = some .local := of_decide_eq_true (List.all_eq_true.mp o4 f1 m1)
  have lf2 : fd.scope.names.lookup f2 = some .local := of_decide_eq_true (List.all_eq_true.mp o4 f2 m2)
  match qs, hlen with
  | [q1, q2], _ =>
    have lk3 := look3 (a := Value.ref x) (b := v1) (c := v2) n1 n2 n12
    refine ks_codeAny_call_defAt (binds := [("self", .ref x), (f1, v1), (f2, v2)]) room (X _ _ lk) rfl lim (PySem.W.codeRec_of X J.rec_) hbody (hb _ X) (fun y hy => of_decide_eq_true (List.all_eq_true.mp o5 y hy)) (fun y hy => ?_) ?_ J.co J.gen J.kind
    · rcases List.mem_cons.mp hy with rfl | hy
      · exact ls
      · rcases List.mem_cons.mp hy with rfl | hy
        · exact lf1
        · rw [List.mem_singleton.mp hy]
          exact lf2
    · intro h0 hn0 k0
      have Lx : h.objs.size ≠ x := Nat.ne_of_gt (Heap.lt_size hx)
      refine ks_wpAt_execs_cons (sup_step T J (X.keeps k0) (G.keeps k0) (B.keeps k0) bb hpos hn0 lk3.1 (k0 _ _ hx) ?_)
      intro h1 t1 tt k1 hx1
      have kK : ∀ b o, K.lookup b = some o → b ≠ x := fun b o e z => by rw [z, hxK] at e; cases e
      have X1 : K.In h1 := fun b o e => k1 b o (kK b o e) (k0 _ _ (X b o e))
      obtain ⟨oL, es, ep, hoL, r1, r2⟩ := hn0
      have hoL1 := k1 _ _ Lx hoL
      have hn1 : h1.Ns h.objs.size _ := ⟨oL, es, ep, hoL1, r1, r2⟩
      refine wpAt_of_wpAny (wpAny_execs_cons (fld_first T m1 X1 J.kind ls lf1 d1 hn1 lk3.1 lk3.2.1 hx1 ?_))
      intro h2 t2 dx k2 dn dne ex
      have X2 : K.In h2 := fun b o e => k2 b o (kK b o e) (X1 b o e)
      have hn2 : h2.Ns h.objs.size _ := ⟨oL, es, ep, k2 _ _ Lx hoL1, r1, r2⟩
      have hsz : h.objs.size ≤ h1.objs.size := Nat.le_of_lt (Heap.lt_size hoL1)
      have hi : Within (fun y : Str => if y = f1 then some v1 else none) [f1] := fun y hy => by
        by_cases e : y = f1
        · rw [e]; exact List.mem_cons_self
        · exact absurd (if_neg e) hy
      refine wpAny_execs_cons (fld_next T m2 X2 J.kind ls lf2 d2 hn2 lk3.1 lk3.2.2 ex hi (by simp) ?_)
      intro h3 t3 k3 ex3
      refine wpAny_execs_nil (hq h3 t3 dx (fun b o hb e => ?_) (Nat.le_trans hsz dn) dne ex3)
      have e2 := k2 b o hb (k1 b o hb (k0 b o e))
      by_cases z : b = dx
      · have lt := Heap.lt_size e
        rw [z] at lt
        exact absurd (Nat.lt_of_lt_of_le lt (Nat.le_trans hsz dn)) (Nat.lt_irrefl _)
      · exact k3 b o z e2
end
section
variable {X : Cx} {f1 f2 : Str} {C fI : Addr} {fd : FuncData}
def tMkEx2d (C : Addr) (f1 f2 : Str) (ta : TA) : L2.St → Hp → XK → Prop := fun σ H Q => ta σ H fun vs H1 => ∃ v, vs = [v] ∧ ∀ d, H1 d = none → Q (.ref C) (some d) (upd H1 d (.xd [(f1, v), (f2, .non)]))
theorem g_mkex2d {ta : TA} {σ : L2.St} {H : Hp} {Q : XK} (h : ta σ H fun vs H1 => ∃ v, vs = [v] ∧ ∀ (d : Addr), H1 d = none → Q (.ref C) (some d) (upd H1 d (.xd [(f1, v), (f2, .non)]))) : tMkEx2d C f1 f2 ta σ H Q := h
theorem pmk_ex2d {x : Str} {e1 : Expr} {ta : TA} {p pos : Pos} {k : Nat} (T : ExT X.prog X.K X.mg [f1, f2] C fI) (J : ExI X.prog X.K [f1, f2] C fI fd) (hr : Room k X.A) (gC : X.mg x = some (.ref C)) (d1 : (f1 == ("__debug__" : Str)) = false) (d2 : (f2 == ("__debug__" : Str)) = false) (n1 : f1 ≠ ("self" : Str)) (n2 : f2 ≠ ("self" : Str)) (n12 : f1 ≠ f2)
    (hb : ∀ (s : Shared) (u v1 : Value), X.K.In s.heap → BindsTo s fd ⟨[u, v1], []⟩ [(("self" : Str), u), (f1, v1), (f2, Value.none)]) (ha : PA X [e1] ta) (hg : Gl X x := by rfl) (hd : (x == ("__debug__" : Str)) = false := by decide)
    (h1 : starEach [e1] X.env = (false, eval e1 X.env) :: starEach [] X.env := by rfl) (h2 : (backTo pos (starEach [] X.env)).any (·.1) = false := by rfl) :
    PMk X (.Call (.Name x p) [e1] [] pos) (tMkEx2d C f1 f2 ta) := by
  intro pins s σ H Q I h
  refine wpAny_Call_Name_kw (ld_glob I hg gC ?_ hd)
  refine PySem.W.callWith_K (h₀ := X.base) I.ok.mod.kin T.kC (thn (ha.run pos pins s σ H _ I h) ?_) h1 h2
  rintro us s1 ⟨vs, H1, I1, r1, v, ev, q1⟩
  subst ev
  refine ⟨I1.kIn, ?_⟩
  obtain ⟨u, rfl, ru⟩ := vals1 r1
  obtain ⟨nm, qn, N, bs, bm, sn, sub, ab, col, dd, k0, k1, k2, k3, k5, hC, hbm⟩ := T.cls
  have lim := I1.nolimit
  have glo := I1.ok.mod.glob.keeps I1.bk
  obtain ⟨mb, bl, bb⟩ := I1.ok.mod.blt
  have bl' := bl.keeps I1.bk
  have XK := I1.kIn
  have fresh : ∀ b : Addr, s1.heap.objs.size ≤ b → H1 b = none := fun b hb => I1.hok.fresh hb
  obtain ⟨hp, g, dr, tk, os⟩ := s1
  show wpAny _ _ (call (.ref C) [u]) _ _ _
  have up : ∀ b o, hp.get? b = some o → ((hp.push (PySem.W.kdv_tup [u])).push (HandSPX.excO C hp.objs.size)).get? b = some o := fun b o e => Heap.get?_push_of_some _ (Heap.get?_push_of_some _ e)
  have at1 : ((hp.push (PySem.W.kdv_tup [u])).push (HandSPX.excO C hp.objs.size)).get? (hp.objs.size + 1) = some (HandSPX.excO C hp.objs.size) := by heap_get
  have nK : X.K.lookup (hp.objs.size + 1) = none := by
    cases e : X.K.lookup (hp.objs.size + 1) with
    | none => rfl
    | some o => exact absurd (Nat.lt_of_succ_lt (Heap.lt_size (XK _ _ e))) (Nat.lt_irrefl _)
  refine wpAny_call (HandSPX.call_own F.excBase_ValueError (fun Y => HandSPX.refsVE_contains Y bm hbm) (XK _ _ hC) (PySem.W.looks_findIn XK T.iC) (fun self => PySem.W.bind_fn XK self T.tI) (show 1 ≤ sizeLine by decide) ?_)
  refine ex_init2a (v1 := u) (v2 := Value.none) T J (XK.keeps up) (glo.keeps up) (bl'.keeps up) bb (lim.keeps up) ?_ at1 nK d1 d2 n1 n2 n12 (fun s hs => hb s _ _ hs) ?_
  · have := hr.dp
    rw [make_depth]
    omega
  intro h' t' dx kp dn dne ex
  refine ⟨rfl, ?_⟩
  show MkP X pins σ Q (.ref (hp.objs.size + 1)) _
  obtain ⟨⟨t1, he⟩, hns⟩ := ex
  obtain ⟨G', g1, g2⟩ := restrict h' fun b => decide (b ≠ hp.objs.size + 1)
  have gk : ∀ b, b ≠ hp.objs.size + 1 → G'.get? b = h'.get? b := fun b hb => g1 b (decide_eq_true hb)
  have ge : G'.get? (hp.objs.size + 1) = none := g2 _ (by simp)
  have old : ∀ b o, hp.get? b = some o → G'.get? b = some o := fun b o e => by
    have nb : b ≠ hp.objs.size + 1 := Nat.ne_of_lt (Nat.lt_succ_of_lt (Heap.lt_size e))
    rw [gk b nb]
    exact kp b o nb (up b o e)
  have dsz : hp.objs.size ≤ dx := by
    have e : hp.objs.size + 1 + 1 ≤ dx := by
      have z := dn
      rw [Heap.size_push, Heap.size_push] at z
      exact z
    exact Nat.le_trans (Nat.le_trans (Nat.le_succ _) (Nat.le_succ _)) e
  have ob : ObjOk X.prog X.w (upd H1 dx (.xd [(f1, v), (f2, .non)])) G' dx (.xd [(f1, v), (f2, .non)]) := ⟨_, hns.at (fun o e => (gk dx dne).trans e), fun y => relO_two (u := .non) ru rfl n12 y⟩
  have Jv : Inv X pins σ (upd H1 dx (.xd [(f1, v), (f2, .non)])) ⟨G', g, dr, t', os⟩ := I1.laid (t' := t') old dsz ob
  refine ⟨hp.objs.size + 1, _, _, ⟨G', g, dr, t', os⟩, _, .ref C, some dx, rfl, Jv, fun b o e => ?_, ge, he, ⟨rfl, rfl⟩, rfl, rfl, ?_, rfl, Jv.bare, raises_own T.exC T.tyC, q1 dx (fresh dx dsz)⟩
  · by_cases hb : b = hp.objs.size + 1
    · have e' : G'.get? b = some o := e
      rw [hb, ge] at e'
      cases e'
    · exact (gk b hb).symm.trans e
  · rw [upd_ne (Ne.symm dne)]
    exact fresh _ (Nat.le_succ _)
end
theorem exDB_okN {K : PySem.W.Frag} {fI : Addr} {fd : FuncData} (at_ : ∃ oc od osl, K.lookup fI = some ⟨oc, od, .func fd, osl⟩) (h : exDB K fI = true) :
    ∃ (T : Addr) (o : Obj) (n : Nat), fd.defaults = .ref T ∧ K.lookup T = some o ∧ o.data = .seq [Value.none].toArray n := by
  obtain ⟨oc, od, osl, lk⟩ := at_
  unfold exDB at h
  rw [lk] at h
  rcases He.dflB_ok h with ⟨e, _⟩ | ⟨_, T, o, its, n, e1, e2, e3, e4⟩
  · cases e
  · obtain ⟨u, rfl, ru⟩ := Vals.one e4
    cases ru
    exact ⟨T, o, n, e1, e2, e3⟩
/-- an exception's class of two fields, the second with the default None -/
structure Ev2 (P : Program) (K : PySem.W.Frag) (mg : Str → Option Value) (x f1 f2 : Str) (C : Addr) : Prop where
  at_ : mg x = some (.ref C)
  ex : ∃ fI fd, ExT P K mg [f1, f2] C fI ∧ ExI P K [f1, f2] C fI fd ∧ (∀ (s : Shared) (u v1 v2 : Value), K.In s.heap → BindsTo s fd ⟨[u, v1, v2], []⟩ [("self", u), (f1, v1), (f2, v2)]) ∧ ∀ (s : Shared) (u v1 : Value), K.In s.heap → BindsTo s fd ⟨[u, v1], []⟩ [("self", u), (f1, v1), (f2, Value.none)]
end WL
set_option Elab.async false
set_option linter.all false
set_option maxRecDepth 100000
set_option maxHeartbeats 400000
namespace WL
open PySem PySem.Spec PyProof.Rows L2
/-! ### isinstance of an error that is kept -/
structure ErrC (K : PySem.W.Frag) (D : Addr) : Prop where
  xf : XfC K D
  ha : PySem.W.findIn K (.ref D) "__class__" = some (some (.builtin "object.__class__"))
  hn : PySem.W.specialIn K (.builtin "object.__class__") "__get__" = some (some (.builtin "getset_descriptor.__get__"))
  ht : PySem.W.takesIn K (.builtin "object.__class__") = some true
  hm : PySem.W.mroIn K D (.type "object") = some true
def errcB (K : PySem.W.Frag) (D : Addr) : Bool := He.eqO (PySem.W.findIn K (.ref D) "__class__") (some (some (.builtin "object.__class__"))) && (He.eqO (PySem.W.specialIn K (.builtin "object.__class__") "__get__") (some (some (.builtin "getset_descriptor.__get__"))) && (tkB K (.builtin "object.__class__") && mrB K D (.type "object")))
theorem errcB_ok {K : PySem.W.Frag} {D : Addr} (xf : XfC K D) (h : errcB K D = true) : ErrC K D := by
  obtain ⟨a, h⟩ := He.ba h
  obtain ⟨b, h⟩ := He.ba h
  obtain ⟨c, d⟩ := He.ba h
  exact ⟨xf, He.eqO_ok a, He.eqO_ok b, tkB_ok c, mrB_ok d⟩
def rIsErr (K : PySem.W.Frag) : List V → Hp → VK → Prop := fun xs H Q => ∃ (a D d c : Addr) (fs : List (Str × V)) (b : Bool), xs = [.ref a, .ref c] ∧ H a = some (Err a (.ref D) (some d)) ∧ H d = some (.xd fs) ∧ ErrC K D ∧ PySem.W.kitOne K (.ref D) (.ref c) = some b ∧ Q (.bl b) H
theorem call_isErr {X : Cx} : CallR X (.builtin "isinstance") (rIsErr X.K) := by
  intro pins s σ H xs us Q I r h
  obtain ⟨a, D, d, c, fs, b, rfl, ea, ed, C, e, q⟩ := h
  obtain ⟨u1, u2, rfl, r1, r2⟩ := Vals.two' r
  cases r1
  cases r2
  obtain ⟨o, vs, eo, oc, od, of⟩ := err_at I.hok ea
  obtain ⟨mA, hns, hr⟩ := (I.hok d _ ed : ObjOk X.prog X.w H s.heap d (.xd fs))
  obtain ⟨oD, hoD, hl⟩ := lookIn_ns hns
  have J : PySem.W.InstAt s.heap a o D (some oD) := ⟨eo, oc, by unfold PySem.W.notCls; rw [of], by rw [od]; exact hoD⟩
  obtain ⟨cd, hc, _⟩ := PySem.W.any_some C.xf.hdC
  exact PySem.W.kia_one (PySem.W.kitx_exc (by rw [hc]; rfl) C.xf.ga C.xf.gg C.xf.exC C.ha C.hn C.ht C.hm) I.kIn J e (fun z => nomatch z) fun tk => ⟨.bl b, H, I.kept (t' := tk) fun _ _ z => z, rfl, q⟩
end WL
set_option Elab.async false
set_option linter.all false
set_option maxRecDepth 100000
set_option maxHeartbeats 400000
namespace WL
open PySem PySem.Spec PyProof.Rows L2
/-! ### nested tuples of constants, written out -/
mutual
def litT : PyData → TE
  | .none => tC .non
  | .bool b => tC (.bl b)
  | .int i => tC (.int i)
  | .str x => tC (.str x)
  | .tuple ds => tTup (litTs ds)
  | .list _ => fun _ _ _ => False
  | .dict _ => fun _ _ _ => False
def litTs : List PyData → TA
  | [] => tNil
  | d :: ds => tCons (litT d) (litTs ds)
end
mutual
def litOk : PyData → Bool
  | .none => true
  | .bool _ => true
  | .int _ => true
  | .str _ => true
  | .tuple ds => decide (ds.length ≤ 1000) && litOks ds
  | .list _ => false
  | .dict _ => false
def litOks : List PyData → Bool
  | [] => true
  | d :: ds => litOk d && litOks ds
end
mutual
theorem g_lit : ∀ (d : PyData) {σ : L2.St} {H : Hp} {Q : VK}, litOk d = true → (∀ v H', (∀ b o, H b = some o → H' b = some o) → Fz H' v d → Q v H') → litT d σ H Q
  | .none, _, H, _, _, q => q _ H (fun _ _ h => h) .non
  | .bool b, _, H, _, _, q => q _ H (fun _ _ h => h) (.bl b)
  | .int i, _, H, _, _, q => q _ H (fun _ _ h => h) (.int i)
  | .str x, _, H, _, _, q => q _ H (fun _ _ h => h) (.str x)
  | .list _, _, _, _, h, _ => by cases h
  | .dict _, _, _, _, h, _ => by cases h
  | .tuple ds, σ, H, Q, h, q => by
    have h' : (decide (ds.length ≤ 1000) && litOks ds) = true := h
    rw [Bool.and_eq_true, decide_eq_true_iff] at h'
    show tTup (litTs ds) σ H Q
    refine g_tup' ?_
    refine g_lits ds h'.2 fun vs H1 s1 f1 => ⟨sz (by rw [f1.length]; omega), fun p np => ?_⟩
    exact q _ _ (same_up np s1) (.tup upd_same (f1.tk (Tk.new np)))
theorem g_lits : ∀ (ds : List PyData) {σ : L2.St} {H : Hp} {R : List V → Hp → Prop}, litOks ds = true → (∀ vs H', (∀ b o, H b = some o → H' b = some o) → Fzs H' vs ds → R vs H') → litTs ds σ H R
  | [], _, H, _, _, q => q [] H (fun _ _ h => h) .nil
  | d :: ds, σ, H, R, h, q => by
    have h' : (litOk d && litOks ds) = true := h
    rw [Bool.and_eq_true] at h'
    show tCons (litT d) (litTs ds) σ H R
    refine g_cons ?_
    refine g_lit d h'.1 fun v H1 s1 f1 => ?_
    refine g_lits ds h'.2 fun vs H2 s2 f2 => ?_
    exact q _ _ (fun b o h => s2 _ _ (s1 _ _ h)) (.cons (f1.tk (Tk.same s2)) f2)
end
end WL
set_option Elab.async false
set_option linter.all false
set_option maxRecDepth 100000
set_option maxHeartbeats 4000000
namespace WL
open PySem PySem.Spec PyProof.Rows L2
/-! ### tuple * int, once or more -/
theorem tuple_mulW1 (l : Addr) (items : Array Value) (n : Nat) (dd : Option Addr) (sl : Array (Option Value)) (u : Tok) :
    Meets (Builtin.«tuple.__mul__» ⟨[.ref l, .int 1 u], []⟩) (fun _ R s => s.heap.get? l = some { cls := .type "tuple", dict := dd, data := .seq items n, slots := sl } ∧
      R (.ok (.ret (Value.ref l))) s) :=
  .of_wp fun prog w A R s h => by
    obtain ⟨hp, g, d, tk, os⟩ := s
    obtain ⟨hl, h⟩ := h
    have f1 := AutoSeq1.idx_int
    have c0 : (decide ((1 : Int) < -(2 ^ 63)) || decide ((1 : Int) ≥ 2 ^ 63)) = false := by decide
    have c1 : (items.isEmpty || (1 : Int) == 1) = true := by rw [show ((1 : Int) == 1) = true from rfl, Bool.or_true]
    wp_walk using wpAny_loadPart' hl
    repeat (first
      | (refine wpAny_ite_false (decide_eq_false (by rw [c0]; exact Bool.false_ne_true)) ?_; wp_walk using wpAny_loadPart' hl)
      | (refine wpAny_ite_true (decide_eq_true (by rw [c1])) ?_; wp_walk using wpAny_loadPart' hl))
    exact ⟨_, rfl, h⟩
def rRepT1 (K : PySem.W.Frag) : R2 := fun x y H Q => ∃ l k xs, x = .ref l ∧ y = .int k ∧ H l = some (.tup xs) ∧ xs ≠ [] ∧ 1 ≤ k ∧ k ≤ 1000 ∧ xs.length ≤ 1000 ∧ ∀ p H2, (∀ b o, H b = some o → H2 b = some o) → H2 p = some (.tup (List.replicate k.toNat xs).flatten) → Q (.ref p) H2
section
variable {X : Cx}
theorem op_repT1 : OpR X (binaryOp .Mult) (rRepT1 X.K) := by
  intro pins s σ H x y v u Q I rx ry h
  obtain ⟨l, k, xs, rfl, rfl, hl, hne, h1, h2, hz, q⟩ := h
  have hT : SqT X.K H l xs := SqT.of hl
  by_cases hk : k = 1
  · subst hk
    cases rx
    obtain ⟨t, rfl⟩ := ry
    obtain ⟨its, r, ⟨⟨cls, dd, data, sl⟩, ho, hc, n, hd⟩, hs⟩ := I.tuple hT
    simp only at hc hd
    subst hc hd
    refine wpAny_binaryOp_repeat_ref (T := "tuple") (U := "int") (by decide) ⟨_, ho, rfl⟩ (fun s' => typeIs_int s' 1 t) noFill_tuple_mul F.fills_int_mul F.slot_int_rmul repeat_tuple F.slot_int_index.lookup
      (call_meets F.slot_int_rmul (typeIs_int s 1 t) F.entry_int_rmul (F.args_int_rmul_2 _ _) (int_rmul_tuple 1 t l its.toArray n dd sl)
        ⟨ho, rfl, ⟨_, ho, rfl⟩, call_meets F.slot_tuple_mul ⟨_, ho, rfl⟩ F.entry_tuple_mul (F.args_tuple_mul_2 _ _) (tuple_mulW1 l its.toArray n dd sl t) ⟨ho, ?_⟩⟩)
    exact ⟨.ref l, H, I, rfl, q l H (fun _ _ h => h) (by
      have e : (List.replicate (1 : Int).toNat xs).flatten = xs := by
        show (List.replicate 1 xs).flatten = xs
        simp
      rw [e]; exact hl)⟩
  · exact op_repT pins s σ H _ _ v u Q I rx ry ⟨l, k, xs, rfl, rfl, hT, hne, by omega, h2, hz, fun p np => q p _ (same_up np fun _ _ h => h) upd_same⟩
end
theorem g_repT1 {K : PySem.W.Frag} {H : Hp} {Q : VK} {l : Addr} {k : Int} {xs : List V} (h : H l = some (.tup xs)) (h0 : xs ≠ []) (h1 : 1 ≤ k) (h2 : k ≤ 1000) (h3 : xs.length ≤ 1000) (q : ∀ p H2, (∀ b o, H b = some o → H2 b = some o) → H2 p = some (.tup (List.replicate k.toNat xs).flatten) → Q (.ref p) H2) : rRepT1 K (.ref l) (.int k) H Q := ⟨l, k, xs, rfl, rfl, h, h0, h1, h2, h3, q⟩
/-! ### a def of two parameters and a star, called by their names the other way round -/
section
variable {CX : CXT} {P : Program} {w : World} {K : PySem.W.Frag} {mg : Str → Option Value} {base : Heap} {k : Nat} {f : Addr} {name qual : Str} {params : Arguments} {body : List Stmt} {scope : Scope} {dV kV doc pm cdv ct oc : Value} {an od : Option Addr}
  {osl : Array (Option Value)} {N : List Str} {sp : Sp}
theorem fn_starSw {p1 p2 pv : Str} (lk : K.lookup f = some ⟨oc, od, .func (PySem.W.fnOf name qual params body scope dV kV doc pm an cdv ct), osl⟩) (hcd : PySem.W.codeIn K cdv qual = true) (S : FnScope N ([p1, p2] ++ [pv]) scope) (hCX : StX.CXUp CX)
    (hb : ∀ a b : Value, bindArgs (PySem.W.fnOf name qual params body scope dV kV doc pm an cdv ct) ⟨[], [(p2, a), (p1, b)]⟩ = (newTuple [] >>= fun t => pure [(p1, b), (p2, a), (pv, t)]))
    (hbody : ∀ (A : Around) (outer : List Env) (s : Shared) (H : Hp) (vs : List V) (Q : VK) (E : XK), Room k (A.deeper (envOfC qual scope s.heap.objs.size f cdv)) → sp vs H Q E →
      ∃ t, PSs (cxOf CX P w K mg base N qual scope f cdv A outer s H E) body t ∧ t { nx := fun _ H' => Q .non H', rt := Q } (start N vs) H) :
    FnRK P w K mg base CX (k + 1) f 0 [p2, p1] (fun vs H Q E => ∃ a b, vs = [a, b] ∧ ∀ p, H p = Option.none → sp [b, a, V.ref p] (upd H p (.tup [])) Q E) := by
  intro A outer s H us ws vs zs Q E hr e0 r rz l1 l2 hq
  have ev : vs = [] := List.eq_nil_of_length_eq_zero l1
  subst ev
  cases r
  obtain ⟨a, b, ez, hq⟩ := hq
  rw [List.nil_append] at ez
  subst ez
  obtain ⟨a', ra, b', rb, rfl⟩ : ∃ a', RelV a a' ∧ ∃ b', RelV b b' ∧ ws = [a', b'] := by
    cases rz with
    | cons h1 h2 =>
      cases h2 with
      | cons h3 h4 =>
        cases h4
        exact ⟨_, h1, _, h3, rfl⟩
  have hn : H s.heap.objs.size = Option.none := e0.hok.fresh (Nat.le_refl _)
  refine StX.run_bnd lk hcd S hr e0 (G := fun xs H2 => ∃ p, H p = Option.none ∧ xs = [b, a, V.ref p] ∧ H2 = upd H p (.tup [])) (fun A' Ex Q' h => ?_) fun s2 H2 xs ⟨p, hp, ex, eH⟩ hr' => ?_
  · rw [show ([p2, p1] : List Str).zip [a', b'] = [(p2, a'), (p1, b')] from rfl, hb a' b']
    refine wpAny_bind (wpAny_newTuple (wpAny_pure ?_) (Nat.zero_le _))
    have new : ObjOk P w (upd H s.heap.objs.size (.tup [])) (s.heap.push ({ cls := .type "tuple", data := .seq ([] : List Value).toArray } : Obj)) s.heap.objs.size (.tup []) := ⟨Nat.zero_le _, [], .nil, ⟨_, Heap.get?_push_size _ rfl, rfl, _, rfl⟩⟩
    have un := StX.un_laid (fs := frs outer) (s := s) (o := ({ cls := .type "tuple", data := .seq ([] : List Value).toArray } : Obj)) (u := .tup []) hn
    exact h _ _ [b, a, V.ref s.heap.objs.size] [b', a', Value.ref s.heap.objs.size] (StX.env0_laid e0 new) un rfl (fun e s' => hCX outer s H _ _ E e s' un (fun b o q => Heap.get?_push_of_some _ q) rfl) (.cons rb (.cons ra (.cons rfl .nil))) rfl ⟨_, hn, rfl, rfl⟩
  · subst ex eH
    exact hbody A outer s2 _ _ Q E hr' (hq p hp)
end
structure HasRK (P : Program) (w : World) (K : PySem.W.Frag) (mg : Str → Option Value) (base : Heap) (CX : CXT) (k : Nat) (x : Str) (ks : List Str) (sp : Sp) : Prop where
  ex : ∃ f, mg x = some (.ref f) ∧ PySem.W.keepIn K (.ref f) = true ∧ FnRK P w K mg base CX k f 0 ks sp
def tCallRK (m : Nat) (sp : Sp) (E : XK) (t : TA) : TE := fun σ H Q => t σ H fun vs H1 => vs.length = m ∧ sp vs H1 Q E
section
variable {X : Cx} {CX : CXT} {k j : Nat} {x : Str} {ks : List Str} {sp : Sp} {E : XK} {tk : TA} {p pos : Pos} {kws : List Keyword}
theorem pe_hasRK (F : HasRK X.prog X.w X.K X.mg X.base CX k x ks sp) (room : Room j X.A) (le : k ≤ j) (pass : Passes CX X E) (hkw : PK X kws tk) (gl : Gl X x := by rfl) (db : (x == ("__debug__" : Str)) = false := by decide)
    (hall : (backToKw pos (keywordEach kws X.env)).all (·.1.isSome) = true := by rfl) (hks : (backToKw pos (keywordEach kws X.env)).filterMap (·.1) = ks := by rfl)
    (hpl : ((backTo pos (starEach [] X.env)).any (·.1) || (backToKw pos (keywordEach kws X.env)).any (·.1.isNone)) = false := by rfl) :
    PE X (.Call (.Name x p) [] kws pos) (tCallRK ks.length sp E tk) := by
  obtain ⟨f, m, kp, F⟩ := F.ex
  refine ⟨fun pins s σ H Q I h => ?_⟩
  refine wpAny_Call_Name_kw (ld_glob I gl m ?_ db)
  refine PySem.W.callWith_KW0 (h₀ := X.base) I.ok.mod.kin kp hall ?_ hpl
  refine thn (hkw.run pos pins s σ H _ I h) fun ws s2 ⟨zs, H2, I2, rz, l2, q2⟩ => ⟨I2.kIn, ?_⟩
  rw [hks]
  refine wpAny_call (codeAny_mono (F X.A X.stack s2 H2 [] ws [] zs Q E (room.mono le) I2.env0 .nil rz rfl l2 q2) fun r s' hq => ?_)
  cases r with
  | error e => exact pass pins σ H2 s2 e s' I2 hq
  | ok fl =>
    cases fl with
    | ret u => exact I2.after hq
    | next => exact False.elim hq
    | brk => exact False.elim hq
    | cont => exact False.elim hq
end
end WL
set_option Elab.async false
set_option linter.all false
set_option maxRecDepth 100000
set_option maxHeartbeats 4000000
namespace K56
open PySem PySem.Spec PyProof.Rows L2 WL
local macro_rules | `(tactic| walk_at "side") => `(tactic| first | (show (_ ∧ _) ∨ (_ ∧ _); omega) | (exact ⟨by omega, by omega⟩) | (show (0 : Int) < _; omega) | omega)
local macro_rules | `(tactic| walk_at "go") => `(tactic| (repeat (first
  | with_reducible refine g_seq ?_ | with_reducible refine g_asgN ?_ | with_reducible refine g_ret ?_ | with_reducible refine g_drop ?_ | with_reducible refine g_ifS ?_ | with_reducible refine g_next ?_
  | with_reducible refine g_var rfl ?_ | with_reducible refine g_c ?_ | with_reducible refine g_op ?_ | with_reducible refine g_un ?_ | with_reducible refine g_rI0 ?_ | ((with_reducible refine g_rI ?_ ?_); next => walk_at "side") | with_reducible refine g_test ?_ | with_reducible refine g_bl ?_
  | with_reducible refine g_nil ?_ | with_reducible refine g_cons ?_ | with_reducible refine g_call ?_ | with_reducible refine g_cb ?_ | with_reducible refine g_if ?_ | with_reducible refine g_par ?_ | with_reducible refine g_two ?_
  | with_reducible refine g_asg ?_ | with_reducible refine g_name ?_ | with_reducible refine g_sub ?_ | with_reducible refine g_yes ?_ | with_reducible refine g_gcons ?_ | with_reducible refine g_gnil ?_ | with_reducible refine g_dget ?_ | with_reducible refine g_dput ?_ | with_reducible refine g_rng1 ?_ | with_reducible refine g_rng2 ?_
  | ((with_reducible refine g_one ?_ ?_); next => omega) | ((with_reducible refine g_twoI ?_ ?_); next => omega) | with_reducible refine g_isNon ?_ | with_reducible refine g_andV ?_ | with_reducible refine g_revT ?_ | with_reducible refine g_itup ?_ | with_reducible refine g_methK0 ?_ | with_reducible refine g_methS ?_ | with_reducible refine g_errF ?_ | with_reducible refine g_prop ?_ | with_reducible refine g_con ?_ | with_reducible refine g_make ?_ | with_reducible refine g_fld ?_ | with_reducible refine g_sfld ?_ | with_reducible refine g_iftn ?_ | with_reducible refine g_iffn ?_ | with_reducible refine g_orV ?_ | with_reducible refine g_notV ?_ | with_reducible refine g_tB ?_ | with_reducible refine g_chain ?_ | with_reducible refine g_neg ?_ | with_reducible refine g_cval ?_ | with_reducible refine g_enumT ?_ | with_reducible refine g_andT ?_ | with_reducible refine g_orT ?_ | with_reducible refine g_notT ?_ | with_reducible refine g_sl ?_ | with_reducible refine g_part ?_ | with_reducible refine g_parI ?_ | with_reducible refine g_noPart ?_ | with_reducible refine g_pcons ?_ | with_reducible refine g_pnil ?_ | with_reducible refine g_list ?_ | with_reducible refine g_lc ?_ | with_reducible refine g_for ?_ | with_reducible refine g_enum ?_ | with_reducible refine g_ift ?_ | with_reducible refine g_iff ?_ | with_reducible refine And.intro rfl ?_ | with_reducible refine g_notNon ?_)))
local macro_rules | `(tactic| walk_at "ex") => `(tactic| (repeat (first
  | with_reducible refine g_seqAsg ?_ | with_reducible refine g_seqFld ?_ | with_reducible refine g_seqDrop ?_ | with_reducible refine g_seqPut ?_ | with_reducible refine g_seqPar ?_ | with_reducible refine g_asgN ?_ | with_reducible refine g_ret ?_ | with_reducible refine g_drop ?_ | with_reducible refine g_next ?_
  | with_reducible refine g_var rfl ?_ | with_reducible refine g_c ?_ | with_reducible refine g_op ?_ | with_reducible refine g_un ?_ | with_reducible refine g_rI0 ?_ | ((with_reducible refine g_rI ?_ ?_); next => walk_at "side") | with_reducible refine g_test ?_ | with_reducible refine g_bl ?_
  | with_reducible refine g_nil ?_ | with_reducible refine g_cons ?_ | with_reducible refine g_call ?_ | with_reducible refine g_cb ?_ | with_reducible refine g_if ?_ | with_reducible refine g_par ?_ | with_reducible refine g_two ?_
  | with_reducible refine g_asg ?_ | with_reducible refine g_name ?_ | with_reducible refine g_sub ?_ | with_reducible refine g_yes ?_ | with_reducible refine g_gcons ?_ | with_reducible refine g_gnil ?_ | with_reducible refine g_dget ?_ | with_reducible refine g_dput ?_ | with_reducible refine g_rng1 ?_ | with_reducible refine g_rng2 ?_
  | ((with_reducible refine g_one ?_ ?_); next => omega) | ((with_reducible refine g_twoI ?_ ?_); next => omega) | with_reducible refine g_isNon ?_ | with_reducible refine g_andV ?_ | with_reducible refine g_revT ?_ | with_reducible refine g_itup ?_ | with_reducible refine g_methK0 ?_ | with_reducible refine g_methS ?_ | with_reducible refine g_errF ?_ | with_reducible refine g_prop ?_ | with_reducible refine g_con ?_ | with_reducible refine g_make ?_ | with_reducible refine g_fld ?_ | with_reducible refine g_sfld ?_ | with_reducible refine g_iftn ?_ | with_reducible refine g_iffn ?_ | with_reducible refine g_orV ?_ | with_reducible refine g_notV ?_ | with_reducible refine g_tB ?_ | with_reducible refine g_chain ?_ | with_reducible refine g_neg ?_ | with_reducible refine g_cval ?_ | with_reducible refine g_enumT ?_ | with_reducible refine g_proj ?_ | with_reducible refine g_andT ?_ | with_reducible refine g_orT ?_ | with_reducible refine g_notT ?_ | with_reducible refine g_sl ?_ | with_reducible refine g_part ?_ | with_reducible refine g_parI ?_ | with_reducible refine g_noPart ?_ | with_reducible refine g_pcons ?_ | with_reducible refine g_pnil ?_ | with_reducible refine g_list ?_ | with_reducible refine g_lc ?_ | with_reducible refine g_enum ?_ | with_reducible refine g_ift ?_ | with_reducible refine g_iff ?_ | with_reducible refine And.intro rfl ?_ | with_reducible refine g_notNon ?_)))
section
variable {P : Program} {w : World} {K : PySem.W.Frag} {mg : Str → Option Value} {base : Heap} {f : Addr} {fd : FuncData}
abbrev FnT (K : PySem.W.Frag) (x : Str) (st : Stmt) (f : Addr) (fd : FuncData) : Prop := FunD K x x (defArgs st) (defBody st) (defScope st) [] [] f fd
theorem sc_mixed : FnScope ["cell", "n", "turned"] ["cell", "n"] (defScope s_law_mixed) := ⟨rfl, rfl, rfl, by decide +kernel, rfl, by decide +kernel, by decide +kernel⟩
theorem ok_mixed (F : FnT K "_law_mixed" s_law_mixed f fd) : FnOk P w K mg base CX0 1 f fd ["cell", "n"] spMixed := by
  refine F.ok sc_mixed (fun vs H Q E h => ?_) (fun cdv A outer s H vs Q E hr h => ?_)
  · obtain ⟨c, n, rfl, _⟩ := h
    rfl
  · obtain ⟨c, n, rfl, hc, hn, q⟩ := h
    have sc := sc_mixed
    refine ⟨_, PSs.nox (pss_cons (ps_set (i := 2) sc.nd rfl (Or.inl rfl) (pe_op op_add (pe_op op_add (pe_op op_mod (pe_op op_mul (pe_op op_mul (pv 0) (pe_op op_add pe_int (pe_op op_mul pe_int (pv 1)))) pe_int) pe_int) (pe_op op_mul (pe_op op_mul pe_int (pv 1)) (pv 1))) (pe_op op_mul pe_int (pv 1))))
      (pss_one (ps_ret (pe_op op_fdiv (pe_op op_mod (pe_op op_mul (pv 2) pe_int) pe_int) pe_int)))), ?_⟩
    walk_at "go"
    refine q _ ?_ ?_ <;> omega
theorem sc_folded : FnScope ["script", "found", "n", "cell"] ["script"] (defScope s_law_folded) := ⟨rfl, rfl, rfl, by decide +kernel, rfl, by decide +kernel, by decide +kernel⟩
theorem ok_folded (F : FnT K "_law_folded" s_law_folded f fd) (T : Blt mg) : FnOk P w K mg base CX0 1 f fd ["script"] (spFolded K) := by
  refine F.ok sc_folded (fun vs H Q E h => ?_) (fun cdv A outer s H vs Q E hr h => ?_)
  · obtain ⟨a, ns, rfl, _⟩ := h
    rfl
  · obtain ⟨a, ns, rfl, hS, hlen, q⟩ := h
    have sc := sc_folded
    refine ⟨_, PSs.nox (pss_cons (ps_setLc (i := 1) (own := [("n", 2)]) (g := gName 2) (tt := tYes) (by rfl) sc.nd rfl rfl (sw_true rfl rfl rfl (by decide +kernel)) (pi_range1 (by rfl) T.range (pa_cons pe_int pa_nil)) (blkOk_by (sc := defScope s_law_folded) (N := ["script", "found", "n", "cell"]) (own := [("n", 2)]) (by decide +kernel)) (fun _ _ _ _ _ => (pg_name (i := 2) sc.nd rfl (Or.inl rfl))) (fun _ _ _ _ _ => pts_nil) (fun _ _ _ _ _ => (pe_op op_add pe_int (pv 2))))
      (pss_cons (ps_for PassesOwn.never rfl (pi_enum (by rfl) T.enumerate (pa_cons (pv 0) pa_nil)) (pg_tup rfl (pgs_cons (pg_name (i := 2) sc.nd rfl (Or.inl rfl)) (pgs_cons (pg_name (i := 3) sc.nd rfl (Or.inl rfl)) pgs_nil)))
        (pss_one (ps_asg (pe_op op_mod (pe_op op_add (pe_op op_mul (pe_ix ix_list (pv 1) (pe_op op_mod (pv 2) pe_int) (fun _ _ => rfl)) pe_int) (pv 3)) pe_int) (pg_sub (pv 1) (pe_op op_mod (pv 2) pe_int) set_list))))
      (pss_cons (ps_for PassesOwn.never rfl (pi_range2 (by rfl) T.range (pa_cons pe_int (pa_cons pe_int pa_nil))) (pg_name (i := 2) sc.nd rfl (Or.inl rfl))
        (pss_one (ps_asg (pe_op op_mod (pe_op op_add (pe_ix ix_list (pv 1) (pv 2) (fun _ _ => rfl)) (pe_op op_mul (pe_ix ix_list (pv 1) (pe_op op_sub (pv 2) pe_int) (fun _ _ => rfl)) pe_int)) pe_int) (pg_sub (pv 1) (pv 2) set_list))))
      (pss_one (ps_ret (pv 1)))))), ?_⟩
    walk_at "go"
    refine LcQ.range (fun D i H' => H' D = some (.lst ((List.range i).map fun j => V.int (17 + (j : Nat)))) ∧ ∀ b, b ≠ D → H' b = H b) (fun D nD => ⟨upd_same, fun b e => upd_ne e⟩) ?_ ?_
    · intro D nD i H2 hi ⟨h1, h2⟩
      walk_at "go"
      refine ⟨_, h1, ?_, ?_, ?_⟩
      · simp only [List.length_map, List.length_range]
        exact Nat.lt_of_lt_of_le hi (by decide)
      · rw [upd_same, List.range_succ, List.map_append]
        simp
      · intro b e
        rw [upd_ne e]; exact h2 b e
    · intro D nD H2 ⟨h1, h2⟩
      walk_at "go"
      have sm : ∀ b o, H b = some o → H2 b = some o := fun b o h => by
        rw [h2 b (fun e => by subst e; rw [nD] at h; exact absurd h (by simp))]; exact h
      refine g_one' (K := K) (SqL.same hS sm) ?_
      refine ForQ.enum (xs := ns.map V.int) (fun i σ H' => (∃ x y, σ = [some (.ref a), some (.ref D), x, y]) ∧ ∃ l, Cells l ∧ H' D = some (.lst (l.map V.int)) ∧ ∀ b o, H b = some o → H' b = some o) ?_ ?_ ?_ ?_
      · refine ⟨⟨_, _, rfl⟩, (List.range 64).map fun j => 17 + (j : Nat), ⟨by simp, fun c hc => ?_⟩, ?_, sm⟩
        · obtain ⟨j, hj, rfl⟩ := List.mem_map.mp hc
          have := List.mem_range.mp hj
          omega
        · rw [h1, List.map_map]; rfl
      · rintro i σ H3 _ ⟨_, l, _, _, s3⟩
        exact SqL.same hS s3
      · rintro i x T σ H3 hx ⟨⟨u, v, rfl⟩, l, hl, hD, s3⟩ nT
        have neT : D ≠ T := fun e => by subst e; rw [nT] at hD; exact absurd hD (by simp)
        obtain ⟨c, rfl⟩ : ∃ c, x = V.int c := by
          rw [List.getElem?_map] at hx
          cases hn : ns[i]? with
          | none => rw [hn] at hx; exact absurd hx (by simp)
          | some c => rw [hn] at hx; exact ⟨c, (Option.some.inj hx).symm⟩
        have hi : i < ns.length := by
          rcases Nat.lt_or_ge i ns.length with q | q
          · exact q
          · rw [List.getElem?_map, List.getElem?_eq_none q] at hx; exact absurd hx (by simp)
        refine g_tupg (SqT.of upd_same) rfl ?_
        obtain ⟨e, he, e0, e1⟩ := hl.get (i := i) (by omega)
        walk_at "go"
        refine g_ixL (xs := l.map V.int) (SqL.of (by rw [upd_ne neT]; exact hD)) (v := .int e) (atI_at (by omega) (map_get_int (by rw [Int.emod_eq_of_lt (by omega) (by omega)]; simpa using he))) ?_
        walk_at "go"
        refine g_setL (xs := l.map V.int) (by rw [upd_ne neT]; exact hD) (by omega) (by rw [List.length_map, hl.1]; omega) ?_
        refine ⟨⟨_, _, rfl⟩, _, hl.set _ ?_ ?_, by rw [upd_same, map_set_int], fun b o h => ?_⟩
        · omega
        · omega
        · have n1 : b ≠ T := fun e => by subst e; rw [s3 _ _ h] at nT; exact absurd nT (by simp)
          have n2 : b ≠ D := fun e => by subst e; rw [nD] at h; exact absurd h (by simp)
          rw [upd_ne n2, upd_ne n1]; exact s3 _ _ h
      · rintro σ H3 ⟨⟨u, v, rfl⟩, l, hl, hD, s3⟩
        walk_at "go"
        refine ForQ.range (fun i σ H' => (∃ x y, σ = [some (.ref a), some (.ref D), x, y]) ∧ ∃ l, Cells l ∧ H' D = some (.lst (l.map V.int)) ∧ ∀ b o, H b = some o → H' b = some o) ⟨⟨_, _, rfl⟩, l, hl, hD, s3⟩ ?_ ?_
        · rintro i σ H4 hi ⟨⟨u, v, rfl⟩, l, hl, hD, s3⟩
          have hi' : i < 63 := hi
          obtain ⟨e, he, e0, e1⟩ := hl.get (i := i + 1) (by omega)
          obtain ⟨e', he', e0', e1'⟩ := hl.get (i := i) (by omega)
          walk_at "go"
          refine g_ixL (xs := l.map V.int) (SqL.of hD) (v := .int e) (atI_at (by omega) (map_get_int (by rw [show (1 + (i : Int)).toNat = i + 1 by omega]; exact he))) ?_
          walk_at "go"
          refine g_ixL (xs := l.map V.int) (SqL.of hD) (v := .int e') (atI_at (by omega) (map_get_int (by rw [show (1 + (i : Int) - 1).toNat = i by omega]; exact he'))) ?_
          walk_at "go"
          refine g_setL (xs := l.map V.int) hD (by omega) (by rw [List.length_map, hl.1]; omega) ?_
          refine ⟨⟨_, _, rfl⟩, _, hl.set _ ?_ ?_, by rw [upd_same, map_set_int], fun b o h => ?_⟩
          · omega
          · omega
          · have n2 : b ≠ D := fun e => by subst e; rw [nD] at h; exact absurd h (by simp)
            rw [upd_ne n2]; exact s3 _ _ h
        · rintro σ H4 ⟨⟨u, v, rfl⟩, l, hl, hD, s3⟩
          walk_at "go"
          exact q D l H4 hl nD hD (fun b _ o h => s3 b o h)
theorem sc_draw : FnScope ["m", "top", "n", "at", "cell"] ["m", "top"] (defScope s_law_draw) := ⟨rfl, rfl, rfl, by decide +kernel, rfl, by decide +kernel, by decide +kernel⟩
theorem ok_draw (F : FnT K "_law_draw" s_law_draw f fd) (T : Blt mg) (hMixed : Has P w K mg base 1 "_law_mixed" ["cell", "n"] spMixed) : FnOk P w K mg base CX0 2 f fd ["m", "top"] spDraw' := by
  refine F.ok sc_draw (fun vs H Q E h => ?_) (fun cdv A outer s H vs Q E hr h => ?_)
  · obtain ⟨m, c, g, B, top, rfl, _⟩ := h
    rfl
  · obtain ⟨m, c, g, B, top, rfl, hP, hB, htop, q⟩ := h
    have sc := sc_draw
    have hu := hr.units
    have hu1 := room1 hr
    refine ⟨_, PSs.nox (pss_cons (ps_set (i := 2) sc.nd rfl (Or.inl rfl) (pe_dget hu1 (pv 0) pe_str (fun _ _ => rfl)))
      (pss_cons (ps_dput hu1 (pv 0) pe_str (pe_op op_add (pv 2) pe_int) rfl)
      (pss_cons (ps_if (pt_cmpR (op_neD hu) (pe_dget hu1 (pv 0) pe_str (fun _ _ => rfl)) (pe_lst pa_nil) (nomark _))
        (pss_cons (ps_set (i := 3) sc.nd rfl (Or.inl rfl) (pe_op op_mod (pv 2) (pe_callB call_len_seq (by rfl) T.len PySem.boot_len (pa_cons (pe_dget hu1 (pv 0) pe_str (fun _ _ => rfl)) pa_nil))))
        (pss_cons (ps_set (i := 4) sc.nd rfl (Or.inl rfl) (pe_ix ix_list (pe_dget hu1 (pv 0) pe_str (fun _ _ => rfl)) (pv 3) (fun _ _ => rfl)))
        (pss_one (ps_if (pt_cmpR op_gt (pv 4) pe_int (nomark _))
          (pss_cons (ps_asg (pe_op op_fdiv (pv 4) (pv 1)) (pg_sub (pe_dget hu1 (pv 0) pe_str (fun _ _ => rfl)) (pv 3) set_list))
          (pss_one (ps_ret (pe_op op_mod (pv 4) (pv 1)))))
          pss_nil))))
        pss_nil)
      (pss_one (ps_ret (pe_op op_mod (pe_has hMixed hr (by decide) (pa_cons (pe_has hMixed hr (by decide) (pa_cons (pe_op op_add (pe_ix ix_list (pe_dget hu1 (pv 0) pe_str (fun _ _ => rfl)) (pe_op op_mod (pv 2) pe_int) (fun _ _ => rfl)) (pe_op op_mul pe_int (pe_op op_fdiv (pv 2) pe_int))) (pa_cons (pv 2) pa_nil))) (pa_cons (pe_op op_add (pv 2) pe_int) pa_nil))) (pv 1))))))), ?_⟩
    obtain ⟨n, hn, d⟩ := hP.dr
    have d0 := d
    obtain ⟨hm, ⟨cl, hcl, hc⟩, ⟨gl, hgl, hg⟩, hne, hpos⟩ := d0
    walk_at "go"
    refine g_dg (v := .int n) hm rfl ?_
    walk_at "go"
    refine g_spot d fun H1 e1 => ?_
    have ncm : c ≠ m := fun e => by subst e; rw [hc] at hm; exact absurd hm (by simp)
    have ngm : g ≠ m := fun e => by subst e; rw [hg] at hm; exact absurd hm (by simp)
    have hm1 : H1 m = some (.dK [(Sum.inr "cells", .ref c), (Sum.inr "great", .ref g), (Sum.inr "spot", .int (n + 1))]) := by rw [e1, upd_same]
    have hc1 : H1 c = some (.lst (cl.map V.int)) := by rw [e1, upd_ne ncm]; exact hc
    have hg1 : H1 g = some (.lst (gl.map V.int)) := by rw [e1, upd_ne ngm]; exact hg
    have b1 : ∀ b, b ≠ m → H1 b = H b := fun b e => by rw [e1, upd_ne e]
    walk_at "go"
    refine g_dg (x := "great") (v := .ref g) hm1 rfl ?_
    refine g_lst ?_
    walk_at "go"
    refine ⟨by decide, fun p np => ?_⟩
    have npm : m ≠ p := fun e => by subst e; rw [hm1] at np; exact absurd np (by simp)
    have npc : c ≠ p := fun e => by subst e; rw [hc1] at np; exact absurd np (by simp)
    have npg : g ≠ p := fun e => by subst e; rw [hg1] at np; exact absurd np (by simp)
    have hm2 : upd H1 p (.lst []) m = some (.dK [(Sum.inr "cells", .ref c), (Sum.inr "great", .ref g), (Sum.inr "spot", .int (n + 1))]) := by rw [upd_ne npm]; exact hm1
    have hc2 : upd H1 p (.lst []) c = some (.lst (cl.map V.int)) := by rw [upd_ne npc]; exact hc1
    have hg2 : upd H1 p (.lst []) g = some (.lst (gl.map V.int)) := by rw [upd_ne npg]; exact hg1
    have b2 : ∀ b o, b ≠ m → H b = some o → upd H1 p (.lst []) b = some o := fun b o e h => by
      rw [upd_ne (fun e2 => by subst e2; rw [b1 _ e, h] at np; exact absurd np (by simp)), b1 b e]; exact h
    refine g_neD (K := K) (dp_ints (SqL.of hg2)) (dp_nilL (SqL.of upd_same)) (pl_shaped (pl_ints _) (by decide)) (pl_shaped pl_nilL (by decide)) ?_
    walk_at "go"
    generalize hH2 : upd H1 p (.lst []) = H2 at hm2 hc2 hg2 b2 ⊢
    have d2 : Dr H2 m c g (n + 1) := ⟨hm2, ⟨cl, hcl, hc2⟩, ⟨gl, hgl, hg2⟩, hne, by omega⟩
    have p2 : Pr m c g H H2 (B + 1) := ⟨⟨n + 1, by omega, d2⟩, fun b o n1 n2 h => b2 b o n1 h⟩
    have fin : ∀ (σ : L2.St) (u v : Option V), σ = [some (V.ref m), some (V.int top), some (V.int n), u, v] → tRet (tOp (rI (fun _ j => 0 < j) fun i j => V.int (i % j)) (tCall spMixed [] E0 (tCons (tCall spMixed [] E0 (tCons (tOp (rI0 fun i j => V.int (i + j)) (tOp (rIxL K) (tDGet (tVar 0) (tC (.str "cells"))) (tOp (rI (fun _ j => 0 < j) fun i j => V.int (i % j)) (tVar 2) (tC (.int 64)))) (tOp (rI CMul fun i j => V.int (i * j)) (tC (.int 31)) (tOp (rI CDiv fun i j => V.int (i / j)) (tVar 2) (tC (.int 64))))) (tCons (tVar 2) tNil))) (tCons (tOp (rI0 fun i j => V.int (i + j)) (tVar 2) (tC (.int 7))) tNil))) (tVar 1)) { nx := fun _ H' => Q .non H', rt := Q } σ H2 := by
      intro σ u v e
      subst e
      walk_at "go"
      refine g_dg (x := "cells") (v := .ref c) hm2 rfl ?_
      walk_at "go"
      obtain ⟨ce, hce, he0, he1⟩ := hcl.get (i := (n % 64).toNat) (by omega)
      refine g_ixL (xs := cl.map V.int) (SqL.of hc2) (v := .int ce) (atI_at (by omega) (map_get_int hce)) ?_
      walk_at "go"
      refine ⟨_, _, rfl, ⟨by omega, by omega⟩, ⟨by omega, by omega⟩, fun r hr0 hr1 => ?_⟩
      walk_at "go"
      refine ⟨_, _, rfl, ⟨by omega, by omega⟩, ⟨by omega, by omega⟩, fun r2 hr20 hr21 => ?_⟩
      walk_at "go"
      exact q _ _ (Int.emod_nonneg _ (by omega)) (Int.emod_lt_of_pos _ (by omega)) p2
    by_cases hz : gl = []
    · subst hz
      rw [show (!(PyData.list (List.map PyData.int [])).eqv (.list [])) = false from rfl]
      exact g_iff (g_next (fin _ _ _ rfl))
    · have hz' : (PyData.list (List.map PyData.int gl)).eqv (.list []) = false := by
        cases hb : (PyData.list (List.map PyData.int gl)).eqv (.list []) with
        | false => rfl
        | true => 
          have := (pl_eqv (pl_ints gl) pl_nilL).mp hb
          simp at this
          exact absurd this hz
      rw [hz', Bool.not_false]
      have hlen : 0 < gl.length := List.length_pos_iff.mpr hz
      walk_at "go"
      refine g_dg (x := "great") (v := .ref g) hm2 rfl ?_
      walk_at "go"
      refine g_len (K := K) (Or.inl (SqL.of hg2)) ?_
      rw [List.length_map]
      walk_at "go"
      refine g_dg (x := "great") (v := .ref g) hm2 rfl ?_
      walk_at "go"
      have hat : n % (gl.length : Int) < gl.length := Int.emod_lt_of_pos _ (by omega)
      have hat0 : 0 ≤ n % (gl.length : Int) := Int.emod_nonneg _ (by omega)
      have hlt : (n % (gl.length : Int)).toNat < gl.length := by omega
      refine g_ixL (xs := gl.map V.int) (SqL.of hg2) (v := .int gl[(n % (gl.length : Int)).toNat]) (atI_at hat0 (map_get_int (by simp [hlt]))) ?_
      walk_at "go"
      by_cases hc0 : 0 < gl[(n % (gl.length : Int)).toNat]
      · rw [decide_eq_true hc0]
        walk_at "go"
        refine g_dg (x := "great") (v := .ref g) hm2 rfl ?_
        walk_at "go"
        refine g_setL (xs := gl.map V.int) hg2 hat0 (by rw [List.length_map]; exact hat) ?_
        walk_at "go"
        refine q _ _ (Int.emod_nonneg _ (by omega)) (Int.emod_lt_of_pos _ (by omega)) ?_
        rw [map_set_int]
        refine ⟨⟨n + 1, by omega, ?_⟩, fun b o n1 n2 h => ?_⟩
        · refine ⟨?_, ⟨cl, hcl, ?_⟩, ⟨_, by rw [List.length_set]; exact hgl, upd_same⟩, hne, by omega⟩
          · rw [upd_ne (Ne.symm ngm)]; exact hm2
          · rw [upd_ne hne]; exact hc2
        · rw [upd_ne n2]; exact p2.but _ _ n1 n2 h
      · rw [decide_eq_false hc0]
        exact g_iff (g_next (fin _ _ _ rfl))
end
end K56
set_option Elab.async false
set_option linter.all false
set_option maxRecDepth 100000
set_option maxHeartbeats 4000000
namespace K56
open PySem PySem.Spec PyProof.Rows L2 WL
local macro_rules | `(tactic| walk_at "side") => `(tactic| first | (show (_ ∧ _) ∨ (_ ∧ _); omega) | (exact ⟨by omega, by omega⟩) | (show (0 : Int) < _; omega) | omega)
local macro_rules | `(tactic| walk_at "go") => `(tactic| (repeat (first
  | with_reducible refine g_seq ?_ | with_reducible refine g_asgN ?_ | with_reducible refine g_ret ?_ | with_reducible refine g_drop ?_ | with_reducible refine g_ifS ?_ | with_reducible refine g_next ?_
  | with_reducible refine g_var rfl ?_ | with_reducible refine g_c ?_ | with_reducible refine g_op ?_ | with_reducible refine g_un ?_ | with_reducible refine g_rI0 ?_ | ((with_reducible refine g_rI ?_ ?_); next => walk_at "side") | with_reducible refine g_test ?_ | with_reducible refine g_bl ?_
  | with_reducible refine g_nil ?_ | with_reducible refine g_cons ?_ | with_reducible refine g_call ?_ | with_reducible refine g_cb ?_ | with_reducible refine g_if ?_ | with_reducible refine g_par ?_ | with_reducible refine g_two ?_
  | with_reducible refine g_asg ?_ | with_reducible refine g_name ?_ | with_reducible refine g_sub ?_ | with_reducible refine g_yes ?_ | with_reducible refine g_gcons ?_ | with_reducible refine g_gnil ?_ | with_reducible refine g_dget ?_ | with_reducible refine g_dput ?_ | with_reducible refine g_rng1 ?_ | with_reducible refine g_rng2 ?_
  | ((with_reducible refine g_one ?_ ?_); next => omega) | ((with_reducible refine g_twoI ?_ ?_); next => omega) | with_reducible refine g_isNon ?_ | with_reducible refine g_andV ?_ | with_reducible refine g_revT ?_ | with_reducible refine g_itup ?_ | with_reducible refine g_methK0 ?_ | with_reducible refine g_methS ?_ | with_reducible refine g_errF ?_ | with_reducible refine g_prop ?_ | with_reducible refine g_con ?_ | with_reducible refine g_make ?_ | with_reducible refine g_fld ?_ | with_reducible refine g_sfld ?_ | with_reducible refine g_iftn ?_ | with_reducible refine g_iffn ?_ | with_reducible refine g_orV ?_ | with_reducible refine g_notV ?_ | with_reducible refine g_tB ?_ | with_reducible refine g_chain ?_ | with_reducible refine g_neg ?_ | with_reducible refine g_cval ?_ | with_reducible refine g_enumT ?_ | with_reducible refine g_andT ?_ | with_reducible refine g_orT ?_ | with_reducible refine g_notT ?_ | with_reducible refine g_sl ?_ | with_reducible refine g_part ?_ | with_reducible refine g_parI ?_ | with_reducible refine g_noPart ?_ | with_reducible refine g_pcons ?_ | with_reducible refine g_pnil ?_ | with_reducible refine g_list ?_ | with_reducible refine g_lc ?_ | with_reducible refine g_for ?_ | with_reducible refine g_enum ?_ | with_reducible refine g_ift ?_ | with_reducible refine g_iff ?_ | with_reducible refine And.intro rfl ?_ | with_reducible refine g_notNon ?_)))
local macro_rules | `(tactic| walk_at "ex") => `(tactic| (repeat (first
  | with_reducible refine g_seqAsg ?_ | with_reducible refine g_seqFld ?_ | with_reducible refine g_seqDrop ?_ | with_reducible refine g_seqPut ?_ | with_reducible refine g_seqPar ?_ | with_reducible refine g_asgN ?_ | with_reducible refine g_ret ?_ | with_reducible refine g_drop ?_ | with_reducible refine g_next ?_
  | with_reducible refine g_var rfl ?_ | with_reducible refine g_c ?_ | with_reducible refine g_op ?_ | with_reducible refine g_un ?_ | with_reducible refine g_rI0 ?_ | ((with_reducible refine g_rI ?_ ?_); next => walk_at "side") | with_reducible refine g_test ?_ | with_reducible refine g_bl ?_
  | with_reducible refine g_nil ?_ | with_reducible refine g_cons ?_ | with_reducible refine g_call ?_ | with_reducible refine g_cb ?_ | with_reducible refine g_if ?_ | with_reducible refine g_par ?_ | with_reducible refine g_two ?_
  | with_reducible refine g_asg ?_ | with_reducible refine g_name ?_ | with_reducible refine g_sub ?_ | with_reducible refine g_yes ?_ | with_reducible refine g_gcons ?_ | with_reducible refine g_gnil ?_ | with_reducible refine g_dget ?_ | with_reducible refine g_dput ?_ | with_reducible refine g_rng1 ?_ | with_reducible refine g_rng2 ?_
  | ((with_reducible refine g_one ?_ ?_); next => omega) | ((with_reducible refine g_twoI ?_ ?_); next => omega) | with_reducible refine g_isNon ?_ | with_reducible refine g_andV ?_ | with_reducible refine g_revT ?_ | with_reducible refine g_itup ?_ | with_reducible refine g_methK0 ?_ | with_reducible refine g_methS ?_ | with_reducible refine g_errF ?_ | with_reducible refine g_prop ?_ | with_reducible refine g_con ?_ | with_reducible refine g_make ?_ | with_reducible refine g_fld ?_ | with_reducible refine g_sfld ?_ | with_reducible refine g_iftn ?_ | with_reducible refine g_iffn ?_ | with_reducible refine g_orV ?_ | with_reducible refine g_notV ?_ | with_reducible refine g_tB ?_ | with_reducible refine g_chain ?_ | with_reducible refine g_neg ?_ | with_reducible refine g_cval ?_ | with_reducible refine g_enumT ?_ | with_reducible refine g_proj ?_ | with_reducible refine g_andT ?_ | with_reducible refine g_orT ?_ | with_reducible refine g_notT ?_ | with_reducible refine g_sl ?_ | with_reducible refine g_part ?_ | with_reducible refine g_parI ?_ | with_reducible refine g_noPart ?_ | with_reducible refine g_pcons ?_ | with_reducible refine g_pnil ?_ | with_reducible refine g_list ?_ | with_reducible refine g_lc ?_ | with_reducible refine g_enum ?_ | with_reducible refine g_ift ?_ | with_reducible refine g_iff ?_ | with_reducible refine And.intro rfl ?_ | with_reducible refine g_notNon ?_)))
section
variable {P : Program} {w : World} {K : PySem.W.Frag} {mg : Str → Option Value} {base : Heap} {f : Addr} {fd : FuncData}
theorem sc_begun : FnScope ["script", "m", "cell"] ["script"] (defScope s_law_begun) := ⟨rfl, rfl, rfl, by decide +kernel, rfl, by decide +kernel, by decide +kernel⟩
theorem ok_begun (F : FnT K "_law_begun" s_law_begun f fd) (T : Blt mg) (hFolded : Has P w K mg base 1 "_law_folded" ["script"] (spFolded K)) : FnOk P w K mg base CX0 2 f fd ["script"] (spBegun K) := by
  refine F.ok sc_begun (fun vs H Q E h => ?_) (fun cdv A outer s H vs Q E hr h => ?_)
  · obtain ⟨a, ns, rfl, _⟩ := h
    rfl
  · obtain ⟨a, ns, rfl, hS, hlen, q⟩ := h
    have sc := sc_begun
    have hu1 := room1 hr
    refine ⟨_, PSs.nox (pss_cons (ps_set (i := 1) sc.nd rfl (Or.inl rfl) (pe_disp (pps_cons pe_str (pe_has hFolded hr (by decide) (pa_cons (pv 0) pa_nil)) (pps_cons pe_str (pe_lst pa_nil) (pps_cons pe_str pe_int pps_nil))) (by rfl) (by rfl) (fun z => by cases z) (by decide)))
      (pss_cons (ps_dput hu1 (pv 1) pe_str (pe_lc (own := [("cell", 2)]) (g := gName 2) (tt := tYes) (by rfl) sc.nd (pi_list (pv 0)) (blkOk_by (sc := defScope s_law_begun) (N := ["script", "m", "cell"]) (own := [("cell", 2)]) (by decide +kernel)) (fun _ _ _ _ _ => (pg_name (i := 2) sc.nd rfl (Or.inl rfl))) (fun _ _ _ _ _ => pts_nil) (fun _ _ _ _ _ => (pe_ifExp (pt_cmpR op_ge (pv 2) (pe_op op_pow pe_int pe_int) (nomark _)) (pv 2) pe_int))) rfl)
      (pss_one (ps_ret (pv 1))))), ?_⟩
    walk_at "go"
    refine g_disp fun p np => ?_
    walk_at "go"
    have s0 : ∀ b o, H b = some o → upd H p (.dK []) b = some o := fun b o h => by
      rw [upd_ne (fun e => by subst e; rw [np] at h; exact absurd h (by simp))]; exact h
    refine ⟨a, ns, rfl, SqL.same hS s0, hlen, fun c cl H1 hcl nc hc1 s1 => ?_⟩
    have npc : p ≠ c := fun e => by subst e; rw [upd_same] at nc; exact absurd nc (by simp)
    have hp1 : H1 p = some (.dK []) := s1 _ npc _ upd_same
    have s1' : ∀ b o, H b = some o → H1 b = some o := fun b o h => s1 _ (fun e => by subst e; rw [s0 _ _ h] at nc; exact absurd nc (by simp)) _ (s0 _ _ h)
    walk_at "go"
    refine g_lst' ?_
    walk_at "go"
    refine ⟨by decide, fun g0 ng0 => ?_⟩
    have npg : p ≠ g0 := fun e => by subst e; rw [hp1] at ng0; exact absurd ng0 (by simp)
    have ncg : c ≠ g0 := fun e => by subst e; rw [hc1] at ng0; exact absurd ng0 (by simp)
    walk_at "go"
    refine ⟨by rw [upd_ne npg]; exact hp1, drK c g0 0, rfl, len_dr _ _ _, ?_⟩
    rw [merge_dr]
    generalize hH2 : upd (upd H1 g0 (.lst [])) p (.dK (drK c g0 0)) = H2
    have hp2 : H2 p = some (.dK (drK c g0 0)) := by rw [← hH2, upd_same]
    have hc2 : H2 c = some (.lst (cl.map V.int)) := by rw [← hH2, upd_ne npc.symm, upd_ne ncg]; exact hc1
    have s2 : ∀ b o, H b = some o → H2 b = some o := fun b o h => by
      have h1 := s1' _ _ h
      rw [← hH2, upd_ne (fun e => by subst e; rw [np] at h; exact absurd h (by simp)), upd_ne (fun e => by subst e; rw [h1] at ng0; exact absurd ng0 (by simp))]; exact h1
    walk_at "go"
    refine g_lq (K := K) (SqL.same hS s2) ?_
    refine LcQ.list (xs := ns.map V.int) (fun D i H' => (∃ l : List Int, l.length = i ∧ H' D = some (.lst (l.map V.int))) ∧ ∀ b, b ≠ D → H' b = H2 b) (fun D nD => ⟨⟨[], rfl, upd_same⟩, fun b e => upd_ne e⟩) ?_ ?_ ?_
    · rintro D nD i H' _ ⟨_, h2⟩
      exact SqL.same hS fun b o h => by
        rw [h2 b (fun e => by subst e; rw [s2 _ _ h] at nD; exact absurd nD (by simp))]; exact s2 _ _ h
    · rintro D nD i x H' hx ⟨⟨l, hl, h1⟩, h2⟩
      have hi : i < ns.length := by
        rcases Nat.lt_or_ge i ns.length with q | q
        · exact q
        · rw [List.getElem?_map, List.getElem?_eq_none q] at hx; exact absurd hx (by simp)
      obtain ⟨ce, rfl⟩ : ∃ ce, x = V.int ce := by
        rw [List.getElem?_map, List.getElem?_eq_getElem hi] at hx
        exact ⟨_, (Option.some.inj hx).symm⟩
      have put : ∀ k : Int, ∃ acc, H' D = some (HO.lst acc) ∧ acc.length < sizeLine ∧ (∃ l : List Int, l.length = i + 1 ∧ upd H' D (.lst (acc ++ [V.int k])) D = some (.lst (l.map V.int))) ∧ ∀ b, b ≠ D → upd H' D (.lst (acc ++ [V.int k])) b = H2 b := by
        intro k
        refine ⟨_, h1, by rw [List.length_map, hl]; exact Nat.lt_of_lt_of_le (show i < 64 by omega) (by decide), ⟨l ++ [k], by simp [hl], by rw [upd_same]; simp⟩, fun b e => by rw [upd_ne e]; exact h2 b e⟩
      walk_at "go"
      cases hb : decide ((10 : Int) ^ (18 : Int).toNat ≤ ce) with
      | true => walk_at "go"; exact put _
      | false => walk_at "go"; exact put _
    · rintro D nD H' ⟨⟨l, hl, h1⟩, h2⟩
      have npD : p ≠ D := fun e => by subst e; rw [hp2] at nD; exact absurd nD (by simp)
      have ncD : c ≠ D := fun e => by subst e; rw [hc2] at nD; exact absurd nD (by simp)
      walk_at "go"
      refine ⟨p, _, rfl, Or.inl ⟨_, Sum.inr "great", (h2 p npD).trans hp2, rfl, by show (3 : Nat) < sizeLine; decide, rfl⟩, ?_⟩
      walk_at "go"
      refine q p c D _ ⟨upd_same, ⟨cl, hcl, by rw [upd_ne npc.symm, h2 c ncD]; exact hc2⟩, ⟨l, by rw [hl, List.length_map]; exact hlen, by rw [upd_ne npD.symm]; exact h1⟩, ncD, by decide⟩ fun b o h => ?_
      have hb2 := s2 _ _ h
      rw [upd_ne (fun e => by subst e; rw [np] at h; exact absurd h (by simp)), h2 b (fun e => by subst e; rw [hb2] at nD; exact absurd nD (by simp))]
      exact hb2
end
end K56
set_option Elab.async false
set_option linter.all false
set_option maxRecDepth 100000
set_option maxHeartbeats 4000000
namespace K56
open PySem PySem.Spec PyProof.Rows L2 WL
local macro_rules | `(tactic| walk_at "side") => `(tactic| first | (show (_ ∧ _) ∨ (_ ∧ _); omega) | (exact ⟨by omega, by omega⟩) | (show (0 : Int) < _; omega) | omega)
local macro_rules | `(tactic| walk_at "go") => `(tactic| (repeat (first
  | with_reducible refine g_seq ?_ | with_reducible refine g_asgN ?_ | with_reducible refine g_ret ?_ | with_reducible refine g_drop ?_ | with_reducible refine g_ifS ?_ | with_reducible refine g_next ?_
  | with_reducible refine g_var rfl ?_ | with_reducible refine g_c ?_ | with_reducible refine g_op ?_ | with_reducible refine g_un ?_ | with_reducible refine g_rI0 ?_ | ((with_reducible refine g_rI ?_ ?_); next => walk_at "side") | with_reducible refine g_test ?_ | with_reducible refine g_bl ?_
  | with_reducible refine g_nil ?_ | with_reducible refine g_cons ?_ | with_reducible refine g_call ?_ | with_reducible refine g_cb ?_ | with_reducible refine g_if ?_ | with_reducible refine g_par ?_ | with_reducible refine g_two ?_
  | with_reducible refine g_asg ?_ | with_reducible refine g_name ?_ | with_reducible refine g_sub ?_ | with_reducible refine g_yes ?_ | with_reducible refine g_gcons ?_ | with_reducible refine g_gnil ?_ | with_reducible refine g_dget ?_ | with_reducible refine g_dput ?_ | with_reducible refine g_rng1 ?_ | with_reducible refine g_rng2 ?_
  | ((with_reducible refine g_one ?_ ?_); next => omega) | ((with_reducible refine g_twoI ?_ ?_); next => omega) | with_reducible refine g_isNon ?_ | with_reducible refine g_andV ?_ | with_reducible refine g_revT ?_ | with_reducible refine g_itup ?_ | with_reducible refine g_methK0 ?_ | with_reducible refine g_methS ?_ | with_reducible refine g_errF ?_ | with_reducible refine g_prop ?_ | with_reducible refine g_con ?_ | with_reducible refine g_make ?_ | with_reducible refine g_fld ?_ | with_reducible refine g_sfld ?_ | with_reducible refine g_iftn ?_ | with_reducible refine g_iffn ?_ | with_reducible refine g_orV ?_ | with_reducible refine g_notV ?_ | with_reducible refine g_tB ?_ | with_reducible refine g_chain ?_ | with_reducible refine g_neg ?_ | with_reducible refine g_cval ?_ | with_reducible refine g_enumT ?_ | with_reducible refine g_andT ?_ | with_reducible refine g_orT ?_ | with_reducible refine g_notT ?_ | with_reducible refine g_sl ?_ | with_reducible refine g_part ?_ | with_reducible refine g_parI ?_ | with_reducible refine g_noPart ?_ | with_reducible refine g_pcons ?_ | with_reducible refine g_pnil ?_ | with_reducible refine g_list ?_ | with_reducible refine g_lc ?_ | with_reducible refine g_for ?_ | with_reducible refine g_enum ?_ | with_reducible refine g_ift ?_ | with_reducible refine g_iff ?_ | with_reducible refine And.intro rfl ?_ | with_reducible refine g_notNon ?_)))
local macro_rules | `(tactic| walk_at "ex") => `(tactic| (repeat (first
  | with_reducible refine g_seqAsg ?_ | with_reducible refine g_seqFld ?_ | with_reducible refine g_seqDrop ?_ | with_reducible refine g_seqPut ?_ | with_reducible refine g_seqPar ?_ | with_reducible refine g_asgN ?_ | with_reducible refine g_ret ?_ | with_reducible refine g_drop ?_ | with_reducible refine g_next ?_
  | with_reducible refine g_var rfl ?_ | with_reducible refine g_c ?_ | with_reducible refine g_op ?_ | with_reducible refine g_un ?_ | with_reducible refine g_rI0 ?_ | ((with_reducible refine g_rI ?_ ?_); next => walk_at "side") | with_reducible refine g_test ?_ | with_reducible refine g_bl ?_
  | with_reducible refine g_nil ?_ | with_reducible refine g_cons ?_ | with_reducible refine g_call ?_ | with_reducible refine g_cb ?_ | with_reducible refine g_if ?_ | with_reducible refine g_par ?_ | with_reducible refine g_two ?_
  | with_reducible refine g_asg ?_ | with_reducible refine g_name ?_ | with_reducible refine g_sub ?_ | with_reducible refine g_yes ?_ | with_reducible refine g_gcons ?_ | with_reducible refine g_gnil ?_ | with_reducible refine g_dget ?_ | with_reducible refine g_dput ?_ | with_reducible refine g_rng1 ?_ | with_reducible refine g_rng2 ?_
  | ((with_reducible refine g_one ?_ ?_); next => omega) | ((with_reducible refine g_twoI ?_ ?_); next => omega) | with_reducible refine g_isNon ?_ | with_reducible refine g_andV ?_ | with_reducible refine g_revT ?_ | with_reducible refine g_itup ?_ | with_reducible refine g_methK0 ?_ | with_reducible refine g_methS ?_ | with_reducible refine g_errF ?_ | with_reducible refine g_prop ?_ | with_reducible refine g_con ?_ | with_reducible refine g_make ?_ | with_reducible refine g_fld ?_ | with_reducible refine g_sfld ?_ | with_reducible refine g_iftn ?_ | with_reducible refine g_iffn ?_ | with_reducible refine g_orV ?_ | with_reducible refine g_notV ?_ | with_reducible refine g_tB ?_ | with_reducible refine g_chain ?_ | with_reducible refine g_neg ?_ | with_reducible refine g_cval ?_ | with_reducible refine g_enumT ?_ | with_reducible refine g_proj ?_ | with_reducible refine g_andT ?_ | with_reducible refine g_orT ?_ | with_reducible refine g_notT ?_ | with_reducible refine g_sl ?_ | with_reducible refine g_part ?_ | with_reducible refine g_parI ?_ | with_reducible refine g_noPart ?_ | with_reducible refine g_pcons ?_ | with_reducible refine g_pnil ?_ | with_reducible refine g_list ?_ | with_reducible refine g_lc ?_ | with_reducible refine g_enum ?_ | with_reducible refine g_ift ?_ | with_reducible refine g_iff ?_ | with_reducible refine And.intro rfl ?_ | with_reducible refine g_notNon ?_)))
section
variable {P : Program} {w : World} {K : PySem.W.Frag} {mg : Str → Option Value} {base : Heap} {f : Addr} {fd : FuncData} {DC : Addr}
theorem sc_num : FnScope ["value"] ["value"] (defScope s_is_number) := ⟨rfl, rfl, rfl, by decide +kernel, rfl, by decide +kernel, by decide +kernel⟩
theorem ok_num (F : FnT K "is_number" s_is_number f fd) (T : Blt mg) : FnOk P w K mg base CX0 1 f fd ["value"] (spNum K) := by
  refine F.ok sc_num (fun vs H Q E h => ?_) (fun cdv A outer s H vs Q E hr h => ?_)
  · obtain ⟨x, t, rfl, _⟩ := h
    rfl
  · obtain ⟨x, t, rfl, ht, q⟩ := h
    have sc := sc_num
    refine ⟨_, PSs.nox (pss_one (ps_ret (pe_and (pe_callB call_isi (by rfl) T.isinstance (by decide +kernel) (pa_cons (pv 0) (pa_cons (pe_bltn (v := .ty "int") (by rfl) T.int (by decide +kernel) rfl) pa_nil))) (pe_one (pe_not (pe_callB call_isi (by rfl) T.isinstance (by decide +kernel) (pa_cons (pv 0) (pa_cons (pe_bltn (v := .ty "bool") (by rfl) T.bool (by decide +kernel) rfl) pa_nil)))))))), ?_⟩
    walk_at "go"
    refine g_isi (K := K) ht (isi_int K t) ?_
    cases t <;> first | exact g_bl (g_iff q) | (refine g_bl (g_ift ?_); walk_at "go"; refine g_isi (K := K) ht (isi_bool K _) ?_; exact g_bl q)
theorem sc_within : FnScope ["value", "low", "high"] ["value", "low", "high"] (defScope s_is_within) := ⟨rfl, rfl, rfl, by decide +kernel, rfl, by decide +kernel, by decide +kernel⟩
theorem ok_within (F : FnT K "is_within" s_is_within f fd) (hNum : Has P w K mg base 1 "is_number" ["value"] (spNum K)) : FnOk P w K mg base CX0 2 f fd ["value", "low", "high"] (spWithin K) := by
  refine F.ok sc_within (fun vs H Q E h => ?_) (fun cdv A outer s H vs Q E hr h => ?_)
  · obtain ⟨x, t, lo, hi, rfl, _⟩ := h
    rfl
  · obtain ⟨x, t, lo, hi, rfl, ht, q⟩ := h
    have sc := sc_within
    refine ⟨_, PSs.nox (pss_one (ps_ret (pe_and (pe_has hNum hr (by decide) (pa_cons (pv 0) pa_nil)) (pe_one (pe_chain op_le op_le (pv 1) (pv 0) (pv 2)))))), ?_⟩
    walk_at "go"
    refine ⟨_, t, rfl, ht, ?_⟩
    cases ht with
    | int i => 
      refine g_bl (g_ift ?_)
      walk_at "go"
      cases hb : decide (lo ≤ i) with
      | true =>
        walk_at "go"
        have e : Sh.within lo hi (.int i) = decide (i ≤ hi) := by show (decide (lo ≤ i) && decide (i ≤ hi)) = _; rw [hb, Bool.true_and]
        rw [e] at q
        exact q
      | false =>
        have e : Sh.within lo hi (.int i) = false := by show (decide (lo ≤ i) && decide (i ≤ hi)) = _; rw [hb, Bool.false_and]
        rw [e] at q
        exact g_iff q
    | _ => exact g_bl (g_iff q)
theorem sc_tupOf : FnScope ["value", "low", "high"] ["value", "low", "high"] (defScope s_is_tuple_of) := ⟨rfl, rfl, rfl, by decide +kernel, rfl, by decide +kernel, by decide +kernel⟩
theorem ok_tupOf (F : FnT K "is_tuple_of" s_is_tuple_of f fd) (T : Blt mg) : FnOk P w K mg base CX0 1 f fd ["value", "low", "high"] (spTupOf K) := by
  refine F.ok sc_tupOf (fun vs H Q E h => ?_) (fun cdv A outer s H vs Q E hr h => ?_)
  · obtain ⟨x, t, lo, hi, rfl, _⟩ := h
    rfl
  · obtain ⟨x, t, lo, hi, rfl, ht, q⟩ := h
    have sc := sc_tupOf
    refine ⟨_, PSs.nox (pss_one (ps_ret (pe_and (pe_callB call_isi (by rfl) T.isinstance (by decide +kernel) (pa_cons (pv 0) (pa_cons (pe_bltn (v := .ty "tuple") (by rfl) T.tuple (by decide +kernel) rfl) pa_nil))) (pe_one (pe_chain op_le op_le (pv 1) (pe_callB call_len_seq (by rfl) T.len PySem.boot_len (pa_cons (pv 0) pa_nil)) (pv 2)))))), ?_⟩
    walk_at "go"
    refine g_isi (K := K) ht (isi_tup K t) ?_
    cases ht with
    | @tup a xs ss h1 h2 =>
      refine g_bl (g_ift ?_)
      walk_at "go"
      refine g_len (K := K) (Or.inr h1) ?_
      rw [h2.length]
      walk_at "go"
      cases hb : decide (lo ≤ (ss.length : Int)) with
      | true =>
        walk_at "go"
        have e : Sh.sized lo hi (.tup ss) = decide ((ss.length : Int) ≤ hi) := by show (decide (lo ≤ (ss.length : Int)) && decide ((ss.length : Int) ≤ hi)) = _; rw [hb, Bool.true_and]
        rw [e] at q
        exact q
      | false =>
        have e : Sh.sized lo hi (.tup ss) = false := by show (decide (lo ≤ (ss.length : Int)) && decide ((ss.length : Int) ≤ hi)) = _; rw [hb, Bool.false_and]
        rw [e] at q
        exact g_iff q
    | _ => exact g_bl (g_iff q)
end
end K56
set_option Elab.async false
set_option linter.all false
set_option maxRecDepth 100000
set_option maxHeartbeats 4000000
namespace K56
open PySem PySem.Spec PyProof.Rows L2 WL
local macro_rules | `(tactic| walk_at "side") => `(tactic| first | (show (_ ∧ _) ∨ (_ ∧ _); omega) | (exact ⟨by omega, by omega⟩) | (show (0 : Int) < _; omega) | omega)
local macro_rules | `(tactic| walk_at "go") => `(tactic| (repeat (first
  | with_reducible refine g_seq ?_ | with_reducible refine g_asgN ?_ | with_reducible refine g_ret ?_ | with_reducible refine g_drop ?_ | with_reducible refine g_ifS ?_ | with_reducible refine g_next ?_
  | with_reducible refine g_var rfl ?_ | with_reducible refine g_c ?_ | with_reducible refine g_op ?_ | with_reducible refine g_un ?_ | with_reducible refine g_rI0 ?_ | ((with_reducible refine g_rI ?_ ?_); next => walk_at "side") | with_reducible refine g_test ?_ | with_reducible refine g_bl ?_
  | with_reducible refine g_nil ?_ | with_reducible refine g_cons ?_ | with_reducible refine g_call ?_ | with_reducible refine g_cb ?_ | with_reducible refine g_if ?_ | with_reducible refine g_par ?_ | with_reducible refine g_two ?_
  | with_reducible refine g_asg ?_ | with_reducible refine g_name ?_ | with_reducible refine g_sub ?_ | with_reducible refine g_yes ?_ | with_reducible refine g_gcons ?_ | with_reducible refine g_gnil ?_ | with_reducible refine g_dget ?_ | with_reducible refine g_dput ?_ | with_reducible refine g_rng1 ?_ | with_reducible refine g_rng2 ?_
  | ((with_reducible refine g_one ?_ ?_); next => omega) | ((with_reducible refine g_twoI ?_ ?_); next => omega) | with_reducible refine g_isNon ?_ | with_reducible refine g_andV ?_ | with_reducible refine g_revT ?_ | with_reducible refine g_itup ?_ | with_reducible refine g_methK0 ?_ | with_reducible refine g_methS ?_ | with_reducible refine g_errF ?_ | with_reducible refine g_prop ?_ | with_reducible refine g_con ?_ | with_reducible refine g_make ?_ | with_reducible refine g_fld ?_ | with_reducible refine g_sfld ?_ | with_reducible refine g_iftn ?_ | with_reducible refine g_iffn ?_ | with_reducible refine g_orV ?_ | with_reducible refine g_notV ?_ | with_reducible refine g_tB ?_ | with_reducible refine g_chain ?_ | with_reducible refine g_neg ?_ | with_reducible refine g_cval ?_ | with_reducible refine g_enumT ?_ | with_reducible refine g_andT ?_ | with_reducible refine g_orT ?_ | with_reducible refine g_notT ?_ | with_reducible refine g_sl ?_ | with_reducible refine g_part ?_ | with_reducible refine g_parI ?_ | with_reducible refine g_noPart ?_ | with_reducible refine g_pcons ?_ | with_reducible refine g_pnil ?_ | with_reducible refine g_list ?_ | with_reducible refine g_lc ?_ | with_reducible refine g_for ?_ | with_reducible refine g_enum ?_ | with_reducible refine g_ift ?_ | with_reducible refine g_iff ?_ | with_reducible refine And.intro rfl ?_ | with_reducible refine g_notNon ?_)))
local macro_rules | `(tactic| walk_at "ex") => `(tactic| (repeat (first
  | with_reducible refine g_seqAsg ?_ | with_reducible refine g_seqFld ?_ | with_reducible refine g_seqDrop ?_ | with_reducible refine g_seqPut ?_ | with_reducible refine g_seqPar ?_ | with_reducible refine g_asgN ?_ | with_reducible refine g_ret ?_ | with_reducible refine g_drop ?_ | with_reducible refine g_next ?_
  | with_reducible refine g_var rfl ?_ | with_reducible refine g_c ?_ | with_reducible refine g_op ?_ | with_reducible refine g_un ?_ | with_reducible refine g_rI0 ?_ | ((with_reducible refine g_rI ?_ ?_); next => walk_at "side") | with_reducible refine g_test ?_ | with_reducible refine g_bl ?_
  | with_reducible refine g_nil ?_ | with_reducible refine g_cons ?_ | with_reducible refine g_call ?_ | with_reducible refine g_cb ?_ | with_reducible refine g_if ?_ | with_reducible refine g_par ?_ | with_reducible refine g_two ?_
  | with_reducible refine g_asg ?_ | with_reducible refine g_name ?_ | with_reducible refine g_sub ?_ | with_reducible refine g_yes ?_ | with_reducible refine g_gcons ?_ | with_reducible refine g_gnil ?_ | with_reducible refine g_dget ?_ | with_reducible refine g_dput ?_ | with_reducible refine g_rng1 ?_ | with_reducible refine g_rng2 ?_
  | ((with_reducible refine g_one ?_ ?_); next => omega) | ((with_reducible refine g_twoI ?_ ?_); next => omega) | with_reducible refine g_isNon ?_ | with_reducible refine g_andV ?_ | with_reducible refine g_revT ?_ | with_reducible refine g_itup ?_ | with_reducible refine g_methK0 ?_ | with_reducible refine g_methS ?_ | with_reducible refine g_errF ?_ | with_reducible refine g_prop ?_ | with_reducible refine g_con ?_ | with_reducible refine g_make ?_ | with_reducible refine g_fld ?_ | with_reducible refine g_sfld ?_ | with_reducible refine g_iftn ?_ | with_reducible refine g_iffn ?_ | with_reducible refine g_orV ?_ | with_reducible refine g_notV ?_ | with_reducible refine g_tB ?_ | with_reducible refine g_chain ?_ | with_reducible refine g_neg ?_ | with_reducible refine g_cval ?_ | with_reducible refine g_enumT ?_ | with_reducible refine g_proj ?_ | with_reducible refine g_andT ?_ | with_reducible refine g_orT ?_ | with_reducible refine g_notT ?_ | with_reducible refine g_sl ?_ | with_reducible refine g_part ?_ | with_reducible refine g_parI ?_ | with_reducible refine g_noPart ?_ | with_reducible refine g_pcons ?_ | with_reducible refine g_pnil ?_ | with_reducible refine g_list ?_ | with_reducible refine g_lc ?_ | with_reducible refine g_enum ?_ | with_reducible refine g_ift ?_ | with_reducible refine g_iff ?_ | with_reducible refine And.intro rfl ?_ | with_reducible refine g_notNon ?_)))
section
variable {P : Program} {w : World} {K : PySem.W.Frag} {mg : Str → Option Value} {base : Heap} {f : Addr} {fd : FuncData} {DC : Addr}
theorem sc_bound : FnScope ["value", "many", "first", "last", "most"] ["value", "many"] (defScope s_is_bound) := ⟨rfl, rfl, rfl, by decide +kernel, rfl, by decide +kernel, by decide +kernel⟩
theorem ok_bound (F : FnT K "is_bound" s_is_bound f fd) (D : Dia K mg DC) (hTupOf : Has P w K mg base 1 "is_tuple_of" ["value", "low", "high"] (spTupOf K)) (hWithin : Has P w K mg base 2 "is_within" ["value", "low", "high"] (spWithin K)) : FnOk P w K mg base CX0 3 f fd ["value", "many"] (spBound K) := by
  refine F.ok sc_bound (fun vs H Q E h => ?_) (fun cdv A outer s H vs Q E hr h => ?_)
  · obtain ⟨x, t, many, rfl, _⟩ := h
    rfl
  · obtain ⟨x, t, many, rfl, ht, q⟩ := h
    have sc := sc_bound
    refine ⟨_, PSs.nox (pss_cons (ps_if (pt_not (pt_val (pe_has hTupOf hr (by decide) (pa_cons (pv 0) (pa_cons pe_int (pa_cons pe_int pa_nil))))))
        (pss_one (ps_ret pe_bl))
        pss_nil)
      (pss_cons (ps_asg (pv 0) (pg_tup rfl (pgs_cons (pg_name (i := 2) sc.nd rfl (Or.inl rfl)) (pgs_cons (pg_name (i := 3) sc.nd rfl (Or.inl rfl)) (pgs_cons (pg_name (i := 4) sc.nd rfl (Or.inl rfl)) pgs_nil)))))
      (pss_one (ps_ret (pe_and (pe_has hWithin hr (by decide) (pa_cons (pv 2) (pa_cons pe_int (pa_cons (pe_op op_sub (pv 1) pe_int) pa_nil)))) (pe_and (pe_has hWithin hr (by decide) (pa_cons (pv 3) (pa_cons pe_int (pa_cons (pe_op op_sub (pv 1) pe_int) pa_nil)))) (pe_one (pe_has hWithin hr (by decide) (pa_cons (pv 4) (pa_cons (pe_un un_neg (ClX.pe_cval (pe_ref D.at_))) (pa_cons (ClX.pe_cval (pe_ref D.at_)) pa_nil))))))))))), ?_⟩
    walk_at "go"
    refine ⟨_, t, _, _, rfl, ht, ?_⟩
    cases hz : t.sized 3 3 with
    | false =>
      have e : t.bound many = false := by
        unfold Sh.bound
        split
        · exact absurd (show true = false from hz) (by decide)
        · rfl
      rw [e] at q
      exact g_bl (g_ift (g_ret q))
    | true =>
      refine g_bl (g_iff (g_next ?_))
      cases ht with
      | @tup a xs ss h1 h2 =>
        obtain ⟨s1, s2, s3, rfl⟩ : ∃ s1 s2 s3, ss = [s1, s2, s3] := by
          have hl : ss.length = 3 := by
            have : (decide ((3 : Int) ≤ ss.length) && decide ((ss.length : Int) ≤ 3)) = true := hz
            simp only [Bool.and_eq_true, decide_eq_true_eq] at this
            omega
          match ss, hl with
          | [s1, s2, s3], _ => exact ⟨s1, s2, s3, rfl⟩
        cases h2 with
        | @cons x1 _ _ _ i1 h2 => cases h2 with
          | @cons x2 _ _ _ i2 h2 => cases h2 with
            | @cons x3 _ _ _ i3 h2 =>
              cases h2
              walk_at "go"
              refine g_tupg h1 rfl ?_
              walk_at "go"
              refine ⟨x1, s1, _, _, rfl, i1, ?_⟩
              have e : Sh.bound many (.tup [s1, s2, s3]) = (s1.within 0 (many - 1) && s2.within 0 (many - 1) && s3.within (-1000000000) 1000000000) := rfl
              rw [e] at q
              cases hb1 : s1.within 0 (many - 1) with
              | false => rw [hb1] at q; exact g_bl (g_iff q)
              | true =>
                rw [hb1, Bool.true_and] at q
                refine g_bl (g_ift ?_)
                walk_at "go"
                refine ⟨x2, s2, _, _, rfl, i2, ?_⟩
                cases hb2 : s2.within 0 (many - 1) with
                | false => rw [hb2] at q; exact g_bl (g_iff q)
                | true =>
                  rw [hb2, Bool.true_and] at q
                  refine g_bl (g_ift ?_)
                  walk_at "go"
                  refine D.days ?_
                  walk_at "go"
                  refine D.days ?_
                  walk_at "go"
                  exact ⟨x3, s3, _, _, rfl, i3, q⟩
      | _ => exact absurd (show false = true from hz) (by decide)
theorem sc_wf : FnScope ["modulus", "weekdays", "item", "weekday"] ["modulus", "weekdays"] (defScope s_weekdays_fault) := ⟨rfl, rfl, rfl, by decide +kernel, rfl, by decide +kernel, by decide +kernel⟩
theorem ok_wf (F : FnT K "weekdays_fault" s_weekdays_fault f fd) (T : Blt mg) (D : Dia K mg DC) (hTupOf : Has P w K mg base 1 "is_tuple_of" ["value", "low", "high"] (spTupOf K)) (hWithin : Has P w K mg base 2 "is_within" ["value", "low", "high"] (spWithin K)) : FnOk P w K mg base CX0 3 f fd ["modulus", "weekdays"] (spRowF K (fun x c => [c, x]) "weekdays" 1 16 Sh.note) := by
  refine F.ok sc_wf (fun vs H Q E h => ?_) (fun cdv A outer s H vs Q E hr h => ?_)
  · obtain ⟨x, t, c, rfl, _⟩ := h
    rfl
  · obtain ⟨x, t, c, rfl, ht, q1, q2⟩ := h
    have sc := sc_wf
    refine ⟨_, PSs.nox (pss_cons (ps_if (pt_not (pt_val (pe_has hTupOf hr (by decide) (pa_cons (pv 1) (pa_cons pe_int (pa_cons (ClX.pe_cval (pe_ref D.at_)) pa_nil))))))
        (pss_one (ps_ret (pe_tup (pa_cons pe_str (pa_cons pe_non pa_nil)))))
        pss_nil)
      (pss_cons (ps_for PassesOwn.never rfl (pi_enumT (by rfl) T.enumerate (pa_cons (pv 1) pa_nil)) (pg_tup rfl (pgs_cons (pg_name (i := 2) sc.nd rfl (Or.inl rfl)) (pgs_cons (pg_name (i := 3) sc.nd rfl (Or.inl rfl)) pgs_nil)))
        (pss_one (ps_if (PW.pt (pw_and (pt_cmpR op_notN (pv 3) pe_non (nomark _)) (pw_and1 (pt_not (pt_val (pe_has hWithin hr (by decide) (pa_cons (pv 3) (pa_cons pe_int (pa_cons (pe_op op_sub (pv 0) pe_int) pa_nil)))))))))
          (pss_one (ps_ret (pe_tup (pa_cons pe_str (pa_cons (pv 2) pa_nil)))))
          pss_nil)))
      (pss_one (ps_ret pe_non)))), ?_⟩
    walk_at "go"
    refine D.events ?_
    walk_at "go"
    refine ⟨x, t, _, _, rfl, ht, ?_⟩
    cases hz : t.sized 1 16 with
    | false =>
      refine g_bl (g_ift ?_)
      walk_at "go"
      refine g_tup' ?_
      walk_at "go"
      refine ⟨sz (by simp), fun p np => ?_⟩
      refine q2 none ?_ p _ (.new .refl np) upd_same
      unfold rowFault
      rw [hz]; rfl
    | true =>
      refine g_bl (g_iff (g_next ?_))
      cases ht with
      | @tup a xs ss h1 h2 =>
        have hf : rowFault 1 16 (Sh.note c) (.tup ss) = (firstNot (Sh.note c) ss).map some := by
          unfold rowFault
          rw [if_pos hz]
        rw [hf] at q1 q2
        walk_at "go"
        refine g_one'T (K := K) h1 ?_
        refine ForQ.enumT (xs := xs) (fun i σ H' => Nt H H' ∧ (∃ x y, σ = [some (.int c), some (.ref a), x, y]) ∧ ∀ j s', j < i → ss[j]? = some s' → s'.note c = true) ⟨.refl, ⟨_, _, rfl⟩, fun j s' hj => absurd hj (Nat.not_lt_zero _)⟩ ?_ ?_ ?_
        · rintro i σ H1 _ ⟨nt, _⟩
          exact SqT.same h1 nt.same
        · rintro i x T σ H1 hx ⟨nt, ⟨u, v, rfl⟩, hall⟩ nT
          have nt2 : Nt H (upd H1 T (.tup [.int (i : Nat), x])) := .new nt nT
          obtain ⟨sx, hsx, ax⟩ := (h2.same nt2.same).get hx
          have next : sx.note c = true → ∀ j s', j < i + 1 → ss[j]? = some s' → s'.note c = true := fun h j s' hj e => by
            rcases Nat.lt_succ_iff_lt_or_eq.mp hj with z | z
            · exact hall j s' z e
            · subst z; rw [hsx] at e; rw [← Option.some.inj e]; exact h
          refine g_tupg (SqT.of upd_same) rfl ?_
          walk_at "go"
          have hxn : decide (x = V.non) = sx.isNon := by cases ax <;> rfl
          rw [hxn]
          cases hn : sx.isNon with
          | true =>
            walk_at "go"
            exact ⟨nt2, ⟨_, _, rfl⟩, next (by unfold Sh.note; rw [hn]; rfl)⟩
          | false =>
            walk_at "go"
            refine ⟨x, sx, _, _, rfl, ax, ?_⟩
            cases hb : sx.within 0 (c - 1) with
            | true =>
              walk_at "go"
              exact ⟨nt2, ⟨_, _, rfl⟩, next (by unfold Sh.note; rw [hn, hb]; rfl)⟩
            | false =>
              walk_at "go"
              refine g_tup' ?_
              walk_at "go"
              refine ⟨sz (by simp), fun p np => ?_⟩
              refine q2 (some i) ?_ p _ (.new nt2 np) upd_same
              rw [firstNot_some hsx (by unfold Sh.note; rw [hn, hb]; rfl) hall]
              rfl
        · rintro σ H1 ⟨nt, ⟨u, v, rfl⟩, hall⟩
          walk_at "go"
          refine q1 ?_ _ nt
          rw [firstNot_none fun j s' e => hall j s' (by
            rcases Nat.lt_or_ge j ss.length with z | z
            · rw [h2.length]; exact z
            · rw [List.getElem?_eq_none z] at e; exact absurd e (by simp)) e]
          rfl
      | _ => exact absurd (show false = true from hz) (by decide)
theorem sc_bf : FnScope ["many", "bounds", "item", "bound"] ["many", "bounds"] (defScope s_bounds_fault) := ⟨rfl, rfl, rfl, by decide +kernel, rfl, by decide +kernel, by decide +kernel⟩
theorem ok_bf (F : FnT K "bounds_fault" s_bounds_fault f fd) (T : Blt mg) (D : Dia K mg DC) (hTupOf : Has P w K mg base 1 "is_tuple_of" ["value", "low", "high"] (spTupOf K)) (hBound : Has P w K mg base 3 "is_bound" ["value", "many"] (spBound K)) : FnOk P w K mg base CX0 4 f fd ["many", "bounds"] (spRowF K (fun x c => [c, x]) "bounds" 0 60 Sh.bound) := by
  refine F.ok sc_bf (fun vs H Q E h => ?_) (fun cdv A outer s H vs Q E hr h => ?_)
  · obtain ⟨x, t, c, rfl, _⟩ := h
    rfl
  · obtain ⟨x, t, c, rfl, ht, q1, q2⟩ := h
    have sc := sc_bf
    refine ⟨_, PSs.nox (pss_cons (ps_if (pt_not (pt_val (pe_has hTupOf hr (by decide) (pa_cons (pv 1) (pa_cons pe_int (pa_cons (ClX.pe_cval (pe_ref D.at_)) pa_nil))))))
        (pss_one (ps_ret (pe_tup (pa_cons pe_str (pa_cons pe_non pa_nil)))))
        pss_nil)
      (pss_cons (ps_for PassesOwn.never rfl (pi_enumT (by rfl) T.enumerate (pa_cons (pv 1) pa_nil)) (pg_tup rfl (pgs_cons (pg_name (i := 2) sc.nd rfl (Or.inl rfl)) (pgs_cons (pg_name (i := 3) sc.nd rfl (Or.inl rfl)) pgs_nil)))
        (pss_one (ps_if (pt_not (pt_val (pe_has hBound hr (by decide) (pa_cons (pv 3) (pa_cons (pv 0) pa_nil)))))
          (pss_one (ps_ret (pe_tup (pa_cons pe_str (pa_cons (pv 2) pa_nil)))))
          pss_nil)))
      (pss_one (ps_ret pe_non)))), ?_⟩
    walk_at "go"
    refine D.bounds ?_
    walk_at "go"
    refine ⟨x, t, _, _, rfl, ht, ?_⟩
    cases hz : t.sized 0 60 with
    | false =>
      refine g_bl (g_ift ?_)
      walk_at "go"
      refine g_tup' ?_
      walk_at "go"
      refine ⟨sz (by simp), fun p np => ?_⟩
      refine q2 none ?_ p _ (.new .refl np) upd_same
      unfold rowFault
      rw [hz]; rfl
    | true =>
      refine g_bl (g_iff (g_next ?_))
      cases ht with
      | @tup a xs ss h1 h2 =>
        have hf : rowFault 0 60 (Sh.bound c) (.tup ss) = (firstNot (Sh.bound c) ss).map some := by
          unfold rowFault
          rw [if_pos hz]
        rw [hf] at q1 q2
        walk_at "go"
        refine g_one'T (K := K) h1 ?_
        refine ForQ.enumT (xs := xs) (fun i σ H' => Nt H H' ∧ (∃ x y, σ = [some (.int c), some (.ref a), x, y]) ∧ ∀ j s', j < i → ss[j]? = some s' → s'.bound c = true) ⟨.refl, ⟨_, _, rfl⟩, fun j s' hj => absurd hj (Nat.not_lt_zero _)⟩ ?_ ?_ ?_
        · rintro i σ H1 _ ⟨nt, _⟩
          exact SqT.same h1 nt.same
        · rintro i x T σ H1 hx ⟨nt, ⟨u, v, rfl⟩, hall⟩ nT
          have nt2 : Nt H (upd H1 T (.tup [.int (i : Nat), x])) := .new nt nT
          obtain ⟨sx, hsx, ax⟩ := (h2.same nt2.same).get hx
          have next : sx.bound c = true → ∀ j s', j < i + 1 → ss[j]? = some s' → s'.bound c = true := fun h j s' hj e => by
            rcases Nat.lt_succ_iff_lt_or_eq.mp hj with z | z
            · exact hall j s' z e
            · subst z; rw [hsx] at e; rw [← Option.some.inj e]; exact h
          refine g_tupg (SqT.of upd_same) rfl ?_
          walk_at "go"
          refine ⟨x, sx, _, rfl, ax, ?_⟩
          cases hb : sx.bound c with
          | true =>
            walk_at "go"
            exact ⟨nt2, ⟨_, _, rfl⟩, next hb⟩
          | false =>
            walk_at "go"
            refine g_tup' ?_
            walk_at "go"
            refine ⟨sz (by simp), fun p np => ?_⟩
            refine q2 (some i) ?_ p _ (.new nt2 np) upd_same
            rw [firstNot_some hsx hb hall]
            rfl
        · rintro σ H1 ⟨nt, ⟨u, v, rfl⟩, hall⟩
          walk_at "go"
          refine q1 ?_ _ nt
          rw [firstNot_none fun j s' e => hall j s' (by
            rcases Nat.lt_or_ge j ss.length with z | z
            · rw [h2.length]; exact z
            · rw [List.getElem?_eq_none z] at e; exact absurd e (by simp)) e]
          rfl
      | _ => exact absurd (show false = true from hz) (by decide)
theorem sc_df : FnScope ["modulus", "weekdays", "bounds", "fault"] ["modulus", "weekdays", "bounds"] (defScope s_diary_fault) := ⟨rfl, rfl, rfl, by decide +kernel, rfl, by decide +kernel, by decide +kernel⟩
theorem ok_df (F : FnT K "diary_fault" s_diary_fault f fd) (T : Blt mg) (D : Dia K mg DC) (hWithin : Has P w K mg base 2 "is_within" ["value", "low", "high"] (spWithin K)) (hWf : Has P w K mg base 3 "weekdays_fault" ["modulus", "weekdays"] (spRowF K (fun x c => [c, x]) "weekdays" 1 16 Sh.note)) (hBf : Has P w K mg base 4 "bounds_fault" ["many", "bounds"] (spRowF K (fun x c => [c, x]) "bounds" 0 60 Sh.bound)) : FnOk P w K mg base CX0 5 f fd ["modulus", "weekdays", "bounds"] (spDiaryF K) := by
  refine F.ok sc_df (fun vs H Q E h => ?_) (fun cdv A outer s H vs Q E hr h => ?_)
  · obtain ⟨x, y, z, m, w, b, rfl, _⟩ := h
    rfl
  · obtain ⟨x, y, z, m, ws, b, rfl, hx, hy, hz, q1, q2⟩ := h
    have sc := sc_df
    refine ⟨_, PSs.nox (pss_cons (ps_if (pt_not (pt_val (pe_has hWithin hr (by decide) (pa_cons (pv 0) (pa_cons pe_int (pa_cons (ClX.pe_cval (pe_ref D.at_)) pa_nil))))))
        (pss_one (ps_ret (pe_tup (pa_cons pe_str (pa_cons pe_non pa_nil)))))
        pss_nil)
      (pss_cons (ps_set (i := 3) sc.nd rfl (Or.inl rfl) (pe_has hWf hr (by decide) (pa_cons (pv 0) (pa_cons (pv 1) pa_nil))))
      (pss_cons (ps_if (pt_cmpR op_notN (pv 3) pe_non (nomark _))
        (pss_one (ps_ret (pv 3)))
        pss_nil)
      (pss_one (ps_ret (pe_has hBf hr (by decide) (pa_cons (pe_callB call_len_seq (by rfl) T.len PySem.boot_len (pa_cons (pv 1) pa_nil)) (pa_cons (pv 2) pa_nil)))))))), ?_⟩
    walk_at "go"
    refine D.modulus ?_
    walk_at "go"
    refine ⟨x, m, _, _, rfl, hx, ?_⟩
    cases hm : m.within 2 100 with
    | false =>
      refine g_bl (g_ift ?_)
      walk_at "go"
      refine g_tup' ?_
      walk_at "go"
      refine ⟨sz (by simp), fun p np => ?_⟩
      refine q2 "modulus" none ?_ p _ (.new .refl np) upd_same
      unfold diaryFault
      rw [hm]; rfl
    | true =>
      refine g_bl (g_iff (g_next ?_))
      cases hx with
      | int c =>
        rw [diaryFault_int hm] at q1 q2
        walk_at "ex"
        refine ⟨y, ws, c, rfl, hy, fun e H' nt => ?_, fun it e a H' nt ha => ?_⟩
        · cases hy with
          | @tup a xs ss h1 h2 =>
            rw [wordFault_tup e] at q1 q2
            walk_at "go"
            refine g_iffn (g_next ?_)
            walk_at "go"
            refine g_len (K := K) (Or.inr (SqT.same h1 nt.same)) ?_
            rw [h2.length]
            walk_at "go"
            refine ⟨z, b, _, rfl, hz.same nt.same, fun e2 H2 nt2 => ?_, fun it e2 a2 H2 nt2 ha2 => ?_⟩
            · exact q1 (by rw [e2]; rfl) H2 (nt.trans nt2)
            · exact q2 "bounds" it (by rw [e2]; rfl) a2 H2 (nt.trans nt2) ha2
          | _ => exact absurd (show some (none : Option Nat) = none from e) (by simp)
        · rw [wordFault_some e] at q2
          walk_at "go"
          refine g_iftn ?_
          walk_at "go"
          exact q2 "weekdays" it rfl a H' nt ha
      | _ => exact absurd (show false = true from hm) (by decide)
end
end K56
set_option Elab.async false
set_option linter.all false
set_option maxRecDepth 100000
set_option maxHeartbeats 4000000
namespace K56
open PySem PySem.Spec PyProof.Rows L2 WL
local macro_rules | `(tactic| walk_at "side") => `(tactic| first | (show (_ ∧ _) ∨ (_ ∧ _); omega) | (exact ⟨by omega, by omega⟩) | (show (0 : Int) < _; omega) | omega)
local macro_rules | `(tactic| walk_at "go") => `(tactic| (repeat (first
  | with_reducible refine g_seq ?_ | with_reducible refine g_asgN ?_ | with_reducible refine g_ret ?_ | with_reducible refine g_drop ?_ | with_reducible refine g_ifS ?_ | with_reducible refine g_next ?_
  | with_reducible refine g_var rfl ?_ | with_reducible refine g_c ?_ | with_reducible refine g_op ?_ | with_reducible refine g_un ?_ | with_reducible refine g_rI0 ?_ | ((with_reducible refine g_rI ?_ ?_); next => walk_at "side") | with_reducible refine g_test ?_ | with_reducible refine g_bl ?_
  | with_reducible refine g_nil ?_ | with_reducible refine g_cons ?_ | with_reducible refine g_call ?_ | with_reducible refine g_cb ?_ | with_reducible refine g_if ?_ | with_reducible refine g_par ?_ | with_reducible refine g_two ?_
  | with_reducible refine g_asg ?_ | with_reducible refine g_name ?_ | with_reducible refine g_sub ?_ | with_reducible refine g_yes ?_ | with_reducible refine g_gcons ?_ | with_reducible refine g_gnil ?_ | with_reducible refine g_dget ?_ | with_reducible refine g_dput ?_ | with_reducible refine g_rng1 ?_ | with_reducible refine g_rng2 ?_
  | ((with_reducible refine g_one ?_ ?_); next => omega) | ((with_reducible refine g_twoI ?_ ?_); next => omega) | with_reducible refine g_isNon ?_ | with_reducible refine g_andV ?_ | with_reducible refine g_revT ?_ | with_reducible refine g_itup ?_ | with_reducible refine g_methK0 ?_ | with_reducible refine g_methS ?_ | with_reducible refine g_errF ?_ | with_reducible refine g_prop ?_ | with_reducible refine g_con ?_ | with_reducible refine g_make ?_ | with_reducible refine g_fld ?_ | with_reducible refine g_sfld ?_ | with_reducible refine g_iftn ?_ | with_reducible refine g_iffn ?_ | with_reducible refine g_orV ?_ | with_reducible refine g_notV ?_ | with_reducible refine g_tB ?_ | with_reducible refine g_chain ?_ | with_reducible refine g_neg ?_ | with_reducible refine g_cval ?_ | with_reducible refine g_enumT ?_ | with_reducible refine g_andT ?_ | with_reducible refine g_orT ?_ | with_reducible refine g_notT ?_ | with_reducible refine g_sl ?_ | with_reducible refine g_part ?_ | with_reducible refine g_parI ?_ | with_reducible refine g_noPart ?_ | with_reducible refine g_pcons ?_ | with_reducible refine g_pnil ?_ | with_reducible refine g_list ?_ | with_reducible refine g_lc ?_ | with_reducible refine g_for ?_ | with_reducible refine g_enum ?_ | with_reducible refine g_ift ?_ | with_reducible refine g_iff ?_ | with_reducible refine And.intro rfl ?_ | with_reducible refine g_notNon ?_)))
local macro_rules | `(tactic| walk_at "ex") => `(tactic| (repeat (first
  | with_reducible refine g_seqAsg ?_ | with_reducible refine g_seqFld ?_ | with_reducible refine g_seqDrop ?_ | with_reducible refine g_seqPut ?_ | with_reducible refine g_seqPar ?_ | with_reducible refine g_asgN ?_ | with_reducible refine g_ret ?_ | with_reducible refine g_drop ?_ | with_reducible refine g_next ?_
  | with_reducible refine g_var rfl ?_ | with_reducible refine g_c ?_ | with_reducible refine g_op ?_ | with_reducible refine g_un ?_ | with_reducible refine g_rI0 ?_ | ((with_reducible refine g_rI ?_ ?_); next => walk_at "side") | with_reducible refine g_test ?_ | with_reducible refine g_bl ?_
  | with_reducible refine g_nil ?_ | with_reducible refine g_cons ?_ | with_reducible refine g_call ?_ | with_reducible refine g_cb ?_ | with_reducible refine g_if ?_ | with_reducible refine g_par ?_ | with_reducible refine g_two ?_
  | with_reducible refine g_asg ?_ | with_reducible refine g_name ?_ | with_reducible refine g_sub ?_ | with_reducible refine g_yes ?_ | with_reducible refine g_gcons ?_ | with_reducible refine g_gnil ?_ | with_reducible refine g_dget ?_ | with_reducible refine g_dput ?_ | with_reducible refine g_rng1 ?_ | with_reducible refine g_rng2 ?_
  | ((with_reducible refine g_one ?_ ?_); next => omega) | ((with_reducible refine g_twoI ?_ ?_); next => omega) | with_reducible refine g_isNon ?_ | with_reducible refine g_andV ?_ | with_reducible refine g_revT ?_ | with_reducible refine g_itup ?_ | with_reducible refine g_methK0 ?_ | with_reducible refine g_methS ?_ | with_reducible refine g_errF ?_ | with_reducible refine g_prop ?_ | with_reducible refine g_con ?_ | with_reducible refine g_make ?_ | with_reducible refine g_fld ?_ | with_reducible refine g_sfld ?_ | with_reducible refine g_iftn ?_ | with_reducible refine g_iffn ?_ | with_reducible refine g_orV ?_ | with_reducible refine g_notV ?_ | with_reducible refine g_tB ?_ | with_reducible refine g_chain ?_ | with_reducible refine g_neg ?_ | with_reducible refine g_cval ?_ | with_reducible refine g_enumT ?_ | with_reducible refine g_proj ?_ | with_reducible refine g_andT ?_ | with_reducible refine g_orT ?_ | with_reducible refine g_notT ?_ | with_reducible refine g_sl ?_ | with_reducible refine g_part ?_ | with_reducible refine g_parI ?_ | with_reducible refine g_noPart ?_ | with_reducible refine g_pcons ?_ | with_reducible refine g_pnil ?_ | with_reducible refine g_list ?_ | with_reducible refine g_lc ?_ | with_reducible refine g_enum ?_ | with_reducible refine g_ift ?_ | with_reducible refine g_iff ?_ | with_reducible refine And.intro rfl ?_ | with_reducible refine g_notNon ?_)))
section
variable {P : Program} {w : World} {K : PySem.W.Frag} {mg : Str → Option Value} {base : Heap} {f : Addr} {fd : FuncData} {DC : Addr}
abbrev FnM (K : PySem.W.Frag) (x q : Str) (st : Stmt) (f : Addr) (fd : FuncData) : Prop := FunD K x q (defArgs st) (defBody st) (defScope st) [] [] f fd
theorem sc_dinit : FnScope ["self", "modulus", "weekdays", "bounds", "fault", "part", "item"] ["self", "modulus", "weekdays", "bounds"] (defScope s_Diary_init) := ⟨rfl, rfl, rfl, by decide +kernel, rfl, by decide +kernel, by decide +kernel⟩
theorem ok_dinit (F : FnM K "__init__" "Diary.__init__" s_Diary_init f fd) (O : DiaO K DC) (hDf : Has P w K mg base 5 "diary_fault" ["modulus", "weekdays", "bounds"] (spDiaryF K)) : FnOk P w K mg base CX0 6 f fd ["self", "modulus", "weekdays", "bounds"] (spDInit K DC) := by
  refine F.ok sc_dinit (fun vs H Q E h => ?_) (fun cdv A outer s H vs Q E hr h => ?_)
  · obtain ⟨a, dx, x, y, z, m, w, b, rfl, _⟩ := h
    rfl
  · obtain ⟨a, dx, x, y, z, m, ws, b, rfl, ha, hx, hy, hz, hf, q⟩ := h
    have sc := sc_dinit
    refine ⟨_, PSs.nox (pss_cons (ps_set (i := 4) sc.nd rfl (Or.inl rfl) (pe_has hDf hr (by decide) (pa_cons (pv 1) (pa_cons (pv 2) (pa_cons (pv 3) pa_nil)))))
      (pss_cons (ps_if (pt_cmpR op_notN (pv 4) pe_non (nomark _))
        (pss_cons ps_no (pss_one ps_no))
        pss_nil)
      (pss_cons (ps_fld (pv 0) (pv 1) rfl)
      (pss_cons (ps_fld (pv 0) (pv 2) rfl)
      (pss_one (ps_fld (pv 0) (pv 3) rfl)))))), ?_⟩
    walk_at "go"
    refine ⟨x, y, z, m, ws, b, rfl, hx, hy, hz, fun _ H1 nt => ?_, fun word it e => by rw [hf] at e; exact absurd e (by simp)⟩
    walk_at "go"
    refine g_iffn (g_next ?_)
    have h1 := nt.same _ _ ha
    walk_at "go"
    refine g_put O.cls O.n1 h1 (by simp) ?_
    walk_at "go"
    refine g_put O.cls O.n2 upd_same (by show 1 < 1000; decide) ?_
    walk_at "go"
    refine g_put O.cls O.n3 upd_same (by show 2 < 1000; decide) ?_
    walk_at "go"
    refine q _ (by rw [upd_same]; rfl) fun b o e h => ?_
    rw [upd_ne e, upd_ne e, upd_ne e]
    exact nt.same _ _ h
theorem sc_dmod : FnScope ["self"] ["self"] (defScope s_Diary_modulus) := ⟨rfl, rfl, rfl, by decide +kernel, rfl, by decide +kernel, by decide +kernel⟩
theorem ok_dmod (F : FnM K "modulus" "Diary.modulus" s_Diary_modulus f fd) (O : DiaO K DC) : FnOk P w K mg base CX0 1 f fd ["self"] (spGetF DC "_modulus") := by
  refine F.ok sc_dmod (fun vs H Q E h => ?_) (fun cdv A outer s H vs Q E hr h => ?_)
  · obtain ⟨a, dx, fs, v, rfl, _⟩ := h
    rfl
  · obtain ⟨a, dx, fs, v, rfl, ha, hv, q⟩ := h
    have sc := sc_dmod
    refine ⟨_, PSs.nox (pss_one (ps_ret (pe_fld (pv 0) rfl))), ?_⟩
    walk_at "go"
    exact ⟨a, DC, dx, fs, v, rfl, ha, O.cls, O.n1, hv, q⟩
theorem sc_dwds : FnScope ["self"] ["self"] (defScope s_Diary_weekdays) := ⟨rfl, rfl, rfl, by decide +kernel, rfl, by decide +kernel, by decide +kernel⟩
theorem ok_dwds (F : FnM K "weekdays" "Diary.weekdays" s_Diary_weekdays f fd) (O : DiaO K DC) : FnOk P w K mg base CX0 1 f fd ["self"] (spGetF DC "_weekdays") := by
  refine F.ok sc_dwds (fun vs H Q E h => ?_) (fun cdv A outer s H vs Q E hr h => ?_)
  · obtain ⟨a, dx, fs, v, rfl, _⟩ := h
    rfl
  · obtain ⟨a, dx, fs, v, rfl, ha, hv, q⟩ := h
    have sc := sc_dwds
    refine ⟨_, PSs.nox (pss_one (ps_ret (pe_fld (pv 0) rfl))), ?_⟩
    walk_at "go"
    exact ⟨a, DC, dx, fs, v, rfl, ha, O.cls, O.n2, hv, q⟩
theorem sc_dbds : FnScope ["self"] ["self"] (defScope s_Diary_bounds) := ⟨rfl, rfl, rfl, by decide +kernel, rfl, by decide +kernel, by decide +kernel⟩
theorem ok_dbds (F : FnM K "bounds" "Diary.bounds" s_Diary_bounds f fd) (O : DiaO K DC) : FnOk P w K mg base CX0 1 f fd ["self"] (spGetF DC "_bounds") := by
  refine F.ok sc_dbds (fun vs H Q E h => ?_) (fun cdv A outer s H vs Q E hr h => ?_)
  · obtain ⟨a, dx, fs, v, rfl, _⟩ := h
    rfl
  · obtain ⟨a, dx, fs, v, rfl, ha, hv, q⟩ := h
    have sc := sc_dbds
    refine ⟨_, PSs.nox (pss_one (ps_ret (pe_fld (pv 0) rfl))), ?_⟩
    walk_at "go"
    exact ⟨a, DC, dx, fs, v, rfl, ha, O.cls, O.n3, hv, q⟩
end
end K56
set_option Elab.async false
set_option linter.all false
set_option maxRecDepth 100000
set_option maxHeartbeats 4000000
namespace K56
open PySem PySem.Spec PyProof.Rows L2 WL
local macro_rules | `(tactic| walk_at "side") => `(tactic| first | (show (_ ∧ _) ∨ (_ ∧ _); omega) | (exact ⟨by omega, by omega⟩) | (show (0 : Int) < _; omega) | omega)
local macro_rules | `(tactic| walk_at "go") => `(tactic| (repeat (first
  | with_reducible refine g_seq ?_ | with_reducible refine g_asgN ?_ | with_reducible refine g_ret ?_ | with_reducible refine g_drop ?_ | with_reducible refine g_ifS ?_ | with_reducible refine g_next ?_
  | with_reducible refine g_var rfl ?_ | with_reducible refine g_c ?_ | with_reducible refine g_op ?_ | with_reducible refine g_un ?_ | with_reducible refine g_rI0 ?_ | ((with_reducible refine g_rI ?_ ?_); next => walk_at "side") | with_reducible refine g_test ?_ | with_reducible refine g_bl ?_
  | with_reducible refine g_nil ?_ | with_reducible refine g_cons ?_ | with_reducible refine g_call ?_ | with_reducible refine g_cb ?_ | with_reducible refine g_if ?_ | with_reducible refine g_par ?_ | with_reducible refine g_two ?_
  | with_reducible refine g_asg ?_ | with_reducible refine g_name ?_ | with_reducible refine g_sub ?_ | with_reducible refine g_yes ?_ | with_reducible refine g_gcons ?_ | with_reducible refine g_gnil ?_ | with_reducible refine g_dget ?_ | with_reducible refine g_dput ?_ | with_reducible refine g_rng1 ?_ | with_reducible refine g_rng2 ?_
  | ((with_reducible refine g_one ?_ ?_); next => omega) | ((with_reducible refine g_twoI ?_ ?_); next => omega) | with_reducible refine g_isNon ?_ | with_reducible refine g_andV ?_ | with_reducible refine g_revT ?_ | with_reducible refine g_itup ?_ | with_reducible refine g_methK0 ?_ | with_reducible refine g_methS ?_ | with_reducible refine g_errF ?_ | with_reducible refine g_prop ?_ | with_reducible refine g_con ?_ | with_reducible refine g_make ?_ | with_reducible refine g_fld ?_ | with_reducible refine g_sfld ?_ | with_reducible refine g_iftn ?_ | with_reducible refine g_iffn ?_ | with_reducible refine g_orV ?_ | with_reducible refine g_notV ?_ | with_reducible refine g_tB ?_ | with_reducible refine g_chain ?_ | with_reducible refine g_neg ?_ | with_reducible refine g_cval ?_ | with_reducible refine g_enumT ?_ | with_reducible refine g_andT ?_ | with_reducible refine g_orT ?_ | with_reducible refine g_notT ?_ | with_reducible refine g_sl ?_ | with_reducible refine g_part ?_ | with_reducible refine g_parI ?_ | with_reducible refine g_noPart ?_ | with_reducible refine g_pcons ?_ | with_reducible refine g_pnil ?_ | with_reducible refine g_list ?_ | with_reducible refine g_lc ?_ | with_reducible refine g_for ?_ | with_reducible refine g_enum ?_ | with_reducible refine g_ift ?_ | with_reducible refine g_iff ?_ | with_reducible refine And.intro rfl ?_ | with_reducible refine g_notNon ?_)))
local macro_rules | `(tactic| walk_at "ex") => `(tactic| (repeat (first
  | with_reducible refine g_seqAsg ?_ | with_reducible refine g_seqFld ?_ | with_reducible refine g_seqDrop ?_ | with_reducible refine g_seqPut ?_ | with_reducible refine g_seqPar ?_ | with_reducible refine g_asgN ?_ | with_reducible refine g_ret ?_ | with_reducible refine g_drop ?_ | with_reducible refine g_next ?_
  | with_reducible refine g_var rfl ?_ | with_reducible refine g_c ?_ | with_reducible refine g_op ?_ | with_reducible refine g_un ?_ | with_reducible refine g_rI0 ?_ | ((with_reducible refine g_rI ?_ ?_); next => walk_at "side") | with_reducible refine g_test ?_ | with_reducible refine g_bl ?_
  | with_reducible refine g_nil ?_ | with_reducible refine g_cons ?_ | with_reducible refine g_call ?_ | with_reducible refine g_cb ?_ | with_reducible refine g_if ?_ | with_reducible refine g_par ?_ | with_reducible refine g_two ?_
  | with_reducible refine g_asg ?_ | with_reducible refine g_name ?_ | with_reducible refine g_sub ?_ | with_reducible refine g_yes ?_ | with_reducible refine g_gcons ?_ | with_reducible refine g_gnil ?_ | with_reducible refine g_dget ?_ | with_reducible refine g_dput ?_ | with_reducible refine g_rng1 ?_ | with_reducible refine g_rng2 ?_
  | ((with_reducible refine g_one ?_ ?_); next => omega) | ((with_reducible refine g_twoI ?_ ?_); next => omega) | with_reducible refine g_isNon ?_ | with_reducible refine g_andV ?_ | with_reducible refine g_revT ?_ | with_reducible refine g_itup ?_ | with_reducible refine g_methK0 ?_ | with_reducible refine g_methS ?_ | with_reducible refine g_errF ?_ | with_reducible refine g_prop ?_ | with_reducible refine g_con ?_ | with_reducible refine g_make ?_ | with_reducible refine g_fld ?_ | with_reducible refine g_sfld ?_ | with_reducible refine g_iftn ?_ | with_reducible refine g_iffn ?_ | with_reducible refine g_orV ?_ | with_reducible refine g_notV ?_ | with_reducible refine g_tB ?_ | with_reducible refine g_chain ?_ | with_reducible refine g_neg ?_ | with_reducible refine g_cval ?_ | with_reducible refine g_enumT ?_ | with_reducible refine g_proj ?_ | with_reducible refine g_andT ?_ | with_reducible refine g_orT ?_ | with_reducible refine g_notT ?_ | with_reducible refine g_sl ?_ | with_reducible refine g_part ?_ | with_reducible refine g_parI ?_ | with_reducible refine g_noPart ?_ | with_reducible refine g_pcons ?_ | with_reducible refine g_pnil ?_ | with_reducible refine g_list ?_ | with_reducible refine g_lc ?_ | with_reducible refine g_enum ?_ | with_reducible refine g_ift ?_ | with_reducible refine g_iff ?_ | with_reducible refine And.intro rfl ?_ | with_reducible refine g_notNon ?_)))
section
variable {P : Program} {w : World} {K : PySem.W.Frag} {mg : Str → Option Value} {base : Heap} {f : Addr} {fd : FuncData} {DC IE : Addr}
theorem sc_dlen : FnScope ["self"] ["self"] (defScope s_Diary_len) := ⟨rfl, rfl, rfl, by decide +kernel, rfl, by decide +kernel, by decide +kernel⟩
theorem ok_dlen (F : FnM K "__len__" "Diary.__len__" s_Diary_len f fd) (T : Blt mg) (O : DiaO K DC) : FnOk P w K mg base CX0 1 f fd ["self"] (spDLen DC K) := by
  refine F.ok sc_dlen (fun vs H Q E h => ?_) (fun cdv A outer s H vs Q E hr h => ?_)
  · obtain ⟨a, dx, x, z, wa, ws, rfl, _⟩ := h
    rfl
  · obtain ⟨a, dx, x, z, wa, ws, rfl, ha, hw, q⟩ := h
    have sc := sc_dlen
    refine ⟨_, PSs.nox (pss_one (ps_ret (pe_callB call_len_seq (by rfl) T.len PySem.boot_len (pa_cons (pe_fld (pv 0) rfl) pa_nil)))), ?_⟩
    walk_at "go"
    refine g_f2 O ha ?_
    walk_at "go"
    exact g_len (K := K) (Or.inr hw) q
theorem sc_deq : FnScope ["self", "other"] ["self", "other"] (defScope s_Diary_eq) := ⟨rfl, rfl, rfl, by decide +kernel, rfl, by decide +kernel, by decide +kernel⟩
theorem ok_deq (F : FnM K "__eq__" "Diary.__eq__" s_Diary_eq f fd) (T : Blt mg) (O : DiaO K DC) (D : Dia K mg DC) : FnOk P w K mg base CX0 1 f fd ["self", "other"] (spDEq K DC) := by
  refine F.ok sc_deq (fun vs H Q E h => ?_) (fun cdv A outer s H vs Q E hr h => ?_)
  · obtain ⟨v, x, c, ns, ls, rfl, _⟩ := h
    rfl
  · obtain ⟨v, x, c, ns, ls, rfl, ⟨a, dx, wv, bv, rfl, ha, hn, hl⟩, q⟩ := h
    have sc := sc_deq
    have hu := hr.units
    refine ⟨_, PSs.nox (pss_one (ps_ret (pe_and (pe_callB call_isi (by rfl) T.isinstance (by decide +kernel) (pa_cons (pv 1) (pa_cons (pe_ref D.at_) pa_nil))) (pe_and (pe_cmpR (op_eqD hu) (pe_fld (pv 0) rfl) (pe_fld (pv 1) rfl) (nomark _)) (pe_and (pe_cmpR (op_eqD hu) (pe_fld (pv 0) rfl) (pe_fld (pv 1) rfl) (nomark _)) (pe_one (pe_cmpR (op_eqD hu) (pe_fld (pv 0) rfl) (pe_fld (pv 1) rfl) (nomark _)))))))), ?_⟩
    walk_at "go"
    rcases q with ⟨c2, ns2, ls2, ⟨a2, dx2, wv2, bv2, rfl, ha2, hn2, hl2⟩, q⟩ | ⟨s2, hs2, q⟩
    · refine ⟨_, _, _, _, true, rfl, .own DC, O.ty ha2, O.same, ?_⟩
      refine g_bl (g_ift ?_)
      walk_at "go"
      refine g_f1 O ha ?_
      walk_at "go"
      refine g_f1 O ha2 ?_
      refine g_eqD (K := K) (.int c) (.int c2) rfl rfl ?_
      rw [PyData.eqv.eq_5]
      by_cases e1 : c = c2
      · subst e1
        rw [show (c == c) = true by simp]
        refine g_bl (g_ift ?_)
        walk_at "go"
        refine g_f2 O ha ?_
        walk_at "go"
        refine g_f2 O ha2 ?_
        refine g_eqD (K := K) hn.dp hn2.dp (pl_shaped (pl_notes _) (by decide)) (pl_shaped (pl_notes _) (by decide)) ?_
        cases hb : (notesD ns).eqv (notesD ns2) with
        | false =>
          refine g_bl (g_iff (q false ⟨fun h => by simp at h, fun h => ?_⟩))
          rw [← h.2.1, (pl_eqv (pl_notes _) (pl_notes _)).mpr rfl] at hb
          exact hb.symm
        | true =>
          have e2 := notesD_inj ((pl_eqv (pl_notes _) (pl_notes _)).mp hb)
          refine g_bl (g_ift ?_)
          walk_at "go"
          refine g_f3 O ha ?_
          walk_at "go"
          refine g_f3 O ha2 ?_
          refine g_eqD (K := K) hl.dp hl2.dp (pl_shaped (pl_lines _) (by decide)) (pl_shaped (pl_lines _) (by decide)) ?_
          refine q _ ⟨fun h => ⟨rfl, e2, linesD_inj ((pl_eqv (pl_lines _) (pl_lines _)).mp h)⟩, fun h => ?_⟩
          rw [h.2.2]
          exact (pl_eqv (pl_lines _) (pl_lines _)).mpr rfl
      · rw [show (c == c2) = false by simpa using e1]
        exact g_bl (g_iff (q false ⟨fun h => by simp at h, fun h => absurd h.1 e1⟩))
    · exact ⟨_, _, _, _, false, rfl, .own DC, hs2.ty, O.other s2, g_bl (g_iff q)⟩
theorem sc_need : FnScope ["self", "event"] ["self", "event"] (defScope s_Diary_need_event) := ⟨rfl, rfl, rfl, by decide +kernel, rfl, by decide +kernel, by decide +kernel⟩
theorem ok_need (F : FnM K "need_event" "Diary.need_event" s_Diary_need_event f fd) (T : Blt mg) (O : DiaO K DC) (X : EvX P K mg IE) (hWithin : Has P w K mg base 2 "is_within" ["value", "low", "high"] (spWithin K)) : FnOk P w K mg base (CX P w) 3 f fd ["self", "event"] (spNeed K DC IE) := by
  refine F.ok sc_need (fun vs H Q E h => ?_) (fun cdv A outer s H vs Q E hr h => ?_)
  · obtain ⟨a, dx, x, z, y, wa, ws, s, rfl, _⟩ := h
    rfl
  · obtain ⟨a, dx, x, z, y, wa, ws, s, rfl, ha, hw, hs, q1, q2⟩ := h
    have sc := sc_need
    obtain ⟨fI, fdI, xT, xI, xb⟩ := X.ex
    refine ⟨_, pss_one (ps_if (pt_not (pt_val (pe_has hWithin hr (by decide) (pa_cons (pv 1) (pa_cons pe_int (pa_cons (pe_op op_sub (pe_callB call_len_seq (by rfl) T.len PySem.boot_len (pa_cons (pe_fld (pv 0) rfl) pa_nil)) pe_int) pa_nil))))))
      (pss_one (ps_raise rfl (takes_of rfl rfl rfl rfl) (pmk_ex xT xI hr X.at_ (by decide) (by decide) xb (pa_cons (pv 1) pa_nil))))
      pss_nil), ?_⟩
    walk_at "go"
    refine g_f2 O ha ?_
    walk_at "go"
    refine g_len (K := K) (Or.inr hw) ?_
    walk_at "go"
    refine ⟨y, s, _, _, rfl, hs, ?_⟩
    cases hb : s.within 0 ((ws.length : Int) - 1) with
    | true =>
      walk_at "go"
      exact q1 hb
    | false =>
      walk_at "go"
      refine g_mkex ?_
      walk_at "go"
      exact ⟨y, rfl, q2 hb⟩
end
end K56
set_option Elab.async false
set_option linter.all false
set_option maxRecDepth 100000
set_option maxHeartbeats 4000000
namespace K56
open PySem PySem.Spec PyProof.Rows L2 WL
local macro_rules | `(tactic| walk_at "side") => `(tactic| first | (show (_ ∧ _) ∨ (_ ∧ _); omega) | (exact ⟨by omega, by omega⟩) | (show (0 : Int) < _; omega) | omega)
local macro_rules | `(tactic| walk_at "go") => `(tactic| (repeat (first
  | with_reducible refine g_seq ?_ | with_reducible refine g_asgN ?_ | with_reducible refine g_ret ?_ | with_reducible refine g_drop ?_ | with_reducible refine g_ifS ?_ | with_reducible refine g_next ?_
  | with_reducible refine g_var rfl ?_ | with_reducible refine g_c ?_ | with_reducible refine g_op ?_ | with_reducible refine g_un ?_ | with_reducible refine g_rI0 ?_ | ((with_reducible refine g_rI ?_ ?_); next => walk_at "side") | with_reducible refine g_test ?_ | with_reducible refine g_bl ?_
  | with_reducible refine g_nil ?_ | with_reducible refine g_cons ?_ | with_reducible refine g_call ?_ | with_reducible refine g_cb ?_ | with_reducible refine g_if ?_ | with_reducible refine g_par ?_ | with_reducible refine g_two ?_
  | with_reducible refine g_asg ?_ | with_reducible refine g_name ?_ | with_reducible refine g_sub ?_ | with_reducible refine g_yes ?_ | with_reducible refine g_gcons ?_ | with_reducible refine g_gnil ?_ | with_reducible refine g_dget ?_ | with_reducible refine g_dput ?_ | with_reducible refine g_rng1 ?_ | with_reducible refine g_rng2 ?_
  | ((with_reducible refine g_one ?_ ?_); next => omega) | ((with_reducible refine g_twoI ?_ ?_); next => omega) | with_reducible refine g_isNon ?_ | with_reducible refine g_andV ?_ | with_reducible refine g_revT ?_ | with_reducible refine g_itup ?_ | with_reducible refine g_methK0 ?_ | with_reducible refine g_methS ?_ | with_reducible refine g_errF ?_ | with_reducible refine g_prop ?_ | with_reducible refine g_con ?_ | with_reducible refine g_make ?_ | with_reducible refine g_fld ?_ | with_reducible refine g_sfld ?_ | with_reducible refine g_iftn ?_ | with_reducible refine g_iffn ?_ | with_reducible refine g_orV ?_ | with_reducible refine g_notV ?_ | with_reducible refine g_tB ?_ | with_reducible refine g_chain ?_ | with_reducible refine g_neg ?_ | with_reducible refine g_cval ?_ | with_reducible refine g_enumT ?_ | with_reducible refine g_andT ?_ | with_reducible refine g_orT ?_ | with_reducible refine g_notT ?_ | with_reducible refine g_sl ?_ | with_reducible refine g_part ?_ | with_reducible refine g_parI ?_ | with_reducible refine g_noPart ?_ | with_reducible refine g_pcons ?_ | with_reducible refine g_pnil ?_ | with_reducible refine g_list ?_ | with_reducible refine g_lc ?_ | with_reducible refine g_for ?_ | with_reducible refine g_enum ?_ | with_reducible refine g_ift ?_ | with_reducible refine g_iff ?_ | with_reducible refine And.intro rfl ?_ | with_reducible refine g_notNon ?_)))
local macro_rules | `(tactic| walk_at "ex") => `(tactic| (repeat (first
  | with_reducible refine g_seqAsg ?_ | with_reducible refine g_seqFld ?_ | with_reducible refine g_seqDrop ?_ | with_reducible refine g_seqPut ?_ | with_reducible refine g_seqPar ?_ | with_reducible refine g_asgN ?_ | with_reducible refine g_ret ?_ | with_reducible refine g_drop ?_ | with_reducible refine g_next ?_
  | with_reducible refine g_var rfl ?_ | with_reducible refine g_c ?_ | with_reducible refine g_op ?_ | with_reducible refine g_un ?_ | with_reducible refine g_rI0 ?_ | ((with_reducible refine g_rI ?_ ?_); next => walk_at "side") | with_reducible refine g_test ?_ | with_reducible refine g_bl ?_
  | with_reducible refine g_nil ?_ | with_reducible refine g_cons ?_ | with_reducible refine g_call ?_ | with_reducible refine g_cb ?_ | with_reducible refine g_if ?_ | with_reducible refine g_par ?_ | with_reducible refine g_two ?_
  | with_reducible refine g_asg ?_ | with_reducible refine g_name ?_ | with_reducible refine g_sub ?_ | with_reducible refine g_yes ?_ | with_reducible refine g_gcons ?_ | with_reducible refine g_gnil ?_ | with_reducible refine g_dget ?_ | with_reducible refine g_dput ?_ | with_reducible refine g_rng1 ?_ | with_reducible refine g_rng2 ?_
  | ((with_reducible refine g_one ?_ ?_); next => omega) | ((with_reducible refine g_twoI ?_ ?_); next => omega) | with_reducible refine g_isNon ?_ | with_reducible refine g_andV ?_ | with_reducible refine g_revT ?_ | with_reducible refine g_itup ?_ | with_reducible refine g_methK0 ?_ | with_reducible refine g_methS ?_ | with_reducible refine g_errF ?_ | with_reducible refine g_prop ?_ | with_reducible refine g_con ?_ | with_reducible refine g_make ?_ | with_reducible refine g_fld ?_ | with_reducible refine g_sfld ?_ | with_reducible refine g_iftn ?_ | with_reducible refine g_iffn ?_ | with_reducible refine g_orV ?_ | with_reducible refine g_notV ?_ | with_reducible refine g_tB ?_ | with_reducible refine g_chain ?_ | with_reducible refine g_neg ?_ | with_reducible refine g_cval ?_ | with_reducible refine g_enumT ?_ | with_reducible refine g_proj ?_ | with_reducible refine g_andT ?_ | with_reducible refine g_orT ?_ | with_reducible refine g_notT ?_ | with_reducible refine g_sl ?_ | with_reducible refine g_part ?_ | with_reducible refine g_parI ?_ | with_reducible refine g_noPart ?_ | with_reducible refine g_pcons ?_ | with_reducible refine g_pnil ?_ | with_reducible refine g_list ?_ | with_reducible refine g_lc ?_ | with_reducible refine g_enum ?_ | with_reducible refine g_ift ?_ | with_reducible refine g_iff ?_ | with_reducible refine And.intro rfl ?_ | with_reducible refine g_notNon ?_)))
section
variable {P : Program} {w : World} {K : PySem.W.Frag} {mg : Str → Option Value} {base : Heap} {f : Addr} {fd : FuncData} {DC IE ID MM : Addr}
def spDInitX (K : PySem.W.Frag) (DC ID : Addr) : Sp := fun vs H Q E => ∃ (a dx : Addr) (x y z : V) (m w b : Sh), vs = [.ref a, x, y, z] ∧ H a = some (.ins DC dx []) ∧ AnS K H x m ∧ AnS K H y w ∧ AnS K H z b ∧
  (diaryFault m w b = none → ∀ H', H' a = some (.ins DC dx (dFs x y z)) → (∀ b o, b ≠ a → H b = some o → H' b = some o) → Q .non H') ∧
  (∀ word it, diaryFault m w b = some (word, it) → ∀ d H1, (∀ b o, H b = some o → H1 b = some o) → H1 d = none → E (.ref ID) (some d) (upd H1 d (.xd [("part", .str word), ("item", itemV it)])))
theorem ok_dinitX (F : FnM K "__init__" "Diary.__init__" s_Diary_init f fd) (O : DiaO K DC) (X : Ev2 P K mg "InvalidDiary" "part" "item" ID) (hDf : Has P w K mg base 5 "diary_fault" ["modulus", "weekdays", "bounds"] (spDiaryF K)) : FnOk P w K mg base (CX P w) 6 f fd ["self", "modulus", "weekdays", "bounds"] (spDInitX K DC ID) := by
  refine F.ok sc_dinit (fun vs H Q E h => ?_) (fun cdv A outer s H vs Q E hr h => ?_)
  · obtain ⟨a, dx, x, y, z, m, w, b, rfl, _⟩ := h
    rfl
  · obtain ⟨a, dx, x, y, z, m, ws, b, rfl, ha, hx, hy, hz, q1, q2⟩ := h
    have sc := sc_dinit
    obtain ⟨fI, fdI, xT, xI, xb, _⟩ := X.ex
    refine ⟨_, (pss_cons (ps_set (i := 4) sc.nd rfl (Or.inl rfl) (pe_has hDf hr (by decide) (pa_cons (pv 1) (pa_cons (pv 2) (pa_cons (pv 3) pa_nil)))))
      (pss_cons (ps_if (pt_cmpR op_notN (pv 4) pe_non (nomark _))
        (pss_cons (ps_asg (pv 4) (pg_tup rfl (pgs_cons (pg_name (i := 5) sc.nd rfl (Or.inl rfl)) (pgs_cons (pg_name (i := 6) sc.nd rfl (Or.inl rfl)) pgs_nil)))) (pss_one (ps_raise rfl (takes_of rfl rfl rfl rfl) (pmk_ex2 xT xI hr X.at_ (by decide) (by decide) (by decide) (by decide) (by decide) xb (pa_cons (pv 5) (pa_cons (pv 6) pa_nil))))))
        pss_nil)
      (pss_cons (ps_fld (pv 0) (pv 1) rfl)
      (pss_cons (ps_fld (pv 0) (pv 2) rfl)
      (pss_one (ps_fld (pv 0) (pv 3) rfl)))))), ?_⟩
    walk_at "go"
    refine ⟨x, y, z, m, ws, b, rfl, hx, hy, hz, fun ok H1 nt => ?_, fun word it e t H1 nt ht => ?_⟩
    · walk_at "go"
      refine g_iffn (g_next ?_)
      have h1 := nt.same _ _ ha
      walk_at "go"
      refine g_put O.cls O.n1 h1 (by simp) ?_
      walk_at "go"
      refine g_put O.cls O.n2 upd_same (by show 1 < 1000; decide) ?_
      walk_at "go"
      refine g_put O.cls O.n3 upd_same (by show 2 < 1000; decide) ?_
      walk_at "go"
      refine q1 ok _ (by rw [upd_same]; rfl) fun b o e h => ?_
      rw [upd_ne e, upd_ne e, upd_ne e]
      exact nt.same _ _ h
    · walk_at "go"
      refine g_ift ?_
      walk_at "go"
      refine g_tupg (K := K) (SqT.of ht) rfl ?_
      walk_at "go"
      refine g_proj ?_
      refine g_mkex2 ?_
      walk_at "go"
      exact fun d nd => q2 word it e d H1 nt.same nd
end
end K56
set_option Elab.async false
set_option linter.all false
set_option maxRecDepth 100000
set_option maxHeartbeats 400000
namespace K56
open PySem PySem.Spec PyProof.Rows L2 WL
local macro_rules | `(tactic| walk_at "side") => `(tactic| first | (show (_ ∧ _) ∨ (_ ∧ _); omega) | (exact ⟨by omega, by omega⟩) | (show (0 : Int) < _; omega) | omega)
local macro_rules | `(tactic| walk_at "go") => `(tactic| (repeat (first
  | with_reducible refine g_seq ?_ | with_reducible refine g_asgN ?_ | with_reducible refine g_ret ?_ | with_reducible refine g_drop ?_ | with_reducible refine g_ifS ?_ | with_reducible refine g_next ?_
  | with_reducible refine g_var rfl ?_ | with_reducible refine g_c ?_ | with_reducible refine g_op ?_ | with_reducible refine g_un ?_ | with_reducible refine g_rI0 ?_ | ((with_reducible refine g_rI ?_ ?_); next => walk_at "side") | with_reducible refine g_test ?_ | with_reducible refine g_bl ?_
  | with_reducible refine g_nil ?_ | with_reducible refine g_cons ?_ | with_reducible refine g_call ?_ | with_reducible refine g_cb ?_ | with_reducible refine g_if ?_ | with_reducible refine g_par ?_ | with_reducible refine g_two ?_
  | with_reducible refine g_asg ?_ | with_reducible refine g_name ?_ | with_reducible refine g_sub ?_ | with_reducible refine g_yes ?_ | with_reducible refine g_gcons ?_ | with_reducible refine g_gnil ?_ | with_reducible refine g_dget ?_ | with_reducible refine g_dput ?_ | with_reducible refine g_rng1 ?_ | with_reducible refine g_rng2 ?_
  | ((with_reducible refine g_one ?_ ?_); next => omega) | ((with_reducible refine g_twoI ?_ ?_); next => omega) | with_reducible refine g_isNon ?_ | with_reducible refine g_andV ?_ | with_reducible refine g_revT ?_ | with_reducible refine g_itup ?_ | with_reducible refine g_methK0 ?_ | with_reducible refine g_methS ?_ | with_reducible refine g_errF ?_ | with_reducible refine g_prop ?_ | with_reducible refine g_con ?_ | with_reducible refine g_make ?_ | with_reducible refine g_fld ?_ | with_reducible refine g_sfld ?_ | with_reducible refine g_iftn ?_ | with_reducible refine g_iffn ?_ | with_reducible refine g_orV ?_ | with_reducible refine g_notV ?_ | with_reducible refine g_tB ?_ | with_reducible refine g_chain ?_ | with_reducible refine g_neg ?_ | with_reducible refine g_cval ?_ | with_reducible refine g_enumT ?_ | with_reducible refine g_andT ?_ | with_reducible refine g_orT ?_ | with_reducible refine g_notT ?_ | with_reducible refine g_sl ?_ | with_reducible refine g_part ?_ | with_reducible refine g_parI ?_ | with_reducible refine g_noPart ?_ | with_reducible refine g_pcons ?_ | with_reducible refine g_pnil ?_ | with_reducible refine g_list ?_ | with_reducible refine g_lc ?_ | with_reducible refine g_for ?_ | with_reducible refine g_enum ?_ | with_reducible refine g_ift ?_ | with_reducible refine g_iff ?_ | with_reducible refine And.intro rfl ?_ | with_reducible refine g_notNon ?_)))
local macro_rules | `(tactic| walk_at "ex") => `(tactic| (repeat (first
  | with_reducible refine g_seqAsg ?_ | with_reducible refine g_seqFld ?_ | with_reducible refine g_seqDrop ?_ | with_reducible refine g_seqPut ?_ | with_reducible refine g_seqPar ?_ | with_reducible refine g_asgN ?_ | with_reducible refine g_ret ?_ | with_reducible refine g_drop ?_ | with_reducible refine g_next ?_
  | with_reducible refine g_var rfl ?_ | with_reducible refine g_c ?_ | with_reducible refine g_op ?_ | with_reducible refine g_un ?_ | with_reducible refine g_rI0 ?_ | ((with_reducible refine g_rI ?_ ?_); next => walk_at "side") | with_reducible refine g_test ?_ | with_reducible refine g_bl ?_
  | with_reducible refine g_nil ?_ | with_reducible refine g_cons ?_ | with_reducible refine g_call ?_ | with_reducible refine g_cb ?_ | with_reducible refine g_if ?_ | with_reducible refine g_par ?_ | with_reducible refine g_two ?_
  | with_reducible refine g_asg ?_ | with_reducible refine g_name ?_ | with_reducible refine g_sub ?_ | with_reducible refine g_yes ?_ | with_reducible refine g_gcons ?_ | with_reducible refine g_gnil ?_ | with_reducible refine g_dget ?_ | with_reducible refine g_dput ?_ | with_reducible refine g_rng1 ?_ | with_reducible refine g_rng2 ?_
  | ((with_reducible refine g_one ?_ ?_); next => omega) | ((with_reducible refine g_twoI ?_ ?_); next => omega) | with_reducible refine g_isNon ?_ | with_reducible refine g_andV ?_ | with_reducible refine g_revT ?_ | with_reducible refine g_itup ?_ | with_reducible refine g_methK0 ?_ | with_reducible refine g_methS ?_ | with_reducible refine g_errF ?_ | with_reducible refine g_prop ?_ | with_reducible refine g_con ?_ | with_reducible refine g_make ?_ | with_reducible refine g_fld ?_ | with_reducible refine g_sfld ?_ | with_reducible refine g_iftn ?_ | with_reducible refine g_iffn ?_ | with_reducible refine g_orV ?_ | with_reducible refine g_notV ?_ | with_reducible refine g_tB ?_ | with_reducible refine g_chain ?_ | with_reducible refine g_neg ?_ | with_reducible refine g_cval ?_ | with_reducible refine g_enumT ?_ | with_reducible refine g_proj ?_ | with_reducible refine g_andT ?_ | with_reducible refine g_orT ?_ | with_reducible refine g_notT ?_ | with_reducible refine g_sl ?_ | with_reducible refine g_part ?_ | with_reducible refine g_parI ?_ | with_reducible refine g_noPart ?_ | with_reducible refine g_pcons ?_ | with_reducible refine g_pnil ?_ | with_reducible refine g_list ?_ | with_reducible refine g_lc ?_ | with_reducible refine g_enum ?_ | with_reducible refine g_ift ?_ | with_reducible refine g_iff ?_ | with_reducible refine And.intro rfl ?_ | with_reducible refine g_notNon ?_)))
section
variable {P : Program} {w : World} {K : PySem.W.Frag} {mg : Str → Option Value} {base : Heap} {f : Addr} {fd : FuncData} {DC IE ID MM : Addr}
/-- a pair of numbers of events, read off a value's shape -/
def pairVal (a b : Nat) : Sh → Option (Nat × Nat)
  | .tup [.int i, .int j] => if (0 ≤ i ∧ i < a) ∧ (0 ≤ j ∧ j < b) then some (i.toNat, j.toNat) else none
  | _ => none
def takenBy (p : Nat × Nat) (ps : List (Nat × Nat)) : Bool := ps.any fun q => decide (p.1 = q.1) || decide (p.2 = q.2)
/-- the spot of the first value that is no pair, or whose event is taken -/
def badAt (a b : Nat) : List (Nat × Nat) → List Sh → Option Nat
  | _, [] => none
  | ps, s :: ss => match pairVal a b s with
    | some p => if takenBy p ps then some ps.length else badAt a b (ps ++ [p]) ss
    | none => some ps.length
def spIsPairX (K : PySem.W.Frag) (DC : Addr) : Sp := fun vs H Q _ => ∃ (v u x : V) (s : Sh) (c1 c2 : Int) (n1 n2 : List (Option Int)) (l1 l2 : List (Int × Int × Int)), vs = [v, u, x] ∧ DiaAt DC H v c1 n1 l1 ∧ DiaAt DC H u c2 n2 l2 ∧ AnS K H x s ∧ n1.length ≤ 100 ∧ n2.length ≤ 100 ∧
  Q (.bl (pairVal n1.length n2.length s).isSome) H
theorem pairVal_size {a b : Nat} {s : Sh} (h : s.sized 2 2 = false) : pairVal a b s = none := by
  unfold pairVal
  split
  · rename_i i j
    have z : Sh.sized 2 2 (.tup [.int i, .int j]) = true := rfl
    rw [z] at h
    cases h
  · rfl
theorem ans_two {H : Hp} {v : V} {s : Sh} (h : AnS K H v s) (hz : s.sized 2 2 = true) : ∃ (a : Addr) (v1 v2 : V) (x1 x2 : Sh), v = .ref a ∧ s = .tup [x1, x2] ∧ SqT K H a [v1, v2] ∧ AnS K H v1 x1 ∧ AnS K H v2 x2 := by
  cases h with
  | @tup a xs ss h3 h4 =>
    have e : ss.length = 2 := by
      have z := hz
      unfold Sh.sized at z
      rw [Bool.and_eq_true, decide_eq_true_iff, decide_eq_true_iff] at z
      omega
    obtain ⟨x1, x2, rfl⟩ := len2 e
    cases h4 with
    | cons i1 h4 => cases h4 with
      | cons i2 h4 =>
        cases h4
        exact ⟨a, _, _, x1, x2, rfl, rfl, h3, i1, i2⟩
  | _ => cases hz
theorem pairVal_two {a b : Nat} {x y : Sh} : (pairVal a b (.tup [x, y])).isSome = (x.within 0 ((a : Int) - 1) && y.within 0 ((b : Int) - 1)) := by
  cases x <;> cases y <;> simp [pairVal, Sh.within]
  rename_i i j
  rw [Bool.eq_iff_iff]
  simp only [Bool.and_eq_true, decide_eq_true_eq]
  split
  · simp
    omega
  · simp
    omega
theorem sc_ispair : FnScope ["one", "other", "value"] ["one", "other", "value"] (defScope s_is_pair) := ⟨rfl, rfl, rfl, by decide +kernel, rfl, by decide +kernel, by decide +kernel⟩
theorem ok_ispairX (F : FnT K "is_pair" s_is_pair f fd) (T : Blt mg) (D : DiaF P w K mg base DC IE) (hTupOf : Has P w K mg base 1 "is_tuple_of" ["value", "low", "high"] (spTupOf K)) (hWithin : Has P w K mg base 2 "is_within" ["value", "low", "high"] (spWithin K)) : FnOk P w K mg base CX0 3 f fd ["one", "other", "value"] (spIsPairX K DC) := by
  refine F.ok sc_ispair (fun vs H Q E h => ?_) (fun cdv A outer s H vs Q E hr h => ?_)
  · obtain ⟨v, u, x, s, c1, c2, n1, n2, l1, l2, rfl, _⟩ := h
    rfl
  · obtain ⟨v, u, x, sx, c1, c2, n1, n2, l1, l2, rfl, ⟨a1, d1, w1, b1, rfl, h1, hn1, hl1⟩, ⟨a2, d2, w2, b2, rfl, h2, hn2, hl2⟩, hx, z1, z2, q⟩ := h
    have sc := sc_ispair
    obtain ⟨wa1, rfl, hw1⟩ := fz_notes_inv hn1
    obtain ⟨wa2, rfl, hw2⟩ := fz_notes_inv hn2
    have e1 : (n1.map noteV).length = n1.length := List.length_map _
    have e2 : (n2.map noteV).length = n2.length := List.length_map _
    refine ⟨_, PSs.nox (pss_cons (ps_if (pt_not (pt_val (pe_has hTupOf hr (by decide) (pa_cons (pv 2) (pa_cons pe_int (pa_cons pe_int pa_nil))))))
        (pss_one (ps_ret pe_bl))
        pss_nil)
      (pss_one (ps_ret (pe_and (pe_has hWithin hr (by decide) (pa_cons (pe_ix ix_tup (pv 2) pe_int (fun _ _ => rfl)) (pa_cons pe_int (pa_cons (pe_op op_sub (pe_callB (call_lenD D hr (by decide)) (by rfl) T.len PySem.boot_len (pa_cons (pv 0) pa_nil)) pe_int) pa_nil)))) (pe_one (pe_has hWithin hr (by decide) (pa_cons (pe_ix ix_tup (pv 2) pe_int (fun _ _ => rfl)) (pa_cons pe_int (pa_cons (pe_op op_sub (pe_callB (call_lenD D hr (by decide)) (by rfl) T.len PySem.boot_len (pa_cons (pv 1) pa_nil)) pe_int) pa_nil))))))))), ?_⟩
    walk_at "go"
    refine ⟨x, sx, _, _, rfl, hx, ?_⟩
    cases hz : sx.sized 2 2 with
    | false =>
      rw [pairVal_size hz] at q
      walk_at "go"
      exact q
    | true =>
      walk_at "go"
      obtain ⟨a, v1', v2', x1, x2, rfl, rfl, h3, i1, i2⟩ := ans_two hx hz
      rw [pairVal_two] at q
      refine g_ixT (K := K) h3 (atI_at (by decide) rfl) ?_
      walk_at "go"
      refine g_lenO (K := K) h1 (SqT.of hw1) (by rw [e1]; omega) ?_
      rw [e1]
      walk_at "go"
      refine ⟨_, x1, _, _, rfl, i1, ?_⟩
      cases hb : x1.within 0 ((n1.length : Int) - 1) with
      | false =>
        rw [hb] at q
        walk_at "go"
        exact q
      | true =>
        rw [hb] at q
        walk_at "go"
        refine g_ixT (K := K) h3 (atI_at (by decide) rfl) ?_
        walk_at "go"
        refine g_lenO (K := K) h2 (SqT.of hw2) (by rw [e2]; omega) ?_
        rw [e2]
        walk_at "go"
        exact ⟨_, x2, _, _, rfl, i2, q⟩
def spIsTakenX : Sp := fun vs H Q _ => ∃ (t u : Addr) (p : Nat × Nat) (ps : List (Nat × Nat)) (rows : List V), vs = [.ref t, .ref u] ∧ H t = some (.tup [.int (p.1 : Nat), .int (p.2 : Nat)]) ∧ H u = some (.tup rows) ∧ Fzs H rows (ps.map WL.pairD) ∧ ps.length ≤ 1000 ∧
  ∀ H', (∀ b o, H b = some o → H' b = some o) → Q (.bl (takenBy p ps)) H'
theorem sc_istaken : FnScope ["pair", "earlier", "before"] ["pair", "earlier"] (defScope s_is_taken) := ⟨rfl, rfl, rfl, by decide +kernel, rfl, by decide +kernel, by decide +kernel⟩
theorem dec_nat {i j : Nat} : decide (V.int (i : Nat) = V.int (j : Nat)) = decide (i = j) := by
  rw [Bool.eq_iff_iff, decide_eq_true_iff, decide_eq_true_iff]
  constructor
  · intro e
    injection e with e
    exact Int.ofNat_inj.mp e
  · rintro rfl
    rfl
theorem ok_istakenX (F : FnT K "is_taken" s_is_taken f fd) (hany : mg "any" = none) : FnOk P w K mg base CX0 1 f fd ["pair", "earlier"] spIsTakenX := by
  refine F.ok sc_istaken (fun vs H Q E h => ?_) (fun cdv A outer s H vs Q E hr h => ?_)
  · obtain ⟨t, u, p, ps, rows, rfl, _⟩ := h
    rfl
  · obtain ⟨t, u, p, ps, rows, rfl, ht, hu, hrows, hl, q⟩ := h
    have sc := sc_istaken
    refine ⟨_, PSs.nox (pss_one (ps_ret (pe_callB (call_anyB rfl) (by rfl) hany (by decide +kernel) (pa_cons (pe_lc (own := [("before", 2)]) (g := gName 2) (tt := tYes) (by rfl) sc.nd (pi_tup (pv 1)) (blkOk_by (sc := defScope s_is_taken) (N := ["pair", "earlier", "before"]) (own := [("before", 2)]) (by decide +kernel)) (fun _ _ _ _ _ => (pg_name (i := 2) sc.nd rfl (Or.inl rfl))) (fun _ _ _ _ _ => pts_nil) (fun _ _ _ _ _ => (pe_or (pe_cmpR op_eq (pe_ix (r := rIxT K) ix_tup (pv 0) pe_int (fun _ _ => rfl)) (pe_ix (r := rIxT K) ix_tup (pv 2) pe_int (fun _ _ => rfl)) (nomark _)) (pe_one (pe_cmpR op_eq (pe_ix (r := rIxT K) ix_tup (pv 0) pe_int (fun _ _ => rfl)) (pe_ix (r := rIxT K) ix_tup (pv 2) pe_int (fun _ _ => rfl)) (nomark _)))))) pa_nil)))), ?_⟩
    have hrl : rows.length = ps.length := by rw [hrows.length, List.length_map]
    walk_at "go"
    refine ⟨u, rfl, ⟨_, SqT.of hu⟩, ?_⟩
    refine LcQ.tup (xs := rows) (fun D i H' => H' D = some (.lst (((ps.take i).map fun q => decide (p.1 = q.1) || decide (p.2 = q.2)).map V.bl)) ∧ ∀ b o, H b = some o → H' b = some o) (fun D nD => ⟨upd_same, same_up nD fun _ _ h => h⟩) (fun D nD i H' _ h => SqT.of (h.2 _ _ hu)) ?_ ?_
    · rintro D nD i x H2 hx ⟨h2, s2⟩
      have hi : i < ps.length := by rw [← hrl]; exact (List.getElem?_eq_some_iff.mp hx).1
      obtain ⟨r, er, hr'⟩ := fzs_pair hrows hi
      rw [hx] at er
      cases er
      have fin : ∀ bb : Bool, (decide (p.1 = ps[i].1) || decide (p.2 = ps[i].2)) = bb → ∃ acc, H2 D = some (.lst acc) ∧ acc.length < sizeLine ∧ (upd H2 D (.lst (acc ++ [V.bl bb])) D = some (.lst (((ps.take (i + 1)).map fun q => decide (p.1 = q.1) || decide (p.2 = q.2)).map V.bl)) ∧ ∀ b o, H b = some o → upd H2 D (.lst (acc ++ [V.bl bb])) b = some o) := by
        rintro bb rfl
        refine ⟨_, h2, szl (by simp; omega), ?_, fun b o h => by rw [upd_ne (ne_of_none h nD)]; exact s2 _ _ h⟩
        rw [upd_same, take1 _ ps i hi, List.map_append]
        rfl
      walk_at "go"
      refine g_ixT (K := K) (SqT.of (s2 _ _ ht)) rfl ?_
      walk_at "go"
      refine g_ixT (K := K) (SqT.of (s2 _ _ hr')) rfl ?_
      refine ⟨rfl, ?_⟩
      rw [dec_nat]
      cases e1 : decide (p.1 = ps[i].1) with
      | true =>
        walk_at "go"
        exact fin true (by rw [e1]; rfl)
      | false =>
        walk_at "go"
        refine g_ixT (K := K) (SqT.of (s2 _ _ ht)) rfl ?_
        walk_at "go"
        refine g_ixT (K := K) (SqT.of (s2 _ _ hr')) rfl ?_
        refine ⟨rfl, ?_⟩
        rw [dec_nat]
        exact fin _ (by rw [e1]; rfl)
    · rintro D nD H2 ⟨h2, s2⟩
      rw [hrl, List.take_length] at h2
      walk_at "go"
      refine ⟨D, _, rfl, SqL.of h2, ?_⟩
      rw [show (ps.map fun q => decide (p.1 = q.1) || decide (p.2 = q.2)).any id = takenBy p ps by unfold takenBy; rw [List.any_map]; rfl]
      exact q _ s2
end
end K56
set_option Elab.async false
set_option linter.all false
set_option maxRecDepth 100000
set_option maxHeartbeats 400000
namespace K56
open PySem PySem.Spec PyProof.Rows L2 WL
local macro_rules | `(tactic| walk_at "side") => `(tactic| first | (show (_ ∧ _) ∨ (_ ∧ _); omega) | (exact ⟨by omega, by omega⟩) | (show (0 : Int) < _; omega) | omega)
local macro_rules | `(tactic| walk_at "go") => `(tactic| (repeat (first
  | with_reducible refine g_seq ?_ | with_reducible refine g_asgN ?_ | with_reducible refine g_ret ?_ | with_reducible refine g_drop ?_ | with_reducible refine g_ifS ?_ | with_reducible refine g_next ?_
  | with_reducible refine g_var rfl ?_ | with_reducible refine g_c ?_ | with_reducible refine g_op ?_ | with_reducible refine g_un ?_ | with_reducible refine g_rI0 ?_ | ((with_reducible refine g_rI ?_ ?_); next => walk_at "side") | with_reducible refine g_test ?_ | with_reducible refine g_bl ?_
  | with_reducible refine g_nil ?_ | with_reducible refine g_cons ?_ | with_reducible refine g_call ?_ | with_reducible refine g_cb ?_ | with_reducible refine g_if ?_ | with_reducible refine g_par ?_ | with_reducible refine g_two ?_
  | with_reducible refine g_asg ?_ | with_reducible refine g_name ?_ | with_reducible refine g_sub ?_ | with_reducible refine g_yes ?_ | with_reducible refine g_gcons ?_ | with_reducible refine g_gnil ?_ | with_reducible refine g_dget ?_ | with_reducible refine g_dput ?_ | with_reducible refine g_rng1 ?_ | with_reducible refine g_rng2 ?_
  | ((with_reducible refine g_one ?_ ?_); next => omega) | ((with_reducible refine g_twoI ?_ ?_); next => omega) | with_reducible refine g_isNon ?_ | with_reducible refine g_andV ?_ | with_reducible refine g_revT ?_ | with_reducible refine g_itup ?_ | with_reducible refine g_methK0 ?_ | with_reducible refine g_methS ?_ | with_reducible refine g_errF ?_ | with_reducible refine g_prop ?_ | with_reducible refine g_con ?_ | with_reducible refine g_make ?_ | with_reducible refine g_fld ?_ | with_reducible refine g_sfld ?_ | with_reducible refine g_iftn ?_ | with_reducible refine g_iffn ?_ | with_reducible refine g_orV ?_ | with_reducible refine g_notV ?_ | with_reducible refine g_tB ?_ | with_reducible refine g_chain ?_ | with_reducible refine g_neg ?_ | with_reducible refine g_cval ?_ | with_reducible refine g_enumT ?_ | with_reducible refine g_andT ?_ | with_reducible refine g_orT ?_ | with_reducible refine g_notT ?_ | with_reducible refine g_sl ?_ | with_reducible refine g_part ?_ | with_reducible refine g_parI ?_ | with_reducible refine g_noPart ?_ | with_reducible refine g_pcons ?_ | with_reducible refine g_pnil ?_ | with_reducible refine g_list ?_ | with_reducible refine g_lc ?_ | with_reducible refine g_for ?_ | with_reducible refine g_enum ?_ | with_reducible refine g_ift ?_ | with_reducible refine g_iff ?_ | with_reducible refine And.intro rfl ?_ | with_reducible refine g_notNon ?_)))
local macro_rules | `(tactic| walk_at "ex") => `(tactic| (repeat (first
  | with_reducible refine g_seqAsg ?_ | with_reducible refine g_seqFld ?_ | with_reducible refine g_seqDrop ?_ | with_reducible refine g_seqPut ?_ | with_reducible refine g_seqPar ?_ | with_reducible refine g_asgN ?_ | with_reducible refine g_ret ?_ | with_reducible refine g_drop ?_ | with_reducible refine g_next ?_
  | with_reducible refine g_var rfl ?_ | with_reducible refine g_c ?_ | with_reducible refine g_op ?_ | with_reducible refine g_un ?_ | with_reducible refine g_rI0 ?_ | ((with_reducible refine g_rI ?_ ?_); next => walk_at "side") | with_reducible refine g_test ?_ | with_reducible refine g_bl ?_
  | with_reducible refine g_nil ?_ | with_reducible refine g_cons ?_ | with_reducible refine g_call ?_ | with_reducible refine g_cb ?_ | with_reducible refine g_if ?_ | with_reducible refine g_par ?_ | with_reducible refine g_two ?_
  | with_reducible refine g_asg ?_ | with_reducible refine g_name ?_ | with_reducible refine g_sub ?_ | with_reducible refine g_yes ?_ | with_reducible refine g_gcons ?_ | with_reducible refine g_gnil ?_ | with_reducible refine g_dget ?_ | with_reducible refine g_dput ?_ | with_reducible refine g_rng1 ?_ | with_reducible refine g_rng2 ?_
  | ((with_reducible refine g_one ?_ ?_); next => omega) | ((with_reducible refine g_twoI ?_ ?_); next => omega) | with_reducible refine g_isNon ?_ | with_reducible refine g_andV ?_ | with_reducible refine g_revT ?_ | with_reducible refine g_itup ?_ | with_reducible refine g_methK0 ?_ | with_reducible refine g_methS ?_ | with_reducible refine g_errF ?_ | with_reducible refine g_prop ?_ | with_reducible refine g_con ?_ | with_reducible refine g_make ?_ | with_reducible refine g_fld ?_ | with_reducible refine g_sfld ?_ | with_reducible refine g_iftn ?_ | with_reducible refine g_iffn ?_ | with_reducible refine g_orV ?_ | with_reducible refine g_notV ?_ | with_reducible refine g_tB ?_ | with_reducible refine g_chain ?_ | with_reducible refine g_neg ?_ | with_reducible refine g_cval ?_ | with_reducible refine g_enumT ?_ | with_reducible refine g_proj ?_ | with_reducible refine g_andT ?_ | with_reducible refine g_orT ?_ | with_reducible refine g_notT ?_ | with_reducible refine g_sl ?_ | with_reducible refine g_part ?_ | with_reducible refine g_parI ?_ | with_reducible refine g_noPart ?_ | with_reducible refine g_pcons ?_ | with_reducible refine g_pnil ?_ | with_reducible refine g_list ?_ | with_reducible refine g_lc ?_ | with_reducible refine g_enum ?_ | with_reducible refine g_ift ?_ | with_reducible refine g_iff ?_ | with_reducible refine And.intro rfl ?_ | with_reducible refine g_notNon ?_)))
section
variable {P : Program} {w : World} {K : PySem.W.Frag} {mg : Str → Option Value} {base : Heap} {f : Addr} {fd : FuncData} {DC IE ID MM : Addr}
def pairSh (p : Nat × Nat) : Sh := .tup [.int (p.1 : Nat), .int (p.2 : Nat)]
theorem pairVal_some {a b : Nat} {s : Sh} {p : Nat × Nat} (h : pairVal a b s = some p) : s = pairSh p ∧ p.1 < a ∧ p.2 < b := by
  unfold pairVal at h
  split at h
  · rename_i i j
    split at h
    · rename_i c
      cases h
      refine ⟨?_, by show i.toNat < a; omega, by show j.toNat < b; omega⟩
      unfold pairSh
      rw [Int.toNat_of_nonneg c.1.1, Int.toNat_of_nonneg c.2.1]
    · cases h
  · cases h
theorem anss_at {K : PySem.W.Frag} {H : Hp} : ∀ {vs : List V} {ss : List Sh}, AnSs K H vs ss → ∀ {i : Nat} {v : V}, vs[i]? = some v → ∃ s, ss[i]? = some s ∧ AnS K H v s
  | _, _, .nil, _, _, e => by cases e
  | _, _, .cons h _, 0, _, e => by cases e; exact ⟨_, rfl, h⟩
  | _, _, .cons _ t, i + 1, _, e => anss_at t (i := i) e
theorem anss_len {K : PySem.W.Frag} {H : Hp} : ∀ {vs : List V} {ss : List Sh}, AnSs K H vs ss → vs.length = ss.length
  | _, _, .nil => rfl
  | _, _, .cons _ t => congrArg Nat.succ (anss_len t)
def spNeedPairsX (K : PySem.W.Frag) (DC MM : Addr) : Sp := fun vs H Q E => ∃ (v u : V) (t : Addr) (rows : List V) (ss : List Sh) (c1 c2 : Int) (n1 n2 : List (Option Int)) (l1 l2 : List (Int × Int × Int)), vs = [v, u, .ref t] ∧ DiaAt DC H v c1 n1 l1 ∧ DiaAt DC H u c2 n2 l2 ∧ H t = some (.tup rows) ∧ AnSs K H rows ss ∧ n1.length ≤ 100 ∧ n2.length ≤ 100 ∧ rows.length ≤ 1000 ∧ (∀ (i : Nat) (r : Addr) (p : Nat × Nat), rows[i]? = some (V.ref r) → ss[i]? = some (pairSh p) → H r = some (.tup [.int (p.1 : Nat), .int (p.2 : Nat)])) ∧
  (badAt n1.length n2.length [] ss = none → ∀ H', (∀ b o, H b = some o → H' b = some o) → Q .non H') ∧
  (∀ i, badAt n1.length n2.length [] ss = some i → ∀ d H1, (∀ b o, H b = some o → H1 b = some o) → H1 d = none → E (.ref MM) (some d) (upd H1 d (.xd [("part", .str "pair"), ("spot", .int (i : Nat))])))
theorem sc_needpairs : FnScope ["one", "other", "pairs", "spot", "pair"] ["one", "other", "pairs"] (defScope s_need_pairs) := ⟨rfl, rfl, rfl, by decide +kernel, rfl, by decide +kernel, by decide +kernel⟩
theorem ok_needpairsX (F : FnT K "need_pairs" s_need_pairs f fd) (T : Blt mg) (X : Ev2 P K mg "Mismatch" "part" "spot" MM) (hIs : Has P w K mg base 3 "is_pair" ["one", "other", "value"] (spIsPairX K DC)) (hTk : Has P w K mg base 1 "is_taken" ["pair", "earlier"] spIsTakenX) : FnOk P w K mg base (CX P w) 4 f fd ["one", "other", "pairs"] (spNeedPairsX K DC MM) := by
  refine F.ok sc_needpairs (fun vs H Q E h => ?_) (fun cdv A outer s H vs Q E hr h => ?_)
  · obtain ⟨v, u, t, rows, ss, c1, c2, n1, n2, l1, l2, rfl, _⟩ := h
    rfl
  · obtain ⟨v, u, t, rows, ss, c1, c2, n1, n2, l1, l2, rfl, hD1, hD2, ht, hrows, z1, z2, hl, dir, q1, q2⟩ := h
    have sc := sc_needpairs
    obtain ⟨fI, fdI, xT, xI, xb, _⟩ := X.ex
    refine ⟨_, (pss_one (ps_for (passes_of rfl) rfl (pi_enumT (by rfl) T.enumerate (pa_cons (pv 2) pa_nil)) (pg_tup rfl (pgs_cons (pg_name (i := 3) sc.nd rfl (Or.inl rfl)) (pgs_cons (pg_name (i := 4) sc.nd rfl (Or.inl rfl)) pgs_nil)))
        (pss_one (ps_if (PW.pt (pw_or (pt_not (pt_val (pe_has hIs hr (by decide) (pa_cons (pv 0) (pa_cons (pv 1) (pa_cons (pv 4) pa_nil)))))) (pw_or1 (pt_val (pe_has hTk hr (by decide) (pa_cons (pv 4) (pa_cons (pe_slice sl_tupA (pv 2) po_none (po_some (pv 3))) pa_nil)))))))
          (pss_one (ps_raise rfl (takes_of rfl rfl rfl rfl) (pmk_ex2 xT xI hr X.at_ (by decide) (by decide) (by decide) (by decide) (by decide) xb (pa_cons pe_str (pa_cons (pv 3) pa_nil)))))
          pss_nil)))), ?_⟩
    have hrl := anss_len hrows
    walk_at "go"
    refine ⟨t, rows, rfl, SqT.of ht, ?_⟩
    refine ForQ.enumT (xs := rows) (fun i σ H' => (∃ x y, σ = [some v, some u, some (.ref t), x, y]) ∧ (∀ b o, H b = some o → H' b = some o) ∧ ∃ ps, ps.length = i ∧ Fzs H' (rows.take i) (ps.map WL.pairD) ∧ badAt n1.length n2.length [] ss = badAt n1.length n2.length ps (ss.drop i)) ⟨⟨_, _, rfl⟩, fun _ _ h => h, [], rfl, .nil, rfl⟩ (fun i σ H' _ h => SqT.of (h.2.1 _ _ ht)) ?_ ?_
    · rintro i x T σ H1 hx ⟨⟨u1, u2, rfl⟩, s1, ps, pl, hps, eb⟩ nT
      have s2 := same_up (o := .tup [.int (i : Nat), x]) nT s1
      have k2 := Tk.new (o := .tup [.int (i : Nat), x]) nT
      have hi : i < rows.length := (List.getElem?_eq_some_iff.mp hx).1
      obtain ⟨sx, es, hsx⟩ := anss_at hrows hx
      have hsi : i < ss.length := by omega
      have edrop : ss.drop i = sx :: ss.drop (i + 1) := by
        rw [List.drop_eq_getElem_cons hsi]
        rw [List.getElem?_eq_getElem hsi] at es
        rw [Option.some.inj es]
      rw [edrop] at eb
      refine g_tupg (K := K) (SqT.of upd_same) rfl ?_
      have hps2 := hps.tk k2
      generalize upd H1 T (.tup [.int (i : Nat), x]) = H2 at s2 hps2 ⊢
      walk_at "go"
      refine ⟨v, u, x, sx, c1, c2, n1, n2, l1, l2, rfl, hD1.same s2, hD2.same s2, hsx.same s2, z1, z2, ?_⟩
      cases hp : pairVal n1.length n2.length sx with
      | none =>
        have eb' : badAt n1.length n2.length [] ss = some i := by
          rw [eb]
          unfold badAt
          rw [hp, ← pl]
        rw [show (none : Option (Nat × Nat)).isSome = false from rfl]
        walk_at "go"
        refine g_mkex2 ?_
        walk_at "go"
        exact fun d nd => q2 i eb' d H2 s2 nd
      | some p =>
        obtain ⟨e1, p1, p2⟩ := pairVal_some hp
        subst e1
        rw [show (some p : Option (Nat × Nat)).isSome = true from rfl]
        walk_at "go"
        obtain ⟨r, rfl⟩ : ∃ r, x = .ref r := by
          cases hsx with
          | tup _ _ => exact ⟨_, rfl⟩
        have hr' := dir i r p hx es
        refine g_slA (K := K) (s2 _ _ ht) fun a' H3 nt h3 => ?_
        have s3 : ∀ b o, H b = some o → H3 b = some o := fun b o h => nt.same _ _ (s2 _ _ h)
        rw [cut_takeV] at h3
        walk_at "go"
        refine ⟨r, a', p, ps, _, rfl, s3 _ _ hr', h3, hps2.tk nt.tk, by omega, fun H4 s4 => ?_⟩
        have s5 : ∀ b o, H b = some o → H4 b = some o := fun b o h => s4 _ _ (s3 _ _ h)
        cases htk : takenBy p ps with
        | true =>
          have eb' : badAt n1.length n2.length [] ss = some i := by
            rw [eb]
            unfold badAt
            rw [hp]
            simp only [htk, if_true, pl]
          walk_at "go"
          refine g_mkex2 ?_
          walk_at "go"
          exact fun d nd => q2 i eb' d H4 s5 nd
        | false =>
          walk_at "go"
          refine ⟨⟨_, _, rfl⟩, s5, ps ++ [p], by simp [pl], ?_, ?_⟩
          · have et : rows.take (i + 1) = rows.take i ++ [V.ref r] := by
              rw [List.take_succ, hx]
              rfl
            rw [et, List.map_append]
            exact ((hps2.tk nt.tk).tk (Tk.same s4)).snoc (fz_pair (s5 _ _ hr'))
          · rw [eb]
            conv => lhs; unfold badAt
            rw [hp]
            simp [htk]
    · rintro σ H1 ⟨⟨u1, u2, rfl⟩, s1, ps, pl, hps, eb⟩
      rw [List.drop_of_length_le (by omega)] at eb
      exact q1 (by rw [eb]; rfl) _ s1
end
end K56
set_option Elab.async false
set_option linter.all false
set_option maxRecDepth 100000
set_option maxHeartbeats 400000
namespace K56
open PySem PySem.Spec PyProof.Rows L2 WL
local macro_rules | `(tactic| walk_at "side") => `(tactic| first | (show (_ ∧ _) ∨ (_ ∧ _); omega) | (exact ⟨by omega, by omega⟩) | (show (0 : Int) < _; omega) | omega)
local macro_rules | `(tactic| walk_at "go") => `(tactic| (repeat (first
  | with_reducible refine g_seq ?_ | with_reducible refine g_asgN ?_ | with_reducible refine g_ret ?_ | with_reducible refine g_drop ?_ | with_reducible refine g_ifS ?_ | with_reducible refine g_next ?_
  | with_reducible refine g_var rfl ?_ | with_reducible refine g_c ?_ | with_reducible refine g_op ?_ | with_reducible refine g_un ?_ | with_reducible refine g_rI0 ?_ | ((with_reducible refine g_rI ?_ ?_); next => walk_at "side") | with_reducible refine g_test ?_ | with_reducible refine g_bl ?_
  | with_reducible refine g_nil ?_ | with_reducible refine g_cons ?_ | with_reducible refine g_call ?_ | with_reducible refine g_cb ?_ | with_reducible refine g_if ?_ | with_reducible refine g_par ?_ | with_reducible refine g_two ?_
  | with_reducible refine g_asg ?_ | with_reducible refine g_name ?_ | with_reducible refine g_sub ?_ | with_reducible refine g_yes ?_ | with_reducible refine g_gcons ?_ | with_reducible refine g_gnil ?_ | with_reducible refine g_dget ?_ | with_reducible refine g_dput ?_ | with_reducible refine g_rng1 ?_ | with_reducible refine g_rng2 ?_
  | ((with_reducible refine g_one ?_ ?_); next => omega) | ((with_reducible refine g_twoI ?_ ?_); next => omega) | with_reducible refine g_isNon ?_ | with_reducible refine g_andV ?_ | with_reducible refine g_revT ?_ | with_reducible refine g_itup ?_ | with_reducible refine g_methK0 ?_ | with_reducible refine g_methS ?_ | with_reducible refine g_errF ?_ | with_reducible refine g_prop ?_ | with_reducible refine g_con ?_ | with_reducible refine g_make ?_ | with_reducible refine g_fld ?_ | with_reducible refine g_sfld ?_ | with_reducible refine g_iftn ?_ | with_reducible refine g_iffn ?_ | with_reducible refine g_orV ?_ | with_reducible refine g_notV ?_ | with_reducible refine g_tB ?_ | with_reducible refine g_chain ?_ | with_reducible refine g_neg ?_ | with_reducible refine g_cval ?_ | with_reducible refine g_enumT ?_ | with_reducible refine g_andT ?_ | with_reducible refine g_orT ?_ | with_reducible refine g_notT ?_ | with_reducible refine g_sl ?_ | with_reducible refine g_part ?_ | with_reducible refine g_parI ?_ | with_reducible refine g_noPart ?_ | with_reducible refine g_pcons ?_ | with_reducible refine g_pnil ?_ | with_reducible refine g_list ?_ | with_reducible refine g_lc ?_ | with_reducible refine g_for ?_ | with_reducible refine g_enum ?_ | with_reducible refine g_ift ?_ | with_reducible refine g_iff ?_ | with_reducible refine And.intro rfl ?_ | with_reducible refine g_notNon ?_)))
local macro_rules | `(tactic| walk_at "ex") => `(tactic| (repeat (first
  | with_reducible refine g_seqAsg ?_ | with_reducible refine g_seqFld ?_ | with_reducible refine g_seqDrop ?_ | with_reducible refine g_seqPut ?_ | with_reducible refine g_seqPar ?_ | with_reducible refine g_asgN ?_ | with_reducible refine g_ret ?_ | with_reducible refine g_drop ?_ | with_reducible refine g_next ?_
  | with_reducible refine g_var rfl ?_ | with_reducible refine g_c ?_ | with_reducible refine g_op ?_ | with_reducible refine g_un ?_ | with_reducible refine g_rI0 ?_ | ((with_reducible refine g_rI ?_ ?_); next => walk_at "side") | with_reducible refine g_test ?_ | with_reducible refine g_bl ?_
  | with_reducible refine g_nil ?_ | with_reducible refine g_cons ?_ | with_reducible refine g_call ?_ | with_reducible refine g_cb ?_ | with_reducible refine g_if ?_ | with_reducible refine g_par ?_ | with_reducible refine g_two ?_
  | with_reducible refine g_asg ?_ | with_reducible refine g_name ?_ | with_reducible refine g_sub ?_ | with_reducible refine g_yes ?_ | with_reducible refine g_gcons ?_ | with_reducible refine g_gnil ?_ | with_reducible refine g_dget ?_ | with_reducible refine g_dput ?_ | with_reducible refine g_rng1 ?_ | with_reducible refine g_rng2 ?_
  | ((with_reducible refine g_one ?_ ?_); next => omega) | ((with_reducible refine g_twoI ?_ ?_); next => omega) | with_reducible refine g_isNon ?_ | with_reducible refine g_andV ?_ | with_reducible refine g_revT ?_ | with_reducible refine g_itup ?_ | with_reducible refine g_methK0 ?_ | with_reducible refine g_methS ?_ | with_reducible refine g_errF ?_ | with_reducible refine g_prop ?_ | with_reducible refine g_con ?_ | with_reducible refine g_make ?_ | with_reducible refine g_fld ?_ | with_reducible refine g_sfld ?_ | with_reducible refine g_iftn ?_ | with_reducible refine g_iffn ?_ | with_reducible refine g_orV ?_ | with_reducible refine g_notV ?_ | with_reducible refine g_tB ?_ | with_reducible refine g_chain ?_ | with_reducible refine g_neg ?_ | with_reducible refine g_cval ?_ | with_reducible refine g_enumT ?_ | with_reducible refine g_proj ?_ | with_reducible refine g_andT ?_ | with_reducible refine g_orT ?_ | with_reducible refine g_notT ?_ | with_reducible refine g_sl ?_ | with_reducible refine g_part ?_ | with_reducible refine g_parI ?_ | with_reducible refine g_noPart ?_ | with_reducible refine g_pcons ?_ | with_reducible refine g_pnil ?_ | with_reducible refine g_list ?_ | with_reducible refine g_lc ?_ | with_reducible refine g_enum ?_ | with_reducible refine g_ift ?_ | with_reducible refine g_iff ?_ | with_reducible refine And.intro rfl ?_ | with_reducible refine g_notNon ?_)))
section
variable {P : Program} {w : World} {K : PySem.W.Frag} {mg : Str → Option Value} {base : Heap} {f : Addr} {fd : FuncData} {DC IE ID MM : Addr}
/-- two events that have different weekdays -/
def clash (n1 n2 : List (Option Int)) (p : Nat × Nat) : Bool := match n1.getD p.1 none, n2.getD p.2 none with
  | some a, some b => !decide (a = b)
  | _, _ => false
def spAgreeX (DC MM : Addr) : Sp := fun vs H Q E => ∃ (v u : V) (t : Addr) (rows : List V) (ps : List (Nat × Nat)) (c1 c2 : Int) (n1 n2 : List (Option Int)) (l1 l2 : List (Int × Int × Int)), vs = [v, u, .ref t] ∧ DiaAt DC H v c1 n1 l1 ∧ DiaAt DC H u c2 n2 l2 ∧ H t = some (.tup rows) ∧ Fzs H rows (ps.map WL.pairD) ∧ n1.length ≤ 100 ∧ n2.length ≤ 100 ∧ ps.length ≤ 1000 ∧ (∀ p ∈ ps, p.1 < n1.length ∧ p.2 < n2.length) ∧
  ((∀ p ∈ ps, clash n1 n2 p = false) → ∀ H', (∀ b o, H b = some o → H' b = some o) → Q .non H') ∧
  (∀ (i : Nat) (h : i < ps.length), (∀ (j : Nat) (h : j < ps.length), j < i → clash n1 n2 ps[j] = false) → clash n1 n2 ps[i] = true → ∀ d H1, (∀ b o, H b = some o → H1 b = some o) → H1 d = none → E (.ref MM) (some d) (upd H1 d (.xd [("part", .str "weekday"), ("spot", .int (i : Nat))])))
theorem sc_agree : FnScope ["one", "other", "pairs", "spot", "first", "second", "noted"] ["one", "other", "pairs"] (defScope s_need_agreement) := ⟨rfl, rfl, rfl, by decide +kernel, rfl, by decide +kernel, by decide +kernel⟩
theorem ok_agreeX (F : FnT K "need_agreement" s_need_agreement f fd) (T : Blt mg) (X : Ev2 P K mg "Mismatch" "part" "spot" MM) (D : DiaF P w K mg base DC IE) : FnOk P w K mg base (CX P w) 3 f fd ["one", "other", "pairs"] (spAgreeX DC MM) := by
  refine F.ok sc_agree (fun vs H Q E h => ?_) (fun cdv A outer s H vs Q E hr h => ?_)
  · obtain ⟨v, u, t, rows, ps, c1, c2, n1, n2, l1, l2, rfl, _⟩ := h
    rfl
  · obtain ⟨v, u, t, rows, ps, c1, c2, n1, n2, l1, l2, rfl, ⟨a1, d1, w1, b1, rfl, h1, hn1, hl1⟩, ⟨a2, d2, w2, b2, rfl, h2, hn2, hl2⟩, ht, hrows, z1, z2, hl, bnd, q1, q2⟩ := h
    have sc := sc_agree
    have O := D.obj
    obtain ⟨fI, fdI, xT, xI, xb, _⟩ := X.ex
    obtain ⟨wa1, rfl, hw1⟩ := fz_notes_inv hn1
    obtain ⟨wa2, rfl, hw2⟩ := fz_notes_inv hn2
    refine ⟨_, (pss_one (ps_for (passes_of rfl) rfl (pi_enumT (by rfl) T.enumerate (pa_cons (pv 2) pa_nil)) (pg_tup rfl (pgs_cons (pg_name (i := 3) sc.nd rfl (Or.inl rfl)) (pgs_cons (pg_tup rfl (pgs_cons (pg_name (i := 4) sc.nd rfl (Or.inl rfl)) (pgs_cons (pg_name (i := 5) sc.nd rfl (Or.inl rfl)) pgs_nil))) pgs_nil)))
        (pss_cons (ps_set (i := 6) sc.nd rfl (Or.inl rfl) (pe_tup (pa_cons (pe_ix ix_tup (pe_pm D.pw O hr (by decide) (pv 0)) (pv 4) (fun _ _ => rfl)) (pa_cons (pe_ix ix_tup (pe_pm D.pw O hr (by decide) (pv 1)) (pv 5) (fun _ _ => rfl)) pa_nil))))
        (pss_one (ps_if (PW.pt (pw_and (pt_cmpR op_notIn_seq pe_non (pv 6) (by rfl)) (pw_and1 (pt_cmpR op_ne (pe_ix ix_tup (pv 6) pe_int (fun _ _ => rfl)) (pe_ix ix_tup (pv 6) pe_int (fun _ _ => rfl)) (nomark _)))))
          (pss_one (ps_raise rfl (takes_of rfl rfl rfl rfl) (pmk_ex2 xT xI hr X.at_ (by decide) (by decide) (by decide) (by decide) (by decide) xb (pa_cons pe_str (pa_cons (pv 3) pa_nil)))))
          pss_nil))))), ?_⟩
    have hrl : rows.length = ps.length := by rw [hrows.length, List.length_map]
    walk_at "go"
    refine ⟨t, rows, rfl, SqT.of ht, ?_⟩
    refine ForQ.enumT (xs := rows) (fun i σ H' => (∃ x y z k, σ = [some (.ref a1), some (.ref a2), some (.ref t), x, y, z, k]) ∧ (∀ b o, H b = some o → H' b = some o) ∧ ∀ (j : Nat) (h : j < ps.length), j < i → clash n1 n2 ps[j] = false) ⟨⟨_, _, _, _, rfl⟩, fun _ _ h => h, fun j h c => absurd c (Nat.not_lt_zero _)⟩ (fun i σ H' _ h => SqT.of (h.2.1 _ _ ht)) ?_ ?_
    · rintro i x T σ H1 hx ⟨⟨u1, u2, u3, u4, rfl⟩, s1, no⟩ nT
      have s2 := same_up (o := .tup [.int (i : Nat), x]) nT s1
      have hi : i < ps.length := by rw [← hrl]; exact (List.getElem?_eq_some_iff.mp hx).1
      obtain ⟨r, er, hr'⟩ := fzs_pair hrows hi
      rw [hx] at er
      cases er
      obtain ⟨hf, hs⟩ := bnd _ (List.getElem_mem hi)
      have ec : clash n1 n2 ps[i] = match n1[ps[i].1], n2[ps[i].2] with
        | some a, some b => !decide (a = b)
        | _, _ => false := by
        unfold clash
        rw [List.getD_eq_getElem?_getD, List.getD_eq_getElem?_getD, List.getElem?_eq_getElem hf, List.getElem?_eq_getElem hs]
        rfl
      have next : clash n1 n2 ps[i] = false → ∀ (j : Nat) (h : j < ps.length), j < i + 1 → clash n1 n2 ps[j] = false := fun e j h c => by
        by_cases z : j = i
        · subst z
          exact e
        · exact no j h (by omega)
      refine g_tupg (K := K) (SqT.of upd_same) rfl ?_
      walk_at "go"
      refine g_tupg (K := K) (SqT.of (s2 _ _ hr')) rfl ?_
      walk_at "go"
      refine g_tup' ?_
      walk_at "go"
      refine g_p2 (s2 _ _ h1) ?_
      walk_at "go"
      refine g_ixT (K := K) (SqT.of (s2 _ _ hw1)) (atI_at (i := (ps[i].1 : Int)) (v := noteV n1[ps[i].1]) (by omega) (by rw [List.getElem?_map]; simp [hf])) ?_
      walk_at "go"
      refine g_p2 (s2 _ _ h2) ?_
      walk_at "go"
      refine g_ixT (K := K) (SqT.of (s2 _ _ hw2)) (atI_at (i := (ps[i].2 : Int)) (v := noteV n2[ps[i].2]) (by omega) (by rw [List.getElem?_map]; simp [hs])) ?_
      walk_at "go"
      refine ⟨sz (by simp), fun p np => ?_⟩
      have s3 := same_up (o := .tup [noteV n1[ps[i].1], noteV n2[ps[i].2]]) np s2
      walk_at "go"
      refine ⟨p, _, rfl, Or.inr (SqT.of upd_same), rfl, ?_, ?_⟩
      · cases n1[ps[i].1] <;> cases n2[ps[i].2] <;> rfl
      · generalize hH3 : upd (upd H1 T (HO.tup [V.int (i : Nat), V.ref r])) p (HO.tup [noteV n1[ps[i].1], noteV n2[ps[i].2]]) = H3 at s3 ⊢
        have hp3 : H3 p = some (.tup [noteV n1[ps[i].1], noteV n2[ps[i].2]]) := by rw [← hH3]; exact upd_same
        cases e1 : n1[ps[i].1] with
        | none =>
          rw [e1] at ec
          have z : inV .non [noteV none, noteV n2[ps[i].2]] = true := rfl
          simp only [if_true, z]
          walk_at "go"
          exact ⟨⟨_, _, _, _, rfl⟩, s3, next ec⟩
        | some d1 =>
          cases e2 : n2[ps[i].2] with
          | none =>
            rw [e1, e2] at ec
            have z : inV .non [noteV (some d1), noteV none] = true := rfl
            simp only [if_true, z]
            walk_at "go"
            exact ⟨⟨_, _, _, _, rfl⟩, s3, next ec⟩
          | some d2 =>
            rw [e1, e2] at ec hp3
            have ec' : clash n1 n2 ps[i] = !decide (d1 = d2) := ec
            have z : inV .non [noteV (some d1), noteV (some d2)] = false := rfl
            simp only [if_true, z]
            walk_at "go"
            refine g_ixT (K := K) (SqT.of hp3) rfl ?_
            walk_at "go"
            refine g_ixT (K := K) (SqT.of hp3) rfl ?_
            refine ⟨rfl, ?_⟩
            rw [show decide (noteV (some d1) = noteV (some d2)) = decide (d1 = d2) by
              rw [Bool.eq_iff_iff, decide_eq_true_iff, decide_eq_true_iff]
              constructor
              · intro e; injection e
              · rintro rfl; rfl]
            cases hd : decide (d1 = d2) with
            | true =>
              rw [hd] at ec'
              walk_at "go"
              exact ⟨⟨_, _, _, _, rfl⟩, s3, next ec'⟩
            | false =>
              rw [hd] at ec'
              walk_at "go"
              refine g_mkex2 ?_
              walk_at "go"
              exact fun d nd => q2 i hi no ec' d H3 s3 nd
    · rintro σ H1 ⟨⟨u1, u2, u3, u4, rfl⟩, s1, no⟩
      refine q1 (fun p hp => ?_) _ s1
      obtain ⟨j, hj, e⟩ := List.getElem_of_mem hp
      rw [← e]
      exact no j hj (by rw [hrl]; exact hj)
end
end K56
set_option Elab.async false
set_option linter.all false
set_option maxRecDepth 100000
set_option maxHeartbeats 400000
namespace K56
open PySem PySem.Spec PyProof.Rows L2 WL
local macro_rules | `(tactic| walk_at "side") => `(tactic| first | (show (_ ∧ _) ∨ (_ ∧ _); omega) | (exact ⟨by omega, by omega⟩) | (show (0 : Int) < _; omega) | omega)
local macro_rules | `(tactic| walk_at "go") => `(tactic| (repeat (first
  | with_reducible refine g_seq ?_ | with_reducible refine g_asgN ?_ | with_reducible refine g_ret ?_ | with_reducible refine g_drop ?_ | with_reducible refine g_ifS ?_ | with_reducible refine g_next ?_
  | with_reducible refine g_var rfl ?_ | with_reducible refine g_c ?_ | with_reducible refine g_op ?_ | with_reducible refine g_un ?_ | with_reducible refine g_rI0 ?_ | ((with_reducible refine g_rI ?_ ?_); next => walk_at "side") | with_reducible refine g_test ?_ | with_reducible refine g_bl ?_
  | with_reducible refine g_nil ?_ | with_reducible refine g_cons ?_ | with_reducible refine g_call ?_ | with_reducible refine g_cb ?_ | with_reducible refine g_if ?_ | with_reducible refine g_par ?_ | with_reducible refine g_two ?_
  | with_reducible refine g_asg ?_ | with_reducible refine g_name ?_ | with_reducible refine g_sub ?_ | with_reducible refine g_yes ?_ | with_reducible refine g_gcons ?_ | with_reducible refine g_gnil ?_ | with_reducible refine g_dget ?_ | with_reducible refine g_dput ?_ | with_reducible refine g_rng1 ?_ | with_reducible refine g_rng2 ?_
  | ((with_reducible refine g_one ?_ ?_); next => omega) | ((with_reducible refine g_twoI ?_ ?_); next => omega) | with_reducible refine g_isNon ?_ | with_reducible refine g_andV ?_ | with_reducible refine g_revT ?_ | with_reducible refine g_itup ?_ | with_reducible refine g_methK0 ?_ | with_reducible refine g_methS ?_ | with_reducible refine g_errF ?_ | with_reducible refine g_prop ?_ | with_reducible refine g_con ?_ | with_reducible refine g_make ?_ | with_reducible refine g_fld ?_ | with_reducible refine g_sfld ?_ | with_reducible refine g_iftn ?_ | with_reducible refine g_iffn ?_ | with_reducible refine g_orV ?_ | with_reducible refine g_notV ?_ | with_reducible refine g_tB ?_ | with_reducible refine g_chain ?_ | with_reducible refine g_neg ?_ | with_reducible refine g_cval ?_ | with_reducible refine g_enumT ?_ | with_reducible refine g_andT ?_ | with_reducible refine g_orT ?_ | with_reducible refine g_notT ?_ | with_reducible refine g_sl ?_ | with_reducible refine g_part ?_ | with_reducible refine g_parI ?_ | with_reducible refine g_noPart ?_ | with_reducible refine g_pcons ?_ | with_reducible refine g_pnil ?_ | with_reducible refine g_list ?_ | with_reducible refine g_lc ?_ | with_reducible refine g_for ?_ | with_reducible refine g_enum ?_ | with_reducible refine g_ift ?_ | with_reducible refine g_iff ?_ | with_reducible refine And.intro rfl ?_ | with_reducible refine g_notNon ?_)))
local macro_rules | `(tactic| walk_at "ex") => `(tactic| (repeat (first
  | with_reducible refine g_seqAsg ?_ | with_reducible refine g_seqFld ?_ | with_reducible refine g_seqDrop ?_ | with_reducible refine g_seqPut ?_ | with_reducible refine g_seqPar ?_ | with_reducible refine g_asgN ?_ | with_reducible refine g_ret ?_ | with_reducible refine g_drop ?_ | with_reducible refine g_next ?_
  | with_reducible refine g_var rfl ?_ | with_reducible refine g_c ?_ | with_reducible refine g_op ?_ | with_reducible refine g_un ?_ | with_reducible refine g_rI0 ?_ | ((with_reducible refine g_rI ?_ ?_); next => walk_at "side") | with_reducible refine g_test ?_ | with_reducible refine g_bl ?_
  | with_reducible refine g_nil ?_ | with_reducible refine g_cons ?_ | with_reducible refine g_call ?_ | with_reducible refine g_cb ?_ | with_reducible refine g_if ?_ | with_reducible refine g_par ?_ | with_reducible refine g_two ?_
  | with_reducible refine g_asg ?_ | with_reducible refine g_name ?_ | with_reducible refine g_sub ?_ | with_reducible refine g_yes ?_ | with_reducible refine g_gcons ?_ | with_reducible refine g_gnil ?_ | with_reducible refine g_dget ?_ | with_reducible refine g_dput ?_ | with_reducible refine g_rng1 ?_ | with_reducible refine g_rng2 ?_
  | ((with_reducible refine g_one ?_ ?_); next => omega) | ((with_reducible refine g_twoI ?_ ?_); next => omega) | with_reducible refine g_isNon ?_ | with_reducible refine g_andV ?_ | with_reducible refine g_revT ?_ | with_reducible refine g_itup ?_ | with_reducible refine g_methK0 ?_ | with_reducible refine g_methS ?_ | with_reducible refine g_errF ?_ | with_reducible refine g_prop ?_ | with_reducible refine g_con ?_ | with_reducible refine g_make ?_ | with_reducible refine g_fld ?_ | with_reducible refine g_sfld ?_ | with_reducible refine g_iftn ?_ | with_reducible refine g_iffn ?_ | with_reducible refine g_orV ?_ | with_reducible refine g_notV ?_ | with_reducible refine g_tB ?_ | with_reducible refine g_chain ?_ | with_reducible refine g_neg ?_ | with_reducible refine g_cval ?_ | with_reducible refine g_enumT ?_ | with_reducible refine g_proj ?_ | with_reducible refine g_andT ?_ | with_reducible refine g_orT ?_ | with_reducible refine g_notT ?_ | with_reducible refine g_sl ?_ | with_reducible refine g_part ?_ | with_reducible refine g_parI ?_ | with_reducible refine g_noPart ?_ | with_reducible refine g_pcons ?_ | with_reducible refine g_pnil ?_ | with_reducible refine g_list ?_ | with_reducible refine g_lc ?_ | with_reducible refine g_enum ?_ | with_reducible refine g_ift ?_ | with_reducible refine g_iff ?_ | with_reducible refine And.intro rfl ?_ | with_reducible refine g_notNon ?_)))
section
variable {P : Program} {w : World} {K : PySem.W.Frag} {mg : Str → Option Value} {base : Heap} {f : Addr} {fd : FuncData} {DC IE : Addr}
theorem sc_newnums : FnScope ["one", "other", "pairs", "shared", "first", "second", "numbers", "fresh", "event"] ["one", "other", "pairs"] (defScope s_new_numbers) := ⟨rfl, rfl, rfl, by decide +kernel, rfl, by decide +kernel, by decide +kernel⟩
theorem ok_newnums (F : FnT K "new_numbers" s_new_numbers f fd) (T : Blt mg) (D : DiaF P w K mg base DC IE) : FnOk P w K mg base CX0 3 f fd ["one", "other", "pairs"] (spNewNums DC) := by
  refine F.ok sc_newnums (fun vs H Q E h => ?_) (fun cdv A outer s H vs Q E hr h => ?_)
  · obtain ⟨v, u, t, c1, c2, n1, n2, l1, l2, ps, rows, rfl, _⟩ := h
    rfl
  · obtain ⟨v, u, t, c1, c2, n1, n2, l1, l2, ps, rows, rfl, ⟨a1, d1, w1, b1, rfl, h1, hn1, hl1⟩, ⟨a2, d2, w2, b2, rfl, h2, hn2, hl2⟩, ht, hrows, z1, z2, hl, J, q⟩ := h
    have sc := sc_newnums
    have O := D.obj
    have hu1 := room1 hr
    obtain ⟨wa1, rfl, hw1⟩ := fz_notes_inv hn1
    obtain ⟨wa2, rfl, hw2⟩ := fz_notes_inv hn2
    have e1 : (n1.map noteV).length = n1.length := List.length_map _
    have e2 : (n2.map noteV).length = n2.length := List.length_map _
    have hrl : rows.length = ps.length := by rw [hrows.length, List.length_map]
    refine ⟨_, PSs.nox (pss_cons (ps_setDc (n := 3) (mine := [("first", 4), ("second", 5)]) (g := gTup K 2 (gCons (gName 4) (gCons (gName 5) gNil))) (tt := tYes) (tk := tVar 5) (tv := tVar 4) rfl sc.nd rfl rfl (swD_true rfl rfl rfl (by decide +kernel)) (pi_tup (pv 2)) (blkOk_by (sc := defScope s_new_numbers) (N := ["one", "other", "pairs", "shared", "first", "second", "numbers", "fresh", "event"]) (own := [("first", 4), ("second", 5)]) (by decide +kernel)) (fun _ _ _ _ _ => (pg_tup rfl (pgs_cons (pg_name (i := 4) sc.nd rfl (Or.inl rfl)) (pgs_cons (pg_name (i := 5) sc.nd rfl (Or.inl rfl)) pgs_nil)))) (fun _ _ _ _ _ => pts_nil) (fun _ _ _ _ _ => pv 5) (fun _ _ _ _ _ => pv 4))
      (pss_cons (ps_set (i := 6) sc.nd rfl (Or.inl rfl) (pe_lst pa_nil))
      (pss_cons (ps_set (i := 7) sc.nd rfl (Or.inl rfl) (pe_callB (call_lenD D hr (by decide)) (by rfl) T.len PySem.boot_len (pa_cons (pv 0) pa_nil)))
      (pss_cons (ps_for PassesOwn.never rfl (pi_range1 (by rfl) T.range (pa_cons (pe_callB (call_lenD D hr (by decide)) (by rfl) T.len PySem.boot_len (pa_cons (pv 1) pa_nil)) pa_nil)) (pg_name (i := 8) sc.nd rfl (Or.inl rfl))
        (pss_one (ps_if (pt_cmp (pc_din hu1 (pv 8) (pv 3)))
          (pss_one (ps_expr (pe_bm PySem.F.plainAttrs_list PySem.F.slot_list_append PySem.F.type_list_append mt_append (pv 6) (pa_cons (pe_dget hu1 (pv 3) (pv 8) (fun _ _ => rfl)) pa_nil))))
          (pss_cons (ps_expr (pe_bm PySem.F.plainAttrs_list PySem.F.slot_list_append PySem.F.type_list_append mt_append (pv 6) (pa_cons (pv 7) pa_nil)))
          (pss_one (ps_aug (i := 7) sc.nd rfl (Or.inl rfl) pe_int ip_add))))))
      (pss_one (ps_ret (pv 6))))))), ?_⟩
    walk_at "go"
    refine g_dc ?_
    walk_at "go"
    refine g_tq (K := K) (SqT.of ht) ?_
    refine DcQ.tup (xs := rows) (fun D' i H' => (∃ kvs, H' D' = some (.dK kvs) ∧ PairsD (ps.take i) kvs) ∧ ∀ b o, H b = some o → H' b = some o) (fun D' nD => ⟨⟨[], upd_same, pairsD_nil⟩, same_up nD fun _ _ h => h⟩) (fun D' nD i H' _ h => SqT.of (h.2 _ _ ht)) ?_ ?_
    · rintro D' nD i x H2 hx ⟨⟨kvs, hk, hp⟩, s2⟩
      have hi : i < ps.length := by rw [← hrl]; exact (List.getElem?_eq_some_iff.mp hx).1
      obtain ⟨r, er, hr'⟩ := fzs_pair hrows hi
      rw [hx] at er
      cases er
      refine g_tupg (K := K) (SqT.of (s2 _ _ hr')) rfl ?_
      walk_at "go"
      have l1 := hp.1
      rw [List.length_take] at l1
      have z := hp.put (p := ps[i]) (fun q hq => (earlier_ne J hi q hq).2)
      have e : ps.take (i + 1) = ps.take i ++ [ps[i]] := by rw [List.take_succ, List.getElem?_eq_getElem hi]; rfl
      refine ⟨kvs, Sum.inl (ps[i].2 : Int), rfl, hk, szl (by omega), ⟨_, upd_same, by rw [e]; exact z⟩, fun b o h => by rw [upd_ne (ne_of_none h nD)]; exact s2 _ _ h⟩
    · rintro D' nD H2 ⟨⟨kvs, hk, hp⟩, s2⟩
      rw [hrl, List.take_length] at hp
      walk_at "go"
      refine g_lst' ?_
      walk_at "go"
      refine ⟨sz (by simp), fun L nL => ?_⟩
      have s3 := same_up (o := .lst []) nL s2
      have hk3 := kp (o' := .lst []) nL hk
      have neLD : D' ≠ L := fun e => by rw [← e, hk] at nL; cases nL
      walk_at "go"
      refine g_lenO (K := K) (s3 _ _ h1) (SqT.of (s3 _ _ hw1)) (by rw [e1]; omega) ?_
      rw [e1]
      walk_at "go"
      refine g_lenO (K := K) (s3 _ _ h2) (SqT.of (s3 _ _ hw2)) (by rw [e2]; omega) ?_
      rw [e2]
      walk_at "go"
      refine ForQ.range (fun i σ H' => (∃ x y z, σ = [some (.ref a1), some (.ref a2), some (.ref t), some (.ref D'), x, y, some (.ref L), some (.int ((n1.length + (jnew ps i).length : Nat) : Int)), z]) ∧ H' L = some (.lst ((List.range i).map fun k => V.int (jnum ps n1.length k : Nat))) ∧ H' D' = some (.dK kvs) ∧ ∀ b o, H b = some o → H' b = some o) ⟨⟨_, _, _, by simp [jnew]; rfl⟩, upd_same, hk3, s3⟩ ?_ ?_
      · rintro i σ H4 hi ⟨⟨x, y, z, rfl⟩, hL, hk4, s4⟩
        have nLH : H L = none := none_up nL s2
        walk_at "go"
        refine g_din ?_
        walk_at "go"
        rw [show (0 : Int) + (i : Nat) = ((i : Nat) : Int) by omega]
        refine ⟨D', _, rfl, dget_int hk4, ?_⟩
        rw [hp.2 i]
        cases qi : jfind ps i with
        | some j =>
          have fr : jfree ps i = false := by unfold jfree; rw [qi]; rfl
          have en : jnew ps (i + 1) = jnew ps i := by rw [jnew_succ, fr]; simp
          have ej : jnum ps n1.length i = j := by unfold jnum; rw [qi]; rfl
          rw [show (Option.map (fun i => V.int (i : Nat)) (some j)).isSome = true from rfl]
          walk_at "go"
          refine g_bmL (i := 6) rfl hL ?_
          walk_at "go"
          refine ⟨D', .int (j : Nat), rfl, by have z := dget_int (k := i) hk4; rw [hp.2 i, qi] at z; exact z, ?_⟩
          walk_at "go"
          refine g_app hL (szl (by rw [List.length_map, List.length_range]; omega)) ?_
          refine ⟨⟨_, _, _, by rw [en]; rfl⟩, by rw [upd_same, List.range_succ, List.map_append]; simp [ej], by rw [upd_ne neLD]; exact hk4, fun b o h => by rw [upd_ne (ne_of_none h nLH)]; exact s4 _ _ h⟩
        | none =>
          have fr : jfree ps i = true := by unfold jfree; rw [qi]; rfl
          have en : (jnew ps (i + 1)).length = (jnew ps i).length + 1 := by rw [jnew_succ, fr]; simp
          have ej : jnum ps n1.length i = n1.length + (jnew ps i).length := by unfold jnum; rw [qi]; rfl
          have := jnew_le ps i
          rw [show (Option.map (fun i => V.int (i : Nat)) none).isSome = false from rfl]
          walk_at "go"
          refine g_bmL (i := 6) rfl hL ?_
          walk_at "go"
          refine g_app hL (szl (by rw [List.length_map, List.length_range]; omega)) ?_
          walk_at "go"
          refine g_aug ⟨_, rfl, ?_⟩
          walk_at "go"
          refine ⟨_, _, rfl, rfl, ?_⟩
          have ec : ((n1.length + (jnew ps i).length : Nat) : Int) + 1 = ((n1.length + (jnew ps (i + 1)).length : Nat) : Int) := by omega
          refine ⟨⟨_, _, _, by rw [← ec]; rfl⟩, by rw [upd_same, List.range_succ, List.map_append]; simp [ej], by rw [upd_ne neLD]; exact hk4, fun b o h => by rw [upd_ne (ne_of_none h nLH)]; exact s4 _ _ h⟩
      · rintro σ H4 ⟨⟨x, y, z, rfl⟩, hL, hk4, s4⟩
        walk_at "go"
        exact q L H4 (none_up nL s2) hL s4
end
end K56
set_option Elab.async false
set_option linter.all false
set_option maxRecDepth 100000
set_option maxHeartbeats 400000
namespace K56
open PySem PySem.Spec PyProof.Rows L2 WL
local macro_rules | `(tactic| walk_at "side") => `(tactic| first | (show (_ ∧ _) ∨ (_ ∧ _); omega) | (exact ⟨by omega, by omega⟩) | (show (0 : Int) < _; omega) | omega)
local macro_rules | `(tactic| walk_at "go") => `(tactic| (repeat (first
  | with_reducible refine g_seq ?_ | with_reducible refine g_asgN ?_ | with_reducible refine g_ret ?_ | with_reducible refine g_drop ?_ | with_reducible refine g_ifS ?_ | with_reducible refine g_next ?_
  | with_reducible refine g_var rfl ?_ | with_reducible refine g_c ?_ | with_reducible refine g_op ?_ | with_reducible refine g_un ?_ | with_reducible refine g_rI0 ?_ | ((with_reducible refine g_rI ?_ ?_); next => walk_at "side") | with_reducible refine g_test ?_ | with_reducible refine g_bl ?_
  | with_reducible refine g_nil ?_ | with_reducible refine g_cons ?_ | with_reducible refine g_call ?_ | with_reducible refine g_cb ?_ | with_reducible refine g_if ?_ | with_reducible refine g_par ?_ | with_reducible refine g_two ?_
  | with_reducible refine g_asg ?_ | with_reducible refine g_name ?_ | with_reducible refine g_sub ?_ | with_reducible refine g_yes ?_ | with_reducible refine g_gcons ?_ | with_reducible refine g_gnil ?_ | with_reducible refine g_dget ?_ | with_reducible refine g_dput ?_ | with_reducible refine g_rng1 ?_ | with_reducible refine g_rng2 ?_
  | ((with_reducible refine g_one ?_ ?_); next => omega) | ((with_reducible refine g_twoI ?_ ?_); next => omega) | with_reducible refine g_isNon ?_ | with_reducible refine g_andV ?_ | with_reducible refine g_revT ?_ | with_reducible refine g_itup ?_ | with_reducible refine g_methK0 ?_ | with_reducible refine g_methS ?_ | with_reducible refine g_errF ?_ | with_reducible refine g_prop ?_ | with_reducible refine g_con ?_ | with_reducible refine g_make ?_ | with_reducible refine g_fld ?_ | with_reducible refine g_sfld ?_ | with_reducible refine g_iftn ?_ | with_reducible refine g_iffn ?_ | with_reducible refine g_orV ?_ | with_reducible refine g_notV ?_ | with_reducible refine g_tB ?_ | with_reducible refine g_chain ?_ | with_reducible refine g_neg ?_ | with_reducible refine g_cval ?_ | with_reducible refine g_enumT ?_ | with_reducible refine g_andT ?_ | with_reducible refine g_orT ?_ | with_reducible refine g_notT ?_ | with_reducible refine g_sl ?_ | with_reducible refine g_part ?_ | with_reducible refine g_parI ?_ | with_reducible refine g_noPart ?_ | with_reducible refine g_pcons ?_ | with_reducible refine g_pnil ?_ | with_reducible refine g_list ?_ | with_reducible refine g_lc ?_ | with_reducible refine g_for ?_ | with_reducible refine g_enum ?_ | with_reducible refine g_ift ?_ | with_reducible refine g_iff ?_ | with_reducible refine And.intro rfl ?_ | with_reducible refine g_notNon ?_)))
local macro_rules | `(tactic| walk_at "ex") => `(tactic| (repeat (first
  | with_reducible refine g_seqAsg ?_ | with_reducible refine g_seqFld ?_ | with_reducible refine g_seqDrop ?_ | with_reducible refine g_seqPut ?_ | with_reducible refine g_seqPar ?_ | with_reducible refine g_asgN ?_ | with_reducible refine g_ret ?_ | with_reducible refine g_drop ?_ | with_reducible refine g_next ?_
  | with_reducible refine g_var rfl ?_ | with_reducible refine g_c ?_ | with_reducible refine g_op ?_ | with_reducible refine g_un ?_ | with_reducible refine g_rI0 ?_ | ((with_reducible refine g_rI ?_ ?_); next => walk_at "side") | with_reducible refine g_test ?_ | with_reducible refine g_bl ?_
  | with_reducible refine g_nil ?_ | with_reducible refine g_cons ?_ | with_reducible refine g_call ?_ | with_reducible refine g_cb ?_ | with_reducible refine g_if ?_ | with_reducible refine g_par ?_ | with_reducible refine g_two ?_
  | with_reducible refine g_asg ?_ | with_reducible refine g_name ?_ | with_reducible refine g_sub ?_ | with_reducible refine g_yes ?_ | with_reducible refine g_gcons ?_ | with_reducible refine g_gnil ?_ | with_reducible refine g_dget ?_ | with_reducible refine g_dput ?_ | with_reducible refine g_rng1 ?_ | with_reducible refine g_rng2 ?_
  | ((with_reducible refine g_one ?_ ?_); next => omega) | ((with_reducible refine g_twoI ?_ ?_); next => omega) | with_reducible refine g_isNon ?_ | with_reducible refine g_andV ?_ | with_reducible refine g_revT ?_ | with_reducible refine g_itup ?_ | with_reducible refine g_methK0 ?_ | with_reducible refine g_methS ?_ | with_reducible refine g_errF ?_ | with_reducible refine g_prop ?_ | with_reducible refine g_con ?_ | with_reducible refine g_make ?_ | with_reducible refine g_fld ?_ | with_reducible refine g_sfld ?_ | with_reducible refine g_iftn ?_ | with_reducible refine g_iffn ?_ | with_reducible refine g_orV ?_ | with_reducible refine g_notV ?_ | with_reducible refine g_tB ?_ | with_reducible refine g_chain ?_ | with_reducible refine g_neg ?_ | with_reducible refine g_cval ?_ | with_reducible refine g_enumT ?_ | with_reducible refine g_proj ?_ | with_reducible refine g_andT ?_ | with_reducible refine g_orT ?_ | with_reducible refine g_notT ?_ | with_reducible refine g_sl ?_ | with_reducible refine g_part ?_ | with_reducible refine g_parI ?_ | with_reducible refine g_noPart ?_ | with_reducible refine g_pcons ?_ | with_reducible refine g_pnil ?_ | with_reducible refine g_list ?_ | with_reducible refine g_lc ?_ | with_reducible refine g_enum ?_ | with_reducible refine g_ift ?_ | with_reducible refine g_iff ?_ | with_reducible refine And.intro rfl ?_ | with_reducible refine g_notNon ?_)))
section
variable {P : Program} {w : World} {K : PySem.W.Frag} {mg : Str → Option Value} {base : Heap} {f : Addr} {fd : FuncData} {DC IE ID MM : Addr}
theorem badAt_none' {a b : Nat} : ∀ {ss : List Sh} {ps0 : List (Nat × Nat)}, (ps0.map (·.1)).Nodup → (ps0.map (·.2)).Nodup → badAt a b ps0 ss = none → ∃ ps, ss = ps.map pairSh ∧ (∀ p ∈ ps, p.1 < a ∧ p.2 < b) ∧ ((ps0 ++ ps).map (·.1)).Nodup ∧ ((ps0 ++ ps).map (·.2)).Nodup
  | [], ps0, n1, n2, _ => ⟨[], rfl, fun p h => (by cases h), by simpa using n1, by simpa using n2⟩
  | s :: ss, ps0, n1, n2, h => by
    unfold badAt at h
    cases hp : pairVal a b s with
    | none => rw [hp] at h; cases h
    | some p =>
      rw [hp] at h
      cases ht : takenBy p ps0 with
      | true => simp [ht] at h
      | false =>
        simp [ht] at h
        obtain ⟨e, p1, p2⟩ := pairVal_some hp
        have no : ∀ q ∈ ps0, p.1 ≠ q.1 ∧ p.2 ≠ q.2 := fun q hq => by
          unfold takenBy at ht
          have z := List.any_eq_false.mp ht q hq
          simp at z
          exact z
        have m1 : ((ps0 ++ [p]).map (·.1)).Nodup := by
          rw [List.map_append]
          refine List.nodup_append.mpr ⟨n1, by simp, fun x hx y hy e => ?_⟩
          simp only [List.map_cons, List.map_nil, List.mem_singleton] at hy
          obtain ⟨q, hq, rfl⟩ := List.mem_map.mp hx
          exact (no q hq).1 (by rw [← hy, ← e])
        have m2 : ((ps0 ++ [p]).map (·.2)).Nodup := by
          rw [List.map_append]
          refine List.nodup_append.mpr ⟨n2, by simp, fun x hx y hy e => ?_⟩
          simp only [List.map_cons, List.map_nil, List.mem_singleton] at hy
          obtain ⟨q, hq, rfl⟩ := List.mem_map.mp hx
          exact (no q hq).2 (by rw [← hy, ← e])
        obtain ⟨ps, rfl, bnd, d1, d2⟩ := badAt_none' m1 m2 h
        refine ⟨p :: ps, by rw [List.map_cons, ← e], fun q hq => ?_, by simpa using d1, by simpa using d2⟩
        rcases List.mem_cons.mp hq with rfl | hq
        · exact ⟨p1, p2⟩
        · exact bnd q hq
theorem badAt_none {a b : Nat} {ss : List Sh} (h : badAt a b [] ss = none) : ∃ ps : List (Nat × Nat), ss = ps.map pairSh ∧ (∀ p ∈ ps, p.1 < a ∧ p.2 < b) ∧ (ps.map (·.1)).Nodup ∧ (ps.map (·.2)).Nodup := by
  obtain ⟨ps, e, bnd, d1, d2⟩ := badAt_none' (ps0 := []) (by simp) (by simp) h
  exact ⟨ps, e, bnd, d1, d2⟩
theorem fzs_of_anss {H : Hp} : ∀ {vs : List V} {ps : List (Nat × Nat)}, AnSs K H vs (ps.map pairSh) → (∀ (i : Nat) (r : Addr) (p : Nat × Nat), vs[i]? = some (V.ref r) → (ps.map pairSh)[i]? = some (pairSh p) → H r = some (.tup [.int (p.1 : Nat), .int (p.2 : Nat)])) → Fzs H vs (ps.map WL.pairD)
  | [], [], _, _ => .nil
  | [], p :: ps, h, _ => by cases h
  | v :: vs, [], h, _ => by cases h
  | v :: vs, p :: ps, h, dir => by
    cases h with
    | cons h t =>
      obtain ⟨r, rfl⟩ : ∃ r, v = .ref r := by
        cases h with
        | tup _ _ => exact ⟨_, rfl⟩
      exact .cons (fz_pair (dir 0 r p rfl rfl)) (fzs_of_anss t fun i => dir (i + 1))
theorem jok_of_clash {ps : List (Nat × Nat)} {n1 n2 : List (Option Int)} (bnd : ∀ p ∈ ps, p.1 < n1.length ∧ p.2 < n2.length) (d1 : (ps.map (·.1)).Nodup) (d2 : (ps.map (·.2)).Nodup) (noc : ∀ p ∈ ps, clash n1 n2 p = false) : JOK ps n1 n2 := by
  refine ⟨fun p hp => (bnd p hp).1, fun p hp => (bnd p hp).2, d1, d2, fun p hp => ?_⟩
  have z := noc p hp
  unfold clash at z
  cases e1 : n1.getD p.1 none with
  | none => exact Or.inl rfl
  | some a =>
    cases e2 : n2.getD p.2 none with
    | none => exact Or.inr (Or.inl rfl)
    | some b =>
      rw [e1, e2] at z
      have z' : a = b := by simpa using z
      rw [z']
      exact Or.inr (Or.inr rfl)
theorem join_dok' {c w : Int} {ps : List (Nat × Nat)} {N1 N2 : List (Option Int)} {L1 L2 : List (Int × Int × Int)} (J : JOK ps N1 N2) (a : DOK c N1 L1 w) (b : DOK c N2 L2 w) (h : N1.length + (N2.length - ps.length) ≤ 16) : DOK c (joinN ps N1 N2) (L1 ++ jlines ps N1.length L2) w := by
  have len : (joinN ps N1 N2).length = N1.length + (N2.length - ps.length) := jW_len J _
  refine ⟨a.c2, a.c100, by rw [len]; have := a.n1; omega, by rw [len]; omega, fun i hi => ?_, fun l hl => ?_⟩
  · unfold joinN jW at hi
    rcases List.mem_append.mp hi with z | z
    · unfold jfst at z
      obtain ⟨j, hj, e⟩ := List.mem_mapIdx.mp z
      have m1 : N1[j] ∈ N1 := List.getElem_mem hj
      have m2 : ∀ {k : Nat}, N2.getD k none = some i → some i ∈ N2 := fun {k} e => by
        rw [List.getD_eq_getElem?_getD] at e
        cases q : N2[k]? with
        | none => rw [q] at e; cases e
        | some y =>
          rw [q] at e
          have e' : y = some i := e
          rw [← e']
          exact List.mem_of_getElem? q
      split at e
      · split at e
        · exact b.note i (m2 e)
        · rw [e] at m1; exact a.note i m1
      · rw [e] at m1; exact a.note i m1
    · rw [jsnd_end] at z
      obtain ⟨k, _, e⟩ := List.mem_map.mp z
      rw [List.getD_eq_getElem?_getD] at e
      cases q : N2[k]? with
      | none => rw [q] at e; cases e
      | some y =>
        rw [q] at e
        have e' : y = some i := e
        exact b.note i (by rw [← e']; exact List.mem_of_getElem? q)
  · rw [len]
    rcases List.mem_append.mp hl with z | z
    · obtain ⟨⟨x1, x2⟩, ⟨y1, y2⟩, z1, z2⟩ := a.line l z
      exact ⟨⟨x1, by omega⟩, ⟨y1, by omega⟩, z1, z2⟩
    · obtain ⟨r, hr, rfl⟩ := List.mem_map.mp z
      obtain ⟨⟨x1, x2⟩, ⟨y1, y2⟩, z1, z2⟩ := b.line r hr
      have j1 := jnum_lt J (t := r.1.toNat) (by omega)
      have j2 := jnum_lt J (t := r.2.1.toNat) (by omega)
      exact ⟨⟨by simp, by simp only; omega⟩, ⟨by simp, by simp only; omega⟩, z1, z2⟩
theorem dok_le {c w w' : Int} {ns : List (Option Int)} {ls : List (Int × Int × Int)} (h : DOK c ns ls w) (k : w ≤ w') : DOK c ns ls w' := ⟨h.c2, h.c100, h.n1, h.n16, h.note, fun l hl => by
  obtain ⟨a, b, x, y⟩ := h.line l hl
  exact ⟨a, b, by omega, by omega⟩⟩
/-- Diary(..) of right or too many values -/
structure DiaX (P : Program) (w : World) (K : PySem.W.Frag) (mg : Str → Option Value) (base : Heap) (DC ID : Addr) : Prop where
  make : ∃ f fd, Mk K DC f ∧ Binds K fd ["self", "modulus", "weekdays", "bounds"] [] ∧ FnOk P w K mg base (L2.CX P w) 6 f fd ["self", "modulus", "weekdays", "bounds"] (spDInitX K DC ID)
theorem pe_mkDX {X : Cx} {k : Nat} {e : Expr} {E : XK} {pos : Pos} (F : DiaX X.prog X.w X.K X.mg X.base DC ID) (at_ : Dia X.K X.mg DC) (hr : Room k X.A) (hk : 7 ≤ k) (hx : Passes (L2.CX X.prog X.w) X E) {es : List Expr} {t : TA} {p : Pos} (ha : PA X (e :: es) t) (hg : Gl X "Diary" := by rfl)
    (h1 : starEach (e :: es) X.env = (false, eval e X.env) :: starEach es X.env := by rfl) (h2 : (backTo pos (starEach es X.env)).any (·.1) = false := by rfl) : PE X (.Call (.Name "Diary" p) (e :: es) [] pos) (tMake DC (spDInitX X.K DC ID) [] E t) := by
  obtain ⟨f, fd, m, b, Fn⟩ := F.make
  exact pe_make m Fn (hr.mono hk) hg at_.at_ b .nil hx ha (by decide) h1 h2
theorem fault16 {c : Int} {ns : List (Option Int)} {b : Sh} (h : Sh.within 2 100 (.int c) = true) (h16 : 16 < ns.length) : diaryFault (.int c) (.tup (ns.map noteSh)) b = some (("weekdays" : Str), none) := by
  rw [diaryFault_int h]
  refine wordFault_some ?_
  unfold rowFault
  rw [if_neg]
  show ¬((decide ((1 : Int) ≤ ((ns.map noteSh).length : Int)) && decide (((ns.map noteSh).length : Int) ≤ 16)) = true)
  rw [List.length_map]
  simp
  omega
theorem fault60 {c w : Int} {ns : List (Option Int)} {ls : List (Int × Int × Int)} (ok : DOK c ns [] w) (h60 : 60 < ls.length) : diaryFault (.int c) (.tup (ns.map noteSh)) (.tup (ls.map lineSh)) = some (("bounds" : Str), none) := by
  rw [diaryFault_int (within_int ⟨ok.c2, ok.c100⟩)]
  have z := no_fault (w := 1) (ls := []) (c := c) (ns := ns) ⟨ok.c2, ok.c100, ok.n1, ok.n16, ok.note, fun l h => by cases h⟩ (by decide) (by decide)
  rw [diaryFault_int (within_int ⟨ok.c2, ok.c100⟩)] at z
  have zr : rowFault 1 16 (Sh.note c) (.tup (ns.map noteSh)) = none := by
    cases e : rowFault 1 16 (Sh.note c) (.tup (ns.map noteSh)) with
    | none => rfl
    | some it => rw [wordFault_some e] at z; cases z
  rw [wordFault_tup zr]
  unfold rowFault
  rw [if_neg]
  · rfl
  · show ¬((decide ((0 : Int) ≤ ((ls.map lineSh).length : Int)) && decide (((ls.map lineSh).length : Int) ≤ 60)) = true)
    rw [List.length_map]
    simp
    omega
theorem g_makeX {wv bv : V} {H : Hp} {c : Int} {ns : List (Option Int)} {ls : List (Int × Int × Int)} {E : XK} {R : Addr → Hp → Prop} (hn : Fz H wv (notesD ns)) (hl : Fz H bv (linesD ls))
    (q1 : 16 < ns.length → ∀ d H1, (∀ b o, H b = some o → H1 b = some o) → H1 d = none → E (.ref ID) (some d) (upd H1 d (.xd [("part", .str "weekdays"), ("item", .non)])))
    (q2 : ns.length ≤ 16 → 60 < ls.length → ∀ d H1, (∀ b o, H b = some o → H1 b = some o) → H1 d = none → E (.ref ID) (some d) (upd H1 d (.xd [("part", .str "bounds"), ("item", .non)])))
    (q3 : ns.length ≤ 16 → ls.length ≤ 60 → DOK c ns ls 1000000000 ∧ ∀ (x : Addr) (H' : Hp), H x = none → DiaAt DC H' (.ref x) c ns ls → (∀ b o, H b = some o → H' b = some o) → R x H') (w1 : Sh.within 2 100 (.int c) = true) (okn : ns.length ≤ 16 → DOK c ns [] 1000000000) :
    ∀ (x dx : Addr), H x = none → H dx = none → dx ≠ x → spDInitX K DC ID (.ref x :: ([.int c, wv, bv] ++ [])) (upd (upd H dx (.own x)) x (.ins DC dx [])) (fun v H2 => v = .non ∧ R x H2) E := by
  intro x dx nx ndx ne
  have s1 : ∀ b o, H b = some o → upd (upd H dx (.own x)) x (.ins DC dx []) b = some o := fun b o h => by
    rw [upd_ne (ne_of_none h nx), upd_ne (ne_of_none h ndx)]; exact h
  refine ⟨x, dx, .int c, wv, bv, .int c, _, _, rfl, upd_same, .int c, (ans_notes hn).same s1, (ans_lines hl).same s1, fun nf H' h1 h2 => ⟨rfl, ?_⟩, fun word it hf d H1 s2 nd => ?_⟩
  · have s2 : ∀ b o, H b = some o → H' b = some o := fun b o h => h2 b o (ne_of_none h nx) (s1 b o h)
    have a16 : ns.length ≤ 16 := by
      apply Classical.byContradiction
      intro z
      rw [fault16 w1 (by omega)] at nf
      cases nf
    have a60 : ls.length ≤ 60 := by
      apply Classical.byContradiction
      intro z
      rw [fault60 (okn a16) (by omega)] at nf
      cases nf
    obtain ⟨_, q⟩ := q3 a16 a60
    exact q x H' nx ⟨x, dx, wv, bv, rfl, h1, hn.tk (Tk.same s2), hl.tk (Tk.same s2)⟩ s2
  · have s3 : ∀ b o, H b = some o → H1 b = some o := fun b o h => s2 b o (s1 b o h)
    by_cases a16 : 16 < ns.length
    · rw [fault16 w1 a16] at hf
      cases hf
      exact q1 a16 d H1 s3 nd
    · by_cases a60 : 60 < ls.length
      · rw [fault60 (okn (by omega)) a60] at hf
        cases hf
        exact q2 (by omega) a60 d H1 s3 nd
      · obtain ⟨ok, _⟩ := q3 (by omega) (by omega)
        rw [no_fault ok (by decide) (by omega)] at hf
        cases hf
def PairsOk (ps : List (Nat × Nat)) (n1 n2 : List (Option Int)) : Prop := (∀ p ∈ ps, p.1 < n1.length ∧ p.2 < n2.length) ∧ (ps.map (·.1)).Nodup ∧ (ps.map (·.2)).Nodup
/-- what joined is due to give -/
def JoinQ (DC MM ID : Addr) (c1 c2 : Int) (n1 n2 : List (Option Int)) (l1 l2 : List (Int × Int × Int)) (ss : List Sh) (H : Hp) (Q : VK) (E : XK) : Prop :=
  (c1 ≠ c2 → ∀ d H1, (∀ b o, H b = some o → H1 b = some o) → H1 d = none → E (.ref MM) (some d) (upd H1 d (.xd [("part", .str "modulus"), ("spot", .non)]))) ∧
  (c1 = c2 → ∀ i, badAt n1.length n2.length [] ss = some i → ∀ d H1, (∀ b o, H b = some o → H1 b = some o) → H1 d = none → E (.ref MM) (some d) (upd H1 d (.xd [("part", .str "pair"), ("spot", .int (i : Nat))]))) ∧
  (c1 = c2 → badAt n1.length n2.length [] ss = none → ∀ ps : List (Nat × Nat), ss = ps.map pairSh → PairsOk ps n1 n2 →
    (∀ (i : Nat) (h : i < ps.length), (∀ (j : Nat) (h : j < ps.length), j < i → clash n1 n2 ps[j] = false) → clash n1 n2 ps[i] = true → ∀ d H1, (∀ b o, H b = some o → H1 b = some o) → H1 d = none → E (.ref MM) (some d) (upd H1 d (.xd [("part", .str "weekday"), ("spot", .int (i : Nat))]))) ∧
    ((∀ p ∈ ps, clash n1 n2 p = false) →
      (16 < n1.length + (n2.length - ps.length) → ∀ d H1, (∀ b o, H b = some o → H1 b = some o) → H1 d = none → E (.ref ID) (some d) (upd H1 d (.xd [("part", .str "weekdays"), ("item", .non)]))) ∧
      (n1.length + (n2.length - ps.length) ≤ 16 → 60 < l1.length + l2.length → ∀ d H1, (∀ b o, H b = some o → H1 b = some o) → H1 d = none → E (.ref ID) (some d) (upd H1 d (.xd [("part", .str "bounds"), ("item", .non)]))) ∧
      (n1.length + (n2.length - ps.length) ≤ 16 → l1.length + l2.length ≤ 60 → ∀ (x : Addr) (H' : Hp), H x = none → DiaAt DC H' (.ref x) c1 (joinN ps n1 n2) (l1 ++ jlines ps n1.length l2) → (∀ b o, H b = some o → H' b = some o) → Q (.ref x) H')))
def spJoinXT (K : PySem.W.Frag) (DC MM ID : Addr) : Sp := fun vs H Q E => ∃ (v u : V) (t : Addr) (rows : List V) (ss : List Sh) (c1 c2 wd : Int) (n1 n2 : List (Option Int)) (l1 l2 : List (Int × Int × Int)), vs = [v, u, .ref t] ∧ DiaAt DC H v c1 n1 l1 ∧ DiaAt DC H u c2 n2 l2 ∧ H t = some (.tup rows) ∧ AnSs K H rows ss ∧ rows.length ≤ 1000 ∧ (∀ (i : Nat) (r : Addr) (p : Nat × Nat), rows[i]? = some (V.ref r) → ss[i]? = some (pairSh p) → H r = some (.tup [.int (p.1 : Nat), .int (p.2 : Nat)])) ∧
  DOK c1 n1 l1 wd ∧ DOK c2 n2 l2 wd ∧ l1.length ≤ 60 ∧ l2.length ≤ 60 ∧ wd ≤ 1000000000 ∧ JoinQ DC MM ID c1 c2 n1 n2 l1 l2 ss H Q E
theorem sc_joined : FnScope ["one", "other", "pairs", "numbers", "weekdays", "number", "weekday", "bounds", "first", "last", "most"] ((["one", "other"] : List Str) ++ (["pairs"] : List Str)) (defScope s_joined) := ⟨rfl, rfl, rfl, by decide +kernel, rfl, by decide +kernel, by decide +kernel⟩
theorem ok_joinedXT {cdv : Value} (T : Blt mg) (X : Ev2 P K mg "Mismatch" "part" "spot" MM) (D : DiaF P w K mg base DC IE) (DX : DiaX P w K mg base DC ID) (hNeed : HasE P w K mg base 4 "need_pairs" ["one", "other", "pairs"] (spNeedPairsX K DC MM)) (hAgree : HasE P w K mg base 3 "need_agreement" ["one", "other", "pairs"] (spAgreeX DC MM)) (hNew : Has P w K mg base 3 "new_numbers" ["one", "other", "pairs"] (spNewNums DC)) (A : Around) (outer : List Env) (s : Shared) (H : Hp) (vs : List V) (Q : VK) (E : XK)
    (hr : Room 8 (A.deeper (envOfC "joined" (defScope s_joined) s.heap.objs.size f cdv))) (h : spJoinXT K DC MM ID vs H Q E) :
    ∃ t, PSs (cxOf (L2.CX P w) P w K mg base ["one", "other", "pairs", "numbers", "weekdays", "number", "weekday", "bounds", "first", "last", "most"] "joined" (defScope s_joined) f cdv A outer s H E) (defBody s_joined) t ∧ t { nx := fun _ H' => Q .non H', rt := Q } (start ["one", "other", "pairs", "numbers", "weekdays", "number", "weekday", "bounds", "first", "last", "most"] vs) H := by
  obtain ⟨v, u, t, rows, ss, c1, c2, wd, n1, n2, l1, l2, rfl, D1, D2, ht, hrs, hl, dir, ok1, ok2, l601, l602, hw, qm, qp, qg⟩ := h
  have sc := sc_joined
  have O := D.obj
  have hu := hr.units
  obtain ⟨fI, fdI, xT, xI, xb, xb1⟩ := X.ex
  refine ⟨_, (pss_cons (ps_if (pt_cmpR op_ne (pe_pm D.pm O hr (by decide) (pv 0)) (pe_pm D.pm O hr (by decide) (pv 1)) (nomark _))
        (pss_one (ps_raise rfl (takes_of rfl rfl rfl rfl) (pmk_ex2d xT xI hr X.at_ (by decide) (by decide) (by decide) (by decide) (by decide) xb1 (pa_cons pe_str pa_nil))))
        pss_nil)
      (pss_cons (ps_expr (pe_hasE (E := E) hNeed hr (by decide) (passes_call (takes_of rfl rfl rfl rfl) (fun _ _ _ _ h => h)) (pa_cons (pv 0) (pa_cons (pv 1) (pa_cons (pv 2) pa_nil)))))
      (pss_cons (ps_expr (pe_hasE (E := E) hAgree hr (by decide) (passes_call (takes_of rfl rfl rfl rfl) (fun _ _ _ _ h => h)) (pa_cons (pv 0) (pa_cons (pv 1) (pa_cons (pv 2) pa_nil)))))
      (pss_cons (ps_set (i := 3) sc.nd rfl (Or.inr rfl) (pe_has hNew hr (by decide) (pa_cons (pv 0) (pa_cons (pv 1) (pa_cons (pv 2) pa_nil)))))
      (pss_cons (ps_set (i := 4) sc.nd rfl (Or.inl rfl) (pe_op op_cat (pe_callTy call_list_of (by rfl) T.list (by decide +kernel) (pa_cons (pe_pm D.pw O hr (by decide) (pv 0)) pa_nil)) (pe_op op_rep (pe_lst (pa_cons pe_non pa_nil)) (pe_op op_sub (pe_callB (call_lenD D hr (by decide)) (by rfl) T.len PySem.boot_len (pa_cons (pv 1) pa_nil)) (pe_callB call_len_seq (by rfl) T.len PySem.boot_len (pa_cons (pv 2) pa_nil))))))
      (pss_cons (ps_for (passes_of rfl) rfl (pi_zipM (by rfl) T.zip (pa_cons (pv 3) (pa_cons (pe_pm D.pw O hr (by decide) (pv 1)) pa_nil))) (pg_tup rfl (pgs_cons (pg_name (i := 5) sc.nd rfl (Or.inl rfl)) (pgs_cons (pg_name (i := 6) sc.nd rfl (Or.inl rfl)) pgs_nil)))
        (pss_one (ps_if (pt_cmpR op_notN (pv 6) pe_non (nomark _))
          (pss_one (ps_asg (pv 6) (pg_sub (pv 4) (pv 5) set_list)))
          pss_nil)))
      (pss_cons (ps_setLc (i := 7) (own := [("first", 8), ("last", 9), ("most", 10)]) (g := gTup K 3 (gCons (gName 8) (gCons (gName 9) (gCons (gName 10) gNil)))) (tt := tYes) (te := tTup (tCons (tOp (rIxL K) (tVar 3) (tVar 8)) (tCons (tOp (rIxL K) (tVar 3) (tVar 9)) (tCons (tVar 10) tNil)))) (by rfl) sc.nd rfl rfl (sw_true rfl rfl rfl (by decide +kernel)) (pi_tup (pe_pm D.pb O hr (by decide) (pv 1))) (blkOk_by (sc := defScope s_joined) (N := ["one", "other", "pairs", "numbers", "weekdays", "number", "weekday", "bounds", "first", "last", "most"]) (own := [("first", 8), ("last", 9), ("most", 10)]) (by decide +kernel)) (fun _ _ _ _ _ => (pg_tup rfl (pgs_cons (pg_name (i := 8) sc.nd rfl (Or.inl rfl)) (pgs_cons (pg_name (i := 9) sc.nd rfl (Or.inl rfl)) (pgs_cons (pg_name (i := 10) sc.nd rfl (Or.inl rfl)) pgs_nil))))) (fun _ _ _ _ _ => pts_nil) (fun _ _ _ _ _ => (by exact pe_tup (pa_cons (pe_ix (r := rIxL K) ix_list (pv 3) (pv 8) (fun _ _ => rfl)) (pa_cons (pe_ix (r := rIxL K) ix_list (pv 3) (pv 9) (fun _ _ => rfl)) (pa_cons (pv 10) pa_nil))))))
      (pss_one (ps_ret (pe_mkDX DX D.at_ hr (by decide) (E := E) (passes_call (takes_of rfl rfl rfl rfl) (fun _ _ _ _ h => h)) (pa_cons (pe_pm D.pm O hr (by decide) (pv 0)) (pa_cons (pe_callTy call_tuple_of (by rfl) T.tuple (by decide +kernel) (pa_cons (pv 4) pa_nil)) (pa_cons (pe_op op_catA (pe_pm D.pb O hr (by decide) (pv 0)) (pe_callTy call_tuple_of (by rfl) T.tuple (by decide +kernel) (pa_cons (pv 7) pa_nil))) pa_nil))))))))))))), ?_⟩
  obtain ⟨a1, d1, w1, b1, rfl, h1, hn1, hl1⟩ := id D1
  obtain ⟨a2, d2, w2, b2, rfl, h2, hn2, hl2⟩ := id D2
  obtain ⟨wa1, rfl, hw1⟩ := fz_notes_inv hn1
  obtain ⟨wa2, rfl, hw2⟩ := fz_notes_inv hn2
  obtain ⟨ba1, r1, rfl, hb1, hr1⟩ := Fz.tup_inv hl1
  obtain ⟨ba2, r2, rfl, hb2, hr2⟩ := Fz.tup_inv hl2
  have e1 : (n1.map noteV).length = n1.length := List.length_map _
  have e2 : (n2.map noteV).length = n2.length := List.length_map _
  walk_at "go"
  refine g_p1 h1 ?_
  walk_at "go"
  refine g_p1 h2 ?_
  refine ⟨rfl, ?_⟩
  have z1 := ok1.n16
  have z2 := ok2.n16
  by_cases hc : c1 = c2
  case neg =>
    rw [show (!decide (V.int c1 = V.int c2)) = true by simp [hc]]
    walk_at "go"
    refine g_mkex2d ?_
    walk_at "go"
    exact ⟨_, rfl, fun d nd => qm hc d H (fun _ _ h => h) nd⟩
  subst hc
  rw [show (!decide (V.int c1 = V.int c1)) = false by simp]
  walk_at "go"
  refine ⟨.ref a1, .ref a2, t, rows, ss, c1, c1, n1, n2, l1, l2, rfl, D1, D2, ht, hrs, by omega, by omega, hl, dir, fun hbad H1 s1 => ?_, fun i hbad d H1 s1 nd => qp rfl i hbad d H1 s1 nd⟩
  obtain ⟨ps, rfl, bnd, nd1, nd2⟩ := badAt_none hbad
  have hrows := fzs_of_anss hrs dir
  have hrl : rows.length = ps.length := by rw [hrows.length, List.length_map]
  obtain ⟨qw, qr⟩ := qg rfl hbad ps rfl ⟨bnd, nd1, nd2⟩
  walk_at "go"
  refine ⟨.ref a1, .ref a2, t, rows, ps, c1, c1, n1, n2, l1, l2, rfl, D1.same s1, D2.same s1, s1 _ _ ht, hrows.tk (Tk.same s1), by omega, by omega, by omega, bnd, fun noc H2 s2' => ?_, fun i h no cl d H2 s2 nd => qw i h no cl d H2 (fun b o h => s2 _ _ (s1 _ _ h)) nd⟩
  have J : JOK ps n1 n2 := jok_of_clash bnd nd1 nd2 noc
  obtain ⟨q16, q60, q⟩ := qr noc
  have s2 : ∀ b o, H b = some o → H2 b = some o := fun b o h => s2' _ _ (s1 _ _ h)
  clear s2' s1
  walk_at "go"
  refine ⟨.ref a1, .ref a2, t, c1, c1, n1, n2, l1, l2, ps, rows, rfl, D1.same s2, D2.same s2, s2 _ _ ht, hrows.tk (Tk.same s2), by omega, by omega, by omega, J, fun L H3 nL hL s3' => ?_⟩
  have s3 : ∀ b o, H b = some o → H3 b = some o := fun b o h => s3' _ _ (s2 _ _ h)
  have nLH : H L = none := none_up nL s2
  clear s3'
  walk_at "go"
  refine g_p2 (s3 _ _ h1) ?_
  walk_at "go"
  refine g_lstOf (K := K) (Or.inr (SqT.of (s3 _ _ hw1))) ?_
  intro la nla
  have s4 := same_up (o := .lst (n1.map noteV)) nla s3
  have hL4 := kp (o' := .lst (n1.map noteV)) nla hL
  have hla : upd H3 la (.lst (n1.map noteV)) la = some (.lst (n1.map noteV)) := upd_same
  generalize upd H3 la (.lst (n1.map noteV)) = H4 at s4 hL4 hla ⊢
  walk_at "go"
  refine g_lst' ?_
  walk_at "go"
  refine ⟨sz (by simp), fun lb nlb => ?_⟩
  have s5 := same_up (o := .lst [.non]) nlb s4
  have hL5 := kp (o' := .lst [.non]) nlb hL4
  have hla5 := kp (o' := .lst [.non]) nlb hla
  have hlb5 : upd H4 lb (.lst [.non]) lb = some (.lst [.non]) := upd_same
  generalize upd H4 lb (.lst [.non]) = H5 at s5 hL5 hla5 hlb5 ⊢
  walk_at "go"
  refine g_lenO (K := K) (s5 _ _ h2) (SqT.of (s5 _ _ hw2)) (by rw [e2]; omega) ?_
  rw [e2]
  walk_at "go"
  refine g_len (K := K) (Or.inr (SqT.of (s5 _ _ ht))) ?_
  rw [hrl]
  walk_at "go"
  have hnew := jnew_len J.ndS J.snd
  refine g_rep hlb5 (by omega) (by omega) (by simp) fun lc nlc => ?_
  have s6 := same_up (o := .lst (List.replicate ((n2.length : Int) - (ps.length : Int)).toNat [V.non]).flatten) nlc s5
  have hL6 := kp (o' := .lst (List.replicate ((n2.length : Int) - (ps.length : Int)).toNat [V.non]).flatten) nlc hL5
  have hla6 := kp (o' := .lst (List.replicate ((n2.length : Int) - (ps.length : Int)).toNat [V.non]).flatten) nlc hla5
  have hlc6 : upd H5 lc (.lst (List.replicate ((n2.length : Int) - (ps.length : Int)).toNat [V.non]).flatten) lc = some (.lst (List.replicate ((n2.length : Int) - (ps.length : Int)).toNat [V.non]).flatten) := upd_same
  generalize upd H5 lc (.lst (List.replicate ((n2.length : Int) - (ps.length : Int)).toNat [V.non]).flatten) = H6 at s6 hL6 hla6 hlc6 ⊢
  have efl : (List.replicate ((n2.length : Int) - (ps.length : Int)).toNat [V.non]).flatten = (List.replicate (n2.length - ps.length) none).map noteV := by
    rw [show ((n2.length : Int) - (ps.length : Int)).toNat = n2.length - ps.length by omega]
    generalize n2.length - ps.length = k
    clear hlc6 hnew
    induction k with
    | zero => rfl
    | succ k ih => rw [List.replicate_succ, List.flatten_cons, ih, List.replicate_succ, List.map_cons]; rfl
  rw [efl] at hlc6
  refine ⟨la, lc, _, _, rfl, rfl, hla6, hlc6, sz (by rw [e1, List.length_map, List.length_replicate]; omega), fun W nW => ?_⟩
  rw [← List.map_append, ← jW_zero J]
  have s7 := same_up (o := .lst ((jW ps n1 n2 0).map noteV)) nW s6
  have hL7 := kp (o' := .lst ((jW ps n1 n2 0).map noteV)) nW hL6
  have hW7 : upd H6 W (.lst ((jW ps n1 n2 0).map noteV)) W = some (.lst ((jW ps n1 n2 0).map noteV)) := upd_same
  have nWH : H W = none := none_up nW s6
  have neLW : L ≠ W := fun e => by rw [← e, hL6] at nW; cases nW
  generalize upd H6 W (.lst ((jW ps n1 n2 0).map noteV)) = H7 at s7 hL7 hW7 ⊢
  walk_at "go"
  refine g_zipM ?_
  walk_at "go"
  refine g_p2 (s7 _ _ h2) ?_
  walk_at "go"
  have eL : ((List.range n2.length).map fun k => V.int (jnum ps n1.length k : Nat)).length = n2.length := by rw [List.length_map, List.length_range]
  refine ⟨L, wa2, _, _, rfl, SqL.of hL7, SqT.of (s7 _ _ hw2), ?_⟩
  refine ForQ.zipM (by rw [eL, e2]) (fun i σ H' => (∃ x5 x6 x7 x8 x9 x10, σ = [some (.ref a1), some (.ref a2), some (.ref t), some (.ref L), some (.ref W), x5, x6, x7, x8, x9, x10]) ∧ H' W = some (.lst ((jW ps n1 n2 i).map noteV)) ∧ H' L = some (.lst ((List.range n2.length).map fun k => V.int (jnum ps n1.length k : Nat))) ∧ ∀ b o, H b = some o → H' b = some o) ⟨⟨_, _, _, _, _, _, rfl⟩, hW7, hL7, s7⟩ (fun i σ H' h => ⟨SqL.of h.2.2.1, SqT.of (h.2.2.2 _ _ hw2)⟩) ?_ ?_
  · rintro i x y Tp σ H8 hx hy ⟨⟨x5, x6, x7, x8, x9, x10, rfl⟩, hW8, hL8, s8⟩ nT
    have hi : i < n2.length := by rw [← eL]; exact (List.getElem?_eq_some_iff.mp hx).1
    have ex : x = V.int (jnum ps n1.length i : Nat) := by
      rw [List.getElem?_map, List.getElem?_range hi] at hx
      exact (Option.some.inj hx).symm
    have ey : y = noteV n2[i] := by
      rw [List.getElem?_map, List.getElem?_eq_getElem hi] at hy
      exact (Option.some.inj hy).symm
    subst ex; subst ey
    have s9 := same_up (o := .tup [V.int (jnum ps n1.length i : Nat), noteV n2[i]]) nT s8
    have hW9 := kp (o' := .tup [V.int (jnum ps n1.length i : Nat), noteV n2[i]]) nT hW8
    have hL9 := kp (o' := .tup [V.int (jnum ps n1.length i : Nat), noteV n2[i]]) nT hL8
    refine g_tupg (K := K) (SqT.of upd_same) rfl ?_
    generalize upd H8 Tp (.tup [V.int (jnum ps n1.length i : Nat), noteV n2[i]]) = H9 at s9 hW9 hL9 ⊢
    have gd : n2.getD i none = n2[i] := by rw [List.getD_eq_getElem?_getD, List.getElem?_eq_getElem hi]; rfl
    walk_at "go"
    cases q2 : n2[i] with
    | none =>
      rw [show (!decide (noteV none = V.non)) = false from rfl]
      walk_at "go"
      exact ⟨⟨_, _, _, _, _, _, rfl⟩, by rw [jW_none (by rw [gd, q2])]; exact hW9, hL9, s9⟩
    | some d =>
      rw [show (!decide (noteV (some d) = V.non)) = true from rfl]
      walk_at "go"
      have hj := jnum_lt J hi
      refine g_setL hW9 (by omega) (by rw [List.length_map, jW_len J]; omega) ?_
      refine ⟨⟨_, _, _, _, _, _, rfl⟩, ?_, by rw [upd_ne neLW]; exact hL9, fun b o h => by rw [upd_ne (ne_of_none h nWH)]; exact s9 _ _ h⟩
      rw [upd_same, ← jW_some J hi (by rw [gd, q2]), List.map_set]
      simp
  · rintro σ H8 ⟨⟨x5, x6, x7, x8, x9, x10, rfl⟩, hW8, hL8, s8⟩
    rw [eL] at hW8
    walk_at "go"
    refine g_p3 (s8 _ _ h2) ?_
    refine g_tq (K := K) (SqT.of (s8 _ _ hb2)) ?_
    have hrl2 : r2.length = l2.length := by rw [hr2.length, List.length_map]
    have take_jl : ∀ (i : Nat) (hi : i < l2.length), jlines ps n1.length (l2.take (i + 1)) = jlines ps n1.length (l2.take i) ++ [((jnum ps n1.length l2[i].1.toNat : Int), (jnum ps n1.length l2[i].2.1.toNat : Int), l2[i].2.2)] := fun i hi => by
      unfold jlines
      rw [List.take_succ, List.getElem?_eq_getElem hi, List.map_append]; rfl
    refine LcQ.tup (xs := r2) (fun D' i H' => (∃ vs, H' D' = some (.lst vs) ∧ vs.length = i ∧ Fzs H' vs ((jlines ps n1.length (l2.take i)).map lineD)) ∧ ∀ b o, H8 b = some o → H' b = some o) (fun D' nD => ⟨⟨[], upd_same, rfl, .nil⟩, same_up nD fun _ _ h => h⟩) (fun D' nD i H' _ h => SqT.of (h.2 _ _ (s8 _ _ hb2))) ?_ ?_
    · rintro D' nD i x H9 hx ⟨⟨vs, hv, hvl, hf⟩, s9⟩
      have hi : i < l2.length := by rw [← hrl2]; exact (List.getElem?_eq_some_iff.mp hx).1
      obtain ⟨r, er, hr'⟩ := fzs_row hr2 hi
      rw [hx] at er
      cases er
      obtain ⟨⟨x1, x2⟩, ⟨y1, y2⟩, z1, z2⟩ := ok2.line l2[i] (List.getElem_mem hi)
      refine g_tupg (K := K) (SqT.of (s9 _ _ (s8 _ _ hr'))) rfl ?_
      walk_at "go"
      refine g_tup' ?_
      walk_at "go"
      have nx : ∀ a : Int, 0 ≤ a → a < n2.length → ((List.range n2.length).map fun k => V.int (jnum ps n1.length k : Nat))[a.toNat]? = some (V.int (jnum ps n1.length a.toNat : Nat)) := fun a h0 h1 => by
        rw [List.getElem?_map, List.getElem?_range (by omega)]; rfl
      refine g_ixL (K := K) (SqL.of (s9 _ _ hL8)) (atI_at x1 (nx _ x1 x2)) ?_
      walk_at "go"
      refine g_ixL (K := K) (SqL.of (s9 _ _ hL8)) (atI_at y1 (nx _ y1 y2)) ?_
      walk_at "go"
      refine ⟨sz (by simp), fun p np => ?_⟩
      have hv' := kp (o' := .tup [V.int (jnum ps n1.length l2[i].1.toNat : Nat), V.int (jnum ps n1.length l2[i].2.1.toNat : Nat), V.int l2[i].2.2]) np hv
      have s10 := same_up (o := .tup [V.int (jnum ps n1.length l2[i].1.toNat : Nat), V.int (jnum ps n1.length l2[i].2.1.toNat : Nat), V.int l2[i].2.2]) np s9
      have k10 := Tk.new (o := .tup [V.int (jnum ps n1.length l2[i].1.toNat : Nat), V.int (jnum ps n1.length l2[i].2.1.toNat : Nat), V.int l2[i].2.2]) np
      have hp : upd H9 p (.tup [V.int (jnum ps n1.length l2[i].1.toNat : Nat), V.int (jnum ps n1.length l2[i].2.1.toNat : Nat), V.int l2[i].2.2]) p = some (.tup [V.int (jnum ps n1.length l2[i].1.toNat : Nat), V.int (jnum ps n1.length l2[i].2.1.toNat : Nat), V.int l2[i].2.2]) := upd_same
      generalize upd H9 p (.tup [V.int (jnum ps n1.length l2[i].1.toNat : Nat), V.int (jnum ps n1.length l2[i].2.1.toNat : Nat), V.int l2[i].2.2]) = H10 at hv' s10 k10 hp ⊢
      have kD := Tk.upd (p := D') (o := .lst (vs ++ [.ref p])) hv' (fun xs h => by cases h)
      refine ⟨_, hv', szl (by omega), ⟨vs ++ [.ref p], upd_same, by simp [hvl], ?_⟩, fun b o h => by rw [upd_ne (ne_of_none h nD)]; exact s10 _ _ h⟩
      rw [take_jl i hi, List.map_append]
      exact ((hf.tk k10).tk kD).snoc (fz_line (kD _ _ hp))
    · rintro D' nD H9 ⟨⟨vs, hv, hvl, hf⟩, s9⟩
      rw [hrl2, List.take_length] at hf
      have s9' : ∀ b o, H b = some o → H9 b = some o := fun b o h => s9 _ _ (s8 _ _ h)
      walk_at "go"
      refine g_p1 (s9' _ _ h1) ?_
      walk_at "go"
      refine g_tupOfL (K := K) (SqL.of (s9 _ _ hW8)) ?_
      intro t1 nt1
      have sA := same_up (o := .tup ((jW ps n1 n2 n2.length).map noteV)) nt1 s9'
      have hvA := kp (o' := .tup ((jW ps n1 n2 n2.length).map noteV)) nt1 hv
      have kA := Tk.new (o := .tup ((jW ps n1 n2 n2.length).map noteV)) nt1
      have htA : upd H9 t1 (.tup ((jW ps n1 n2 n2.length).map noteV)) t1 = some (.tup ((jW ps n1 n2 n2.length).map noteV)) := upd_same
      generalize upd H9 t1 (.tup ((jW ps n1 n2 n2.length).map noteV)) = HA at sA hvA kA htA ⊢
      walk_at "go"
      refine g_p3 (sA _ _ h1) ?_
      walk_at "go"
      refine g_tupOfL (K := K) (SqL.of hvA) ?_
      intro t2 nt2
      have sB := same_up (o := .tup vs) nt2 sA
      have kB := Tk.new (o := .tup vs) nt2
      have htB := kp (o' := .tup vs) nt2 htA
      have ht2 : upd HA t2 (.tup vs) t2 = some (.tup vs) := upd_same
      generalize upd HA t2 (.tup vs) = HB at sB kB htB ht2 ⊢
      walk_at "go"
      have hl2' : (jlines ps n1.length l2).length = l2.length := by unfold jlines; rw [List.length_map]
      refine g_catA (K := K) (sB _ _ hb1) ht2 (by rw [hr1.length, hf.length, List.length_map, List.length_map, hl2']; omega) fun t3 HC ntC h3 => ?_
      have sC : ∀ b o, H b = some o → HC b = some o := fun b o h => ntC.same _ _ (sB _ _ h)
      have fN : Fz HC (.ref t1) (notesD (joinN ps n1 n2)) := .tup (ntC.same _ _ htB) (fzs_notes _)
      have fL : Fz HC (.ref t3) (linesD (l1 ++ jlines ps n1.length l2)) := by
        refine .tup h3 ?_
        rw [List.map_append]
        exact (hr1.tk (Tk.same sC)).append (((hf.tk kA).tk kB).tk ntC.tk)
      walk_at "go"
      have jl := jW_len J n2.length
      have jl' : (joinN ps n1 n2).length = n1.length + (n2.length - ps.length) := jl
      refine g_makeX fN fL ?_ ?_ ?_ (within_int ⟨ok1.c2, ok1.c100⟩) (fun h16 => ?_)
      · intro hd16 d HE sE nd
        exact q16 (by omega) d HE (fun b o h => sE _ _ (sC _ _ h)) nd
      · intro hd16 hd60 d HE sE nd
        exact q60 (by omega) (by rw [List.length_append, hl2'] at hd60; omega) d HE (fun b o h => sE _ _ (sC _ _ h)) nd
      · intro hd16 hd60
        refine ⟨dok_le (join_dok' J ok1 ok2 (by omega)) hw, fun x HE nx d2 s2 => ?_⟩
        walk_at "go"
        exact q (by omega) (by rw [List.length_append, hl2'] at hd60; omega) x HE (none_up nx sC) d2 fun b o h => s2 _ _ (sC _ _ h)
      · have z := join_dok' J ok1 ok2 (by omega)
        exact ⟨z.c2, z.c100, z.n1, z.n16, z.note, fun l h => by cases h⟩
end
end K56
set_option Elab.async false
set_option linter.all false
set_option maxRecDepth 100000
set_option maxHeartbeats 400000
namespace K56
open PySem PySem.Spec PyProof.Rows L2 WL
local macro_rules | `(tactic| walk_at "side") => `(tactic| first | (show (_ ∧ _) ∨ (_ ∧ _); omega) | (exact ⟨by omega, by omega⟩) | (show (0 : Int) < _; omega) | omega)
local macro_rules | `(tactic| walk_at "go") => `(tactic| (repeat (first
  | with_reducible refine g_seq ?_ | with_reducible refine g_asgN ?_ | with_reducible refine g_ret ?_ | with_reducible refine g_drop ?_ | with_reducible refine g_ifS ?_ | with_reducible refine g_next ?_
  | with_reducible refine g_var rfl ?_ | with_reducible refine g_c ?_ | with_reducible refine g_op ?_ | with_reducible refine g_un ?_ | with_reducible refine g_rI0 ?_ | ((with_reducible refine g_rI ?_ ?_); next => walk_at "side") | with_reducible refine g_test ?_ | with_reducible refine g_bl ?_
  | with_reducible refine g_nil ?_ | with_reducible refine g_cons ?_ | with_reducible refine g_call ?_ | with_reducible refine g_cb ?_ | with_reducible refine g_if ?_ | with_reducible refine g_par ?_ | with_reducible refine g_two ?_
  | with_reducible refine g_asg ?_ | with_reducible refine g_name ?_ | with_reducible refine g_sub ?_ | with_reducible refine g_yes ?_ | with_reducible refine g_gcons ?_ | with_reducible refine g_gnil ?_ | with_reducible refine g_dget ?_ | with_reducible refine g_dput ?_ | with_reducible refine g_rng1 ?_ | with_reducible refine g_rng2 ?_
  | ((with_reducible refine g_one ?_ ?_); next => omega) | ((with_reducible refine g_twoI ?_ ?_); next => omega) | with_reducible refine g_isNon ?_ | with_reducible refine g_andV ?_ | with_reducible refine g_revT ?_ | with_reducible refine g_itup ?_ | with_reducible refine g_methK0 ?_ | with_reducible refine g_methS ?_ | with_reducible refine g_errF ?_ | with_reducible refine g_prop ?_ | with_reducible refine g_con ?_ | with_reducible refine g_make ?_ | with_reducible refine g_fld ?_ | with_reducible refine g_sfld ?_ | with_reducible refine g_iftn ?_ | with_reducible refine g_iffn ?_ | with_reducible refine g_orV ?_ | with_reducible refine g_notV ?_ | with_reducible refine g_tB ?_ | with_reducible refine g_chain ?_ | with_reducible refine g_neg ?_ | with_reducible refine g_cval ?_ | with_reducible refine g_enumT ?_ | with_reducible refine g_andT ?_ | with_reducible refine g_orT ?_ | with_reducible refine g_notT ?_ | with_reducible refine g_sl ?_ | with_reducible refine g_part ?_ | with_reducible refine g_parI ?_ | with_reducible refine g_noPart ?_ | with_reducible refine g_pcons ?_ | with_reducible refine g_pnil ?_ | with_reducible refine g_list ?_ | with_reducible refine g_lc ?_ | with_reducible refine g_for ?_ | with_reducible refine g_enum ?_ | with_reducible refine g_ift ?_ | with_reducible refine g_iff ?_ | with_reducible refine And.intro rfl ?_ | with_reducible refine g_notNon ?_)))
local macro_rules | `(tactic| walk_at "ex") => `(tactic| (repeat (first
  | with_reducible refine g_seqAsg ?_ | with_reducible refine g_seqFld ?_ | with_reducible refine g_seqDrop ?_ | with_reducible refine g_seqPut ?_ | with_reducible refine g_seqPar ?_ | with_reducible refine g_asgN ?_ | with_reducible refine g_ret ?_ | with_reducible refine g_drop ?_ | with_reducible refine g_next ?_
  | with_reducible refine g_var rfl ?_ | with_reducible refine g_c ?_ | with_reducible refine g_op ?_ | with_reducible refine g_un ?_ | with_reducible refine g_rI0 ?_ | ((with_reducible refine g_rI ?_ ?_); next => walk_at "side") | with_reducible refine g_test ?_ | with_reducible refine g_bl ?_
  | with_reducible refine g_nil ?_ | with_reducible refine g_cons ?_ | with_reducible refine g_call ?_ | with_reducible refine g_cb ?_ | with_reducible refine g_if ?_ | with_reducible refine g_par ?_ | with_reducible refine g_two ?_
  | with_reducible refine g_asg ?_ | with_reducible refine g_name ?_ | with_reducible refine g_sub ?_ | with_reducible refine g_yes ?_ | with_reducible refine g_gcons ?_ | with_reducible refine g_gnil ?_ | with_reducible refine g_dget ?_ | with_reducible refine g_dput ?_ | with_reducible refine g_rng1 ?_ | with_reducible refine g_rng2 ?_
  | ((with_reducible refine g_one ?_ ?_); next => omega) | ((with_reducible refine g_twoI ?_ ?_); next => omega) | with_reducible refine g_isNon ?_ | with_reducible refine g_andV ?_ | with_reducible refine g_revT ?_ | with_reducible refine g_itup ?_ | with_reducible refine g_methK0 ?_ | with_reducible refine g_methS ?_ | with_reducible refine g_errF ?_ | with_reducible refine g_prop ?_ | with_reducible refine g_con ?_ | with_reducible refine g_make ?_ | with_reducible refine g_fld ?_ | with_reducible refine g_sfld ?_ | with_reducible refine g_iftn ?_ | with_reducible refine g_iffn ?_ | with_reducible refine g_orV ?_ | with_reducible refine g_notV ?_ | with_reducible refine g_tB ?_ | with_reducible refine g_chain ?_ | with_reducible refine g_neg ?_ | with_reducible refine g_cval ?_ | with_reducible refine g_enumT ?_ | with_reducible refine g_proj ?_ | with_reducible refine g_andT ?_ | with_reducible refine g_orT ?_ | with_reducible refine g_notT ?_ | with_reducible refine g_sl ?_ | with_reducible refine g_part ?_ | with_reducible refine g_parI ?_ | with_reducible refine g_noPart ?_ | with_reducible refine g_pcons ?_ | with_reducible refine g_pnil ?_ | with_reducible refine g_list ?_ | with_reducible refine g_lc ?_ | with_reducible refine g_enum ?_ | with_reducible refine g_ift ?_ | with_reducible refine g_iff ?_ | with_reducible refine And.intro rfl ?_ | with_reducible refine g_notNon ?_)))
section
variable {P : Program} {w : World} {K : PySem.W.Frag} {mg : Str → Option Value} {base : Heap} {f : Addr} {fd : FuncData} {DC IE ID MM : Addr}
/-- joined(one, other, *pairs): the pairs behind the two diaries -/
def spJoinX (K : PySem.W.Frag) (DC MM ID : Addr) : Sp := fun vs H Q E => ∃ (v u : V) (rest : List V) (ss : List Sh) (c1 c2 wd : Int) (n1 n2 : List (Option Int)) (l1 l2 : List (Int × Int × Int)), vs = v :: u :: rest ∧ DiaAt DC H v c1 n1 l1 ∧ DiaAt DC H u c2 n2 l2 ∧ AnSs K H rest ss ∧ rest.length ≤ 1000 ∧ (∀ (i : Nat) (r : Addr) (p : Nat × Nat), rest[i]? = some (V.ref r) → ss[i]? = some (pairSh p) → H r = some (.tup [.int (p.1 : Nat), .int (p.2 : Nat)])) ∧
  DOK c1 n1 l1 wd ∧ DOK c2 n2 l2 wd ∧ l1.length ≤ 60 ∧ l2.length ≤ 60 ∧ wd ≤ 1000000000 ∧ JoinQ DC MM ID c1 c2 n1 n2 l1 l2 ss H Q E
theorem JoinQ.up {c1 c2 : Int} {n1 n2 : List (Option Int)} {l1 l2 : List (Int × Int × Int)} {ss : List Sh} {H H' : Hp} {Q : VK} {E : XK} (h : JoinQ DC MM ID c1 c2 n1 n2 l1 l2 ss H Q E) (s : ∀ b o, H b = some o → H' b = some o) : JoinQ DC MM ID c1 c2 n1 n2 l1 l2 ss H' Q E := by
  obtain ⟨a, b, c⟩ := h
  refine ⟨fun e d H1 s1 nd => a e d H1 (fun x o h => s1 _ _ (s _ _ h)) nd, fun e i hb d H1 s1 nd => b e i hb d H1 (fun x o h => s1 _ _ (s _ _ h)) nd, fun e hb ps hp ok => ?_⟩
  obtain ⟨w1, w2⟩ := c e hb ps hp ok
  refine ⟨fun i h no cl d H1 s1 nd => w1 i h no cl d H1 (fun x o h => s1 _ _ (s _ _ h)) nd, fun noc => ?_⟩
  obtain ⟨q1, q2, q3⟩ := w2 noc
  exact ⟨fun h d H1 s1 nd => q1 h d H1 (fun x o h => s1 _ _ (s _ _ h)) nd, fun h h' d H1 s1 nd => q2 h h' d H1 (fun x o h => s1 _ _ (s _ _ h)) nd, fun h h' x H1 nx d s1 => q3 h h' x H1 (none_up nx s) d (fun y o h => s1 _ _ (s _ _ h))⟩
theorem join_starX : ∀ vs H Q E, spJoinX K DC MM ID vs H Q E → ∃ ws rest, vs = ws ++ rest ∧ ws.length = (["one", "other"] : List Str).length ∧ rest.length ≤ sizeLine ∧ ∀ p, H p = Option.none → spJoinXT K DC MM ID (ws ++ [V.ref p]) (upd H p (.tup rest)) Q E := by
  rintro vs H Q E ⟨v, u, rest, ss, c1, c2, wd, n1, n2, l1, l2, rfl, h1, h2, hr, hl, dir, o1, o2, x1, x2, hw, q⟩
  refine ⟨[v, u], rest, rfl, rfl, sz (by omega), fun p np => ?_⟩
  have up := same_up (o := .tup rest) np (H := H) (fun _ _ h => h)
  refine ⟨v, u, p, rest, ss, c1, c2, wd, n1, n2, l1, l2, rfl, h1.same up, h2.same up, upd_same, hr.same up, hl, fun i r pp hm ha => up _ _ (dir i r pp hm ha), o1, o2, x1, x2, hw, q.up up⟩
theorem ok_joinedX (F : FnT K "joined" s_joined f fd) (T : Blt mg) (X : Ev2 P K mg "Mismatch" "part" "spot" MM) (D : DiaF P w K mg base DC IE) (DX : DiaX P w K mg base DC ID) (hNeed : HasE P w K mg base 4 "need_pairs" ["one", "other", "pairs"] (spNeedPairsX K DC MM)) (hAgree : HasE P w K mg base 3 "need_agreement" ["one", "other", "pairs"] (spAgreeX DC MM)) (hNew : Has P w K mg base 3 "new_numbers" ["one", "other", "pairs"] (spNewNums DC)) : FnR P w K mg base (L2.CX P w) 9 f (spJoinX K DC MM ID) := by
  obtain ⟨oc, od, dV, kV, dc, pm, an, cdv, ct, osl, rfl, lk, hcd, hdV, _⟩ := F.ex
  have ed : dV = .none := hdV.elim (fun z => z.2) (fun z => absurd rfl z.1)
  subst ed
  exact FnR.imp (StX.fn_star (P := P) (w := w) (K := K) (mg := mg) (base := base) (CX := L2.CX P w) (k := 8) (ps := ["one", "other"]) (pv := "pairs") (sp := spJoinXT K DC MM ID) lk hcd sc_joined StX.cxUp (StX.bind_star2 (B := fun us => bindArgs (PySem.W.fnOf "joined" "joined" (defArgs s_joined) (defBody s_joined) (defScope s_joined) .none kV dc pm an cdv ct) { pos := us }) (p1 := "one") (p2 := "other") (pv := "pairs") (fun a b => rfl) (fun a b r rs => rfl)) (fun A outer s H vs Q E hr h => ok_joinedXT T X D DX hNeed hAgree hNew A outer s H vs Q E hr h)) join_starX
end
end K56
set_option Elab.async false
set_option linter.all false
set_option maxRecDepth 100000
set_option maxHeartbeats 400000
namespace K56
open PySem PySem.Spec PyProof.Rows L2 WL
local macro_rules | `(tactic| walk_at "side") => `(tactic| first | (show (_ ∧ _) ∨ (_ ∧ _); omega) | (exact ⟨by omega, by omega⟩) | (show (0 : Int) < _; omega) | omega)
local macro_rules | `(tactic| walk_at "go") => `(tactic| (repeat (first
  | with_reducible refine g_seq ?_ | with_reducible refine g_asgN ?_ | with_reducible refine g_ret ?_ | with_reducible refine g_drop ?_ | with_reducible refine g_ifS ?_ | with_reducible refine g_next ?_
  | with_reducible refine g_var rfl ?_ | with_reducible refine g_c ?_ | with_reducible refine g_op ?_ | with_reducible refine g_un ?_ | with_reducible refine g_rI0 ?_ | ((with_reducible refine g_rI ?_ ?_); next => walk_at "side") | with_reducible refine g_test ?_ | with_reducible refine g_bl ?_
  | with_reducible refine g_nil ?_ | with_reducible refine g_cons ?_ | with_reducible refine g_call ?_ | with_reducible refine g_cb ?_ | with_reducible refine g_if ?_ | with_reducible refine g_par ?_ | with_reducible refine g_two ?_
  | with_reducible refine g_asg ?_ | with_reducible refine g_name ?_ | with_reducible refine g_sub ?_ | with_reducible refine g_yes ?_ | with_reducible refine g_gcons ?_ | with_reducible refine g_gnil ?_ | with_reducible refine g_dget ?_ | with_reducible refine g_dput ?_ | with_reducible refine g_rng1 ?_ | with_reducible refine g_rng2 ?_
  | ((with_reducible refine g_one ?_ ?_); next => omega) | ((with_reducible refine g_twoI ?_ ?_); next => omega) | with_reducible refine g_isNon ?_ | with_reducible refine g_andV ?_ | with_reducible refine g_revT ?_ | with_reducible refine g_itup ?_ | with_reducible refine g_methK0 ?_ | with_reducible refine g_methS ?_ | with_reducible refine g_errF ?_ | with_reducible refine g_prop ?_ | with_reducible refine g_con ?_ | with_reducible refine g_make ?_ | with_reducible refine g_fld ?_ | with_reducible refine g_sfld ?_ | with_reducible refine g_iftn ?_ | with_reducible refine g_iffn ?_ | with_reducible refine g_orV ?_ | with_reducible refine g_notV ?_ | with_reducible refine g_tB ?_ | with_reducible refine g_chain ?_ | with_reducible refine g_neg ?_ | with_reducible refine g_cval ?_ | with_reducible refine g_enumT ?_ | with_reducible refine g_andT ?_ | with_reducible refine g_orT ?_ | with_reducible refine g_notT ?_ | with_reducible refine g_sl ?_ | with_reducible refine g_part ?_ | with_reducible refine g_parI ?_ | with_reducible refine g_noPart ?_ | with_reducible refine g_pcons ?_ | with_reducible refine g_pnil ?_ | with_reducible refine g_list ?_ | with_reducible refine g_lc ?_ | with_reducible refine g_for ?_ | with_reducible refine g_enum ?_ | with_reducible refine g_ift ?_ | with_reducible refine g_iff ?_ | with_reducible refine And.intro rfl ?_ | with_reducible refine g_notNon ?_)))
local macro_rules | `(tactic| walk_at "ex") => `(tactic| (repeat (first
  | with_reducible refine g_seqAsg ?_ | with_reducible refine g_seqFld ?_ | with_reducible refine g_seqDrop ?_ | with_reducible refine g_seqPut ?_ | with_reducible refine g_seqPar ?_ | with_reducible refine g_asgN ?_ | with_reducible refine g_ret ?_ | with_reducible refine g_drop ?_ | with_reducible refine g_next ?_
  | with_reducible refine g_var rfl ?_ | with_reducible refine g_c ?_ | with_reducible refine g_op ?_ | with_reducible refine g_un ?_ | with_reducible refine g_rI0 ?_ | ((with_reducible refine g_rI ?_ ?_); next => walk_at "side") | with_reducible refine g_test ?_ | with_reducible refine g_bl ?_
  | with_reducible refine g_nil ?_ | with_reducible refine g_cons ?_ | with_reducible refine g_call ?_ | with_reducible refine g_cb ?_ | with_reducible refine g_if ?_ | with_reducible refine g_par ?_ | with_reducible refine g_two ?_
  | with_reducible refine g_asg ?_ | with_reducible refine g_name ?_ | with_reducible refine g_sub ?_ | with_reducible refine g_yes ?_ | with_reducible refine g_gcons ?_ | with_reducible refine g_gnil ?_ | with_reducible refine g_dget ?_ | with_reducible refine g_dput ?_ | with_reducible refine g_rng1 ?_ | with_reducible refine g_rng2 ?_
  | ((with_reducible refine g_one ?_ ?_); next => omega) | ((with_reducible refine g_twoI ?_ ?_); next => omega) | with_reducible refine g_isNon ?_ | with_reducible refine g_andV ?_ | with_reducible refine g_revT ?_ | with_reducible refine g_itup ?_ | with_reducible refine g_methK0 ?_ | with_reducible refine g_methS ?_ | with_reducible refine g_errF ?_ | with_reducible refine g_prop ?_ | with_reducible refine g_con ?_ | with_reducible refine g_make ?_ | with_reducible refine g_fld ?_ | with_reducible refine g_sfld ?_ | with_reducible refine g_iftn ?_ | with_reducible refine g_iffn ?_ | with_reducible refine g_orV ?_ | with_reducible refine g_notV ?_ | with_reducible refine g_tB ?_ | with_reducible refine g_chain ?_ | with_reducible refine g_neg ?_ | with_reducible refine g_cval ?_ | with_reducible refine g_enumT ?_ | with_reducible refine g_proj ?_ | with_reducible refine g_andT ?_ | with_reducible refine g_orT ?_ | with_reducible refine g_notT ?_ | with_reducible refine g_sl ?_ | with_reducible refine g_part ?_ | with_reducible refine g_parI ?_ | with_reducible refine g_noPart ?_ | with_reducible refine g_pcons ?_ | with_reducible refine g_pnil ?_ | with_reducible refine g_list ?_ | with_reducible refine g_lc ?_ | with_reducible refine g_enum ?_ | with_reducible refine g_ift ?_ | with_reducible refine g_iff ?_ | with_reducible refine And.intro rfl ?_ | with_reducible refine g_notNon ?_)))
section
variable {P : Program} {w : World} {K : PySem.W.Frag} {mg : Str → Option Value} {base : Heap} {f : Addr} {fd : FuncData} {DC IE : Addr}
/-- Diary.of(modulus, *weekdays) of right values -/
def spOfG (DC : Addr) : Sp := fun vs H Q _ => ∃ (c : Int) (ns : List (Option Int)), vs = .ref DC :: .int c :: ns.map noteV ∧ DOK c ns [] 1 ∧ ∀ (x : Addr) (H' : Hp), H x = none → DiaAt DC H' (.ref x) c ns [] → (∀ b o, H b = some o → H' b = some o) → Q (.ref x) H'
def spOfGT (DC : Addr) : Sp := fun vs H Q _ => ∃ (c : Int) (ns : List (Option Int)) (p : Addr), vs = [.ref DC, .int c, .ref p] ∧ H p = some (.tup (ns.map noteV)) ∧ DOK c ns [] 1 ∧ ∀ (x : Addr) (H' : Hp), H x = none → DiaAt DC H' (.ref x) c ns [] → (∀ b o, H b = some o → H' b = some o) → Q (.ref x) H'
theorem ofG_star : ∀ vs H Q E, spOfG DC vs H Q E → ∃ ws rest, vs = ws ++ rest ∧ ws.length = (["cls", "modulus"] : List Str).length ∧ rest.length ≤ sizeLine ∧ ∀ p, H p = Option.none → spOfGT DC (ws ++ [V.ref p]) (upd H p (.tup rest)) Q E := by
  rintro vs H Q E ⟨c, ns, rfl, ok, q⟩
  refine ⟨[.ref DC, .int c], ns.map noteV, rfl, rfl, sz (by rw [List.length_map]; have := ok.n16; omega), fun p np => ⟨c, ns, p, rfl, upd_same, ok, fun x H' nx d s => ?_⟩⟩
  have u := same_up (o := .tup (ns.map noteV)) np (H := H) (fun _ _ h => h)
  exact q x H' (none_up nx u) d fun b o h => s _ _ (u _ _ h)
theorem sc_of : FnScope ["cls", "modulus", "weekdays"] ((["cls", "modulus"] : List Str) ++ (["weekdays"] : List Str)) (defScope s_Diary_of) := ⟨rfl, rfl, rfl, by decide +kernel, rfl, by decide +kernel, by decide +kernel⟩
theorem ok_ofG (F : FunD K "of" "Diary.of" (defArgs s_Diary_of) (defBody s_Diary_of) (defScope s_Diary_of) [] [] f fd) (D : DiaF P w K mg base DC IE) : FnR P w K mg base CX0 8 f (spOfG DC) := by
  obtain ⟨oc, od, dV, kV, dc, pm, an, cdv, ct, osl, rfl, lk, hcd, hdV, _⟩ := F.ex
  have ed : dV = .none := hdV.elim (fun z => z.2) (fun z => absurd rfl z.1)
  subst ed
  refine FnR.imp (StX.fn_star (P := P) (w := w) (K := K) (mg := mg) (base := base) (CX := CX0) (k := 7) (ps := ["cls", "modulus"]) (pv := "weekdays") (sp := spOfGT DC) lk hcd sc_of StX.cxUp_none (StX.bind_star2 (B := fun us => bindArgs (PySem.W.fnOf "of" "Diary.of" (defArgs s_Diary_of) (defBody s_Diary_of) (defScope s_Diary_of) .none kV dc pm an cdv ct) { pos := us }) (p1 := "cls") (p2 := "modulus") (pv := "weekdays") (fun a b => rfl) (fun a b r rs => rfl)) (fun A outer s H vs Q E hr h => ?_)) ofG_star
  obtain ⟨c, ns, p, rfl, hp, ok, q⟩ := h
  have sc := sc_of
  obtain ⟨g, fd', m, b, Fn⟩ := D.make
  refine ⟨_, PSs.nox (pss_one (ps_ret (pe_makeL (i := 0) (E := E0) m Fn (hr.mono (by decide)) rfl (Or.inl rfl) b .nil pass0 (pa_cons (pv 1) (pa_cons (pv 2) (pa_cons (pe_tup pa_nil) pa_nil)))))), ?_⟩
  walk_at "go"
  refine g_makeL rfl ?_
  walk_at "go"
  refine g_tup' ?_
  walk_at "go"
  refine ⟨sz (by simp), fun p1 np1 => ?_⟩
  have s1 := same_up (o := .tup []) np1 (H := H) (fun _ _ h => h)
  walk_at "go"
  refine g_makeD (ns := ns) (ls := []) (w := 1) (fz_notes (s1 _ _ hp)) (.tup upd_same .nil) ok (by decide) (by decide) fun x H' nx d s2 => ?_
  exact q x H' (none_up nx s1) d fun b o h => s2 _ _ (s1 _ _ h)
end
end K56
set_option Elab.async false
set_option linter.all false
set_option maxRecDepth 100000
set_option maxHeartbeats 400000
namespace K56
open PySem PySem.Spec PyProof.Rows L2 WL
local macro_rules | `(tactic| walk_at "side") => `(tactic| first | (show (_ ∧ _) ∨ (_ ∧ _); omega) | (exact ⟨by omega, by omega⟩) | (show (0 : Int) < _; omega) | omega)
local macro_rules | `(tactic| walk_at "go") => `(tactic| (repeat (first
  | with_reducible refine g_seq ?_ | with_reducible refine g_asgN ?_ | with_reducible refine g_ret ?_ | with_reducible refine g_drop ?_ | with_reducible refine g_ifS ?_ | with_reducible refine g_next ?_
  | with_reducible refine g_var rfl ?_ | with_reducible refine g_c ?_ | with_reducible refine g_op ?_ | with_reducible refine g_un ?_ | with_reducible refine g_rI0 ?_ | ((with_reducible refine g_rI ?_ ?_); next => walk_at "side") | with_reducible refine g_test ?_ | with_reducible refine g_bl ?_
  | with_reducible refine g_nil ?_ | with_reducible refine g_cons ?_ | with_reducible refine g_call ?_ | with_reducible refine g_cb ?_ | with_reducible refine g_if ?_ | with_reducible refine g_par ?_ | with_reducible refine g_two ?_
  | with_reducible refine g_asg ?_ | with_reducible refine g_name ?_ | with_reducible refine g_sub ?_ | with_reducible refine g_yes ?_ | with_reducible refine g_gcons ?_ | with_reducible refine g_gnil ?_ | with_reducible refine g_dget ?_ | with_reducible refine g_dput ?_ | with_reducible refine g_rng1 ?_ | with_reducible refine g_rng2 ?_
  | ((with_reducible refine g_one ?_ ?_); next => omega) | ((with_reducible refine g_twoI ?_ ?_); next => omega) | with_reducible refine g_isNon ?_ | with_reducible refine g_andV ?_ | with_reducible refine g_revT ?_ | with_reducible refine g_itup ?_ | with_reducible refine g_methK0 ?_ | with_reducible refine g_methS ?_ | with_reducible refine g_errF ?_ | with_reducible refine g_prop ?_ | with_reducible refine g_con ?_ | with_reducible refine g_make ?_ | with_reducible refine g_fld ?_ | with_reducible refine g_sfld ?_ | with_reducible refine g_iftn ?_ | with_reducible refine g_iffn ?_ | with_reducible refine g_orV ?_ | with_reducible refine g_notV ?_ | with_reducible refine g_tB ?_ | with_reducible refine g_chain ?_ | with_reducible refine g_neg ?_ | with_reducible refine g_cval ?_ | with_reducible refine g_enumT ?_ | with_reducible refine g_andT ?_ | with_reducible refine g_orT ?_ | with_reducible refine g_notT ?_ | with_reducible refine g_sl ?_ | with_reducible refine g_part ?_ | with_reducible refine g_parI ?_ | with_reducible refine g_noPart ?_ | with_reducible refine g_pcons ?_ | with_reducible refine g_pnil ?_ | with_reducible refine g_list ?_ | with_reducible refine g_lc ?_ | with_reducible refine g_for ?_ | with_reducible refine g_enum ?_ | with_reducible refine g_ift ?_ | with_reducible refine g_iff ?_ | with_reducible refine And.intro rfl ?_ | with_reducible refine g_notNon ?_)))
local macro_rules | `(tactic| walk_at "ex") => `(tactic| (repeat (first
  | with_reducible refine g_seqAsg ?_ | with_reducible refine g_seqFld ?_ | with_reducible refine g_seqDrop ?_ | with_reducible refine g_seqPut ?_ | with_reducible refine g_seqPar ?_ | with_reducible refine g_asgN ?_ | with_reducible refine g_ret ?_ | with_reducible refine g_drop ?_ | with_reducible refine g_next ?_
  | with_reducible refine g_var rfl ?_ | with_reducible refine g_c ?_ | with_reducible refine g_op ?_ | with_reducible refine g_un ?_ | with_reducible refine g_rI0 ?_ | ((with_reducible refine g_rI ?_ ?_); next => walk_at "side") | with_reducible refine g_test ?_ | with_reducible refine g_bl ?_
  | with_reducible refine g_nil ?_ | with_reducible refine g_cons ?_ | with_reducible refine g_call ?_ | with_reducible refine g_cb ?_ | with_reducible refine g_if ?_ | with_reducible refine g_par ?_ | with_reducible refine g_two ?_
  | with_reducible refine g_asg ?_ | with_reducible refine g_name ?_ | with_reducible refine g_sub ?_ | with_reducible refine g_yes ?_ | with_reducible refine g_gcons ?_ | with_reducible refine g_gnil ?_ | with_reducible refine g_dget ?_ | with_reducible refine g_dput ?_ | with_reducible refine g_rng1 ?_ | with_reducible refine g_rng2 ?_
  | ((with_reducible refine g_one ?_ ?_); next => omega) | ((with_reducible refine g_twoI ?_ ?_); next => omega) | with_reducible refine g_isNon ?_ | with_reducible refine g_andV ?_ | with_reducible refine g_revT ?_ | with_reducible refine g_itup ?_ | with_reducible refine g_methK0 ?_ | with_reducible refine g_methS ?_ | with_reducible refine g_errF ?_ | with_reducible refine g_prop ?_ | with_reducible refine g_con ?_ | with_reducible refine g_make ?_ | with_reducible refine g_fld ?_ | with_reducible refine g_sfld ?_ | with_reducible refine g_iftn ?_ | with_reducible refine g_iffn ?_ | with_reducible refine g_orV ?_ | with_reducible refine g_notV ?_ | with_reducible refine g_tB ?_ | with_reducible refine g_chain ?_ | with_reducible refine g_neg ?_ | with_reducible refine g_cval ?_ | with_reducible refine g_enumT ?_ | with_reducible refine g_proj ?_ | with_reducible refine g_andT ?_ | with_reducible refine g_orT ?_ | with_reducible refine g_notT ?_ | with_reducible refine g_sl ?_ | with_reducible refine g_part ?_ | with_reducible refine g_parI ?_ | with_reducible refine g_noPart ?_ | with_reducible refine g_pcons ?_ | with_reducible refine g_pnil ?_ | with_reducible refine g_list ?_ | with_reducible refine g_lc ?_ | with_reducible refine g_enum ?_ | with_reducible refine g_ift ?_ | with_reducible refine g_iff ?_ | with_reducible refine And.intro rfl ?_ | with_reducible refine g_notNon ?_)))
section
variable {P : Program} {w : World} {K : PySem.W.Frag} {mg : Str → Option Value} {base : Heap} {f : Addr} {fd : FuncData} {DC IE ID MM DD : Addr}
/-- what is known of the classes of errors -/
structure ErrX (K : PySem.W.Frag) (mg : Str → Option Value) (MM ID DD : Addr) : Prop where
  mm : mg "Mismatch" = some (.ref MM)
  id_ : mg "InvalidDiary" = some (.ref ID)
  dd : mg "InvalidDays" = some (.ref DD)
  cm : ErrC K MM
  ci : ErrC K ID
  k1 : PySem.W.kitOne K (.ref ID) (.ref ID) = some true
  k2 : PySem.W.kitOne K (.ref MM) (.ref ID) = some false
  k3 : PySem.W.kitOne K (.ref MM) (.ref DD) = some false
  k4 : PySem.W.kitOne K (.ref MM) (.ref MM) = some true
  n1 : PySem.W.findIn K (.ref ID) "part" = some none
  n2 : PySem.W.findIn K (.ref ID) "item" = some none
  n3 : PySem.W.findIn K (.ref MM) "part" = some none
  n4 : PySem.W.findIn K (.ref MM) "spot" = some none
/-- an error of one of the two classes, and what it is read as -/
def ErrAt (MM ID : Addr) (H : Hp) (a : Addr) (row : List V) : Prop := ∃ (d : Addr) (x y : V), (H a = some (Err a (.ref MM) (some d)) ∧ H d = some (.xd [("part", x), ("spot", y)]) ∧ row = [.str "Mismatch", x, y]) ∨
  (H a = some (Err a (.ref ID) (some d)) ∧ H d = some (.xd [("part", x), ("item", y)]) ∧ row = [.str "InvalidDiary", x, y])
def spClass (MM ID : Addr) : Sp := fun vs H Q _ => ∃ (a : Addr) (row : List V), vs = [.ref a] ∧ ErrAt MM ID H a row ∧ ∀ p, H p = none → Q (.ref p) (upd H p (.tup row))
theorem sc_class : FnScope ["error"] ["error"] (defScope s_law_class) := ⟨rfl, rfl, rfl, by decide +kernel, rfl, by decide +kernel, by decide +kernel⟩
theorem ok_class (F : FnT K "_law_class" s_law_class f fd) (T : Blt mg) (X : ErrX K mg MM ID DD) : FnOk P w K mg base CX0 1 f fd ["error"] (spClass MM ID) := by
  refine F.ok sc_class (fun vs H Q E h => ?_) (fun cdv A outer s H vs Q E hr h => ?_)
  · obtain ⟨a, row, rfl, _⟩ := h
    rfl
  · obtain ⟨a, row, rfl, ⟨d, x, y, h⟩, q⟩ := h
    have sc := sc_class
    refine ⟨_, PSs.nox (pss_cons (ps_if (pt_val (pe_callB call_isErr (by rfl) T.isinstance (by decide +kernel) (pa_cons (pv 0) (pa_cons (pe_ref X.id_) pa_nil))))
        (pss_one (ps_ret (pe_tup (pa_cons pe_str (pa_cons (pe_errf X.ci.xf X.n1 (pv 0)) (pa_cons (pe_errf X.ci.xf X.n2 (pv 0)) pa_nil))))))
        pss_nil)
      (pss_cons (ps_if (pt_val (pe_callB call_isErr (by rfl) T.isinstance (by decide +kernel) (pa_cons (pv 0) (pa_cons (pe_ref X.dd) pa_nil))))
        (pss_one ps_no)
        pss_nil)
      (pss_cons (ps_if (pt_val (pe_callB call_isErr (by rfl) T.isinstance (by decide +kernel) (pa_cons (pv 0) (pa_cons (pe_ref X.mm) pa_nil))))
        (pss_one (ps_ret (pe_tup (pa_cons pe_str (pa_cons (pe_errf X.cm.xf X.n3 (pv 0)) (pa_cons (pe_errf X.cm.xf X.n4 (pv 0)) pa_nil))))))
        pss_nil)
      (pss_cons ps_no (pss_cons ps_no (pss_cons ps_no (pss_cons ps_no (pss_cons ps_no (pss_one ps_no))))))))), ?_⟩
    rcases h with ⟨ha, hd, rfl⟩ | ⟨ha, hd, rfl⟩
    · walk_at "go"
      refine ⟨a, MM, d, ID, _, false, rfl, ha, hd, X.cm, X.k2, ?_⟩
      walk_at "go"
      refine ⟨a, MM, d, DD, _, false, rfl, ha, hd, X.cm, X.k3, ?_⟩
      walk_at "go"
      refine ⟨a, MM, d, MM, _, true, rfl, ha, hd, X.cm, X.k4, ?_⟩
      walk_at "go"
      refine g_tup' ?_
      walk_at "go"
      refine ⟨a, d, _, x, rfl, ha, hd, rfl, ?_⟩
      walk_at "go"
      refine ⟨a, d, _, y, rfl, ha, hd, rfl, ?_⟩
      walk_at "go"
      exact ⟨sz (by simp), fun p np => q p np⟩
    · walk_at "go"
      refine ⟨a, ID, d, ID, _, true, rfl, ha, hd, X.ci, X.k1, ?_⟩
      walk_at "go"
      refine g_tup' ?_
      walk_at "go"
      refine ⟨a, d, _, x, rfl, ha, hd, rfl, ?_⟩
      walk_at "go"
      refine ⟨a, d, _, y, rfl, ha, hd, rfl, ?_⟩
      walk_at "go"
      exact ⟨sz (by simp), fun p np => q p np⟩
end
end K56
set_option Elab.async false
set_option linter.all false
set_option maxRecDepth 100000
set_option maxHeartbeats 400000
namespace K56
open PySem PySem.Spec PyProof.Rows L2 WL
local macro_rules | `(tactic| walk_at "side") => `(tactic| first | (show (_ ∧ _) ∨ (_ ∧ _); omega) | (exact ⟨by omega, by omega⟩) | (show (0 : Int) < _; omega) | omega)
local macro_rules | `(tactic| walk_at "go") => `(tactic| (repeat (first
  | with_reducible refine g_seq ?_ | with_reducible refine g_asgN ?_ | with_reducible refine g_ret ?_ | with_reducible refine g_drop ?_ | with_reducible refine g_ifS ?_ | with_reducible refine g_next ?_
  | with_reducible refine g_var rfl ?_ | with_reducible refine g_c ?_ | with_reducible refine g_op ?_ | with_reducible refine g_un ?_ | with_reducible refine g_rI0 ?_ | ((with_reducible refine g_rI ?_ ?_); next => walk_at "side") | with_reducible refine g_test ?_ | with_reducible refine g_bl ?_
  | with_reducible refine g_nil ?_ | with_reducible refine g_cons ?_ | with_reducible refine g_call ?_ | with_reducible refine g_cb ?_ | with_reducible refine g_if ?_ | with_reducible refine g_par ?_ | with_reducible refine g_two ?_
  | with_reducible refine g_asg ?_ | with_reducible refine g_name ?_ | with_reducible refine g_sub ?_ | with_reducible refine g_yes ?_ | with_reducible refine g_gcons ?_ | with_reducible refine g_gnil ?_ | with_reducible refine g_dget ?_ | with_reducible refine g_dput ?_ | with_reducible refine g_rng1 ?_ | with_reducible refine g_rng2 ?_
  | ((with_reducible refine g_one ?_ ?_); next => omega) | ((with_reducible refine g_twoI ?_ ?_); next => omega) | with_reducible refine g_isNon ?_ | with_reducible refine g_andV ?_ | with_reducible refine g_revT ?_ | with_reducible refine g_itup ?_ | with_reducible refine g_methK0 ?_ | with_reducible refine g_methS ?_ | with_reducible refine g_errF ?_ | with_reducible refine g_prop ?_ | with_reducible refine g_con ?_ | with_reducible refine g_make ?_ | with_reducible refine g_fld ?_ | with_reducible refine g_sfld ?_ | with_reducible refine g_iftn ?_ | with_reducible refine g_iffn ?_ | with_reducible refine g_orV ?_ | with_reducible refine g_notV ?_ | with_reducible refine g_tB ?_ | with_reducible refine g_chain ?_ | with_reducible refine g_neg ?_ | with_reducible refine g_cval ?_ | with_reducible refine g_enumT ?_ | with_reducible refine g_andT ?_ | with_reducible refine g_orT ?_ | with_reducible refine g_notT ?_ | with_reducible refine g_sl ?_ | with_reducible refine g_part ?_ | with_reducible refine g_parI ?_ | with_reducible refine g_noPart ?_ | with_reducible refine g_pcons ?_ | with_reducible refine g_pnil ?_ | with_reducible refine g_list ?_ | with_reducible refine g_lc ?_ | with_reducible refine g_for ?_ | with_reducible refine g_enum ?_ | with_reducible refine g_ift ?_ | with_reducible refine g_iff ?_ | with_reducible refine And.intro rfl ?_ | with_reducible refine g_notNon ?_)))
local macro_rules | `(tactic| walk_at "ex") => `(tactic| (repeat (first
  | with_reducible refine g_seqAsg ?_ | with_reducible refine g_seqFld ?_ | with_reducible refine g_seqDrop ?_ | with_reducible refine g_seqPut ?_ | with_reducible refine g_seqPar ?_ | with_reducible refine g_asgN ?_ | with_reducible refine g_ret ?_ | with_reducible refine g_drop ?_ | with_reducible refine g_next ?_
  | with_reducible refine g_var rfl ?_ | with_reducible refine g_c ?_ | with_reducible refine g_op ?_ | with_reducible refine g_un ?_ | with_reducible refine g_rI0 ?_ | ((with_reducible refine g_rI ?_ ?_); next => walk_at "side") | with_reducible refine g_test ?_ | with_reducible refine g_bl ?_
  | with_reducible refine g_nil ?_ | with_reducible refine g_cons ?_ | with_reducible refine g_call ?_ | with_reducible refine g_cb ?_ | with_reducible refine g_if ?_ | with_reducible refine g_par ?_ | with_reducible refine g_two ?_
  | with_reducible refine g_asg ?_ | with_reducible refine g_name ?_ | with_reducible refine g_sub ?_ | with_reducible refine g_yes ?_ | with_reducible refine g_gcons ?_ | with_reducible refine g_gnil ?_ | with_reducible refine g_dget ?_ | with_reducible refine g_dput ?_ | with_reducible refine g_rng1 ?_ | with_reducible refine g_rng2 ?_
  | ((with_reducible refine g_one ?_ ?_); next => omega) | ((with_reducible refine g_twoI ?_ ?_); next => omega) | with_reducible refine g_isNon ?_ | with_reducible refine g_andV ?_ | with_reducible refine g_revT ?_ | with_reducible refine g_itup ?_ | with_reducible refine g_methK0 ?_ | with_reducible refine g_methS ?_ | with_reducible refine g_errF ?_ | with_reducible refine g_prop ?_ | with_reducible refine g_con ?_ | with_reducible refine g_make ?_ | with_reducible refine g_fld ?_ | with_reducible refine g_sfld ?_ | with_reducible refine g_iftn ?_ | with_reducible refine g_iffn ?_ | with_reducible refine g_orV ?_ | with_reducible refine g_notV ?_ | with_reducible refine g_tB ?_ | with_reducible refine g_chain ?_ | with_reducible refine g_neg ?_ | with_reducible refine g_cval ?_ | with_reducible refine g_enumT ?_ | with_reducible refine g_proj ?_ | with_reducible refine g_andT ?_ | with_reducible refine g_orT ?_ | with_reducible refine g_notT ?_ | with_reducible refine g_sl ?_ | with_reducible refine g_part ?_ | with_reducible refine g_parI ?_ | with_reducible refine g_noPart ?_ | with_reducible refine g_pcons ?_ | with_reducible refine g_pnil ?_ | with_reducible refine g_list ?_ | with_reducible refine g_lc ?_ | with_reducible refine g_enum ?_ | with_reducible refine g_ift ?_ | with_reducible refine g_iff ?_ | with_reducible refine And.intro rfl ?_ | with_reducible refine g_notNon ?_)))
section
variable {X : Cx} {g : Addr} {cdg : Value} {q : Str} {MM ID DD WE : Addr} {k : Nat}
/-- an error that _law_told reads -/
def ETold (MM ID : Addr) (Q : VK) : XK := fun cls d H' => ∃ (dd : Addr) (x y : V), d = some dd ∧ ((cls = .ref MM ∧ H' dd = some (.xd [("part", x), ("spot", y)]) ∧ ∀ (p : Addr) (H2 : Hp), H' p = none → (∀ b o, H' b = some o → H2 b = some o) → H2 p = some (.tup [.str "Mismatch", x, y]) → Q (.ref p) H2) ∨
    (cls = .ref ID ∧ H' dd = some (.xd [("part", x), ("item", y)]) ∧ ∀ (p : Addr) (H2 : Hp), H' p = none → (∀ b o, H' b = some o → H2 b = some o) → H2 p = some (.tup [.str "InvalidDiary", x, y]) → Q (.ref p) H2))
/-- what _law_told gives of a deed -/
def TTold (MM ID : Addr) : (XK → Hp → VK → Prop) → Hp → VK → Prop := fun tl H Q => ∀ H0, (∀ b o, H b = some o → H0 b = some o) → ∀ Q1 : VK, (∀ v H', (∀ (p : Addr) (H2 : Hp), H' p = none → (∀ b o, H' b = some o → H2 b = some o) → H2 p = some (.lst [v]) → Q (.ref p) H2) → Q1 v H') →
  tl (ETold MM ID Q) H0 Q1
theorem sc_told : FnScope ["deed", "error", "found", "e"] ["deed"] (defScope s_law_told) := ⟨rfl, rfl, rfl, by decide +kernel, rfl, by decide +kernel, by decide +kernel⟩
theorem told_gives (hr : Room (k + 2) X.A) (hm : X.mg "WeekdaylegsError" = some (.ref WE)) (e1 : PySem.W.exmOne X.K (.ref MM) (.ref WE) = some true) (e2 : PySem.W.exmOne X.K (.ref ID) (.ref WE) = some true) (hClass : Has X.prog X.w X.K X.mg X.base 1 "_law_class" ["error"] (spClass MM ID)) :
    LamX.GivesTo X ["deed", "error", "found", "e"] "_law_told" (defScope s_law_told) g cdg (defBody s_law_told) "deed" q (TTold MM ID) := by
  intro f c' s H Q tl act hc h
  have sc := sc_told
  have hr1 := fun e => hr.deeper e
  refine ⟨_, (pss_cons (ps_set (i := 1) sc.nd rfl (Or.inl rfl) pe_non)
    (pss_cons (ps_set (i := 2) sc.nd rfl (Or.inl rfl) (pe_lst pa_nil))
    (pss_cons (ps_try_kept (i := 3) (c := .ref WE) (tb := fun W D σ H => ∃ Ech : XK, (∀ cls d σ' H', Ech cls d H' → σ'.length = 4 → W cls d σ' H') ∧ tAsg (tLst (tCons (fun σZ HZ Q => σZ[0]? = some (some (.ref f)) ∧ HZ c' = some (LamX.CodeO c' q) ∧ tl Ech HZ Q) tNil)) (gName 2) D σ H) (ts := fun _ _ _ => tAsg (tVar 3) (gName 1)) rfl rfl rfl sc.nd rfl rfl ⟨rfl, by decide, Or.inl hm⟩
      (fun W pn xe tk _ => ?_) (fun a oe cls d pn hz hf => pss_one (ps_set (i := 1) sc.nd rfl (Or.inl rfl) (by exact (pv 3)))))
    (pss_one (ps_ret (pe_ifExp (pt_cmpR op_isN (pv 1) pe_non (nomark _)) (pv 2) (pe_has hClass (hr1 _) (by omega) (pa_cons (pv 1) pa_nil)))))))), ?_⟩
  · refine ⟨fun pins s' σ H' D I h' => ?_⟩
    obtain ⟨Ech, hW, h1⟩ := h'
    exact (pss_one (ps_set (i := 2) sc.nd rfl (Or.inl rfl) (pe_lst (pa_cons (act (fun cls d σ H => σ.length = 4 → W cls d σ H) pn xe Ech _ _ (takes_len tk) hW) pa_nil)))).run pins s' σ H' D I h1
  · walk_at "go"
    refine g_lst' ?_
    walk_at "go"
    refine ⟨sz (by simp), fun L nL => ?_⟩
    have sL := same_up (o := .lst []) nL (H := H) (fun _ _ h => h)
    have hcL := sL _ _ hc
    have h0 := h _ sL
    generalize upd H L (.lst []) = HL at sL hcL h0 ⊢
    walk_at "go"
    refine ⟨ETold MM ID Q, fun cls d σ' H' hE hlen => ?_, ?_⟩
    rotate_left
    · refine g_asgN ?_
      refine g_lst' ?_
      walk_at "go"
      refine ⟨hcL, h0 _ fun v H' hq => ?_⟩
      walk_at "go"
      refine ⟨sz (by simp), fun p np => ?_⟩
      walk_at "go"
      refine g_ift ?_
      walk_at "go"
      exact hq p _ np (same_up np fun _ _ h => h) upd_same
    · obtain ⟨dd, x, y, rfl, hcase⟩ := hE
      obtain ⟨v0, v1, v2, v3, rfl⟩ : ∃ v0 v1 v2 v3, σ' = [v0, v1, v2, v3] := by
        match σ', hlen with
        | [v0, v1, v2, v3], _ => exact ⟨v0, v1, v2, v3, rfl⟩
      rcases hcase with ⟨rfl, hd, hq⟩ | ⟨rfl, hd, hq⟩
      · refine ⟨e1, fun a na => ?_⟩
        walk_at "go"
        intro na2
        have nad : dd ≠ a := ne_of_none hd na
        have s2 := same_up (o := Err a (.ref MM) (some dd)) na (H := H') (fun _ _ h => h)
        walk_at "go"
        refine g_iff ?_
        walk_at "go"
        exact ⟨a, _, rfl, ⟨dd, x, y, Or.inl ⟨upd_same, by rw [upd_ne nad]; exact hd, rfl⟩⟩, fun p np => hq p _ (none_up np s2) (same_up np s2) upd_same⟩
      · refine ⟨e2, fun a na => ?_⟩
        walk_at "go"
        intro na2
        have nad : dd ≠ a := ne_of_none hd na
        have s2 := same_up (o := Err a (.ref ID) (some dd)) na (H := H') (fun _ _ h => h)
        walk_at "go"
        refine g_iff ?_
        walk_at "go"
        exact ⟨a, _, rfl, ⟨dd, x, y, Or.inr ⟨upd_same, by rw [upd_ne nad]; exact hd, rfl⟩⟩, fun p np => hq p _ (none_up np s2) (same_up np s2) upd_same⟩
end
end K56
set_option Elab.async false
set_option linter.all false
set_option maxRecDepth 100000
set_option maxHeartbeats 400000
namespace K56
open PySem PySem.Spec PyProof.Rows L2 WL
local macro_rules | `(tactic| walk_at "side") => `(tactic| first | (show (_ ∧ _) ∨ (_ ∧ _); omega) | (exact ⟨by omega, by omega⟩) | (show (0 : Int) < _; omega) | omega)
local macro_rules | `(tactic| walk_at "go") => `(tactic| (repeat (first
  | with_reducible refine g_seq ?_ | with_reducible refine g_asgN ?_ | with_reducible refine g_ret ?_ | with_reducible refine g_drop ?_ | with_reducible refine g_ifS ?_ | with_reducible refine g_next ?_
  | with_reducible refine g_var rfl ?_ | with_reducible refine g_c ?_ | with_reducible refine g_op ?_ | with_reducible refine g_un ?_ | with_reducible refine g_rI0 ?_ | ((with_reducible refine g_rI ?_ ?_); next => walk_at "side") | with_reducible refine g_test ?_ | with_reducible refine g_bl ?_
  | with_reducible refine g_nil ?_ | with_reducible refine g_cons ?_ | with_reducible refine g_call ?_ | with_reducible refine g_cb ?_ | with_reducible refine g_if ?_ | with_reducible refine g_par ?_ | with_reducible refine g_two ?_
  | with_reducible refine g_asg ?_ | with_reducible refine g_name ?_ | with_reducible refine g_sub ?_ | with_reducible refine g_yes ?_ | with_reducible refine g_gcons ?_ | with_reducible refine g_gnil ?_ | with_reducible refine g_dget ?_ | with_reducible refine g_dput ?_ | with_reducible refine g_rng1 ?_ | with_reducible refine g_rng2 ?_
  | ((with_reducible refine g_one ?_ ?_); next => omega) | ((with_reducible refine g_twoI ?_ ?_); next => omega) | with_reducible refine g_isNon ?_ | with_reducible refine g_andV ?_ | with_reducible refine g_revT ?_ | with_reducible refine g_itup ?_ | with_reducible refine g_methK0 ?_ | with_reducible refine g_methS ?_ | with_reducible refine g_errF ?_ | with_reducible refine g_prop ?_ | with_reducible refine g_con ?_ | with_reducible refine g_make ?_ | with_reducible refine g_fld ?_ | with_reducible refine g_sfld ?_ | with_reducible refine g_iftn ?_ | with_reducible refine g_iffn ?_ | with_reducible refine g_orV ?_ | with_reducible refine g_notV ?_ | with_reducible refine g_tB ?_ | with_reducible refine g_chain ?_ | with_reducible refine g_neg ?_ | with_reducible refine g_cval ?_ | with_reducible refine g_enumT ?_ | with_reducible refine g_andT ?_ | with_reducible refine g_orT ?_ | with_reducible refine g_notT ?_ | with_reducible refine g_sl ?_ | with_reducible refine g_part ?_ | with_reducible refine g_parI ?_ | with_reducible refine g_noPart ?_ | with_reducible refine g_pcons ?_ | with_reducible refine g_pnil ?_ | with_reducible refine g_list ?_ | with_reducible refine g_lc ?_ | with_reducible refine g_for ?_ | with_reducible refine g_enum ?_ | with_reducible refine g_ift ?_ | with_reducible refine g_iff ?_ | with_reducible refine And.intro rfl ?_ | with_reducible refine g_notNon ?_)))
local macro_rules | `(tactic| walk_at "ex") => `(tactic| (repeat (first
  | with_reducible refine g_seqAsg ?_ | with_reducible refine g_seqFld ?_ | with_reducible refine g_seqDrop ?_ | with_reducible refine g_seqPut ?_ | with_reducible refine g_seqPar ?_ | with_reducible refine g_asgN ?_ | with_reducible refine g_ret ?_ | with_reducible refine g_drop ?_ | with_reducible refine g_next ?_
  | with_reducible refine g_var rfl ?_ | with_reducible refine g_c ?_ | with_reducible refine g_op ?_ | with_reducible refine g_un ?_ | with_reducible refine g_rI0 ?_ | ((with_reducible refine g_rI ?_ ?_); next => walk_at "side") | with_reducible refine g_test ?_ | with_reducible refine g_bl ?_
  | with_reducible refine g_nil ?_ | with_reducible refine g_cons ?_ | with_reducible refine g_call ?_ | with_reducible refine g_cb ?_ | with_reducible refine g_if ?_ | with_reducible refine g_par ?_ | with_reducible refine g_two ?_
  | with_reducible refine g_asg ?_ | with_reducible refine g_name ?_ | with_reducible refine g_sub ?_ | with_reducible refine g_yes ?_ | with_reducible refine g_gcons ?_ | with_reducible refine g_gnil ?_ | with_reducible refine g_dget ?_ | with_reducible refine g_dput ?_ | with_reducible refine g_rng1 ?_ | with_reducible refine g_rng2 ?_
  | ((with_reducible refine g_one ?_ ?_); next => omega) | ((with_reducible refine g_twoI ?_ ?_); next => omega) | with_reducible refine g_isNon ?_ | with_reducible refine g_andV ?_ | with_reducible refine g_revT ?_ | with_reducible refine g_itup ?_ | with_reducible refine g_methK0 ?_ | with_reducible refine g_methS ?_ | with_reducible refine g_errF ?_ | with_reducible refine g_prop ?_ | with_reducible refine g_con ?_ | with_reducible refine g_make ?_ | with_reducible refine g_fld ?_ | with_reducible refine g_sfld ?_ | with_reducible refine g_iftn ?_ | with_reducible refine g_iffn ?_ | with_reducible refine g_orV ?_ | with_reducible refine g_notV ?_ | with_reducible refine g_tB ?_ | with_reducible refine g_chain ?_ | with_reducible refine g_neg ?_ | with_reducible refine g_cval ?_ | with_reducible refine g_enumT ?_ | with_reducible refine g_proj ?_ | with_reducible refine g_andT ?_ | with_reducible refine g_orT ?_ | with_reducible refine g_notT ?_ | with_reducible refine g_sl ?_ | with_reducible refine g_part ?_ | with_reducible refine g_parI ?_ | with_reducible refine g_noPart ?_ | with_reducible refine g_pcons ?_ | with_reducible refine g_pnil ?_ | with_reducible refine g_list ?_ | with_reducible refine g_lc ?_ | with_reducible refine g_enum ?_ | with_reducible refine g_ift ?_ | with_reducible refine g_iff ?_ | with_reducible refine And.intro rfl ?_ | with_reducible refine g_notNon ?_)))
section
/-- what is known of the def that calls a deed -/
structure ToldD (P : Program) (w : World) (K : PySem.W.Frag) (mg : Str → Option Value) (base : Heap) (MM ID : Addr) : Prop where
  fn : ∃ g fd, mg "_law_told" = some (.ref g) ∧ FnT K "_law_told" s_law_told g fd ∧ Binds K fd ["deed"] []
  cls : ∃ WE, mg "WeekdaylegsError" = some (.ref WE) ∧ PySem.W.exmOne K (.ref MM) (.ref WE) = some true ∧ PySem.W.exmOne K (.ref ID) (.ref WE) = some true
  cl : Has P w K mg base 1 "_law_class" ["error"] (spClass MM ID)
theorem pe_toldcall {X : Cx} {MM ID c p : Addr} {T : List (Addr × Str)} {k : Nat} {params : Arguments} {body : Expr} {scope : Scope} {t : XK → TE} {pp lpos pos : Pos} (V : ToldD X.prog X.w X.K X.mg X.base MM ID) (hg : Gl X "_law_told") (TB : LamX.TabB X.base X.mg c p) (hcode : X.env.code = .ref c) (hmT : (p, X.env.qual ++ "<lambda>") ∈ T) (hu : ∀ r ∈ T, r.1 = p → r.2 = X.env.qual ++ "<lambda>") (hr : Room (k + 2) X.A) (L : LamX.LamS X.env.scope scope) (hdef : defaultsOf params X.env = ([], []))
    (hbind : ∀ (q : Str) (cl : List (Str × Addr)) (pm cv ctv : Value), bindArgs (PySem.W.kla_fn "<lambda>" q params body scope cl pm cv ctv) ⟨[], []⟩ = pure [])
    (hbody : ∀ (A : Around) (outer : List Env) (s : Shared) (H : Hp) (E : XK) (f c' : Addr), Room k (A.deeper (LamX.lamEnv X scope s.heap.objs.size f c')) → PE (LamX.lamCx X A outer s H E scope f c') body (t E)) :
    PE X (.Call (.Name "_law_told" pp) [.Lambda params body scope lpos] [] pos) (LamX.tLam T (TTold MM ID) t) := by
  obtain ⟨g, fd, hm, F, hb⟩ := V.fn
  obtain ⟨WE, hw, e1, e2⟩ := V.cls
  obtain ⟨oc, od, dV, kV, dc, pm, an, cdv, ct, osl, rfl, lk, hcd, _, _⟩ := F.ex
  exact LamX.pe_lamcall (Ng := ["deed", "error", "found", "e"]) (a := "deed") hg hm F.kp lk hcd hb sc_told rfl (Or.inl rfl) (told_gives hr hw e1 e2 V.cl) TB hcode hmT hu hr L hdef hbind hbody
theorem pe_joinL {X : Cx} {A : Around} {outer : List Env} {s : Shared} {H : Hp} {E : XK} {scope : Scope} {f c' : Addr} {k j : Nat} {sp : Sp} {e : Expr} {es : List Expr} {t : TA} {p pos : Pos} (F : HasR X.prog X.w X.K X.mg X.base (L2.CX X.prog X.w) k "joined" sp) (hr : Room j (LamX.lamCx X A outer s H E scope f c').A) (le : k ≤ j) (ha : PA (LamX.lamCx X A outer s H E scope f c') (e :: es) t) (gl : Gl (LamX.lamCx X A outer s H E scope f c') "joined" := by rfl)
    (h1 : starEach (e :: es) (LamX.lamCx X A outer s H E scope f c').env = (false, eval e (LamX.lamCx X A outer s H E scope f c').env) :: starEach es (LamX.lamCx X A outer s H E scope f c').env := by rfl) (h2 : (backTo pos (starEach es (LamX.lamCx X A outer s H E scope f c').env)).any (·.1) = false := by rfl) : PE (LamX.lamCx X A outer s H E scope f c') (.Call (.Name "joined" p) (e :: es) [] pos) (tCallR sp E t) :=
  pe_hasR (X := LamX.lamCx X A outer s H E scope f c') (E := E) F hr le (passLam (X := X)) ha gl (by decide) h1 h2
end
section
variable {K : PySem.W.Frag} {DC MM ID : Addr} {c1 c2 : Int} {n1 n2 : List (Option Int)} {l1 l2 : List (Int × Int × Int)} {ss : List Sh} {H : Hp} {Q : VK} {E : XK}
theorem pairSh_inj {p q : Nat × Nat} (h : pairSh p = pairSh q) : p = q := by
  unfold pairSh at h
  simp only [Sh.tup.injEq, List.cons.injEq, Sh.int.injEq, and_true] at h
  obtain ⟨a, b⟩ := h
  exact Prod.ext (Int.ofNat_inj.mp a) (Int.ofNat_inj.mp b)
theorem pairs_inj : ∀ {ps qs : List (Nat × Nat)}, ps.map pairSh = qs.map pairSh → ps = qs
  | [], [], _ => rfl
  | [], q :: qs, h => by cases h
  | p :: ps, [], h => by cases h
  | p :: ps, q :: qs, h => by
    rw [List.map_cons, List.map_cons, List.cons.injEq] at h
    rw [pairSh_inj h.1, pairs_inj h.2]
theorem joinq_mod (hc : c1 ≠ c2) (q : ∀ d H1, (∀ b o, H b = some o → H1 b = some o) → H1 d = none → E (.ref MM) (some d) (upd H1 d (.xd [("part", .str "modulus"), ("spot", .non)]))) : JoinQ DC MM ID c1 c2 n1 n2 l1 l2 ss H Q E :=
  ⟨fun _ => q, fun e => absurd e hc, fun e => absurd e hc⟩
theorem joinq_pair {i : Nat} (hb : badAt n1.length n2.length [] ss = some i) (q : ∀ d H1, (∀ b o, H b = some o → H1 b = some o) → H1 d = none → E (.ref MM) (some d) (upd H1 d (.xd [("part", .str "pair"), ("spot", .int (i : Nat))]))) : JoinQ DC MM ID c1 c1 n1 n2 l1 l2 ss H Q E :=
  ⟨fun e => absurd rfl e, fun _ j hj => (by rw [hb] at hj; cases hj; exact q), fun _ hn => (by rw [hb] at hn; cases hn)⟩
theorem joinq_clash {ps : List (Nat × Nat)} {i : Nat} (hs : ss = ps.map pairSh) (hb : badAt n1.length n2.length [] ss = none) (hi : i < ps.length) (hno : ∀ (j : Nat) (h : j < ps.length), j < i → clash n1 n2 ps[j] = false) (hcl : clash n1 n2 ps[i] = true) (q : ∀ d H1, (∀ b o, H b = some o → H1 b = some o) → H1 d = none → E (.ref MM) (some d) (upd H1 d (.xd [("part", .str "weekday"), ("spot", .int (i : Nat))]))) : JoinQ DC MM ID c1 c1 n1 n2 l1 l2 ss H Q E := by
  refine ⟨fun e => absurd rfl e, fun _ j hj => (by rw [hb] at hj; cases hj), fun _ _ qs hq _ => ?_⟩
  have e : qs = ps := pairs_inj (by rw [← hq, hs])
  subst e
  refine ⟨fun k hk no cl => ?_, fun all => ?_⟩
  · have ek : k = i := by
      rcases Nat.lt_trichotomy k i with z | z | z
      · rw [hno k hk z] at cl; cases cl
      · exact z
      · rw [no i hi z] at hcl; cases hcl
    subst ek
    exact q
  · rw [all _ (List.getElem_mem hi)] at hcl
    cases hcl
theorem joinq_fine {ps : List (Nat × Nat)} (hs : ss = ps.map pairSh) (hb : badAt n1.length n2.length [] ss = none) (hno : ∀ p ∈ ps, clash n1 n2 p = false)
    (q : (16 < n1.length + (n2.length - ps.length) → ∀ d H1, (∀ b o, H b = some o → H1 b = some o) → H1 d = none → E (.ref ID) (some d) (upd H1 d (.xd [("part", .str "weekdays"), ("item", .non)]))) ∧
      (n1.length + (n2.length - ps.length) ≤ 16 → 60 < l1.length + l2.length → ∀ d H1, (∀ b o, H b = some o → H1 b = some o) → H1 d = none → E (.ref ID) (some d) (upd H1 d (.xd [("part", .str "bounds"), ("item", .non)]))) ∧
      (n1.length + (n2.length - ps.length) ≤ 16 → l1.length + l2.length ≤ 60 → ∀ (x : Addr) (H' : Hp), H x = none → DiaAt DC H' (.ref x) c1 (joinN ps n1 n2) (l1 ++ jlines ps n1.length l2) → (∀ b o, H b = some o → H' b = some o) → Q (.ref x) H')) : JoinQ DC MM ID c1 c1 n1 n2 l1 l2 ss H Q E := by
  refine ⟨fun e => absurd rfl e, fun _ j hj => (by rw [hb] at hj; cases hj), fun _ _ qs hq _ => ?_⟩
  have e : qs = ps := pairs_inj (by rw [← hq, hs])
  subst e
  refine ⟨fun k hk no cl => ?_, fun _ => q⟩
  rw [hno _ (List.getElem_mem hk)] at cl
  cases cl
end
end K56
set_option Elab.async false
set_option linter.all false
set_option maxRecDepth 100000
set_option maxHeartbeats 400000
namespace K56
open PySem PySem.Spec PyProof.Rows L2 WL
local macro_rules | `(tactic| walk_at "side") => `(tactic| first | (show (_ ∧ _) ∨ (_ ∧ _); omega) | (exact ⟨by omega, by omega⟩) | (show (0 : Int) < _; omega) | omega)
local macro_rules | `(tactic| walk_at "go") => `(tactic| (repeat (first
  | with_reducible refine g_seq ?_ | with_reducible refine g_asgN ?_ | with_reducible refine g_ret ?_ | with_reducible refine g_drop ?_ | with_reducible refine g_ifS ?_ | with_reducible refine g_next ?_
  | with_reducible refine g_var rfl ?_ | with_reducible refine g_c ?_ | with_reducible refine g_op ?_ | with_reducible refine g_un ?_ | with_reducible refine g_rI0 ?_ | ((with_reducible refine g_rI ?_ ?_); next => walk_at "side") | with_reducible refine g_test ?_ | with_reducible refine g_bl ?_
  | with_reducible refine g_nil ?_ | with_reducible refine g_cons ?_ | with_reducible refine g_call ?_ | with_reducible refine g_cb ?_ | with_reducible refine g_if ?_ | with_reducible refine g_par ?_ | with_reducible refine g_two ?_
  | with_reducible refine g_asg ?_ | with_reducible refine g_name ?_ | with_reducible refine g_sub ?_ | with_reducible refine g_yes ?_ | with_reducible refine g_gcons ?_ | with_reducible refine g_gnil ?_ | with_reducible refine g_dget ?_ | with_reducible refine g_dput ?_ | with_reducible refine g_rng1 ?_ | with_reducible refine g_rng2 ?_
  | ((with_reducible refine g_one ?_ ?_); next => omega) | ((with_reducible refine g_twoI ?_ ?_); next => omega) | with_reducible refine g_isNon ?_ | with_reducible refine g_andV ?_ | with_reducible refine g_revT ?_ | with_reducible refine g_itup ?_ | with_reducible refine g_methK0 ?_ | with_reducible refine g_methS ?_ | with_reducible refine g_errF ?_ | with_reducible refine g_prop ?_ | with_reducible refine g_con ?_ | with_reducible refine g_make ?_ | with_reducible refine g_fld ?_ | with_reducible refine g_sfld ?_ | with_reducible refine g_iftn ?_ | with_reducible refine g_iffn ?_ | with_reducible refine g_orV ?_ | with_reducible refine g_notV ?_ | with_reducible refine g_tB ?_ | with_reducible refine g_chain ?_ | with_reducible refine g_neg ?_ | with_reducible refine g_cval ?_ | with_reducible refine g_enumT ?_ | with_reducible refine g_andT ?_ | with_reducible refine g_orT ?_ | with_reducible refine g_notT ?_ | with_reducible refine g_sl ?_ | with_reducible refine g_part ?_ | with_reducible refine g_parI ?_ | with_reducible refine g_noPart ?_ | with_reducible refine g_pcons ?_ | with_reducible refine g_pnil ?_ | with_reducible refine g_list ?_ | with_reducible refine g_lc ?_ | with_reducible refine g_for ?_ | with_reducible refine g_enum ?_ | with_reducible refine g_ift ?_ | with_reducible refine g_iff ?_ | with_reducible refine And.intro rfl ?_ | with_reducible refine g_notNon ?_)))
local macro_rules | `(tactic| walk_at "ex") => `(tactic| (repeat (first
  | with_reducible refine g_seqAsg ?_ | with_reducible refine g_seqFld ?_ | with_reducible refine g_seqDrop ?_ | with_reducible refine g_seqPut ?_ | with_reducible refine g_seqPar ?_ | with_reducible refine g_asgN ?_ | with_reducible refine g_ret ?_ | with_reducible refine g_drop ?_ | with_reducible refine g_next ?_
  | with_reducible refine g_var rfl ?_ | with_reducible refine g_c ?_ | with_reducible refine g_op ?_ | with_reducible refine g_un ?_ | with_reducible refine g_rI0 ?_ | ((with_reducible refine g_rI ?_ ?_); next => walk_at "side") | with_reducible refine g_test ?_ | with_reducible refine g_bl ?_
  | with_reducible refine g_nil ?_ | with_reducible refine g_cons ?_ | with_reducible refine g_call ?_ | with_reducible refine g_cb ?_ | with_reducible refine g_if ?_ | with_reducible refine g_par ?_ | with_reducible refine g_two ?_
  | with_reducible refine g_asg ?_ | with_reducible refine g_name ?_ | with_reducible refine g_sub ?_ | with_reducible refine g_yes ?_ | with_reducible refine g_gcons ?_ | with_reducible refine g_gnil ?_ | with_reducible refine g_dget ?_ | with_reducible refine g_dput ?_ | with_reducible refine g_rng1 ?_ | with_reducible refine g_rng2 ?_
  | ((with_reducible refine g_one ?_ ?_); next => omega) | ((with_reducible refine g_twoI ?_ ?_); next => omega) | with_reducible refine g_isNon ?_ | with_reducible refine g_andV ?_ | with_reducible refine g_revT ?_ | with_reducible refine g_itup ?_ | with_reducible refine g_methK0 ?_ | with_reducible refine g_methS ?_ | with_reducible refine g_errF ?_ | with_reducible refine g_prop ?_ | with_reducible refine g_con ?_ | with_reducible refine g_make ?_ | with_reducible refine g_fld ?_ | with_reducible refine g_sfld ?_ | with_reducible refine g_iftn ?_ | with_reducible refine g_iffn ?_ | with_reducible refine g_orV ?_ | with_reducible refine g_notV ?_ | with_reducible refine g_tB ?_ | with_reducible refine g_chain ?_ | with_reducible refine g_neg ?_ | with_reducible refine g_cval ?_ | with_reducible refine g_enumT ?_ | with_reducible refine g_proj ?_ | with_reducible refine g_andT ?_ | with_reducible refine g_orT ?_ | with_reducible refine g_notT ?_ | with_reducible refine g_sl ?_ | with_reducible refine g_part ?_ | with_reducible refine g_parI ?_ | with_reducible refine g_noPart ?_ | with_reducible refine g_pcons ?_ | with_reducible refine g_pnil ?_ | with_reducible refine g_list ?_ | with_reducible refine g_lc ?_ | with_reducible refine g_enum ?_ | with_reducible refine g_ift ?_ | with_reducible refine g_iff ?_ | with_reducible refine And.intro rfl ?_ | with_reducible refine g_notNon ?_)))
section
variable {P : Program} {w : World} {K : PySem.W.Frag} {mg : Str → Option Value} {base : Heap} {f : Addr} {fd : FuncData} {DC IE ID MM : Addr}
theorem dok_long {b : Int} (h : 2 ≤ b ∧ b ≤ 100) {n : Nat} (hn : n ≤ 15) {m : Nat} {k : Int} (hk : -1000 ≤ k ∧ k ≤ 1000) (o : Option Int) (ho : ∀ i, o = some i → 0 ≤ i ∧ i < b) : DOK b (o :: List.replicate n none) (List.replicate m (0, 0, k)) 1000 := by
  refine ⟨h.1, h.2, by simp, by simp; omega, fun i hi => ?_, fun l hl => ?_⟩
  · rcases List.mem_cons.mp hi with e | e
    · exact ho i e.symm
    · exact absurd (List.eq_of_mem_replicate e) (by simp)
  · rw [List.eq_of_mem_replicate hl]
    exact ⟨⟨by show (0 : Int) ≤ 0; decide, by simp⟩, ⟨by show (0 : Int) ≤ 0; decide, by simp⟩, hk.1, hk.2⟩
theorem lines_rep {H : Hp} {t p : Addr} {k : Int} {m : Nat} (h : H t = some (.tup [.int 0, .int 0, .int k])) (hp : H p = some (.tup (List.replicate m (V.ref t)))) : Fz H (.ref p) (linesD (List.replicate m (0, 0, k))) := by
  refine .tup hp ?_
  rw [List.map_replicate]
  exact WL.fzs_rep (fz_line h) m
theorem flat_rep {α : Type} (x : α) : ∀ n : Nat, (List.replicate n [x]).flatten = List.replicate n x
  | 0 => rfl
  | n + 1 => by
    rw [List.replicate_succ, List.flatten_cons, flat_rep x n, List.replicate_succ]
    rfl
def spFirst (TT : List (Addr × Str)) : Sp := fun vs H Q _ => ∃ b : Int, vs = [.int b] ∧ (2 ≤ b ∧ b ≤ 100) ∧ LamX.Tabs TT H ∧ ∀ H', LamX.ExtN H H' → LamX.Tabs TT H' → Q (.bl true) H'
theorem sc_first : FnScope ["base", "near", "far"] ["base"] (defScope s_law_first_right) := ⟨rfl, rfl, rfl, by decide +kernel, rfl, by decide +kernel, by decide +kernel⟩
theorem ok_first {TT : List (Addr × Str)} {c p : Addr} (hm : (p, (envOfC "_law_first_right" (defScope s_law_first_right) 0 0 .none).qual ++ "<lambda>") ∈ TT) (hu2 : ∀ r ∈ TT, r.1 = p → r.2 = (envOfC "_law_first_right" (defScope s_law_first_right) 0 0 .none).qual ++ "<lambda>") (F : FnT K "_law_first_right" s_law_first_right f fd) (ht : tabA K f = some (c, p)) (tb : LamX.TabB base mg c p) (T : Blt mg) (D : DiaF P w K mg base DC IE) (Td : ToldD P w K mg base MM ID) (hJoin : HasR P w K mg base (L2.CX P w) 9 "joined" (spJoinX K DC MM ID)) : GOk P w K mg base 12 f fd ["base"] (spFirst TT) := by
  refine gok_bodyC F ht sc_first (fun vs H Q E h => ?_) (fun A outer s H vs Q E hg hr h => ?_)
  · obtain ⟨b, rfl, _⟩ := h
    rfl
  · obtain ⟨b, rfl, hb, tabs, q⟩ := h
    have sc := sc_first
    have hu := hr.units
    refine ⟨_, (pss_cons (ps_set (i := 1) sc.nd rfl (Or.inr rfl) (pe_mkD D hr (by decide) (pa_cons (pv 0) (pa_cons (pe_op op_catA (pe_tup (pa_cons pe_int pa_nil)) (pe_op op_repT (pe_tup (pa_cons pe_non pa_nil)) pe_int)) (pa_cons (pe_op op_repT (pe_tup (pa_cons (pe_tup (pa_cons pe_int (pa_cons pe_int (pa_cons pe_int pa_nil)))) pa_nil)) pe_int) pa_nil)))))
      (pss_cons (ps_set (i := 2) sc.nd rfl (Or.inr rfl) (pe_mkD D hr (by decide) (pa_cons (pv 0) (pa_cons (pe_tup (pa_cons pe_int (pa_cons pe_non (pa_cons pe_non pa_nil)))) (pa_cons (pe_op op_repT (pe_tup (pa_cons (pe_tup (pa_cons pe_int (pa_cons pe_int (pa_cons pe_int pa_nil)))) pa_nil)) pe_int) pa_nil)))))
      (pss_cons (ps_if (pt_cmpR (op_neD hu) (pe_toldcall (T := TT) (k := 9) (t := fun E => tCallR (spJoinX K DC MM ID) E (tCons (tVar 1) (tCons (tVar 2) (tCons (tTup (tCons (tC (.int 0)) (tCons (tC (.int 0)) tNil))) tNil)))) Td (by rfl) tb rfl hm hu2 hr (LamX.lamS_by (by rfl)) rfl (fun _ _ _ _ _ => rfl) (fun A outer s H E f c' hr' => by exact (pe_joinL hJoin hr' (by decide) (by exact (pa_cons (pv 1) (pa_cons (pv 2) (pa_cons (pe_tup (pa_cons pe_int (pa_cons pe_int pa_nil))) pa_nil))))))) (pe_tup (pa_cons pe_str (pa_cons pe_str (pa_cons pe_int pa_nil)))) (nomark _))
        (pss_one (ps_ret pe_bl))
        pss_nil)
      (pss_one (ps_ret (pe_cmpR (op_eqD hu) (pe_toldcall (T := TT) (k := 9) (t := fun E => tCallR (spJoinX K DC MM ID) E (tCons (tVar 1) (tCons (tVar 2) (tCons (tTup (tCons (tC (.int 1)) (tCons (tC (.int 1)) tNil))) tNil)))) Td (by rfl) tb rfl hm hu2 hr (LamX.lamS_by (by rfl)) rfl (fun _ _ _ _ _ => rfl) (fun A outer s H E f c' hr' => by exact (pe_joinL hJoin hr' (by decide) (by exact (pa_cons (pv 1) (pa_cons (pv 2) (pa_cons (pe_tup (pa_cons pe_int (pa_cons pe_int pa_nil))) pa_nil))))))) (pe_tup (pa_cons pe_str (pa_cons pe_str (pa_cons pe_non pa_nil)))) (nomark _))))))), ?_⟩
    walk_at "go"
    refine g_tup' ?_
    walk_at "go"
    refine ⟨sz (by simp), fun p1 np1 => ?_⟩
    have s1 := same_up (o := .tup [.int 0]) np1 (H := H) (fun _ _ h => h)
    have h1 : upd H p1 (.tup [.int 0]) p1 = some (.tup [.int 0]) := upd_same
    generalize upd H p1 (.tup [.int 0]) = H1 at s1 h1 ⊢
    walk_at "go"
    refine g_tup' ?_
    walk_at "go"
    refine ⟨sz (by simp), fun p2 np2 => ?_⟩
    have s2 := same_up (o := .tup [.non]) np2 s1
    have h12 := kp (o' := .tup [.non]) np2 h1
    have h2 : upd H1 p2 (.tup [.non]) p2 = some (.tup [.non]) := upd_same
    generalize upd H1 p2 (.tup [.non]) = H2 at s2 h12 h2 ⊢
    walk_at "go"
    refine g_repT (K := K) (SqT.of h2) (by simp) (by decide) (by decide) (by simp) fun p3 np3 => ?_
    rw [flat_rep]
    have s3 := same_up (o := .tup (List.replicate (15 : Int).toNat V.non)) np3 s2
    have h13 := kp (o' := .tup (List.replicate (15 : Int).toNat V.non)) np3 h12
    have h3 : upd H2 p3 (.tup (List.replicate (15 : Int).toNat V.non)) p3 = some (.tup (List.replicate 15 V.non)) := upd_same
    generalize upd H2 p3 (.tup (List.replicate (15 : Int).toNat V.non)) = H3 at s3 h13 h3 ⊢
    walk_at "go"
    refine g_catA (K := K) h13 h3 (by simp) fun pw H4 nt4 h4 => ?_
    have s4 : ∀ b o, H b = some o → H4 b = some o := fun b o h => nt4.same _ _ (s3 _ _ h)
    walk_at "go"
    refine g_tup' ?_
    walk_at "go"
    refine g_tup' ?_
    walk_at "go"
    refine ⟨sz (by simp), fun p5 np5 => ?_⟩
    have s5 := same_up (o := .tup [.int 0, .int 0, .int 1]) np5 s4
    have h45 := kp (o' := .tup [.int 0, .int 0, .int 1]) np5 h4
    have h5 : upd H4 p5 (.tup [.int 0, .int 0, .int 1]) p5 = some (.tup [.int 0, .int 0, .int 1]) := upd_same
    generalize upd H4 p5 (.tup [.int 0, .int 0, .int 1]) = H5 at s5 h45 h5 ⊢
    walk_at "go"
    refine ⟨sz (by simp), fun p6 np6 => ?_⟩
    have s6 := same_up (o := .tup [.ref p5]) np6 s5
    have h46 := kp (o' := .tup [.ref p5]) np6 h45
    have h56 := kp (o' := .tup [.ref p5]) np6 h5
    have h6 : upd H5 p6 (.tup [.ref p5]) p6 = some (.tup [.ref p5]) := upd_same
    generalize upd H5 p6 (.tup [.ref p5]) = H6 at s6 h46 h56 h6 ⊢
    walk_at "go"
    refine g_repT (K := K) (SqT.of h6) (by simp) (by decide) (by decide) (by simp) fun p7 np7 => ?_
    rw [flat_rep]
    have s7 := same_up (o := .tup (List.replicate (40 : Int).toNat (V.ref p5))) np7 s6
    have h47 := kp (o' := .tup (List.replicate (40 : Int).toNat (V.ref p5))) np7 h46
    have h57 := kp (o' := .tup (List.replicate (40 : Int).toNat (V.ref p5))) np7 h56
    have h7 : upd H6 p7 (.tup (List.replicate (40 : Int).toNat (V.ref p5))) p7 = some (.tup (List.replicate 40 (V.ref p5))) := upd_same
    generalize upd H6 p7 (.tup (List.replicate (40 : Int).toNat (V.ref p5))) = H7 at s7 h47 h57 h7 ⊢
    walk_at "go"
    have okA : DOK b (some 0 :: List.replicate 15 none) (List.replicate 40 (0, 0, 1)) 1000 := dok_long hb (by decide) (by decide) (some 0) (fun i e => by cases e; exact ⟨by decide, by omega⟩)
    have okB : DOK b (some 1 :: List.replicate 2 none) (List.replicate 40 (0, 0, 2)) 1000 := dok_long hb (by decide) (by decide) (some 1) (fun i e => by cases e; exact ⟨by decide, by omega⟩)
    refine g_makeD (fz_notes (ns := some 0 :: List.replicate 15 none) h47) (lines_rep (m := 40) h57 h7) okA (by decide) (by simp) fun x1 H8 nx1 dA s8' => ?_
    have s8 : ∀ b o, H b = some o → H8 b = some o := fun b o h => s8' _ _ (s7 _ _ h)
    walk_at "go"
    refine g_tup' ?_
    walk_at "go"
    refine ⟨sz (by simp), fun p9 np9 => ?_⟩
    have s9 := same_up (o := .tup [.int 1, .non, .non]) np9 s8
    have dA9 := dA.same (same_up (o := .tup [.int 1, .non, .non]) np9 fun _ _ h => h)
    have h9 : upd H8 p9 (.tup [.int 1, .non, .non]) p9 = some (.tup [.int 1, .non, .non]) := upd_same
    generalize upd H8 p9 (.tup [.int 1, .non, .non]) = H9 at s9 dA9 h9 ⊢
    walk_at "go"
    refine g_tup' ?_
    walk_at "go"
    refine g_tup' ?_
    walk_at "go"
    refine ⟨sz (by simp), fun q1 nq1 => ?_⟩
    have s10 := same_up (o := .tup [.int 0, .int 0, .int 2]) nq1 s9
    have dA10 := dA9.same (same_up (o := .tup [.int 0, .int 0, .int 2]) nq1 fun _ _ h => h)
    have h910 := kp (o' := .tup [.int 0, .int 0, .int 2]) nq1 h9
    have h10 : upd H9 q1 (.tup [.int 0, .int 0, .int 2]) q1 = some (.tup [.int 0, .int 0, .int 2]) := upd_same
    generalize upd H9 q1 (.tup [.int 0, .int 0, .int 2]) = H10 at s10 dA10 h910 h10 ⊢
    walk_at "go"
    refine ⟨sz (by simp), fun q2 nq2 => ?_⟩
    have s11 := same_up (o := .tup [.ref q1]) nq2 s10
    have dA11 := dA10.same (same_up (o := .tup [.ref q1]) nq2 fun _ _ h => h)
    have h911 := kp (o' := .tup [.ref q1]) nq2 h910
    have h1011 := kp (o' := .tup [.ref q1]) nq2 h10
    have h11 : upd H10 q2 (.tup [.ref q1]) q2 = some (.tup [.ref q1]) := upd_same
    generalize upd H10 q2 (.tup [.ref q1]) = H11 at s11 dA11 h911 h1011 h11 ⊢
    walk_at "go"
    refine g_repT (K := K) (SqT.of h11) (by simp) (by decide) (by decide) (by simp) fun q3 nq3 => ?_
    rw [flat_rep]
    have s12 := same_up (o := .tup (List.replicate (40 : Int).toNat (V.ref q1))) nq3 s11
    have dA12 := dA11.same (same_up (o := .tup (List.replicate (40 : Int).toNat (V.ref q1))) nq3 fun _ _ h => h)
    have h912 := kp (o' := .tup (List.replicate (40 : Int).toNat (V.ref q1))) nq3 h911
    have h1012 := kp (o' := .tup (List.replicate (40 : Int).toNat (V.ref q1))) nq3 h1011
    have h12 : upd H11 q3 (.tup (List.replicate (40 : Int).toNat (V.ref q1))) q3 = some (.tup (List.replicate 40 (V.ref q1))) := upd_same
    generalize upd H11 q3 (.tup (List.replicate (40 : Int).toNat (V.ref q1))) = H12 at s12 dA12 h912 h1012 h12 ⊢
    walk_at "go"
    refine g_makeD (fz_notes (ns := some 1 :: List.replicate 2 none) h912) (lines_rep (m := 40) h1012 h12) okB (by decide) (by simp) fun x2 H13 nx2 dB s13' => ?_
    have s13 : ∀ b o, H b = some o → H13 b = some o := fun b o h => s13' _ _ (s12 _ _ h)
    have dA13 := dA12.same s13'
    have t13 : LamX.Tabs TT H13 := tabs.ext s13
    have e13 : LamX.ExtN H H13 := LamX.ExtN.of s13
    walk_at "go"
    refine g_lam t13 fun H14 e14 t14 H15 s15 Q1 hQ1 => ?_
    have dA14 := dA13.keep (Tk.ext e14) (Ik.ext e14)
    have dB14 := dB.keep (Tk.ext e14) (Ik.ext e14)
    refine g_callR ?_
    walk_at "go"
    refine g_tup' ?_
    walk_at "go"
    refine ⟨sz (by simp), fun pt npt => ?_⟩
    have s16 := same_up (o := .tup [.int 0, .int 0]) npt s15
    have hpt : upd H15 pt (.tup [.int 0, .int 0]) pt = some (.tup [.int 0, .int 0]) := upd_same
    generalize upd H15 pt (.tup [.int 0, .int 0]) = H16 at s16 hpt ⊢
    walk_at "go"
    refine ⟨.ref x1, .ref x2, [.ref pt], [pairSh (0, 0)], b, b, 1000, _, _, _, _, rfl, dA14.same s16, dB14.same s16, .cons (.tup (SqT.of hpt) (.cons (.int _) (.cons (.int _) .nil))) .nil, by simp, fun i r pp h1 h2 => ?_, okA, okB, by simp, by simp, by decide, joinq_clash (ps := [(0, 0)]) (i := 0) rfl (by rfl) (by decide) (fun j h1 h2 => absurd h2 (Nat.not_lt_zero _)) (by rfl) fun d H17 s17 nd => ?_⟩
    · match i, h1, h2 with
      | 0, h1, h2 =>
        cases h1
        have e := pairSh_inj (Option.some.inj h2)
        subst e
        exact hpt
      | i + 1, h1, _ => simp at h1
    refine ⟨d, .str "weekday", .int 0, rfl, Or.inl ⟨rfl, upd_same, fun p' H18 np18 s18 h18 => ?_⟩⟩
    have s1418 : ∀ b o, H14 b = some o → H18 b = some o := fun b o h => s18 _ _ (same_up nd (fun b o h => s17 _ _ (s16 _ _ h)) _ _ h)
    have t18 := t14.ext s1418
    have e18 : LamX.ExtN H H18 := (e13.trans e14).trans (LamX.ExtN.of s1418)
    have dA18 := dA14.same s1418
    have dB18 := dB14.same s1418
    walk_at "go"
    refine g_tup' ?_
    walk_at "go"
    refine ⟨sz (by simp), fun p19 np19 => ?_⟩
    refine g_neD (K := K) (d := .tuple [.str "Mismatch", .str "weekday", .int 0]) (e := .tuple [.str "Mismatch", .str "weekday", .int 0]) (.tup (SqT.of (kp np19 h18)) (.cons (.str _) (.cons (.str _) (.cons (.int _) .nil)))) (.tup (SqT.of upd_same) (.cons (.str _) (.cons (.str _) (.cons (.int _) .nil)))) (by decide +kernel) (by decide +kernel) ?_
    rw [show (PyData.tuple [.str "Mismatch", .str "weekday", .int 0]).eqv (.tuple [.str "Mismatch", .str "weekday", .int 0]) = true by decide +kernel]
    have s19 := same_up (o := .tup [.str "Mismatch", .str "weekday", .int 0]) np19 (H := H18) (fun _ _ h => h)
    generalize upd H18 p19 (.tup [.str "Mismatch", .str "weekday", .int 0]) = H19 at s19 ⊢
    have t19 := t18.ext s19
    have e19 : LamX.ExtN H H19 := e18.trans (LamX.ExtN.of s19)
    walk_at "go"
    have dA19 := dA18.same s19
    have dB19 := dB18.same s19
    refine g_lam t19 fun H20 e20 t20 H21 s21 Q2 hQ2 => ?_
    have dA20 := dA19.keep (Tk.ext e20) (Ik.ext e20)
    have dB20 := dB19.keep (Tk.ext e20) (Ik.ext e20)
    refine g_callR ?_
    walk_at "go"
    refine g_tup' ?_
    walk_at "go"
    refine ⟨sz (by simp), fun pt npt => ?_⟩
    have s22 := same_up (o := .tup [.int 1, .int 1]) npt s21
    have hpt : upd H21 pt (.tup [.int 1, .int 1]) pt = some (.tup [.int 1, .int 1]) := upd_same
    generalize upd H21 pt (.tup [.int 1, .int 1]) = H22 at s22 hpt ⊢
    walk_at "go"
    refine ⟨.ref x1, .ref x2, [.ref pt], [pairSh (1, 1)], b, b, 1000, _, _, _, _, rfl, dA20.same s22, dB20.same s22, .cons (.tup (SqT.of hpt) (.cons (.int _) (.cons (.int _) .nil))) .nil, by simp, fun i r pp h1 h2 => ?_, okA, okB, by simp, by simp, by decide, joinq_fine (ps := [(1, 1)]) rfl (by rfl) (fun pp hp => by rw [List.mem_singleton.mp hp]; rfl) ⟨fun _ d H23 s23 nd => ?_, fun h => absurd h (by decide), fun h => absurd h (by decide)⟩⟩
    · match i, h1, h2 with
      | 0, h1, h2 =>
        cases h1
        have e := pairSh_inj (Option.some.inj h2)
        subst e
        exact hpt
      | i + 1, h1, _ => simp at h1
    refine ⟨d, .str "weekdays", .non, rfl, Or.inr ⟨rfl, upd_same, fun p' H24 np24 s24 h24 => ?_⟩⟩
    have s2024 : ∀ b o, H20 b = some o → H24 b = some o := fun b o h => s24 _ _ (same_up nd (fun b o h => s23 _ _ (s22 _ _ h)) _ _ h)
    walk_at "go"
    refine g_tup' ?_
    walk_at "go"
    refine ⟨sz (by simp), fun p25 np25 => ?_⟩
    refine g_eqD (K := K) (d := .tuple [.str "InvalidDiary", .str "weekdays", .none]) (e := .tuple [.str "InvalidDiary", .str "weekdays", .none]) (.tup (SqT.of (kp np25 h24)) (.cons (.str _) (.cons (.str _) (.cons .non .nil)))) (.tup (SqT.of upd_same) (.cons (.str _) (.cons (.str _) (.cons .non .nil)))) (by decide +kernel) (by decide +kernel) ?_
    rw [show (PyData.tuple [.str "InvalidDiary", .str "weekdays", .none]).eqv (.tuple [.str "InvalidDiary", .str "weekdays", .none]) = true by decide +kernel]
    have s25 := same_up (o := .tup [.str "InvalidDiary", .str "weekdays", .non]) np25 s2024
    exact q _ ((e19.trans e20).trans (LamX.ExtN.of s25)) (t20.ext s25)
end
end K56
set_option Elab.async false
set_option linter.all false
set_option maxRecDepth 100000
set_option maxHeartbeats 400000
namespace K56
open PySem PySem.Spec PyProof.Rows L2 WL
local macro_rules | `(tactic| walk_at "side") => `(tactic| first | (show (_ ∧ _) ∨ (_ ∧ _); omega) | (exact ⟨by omega, by omega⟩) | (show (0 : Int) < _; omega) | omega)
local macro_rules | `(tactic| walk_at "go") => `(tactic| (repeat (first
  | with_reducible refine g_seq ?_ | with_reducible refine g_asgN ?_ | with_reducible refine g_ret ?_ | with_reducible refine g_drop ?_ | with_reducible refine g_ifS ?_ | with_reducible refine g_next ?_
  | with_reducible refine g_var rfl ?_ | with_reducible refine g_c ?_ | with_reducible refine g_op ?_ | with_reducible refine g_un ?_ | with_reducible refine g_rI0 ?_ | ((with_reducible refine g_rI ?_ ?_); next => walk_at "side") | with_reducible refine g_test ?_ | with_reducible refine g_bl ?_
  | with_reducible refine g_nil ?_ | with_reducible refine g_cons ?_ | with_reducible refine g_call ?_ | with_reducible refine g_cb ?_ | with_reducible refine g_if ?_ | with_reducible refine g_par ?_ | with_reducible refine g_two ?_
  | with_reducible refine g_asg ?_ | with_reducible refine g_name ?_ | with_reducible refine g_sub ?_ | with_reducible refine g_yes ?_ | with_reducible refine g_gcons ?_ | with_reducible refine g_gnil ?_ | with_reducible refine g_dget ?_ | with_reducible refine g_dput ?_ | with_reducible refine g_rng1 ?_ | with_reducible refine g_rng2 ?_
  | ((with_reducible refine g_one ?_ ?_); next => omega) | ((with_reducible refine g_twoI ?_ ?_); next => omega) | with_reducible refine g_isNon ?_ | with_reducible refine g_andV ?_ | with_reducible refine g_revT ?_ | with_reducible refine g_itup ?_ | with_reducible refine g_methK0 ?_ | with_reducible refine g_methS ?_ | with_reducible refine g_errF ?_ | with_reducible refine g_prop ?_ | with_reducible refine g_con ?_ | with_reducible refine g_make ?_ | with_reducible refine g_fld ?_ | with_reducible refine g_sfld ?_ | with_reducible refine g_iftn ?_ | with_reducible refine g_iffn ?_ | with_reducible refine g_orV ?_ | with_reducible refine g_notV ?_ | with_reducible refine g_tB ?_ | with_reducible refine g_chain ?_ | with_reducible refine g_neg ?_ | with_reducible refine g_cval ?_ | with_reducible refine g_enumT ?_ | with_reducible refine g_andT ?_ | with_reducible refine g_orT ?_ | with_reducible refine g_notT ?_ | with_reducible refine g_sl ?_ | with_reducible refine g_part ?_ | with_reducible refine g_parI ?_ | with_reducible refine g_noPart ?_ | with_reducible refine g_pcons ?_ | with_reducible refine g_pnil ?_ | with_reducible refine g_list ?_ | with_reducible refine g_lc ?_ | with_reducible refine g_for ?_ | with_reducible refine g_enum ?_ | with_reducible refine g_ift ?_ | with_reducible refine g_iff ?_ | with_reducible refine And.intro rfl ?_ | with_reducible refine g_notNon ?_)))
local macro_rules | `(tactic| walk_at "ex") => `(tactic| (repeat (first
  | with_reducible refine g_seqAsg ?_ | with_reducible refine g_seqFld ?_ | with_reducible refine g_seqDrop ?_ | with_reducible refine g_seqPut ?_ | with_reducible refine g_seqPar ?_ | with_reducible refine g_asgN ?_ | with_reducible refine g_ret ?_ | with_reducible refine g_drop ?_ | with_reducible refine g_next ?_
  | with_reducible refine g_var rfl ?_ | with_reducible refine g_c ?_ | with_reducible refine g_op ?_ | with_reducible refine g_un ?_ | with_reducible refine g_rI0 ?_ | ((with_reducible refine g_rI ?_ ?_); next => walk_at "side") | with_reducible refine g_test ?_ | with_reducible refine g_bl ?_
  | with_reducible refine g_nil ?_ | with_reducible refine g_cons ?_ | with_reducible refine g_call ?_ | with_reducible refine g_cb ?_ | with_reducible refine g_if ?_ | with_reducible refine g_par ?_ | with_reducible refine g_two ?_
  | with_reducible refine g_asg ?_ | with_reducible refine g_name ?_ | with_reducible refine g_sub ?_ | with_reducible refine g_yes ?_ | with_reducible refine g_gcons ?_ | with_reducible refine g_gnil ?_ | with_reducible refine g_dget ?_ | with_reducible refine g_dput ?_ | with_reducible refine g_rng1 ?_ | with_reducible refine g_rng2 ?_
  | ((with_reducible refine g_one ?_ ?_); next => omega) | ((with_reducible refine g_twoI ?_ ?_); next => omega) | with_reducible refine g_isNon ?_ | with_reducible refine g_andV ?_ | with_reducible refine g_revT ?_ | with_reducible refine g_itup ?_ | with_reducible refine g_methK0 ?_ | with_reducible refine g_methS ?_ | with_reducible refine g_errF ?_ | with_reducible refine g_prop ?_ | with_reducible refine g_con ?_ | with_reducible refine g_make ?_ | with_reducible refine g_fld ?_ | with_reducible refine g_sfld ?_ | with_reducible refine g_iftn ?_ | with_reducible refine g_iffn ?_ | with_reducible refine g_orV ?_ | with_reducible refine g_notV ?_ | with_reducible refine g_tB ?_ | with_reducible refine g_chain ?_ | with_reducible refine g_neg ?_ | with_reducible refine g_cval ?_ | with_reducible refine g_enumT ?_ | with_reducible refine g_proj ?_ | with_reducible refine g_andT ?_ | with_reducible refine g_orT ?_ | with_reducible refine g_notT ?_ | with_reducible refine g_sl ?_ | with_reducible refine g_part ?_ | with_reducible refine g_parI ?_ | with_reducible refine g_noPart ?_ | with_reducible refine g_pcons ?_ | with_reducible refine g_pnil ?_ | with_reducible refine g_list ?_ | with_reducible refine g_lc ?_ | with_reducible refine g_enum ?_ | with_reducible refine g_ift ?_ | with_reducible refine g_iff ?_ | with_reducible refine And.intro rfl ?_ | with_reducible refine g_notNon ?_)))
section
variable {P : Program} {w : World} {K : PySem.W.Frag} {mg : Str → Option Value} {base : Heap} {f : Addr} {fd : FuncData} {DC IE ID MM : Addr}
def triD (ps : List (Nat × Nat)) (due : PyData) : PyData := .tuple [.tuple (ps.map WL.pairD), due]
theorem isi_lst (K : PySem.W.Frag) : PySem.W.kitOne K (.type Sh.lst.ty) (.type "list") = some true := rfl
theorem dok_none {b : Int} (h : 2 ≤ b ∧ b ≤ 100) {n : Nat} (h1 : 1 ≤ n) (hn : n ≤ 16) : DOK b (List.replicate n none) [] 1000 := ⟨h.1, h.2, by simpa using h1, by simpa using hn, fun i hi => (by
  have z := List.eq_of_mem_replicate hi
  cases z), fun l hl => by cases hl⟩
theorem anss_pairs {H : Hp} : ∀ {vs : List V} {ps : List (Nat × Nat)}, Fzs H vs (ps.map WL.pairD) → AnSs K H vs (ps.map pairSh) ∧ ∀ (i : Nat) (r : Addr) (p : Nat × Nat), vs[i]? = some (V.ref r) → (ps.map pairSh)[i]? = some (pairSh p) → H r = some (.tup [.int (p.1 : Nat), .int (p.2 : Nat)])
  | [], [], _ => ⟨.nil, fun i r p h => by simp at h⟩
  | [], p :: ps, h => by cases h
  | v :: vs, [], h => by cases h
  | v :: vs, p :: ps, h => by
    obtain ⟨r, e, hr⟩ := fzs_pair h (j := 0) (by simp)
    cases h with
    | cons h t =>
      cases e
      obtain ⟨a, d⟩ := anss_pairs t
      refine ⟨.cons (.tup (SqT.of hr) (.cons (.int _) (.cons (.int _) .nil))) a, fun i r' p' h1 h2 => ?_⟩
      cases i with
      | zero =>
        cases h1
        have e := pairSh_inj (Option.some.inj h2)
        subst e
        exact hr
      | succ i => exact d i r' p' h1 h2
theorem clash_none {n : Nat} {n2 : List (Option Int)} {p : Nat × Nat} : clash (List.replicate n none) n2 p = false := by
  unfold clash
  have e : (List.replicate n (none : Option Int)).getD p.1 none = none := by
    rw [List.getD_eq_getElem?_getD]
    cases h : (List.replicate n (none : Option Int))[p.1]? with
    | none => rfl
    | some y => rw [List.eq_of_mem_replicate (List.mem_of_getElem? h)]; rfl
  rw [e]
theorem sc_three : FnScope ["base", "near", "far", "some", "due", "told"] ["base"] (defScope s_law_three_right) := ⟨rfl, rfl, rfl, by decide +kernel, rfl, by decide +kernel, by decide +kernel⟩
theorem ok_three {TT : List (Addr × Str)} {c p : Addr} (hm : (p, (envOfC "_law_three_right" (defScope s_law_three_right) 0 0 .none).qual ++ "<lambda>") ∈ TT) (hu2 : ∀ r ∈ TT, r.1 = p → r.2 = (envOfC "_law_three_right" (defScope s_law_three_right) 0 0 .none).qual ++ "<lambda>") (F : FnT K "_law_three_right" s_law_three_right f fd) (ht : tabA K f = some (c, p)) (tb : LamX.TabB base mg c p) (T : Blt mg) (D : DiaF P w K mg base DC IE) (Td : ToldD P w K mg base MM ID) (hJoin : HasR P w K mg base (L2.CX P w) 9 "joined" (spJoinX K DC MM ID))
    {mc : Value} {po go : Addr} (crd : ClX.CRead K DC mc) (cmt : ClX.CMet K DC mc "of" po go) (okOf : FnR P w K mg base CX0 8 go (spOfG DC)) : GOk P w K mg base 12 f fd ["base"] (spFirst TT) := by
  refine gok_bodyC F ht sc_three (fun vs H Q E h => ?_) (fun A outer s H vs Q E hg hr h => ?_)
  · obtain ⟨b, rfl, _⟩ := h
    rfl
  · obtain ⟨b, rfl, hb, tabs, q⟩ := h
    have sc := sc_three
    have hu := hr.units
    refine ⟨_, (pss_cons (ps_asg (pe_tup (pa_cons (ClX.pe_cmeth (E := E0) (pe_ref D.at_.at_) crd cmt okOf (hr.mono (by decide)) pass0 (pa_cons (pv 0) (pa_cons pe_non (pa_cons pe_non (pa_cons pe_non (pa_cons pe_non pa_nil)))))) (pa_cons (ClX.pe_cmeth (E := E0) (pe_ref D.at_.at_) crd cmt okOf (hr.mono (by decide)) pass0 (pa_cons (pv 0) (pa_cons pe_non (pa_cons pe_non (pa_cons pe_non pa_nil))))) pa_nil))) (pg_tup rfl (pgs_cons (pg_name (i := 1) sc.nd rfl (Or.inr rfl)) (pgs_cons (pg_name (i := 2) sc.nd rfl (Or.inr rfl)) pgs_nil))))
      (pss_cons (ps_for PassesOwn.never rfl (pi_list (pe_lst (pa_cons (pe_tup (pa_cons (pe_tup (pa_cons (pe_tup (pa_cons pe_int (pa_cons pe_int pa_nil))) (pa_cons (pe_tup (pa_cons pe_int (pa_cons pe_int pa_nil))) (pa_cons (pe_tup (pa_cons pe_int (pa_cons pe_int pa_nil))) pa_nil)))) (pa_cons pe_int pa_nil))) (pa_cons (pe_tup (pa_cons (pe_tup (pa_cons (pe_tup (pa_cons pe_int (pa_cons pe_int pa_nil))) (pa_cons (pe_tup (pa_cons pe_int (pa_cons pe_int pa_nil))) (pa_cons (pe_tup (pa_cons pe_int (pa_cons pe_int pa_nil))) pa_nil)))) (pa_cons pe_int pa_nil))) (pa_cons (pe_tup (pa_cons (pe_tup (pa_cons (pe_tup (pa_cons pe_int (pa_cons pe_int pa_nil))) (pa_cons (pe_tup (pa_cons pe_int (pa_cons pe_int pa_nil))) (pa_cons (pe_tup (pa_cons pe_int (pa_cons pe_int pa_nil))) pa_nil)))) (pa_cons pe_non pa_nil))) pa_nil))))) (pg_tup rfl (pgs_cons (pg_name (i := 3) sc.nd rfl (Or.inr rfl)) (pgs_cons (pg_name (i := 4) sc.nd rfl (Or.inl rfl)) pgs_nil)))
        (pss_cons (ps_set (i := 5) sc.nd rfl (Or.inl rfl) (pe_toldcall (T := TT) (k := 9) (t := fun E => tCallR (spJoinX K DC MM ID) E (tCons (tVar 1) (tCons (tVar 2) (tCons (tOp (rIxT K) (tVar 3) (tC (.int 0))) (tCons (tOp (rIxT K) (tVar 3) (tC (.int 1))) (tCons (tOp (rIxT K) (tVar 3) (tC (.int 2))) tNil)))))) Td (by rfl) tb rfl hm hu2 hr (LamX.lamS_by (by rfl)) rfl (fun _ _ _ _ _ => rfl) (fun A outer s H E f c' hr' => by exact (pe_joinL hJoin hr' (by decide) (by exact (pa_cons (pv 1) (pa_cons (pv 2) (pa_cons (pe_ix (r := rIxT K) ix_tup (pv 3) pe_int (fun _ _ => rfl)) (pa_cons (pe_ix (r := rIxT K) ix_tup (pv 3) pe_int (fun _ _ => rfl)) (pa_cons (pe_ix (r := rIxT K) ix_tup (pv 3) pe_int (fun _ _ => rfl)) pa_nil)))))))))) 
        (pss_one (ps_if (PW.pt (pw_or (PW.pt (pw_and (pt_cmpR op_notN (pv 4) pe_non (nomark _)) (pw_and1 (pt_cmpR (op_neD hu) (pv 5) (pe_tup (pa_cons pe_str (pa_cons pe_str (pa_cons (pv 4) pa_nil)))) (nomark _))))) (pw_or1 (PW.pt (pw_and (pt_cmpR op_isN (pv 4) pe_non (nomark _)) (pw_and1 (pt_not (pt_val (pe_callB call_isi (by rfl) T.isinstance (by decide +kernel) (pa_cons (pv 5) (pa_cons (pe_bltn (v := .ty "list") (by rfl) T.list (by decide +kernel) rfl) pa_nil)))))))))))
          (pss_one (ps_ret pe_bl))
          pss_nil))))
      (pss_one (ps_ret pe_bl)))), ?_⟩
    have okA : DOK b (List.replicate 4 none) [] 1000 := dok_none hb (by decide) (by decide)
    have okB : DOK b (List.replicate 3 none) [] 1000 := dok_none hb (by decide) (by decide)
    have okA1 : DOK b (List.replicate 4 none) [] 1 := ⟨okA.c2, okA.c100, okA.n1, okA.n16, okA.note, fun l hl => by cases hl⟩
    have okB1 : DOK b (List.replicate 3 none) [] 1 := ⟨okB.c2, okB.c100, okB.n1, okB.n16, okB.note, fun l hl => by cases hl⟩
    walk_at "go"
    refine g_tup' ?_
    walk_at "go"
    refine g_cmeth ?_
    walk_at "go"
    refine ⟨b, List.replicate 4 none, rfl, okA1, fun x1 H1 nx1 dA s1 => ?_⟩
    walk_at "go"
    refine g_cmeth ?_
    walk_at "go"
    refine ⟨b, List.replicate 3 none, rfl, okB1, fun x2 H2 nx2 dB s2' => ?_⟩
    have s2 : ∀ b o, H b = some o → H2 b = some o := fun b o h => s2' _ _ (s1 _ _ h)
    have dA2 := dA.same s2'
    walk_at "go"
    refine ⟨sz (by simp), fun p3 np3 => ?_⟩
    have s3 := same_up (o := .tup [.ref x1, .ref x2]) np3 s2
    have dA3 := dA2.same (same_up (o := .tup [.ref x1, .ref x2]) np3 fun _ _ h => h)
    have dB3 := dB.same (same_up (o := .tup [.ref x1, .ref x2]) np3 fun _ _ h => h)
    refine g_tupg (K := K) (SqT.of upd_same) rfl ?_
    generalize upd H2 p3 (.tup [.ref x1, .ref x2]) = H3 at s3 dA3 dB3 ⊢
    walk_at "go"
    refine g_lst' ?_
    show litTs [triD [(0, 1), (1, 0), (0, 2)] (.int 2), triD [(1, 1), (2, 0), (3, 1)] (.int 2), triD [(0, 0), (1, 1), (2, 2)] .none] _ _ _
    refine g_lits _ (by decide +kernel) fun rows H4 s4 f4 => ?_
    refine ⟨sz (by rw [f4.length]; decide), fun L nL => ?_⟩
    have s5' := same_up (o := .lst rows) nL s4
    have s5 : ∀ b o, H b = some o → upd H4 L (.lst rows) b = some o := fun b o h => s5' _ _ (s3 _ _ h)
    have dA5 := dA3.same s5'
    have dB5 := dB3.same s5'
    have f5 := f4.tk (Tk.new (o := .lst rows) nL)
    have hL : upd H4 L (.lst rows) L = some (.lst rows) := upd_same
    generalize upd H4 L (.lst rows) = H5 at s5 dA5 dB5 f5 hL ⊢
    clear s5' s4 f4
    refine ⟨L, rfl, ⟨_, SqL.of hL⟩, ?_⟩
    refine ForQ.list (xs := rows) (fun i σ H' => (∃ y3 y4 y5, σ = [some (.int b), some (.ref x1), some (.ref x2), y3, y4, y5]) ∧ LamX.ExtN H5 H' ∧ LamX.Tabs TT H') ⟨⟨_, _, _, rfl⟩, LamX.ExtN.of fun _ _ h => h, tabs.ext s5⟩ (fun i σ H' _ h => SqL.of (h.2.1 _ _ hL (fun ps z => nomatch z))) ?_ ?_
    · rintro i x σ H6 hx ⟨⟨y3, y4, y5, rfl⟩, e6, t6⟩
      have dA6 := dA5.keep (Tk.ext e6) (Ik.ext e6)
      have dB6 := dB5.keep (Tk.ext e6) (Ik.ext e6)
      have f6 := f5.tk (Tk.ext e6)
      obtain ⟨ps, due, fx, hps, hdue⟩ : ∃ (ps : List (Nat × Nat)) (due : V), (∃ dd, Fz H6 x (triD ps dd) ∧ Fz H6 due dd ∧ ((dd = .int 2 ∧ due = .int 2) ∨ (dd = .none ∧ due = .non))) ∧ ps.length = 3 ∧ ((due = .int 2 ∧ badAt 4 3 [] (ps.map pairSh) = some 2) ∨ (due = .non ∧ badAt 4 3 [] (ps.map pairSh) = none)) := by
        match i, hx with
        | 0, hx =>
          obtain ⟨v, e, z⟩ := f6.get_d (i := 0) rfl
          rw [hx] at e
          cases e
          exact ⟨_, .int 2, ⟨.int 2, z, .int 2, Or.inl ⟨rfl, rfl⟩⟩, rfl, Or.inl ⟨rfl, by decide +kernel⟩⟩
        | 1, hx =>
          obtain ⟨v, e, z⟩ := f6.get_d (i := 1) rfl
          rw [hx] at e
          cases e
          exact ⟨_, .int 2, ⟨.int 2, z, .int 2, Or.inl ⟨rfl, rfl⟩⟩, rfl, Or.inl ⟨rfl, by decide +kernel⟩⟩
        | 2, hx =>
          obtain ⟨v, e, z⟩ := f6.get_d (i := 2) rfl
          rw [hx] at e
          cases e
          exact ⟨_, .non, ⟨.none, z, .non, Or.inr ⟨rfl, rfl⟩⟩, rfl, Or.inr ⟨rfl, by decide +kernel⟩⟩
        | i + 3, hx =>
          have z := (List.getElem?_eq_some_iff.mp hx).1
          have e : rows.length = 3 := f5.length
          omega
      obtain ⟨dd, fx, fd', hdd⟩ := fx
      obtain ⟨a, xs, rfl, ha, hxs⟩ := Fz.tup_inv fx
      match xs, hxs with
      | [w1, w2], .cons k1 (.cons k2 .nil) =>
        obtain ⟨sa, srow, rfl, hsa, hsr⟩ := Fz.tup_inv k1
        have ew : w2 = due := by
          rcases hdd with ⟨rfl, rfl⟩ | ⟨rfl, rfl⟩
          · exact k2.int_inv
          · cases k2; rfl
        subst ew
        have sl : srow.length = 3 := by rw [hsr.length, List.length_map, hps]
        refine g_tupg (K := K) (SqT.of ha) rfl ?_
        walk_at "go"
        obtain ⟨r0, r1, r2, rfl⟩ := len3 sl
        refine g_lam t6 fun H7 e7 t7 H8 s8 Q1 hQ1 => ?_
        have dA7 := dA6.keep (Tk.ext e7) (Ik.ext e7)
        have dB7 := dB6.keep (Tk.ext e7) (Ik.ext e7)
        have hsa8 := s8 _ _ (Tk.ext e7 _ _ hsa)
        obtain ⟨ans, dir⟩ := anss_pairs (K := K) ((hsr.tk (Tk.ext e7)).tk (Tk.same s8))
        refine g_callR ?_
        walk_at "go"
        refine g_ixT (K := K) (SqT.of hsa8) (atI_at (by decide) rfl) ?_
        walk_at "go"
        refine g_ixT (K := K) (SqT.of hsa8) (atI_at (by decide) rfl) ?_
        walk_at "go"
        refine g_ixT (K := K) (SqT.of hsa8) (atI_at (by decide) rfl) ?_
        walk_at "go"
        rcases hdue with ⟨rfl, hb'⟩ | ⟨rfl, hb'⟩
        · refine ⟨.ref x1, .ref x2, [r0, r1, r2], ps.map pairSh, b, b, 1000, _, _, _, _, rfl, dA7.same s8, dB7.same s8, ans, by simp, dir, okA, okB, by simp, by simp, by decide, joinq_pair (i := 2) hb' fun d H9 s9 nd => ?_⟩
          refine ⟨d, .str "pair", .int 2, rfl, Or.inl ⟨rfl, upd_same, fun p' H10 np10 s10 h10 => ?_⟩⟩
          have s710 : ∀ b o, H7 b = some o → H10 b = some o := fun b o h => s10 _ _ (same_up nd (fun b o h => s9 _ _ (s8 _ _ h)) _ _ h)
          walk_at "go"
          refine g_iftn ?_
          walk_at "go"
          refine g_tup' ?_
          walk_at "go"
          refine ⟨sz (by simp), fun p11 np11 => ?_⟩
          refine g_neD (K := K) (d := .tuple [.str "Mismatch", .str "pair", .int 2]) (e := .tuple [.str "Mismatch", .str "pair", .int 2]) (.tup (SqT.of (kp np11 h10)) (.cons (.str _) (.cons (.str _) (.cons (.int _) .nil)))) (.tup (SqT.of upd_same) (.cons (.str _) (.cons (.str _) (.cons (.int _) .nil)))) (by decide +kernel) (by decide +kernel) ?_
          rw [show (PyData.tuple [.str "Mismatch", .str "pair", .int 2]).eqv (.tuple [.str "Mismatch", .str "pair", .int 2]) = true by decide +kernel]
          have s711 := same_up (o := .tup [.str "Mismatch", .str "pair", .int 2]) np11 s710
          generalize upd H10 p11 (.tup [.str "Mismatch", .str "pair", .int 2]) = H11 at s711 ⊢
          walk_at "go"
          rw [if_neg (show ¬ decide (V.int 2 = V.non) = true by decide)]
          walk_at "go"
          exact ⟨⟨_, _, _, rfl⟩, (e6.trans e7).trans (LamX.ExtN.of s711), t7.ext s711⟩
        · refine ⟨.ref x1, .ref x2, [r0, r1, r2], ps.map pairSh, b, b, 1000, _, _, _, _, rfl, dA7.same s8, dB7.same s8, ans, by simp, dir, okA, okB, by simp, by simp, by decide, joinq_fine (ps := ps) rfl hb' (fun pp hp => clash_none) ⟨fun h => absurd h (by rw [hps]; decide), fun _ h => absurd h (by decide), fun _ _ x3 H9 nx3 d9 s9 => ?_⟩⟩
          refine hQ1 _ _ fun p' H10 np10 s10 h10 => ?_
          have s710 : ∀ b o, H7 b = some o → H10 b = some o := fun b o h => s10 _ _ (s9 _ _ (s8 _ _ h))
          walk_at "go"
          rw [if_neg (show ¬ (!decide (V.non = V.non)) = true by decide)]
          walk_at "go"
          rw [if_pos (show decide (V.non = V.non) = true by decide)]
          walk_at "go"
          refine g_isi (K := K) (s := .lst) (.lst (SqL.of h10)) (isi_lst K) ?_
          walk_at "go"
          exact ⟨⟨_, _, _, rfl⟩, (e6.trans e7).trans (LamX.ExtN.of s710), t7.ext s710⟩
    · rintro σ H6 ⟨⟨y3, y4, y5, rfl⟩, e6, t6⟩
      walk_at "go"
      exact q _ ((LamX.ExtN.of s5).trans e6) t6
end
end K56
set_option Elab.async false
set_option linter.all false
set_option maxRecDepth 100000
set_option maxHeartbeats 400000
namespace K56
open PySem PySem.Spec PyProof.Rows L2 WL
local macro_rules | `(tactic| walk_at "side") => `(tactic| first | (show (_ ∧ _) ∨ (_ ∧ _); omega) | (exact ⟨by omega, by omega⟩) | (show (0 : Int) < _; omega) | omega)
local macro_rules | `(tactic| walk_at "go") => `(tactic| (repeat (first
  | with_reducible refine g_seq ?_ | with_reducible refine g_asgN ?_ | with_reducible refine g_ret ?_ | with_reducible refine g_drop ?_ | with_reducible refine g_ifS ?_ | with_reducible refine g_next ?_
  | with_reducible refine g_var rfl ?_ | with_reducible refine g_c ?_ | with_reducible refine g_op ?_ | with_reducible refine g_un ?_ | with_reducible refine g_rI0 ?_ | ((with_reducible refine g_rI ?_ ?_); next => walk_at "side") | with_reducible refine g_test ?_ | with_reducible refine g_bl ?_
  | with_reducible refine g_nil ?_ | with_reducible refine g_cons ?_ | with_reducible refine g_call ?_ | with_reducible refine g_cb ?_ | with_reducible refine g_if ?_ | with_reducible refine g_par ?_ | with_reducible refine g_two ?_
  | with_reducible refine g_asg ?_ | with_reducible refine g_name ?_ | with_reducible refine g_sub ?_ | with_reducible refine g_yes ?_ | with_reducible refine g_gcons ?_ | with_reducible refine g_gnil ?_ | with_reducible refine g_dget ?_ | with_reducible refine g_dput ?_ | with_reducible refine g_rng1 ?_ | with_reducible refine g_rng2 ?_
  | ((with_reducible refine g_one ?_ ?_); next => omega) | ((with_reducible refine g_twoI ?_ ?_); next => omega) | with_reducible refine g_isNon ?_ | with_reducible refine g_andV ?_ | with_reducible refine g_revT ?_ | with_reducible refine g_itup ?_ | with_reducible refine g_methK0 ?_ | with_reducible refine g_methS ?_ | with_reducible refine g_errF ?_ | with_reducible refine g_prop ?_ | with_reducible refine g_con ?_ | with_reducible refine g_make ?_ | with_reducible refine g_fld ?_ | with_reducible refine g_sfld ?_ | with_reducible refine g_iftn ?_ | with_reducible refine g_iffn ?_ | with_reducible refine g_orV ?_ | with_reducible refine g_notV ?_ | with_reducible refine g_tB ?_ | with_reducible refine g_chain ?_ | with_reducible refine g_neg ?_ | with_reducible refine g_cval ?_ | with_reducible refine g_enumT ?_ | with_reducible refine g_andT ?_ | with_reducible refine g_orT ?_ | with_reducible refine g_notT ?_ | with_reducible refine g_sl ?_ | with_reducible refine g_part ?_ | with_reducible refine g_parI ?_ | with_reducible refine g_noPart ?_ | with_reducible refine g_pcons ?_ | with_reducible refine g_pnil ?_ | with_reducible refine g_list ?_ | with_reducible refine g_lc ?_ | with_reducible refine g_for ?_ | with_reducible refine g_enum ?_ | with_reducible refine g_ift ?_ | with_reducible refine g_iff ?_ | with_reducible refine And.intro rfl ?_ | with_reducible refine g_notNon ?_)))
local macro_rules | `(tactic| walk_at "ex") => `(tactic| (repeat (first
  | with_reducible refine g_seqAsg ?_ | with_reducible refine g_seqFld ?_ | with_reducible refine g_seqDrop ?_ | with_reducible refine g_seqPut ?_ | with_reducible refine g_seqPar ?_ | with_reducible refine g_asgN ?_ | with_reducible refine g_ret ?_ | with_reducible refine g_drop ?_ | with_reducible refine g_next ?_
  | with_reducible refine g_var rfl ?_ | with_reducible refine g_c ?_ | with_reducible refine g_op ?_ | with_reducible refine g_un ?_ | with_reducible refine g_rI0 ?_ | ((with_reducible refine g_rI ?_ ?_); next => walk_at "side") | with_reducible refine g_test ?_ | with_reducible refine g_bl ?_
  | with_reducible refine g_nil ?_ | with_reducible refine g_cons ?_ | with_reducible refine g_call ?_ | with_reducible refine g_cb ?_ | with_reducible refine g_if ?_ | with_reducible refine g_par ?_ | with_reducible refine g_two ?_
  | with_reducible refine g_asg ?_ | with_reducible refine g_name ?_ | with_reducible refine g_sub ?_ | with_reducible refine g_yes ?_ | with_reducible refine g_gcons ?_ | with_reducible refine g_gnil ?_ | with_reducible refine g_dget ?_ | with_reducible refine g_dput ?_ | with_reducible refine g_rng1 ?_ | with_reducible refine g_rng2 ?_
  | ((with_reducible refine g_one ?_ ?_); next => omega) | ((with_reducible refine g_twoI ?_ ?_); next => omega) | with_reducible refine g_isNon ?_ | with_reducible refine g_andV ?_ | with_reducible refine g_revT ?_ | with_reducible refine g_itup ?_ | with_reducible refine g_methK0 ?_ | with_reducible refine g_methS ?_ | with_reducible refine g_errF ?_ | with_reducible refine g_prop ?_ | with_reducible refine g_con ?_ | with_reducible refine g_make ?_ | with_reducible refine g_fld ?_ | with_reducible refine g_sfld ?_ | with_reducible refine g_iftn ?_ | with_reducible refine g_iffn ?_ | with_reducible refine g_orV ?_ | with_reducible refine g_notV ?_ | with_reducible refine g_tB ?_ | with_reducible refine g_chain ?_ | with_reducible refine g_neg ?_ | with_reducible refine g_cval ?_ | with_reducible refine g_enumT ?_ | with_reducible refine g_proj ?_ | with_reducible refine g_andT ?_ | with_reducible refine g_orT ?_ | with_reducible refine g_notT ?_ | with_reducible refine g_sl ?_ | with_reducible refine g_part ?_ | with_reducible refine g_parI ?_ | with_reducible refine g_noPart ?_ | with_reducible refine g_pcons ?_ | with_reducible refine g_pnil ?_ | with_reducible refine g_list ?_ | with_reducible refine g_lc ?_ | with_reducible refine g_enum ?_ | with_reducible refine g_ift ?_ | with_reducible refine g_iff ?_ | with_reducible refine And.intro rfl ?_ | with_reducible refine g_notNon ?_)))
section
variable {P : Program} {w : World} {K : PySem.W.Frag} {mg : Str → Option Value} {base : Heap} {f : Addr} {fd : FuncData} {DC IE ID MM : Addr}
mutual
def shD : PyData → Sh
  | .none => .non
  | .bool _ => .bl
  | .int i => .int i
  | .str _ => .str
  | .tuple ds => .tup (shDs ds)
  | .list _ => .lst
  | .dict _ => .dct
def shDs : List PyData → List Sh
  | [] => []
  | d :: ds => shD d :: shDs ds
end
mutual
theorem fz_ansD {H : Hp} : ∀ {d : PyData} {v : V}, Fz H v d → AnS K H v (shD d)
  | _, _, .non => .non
  | _, _, .bl b => .bl b
  | _, _, .int i => .int i
  | _, _, .str x => .str x
  | _, _, .tup h q => .tup (SqT.of h) (fz_ansDs q)
theorem fz_ansDs {H : Hp} : ∀ {ds : List PyData} {vs : List V}, Fzs H vs ds → AnSs K H vs (shDs ds)
  | _, _, .nil => .nil
  | _, _, .cons h q => .cons (fz_ansD h) (fz_ansDs q)
end
theorem shD_int {d : PyData} {i : Int} (h : shD d = .int i) : d = .int i := by
  cases d <;> simp [shD] at h
  rw [h]
theorem shD_pair {d : PyData} {p : Nat × Nat} (h : shD d = pairSh p) : d = WL.pairD p := by
  cases d <;> simp [shD, pairSh] at h
  rename_i ds
  match ds, h with
  | [a, b], h =>
    simp [shDs] at h
    rw [shD_int h.1, shD_int h.2]
    rfl
  | [], h => simp [shDs] at h
  | [a], h => simp [shDs] at h
  | a :: b :: c :: ds, h => simp [shDs] at h
/-- a value that is no pair of events of four and of three -/
def OddP (K : PySem.W.Frag) (H : Hp) (v : V) : Prop := ∃ s, AnS K H v s ∧ pairVal 4 3 s = none ∧ ∀ (p : Nat × Nat) (r : Addr), v = .ref r → s = pairSh p → H r = some (.tup [.int (p.1 : Nat), .int (p.2 : Nat)])
theorem OddP.same {H H' : Hp} {v : V} (h : OddP K H v) (k : ∀ b o, H b = some o → H' b = some o) : OddP K H' v := by
  obtain ⟨s, a, b, c⟩ := h
  exact ⟨s, a.same k, b, fun p r e1 e2 => k _ _ (c p r e1 e2)⟩
theorem OddP.of {H : Hp} {v : V} {d : PyData} (h : Fz H v d) (n : pairVal 4 3 (shD d) = none) : OddP K H v := by
  refine ⟨shD d, fz_ansD h, n, fun p r e1 e2 => ?_⟩
  have e := shD_pair e2
  subst e e1
  obtain ⟨t, e, z⟩ := fzs_pair (ps := [p]) (j := 0) (.cons h .nil) (by simp)
  cases e
  exact z
def OddE (K : PySem.W.Frag) (te : TE) (σ : L2.St) : Prop := ∀ (H : Hp) (Q : VK), (∀ v H', (∀ b o, H b = some o → H' b = some o) → OddP K H' v → Q v H') → te σ H Q
def OddA (K : PySem.W.Frag) (n : Nat) (t : TA) (σ : L2.St) : Prop := ∀ (H : Hp) (R : List V → Hp → Prop), (∀ vs H', (∀ b o, H b = some o → H' b = some o) → (∀ v ∈ vs, OddP K H' v) → vs.length = n → R vs H') → t σ H R
theorem odd_nil {σ : L2.St} : OddA K 0 tNil σ := fun H R q => q [] H (fun _ _ h => h) (fun v h => by cases h) rfl
theorem odd_cons {n : Nat} {te : TE} {t : TA} {σ : L2.St} (a : OddE K te σ) (b : OddA K n t σ) : OddA K (n + 1) (tCons te t) σ := fun H R q => by
  refine g_cons ?_
  refine a _ _ fun v H1 s1 o1 => ?_
  refine b _ _ fun vs H2 s2 o2 l2 => ?_
  refine q _ _ (fun x o h => s2 _ _ (s1 _ _ h)) (fun x hx => ?_) (congrArg Nat.succ l2)
  rcases List.mem_cons.mp hx with rfl | hx
  · exact o1.same s2
  · exact o2 x hx
theorem odd_lit (d : PyData) {σ : L2.St} (h : litOk d = true) (n : pairVal 4 3 (shD d) = none) : OddE K (litT d) σ := fun H Q q => g_lit d h fun v H' s f => q v H' s (OddP.of f n)
theorem odd_lst {σ : L2.St} : OddE K (tLst (tCons (tC (.int 1)) (tCons (tC (.int 1)) tNil))) σ := fun H Q q => by
  refine g_lst' ?_
  walk_at "go"
  refine ⟨sz (by simp), fun p np => q _ _ (same_up np fun _ _ h => h) ⟨.lst, .lst (SqL.of upd_same), rfl, fun p r _ e => by cases e⟩⟩
theorem odd_neg {σ : L2.St} : OddE K (tTup (tCons (tUn (rU fun i => V.int (-i)) (tC (.int 1))) (tCons (tC (.int 1)) tNil))) σ := fun H Q q => by
  refine g_tup' ?_
  walk_at "go"
  refine ⟨sz (by simp), fun p np => q _ _ (same_up np fun _ _ h => h) (OddP.of (d := .tuple [.int (-1), .int 1]) (.tup upd_same (.cons (.int _) (.cons (.int _) .nil))) (by decide +kernel))⟩
/-- the thirteen values -/
def badTs : TA := tCons (litT .none) (tCons (litT (.tuple [])) (tCons (litT (.tuple [.int 0])) (tCons (litT (.tuple [.int 0, .int 0, .int 0])) (tCons (tLst (tCons (tC (.int 1)) (tCons (tC (.int 1)) tNil))) (tCons (litT (.tuple [.int 4, .int 1])) (tCons (litT (.tuple [.int 1, .int 3]))
  (tCons (tTup (tCons (tUn (rU fun i => V.int (-i)) (tC (.int 1))) (tCons (tC (.int 1)) tNil))) (tCons (litT (.tuple [.bool true, .int 1])) (tCons (litT (.tuple [.int 1, .str "1"])) (tCons (litT (.tuple [.int 1, .none])) (tCons (litT (.int 7)) (tCons (litT (.str "11")) tNil))))))))))))
theorem odd_bad {σ : L2.St} : OddA K 13 badTs σ := by
  unfold badTs
  refine odd_cons (odd_lit _ rfl (by decide +kernel)) (odd_cons (odd_lit _ rfl (by decide +kernel)) (odd_cons (odd_lit _ rfl (by decide +kernel)) (odd_cons (odd_lit _ rfl (by decide +kernel)) (odd_cons odd_lst (odd_cons (odd_lit _ rfl (by decide +kernel)) (odd_cons (odd_lit _ rfl (by decide +kernel))
    (odd_cons odd_neg (odd_cons (odd_lit _ rfl (by decide +kernel)) (odd_cons (odd_lit _ rfl (by decide +kernel)) (odd_cons (odd_lit _ rfl (by decide +kernel)) (odd_cons (odd_lit _ rfl (by decide +kernel)) (odd_cons (odd_lit _ rfl (by decide +kernel)) odd_nil))))))))))))
end
end K56
set_option Elab.async false
set_option linter.all false
set_option maxRecDepth 100000
set_option maxHeartbeats 400000
namespace K56
open PySem PySem.Spec PyProof.Rows L2 WL
local macro_rules | `(tactic| walk_at "side") => `(tactic| first | (show (_ ∧ _) ∨ (_ ∧ _); omega) | (exact ⟨by omega, by omega⟩) | (show (0 : Int) < _; omega) | omega)
local macro_rules | `(tactic| walk_at "go") => `(tactic| (repeat (first
  | with_reducible refine g_seq ?_ | with_reducible refine g_asgN ?_ | with_reducible refine g_ret ?_ | with_reducible refine g_drop ?_ | with_reducible refine g_ifS ?_ | with_reducible refine g_next ?_
  | with_reducible refine g_var rfl ?_ | with_reducible refine g_c ?_ | with_reducible refine g_op ?_ | with_reducible refine g_un ?_ | with_reducible refine g_rI0 ?_ | ((with_reducible refine g_rI ?_ ?_); next => walk_at "side") | with_reducible refine g_test ?_ | with_reducible refine g_bl ?_
  | with_reducible refine g_nil ?_ | with_reducible refine g_cons ?_ | with_reducible refine g_call ?_ | with_reducible refine g_cb ?_ | with_reducible refine g_if ?_ | with_reducible refine g_par ?_ | with_reducible refine g_two ?_
  | with_reducible refine g_asg ?_ | with_reducible refine g_name ?_ | with_reducible refine g_sub ?_ | with_reducible refine g_yes ?_ | with_reducible refine g_gcons ?_ | with_reducible refine g_gnil ?_ | with_reducible refine g_dget ?_ | with_reducible refine g_dput ?_ | with_reducible refine g_rng1 ?_ | with_reducible refine g_rng2 ?_
  | ((with_reducible refine g_one ?_ ?_); next => omega) | ((with_reducible refine g_twoI ?_ ?_); next => omega) | with_reducible refine g_isNon ?_ | with_reducible refine g_andV ?_ | with_reducible refine g_revT ?_ | with_reducible refine g_itup ?_ | with_reducible refine g_methK0 ?_ | with_reducible refine g_methS ?_ | with_reducible refine g_errF ?_ | with_reducible refine g_prop ?_ | with_reducible refine g_con ?_ | with_reducible refine g_make ?_ | with_reducible refine g_fld ?_ | with_reducible refine g_sfld ?_ | with_reducible refine g_iftn ?_ | with_reducible refine g_iffn ?_ | with_reducible refine g_orV ?_ | with_reducible refine g_notV ?_ | with_reducible refine g_tB ?_ | with_reducible refine g_chain ?_ | with_reducible refine g_neg ?_ | with_reducible refine g_cval ?_ | with_reducible refine g_enumT ?_ | with_reducible refine g_andT ?_ | with_reducible refine g_orT ?_ | with_reducible refine g_notT ?_ | with_reducible refine g_sl ?_ | with_reducible refine g_part ?_ | with_reducible refine g_parI ?_ | with_reducible refine g_noPart ?_ | with_reducible refine g_pcons ?_ | with_reducible refine g_pnil ?_ | with_reducible refine g_list ?_ | with_reducible refine g_lc ?_ | with_reducible refine g_for ?_ | with_reducible refine g_enum ?_ | with_reducible refine g_ift ?_ | with_reducible refine g_iff ?_ | with_reducible refine And.intro rfl ?_ | with_reducible refine g_notNon ?_)))
local macro_rules | `(tactic| walk_at "ex") => `(tactic| (repeat (first
  | with_reducible refine g_seqAsg ?_ | with_reducible refine g_seqFld ?_ | with_reducible refine g_seqDrop ?_ | with_reducible refine g_seqPut ?_ | with_reducible refine g_seqPar ?_ | with_reducible refine g_asgN ?_ | with_reducible refine g_ret ?_ | with_reducible refine g_drop ?_ | with_reducible refine g_next ?_
  | with_reducible refine g_var rfl ?_ | with_reducible refine g_c ?_ | with_reducible refine g_op ?_ | with_reducible refine g_un ?_ | with_reducible refine g_rI0 ?_ | ((with_reducible refine g_rI ?_ ?_); next => walk_at "side") | with_reducible refine g_test ?_ | with_reducible refine g_bl ?_
  | with_reducible refine g_nil ?_ | with_reducible refine g_cons ?_ | with_reducible refine g_call ?_ | with_reducible refine g_cb ?_ | with_reducible refine g_if ?_ | with_reducible refine g_par ?_ | with_reducible refine g_two ?_
  | with_reducible refine g_asg ?_ | with_reducible refine g_name ?_ | with_reducible refine g_sub ?_ | with_reducible refine g_yes ?_ | with_reducible refine g_gcons ?_ | with_reducible refine g_gnil ?_ | with_reducible refine g_dget ?_ | with_reducible refine g_dput ?_ | with_reducible refine g_rng1 ?_ | with_reducible refine g_rng2 ?_
  | ((with_reducible refine g_one ?_ ?_); next => omega) | ((with_reducible refine g_twoI ?_ ?_); next => omega) | with_reducible refine g_isNon ?_ | with_reducible refine g_andV ?_ | with_reducible refine g_revT ?_ | with_reducible refine g_itup ?_ | with_reducible refine g_methK0 ?_ | with_reducible refine g_methS ?_ | with_reducible refine g_errF ?_ | with_reducible refine g_prop ?_ | with_reducible refine g_con ?_ | with_reducible refine g_make ?_ | with_reducible refine g_fld ?_ | with_reducible refine g_sfld ?_ | with_reducible refine g_iftn ?_ | with_reducible refine g_iffn ?_ | with_reducible refine g_orV ?_ | with_reducible refine g_notV ?_ | with_reducible refine g_tB ?_ | with_reducible refine g_chain ?_ | with_reducible refine g_neg ?_ | with_reducible refine g_cval ?_ | with_reducible refine g_enumT ?_ | with_reducible refine g_proj ?_ | with_reducible refine g_andT ?_ | with_reducible refine g_orT ?_ | with_reducible refine g_notT ?_ | with_reducible refine g_sl ?_ | with_reducible refine g_part ?_ | with_reducible refine g_parI ?_ | with_reducible refine g_noPart ?_ | with_reducible refine g_pcons ?_ | with_reducible refine g_pnil ?_ | with_reducible refine g_list ?_ | with_reducible refine g_lc ?_ | with_reducible refine g_enum ?_ | with_reducible refine g_ift ?_ | with_reducible refine g_iff ?_ | with_reducible refine And.intro rfl ?_ | with_reducible refine g_notNon ?_)))
section
variable {P : Program} {w : World} {K : PySem.W.Frag} {mg : Str → Option Value} {base : Heap} {f : Addr} {fd : FuncData} {DC IE ID MM : Addr}
/-- a value of a known shape, a pair of numbers laid plainly -/
def PElem (K : PySem.W.Frag) (H : Hp) (v : V) (s : Sh) : Prop := AnS K H v s ∧ ∀ (p : Nat × Nat) (r : Addr), v = .ref r → s = pairSh p → H r = some (.tup [.int (p.1 : Nat), .int (p.2 : Nat)])
theorem PElem.same {H H' : Hp} {v : V} {s : Sh} (h : PElem K H v s) (k : ∀ b o, H b = some o → H' b = some o) : PElem K H' v s := ⟨h.1.same k, fun p r e1 e2 => k _ _ (h.2 p r e1 e2)⟩
theorem PElem.ext {H H' : Hp} {v : V} {s : Sh} (h : PElem K H v s) (k : LamX.ExtN H H') : PElem K H' v s := ⟨(h.1.noT).same (fun b o h => k b o (noTab_of h).1 (noTab_of h).2), fun p r e1 e2 => k _ _ (h.2 p r e1 e2) (fun ps z => nomatch z)⟩
theorem PElem.of {H : Hp} {v : V} {d : PyData} (h : Fz H v d) : PElem K H v (shD d) := by
  refine ⟨fz_ansD h, fun p r e1 e2 => ?_⟩
  have e := shD_pair e2
  subst e e1
  obtain ⟨t, e, z⟩ := fzs_pair (ps := [p]) (j := 0) (.cons h .nil) (by simp)
  cases e
  exact z
theorem pelems {H : Hp} {v0 v1 : V} {s0 s1 : Sh} (a : PElem K H v0 s0) (b : PElem K H v1 s1) : AnSs K H [v0, v1] [s0, s1] ∧ ∀ (i : Nat) (r : Addr) (p : Nat × Nat), [v0, v1][i]? = some (V.ref r) → [s0, s1][i]? = some (pairSh p) → H r = some (.tup [.int (p.1 : Nat), .int (p.2 : Nat)]) := by
  refine ⟨.cons a.1 (.cons b.1 .nil), fun i r p h1 h2 => ?_⟩
  match i, h1, h2 with
  | 0, h1, h2 => exact a.2 p r (Option.some.inj h1) (Option.some.inj h2)
  | 1, h1, h2 => exact b.2 p r (Option.some.inj h1) (Option.some.inj h2)
  | i + 2, h1, _ => simp at h1
/-- a row: two values, and what stands behind them -/
def RowX (K : PySem.W.Frag) (H : Hp) (x : V) (s0 s1 : Sh) (due : V) : Prop := ∃ (a sa : Addr) (v0 v1 : V), x = .ref a ∧ H a = some (.tup [.ref sa, due]) ∧ H sa = some (.tup [v0, v1]) ∧ PElem K H v0 s0 ∧ PElem K H v1 s1
theorem RowX.same {H H' : Hp} {x due : V} {s0 s1 : Sh} (h : RowX K H x s0 s1 due) (k : ∀ b o, H b = some o → H' b = some o) : RowX K H' x s0 s1 due := by
  obtain ⟨a, sa, v0, v1, e, h1, h2, h3, h4⟩ := h
  exact ⟨a, sa, v0, v1, e, k _ _ h1, k _ _ h2, h3.same k, h4.same k⟩
theorem RowX.ext {H H' : Hp} {x due : V} {s0 s1 : Sh} (h : RowX K H x s0 s1 due) (k : LamX.ExtN H H') : RowX K H' x s0 s1 due := by
  obtain ⟨a, sa, v0, v1, e, h1, h2, h3, h4⟩ := h
  exact ⟨a, sa, v0, v1, e, k _ _ h1 (fun ps z => nomatch z), k _ _ h2 (fun ps z => nomatch z), h3.ext k, h4.ext k⟩
/-- an expression that gives a value of the shape, where the odd value stands -/
def ElE (K : PySem.W.Frag) (odd : V) (so : Sh) (te : TE) (σ : L2.St) (s : Sh) : Prop := ∀ (H : Hp) (Q : VK), PElem K H odd so → (∀ v H', (∀ b o, H b = some o → H' b = some o) → PElem K H' v s → Q v H') → te σ H Q
theorem el_var {odd : V} {so : Sh} {i : Nat} {σ : L2.St} (e : σ[i]? = some (some odd)) : ElE K odd so (tVar i) σ so := fun H Q p q => ⟨odd, e, q odd H (fun _ _ h => h) p⟩
theorem el_lit {odd : V} {so : Sh} {σ : L2.St} (d : PyData) (h : litOk d = true) : ElE K odd so (litT d) σ (shD d) := fun H Q _ q => g_lit d h fun v H' s f => q v H' s (PElem.of f)
theorem el_row {odd : V} {so s0 s1 : Sh} {σ : L2.St} {e0 e1 : TE} {due : V} (a : ElE K odd so e0 σ s0) (b : ElE K odd so e1 σ s1) {H : Hp} {Q : VK} (p : PElem K H odd so) (q : ∀ v H', (∀ b o, H b = some o → H' b = some o) → RowX K H' v s0 s1 due → Q v H') :
    tTup (tCons (tTup (tCons e0 (tCons e1 tNil))) (tCons (tC due) tNil)) σ H Q := by
  refine g_tup' (g_cons (g_tup' (g_cons ?_)))
  refine a _ _ p fun v0 H1 s1' p0 => ?_
  refine g_cons ?_
  refine b _ _ (p.same s1') fun v1 H2 s2 p1 => ?_
  refine g_nil ⟨sz (by simp), fun sa nsa => ?_⟩
  refine g_cons (g_c (g_nil ⟨sz (by simp), fun r nr => ?_⟩))
  have sA := same_up (o := .tup [v0, v1]) nsa (H := H2) (fun _ _ h => h)
  have sB := same_up (o := .tup [.ref sa, due]) nr sA
  refine q _ _ (fun b o h => sB _ _ (s2 _ _ (s1' _ _ h))) ⟨r, sa, v0, v1, rfl, upd_same, kp nr upd_same, (p0.same s2).same sB, p1.same sB⟩
/-- rows in a row -/
inductive RowsX (K : PySem.W.Frag) (H : Hp) : List V → List (Sh × Sh × V) → Prop
  | nil : RowsX K H [] []
  | cons {x : V} {xs : List V} {s0 s1 : Sh} {due : V} {rs : List (Sh × Sh × V)} : RowX K H x s0 s1 due → RowsX K H xs rs → RowsX K H (x :: xs) ((s0, s1, due) :: rs)
theorem RowsX.same {H H' : Hp} (k : ∀ b o, H b = some o → H' b = some o) : ∀ {xs : List V} {rs : List (Sh × Sh × V)}, RowsX K H xs rs → RowsX K H' xs rs
  | _, _, .nil => .nil
  | _, _, .cons h t => .cons (h.same k) (t.same k)
theorem RowsX.app {H : Hp} : ∀ {xs ys : List V} {rs ts : List (Sh × Sh × V)}, RowsX K H xs rs → RowsX K H ys ts → RowsX K H (xs ++ ys) (rs ++ ts)
  | _, _, _, _, .nil, h => h
  | _, _, _, _, .cons a t, h => .cons a (t.app h)
theorem RowsX.at_ {H : Hp} : ∀ {xs : List V} {rs : List (Sh × Sh × V)}, RowsX K H xs rs → ∀ {i : Nat} {x : V}, xs[i]? = some x → ∃ r, r ∈ rs ∧ RowX K H x r.1 r.2.1 r.2.2
  | _, _, .nil, _, _, h => by simp at h
  | _, _, .cons a t, 0, _, h => by cases h; exact ⟨_, List.mem_cons_self, a⟩
  | _, _, .cons a t, i + 1, _, h => by
    obtain ⟨r, hr, e⟩ := t.at_ (i := i) h
    exact ⟨r, List.mem_cons_of_mem _ hr, e⟩
theorem RowsX.len {H : Hp} : ∀ {xs : List V} {rs : List (Sh × Sh × V)}, RowsX K H xs rs → xs.length = rs.length
  | _, _, .nil => rfl
  | _, _, .cons _ t => congrArg Nat.succ t.len
def RwE (K : PySem.W.Frag) (odd : V) (so : Sh) (t : TA) (σ : L2.St) (rs : List (Sh × Sh × V)) : Prop := ∀ (H : Hp) (R : List V → Hp → Prop), PElem K H odd so → (∀ vs H', (∀ b o, H b = some o → H' b = some o) → RowsX K H' vs rs → R vs H') → t σ H R
theorem rw_nil {odd : V} {so : Sh} {σ : L2.St} : RwE K odd so tNil σ [] := fun H R _ q => q [] H (fun _ _ h => h) .nil
theorem rw_cons {odd : V} {so s0 s1 : Sh} {σ : L2.St} {e0 e1 : TE} {due : V} {t : TA} {rs : List (Sh × Sh × V)} (a : ElE K odd so e0 σ s0) (b : ElE K odd so e1 σ s1) (h : RwE K odd so t σ rs) : RwE K odd so (tCons (tTup (tCons (tTup (tCons e0 (tCons e1 tNil))) (tCons (tC due) tNil))) t) σ ((s0, s1, due) :: rs) := fun H R p q => by
  refine g_cons ?_
  refine el_row a b p fun v H1 s1' r => ?_
  refine h _ _ (p.same s1') fun vs H2 s2 rr => ?_
  exact q _ _ (fun b o h => s2 _ _ (s1' _ _ h)) (.cons (r.same s2) rr)
end
end K56
set_option Elab.async false
set_option linter.all false
set_option maxRecDepth 100000
set_option maxHeartbeats 400000
namespace K56
open PySem PySem.Spec PyProof.Rows L2 WL
local macro_rules | `(tactic| walk_at "side") => `(tactic| first | (show (_ ∧ _) ∨ (_ ∧ _); omega) | (exact ⟨by omega, by omega⟩) | (show (0 : Int) < _; omega) | omega)
local macro_rules | `(tactic| walk_at "go") => `(tactic| (repeat (first
  | with_reducible refine g_seq ?_ | with_reducible refine g_asgN ?_ | with_reducible refine g_ret ?_ | with_reducible refine g_drop ?_ | with_reducible refine g_ifS ?_ | with_reducible refine g_next ?_
  | with_reducible refine g_var rfl ?_ | with_reducible refine g_c ?_ | with_reducible refine g_op ?_ | with_reducible refine g_un ?_ | with_reducible refine g_rI0 ?_ | ((with_reducible refine g_rI ?_ ?_); next => walk_at "side") | with_reducible refine g_test ?_ | with_reducible refine g_bl ?_
  | with_reducible refine g_nil ?_ | with_reducible refine g_cons ?_ | with_reducible refine g_call ?_ | with_reducible refine g_cb ?_ | with_reducible refine g_if ?_ | with_reducible refine g_par ?_ | with_reducible refine g_two ?_
  | with_reducible refine g_asg ?_ | with_reducible refine g_name ?_ | with_reducible refine g_sub ?_ | with_reducible refine g_yes ?_ | with_reducible refine g_gcons ?_ | with_reducible refine g_gnil ?_ | with_reducible refine g_dget ?_ | with_reducible refine g_dput ?_ | with_reducible refine g_rng1 ?_ | with_reducible refine g_rng2 ?_
  | ((with_reducible refine g_one ?_ ?_); next => omega) | ((with_reducible refine g_twoI ?_ ?_); next => omega) | with_reducible refine g_isNon ?_ | with_reducible refine g_andV ?_ | with_reducible refine g_revT ?_ | with_reducible refine g_itup ?_ | with_reducible refine g_methK0 ?_ | with_reducible refine g_methS ?_ | with_reducible refine g_errF ?_ | with_reducible refine g_prop ?_ | with_reducible refine g_con ?_ | with_reducible refine g_make ?_ | with_reducible refine g_fld ?_ | with_reducible refine g_sfld ?_ | with_reducible refine g_iftn ?_ | with_reducible refine g_iffn ?_ | with_reducible refine g_orV ?_ | with_reducible refine g_notV ?_ | with_reducible refine g_tB ?_ | with_reducible refine g_chain ?_ | with_reducible refine g_neg ?_ | with_reducible refine g_cval ?_ | with_reducible refine g_enumT ?_ | with_reducible refine g_andT ?_ | with_reducible refine g_orT ?_ | with_reducible refine g_notT ?_ | with_reducible refine g_sl ?_ | with_reducible refine g_part ?_ | with_reducible refine g_parI ?_ | with_reducible refine g_noPart ?_ | with_reducible refine g_pcons ?_ | with_reducible refine g_pnil ?_ | with_reducible refine g_list ?_ | with_reducible refine g_lc ?_ | with_reducible refine g_for ?_ | with_reducible refine g_enum ?_ | with_reducible refine g_ift ?_ | with_reducible refine g_iff ?_ | with_reducible refine And.intro rfl ?_ | with_reducible refine g_notNon ?_)))
local macro_rules | `(tactic| walk_at "ex") => `(tactic| (repeat (first
  | with_reducible refine g_seqAsg ?_ | with_reducible refine g_seqFld ?_ | with_reducible refine g_seqDrop ?_ | with_reducible refine g_seqPut ?_ | with_reducible refine g_seqPar ?_ | with_reducible refine g_asgN ?_ | with_reducible refine g_ret ?_ | with_reducible refine g_drop ?_ | with_reducible refine g_next ?_
  | with_reducible refine g_var rfl ?_ | with_reducible refine g_c ?_ | with_reducible refine g_op ?_ | with_reducible refine g_un ?_ | with_reducible refine g_rI0 ?_ | ((with_reducible refine g_rI ?_ ?_); next => walk_at "side") | with_reducible refine g_test ?_ | with_reducible refine g_bl ?_
  | with_reducible refine g_nil ?_ | with_reducible refine g_cons ?_ | with_reducible refine g_call ?_ | with_reducible refine g_cb ?_ | with_reducible refine g_if ?_ | with_reducible refine g_par ?_ | with_reducible refine g_two ?_
  | with_reducible refine g_asg ?_ | with_reducible refine g_name ?_ | with_reducible refine g_sub ?_ | with_reducible refine g_yes ?_ | with_reducible refine g_gcons ?_ | with_reducible refine g_gnil ?_ | with_reducible refine g_dget ?_ | with_reducible refine g_dput ?_ | with_reducible refine g_rng1 ?_ | with_reducible refine g_rng2 ?_
  | ((with_reducible refine g_one ?_ ?_); next => omega) | ((with_reducible refine g_twoI ?_ ?_); next => omega) | with_reducible refine g_isNon ?_ | with_reducible refine g_andV ?_ | with_reducible refine g_revT ?_ | with_reducible refine g_itup ?_ | with_reducible refine g_methK0 ?_ | with_reducible refine g_methS ?_ | with_reducible refine g_errF ?_ | with_reducible refine g_prop ?_ | with_reducible refine g_con ?_ | with_reducible refine g_make ?_ | with_reducible refine g_fld ?_ | with_reducible refine g_sfld ?_ | with_reducible refine g_iftn ?_ | with_reducible refine g_iffn ?_ | with_reducible refine g_orV ?_ | with_reducible refine g_notV ?_ | with_reducible refine g_tB ?_ | with_reducible refine g_chain ?_ | with_reducible refine g_neg ?_ | with_reducible refine g_cval ?_ | with_reducible refine g_enumT ?_ | with_reducible refine g_proj ?_ | with_reducible refine g_andT ?_ | with_reducible refine g_orT ?_ | with_reducible refine g_notT ?_ | with_reducible refine g_sl ?_ | with_reducible refine g_part ?_ | with_reducible refine g_parI ?_ | with_reducible refine g_noPart ?_ | with_reducible refine g_pcons ?_ | with_reducible refine g_pnil ?_ | with_reducible refine g_list ?_ | with_reducible refine g_lc ?_ | with_reducible refine g_enum ?_ | with_reducible refine g_ift ?_ | with_reducible refine g_iff ?_ | with_reducible refine And.intro rfl ?_ | with_reducible refine g_notNon ?_)))
section
variable {P : Program} {w : World} {K : PySem.W.Frag} {mg : Str → Option Value} {base : Heap} {f : Addr} {fd : FuncData} {DC IE ID MM : Addr}
theorem PElem.pr {m c g : Addr} {H H' : Hp} {B B' : Int} {v : V} {s : Sh} (h : PElem K H v s) (p : Pr m c g H H' B) (q : Pr m c g H H B') : PElem K H' v s := ⟨h.1.pr p q, fun pp r e1 e2 => p.tk q _ _ (h.2 pp r e1 e2)⟩
theorem OddP.pe {H : Hp} {v : V} (h : OddP K H v) : ∃ s, PElem K H v s ∧ pairVal 4 3 s = none := by
  obtain ⟨s, a, b, c⟩ := h
  exact ⟨s, ⟨a, c⟩, b⟩
theorem bad_first {s x : Sh} (h : pairVal 4 3 s = none) : badAt 4 3 [] [s, x] = some 0 := by
  unfold badAt
  rw [h]
  rfl
theorem bad_second {s x : Sh} {p : Nat × Nat} (h : pairVal 4 3 s = some p) (hx : pairVal 4 3 x = none) : badAt 4 3 [] [s, x] = some 1 := by
  unfold badAt
  rw [h]
  show (if takenBy p [] = true then _ else badAt 4 3 ([] ++ [p]) [x]) = _
  rw [if_neg (by unfold takenBy; simp)]
  unfold badAt
  rw [hx]
  rfl
theorem mis_shaped (j : Int) : SeqAt.shaped (.tuple [.str "Mismatch", .str "pair", .int j]) = true := by
  unfold SeqAt.shaped
  have e : (PyData.tuple [.str "Mismatch", .str "pair", .int j]).canLay0 = true := by
    show (PyData.strOk "Mismatch" && (PyData.strOk "pair" && (true && true))) = true
    decide +kernel
  rw [e, Bool.true_and]
  refine decide_eq_true ?_
  rw [PyData.depth.eq_2, PyData.depthAll.eq_2, PyData.depthAll.eq_2, PyData.depthAll.eq_2, PyData.depthAll.eq_1, PyData.depth.eq_7, PyData.depth.eq_7, PyData.depth.eq_6]
  decide
theorem mis_eqv {j : Int} : (PyData.tuple [.str "Mismatch", .str "pair", .int j]).eqv (.tuple [.str "Mismatch", .str "pair", .int j]) = true := by
  rw [PyData.eqv.eq_8, PyData.eqvAll.eq_2, PyData.eqvAll.eq_2, PyData.eqvAll.eq_2, PyData.eqvAll.eq_1, PyData.eqv.eq_6, PyData.eqv.eq_6, PyData.eqv.eq_5]
  simp
theorem misw_shaped (j : Int) : SeqAt.shaped (.tuple [.str "Mismatch", .str "weekday", .int j]) = true := by
  unfold SeqAt.shaped
  have e : (PyData.tuple [.str "Mismatch", .str "weekday", .int j]).canLay0 = true := by
    show (PyData.strOk "Mismatch" && (PyData.strOk "weekday" && (true && true))) = true
    decide +kernel
  rw [e, Bool.true_and]
  refine decide_eq_true ?_
  rw [PyData.depth.eq_2, PyData.depthAll.eq_2, PyData.depthAll.eq_2, PyData.depthAll.eq_2, PyData.depthAll.eq_1, PyData.depth.eq_7, PyData.depth.eq_7, PyData.depth.eq_6]
  decide
theorem misw_eqv {j : Int} : (PyData.tuple [.str "Mismatch", .str "weekday", .int j]).eqv (.tuple [.str "Mismatch", .str "weekday", .int j]) = true := by
  rw [PyData.eqv.eq_8, PyData.eqvAll.eq_2, PyData.eqvAll.eq_2, PyData.eqvAll.eq_2, PyData.eqvAll.eq_1, PyData.eqv.eq_6, PyData.eqv.eq_6, PyData.eqv.eq_5]
  simp
def spPairsR (TT : List (Addr × Str)) : Sp := fun vs H Q _ => ∃ (m cc g : Addr) (B b : Int), vs = [.ref m, .int b] ∧ Pr m cc g H H B ∧ B < 2 ^ 28 ∧ (2 ≤ b ∧ b ≤ 100) ∧ LamX.Tabs TT H ∧ ∀ H', Pr m cc g (noTab H) H' (B + 1) → LamX.Tabs TT H' → Q (.bl true) H'
theorem sc_pairs : FnScope ["m", "base", "near", "far", "bad", "odd", "some", "two", "due", "told"] ["m", "base"] (defScope s_law_pairs_right) := ⟨rfl, rfl, rfl, by decide +kernel, rfl, by decide +kernel, by decide +kernel⟩
theorem ok_pairs {TT : List (Addr × Str)} {c p : Addr} (hm : (p, (envOfC "_law_pairs_right" (defScope s_law_pairs_right) 0 0 .none).qual ++ "<lambda>") ∈ TT) (hu2 : ∀ r ∈ TT, r.1 = p → r.2 = (envOfC "_law_pairs_right" (defScope s_law_pairs_right) 0 0 .none).qual ++ "<lambda>") (F : FnT K "_law_pairs_right" s_law_pairs_right f fd) (ht : tabA K f = some (c, p)) (tb : LamX.TabB base mg c p) (T : Blt mg) (D : DiaF P w K mg base DC IE) (Td : ToldD P w K mg base MM ID) (hJoin : HasR P w K mg base (L2.CX P w) 9 "joined" (spJoinX K DC MM ID)) (hDraw : Has P w K mg base 2 "_law_draw" ["m", "top"] spDraw')
    {mc : Value} {po go : Addr} (crd : ClX.CRead K DC mc) (cmt : ClX.CMet K DC mc "of" po go) (okOf : FnR P w K mg base CX0 8 go (spOfG DC)) : GOk P w K mg base 12 f fd ["m", "base"] (spPairsR TT) := by
  refine gok_bodyC F ht sc_pairs (fun vs H Q E h => ?_) (fun A outer s H vs Q E hg hr h => ?_)
  · obtain ⟨m, cc, g, B, b, rfl, _⟩ := h
    rfl
  · obtain ⟨m, cc, g, B, b, rfl, hP, hB, hb, tabs, q⟩ := h
    have sc := sc_pairs
    have hu := hr.units
    refine ⟨_, (pss_cons (ps_asg (pe_tup (pa_cons (ClX.pe_cmeth (E := E0) (pe_ref D.at_.at_) crd cmt okOf (hr.mono (by decide)) pass0 (pa_cons (pv 1) (pa_cons pe_int (pa_cons pe_non (pa_cons pe_int (pa_cons pe_non pa_nil)))))) (pa_cons (ClX.pe_cmeth (E := E0) (pe_ref D.at_.at_) crd cmt okOf (hr.mono (by decide)) pass0 (pa_cons (pv 1) (pa_cons pe_int (pa_cons pe_non (pa_cons pe_int pa_nil))))) pa_nil))) (pg_tup rfl (pgs_cons (pg_name (i := 2) sc.nd rfl (Or.inr rfl)) (pgs_cons (pg_name (i := 3) sc.nd rfl (Or.inr rfl)) pgs_nil))))
      (pss_cons (ps_set (i := 4) sc.nd rfl (Or.inl rfl) (pe_lst (pa_cons pe_non (pa_cons (pe_tup pa_nil) (pa_cons (pe_tup (pa_cons pe_int pa_nil)) (pa_cons (pe_tup (pa_cons pe_int (pa_cons pe_int (pa_cons pe_int pa_nil)))) (pa_cons (pe_lst (pa_cons pe_int (pa_cons pe_int pa_nil))) (pa_cons (pe_tup (pa_cons pe_int (pa_cons pe_int pa_nil))) (pa_cons (pe_tup (pa_cons pe_int (pa_cons pe_int pa_nil))) (pa_cons (pe_tup (pa_cons (pe_un un_neg pe_int) (pa_cons pe_int pa_nil))) (pa_cons (pe_tup (pa_cons pe_bl (pa_cons pe_int pa_nil))) (pa_cons (pe_tup (pa_cons pe_int (pa_cons pe_str pa_nil))) (pa_cons (pe_tup (pa_cons pe_int (pa_cons pe_non pa_nil))) (pa_cons pe_int (pa_cons pe_str pa_nil)))))))))))))))
      (pss_cons (ps_set (i := 5) sc.nd rfl (Or.inl rfl) (pe_ix ix_list (pv 4) (pe_has hDraw hr (by decide) (pa_cons (pv 0) (pa_cons pe_int pa_nil))) (fun _ _ => rfl)))
      (pss_cons (ps_set (i := 6) sc.nd rfl (Or.inl rfl) (pe_lst (pa_cons (pe_tup (pa_cons (pe_tup (pa_cons (pv 5) (pa_cons pe_non pa_nil))) (pa_cons pe_int pa_nil))) (pa_cons (pe_tup (pa_cons (pe_tup (pa_cons (pe_tup (pa_cons pe_int (pa_cons pe_int pa_nil))) (pa_cons (pv 5) pa_nil))) (pa_cons pe_int pa_nil))) (pa_cons (pe_tup (pa_cons (pe_tup (pa_cons (pe_tup (pa_cons pe_int (pa_cons pe_int pa_nil))) (pa_cons (pe_tup (pa_cons pe_int (pa_cons pe_int pa_nil))) pa_nil))) (pa_cons pe_int pa_nil))) (pa_cons (pe_tup (pa_cons (pe_tup (pa_cons (pe_tup (pa_cons pe_int (pa_cons pe_int pa_nil))) (pa_cons (pe_tup (pa_cons pe_int (pa_cons pe_int pa_nil))) pa_nil))) (pa_cons pe_int pa_nil))) (pa_cons (pe_tup (pa_cons (pe_tup (pa_cons (pe_tup (pa_cons pe_int (pa_cons pe_int pa_nil))) (pa_cons (pe_tup (pa_cons pe_int (pa_cons pe_int pa_nil))) pa_nil))) (pa_cons pe_int pa_nil))) pa_nil)))))))
      (pss_cons (ps_set (i := 6) sc.nd rfl (Or.inl rfl) (pe_op op_cat (pv 6) (pe_lst (pa_cons (pe_tup (pa_cons (pe_tup (pa_cons (pe_tup (pa_cons pe_int (pa_cons pe_int pa_nil))) (pa_cons (pv 5) pa_nil))) (pa_cons pe_int pa_nil))) (pa_cons (pe_tup (pa_cons (pe_tup (pa_cons (pe_tup (pa_cons pe_int (pa_cons pe_int pa_nil))) (pa_cons (pe_tup (pa_cons pe_int (pa_cons pe_int pa_nil))) pa_nil))) (pa_cons pe_int pa_nil))) pa_nil)))))
      (pss_cons (ps_for PassesOwn.never rfl (pi_list (pv 6)) (pg_tup rfl (pgs_cons (pg_name (i := 7) sc.nd rfl (Or.inr rfl)) (pgs_cons (pg_name (i := 8) sc.nd rfl (Or.inl rfl)) pgs_nil)))
        (pss_one (ps_if (pt_cmpR (op_neD hu) (pe_toldcall (T := TT) (k := 9) (t := fun E => tCallR (spJoinX K DC MM ID) E (tCons (tVar 2) (tCons (tVar 3) (tCons (tOp (rIxT K) (tVar 7) (tC (.int 0))) (tCons (tOp (rIxT K) (tVar 7) (tC (.int 1))) tNil))))) Td (by rfl) tb rfl hm hu2 hr (LamX.lamS_by (by rfl)) rfl (fun _ _ _ _ _ => rfl) (fun A outer s H E f c' hr' => by exact (pe_joinL hJoin hr' (by decide) (by exact (pa_cons (pv 2) (pa_cons (pv 3) (pa_cons (pe_ix (r := rIxT K) ix_tup (pv 7) pe_int (fun _ _ => rfl)) (pa_cons (pe_ix (r := rIxT K) ix_tup (pv 7) pe_int (fun _ _ => rfl)) pa_nil)))))))) (pe_tup (pa_cons pe_str (pa_cons pe_str (pa_cons (pv 8) pa_nil)))) (nomark _))
          (pss_one (ps_ret pe_bl))
          pss_nil)))
      (pss_cons (ps_set (i := 6) sc.nd rfl (Or.inl rfl) (pe_lst (pa_cons (pe_tup (pa_cons (pe_tup (pa_cons (pe_tup (pa_cons pe_int (pa_cons pe_int pa_nil))) (pa_cons (pe_tup (pa_cons pe_int (pa_cons pe_int pa_nil))) pa_nil))) (pa_cons pe_int pa_nil))) (pa_cons (pe_tup (pa_cons (pe_tup (pa_cons (pe_tup (pa_cons pe_int (pa_cons pe_int pa_nil))) (pa_cons (pe_tup (pa_cons pe_int (pa_cons pe_int pa_nil))) pa_nil))) (pa_cons pe_int pa_nil))) (pa_cons (pe_tup (pa_cons (pe_tup (pa_cons (pe_tup (pa_cons pe_int (pa_cons pe_int pa_nil))) (pa_cons (pe_tup (pa_cons pe_int (pa_cons pe_int pa_nil))) pa_nil))) (pa_cons pe_int pa_nil))) (pa_cons (pe_tup (pa_cons (pe_tup (pa_cons (pe_tup (pa_cons pe_int (pa_cons pe_int pa_nil))) (pa_cons (pe_tup (pa_cons pe_int (pa_cons pe_int pa_nil))) pa_nil))) (pa_cons pe_non pa_nil))) pa_nil))))))
      (pss_cons (ps_for PassesOwn.never rfl (pi_list (pv 6)) (pg_tup rfl (pgs_cons (pg_name (i := 7) sc.nd rfl (Or.inr rfl)) (pgs_cons (pg_name (i := 8) sc.nd rfl (Or.inl rfl)) pgs_nil)))
        (pss_cons (ps_set (i := 9) sc.nd rfl (Or.inl rfl) (pe_toldcall (T := TT) (k := 9) (t := fun E => tCallR (spJoinX K DC MM ID) E (tCons (tVar 2) (tCons (tVar 3) (tCons (tOp (rIxT K) (tVar 7) (tC (.int 0))) (tCons (tOp (rIxT K) (tVar 7) (tC (.int 1))) tNil))))) Td (by rfl) tb rfl hm hu2 hr (LamX.lamS_by (by rfl)) rfl (fun _ _ _ _ _ => rfl) (fun A outer s H E f c' hr' => by exact (pe_joinL hJoin hr' (by decide) (by exact (pa_cons (pv 2) (pa_cons (pv 3) (pa_cons (pe_ix (r := rIxT K) ix_tup (pv 7) pe_int (fun _ _ => rfl)) (pa_cons (pe_ix (r := rIxT K) ix_tup (pv 7) pe_int (fun _ _ => rfl)) pa_nil)))))))))
        (pss_one (ps_if (PW.pt (pw_or (PW.pt (pw_and (pt_cmpR op_notN (pv 8) pe_non (nomark _)) (pw_and1 (pt_cmpR (op_neD hu) (pv 9) (pe_tup (pa_cons pe_str (pa_cons pe_str (pa_cons (pv 8) pa_nil)))) (nomark _))))) (pw_or1 (PW.pt (pw_and (pt_cmpR op_isN (pv 8) pe_non (nomark _)) (pw_and1 (pt_not (pt_val (pe_callB call_isi (by rfl) T.isinstance (by decide +kernel) (pa_cons (pv 9) (pa_cons (pe_bltn (v := .ty "list") (by rfl) T.list (by decide +kernel) rfl) pa_nil)))))))))))
          (pss_one (ps_ret pe_bl))
          pss_nil))))
      (pss_one (ps_ret pe_bl)))))))))), ?_⟩
    have okA : DOK b [some 0, none, some 1, none] [] 1 := ⟨hb.1, hb.2, by decide, by decide, fun i hi => by
      simp at hi
      rcases hi with rfl | rfl
      · exact ⟨by decide, by omega⟩
      · exact ⟨by decide, by omega⟩, fun l hl => by cases hl⟩
    have okB : DOK b [some 1, none, some 0] [] 1 := ⟨hb.1, hb.2, by decide, by decide, fun i hi => by
      simp at hi
      rcases hi with rfl | rfl
      · exact ⟨by decide, by omega⟩
      · exact ⟨by decide, by omega⟩, fun l hl => by cases hl⟩
    walk_at "go"
    refine g_tup' ?_
    walk_at "go"
    refine g_cmeth ?_
    walk_at "go"
    refine ⟨b, [some 0, none, some 1, none], rfl, okA, fun x1 H1 nx1 dA s1 => ?_⟩
    walk_at "go"
    refine g_cmeth ?_
    walk_at "go"
    refine ⟨b, [some 1, none, some 0], rfl, okB, fun x2 H2 nx2 dB s2' => ?_⟩
    have s2 : ∀ b o, H b = some o → H2 b = some o := fun b o h => s2' _ _ (s1 _ _ h)
    have dA2 := dA.same s2'
    walk_at "go"
    refine ⟨sz (by simp), fun p3 np3 => ?_⟩
    have s3 := same_up (o := .tup [.ref x1, .ref x2]) np3 s2
    have dA3 := dA2.same (same_up (o := .tup [.ref x1, .ref x2]) np3 fun _ _ h => h)
    have dB3 := dB.same (same_up (o := .tup [.ref x1, .ref x2]) np3 fun _ _ h => h)
    refine g_tupg (K := K) (SqT.of upd_same) rfl ?_
    generalize upd H2 p3 (.tup [.ref x1, .ref x2]) = H3 at s3 dA3 dB3 ⊢
    walk_at "go"
    refine g_lst' ?_
    show badTs _ _ _
    refine odd_bad (K := K) _ _ fun bad H4 s4 o4 l4 => ?_
    refine ⟨sz (by rw [l4]; decide), fun Lb nLb => ?_⟩
    have s5' := same_up (o := .lst bad) nLb s4
    have s5 : ∀ b o, H b = some o → upd H4 Lb (.lst bad) b = some o := fun b o h => s5' _ _ (s3 _ _ h)
    have dA5 := dA3.same s5'
    have dB5 := dB3.same s5'
    have o5 : ∀ v ∈ bad, OddP K (upd H4 Lb (.lst bad)) v := fun v hv => (o4 v hv).same (same_up nLb fun _ _ h => h)
    have hLb : upd H4 Lb (.lst bad) Lb = some (.lst bad) := upd_same
    have nLbH : H Lb = none := none_up (none_up nLb s4) s3
    generalize upd H4 Lb (.lst bad) = H5 at s5 dA5 dB5 o5 hLb ⊢
    have P5 := hP.of_same s5
    obtain ⟨u1, u2, u3⟩ := hP.ne nLbH hP
    have t5 := tabs.ext s5
    walk_at "go"
    refine ⟨m, cc, g, B, _, rfl, P5.self, by omega, ⟨by decide, by decide⟩, fun k H6 a6 b6 q6 => ?_⟩
    have P6 := P5.trans q6
    have dA6 := dA5.keep (q6.tk P5.self) (q6.ik P5.self)
    have dB6 := dB5.keep (q6.tk P5.self) (q6.ik P5.self)
    have t6 := Tabs.pr t5 q6 P5.self
    walk_at "go"
    refine g_ixPick (K := K) (SqL.of (q6.keep hLb u1 u3)) a6 (by rw [l4]; exact b6) fun odd hodd => ?_
    obtain ⟨so, pe5, hso⟩ := (o5 odd hodd).pe
    have pe6 := pe5.pr q6 P5.self
    walk_at "go"
    refine g_lst' ?_
    refine (rw_cons (el_var rfl) (el_lit .none rfl) (rw_cons (el_lit (.tuple [.int 1, .int 1]) rfl) (el_var rfl) (rw_cons (el_lit (.tuple [.int 1, .int 1]) rfl) (el_lit (.tuple [.int 1, .int 2]) rfl) (rw_cons (el_lit (.tuple [.int 1, .int 1]) rfl) (el_lit (.tuple [.int 3, .int 1]) rfl) (rw_cons (el_lit (.tuple [.int 0, .int 1]) rfl) (el_lit (.tuple [.int 0, .int 1]) rfl) rw_nil)))) : RwE K odd so _ _ _) _ _ pe6 fun rows1 H7 s7 r7 => ?_
    refine ⟨sz (by rw [r7.len]; simp), fun L1 nL1 => ?_⟩
    have s8 := same_up (o := .lst rows1) nL1 s7
    have r8 := r7.same (same_up (o := .lst rows1) nL1 fun _ _ h => h)
    have pe8 := pe6.same s8
    have hL1 : upd H7 L1 (.lst rows1) L1 = some (.lst rows1) := upd_same
    generalize upd H7 L1 (.lst rows1) = H8 at s8 r8 pe8 hL1 ⊢
    walk_at "go"
    refine g_lst' ?_
    refine (rw_cons (el_lit (.tuple [.int 0, .int 0]) rfl) (el_var rfl) (rw_cons (el_lit (.tuple [.int 1, .int 0]) rfl) (el_lit (.tuple [.int 0, .int 0]) rfl) rw_nil) : RwE K odd so _ _ _) _ _ pe8 fun rows2 H9 s9 r9 => ?_
    refine ⟨sz (by rw [r9.len]; simp), fun L2 nL2 => ?_⟩
    have s10 := same_up (o := .lst rows2) nL2 s9
    have r10 := r9.same (same_up (o := .lst rows2) nL2 fun _ _ h => h)
    have r81 := r8.same s10
    have hL11 := s10 _ _ hL1
    have hL2 : upd H9 L2 (.lst rows2) L2 = some (.lst rows2) := upd_same
    generalize upd H9 L2 (.lst rows2) = H10 at s10 r10 r81 hL11 hL2 ⊢
    refine ⟨L1, L2, _, _, rfl, rfl, hL11, hL2, sz (by rw [r7.len, r9.len]; simp), fun L nL => ?_⟩
    have s11 := same_up (o := .lst (rows1 ++ rows2)) nL s10
    have rA := (r81.app r10).same (same_up (o := .lst (rows1 ++ rows2)) nL fun _ _ h => h)
    have hL : upd H10 L (.lst (rows1 ++ rows2)) L = some (.lst (rows1 ++ rows2)) := upd_same
    generalize upd H10 L (.lst (rows1 ++ rows2)) = H11 at s11 rA hL ⊢
    have s611 : ∀ b o, H6 b = some o → H11 b = some o := fun b o h => s11 _ _ (s8 _ _ h)
    have dA11 := dA6.same s611
    have dB11 := dB6.same s611
    have P11 : Pr m cc g H H11 (B + 1) := P6.trans (P6.self.of_same s611)
    have t11 := t6.ext s611
    clear r7 r8 r9 r10 r81 pe8 hL1 hL11 hL2 s7 s8 s9 s10 s11
    walk_at "go"
    refine ⟨L, rfl, ⟨_, SqL.of hL⟩, ?_⟩
    refine ForQ.list (xs := rows1 ++ rows2) (fun i σ H' => (∃ y7 y8 y9, σ = [some (.ref m), some (.int b), some (.ref x1), some (.ref x2), some (.ref Lb), some odd, some (.ref L), y7, y8, y9]) ∧ LamX.ExtN H11 H' ∧ LamX.Tabs TT H') ⟨⟨_, _, _, rfl⟩, LamX.ExtN.of fun _ _ h => h, t11⟩ (fun i σ H' _ h => SqL.of (h.2.1 _ _ hL (fun ps z => nomatch z))) ?_ ?_
    · rintro i x σ H12 hx ⟨⟨y7, y8, y9, rfl⟩, e12, t12⟩
      obtain ⟨r, hr', rx⟩ := rA.at_ hx
      obtain ⟨j, ej, hbad⟩ : ∃ j : Nat, r.2.2 = .int (j : Nat) ∧ badAt 4 3 [] [r.1, r.2.1] = some j := by
        simp only [List.cons_append, List.nil_append, List.mem_cons, List.not_mem_nil, or_false] at hr'
        rcases hr' with rfl | rfl | rfl | rfl | rfl | rfl | rfl
        · exact ⟨0, rfl, bad_first hso⟩
        · exact ⟨1, rfl, bad_second (p := (1, 1)) rfl hso⟩
        · exact ⟨1, rfl, by decide +kernel⟩
        · exact ⟨1, rfl, by decide +kernel⟩
        · exact ⟨1, rfl, by decide +kernel⟩
        · exact ⟨1, rfl, bad_second (p := (0, 0)) rfl hso⟩
        · exact ⟨1, rfl, by decide +kernel⟩
      obtain ⟨s0, s1', due⟩ := r
      simp only at ej hbad rx
      subst ej
      obtain ⟨a, sa, v0, v1, rfl, ha, hsa, p0, p1⟩ := rx.ext e12
      have dA12 := dA11.keep (Tk.ext e12) (Ik.ext e12)
      have dB12 := dB11.keep (Tk.ext e12) (Ik.ext e12)
      refine g_tupg (K := K) (SqT.of ha) rfl ?_
      walk_at "go"
      refine g_lam t12 fun H13 e13 t13 H14 s14 Q1 hQ1 => ?_
      have dA13 := dA12.keep (Tk.ext e13) (Ik.ext e13)
      have dB13 := dB12.keep (Tk.ext e13) (Ik.ext e13)
      have hsa14 := s14 _ _ (Tk.ext e13 _ _ hsa)
      obtain ⟨ans, dir⟩ := pelems ((p0.ext e13).same s14) ((p1.ext e13).same s14)
      refine g_callR ?_
      walk_at "go"
      refine g_ixT (K := K) (SqT.of hsa14) (atI_at (by decide) rfl) ?_
      walk_at "go"
      refine g_ixT (K := K) (SqT.of hsa14) (atI_at (by decide) rfl) ?_
      walk_at "go"
      refine ⟨.ref x1, .ref x2, [v0, v1], [s0, s1'], b, b, 1, _, _, _, _, rfl, dA13.same s14, dB13.same s14, ans, by simp, dir, okA, okB, by simp, by simp, by decide, joinq_pair (i := j) hbad fun d H15 s15 nd => ?_⟩
      refine ⟨d, .str "pair", .int (j : Nat), rfl, Or.inl ⟨rfl, upd_same, fun p' H16 np16 s16 h16 => ?_⟩⟩
      have s1316 : ∀ b o, H13 b = some o → H16 b = some o := fun b o h => s16 _ _ (same_up nd (fun b o h => s15 _ _ (s14 _ _ h)) _ _ h)
      walk_at "go"
      refine g_tup' ?_
      walk_at "go"
      refine ⟨sz (by simp), fun p17 np17 => ?_⟩
      refine g_neD (K := K) (d := .tuple [.str "Mismatch", .str "pair", .int (j : Nat)]) (e := .tuple [.str "Mismatch", .str "pair", .int (j : Nat)]) (.tup (SqT.of (kp np17 h16)) (.cons (.str _) (.cons (.str _) (.cons (.int _) .nil)))) (.tup (SqT.of upd_same) (.cons (.str _) (.cons (.str _) (.cons (.int _) .nil)))) (mis_shaped _) (mis_shaped _) ?_
      rw [mis_eqv]
      have s1317 := same_up (o := .tup [.str "Mismatch", .str "pair", .int (j : Nat)]) np17 s1316
      generalize upd H16 p17 (.tup [.str "Mismatch", .str "pair", .int (j : Nat)]) = H17 at s1317 ⊢
      walk_at "go"
      exact ⟨⟨_, _, _, rfl⟩, (e12.trans e13).trans (LamX.ExtN.of s1317), t13.ext s1317⟩
    · rintro σ H12 ⟨⟨y7, y8, y9, rfl⟩, e12, t12⟩
      have dA12 := dA11.keep (Tk.ext e12) (Ik.ext e12)
      have dB12 := dB11.keep (Tk.ext e12) (Ik.ext e12)
      walk_at "go"
      refine g_lst' ?_
      show litTs [triD [(0, 0), (1, 1)] (.int 0), triD [(1, 1), (0, 0)] (.int 1), triD [(2, 2), (0, 0)] (.int 0), triD [(3, 0), (0, 2)] .none] _ _ _
      refine g_lits _ (by decide +kernel) fun rows H13 s13 f13 => ?_
      refine ⟨sz (by rw [f13.length]; decide), fun M nM => ?_⟩
      have s14 := same_up (o := .lst rows) nM s13
      have f14 := f13.tk (Tk.new (o := .lst rows) nM)
      have hM : upd H13 M (.lst rows) M = some (.lst rows) := upd_same
      generalize upd H13 M (.lst rows) = H14 at s14 f14 hM ⊢
      have e14 : LamX.ExtN H11 H14 := e12.trans (LamX.ExtN.of s14)
      have t14 := t12.ext s14
      have dA14 := dA12.same s14
      have dB14 := dB12.same s14
      walk_at "go"
      refine ⟨M, rfl, ⟨_, SqL.of hM⟩, ?_⟩
      refine ForQ.list (xs := rows) (fun i σ H' => (∃ y7 y8 y9, σ = [some (.ref m), some (.int b), some (.ref x1), some (.ref x2), some (.ref Lb), some odd, some (.ref M), y7, y8, y9]) ∧ LamX.ExtN H14 H' ∧ LamX.Tabs TT H') ⟨⟨_, _, _, rfl⟩, LamX.ExtN.of fun _ _ h => h, t14⟩ (fun i σ H' _ h => SqL.of (h.2.1 _ _ hM (fun ps z => nomatch z))) ?_ ?_
      · rintro i x σ H15 hx ⟨⟨z7, z8, z9, rfl⟩, e15, t15⟩
        have dA15 := dA14.keep (Tk.ext e15) (Ik.ext e15)
        have dB15 := dB14.keep (Tk.ext e15) (Ik.ext e15)
        have f15 := f14.tk (Tk.ext e15)
        obtain ⟨ps, dd, due, fx, hps, hbad, hdue⟩ : ∃ (ps : List (Nat × Nat)) (dd : PyData) (due : V), Fz H15 x (triD ps dd) ∧ ps.length = 2 ∧ badAt 4 3 [] (ps.map pairSh) = none ∧
            ((∃ (j : Nat) (hj : j < ps.length), dd = .int (j : Nat) ∧ due = .int (j : Nat) ∧ (∀ (k : Nat) (h : k < ps.length), k < j → clash [some 0, none, some 1, none] [some 1, none, some 0] ps[k] = false) ∧ clash [some 0, none, some 1, none] [some 1, none, some 0] ps[j] = true) ∨
              (dd = .none ∧ due = .non ∧ ∀ p ∈ ps, clash [some 0, none, some 1, none] [some 1, none, some 0] p = false)) := by
          match i, hx with
          | 0, hx =>
            obtain ⟨v, e, z⟩ := f15.get_d (i := 0) rfl
            rw [hx] at e
            cases e
            exact ⟨_, _, .int 0, z, rfl, by decide +kernel, Or.inl ⟨0, by decide, rfl, rfl, fun k h c => absurd c (Nat.not_lt_zero _), by decide +kernel⟩⟩
          | 1, hx =>
            obtain ⟨v, e, z⟩ := f15.get_d (i := 1) rfl
            rw [hx] at e
            cases e
            exact ⟨_, _, .int 1, z, rfl, by decide +kernel, Or.inl ⟨1, by decide, rfl, rfl, fun k h c => by
              have : k = 0 := by omega
              subst this
              exact (by decide +kernel : clash [some 0, none, some 1, none] [some 1, none, some 0] (1, 1) = false), by decide +kernel⟩⟩
          | 2, hx =>
            obtain ⟨v, e, z⟩ := f15.get_d (i := 2) rfl
            rw [hx] at e
            cases e
            exact ⟨_, _, .int 0, z, rfl, by decide +kernel, Or.inl ⟨0, by decide, rfl, rfl, fun k h c => absurd c (Nat.not_lt_zero _), by decide +kernel⟩⟩
          | 3, hx =>
            obtain ⟨v, e, z⟩ := f15.get_d (i := 3) rfl
            rw [hx] at e
            cases e
            exact ⟨_, _, .non, z, rfl, by decide +kernel, Or.inr ⟨rfl, rfl, by decide +kernel⟩⟩
          | i + 4, hx =>
            have z := (List.getElem?_eq_some_iff.mp hx).1
            have e : rows.length = 4 := f14.length
            omega
        obtain ⟨a, xs, rfl, ha, hxs⟩ := Fz.tup_inv fx
        match xs, hxs with
        | [w1, w2], .cons k1 (.cons k2 .nil) =>
          obtain ⟨sa, srow, rfl, hsa, hsr⟩ := Fz.tup_inv k1
          have ew : w2 = due := by
            rcases hdue with ⟨j, _, rfl, rfl, _⟩ | ⟨rfl, rfl, _⟩
            · exact k2.int_inv
            · cases k2; rfl
          subst ew
          have sl : srow.length = 2 := by rw [hsr.length, List.length_map, hps]
          refine g_tupg (K := K) (SqT.of ha) rfl ?_
          walk_at "go"
          obtain ⟨r0, r1, rfl⟩ := len2 sl
          refine g_lam t15 fun H16 e16 t16 H17 s17 Q1 hQ1 => ?_
          have dA16 := dA15.keep (Tk.ext e16) (Ik.ext e16)
          have dB16 := dB15.keep (Tk.ext e16) (Ik.ext e16)
          have hsa17 := s17 _ _ (Tk.ext e16 _ _ hsa)
          obtain ⟨ans, dir⟩ := anss_pairs (K := K) ((hsr.tk (Tk.ext e16)).tk (Tk.same s17))
          refine g_callR ?_
          walk_at "go"
          refine g_ixT (K := K) (SqT.of hsa17) (atI_at (by decide) rfl) ?_
          walk_at "go"
          refine g_ixT (K := K) (SqT.of hsa17) (atI_at (by decide) rfl) ?_
          walk_at "go"
          rcases hdue with ⟨j, hj, rfl, rfl, hno, hcl⟩ | ⟨rfl, rfl, hno⟩
          · refine ⟨.ref x1, .ref x2, [r0, r1], ps.map pairSh, b, b, 1, _, _, _, _, rfl, dA16.same s17, dB16.same s17, ans, by simp, dir, okA, okB, by simp, by simp, by decide, joinq_clash (ps := ps) (i := j) rfl hbad hj hno hcl fun d H18 s18 nd => ?_⟩
            refine ⟨d, .str "weekday", .int (j : Nat), rfl, Or.inl ⟨rfl, upd_same, fun p' H19 np19 s19 h19 => ?_⟩⟩
            have s1619 : ∀ b o, H16 b = some o → H19 b = some o := fun b o h => s19 _ _ (same_up nd (fun b o h => s18 _ _ (s17 _ _ h)) _ _ h)
            walk_at "go"
            refine g_iftn ?_
            walk_at "go"
            refine g_tup' ?_
            walk_at "go"
            refine ⟨sz (by simp), fun p20 np20 => ?_⟩
            refine g_neD (K := K) (d := .tuple [.str "Mismatch", .str "weekday", .int (j : Nat)]) (e := .tuple [.str "Mismatch", .str "weekday", .int (j : Nat)]) (.tup (SqT.of (kp np20 h19)) (.cons (.str _) (.cons (.str _) (.cons (.int _) .nil)))) (.tup (SqT.of upd_same) (.cons (.str _) (.cons (.str _) (.cons (.int _) .nil)))) (misw_shaped _) (misw_shaped _) ?_
            rw [misw_eqv]
            have s1620 := same_up (o := .tup [.str "Mismatch", .str "weekday", .int (j : Nat)]) np20 s1619
            generalize upd H19 p20 (.tup [.str "Mismatch", .str "weekday", .int (j : Nat)]) = H20 at s1620 ⊢
            walk_at "go"
            rw [if_neg (show ¬ decide (V.int (j : Nat) = V.non) = true by simp)]
            walk_at "go"
            exact ⟨⟨_, _, _, rfl⟩, (e15.trans e16).trans (LamX.ExtN.of s1620), t16.ext s1620⟩
          · refine ⟨.ref x1, .ref x2, [r0, r1], ps.map pairSh, b, b, 1, _, _, _, _, rfl, dA16.same s17, dB16.same s17, ans, by simp, dir, okA, okB, by simp, by simp, by decide, joinq_fine (ps := ps) rfl hbad hno ⟨fun h => absurd h (by rw [hps]; decide), fun _ h => absurd h (by decide), fun _ _ x3 H18 nx3 d18 s18 => ?_⟩⟩
            refine hQ1 _ _ fun p' H19 np19 s19 h19 => ?_
            have s1619 : ∀ b o, H16 b = some o → H19 b = some o := fun b o h => s19 _ _ (s18 _ _ (s17 _ _ h))
            walk_at "go"
            rw [if_neg (show ¬ (!decide (V.non = V.non)) = true by decide)]
            walk_at "go"
            rw [if_pos (show decide (V.non = V.non) = true by decide)]
            walk_at "go"
            refine g_isi (K := K) (s := .lst) (.lst (SqL.of h19)) (isi_lst K) ?_
            walk_at "go"
            exact ⟨⟨_, _, _, rfl⟩, (e15.trans e16).trans (LamX.ExtN.of s1619), t16.ext s1619⟩
      · rintro σ H15 ⟨⟨z7, z8, z9, rfl⟩, e15, t15⟩
        walk_at "go"
        have eAll : LamX.ExtN H11 H15 := e14.trans e15
        exact q _ (Pr.out P11 fun b o h => eAll _ _ (noTab_of h).1 (noTab_of h).2) t15
end
end K56
set_option Elab.async false
set_option linter.all false
set_option maxRecDepth 100000
set_option maxHeartbeats 400000
namespace K56
open PySem PySem.Spec PyProof.Rows L2 WL
local macro_rules | `(tactic| walk_at "side") => `(tactic| first | (show (_ ∧ _) ∨ (_ ∧ _); omega) | (exact ⟨by omega, by omega⟩) | (show (0 : Int) < _; omega) | omega)
local macro_rules | `(tactic| walk_at "go") => `(tactic| (repeat (first
  | with_reducible refine g_seq ?_ | with_reducible refine g_asgN ?_ | with_reducible refine g_ret ?_ | with_reducible refine g_drop ?_ | with_reducible refine g_ifS ?_ | with_reducible refine g_next ?_
  | with_reducible refine g_var rfl ?_ | with_reducible refine g_c ?_ | with_reducible refine g_op ?_ | with_reducible refine g_un ?_ | with_reducible refine g_rI0 ?_ | ((with_reducible refine g_rI ?_ ?_); next => walk_at "side") | with_reducible refine g_test ?_ | with_reducible refine g_bl ?_
  | with_reducible refine g_nil ?_ | with_reducible refine g_cons ?_ | with_reducible refine g_call ?_ | with_reducible refine g_cb ?_ | with_reducible refine g_if ?_ | with_reducible refine g_par ?_ | with_reducible refine g_two ?_
  | with_reducible refine g_asg ?_ | with_reducible refine g_name ?_ | with_reducible refine g_sub ?_ | with_reducible refine g_yes ?_ | with_reducible refine g_gcons ?_ | with_reducible refine g_gnil ?_ | with_reducible refine g_dget ?_ | with_reducible refine g_dput ?_ | with_reducible refine g_rng1 ?_ | with_reducible refine g_rng2 ?_
  | ((with_reducible refine g_one ?_ ?_); next => omega) | ((with_reducible refine g_twoI ?_ ?_); next => omega) | with_reducible refine g_isNon ?_ | with_reducible refine g_andV ?_ | with_reducible refine g_revT ?_ | with_reducible refine g_itup ?_ | with_reducible refine g_methK0 ?_ | with_reducible refine g_methS ?_ | with_reducible refine g_errF ?_ | with_reducible refine g_prop ?_ | with_reducible refine g_con ?_ | with_reducible refine g_make ?_ | with_reducible refine g_fld ?_ | with_reducible refine g_sfld ?_ | with_reducible refine g_iftn ?_ | with_reducible refine g_iffn ?_ | with_reducible refine g_orV ?_ | with_reducible refine g_notV ?_ | with_reducible refine g_tB ?_ | with_reducible refine g_chain ?_ | with_reducible refine g_neg ?_ | with_reducible refine g_cval ?_ | with_reducible refine g_enumT ?_ | with_reducible refine g_andT ?_ | with_reducible refine g_orT ?_ | with_reducible refine g_notT ?_ | with_reducible refine g_sl ?_ | with_reducible refine g_part ?_ | with_reducible refine g_parI ?_ | with_reducible refine g_noPart ?_ | with_reducible refine g_pcons ?_ | with_reducible refine g_pnil ?_ | with_reducible refine g_list ?_ | with_reducible refine g_lc ?_ | with_reducible refine g_for ?_ | with_reducible refine g_enum ?_ | with_reducible refine g_ift ?_ | with_reducible refine g_iff ?_ | with_reducible refine And.intro rfl ?_ | with_reducible refine g_notNon ?_)))
local macro_rules | `(tactic| walk_at "ex") => `(tactic| (repeat (first
  | with_reducible refine g_seqAsg ?_ | with_reducible refine g_seqFld ?_ | with_reducible refine g_seqDrop ?_ | with_reducible refine g_seqPut ?_ | with_reducible refine g_seqPar ?_ | with_reducible refine g_asgN ?_ | with_reducible refine g_ret ?_ | with_reducible refine g_drop ?_ | with_reducible refine g_next ?_
  | with_reducible refine g_var rfl ?_ | with_reducible refine g_c ?_ | with_reducible refine g_op ?_ | with_reducible refine g_un ?_ | with_reducible refine g_rI0 ?_ | ((with_reducible refine g_rI ?_ ?_); next => walk_at "side") | with_reducible refine g_test ?_ | with_reducible refine g_bl ?_
  | with_reducible refine g_nil ?_ | with_reducible refine g_cons ?_ | with_reducible refine g_call ?_ | with_reducible refine g_cb ?_ | with_reducible refine g_if ?_ | with_reducible refine g_par ?_ | with_reducible refine g_two ?_
  | with_reducible refine g_asg ?_ | with_reducible refine g_name ?_ | with_reducible refine g_sub ?_ | with_reducible refine g_yes ?_ | with_reducible refine g_gcons ?_ | with_reducible refine g_gnil ?_ | with_reducible refine g_dget ?_ | with_reducible refine g_dput ?_ | with_reducible refine g_rng1 ?_ | with_reducible refine g_rng2 ?_
  | ((with_reducible refine g_one ?_ ?_); next => omega) | ((with_reducible refine g_twoI ?_ ?_); next => omega) | with_reducible refine g_isNon ?_ | with_reducible refine g_andV ?_ | with_reducible refine g_revT ?_ | with_reducible refine g_itup ?_ | with_reducible refine g_methK0 ?_ | with_reducible refine g_methS ?_ | with_reducible refine g_errF ?_ | with_reducible refine g_prop ?_ | with_reducible refine g_con ?_ | with_reducible refine g_make ?_ | with_reducible refine g_fld ?_ | with_reducible refine g_sfld ?_ | with_reducible refine g_iftn ?_ | with_reducible refine g_iffn ?_ | with_reducible refine g_orV ?_ | with_reducible refine g_notV ?_ | with_reducible refine g_tB ?_ | with_reducible refine g_chain ?_ | with_reducible refine g_neg ?_ | with_reducible refine g_cval ?_ | with_reducible refine g_enumT ?_ | with_reducible refine g_proj ?_ | with_reducible refine g_andT ?_ | with_reducible refine g_orT ?_ | with_reducible refine g_notT ?_ | with_reducible refine g_sl ?_ | with_reducible refine g_part ?_ | with_reducible refine g_parI ?_ | with_reducible refine g_noPart ?_ | with_reducible refine g_pcons ?_ | with_reducible refine g_pnil ?_ | with_reducible refine g_list ?_ | with_reducible refine g_lc ?_ | with_reducible refine g_enum ?_ | with_reducible refine g_ift ?_ | with_reducible refine g_iff ?_ | with_reducible refine And.intro rfl ?_ | with_reducible refine g_notNon ?_)))
section
variable {P : Program} {w : World} {K : PySem.W.Frag} {mg : Str → Option Value} {base : Heap} {f : Addr} {fd : FuncData} {DC IE ID MM : Addr}
def spSizesR (TT : List (Addr × Str)) : Sp := fun vs H Q _ => ∃ (m cc g : Addr) (B b : Int), vs = [.ref m, .int b] ∧ Pr m cc g H H B ∧ B < 2 ^ 28 ∧ (2 ≤ b ∧ b ≤ 100) ∧ LamX.Tabs TT H ∧ ∀ H', Pr m cc g (noTab H) H' (B + 2) → LamX.Tabs TT H' → Q (.bl true) H'
theorem tabs_put {T : List (Addr × Str)} {H : Hp} {L : Addr} {xs ys : List V} (t : LamX.Tabs T H) (h : H L = some (.lst xs)) : LamX.Tabs T (upd H L (.lst ys)) := fun r hr => by
  obtain ⟨ps, e, ok, h2⟩ := t r hr
  have n1 : r.1 ≠ L := fun z => by rw [z, h] at e; cases e
  refine ⟨ps, by rw [upd_ne n1]; exact e, ok, fun pos cv hc => ?_⟩
  obtain ⟨c', e1, e2⟩ := h2 pos cv hc
  have n2 : c' ≠ L := fun z => by rw [z, h] at e2; cases e2
  exact ⟨c', e1, by rw [upd_ne n2]; exact e2⟩
theorem sc_law : FnScope ["script", "m", "bout", "base", "near", "far", "found"] ["script"] (defScope s_law) := ⟨rfl, rfl, rfl, by decide +kernel, rfl, by decide +kernel, by decide +kernel⟩
theorem ok_law {TT : List (Addr × Str)} {c p : Addr} (hm : (p, (envOfC "law" (defScope s_law) 0 0 .none).qual ++ "<lambda>") ∈ TT) (hu2 : ∀ r ∈ TT, r.1 = p → r.2 = (envOfC "law" (defScope s_law) 0 0 .none).qual ++ "<lambda>") (F : FnT K "law" s_law f fd) (ht : tabA K f = some (c, p)) (tb : LamX.TabB base mg c p) (T : Blt mg) (D : DiaF P w K mg base DC IE) (Td : ToldD P w K mg base MM ID) (hJoin : HasR P w K mg base (L2.CX P w) 9 "joined" (spJoinX K DC MM ID)) (hDraw : Has P w K mg base 2 "_law_draw" ["m", "top"] spDraw') (hBegun : Has P w K mg base 2 "_law_begun" ["script"] (spBegun K))
    (hPairs : HasG P w K mg base 12 "_law_pairs_right" ["m", "base"] (spPairsR TT)) (hSizes : HasG P w K mg base 12 "_law_sizes_right" ["m", "base"] (spSizesR TT)) (hThree : HasG P w K mg base 12 "_law_three_right" ["base"] (spFirst TT)) (hFirst : HasG P w K mg base 12 "_law_first_right" ["base"] (spFirst TT))
    {mc : Value} {po go : Addr} (crd : ClX.CRead K DC mc) (cmt : ClX.CMet K DC mc "of" po go) (okOf : FnR P w K mg base CX0 8 go (spOfG DC)) : GOk P w K mg base 13 f fd ["script"] (spLawT K TT) := by
  refine gok_bodyC F ht sc_law (fun vs H Q E h => ?_) (fun A outer s H vs Q E hg hr h => ?_)
  · obtain ⟨a, ns, rfl, _⟩ := h
    rfl
  · obtain ⟨a, ns, rfl, hS, hlen, tabs, q⟩ := h
    have sc := sc_law
    have hu := hr.units
    refine ⟨_, (pss_cons (ps_set (i := 1) sc.nd rfl (Or.inl rfl) (pe_has hBegun hr (by decide) (pa_cons (pv 0) pa_nil)))
      (pss_cons (ps_for PassesOwn.never rfl (pi_range1 (by rfl) T.range (pa_cons pe_int pa_nil)) (pg_name (i := 2) sc.nd rfl (Or.inl rfl))
        (pss_cons (ps_set (i := 3) sc.nd rfl (Or.inl rfl) (pe_op op_add pe_int (pe_has hDraw hr (by decide) (pa_cons (pv 1) (pa_cons pe_int pa_nil)))))
        (pss_cons (ps_if (PW.pt (pw_or (pt_not (pt_val (pe_hasG hPairs hg hr (by decide) (pa_cons (pv 1) (pa_cons (pv 3) pa_nil))))) (pw_or1 (pt_not (pt_val (pe_hasG hSizes hg hr (by decide) (pa_cons (pv 1) (pa_cons (pv 3) pa_nil))))))))
          (pss_one (ps_ret pe_bl))
          pss_nil)
        (pss_cons (ps_if (PW.pt (pw_or (pt_not (pt_val (pe_hasG hThree hg hr (by decide) (pa_cons (pv 3) pa_nil)))) (pw_or1 (pt_not (pt_val (pe_hasG hFirst hg hr (by decide) (pa_cons (pv 3) pa_nil)))))))
          (pss_one (ps_ret pe_bl))
          pss_nil)
        (pss_cons (ps_asg (pe_tup (pa_cons (ClX.pe_cmeth (E := E0) (pe_ref D.at_.at_) crd cmt okOf (hr.mono (by decide)) pass0 (pa_cons (pv 3) (pa_cons pe_int pa_nil))) (pa_cons (ClX.pe_cmeth (E := E0) (pe_ref D.at_.at_) crd cmt okOf (hr.mono (by decide)) pass0 (pa_cons (pe_op op_add (pv 3) pe_int) (pa_cons pe_int pa_nil))) pa_nil))) (pg_tup rfl (pgs_cons (pg_name (i := 4) sc.nd rfl (Or.inr rfl)) (pgs_cons (pg_name (i := 5) sc.nd rfl (Or.inr rfl)) pgs_nil))))
        (pss_cons (ps_set (i := 6) sc.nd rfl (Or.inl rfl) (pe_lst (pa_cons (pe_toldcall (T := TT) (k := 9) (t := fun E => tCallR (spJoinX K DC MM ID) E (tCons (tVar 4) (tCons (tVar 5) tNil))) Td (by rfl) tb rfl hm hu2 (hr.mono (by decide)) (LamX.lamS_by (by rfl)) rfl (fun _ _ _ _ _ => rfl) (fun A outer s H E f c' hr' => by exact (pe_joinL hJoin hr' (by decide) (by exact (pa_cons (pv 4) (pa_cons (pv 5) pa_nil)))))) pa_nil)))
        (pss_cons (ps_expr (pe_bm PySem.F.plainAttrs_list PySem.F.slot_list_append PySem.F.type_list_append mt_append (pv 6) (pa_cons (pe_toldcall (T := TT) (k := 9) (t := fun E => tCallR (spJoinX K DC MM ID) E (tCons (tVar 5) (tCons (tVar 4) (tCons (tC .non) tNil)))) Td (by rfl) tb rfl hm hu2 (hr.mono (by decide)) (LamX.lamS_by (by rfl)) rfl (fun _ _ _ _ _ => rfl) (fun A outer s H E f c' hr' => by exact (pe_joinL hJoin hr' (by decide) (by exact (pa_cons (pv 5) (pa_cons (pv 4) (pa_cons pe_non pa_nil))))))) pa_nil)))
        (pss_one (ps_if (pt_cmpR (op_neD hu) (pv 6) (pe_op op_rep (pe_lst (pa_cons (pe_tup (pa_cons pe_str (pa_cons pe_str (pa_cons pe_non pa_nil)))) pa_nil)) pe_int) (nomark _))
          (pss_one (ps_ret pe_bl))
          pss_nil)))))))))
      (pss_one (ps_ret pe_bl)))), ?_⟩
    walk_at "ex"
    refine ⟨a, ns, rfl, hS, hlen, fun m cc g H1 d1 s1 => ?_⟩
    have P1 : Pr m cc g H1 H1 0 := Pr.refl d1 (by decide)
    have t1 := tabs.ext s1
    walk_at "ex"
    refine g_seq ?_
    walk_at "go"
    refine ForQ.range (fun i σ H' => (∃ y2 y3 y4 y5 y6, σ = [some (.ref a), some (.ref m), y2, y3, y4, y5, y6]) ∧ Pr m cc g H' H' (10 * i) ∧ LamX.Tabs TT H') ⟨⟨_, _, _, _, _, rfl⟩, P1.le (by omega), t1⟩ ?_ ?_
    · rintro i σ H2 hi ⟨⟨y2, y3, y4, y5, y6, rfl⟩, P2, t2⟩
      have hi' : i < 5 := hi
      walk_at "go"
      refine ⟨m, cc, g, _, _, rfl, P2, by omega, ⟨by decide, by decide⟩, fun k H3 a3 b3 q3 => ?_⟩
      have t3 := Tabs.pr t2 q3 P2
      walk_at "go"
      refine ⟨m, cc, g, _, 2 + k, rfl, q3.self, by omega, ⟨by omega, by omega⟩, t3, fun H4 q4 t4 => ?_⟩
      walk_at "go"
      refine ⟨m, cc, g, _, 2 + k, rfl, q4.self, by omega, ⟨by omega, by omega⟩, t4, fun H5 q5 t5 => ?_⟩
      walk_at "go"
      refine ⟨2 + k, rfl, ⟨by omega, by omega⟩, t5, fun H6 e6 t6 => ?_⟩
      walk_at "go"
      refine ⟨2 + k, rfl, ⟨by omega, by omega⟩, t6, fun H7 e7 t7 => ?_⟩
      have P7 : Pr m cc g H7 H7 (10 * i + 10) := ((q5.self.ext (e6.trans e7))).le (by omega)
      walk_at "go"
      have okA : DOK (2 + k) [some 0] [] 1 := ⟨by omega, by omega, by decide, by decide, fun i hi => by
        simp at hi
        subst hi
        exact ⟨by decide, by omega⟩, fun l hl => by cases hl⟩
      have okB : DOK (2 + k + 1) [some 0] [] 1 := ⟨by omega, by omega, by decide, by decide, fun i hi => by
        simp at hi
        subst hi
        exact ⟨by decide, by omega⟩, fun l hl => by cases hl⟩
      refine g_tup' ?_
      walk_at "go"
      refine g_cmeth ?_
      walk_at "go"
      refine ⟨2 + k, [some 0], rfl, okA, fun x1 H8 nx1 dA s8 => ?_⟩
      walk_at "go"
      refine g_cmeth ?_
      walk_at "go"
      refine ⟨2 + k + 1, [some 0], rfl, okB, fun x2 H9 nx2 dB s9 => ?_⟩
      have s79 : ∀ b o, H7 b = some o → H9 b = some o := fun b o h => s9 _ _ (s8 _ _ h)
      have dA9 := dA.same s9
      walk_at "go"
      refine ⟨sz (by simp), fun p3 np3 => ?_⟩
      have s10 := same_up (o := .tup [.ref x1, .ref x2]) np3 s79
      have dA10 := dA9.same (same_up (o := .tup [.ref x1, .ref x2]) np3 fun _ _ h => h)
      have dB10 := dB.same (same_up (o := .tup [.ref x1, .ref x2]) np3 fun _ _ h => h)
      refine g_tupg (K := K) (SqT.of upd_same) rfl ?_
      generalize upd H9 p3 (.tup [.ref x1, .ref x2]) = H10 at s10 dA10 dB10 ⊢
      have t10 := t7.ext s10
      have e10 : LamX.ExtN H7 H10 := LamX.ExtN.of s10
      walk_at "go"
      refine g_lst' ?_
      walk_at "go"
      refine g_lam t10 fun H11 e11 t11 H12 s12 Q1 hQ1 => ?_
      have dA11 := dA10.keep (Tk.ext e11) (Ik.ext e11)
      have dB11 := dB10.keep (Tk.ext e11) (Ik.ext e11)
      refine g_callR ?_
      walk_at "go"
      refine ⟨.ref x1, .ref x2, [], [], 2 + k, 2 + k + 1, 1, _, _, _, _, rfl, dA11.same s12, dB11.same s12, .nil, by simp, fun i r pp h => by simp at h, okA, okB, by simp, by simp, by decide, joinq_mod (by omega) fun d H13 s13 nd => ?_⟩
      refine ⟨d, .str "modulus", .non, rfl, Or.inl ⟨rfl, upd_same, fun p' H14 np14 s14 h14 => ?_⟩⟩
      have s1114 : ∀ b o, H11 b = some o → H14 b = some o := fun b o h => s14 _ _ (same_up nd (fun b o h => s13 _ _ (s12 _ _ h)) _ _ h)
      walk_at "go"
      refine ⟨sz (by simp), fun L nL => ?_⟩
      have s1115 := same_up (o := .lst [.ref p']) nL s1114
      have h15 := kp (o' := .lst [.ref p']) nL h14
      have P14 : Pr m cc g H14 H14 (10 * i + 10) := P7.ext ((e10.trans e11).trans (LamX.ExtN.of s1114))
      have neL := P14.ne nL P14
      have hL : upd H14 L (.lst [.ref p']) L = some (.lst [.ref p']) := upd_same
      generalize upd H14 L (.lst [.ref p']) = H15 at s1115 h15 hL ⊢
      have t15 := t11.ext s1115
      have e15 : LamX.ExtN H7 H15 := (e10.trans e11).trans (LamX.ExtN.of s1115)
      have dA15 := dA11.same s1115
      have dB15 := dB11.same s1115
      walk_at "go"
      refine g_bmL (i := 6) rfl hL ?_
      walk_at "go"
      refine g_lam t15 fun H16 e16 t16 H17 s17 Q2 hQ2 => ?_
      have dA16 := dA15.keep (Tk.ext e16) (Ik.ext e16)
      have dB16 := dB15.keep (Tk.ext e16) (Ik.ext e16)
      refine g_callR ?_
      walk_at "go"
      refine ⟨.ref x2, .ref x1, [.non], [.non], 2 + k + 1, 2 + k, 1, _, _, _, _, rfl, dB16.same s17, dA16.same s17, .cons .non .nil, by simp, fun i r pp h => by
        match i, h with
        | 0, h => cases h
        | i + 1, h => simp at h, okB, okA, by simp, by simp, by decide, joinq_mod (by omega) fun d2 H18 s18 nd2 => ?_⟩
      refine ⟨d2, .str "modulus", .non, rfl, Or.inl ⟨rfl, upd_same, fun p2 H19 np19 s19 h19 => ?_⟩⟩
      have s1619 : ∀ b o, H16 b = some o → H19 b = some o := fun b o h => s19 _ _ (same_up nd2 (fun b o h => s18 _ _ (s17 _ _ h)) _ _ h)
      have hL19 := s1619 _ _ (e16 _ _ hL (fun ps z => nomatch z))
      have h1519 := s1619 _ _ (e16 _ _ h15 (fun ps z => nomatch z))
      walk_at "go"
      refine g_app hL19 (szl (by simp)) ?_
      have t19 := t16.ext s1619
      have P19 : Pr m cc g H19 H19 (10 * i + 10) := P7.ext ((e15.trans e16).trans (LamX.ExtN.of s1619))
      have ne1 : p' ≠ L := fun e => by rw [e, hL19] at h1519; cases h1519
      have ne2 : p2 ≠ L := fun e => by rw [e, hL19] at h19; cases h19
      have h20a : upd H19 L (.lst ([.ref p'] ++ [.ref p2])) p' = some (.tup [.str "Mismatch", .str "modulus", .non]) := by rw [upd_ne ne1]; exact h1519
      have h20b : upd H19 L (.lst ([.ref p'] ++ [.ref p2])) p2 = some (.tup [.str "Mismatch", .str "modulus", .non]) := by rw [upd_ne ne2]; exact h19
      have hL20 : upd H19 L (.lst ([.ref p'] ++ [.ref p2])) L = some (.lst [.ref p', .ref p2]) := upd_same
      have t20 := tabs_put (ys := [.ref p'] ++ [.ref p2]) t19 hL19
      have P20 : Pr m cc g (upd H19 L (.lst ([.ref p'] ++ [.ref p2]))) (upd H19 L (.lst ([.ref p'] ++ [.ref p2]))) (10 * i + 10) := by
        obtain ⟨n, hn, d⟩ := P19.dr
        exact ⟨⟨n, hn, d.upd neL.1 neL.2.1 neL.2.2⟩, But.refl⟩
      generalize upd H19 L (.lst ([.ref p'] ++ [.ref p2])) = H20 at h20a h20b hL20 t20 P20 ⊢
      walk_at "go"
      refine ⟨sz (by simp), fun p21 np21 => ?_⟩
      walk_at "go"
      refine ⟨sz (by simp), fun p22 np22 => ?_⟩
      walk_at "go"
      refine g_rep upd_same (by decide) (by decide) (by simp) fun p23 np23 => ?_
      have hx21 : H20 p21 = none := np21
      have k20 : ∀ b o, H20 b = some o → upd (upd (upd H20 p21 (.tup [.str "Mismatch", .str "modulus", .non])) p22 (.lst [.ref p21])) p23 (.lst (List.replicate (2 : Int).toNat [.ref p21]).flatten) b = some o := fun b o h => kp np23 (kp np22 (kp np21 h))
      have hr21 := kp (o' := .lst (List.replicate (2 : Int).toNat [.ref p21]).flatten) np23 (kp (o' := .lst [.ref p21]) np22 (upd_same (H := H20) (a := p21) (o := .tup [.str "Mismatch", .str "modulus", .non])))
      have dm : ∀ {HH : Hp} {q : Addr}, HH q = some (.tup [.str "Mismatch", .str "modulus", .non]) → Dp K HH (.ref q) (.tuple [.str "Mismatch", .str "modulus", .none]) := fun h => .tup (SqT.of h) (.cons (.str _) (.cons (.str _) (.cons .non .nil)))
      refine g_neD (K := K) (d := .list [.tuple [.str "Mismatch", .str "modulus", .none], .tuple [.str "Mismatch", .str "modulus", .none]]) (e := .list [.tuple [.str "Mismatch", .str "modulus", .none], .tuple [.str "Mismatch", .str "modulus", .none]]) (.lst (SqL.of (k20 _ _ hL20)) (.cons (dm (k20 _ _ h20a)) (.cons (dm (k20 _ _ h20b)) .nil))) (.lst (SqL.of upd_same) (.cons (dm hr21) (.cons (dm hr21) .nil))) (by decide +kernel) (by decide +kernel) ?_
      refine ⟨false, by decide +kernel, ?_⟩
      walk_at "go"
      have e20 := LamX.ExtN.of k20
      refine ⟨⟨_, _, _, _, _, rfl⟩, (P20.ext e20).le (by omega), t20.ext k20⟩
    · rintro σ H2 ⟨⟨y2, y3, y4, y5, y6, rfl⟩, P2, t2⟩
      walk_at "go"
      exact q _
end
end K56
set_option Elab.async false
set_option linter.all false
set_option maxRecDepth 100000
set_option maxHeartbeats 400000
namespace K56
open PySem PySem.Spec PyProof.Rows L2 WL
local macro_rules | `(tactic| walk_at "side") => `(tactic| first | (show (_ ∧ _) ∨ (_ ∧ _); omega) | (exact ⟨by omega, by omega⟩) | (show (0 : Int) < _; omega) | omega)
local macro_rules | `(tactic| walk_at "go") => `(tactic| (repeat (first
  | with_reducible refine g_seq ?_ | with_reducible refine g_asgN ?_ | with_reducible refine g_ret ?_ | with_reducible refine g_drop ?_ | with_reducible refine g_ifS ?_ | with_reducible refine g_next ?_
  | with_reducible refine g_var rfl ?_ | with_reducible refine g_c ?_ | with_reducible refine g_op ?_ | with_reducible refine g_un ?_ | with_reducible refine g_rI0 ?_ | ((with_reducible refine g_rI ?_ ?_); next => walk_at "side") | with_reducible refine g_test ?_ | with_reducible refine g_bl ?_
  | with_reducible refine g_nil ?_ | with_reducible refine g_cons ?_ | with_reducible refine g_call ?_ | with_reducible refine g_cb ?_ | with_reducible refine g_if ?_ | with_reducible refine g_par ?_ | with_reducible refine g_two ?_
  | with_reducible refine g_asg ?_ | with_reducible refine g_name ?_ | with_reducible refine g_sub ?_ | with_reducible refine g_yes ?_ | with_reducible refine g_gcons ?_ | with_reducible refine g_gnil ?_ | with_reducible refine g_dget ?_ | with_reducible refine g_dput ?_ | with_reducible refine g_rng1 ?_ | with_reducible refine g_rng2 ?_
  | ((with_reducible refine g_one ?_ ?_); next => omega) | ((with_reducible refine g_twoI ?_ ?_); next => omega) | with_reducible refine g_isNon ?_ | with_reducible refine g_andV ?_ | with_reducible refine g_revT ?_ | with_reducible refine g_itup ?_ | with_reducible refine g_methK0 ?_ | with_reducible refine g_methS ?_ | with_reducible refine g_errF ?_ | with_reducible refine g_prop ?_ | with_reducible refine g_con ?_ | with_reducible refine g_make ?_ | with_reducible refine g_fld ?_ | with_reducible refine g_sfld ?_ | with_reducible refine g_iftn ?_ | with_reducible refine g_iffn ?_ | with_reducible refine g_orV ?_ | with_reducible refine g_notV ?_ | with_reducible refine g_tB ?_ | with_reducible refine g_chain ?_ | with_reducible refine g_neg ?_ | with_reducible refine g_cval ?_ | with_reducible refine g_enumT ?_ | with_reducible refine g_andT ?_ | with_reducible refine g_orT ?_ | with_reducible refine g_notT ?_ | with_reducible refine g_sl ?_ | with_reducible refine g_part ?_ | with_reducible refine g_parI ?_ | with_reducible refine g_noPart ?_ | with_reducible refine g_pcons ?_ | with_reducible refine g_pnil ?_ | with_reducible refine g_list ?_ | with_reducible refine g_lc ?_ | with_reducible refine g_for ?_ | with_reducible refine g_enum ?_ | with_reducible refine g_ift ?_ | with_reducible refine g_iff ?_ | with_reducible refine And.intro rfl ?_ | with_reducible refine g_notNon ?_)))
local macro_rules | `(tactic| walk_at "ex") => `(tactic| (repeat (first
  | with_reducible refine g_seqAsg ?_ | with_reducible refine g_seqFld ?_ | with_reducible refine g_seqDrop ?_ | with_reducible refine g_seqPut ?_ | with_reducible refine g_seqPar ?_ | with_reducible refine g_asgN ?_ | with_reducible refine g_ret ?_ | with_reducible refine g_drop ?_ | with_reducible refine g_next ?_
  | with_reducible refine g_var rfl ?_ | with_reducible refine g_c ?_ | with_reducible refine g_op ?_ | with_reducible refine g_un ?_ | with_reducible refine g_rI0 ?_ | ((with_reducible refine g_rI ?_ ?_); next => walk_at "side") | with_reducible refine g_test ?_ | with_reducible refine g_bl ?_
  | with_reducible refine g_nil ?_ | with_reducible refine g_cons ?_ | with_reducible refine g_call ?_ | with_reducible refine g_cb ?_ | with_reducible refine g_if ?_ | with_reducible refine g_par ?_ | with_reducible refine g_two ?_
  | with_reducible refine g_asg ?_ | with_reducible refine g_name ?_ | with_reducible refine g_sub ?_ | with_reducible refine g_yes ?_ | with_reducible refine g_gcons ?_ | with_reducible refine g_gnil ?_ | with_reducible refine g_dget ?_ | with_reducible refine g_dput ?_ | with_reducible refine g_rng1 ?_ | with_reducible refine g_rng2 ?_
  | ((with_reducible refine g_one ?_ ?_); next => omega) | ((with_reducible refine g_twoI ?_ ?_); next => omega) | with_reducible refine g_isNon ?_ | with_reducible refine g_andV ?_ | with_reducible refine g_revT ?_ | with_reducible refine g_itup ?_ | with_reducible refine g_methK0 ?_ | with_reducible refine g_methS ?_ | with_reducible refine g_errF ?_ | with_reducible refine g_prop ?_ | with_reducible refine g_con ?_ | with_reducible refine g_make ?_ | with_reducible refine g_fld ?_ | with_reducible refine g_sfld ?_ | with_reducible refine g_iftn ?_ | with_reducible refine g_iffn ?_ | with_reducible refine g_orV ?_ | with_reducible refine g_notV ?_ | with_reducible refine g_tB ?_ | with_reducible refine g_chain ?_ | with_reducible refine g_neg ?_ | with_reducible refine g_cval ?_ | with_reducible refine g_enumT ?_ | with_reducible refine g_proj ?_ | with_reducible refine g_andT ?_ | with_reducible refine g_orT ?_ | with_reducible refine g_notT ?_ | with_reducible refine g_sl ?_ | with_reducible refine g_part ?_ | with_reducible refine g_parI ?_ | with_reducible refine g_noPart ?_ | with_reducible refine g_pcons ?_ | with_reducible refine g_pnil ?_ | with_reducible refine g_list ?_ | with_reducible refine g_lc ?_ | with_reducible refine g_enum ?_ | with_reducible refine g_ift ?_ | with_reducible refine g_iff ?_ | with_reducible refine And.intro rfl ?_ | with_reducible refine g_notNon ?_)))
section
variable {P : Program} {w : World} {K : PySem.W.Frag} {mg : Str → Option Value} {base : Heap} {f : Addr} {fd : FuncData} {DC IE ID MM : Addr}
theorem noTab2 (H : Hp) : noTab (noTab H) = noTab H := by
  funext b
  cases e : noTab H b with
  | none =>
    show (match noTab H b with | some (.tbl _) => none | o => o) = none
    rw [e]
  | some o => exact noTab_at e (noTab_of e).2
theorem Pr.out2 {m c g : Addr} {H HA H' : Hp} {B : Int} (p : Pr m c g (noTab H) HA B) (s : LamX.ExtN HA H') : Pr m c g (noTab H) H' B := by
  have z := Pr.out p fun b o h => s b o (noTab_of h).1 (noTab_of h).2
  rwa [noTab2] at z
theorem noTab_self {H : Hp} {m c g : Addr} {B : Int} {H' : Hp} (p : Pr m c g H H' B) : Pr m c g (noTab H) H' B := ⟨p.dr, fun b o n1 n2 h => p.but b o n1 n2 (noTab_of h).1⟩
theorem bad_no {a b : Nat} : badAt a b [] [.non] = some 0 := rfl
theorem bad_zero {a b : Nat} (ha : 1 ≤ a) (hb : 1 ≤ b) : badAt a b [] [pairSh (0, 0)] = none := by
  have e : pairVal a b (pairSh (0, 0)) = some (0, 0) := by
    show (if ((0 : Int) ≤ 0 ∧ (0 : Int) < a) ∧ ((0 : Int) ≤ 0 ∧ (0 : Int) < b) then some ((0 : Int).toNat, (0 : Int).toNat) else none) = some (0, 0)
    rw [if_pos ⟨⟨by omega, by omega⟩, ⟨by omega, by omega⟩⟩]
    rfl
  unfold badAt
  rw [e]
  rfl
theorem nones_at {H : Hp} {a : Addr} {n : Nat} (h : H a = some (.tup (List.replicate n V.non))) : Fz H (.ref a) (notesD (List.replicate n none)) := fz_notes (by rw [List.map_replicate]; exact h)
theorem no_lines {H : Hp} {a : Addr} (h : H a = some (.tup [])) : Fz H (.ref a) (linesD []) := .tup h .nil
theorem getD_nones (n i : Nat) : (List.replicate n (none : Option Int)).getD i none = none := by
  rw [List.getD_eq_getElem?_getD, List.getElem?_replicate]
  split <;> rfl
theorem jok_zero {n1 n2 : List (Option Int)} (h1 : 1 ≤ n1.length) (h2 : 1 ≤ n2.length) (hn : n1.getD 0 none = none) : JOK [(0, 0)] n1 n2 :=
  ⟨fun p hp => by rw [List.mem_singleton.mp hp]; exact h1, fun p hp => by rw [List.mem_singleton.mp hp]; exact h2, by decide, by decide, fun p hp => by rw [List.mem_singleton.mp hp]; exact Or.inl hn⟩
theorem g_callRK {m : Nat} {sp : Sp} {E : XK} {t : TA} {σ : L2.St} {H : Hp} {Q : VK} (h : t σ H fun vs H1 => vs.length = m ∧ sp vs H1 Q E) : tCallRK m sp E t σ H Q := h
theorem pairs_at {H : Hp} {pt : Addr} (hpt : H pt = some (.tup [.int 0, .int 0])) : ∀ (i : Nat) (r : Addr) (p : Nat × Nat), [V.ref pt][i]? = some (V.ref r) → [pairSh (0, 0)][i]? = some (pairSh p) → H r = some (.tup [.int (p.1 : Nat), .int (p.2 : Nat)]) := fun i r pp h1 h2 => by
  match i, h1, h2 with
  | 0, h1, h2 =>
    cases h1
    have e := pairSh_inj (Option.some.inj h2)
    subst e
    exact hpt
  | i + 1, h1, _ => simp at h1
/-- joined(other=a, one=b) -/
def spJoinK (K : PySem.W.Frag) (DC MM ID : Addr) : Sp := fun vs H Q E => ∃ a b, vs = [a, b] ∧ spJoinX K DC MM ID [b, a] H Q E
theorem ok_joinedK (F : FnT K "joined" s_joined f fd) (T : Blt mg) (X : Ev2 P K mg "Mismatch" "part" "spot" MM) (D : DiaF P w K mg base DC IE) (DX : DiaX P w K mg base DC ID) (hNeed : HasE P w K mg base 4 "need_pairs" ["one", "other", "pairs"] (spNeedPairsX K DC MM)) (hAgree : HasE P w K mg base 3 "need_agreement" ["one", "other", "pairs"] (spAgreeX DC MM)) (hNew : Has P w K mg base 3 "new_numbers" ["one", "other", "pairs"] (spNewNums DC)) : FnRK P w K mg base (L2.CX P w) 9 f 0 ["other", "one"] (spJoinK K DC MM ID) := by
  obtain ⟨oc, od, dV, kV, dc, pm, an, cdv, ct, osl, rfl, lk, hcd, hdV, _⟩ := F.ex
  have ed : dV = .none := hdV.elim (fun z => z.2) (fun z => absurd rfl z.1)
  subst ed
  intro A outer s H us ws vs zs Q E hr e0 r rz l1 l2 hq
  refine fn_starSw (P := P) (w := w) (K := K) (mg := mg) (base := base) (CX := L2.CX P w) (k := 8) (p1 := "one") (p2 := "other") (pv := "pairs") (sp := spJoinXT K DC MM ID) lk hcd sc_joined StX.cxUp (fun a b => rfl) (fun A outer s H vs Q E hr h => ok_joinedXT T X D DX hNeed hAgree hNew A outer s H vs Q E hr h) A outer s H us ws vs zs Q E hr e0 r rz l1 l2 ?_
  obtain ⟨a, b, e, q⟩ := hq
  refine ⟨a, b, e, fun p np => ?_⟩
  obtain ⟨wsl, rest, e1, e2, e3, q⟩ := join_starX _ _ _ _ q
  match wsl, e2, e1 with
  | [x, y], _, e1 =>
    cases e1
    exact q p np
theorem sc_sizes : FnScope ["m", "base", "many", "near", "far"] ["m", "base"] (defScope s_law_sizes_right) := ⟨rfl, rfl, rfl, by decide +kernel, rfl, by decide +kernel, by decide +kernel⟩
theorem ok_sizes {TT : List (Addr × Str)} {c p : Addr} (hm : (p, (envOfC "_law_sizes_right" (defScope s_law_sizes_right) 0 0 .none).qual ++ "<lambda>") ∈ TT) (hu2 : ∀ r ∈ TT, r.1 = p → r.2 = (envOfC "_law_sizes_right" (defScope s_law_sizes_right) 0 0 .none).qual ++ "<lambda>") (F : FnT K "_law_sizes_right" s_law_sizes_right f fd) (ht : tabA K f = some (c, p)) (tb : LamX.TabB base mg c p) (T : Blt mg) (D : DiaF P w K mg base DC IE) (Td : ToldD P w K mg base MM ID) (hJoin : HasR P w K mg base (L2.CX P w) 9 "joined" (spJoinX K DC MM ID)) (hJoinK : HasRK P w K mg base (L2.CX P w) 9 "joined" ["other", "one"] (spJoinK K DC MM ID)) (hDraw : Has P w K mg base 2 "_law_draw" ["m", "top"] spDraw') : GOk P w K mg base 12 f fd ["m", "base"] (spSizesR TT) := by
  refine gok_bodyC F ht sc_sizes (fun vs H Q E h => ?_) (fun A outer s H vs Q E hg hr h => ?_)
  · obtain ⟨m, cc, g, B, b, rfl, _⟩ := h
    rfl
  · obtain ⟨m, cc, g, B, b, rfl, hP, hB, hb, tabs, q⟩ := h
    have sc := sc_sizes
    have hu := hr.units
    refine ⟨_, (pss_cons (ps_set (i := 2) sc.nd rfl (Or.inl rfl) (pe_op op_add pe_int (pe_has hDraw hr (by decide) (pa_cons (pv 0) (pa_cons pe_int pa_nil)))))
      (pss_cons (ps_asg (pe_tup (pa_cons (pe_mkD D hr (by decide) (pa_cons (pv 1) (pa_cons (pe_op op_repT1 (pe_tup (pa_cons pe_non pa_nil)) (pv 2)) (pa_cons (pe_tup pa_nil) pa_nil)))) (pa_cons (pe_mkD D hr (by decide) (pa_cons (pv 1) (pa_cons (pe_op op_repT1 (pe_tup (pa_cons pe_non pa_nil)) (pe_op op_sub pe_int (pv 2))) (pa_cons (pe_tup pa_nil) pa_nil)))) pa_nil))) (pg_tup rfl (pgs_cons (pg_name (i := 3) sc.nd rfl (Or.inr rfl)) (pgs_cons (pg_name (i := 4) sc.nd rfl (Or.inr rfl)) pgs_nil))))
      (pss_cons (ps_if (pt_cmpR (op_neD hu) (pe_toldcall (T := TT) (k := 9) (t := fun E => tCallR (spJoinX K DC MM ID) E (tCons (tVar 3) (tCons (tVar 4) tNil))) Td (by rfl) tb rfl hm hu2 hr (LamX.lamS_by (by rfl)) rfl (fun _ _ _ _ _ => rfl) (fun A outer s H E f c' hr' => by exact (pe_joinL hJoin hr' (by decide) (by exact (pa_cons (pv 3) (pa_cons (pv 4) pa_nil)))))) (pe_tup (pa_cons pe_str (pa_cons pe_str (pa_cons pe_non pa_nil)))) (nomark _)) (pss_one (ps_ret pe_bl)) pss_nil)
      (pss_cons (ps_if (PW.pt (pw_or (pt_cmpR (op_neD hu) (pe_toldcall (T := TT) (k := 9) (t := fun E => tCallR (spJoinX K DC MM ID) E (tCons (tVar 3) (tCons (tVar 4) (tCons (tC .non) tNil)))) Td (by rfl) tb rfl hm hu2 hr (LamX.lamS_by (by rfl)) rfl (fun _ _ _ _ _ => rfl) (fun A outer s H E f c' hr' => by exact (pe_joinL hJoin hr' (by decide) (by exact (pa_cons (pv 3) (pa_cons (pv 4) (pa_cons pe_non pa_nil))))))) (pe_tup (pa_cons pe_str (pa_cons pe_str (pa_cons pe_int pa_nil)))) (nomark _)) (pw_or1 (pt_cmpR op_ne (pe_callB (call_lenD D hr (by decide)) (by rfl) T.len PySem.boot_len (pa_cons (pe_hasR (E := E0) hJoin hr (by decide) passL (pa_cons (pv 3) (pa_cons (pv 4) (pa_cons (pe_tup (pa_cons pe_int (pa_cons pe_int pa_nil))) pa_nil)))) pa_nil)) pe_int (nomark _))))) (pss_one (ps_ret pe_bl)) pss_nil)
      (pss_cons (ps_set (i := 2) sc.nd rfl (Or.inl rfl) (pe_op op_add pe_int (pe_has hDraw hr (by decide) (pa_cons (pv 0) (pa_cons pe_int pa_nil)))))
      (pss_cons (ps_asg (pe_tup (pa_cons (pe_mkD D hr (by decide) (pa_cons (pv 1) (pa_cons (pe_tup (pa_cons pe_non pa_nil)) (pa_cons (pe_op op_repT1 (pe_tup (pa_cons (pe_tup (pa_cons pe_int (pa_cons pe_int (pa_cons pe_int pa_nil)))) pa_nil)) (pv 2)) pa_nil)))) (pa_cons (pe_mkD D hr (by decide) (pa_cons (pv 1) (pa_cons (pe_tup (pa_cons pe_non pa_nil)) (pa_cons (pe_op op_repT1 (pe_tup (pa_cons (pe_tup (pa_cons pe_int (pa_cons pe_int (pa_cons pe_int pa_nil)))) pa_nil)) (pe_op op_sub pe_int (pv 2))) pa_nil)))) pa_nil))) (pg_tup rfl (pgs_cons (pg_name (i := 3) sc.nd rfl (Or.inr rfl)) (pgs_cons (pg_name (i := 4) sc.nd rfl (Or.inr rfl)) pgs_nil))))
      (pss_cons (ps_if (pt_cmpR (op_neD hu) (pe_toldcall (T := TT) (k := 9) (t := fun E => tCallR (spJoinX K DC MM ID) E (tCons (tVar 3) (tCons (tVar 4) (tCons (tTup (tCons (tC (.int 0)) (tCons (tC (.int 0)) tNil))) tNil)))) Td (by rfl) tb rfl hm hu2 hr (LamX.lamS_by (by rfl)) rfl (fun _ _ _ _ _ => rfl) (fun A outer s H E f c' hr' => by exact (pe_joinL hJoin hr' (by decide) (by exact (pa_cons (pv 3) (pa_cons (pv 4) (pa_cons (pe_tup (pa_cons pe_int (pa_cons pe_int pa_nil))) pa_nil))))))) (pe_tup (pa_cons pe_str (pa_cons pe_str (pa_cons pe_non pa_nil)))) (nomark _)) (pss_one (ps_ret pe_bl)) pss_nil)
      (pss_cons (ps_set (i := 4) sc.nd rfl (Or.inr rfl) (pe_mkD D hr (by decide) (pa_cons (pv 1) (pa_cons (pe_tup (pa_cons pe_int pa_nil)) (pa_cons (pe_op op_repT1 (pe_tup (pa_cons (pe_tup (pa_cons pe_int (pa_cons pe_int (pa_cons pe_int pa_nil)))) pa_nil)) (pe_op op_sub pe_int (pv 2))) pa_nil)))))
      (pss_one (ps_ret (pe_and (pe_cmpR op_eq (pe_callB call_len_seq (by rfl) T.len PySem.boot_len (pa_cons (pe_pm D.pb D.obj hr (by decide) (pe_hasR (E := E0) hJoin hr (by decide) passL (pa_cons (pv 3) (pa_cons (pv 4) pa_nil)))) pa_nil)) pe_int (nomark _)) (pe_one (pe_cmpR (op_dEq D hr (by decide)) (pe_hasRK (E := E0) hJoinK hr (by decide) passL (pk_cons (pv 4) (pk_cons (pv 3) pk_nil))) (pe_hasR (E := E0) hJoin hr (by decide) passL (pa_cons (pv 3) (pa_cons (pv 4) pa_nil))) (nomark _)))))))))))))), ?_⟩
    -- WALK
    walk_at "go"
    refine ⟨m, cc, g, _, _, rfl, hP, by omega, ⟨by decide, by decide⟩, fun k H1 k0 k1 p1 => ?_⟩
    have t1 := Tabs.pr tabs p1 hP
    walk_at "go"
    have ok1 : DOK b (List.replicate (1 + k).toNat none) [] 1000 := dok_none hb (by omega) (by omega)
    have ok2 : DOK b (List.replicate (17 - (1 + k)).toNat none) [] 1000 := dok_none hb (by omega) (by omega)
    refine g_tup' ?_
    walk_at "go"
    refine g_tup' ?_
    walk_at "go"
    refine ⟨sz (by simp), fun aa naa => ?_⟩
    walk_at "go"
    refine g_repT1 (K := K) upd_same (by simp) (by omega) (by omega) (by simp) fun ab aH as ah => ?_
    rw [flat_rep] at ah
    have ak : ∀ b o, H1 b = some o → aH b = some o := fun b o h => as _ _ (kp naa h)
    walk_at "go"
    refine g_tup' ?_
    walk_at "go"
    refine ⟨sz (by simp), fun ac nac => ?_⟩
    have ak2 := same_up (o := .tup []) nac ak
    have ah2 := kp (o' := .tup []) nac ah
    have ah3 : upd aH ac (.tup []) ac = some (.tup []) := upd_same
    generalize upd aH ac (.tup []) = aG at ak2 ah2 ah3 ⊢
    walk_at "go"
    refine g_makeD (nones_at ah2) (no_lines ah3) ok1 (by decide) (by simp) fun x1 H2 nx1 dA as4 => ?_
    have ak4 : ∀ b o, H1 b = some o → H2 b = some o := fun b o h => as4 _ _ (ak2 _ _ h)
    walk_at "go"
    refine g_tup' ?_
    walk_at "go"
    refine ⟨sz (by simp), fun ba nba => ?_⟩
    walk_at "go"
    refine g_repT1 (K := K) upd_same (by simp) (by omega) (by omega) (by simp) fun bb bH bs bh => ?_
    rw [flat_rep] at bh
    have bk : ∀ b o, H2 b = some o → bH b = some o := fun b o h => bs _ _ (kp nba h)
    walk_at "go"
    refine g_tup' ?_
    walk_at "go"
    refine ⟨sz (by simp), fun bc nbc => ?_⟩
    have bk2 := same_up (o := .tup []) nbc bk
    have bh2 := kp (o' := .tup []) nbc bh
    have bh3 : upd bH bc (.tup []) bc = some (.tup []) := upd_same
    generalize upd bH bc (.tup []) = bG at bk2 bh2 bh3 ⊢
    walk_at "go"
    refine g_makeD (nones_at bh2) (no_lines bh3) ok2 (by decide) (by simp) fun x2 H3 nx2 dB bs4 => ?_
    have bk4 : ∀ b o, H2 b = some o → H3 b = some o := fun b o h => bs4 _ _ (bk2 _ _ h)
    walk_at "go"
    refine ⟨sz (by simp), fun p4 np4 => ?_⟩
    have k4 : ∀ b o, H1 b = some o → upd H3 p4 (.tup [.ref x1, .ref x2]) b = some o := fun b o h => kp np4 (bk4 _ _ (ak4 _ _ h))
    have dA4 := (dA.same bk4).same (same_up (o := .tup [.ref x1, .ref x2]) np4 fun _ _ h => h)
    have dB4 := dB.same (same_up (o := .tup [.ref x1, .ref x2]) np4 fun _ _ h => h)
    refine g_tupg (K := K) (SqT.of upd_same) rfl ?_
    generalize upd H3 p4 (.tup [.ref x1, .ref x2]) = H4 at k4 dA4 dB4 ⊢
    clear ak ak2 as4 bk bk2 bs4 as bs ah ah2 ah3 bh bh2 bh3
    have t4 := t1.ext k4
    have e4 : LamX.ExtN H1 H4 := LamX.ExtN.of k4
    walk_at "go"
    -- joined(near, far) : too many
    refine g_lam t4 fun H5 e5 t5 H6 s6 Q1 hQ1 => ?_
    have dA5 := dA4.keep (Tk.ext e5) (Ik.ext e5)
    have dB5 := dB4.keep (Tk.ext e5) (Ik.ext e5)
    refine g_callR ?_
    walk_at "go"
    refine ⟨.ref x1, .ref x2, [], [], b, b, 1000, _, _, _, _, rfl, dA5.same s6, dB5.same s6, .nil, by simp, fun i r pp h => by simp at h, ok1, ok2, by simp, by simp, by decide, joinq_fine (ps := []) rfl (by rfl) (by simp) ⟨fun _ d H7 s7 nd => ?_, fun h => absurd h (by simp; omega), fun h => absurd h (by simp; omega)⟩⟩
    refine ⟨d, .str "weekdays", .non, rfl, Or.inr ⟨rfl, upd_same, fun p' H8 np8 s8 h8 => ?_⟩⟩
    have k58 : ∀ b o, H5 b = some o → H8 b = some o := fun b o h => s8 _ _ (same_up nd (fun b o h => s7 _ _ (s6 _ _ h)) _ _ h)
    walk_at "go"
    refine g_tup' ?_
    walk_at "go"
    refine ⟨sz (by simp), fun p9 np9 => ?_⟩
    refine g_neD (K := K) (d := .tuple [.str "InvalidDiary", .str "weekdays", .none]) (e := .tuple [.str "InvalidDiary", .str "weekdays", .none]) (.tup (SqT.of (kp np9 h8)) (.cons (.str _) (.cons (.str _) (.cons .non .nil)))) (.tup (SqT.of upd_same) (.cons (.str _) (.cons (.str _) (.cons .non .nil)))) (by decide +kernel) (by decide +kernel) ?_
    rw [show (PyData.tuple [.str "InvalidDiary", .str "weekdays", .none]).eqv (.tuple [.str "InvalidDiary", .str "weekdays", .none]) = true by decide +kernel]
    have k59 := same_up (o := .tup [.str "InvalidDiary", .str "weekdays", .non]) np9 k58
    generalize upd H8 p9 (.tup [.str "InvalidDiary", .str "weekdays", .non]) = H9 at k59 ⊢
    have t9 := t5.ext k59
    have e9 : LamX.ExtN H1 H9 := (e4.trans e5).trans (LamX.ExtN.of k59)
    have dA9 := dA5.same k59
    have dB9 := dB5.same k59
    clear k58 h8 hQ1
    walk_at "go"
    -- joined(near, far, None)
    refine g_lam t9 fun H10 e10 t10 H11 s11 Q2 hQ2 => ?_
    have dA10 := dA9.keep (Tk.ext e10) (Ik.ext e10)
    have dB10 := dB9.keep (Tk.ext e10) (Ik.ext e10)
    refine g_callR ?_
    walk_at "go"
    refine ⟨.ref x1, .ref x2, [.non], [.non], b, b, 1000, _, _, _, _, rfl, dA10.same s11, dB10.same s11, .cons .non .nil, by simp, fun i r pp h => by
      match i, h with
      | 0, h => cases h
      | i + 1, h => simp at h, ok1, ok2, by simp, by simp, by decide, joinq_pair (i := 0) bad_no fun d H12 s12 nd => ?_⟩
    refine ⟨d, .str "pair", .int (0 : Nat), rfl, Or.inl ⟨rfl, upd_same, fun p' H13 np13 s13 h13 => ?_⟩⟩
    have k1013 : ∀ b o, H10 b = some o → H13 b = some o := fun b o h => s13 _ _ (same_up nd (fun b o h => s12 _ _ (s11 _ _ h)) _ _ h)
    walk_at "go"
    refine g_tup' ?_
    walk_at "go"
    refine ⟨sz (by simp), fun p14 np14 => ?_⟩
    refine g_neD (K := K) (d := .tuple [.str "Mismatch", .str "pair", .int 0]) (e := .tuple [.str "Mismatch", .str "pair", .int 0]) (.tup (SqT.of (kp np14 h13)) (.cons (.str _) (.cons (.str _) (.cons (.int _) .nil)))) (.tup (SqT.of upd_same) (.cons (.str _) (.cons (.str _) (.cons (.int _) .nil)))) (by decide +kernel) (by decide +kernel) ?_
    rw [show (PyData.tuple [.str "Mismatch", .str "pair", .int 0]).eqv (.tuple [.str "Mismatch", .str "pair", .int 0]) = true by decide +kernel]
    have k1014 := same_up (o := .tup [.str "Mismatch", .str "pair", .int 0]) np14 k1013
    generalize upd H13 p14 (.tup [.str "Mismatch", .str "pair", .int 0]) = H14 at k1014 ⊢
    have t14 := t10.ext k1014
    have e14 : LamX.ExtN H1 H14 := (e9.trans e10).trans (LamX.ExtN.of k1014)
    have dA14 := dA10.same k1014
    have dB14 := dB10.same k1014
    clear k1013 h13 hQ2
    walk_at "go"
    -- len(joined(near, far, (0, 0)))
    refine g_callR ?_
    walk_at "go"
    refine g_tup' ?_
    walk_at "go"
    refine ⟨sz (by simp), fun pt npt => ?_⟩
    have k15 := same_up (o := .tup [.int 0, .int 0]) npt (H := H14) (fun _ _ h => h)
    have hpt : upd H14 pt (.tup [.int 0, .int 0]) pt = some (.tup [.int 0, .int 0]) := upd_same
    generalize upd H14 pt (.tup [.int 0, .int 0]) = H15 at k15 hpt ⊢
    walk_at "go"
    refine ⟨.ref x1, .ref x2, [.ref pt], [pairSh (0, 0)], b, b, 1000, _, _, _, _, rfl, dA14.same k15, dB14.same k15, .cons (.tup (SqT.of hpt) (.cons (.int _) (.cons (.int _) .nil))) .nil, by simp, pairs_at hpt, ok1, ok2, by simp, by simp, by decide, joinq_fine (ps := [(0, 0)]) rfl (bad_zero (by simp; omega) (by simp; omega)) (fun pp hp => clash_none) ⟨fun h => absurd h (by simp; omega), fun _ h => absurd h (by simp), fun _ _ x3 H16 nx3 d16 s16 => ?_⟩⟩
    obtain ⟨x3', dx3, wv3, bv3, e3, hx3, hn3, hl3⟩ := id d16
    cases e3
    obtain ⟨w3, rfl, hw3⟩ := fz_notes_inv hn3
    have len3 : (List.map noteV (joinN [(0, 0)] (List.replicate (1 + k).toNat none) (List.replicate (17 - (1 + k)).toNat none))).length = 16 := by
      rw [List.length_map]
      have z := jW_len (jok_zero (n1 := List.replicate (1 + k).toNat none) (n2 := List.replicate (17 - (1 + k)).toNat none) (by simp; omega) (by simp; omega) (getD_nones _ _)) (List.replicate (17 - (1 + k)).toNat (none : Option Int)).length
      refine z.trans ?_
      simp
      omega
    have k1416 : ∀ b o, H14 b = some o → H16 b = some o := fun b o h => s16 _ _ (k15 _ _ h)
    have t16 := t14.ext k1416
    have e16 : LamX.ExtN H1 H16 := e14.trans (LamX.ExtN.of k1416)
    have P16 : Pr m cc g (noTab H) H16 (B + 1) := Pr.out p1 fun b o h => e16 b o (noTab_of h).1 (noTab_of h).2
    walk_at "go"
    refine g_lenO (K := K) hx3 (SqT.of hw3) (by rw [len3]; decide) ?_
    rw [len3]
    walk_at "go"
    refine ⟨rfl, false, rfl, ?_⟩
    walk_at "go"
    clear len3 hw3 hn3 hl3 hx3 d16 s16 hpt k15 dA14 dB14 k1014 dA10 dB10 dA9 dB9 dA5 dB5 dA4 dB4
    walk_at "go"
    refine ⟨m, cc, g, _, _, rfl, P16.self, by omega, ⟨by decide, by decide⟩, fun j H17 j0 j1 p17 => ?_⟩
    have t17 := Tabs.pr t16 p17 P16.self
    have P17 := P16.trans p17
    clear p17 P16 t16 t14 e16 e14 t10 t9 t5 t4 e4 e5 e9 e10 k1416
    walk_at "go"
    have ok3 : DOK b [none] (List.replicate (1 + j).toNat (0, 0, 1)) 1000 := dok_long (n := 0) hb (by decide) (by decide) none (fun i e => by cases e)
    have ok4 : DOK b [none] (List.replicate (61 - (1 + j)).toNat (0, 0, 2)) 1000 := dok_long (n := 0) hb (by decide) (by decide) none (fun i e => by cases e)
    have ok5 : DOK b [some 0] (List.replicate (60 - (1 + j)).toNat (0, 0, 2)) 1000 := dok_long (n := 0) hb (by decide) (by decide) (some 0) (fun i e => by cases e; exact ⟨by decide, by omega⟩)
    refine g_tup' ?_
    walk_at "go"
    refine g_tup' ?_
    walk_at "go"
    refine ⟨sz (by simp), fun ca nca => ?_⟩
    have ck0 := same_up (o := .tup [.non]) nca (H := H17) (fun _ _ h => h)
    have cw0 : upd H17 ca (.tup [.non]) ca = some (.tup [.non]) := upd_same
    generalize upd H17 ca (.tup [.non]) = cE at ck0 cw0 ⊢
    walk_at "go"
    refine g_tup' ?_
    walk_at "go"
    refine g_tup' ?_
    walk_at "go"
    refine ⟨sz (by simp), fun ct nct => ?_⟩
    have ck1 := same_up (o := .tup [.int 0, .int 0, .int 1]) nct ck0
    have cw1 := kp (o' := .tup [.int 0, .int 0, .int 1]) nct cw0
    have cl1 : upd cE ct (.tup [.int 0, .int 0, .int 1]) ct = some (.tup [.int 0, .int 0, .int 1]) := upd_same
    generalize upd cE ct (.tup [.int 0, .int 0, .int 1]) = cF at ck1 cw1 cl1 ⊢
    walk_at "go"
    refine ⟨sz (by simp), fun cu ncu => ?_⟩
    have ck2 := same_up (o := .tup [.ref ct]) ncu ck1
    have cw2 := kp (o' := .tup [.ref ct]) ncu cw1
    have cl2 := kp (o' := .tup [.ref ct]) ncu cl1
    walk_at "go"
    refine g_repT1 (K := K) upd_same (by simp) (by omega) (by omega) (by simp) fun cb cH cs ch => ?_
    rw [flat_rep] at ch
    walk_at "go"
    refine g_makeD (fz_notes (ns := [none]) (cs _ _ cw2)) (lines_rep (cs _ _ cl2) ch) ok3 (by decide) (by simp; omega) fun x4 H18 nx4 dC cs4 => ?_
    have ck4 : ∀ b o, H17 b = some o → H18 b = some o := fun b o h => cs4 _ _ (cs _ _ (ck2 _ _ h))
    walk_at "go"
    refine g_tup' ?_
    walk_at "go"
    refine ⟨sz (by simp), fun da nda => ?_⟩
    have dk0 := same_up (o := .tup [.non]) nda (H := H18) (fun _ _ h => h)
    have dw0 : upd H18 da (.tup [.non]) da = some (.tup [.non]) := upd_same
    generalize upd H18 da (.tup [.non]) = dE at dk0 dw0 ⊢
    walk_at "go"
    refine g_tup' ?_
    walk_at "go"
    refine g_tup' ?_
    walk_at "go"
    refine ⟨sz (by simp), fun dt ndt => ?_⟩
    have dk1 := same_up (o := .tup [.int 0, .int 0, .int 2]) ndt dk0
    have dw1 := kp (o' := .tup [.int 0, .int 0, .int 2]) ndt dw0
    have dl1 : upd dE dt (.tup [.int 0, .int 0, .int 2]) dt = some (.tup [.int 0, .int 0, .int 2]) := upd_same
    generalize upd dE dt (.tup [.int 0, .int 0, .int 2]) = dF at dk1 dw1 dl1 ⊢
    walk_at "go"
    refine ⟨sz (by simp), fun du ndu => ?_⟩
    have dk2 := same_up (o := .tup [.ref dt]) ndu dk1
    have dw2 := kp (o' := .tup [.ref dt]) ndu dw1
    have dl2 := kp (o' := .tup [.ref dt]) ndu dl1
    walk_at "go"
    refine g_repT1 (K := K) upd_same (by simp) (by omega) (by omega) (by simp) fun db dH ds dh => ?_
    rw [flat_rep] at dh
    walk_at "go"
    refine g_makeD (fz_notes (ns := [none]) (ds _ _ dw2)) (lines_rep (ds _ _ dl2) dh) ok4 (by decide) (by simp; omega) fun x5 H19 nx5 dD ds4 => ?_
    have dk4 : ∀ b o, H18 b = some o → H19 b = some o := fun b o h => ds4 _ _ (ds _ _ (dk2 _ _ h))
    walk_at "go"
    refine ⟨sz (by simp), fun p20 np20 => ?_⟩
    have k20 : ∀ b o, H17 b = some o → upd H19 p20 (.tup [.ref x4, .ref x5]) b = some o := fun b o h => kp np20 (dk4 _ _ (ck4 _ _ h))
    have dC20 := (dC.same dk4).same (same_up (o := .tup [.ref x4, .ref x5]) np20 fun _ _ h => h)
    have dD20 := dD.same (same_up (o := .tup [.ref x4, .ref x5]) np20 fun _ _ h => h)
    refine g_tupg (K := K) (SqT.of upd_same) rfl ?_
    generalize upd H19 p20 (.tup [.ref x4, .ref x5]) = H20 at k20 dC20 dD20 ⊢
    have t20 := t17.ext k20
    have e20 : LamX.ExtN H17 H20 := LamX.ExtN.of k20
    walk_at "go"
    -- joined(near, far, (0, 0)) : too many bounds
    refine g_lam t20 fun H21 e21 t21 H22 s22 Q3 hQ3 => ?_
    have dC21 := dC20.keep (Tk.ext e21) (Ik.ext e21)
    have dD21 := dD20.keep (Tk.ext e21) (Ik.ext e21)
    refine g_callR ?_
    walk_at "go"
    refine g_tup' ?_
    walk_at "go"
    refine ⟨sz (by simp), fun pt npt => ?_⟩
    have s23 := same_up (o := .tup [.int 0, .int 0]) npt s22
    have hpt : upd H22 pt (.tup [.int 0, .int 0]) pt = some (.tup [.int 0, .int 0]) := upd_same
    generalize upd H22 pt (.tup [.int 0, .int 0]) = H23 at s23 hpt ⊢
    walk_at "go"
    refine ⟨.ref x4, .ref x5, [.ref pt], [pairSh (0, 0)], b, b, 1000, _, _, _, _, rfl, dC21.same s23, dD21.same s23, .cons (.tup (SqT.of hpt) (.cons (.int _) (.cons (.int _) .nil))) .nil, by simp, pairs_at hpt, ok3, ok4, by simp; omega, by simp; omega, by decide, joinq_fine (ps := [(0, 0)]) rfl (bad_zero (by decide) (by decide)) (fun pp hp => clash_none (n := 1)) ⟨fun h => absurd h (by decide), fun _ h d H24 s24 nd => ?_, fun _ h => absurd h (by simp; omega)⟩⟩
    refine ⟨d, .str "bounds", .non, rfl, Or.inr ⟨rfl, upd_same, fun p' H25 np25 s25 h25 => ?_⟩⟩
    have k2125 : ∀ b o, H21 b = some o → H25 b = some o := fun b o h => s25 _ _ (same_up nd (fun b o h => s24 _ _ (s23 _ _ h)) _ _ h)
    walk_at "go"
    refine g_tup' ?_
    walk_at "go"
    refine ⟨sz (by simp), fun p26 np26 => ?_⟩
    refine g_neD (K := K) (d := .tuple [.str "InvalidDiary", .str "bounds", .none]) (e := .tuple [.str "InvalidDiary", .str "bounds", .none]) (.tup (SqT.of (kp np26 h25)) (.cons (.str _) (.cons (.str _) (.cons .non .nil)))) (.tup (SqT.of upd_same) (.cons (.str _) (.cons (.str _) (.cons .non .nil)))) (by decide +kernel) (by decide +kernel) ?_
    rw [show (PyData.tuple [.str "InvalidDiary", .str "bounds", .none]).eqv (.tuple [.str "InvalidDiary", .str "bounds", .none]) = true by decide +kernel]
    have k2126 := same_up (o := .tup [.str "InvalidDiary", .str "bounds", .non]) np26 k2125
    generalize upd H25 p26 (.tup [.str "InvalidDiary", .str "bounds", .non]) = H26 at k2126 ⊢
    have t26 := t21.ext k2126
    have e26 : LamX.ExtN H17 H26 := (e20.trans e21).trans (LamX.ExtN.of k2126)
    have dC26 := dC21.same k2126
    clear k2125 h25 hQ3 s23 hpt
    walk_at "go"
    refine g_tup' ?_
    walk_at "go"
    refine ⟨sz (by simp), fun ea nea => ?_⟩
    have ek0 := same_up (o := .tup [.int 0]) nea (H := H26) (fun _ _ h => h)
    have ew0 : upd H26 ea (.tup [.int 0]) ea = some (.tup [.int 0]) := upd_same
    generalize upd H26 ea (.tup [.int 0]) = eE at ek0 ew0 ⊢
    walk_at "go"
    refine g_tup' ?_
    walk_at "go"
    refine g_tup' ?_
    walk_at "go"
    refine ⟨sz (by simp), fun et net => ?_⟩
    have ek1 := same_up (o := .tup [.int 0, .int 0, .int 2]) net ek0
    have ew1 := kp (o' := .tup [.int 0, .int 0, .int 2]) net ew0
    have el1 : upd eE et (.tup [.int 0, .int 0, .int 2]) et = some (.tup [.int 0, .int 0, .int 2]) := upd_same
    generalize upd eE et (.tup [.int 0, .int 0, .int 2]) = eF at ek1 ew1 el1 ⊢
    walk_at "go"
    refine ⟨sz (by simp), fun eu neu => ?_⟩
    have ek2 := same_up (o := .tup [.ref et]) neu ek1
    have ew2 := kp (o' := .tup [.ref et]) neu ew1
    have el2 := kp (o' := .tup [.ref et]) neu el1
    walk_at "go"
    refine g_repT1 (K := K) upd_same (by simp) (by omega) (by omega) (by simp) fun eb eH es eh => ?_
    rw [flat_rep] at eh
    walk_at "go"
    refine g_makeD (fz_notes (ns := [some 0]) (es _ _ ew2)) (lines_rep (es _ _ el2) eh) ok5 (by decide) (by simp; omega) fun x6 H27 nx6 dE es4 => ?_
    have ek4 : ∀ b o, H26 b = some o → H27 b = some o := fun b o h => es4 _ _ (es _ _ (ek2 _ _ h))
    walk_at "go"
    have dC27 := dC26.same ek4
    have t27 := t26.ext ek4
    have e27 : LamX.ExtN H17 H27 := e26.trans (LamX.ExtN.of ek4)
    refine g_callR ?_
    walk_at "go"
    refine ⟨.ref x4, .ref x6, [], [], b, b, 1000, _, _, _, _, rfl, dC27, dE, .nil, by simp, fun i r pp h => by simp at h, ok3, ok5, by simp; omega, by simp; omega, by decide, joinq_fine (ps := []) rfl (by rfl) (by simp) ⟨fun h => absurd h (by decide), fun _ h => absurd h (by simp; omega), fun _ _ x7 H28 nx7 d28 s28 => ?_⟩⟩
    obtain ⟨x7', dx7, wv7, bv7, e7, hx7, hn7, hl7⟩ := id d28
    cases e7
    refine g_p3 hx7 ?_
    obtain ⟨wa, xs, rfl, hwa, hxs⟩ := Fz.tup_inv hl7
    have lx : xs.length = 60 := by
      rw [hxs.length]
      simp [jlines]
      omega
    walk_at "go"
    refine g_len (K := K) (Or.inr (SqT.of hwa)) ?_
    rw [lx]
    walk_at "go"
    refine ⟨rfl, true, rfl, ?_⟩
    have dC28 := dC27.same s28
    have dE28 := dE.same s28
    rw [if_pos rfl]
    walk_at "go"
    refine g_callRK ?_
    walk_at "go"
    refine ⟨.ref x6, .ref x4, rfl, .ref x4, .ref x6, [], [], b, b, 1000, _, _, _, _, rfl, dC28, dE28, .nil, by simp, fun i r pp h => by simp at h, ok3, ok5, by simp; omega, by simp; omega, by decide, joinq_fine (ps := []) rfl (by rfl) (by simp) ⟨fun h => absurd h (by decide), fun _ h => absurd h (by simp; omega), fun _ _ x8 H29 nx8 d29 s29 => ?_⟩⟩
    walk_at "go"
    refine g_callR ?_
    walk_at "go"
    refine ⟨.ref x4, .ref x6, [], [], b, b, 1000, _, _, _, _, rfl, dC28.same s29, dE28.same s29, .nil, by simp, fun i r pp h => by simp at h, ok3, ok5, by simp; omega, by simp; omega, by decide, joinq_fine (ps := []) rfl (by rfl) (by simp) ⟨fun h => absurd h (by decide), fun _ h => absurd h (by simp; omega), fun _ _ x9 H30 nx9 d30 s30 => ?_⟩⟩
    walk_at "go"
    refine g_eqDia D (d29.same s30) d30 fun r hr => ?_
    have er := hr.mpr ⟨rfl, rfl, rfl⟩
    subst er
    walk_at "go"
    have k30 : ∀ b o, H27 b = some o → H30 b = some o := fun b o h => s30 _ _ (s29 _ _ (s28 _ _ h))
    exact q _ ((Pr.out2 P17 (e27.trans (LamX.ExtN.of k30))).le (by omega)) (t27.ext k30)
end
end K56
set_option Elab.async false
set_option linter.all false
set_option maxRecDepth 100000
set_option maxHeartbeats 4000000
namespace K56
open PySem PySem.Spec PyProof.Rows L2 WL
section
variable {P : Program} {w : World} {K : PySem.W.Frag} {mg : Str → Option Value} {base : Heap} {h : Heap}
theorem f_ck (c : SaysX chk3 fns xs K) (i : Nat) {f : PySem.W.Frag → Bool} (e : cks[i]? = some f) : f K = true := List.all_eq_true.mp c.w.chk f (List.mem_of_getElem? e)
theorem f_fa (c : SaysX chk3 fns xs K) : ∀ f ∈ fa, f.ok K = true := fun f hf => List.all_eq_true.mp (f_ck c 0 rfl) f hf
theorem f_fa2 (c : SaysX chk3 fns xs K) : ∀ f ∈ fa2, f.ok K = true := fun f hf => List.all_eq_true.mp (f_ck c 1 rfl) f hf
theorem f_free (X : K.In h) (G : h.Ns mainGlobals mg) (c : SaysX chk3 fns xs K) {x : Str} (hx : x ∈ builtins_) : mg x = none :=
  He.free_ok X G (f_fa c (.free x) (List.mem_append_right _ (List.mem_map.mpr ⟨x, hx, rfl⟩)))
theorem f_glo (X : K.In h) (G : h.Ns mainGlobals mg) (c : SaysX chk3 fns xs K) {x : Str} (hx : x ∈ names) : mg x = some (.ref (He.ga K x)) :=
  He.glo_ok X G (f_fa c (.glo x) (List.mem_append_left _ (List.mem_map.mpr ⟨x, hx, rfl⟩)))
theorem f_blt (X : K.In h) (G : h.Ns mainGlobals mg) (c : SaysX chk3 fns xs K) : Blt mg := by
  constructor <;> exact f_free X G c (by decide +kernel)
theorem mkFn {x : Str} {st : Stmt} (X : K.In h) (G : h.Ns mainGlobals mg) (c : SaysX chk3 fns xs K) (i : Nat) (hx : x ∈ names) (hi : fns[i]? = some ⟨.g x, x, x, st, [], []⟩) : ∃ fd, mg x = some (.ref (He.ga K x)) ∧ FnT K x st (He.ga K x) fd := by
  obtain ⟨fd, F⟩ := c.w.def_ i hi
  exact ⟨fd, f_glo X G c hx, F⟩
theorem mkHas {k : Nat} {x : Str} {st : Stmt} {ps : List Str} {sp : Sp} (X : K.In h) (G : h.Ns mainGlobals mg) (c : SaysX chk3 fns xs K) (i : Nat) (hx : x ∈ names) (hi : fns[i]? = some ⟨.g x, x, x, st, [], []⟩)
    (b : ∀ (kV doc pm : Value) (an : Option Addr) (cdv ct : Value) (us : List Value), us.length = ps.length → bindArgs (PySem.W.fnOf x x (defArgs st) (defBody st) (defScope st) .none kV doc pm an cdv ct) { pos := us } = pure (ps.zip us))
    (ok : ∀ fd, FnT K x st (He.ga K x) fd → FnOk P w K mg base CX0 k (He.ga K x) fd ps sp) : Has P w K mg base k x ps sp := by
  obtain ⟨fd, m, F⟩ := mkFn X G c i hx hi
  exact ⟨He.ga K x, fd, m, F.kp, F.bindsN b, ok fd F⟩
theorem mkHasE {k : Nat} {x : Str} {st : Stmt} {ps : List Str} {sp : Sp} (X : K.In h) (G : h.Ns mainGlobals mg) (c : SaysX chk3 fns xs K) (i : Nat) (hx : x ∈ names) (hi : fns[i]? = some ⟨.g x, x, x, st, [], []⟩)
    (b : ∀ (kV doc pm : Value) (an : Option Addr) (cdv ct : Value) (us : List Value), us.length = ps.length → bindArgs (PySem.W.fnOf x x (defArgs st) (defBody st) (defScope st) .none kV doc pm an cdv ct) { pos := us } = pure (ps.zip us))
    (ok : ∀ fd, FnT K x st (He.ga K x) fd → FnOk P w K mg base (L2.CX P w) k (He.ga K x) fd ps sp) : HasE P w K mg base k x ps sp := by
  obtain ⟨fd, m, F⟩ := mkFn X G c i hx hi
  exact ⟨He.ga K x, fd, m, F.kp, F.bindsN b, ok fd F⟩
theorem mkHasG {k : Nat} {x : Str} {st : Stmt} {ps : List Str} {sp : Sp} (X : K.In h) (G : h.Ns mainGlobals mg) (c : SaysX chk3 fns xs K) (i : Nat) (hx : x ∈ names) (hi : fns[i]? = some ⟨.g x, x, x, st, [], []⟩)
    (b : ∀ (kV doc pm : Value) (an : Option Addr) (cdv ct : Value) (us : List Value), us.length = ps.length → bindArgs (PySem.W.fnOf x x (defArgs st) (defBody st) (defScope st) .none kV doc pm an cdv ct) { pos := us } = pure (ps.zip us))
    (ok : ∀ fd, FnT K x st (He.ga K x) fd → GOk P w K mg base k (He.ga K x) fd ps sp) : HasG P w K mg base k x ps sp := by
  obtain ⟨fd, m, F⟩ := mkFn X G c i hx hi
  exact ⟨He.ga K x, fd, m, F.kp, F.bindsN b, ok fd F⟩
theorem mkDef {CX : CXT} {k : Nat} {d : DefW} {ps : List Str} {sp : Sp} (c : SaysX chk3 fns xs K) (i : Nat) (hi : fns[i]? = some d) (h1 : d.dfl = []) (h2 : d.kwd = [])
    (b : ∀ (kV doc pm : Value) (an : Option Addr) (cdv ct : Value) (us : List Value), us.length = ps.length → bindArgs (PySem.W.fnOf d.name d.qual (defArgs d.st) (defBody d.st) (defScope d.st) .none kV doc pm an cdv ct) { pos := us } = pure (ps.zip us))
    (ok : ∀ fd, FunD K d.name d.qual (defArgs d.st) (defBody d.st) (defScope d.st) [] [] (d.at_.ad K) fd → FnOk P w K mg base CX k (d.at_.ad K) fd ps sp) : ∃ fd, Binds K fd ps [] ∧ FnOk P w K mg base CX k (d.at_.ad K) fd ps sp ∧ FunD K d.name d.qual (defArgs d.st) (defBody d.st) (defScope d.st) [] [] (d.at_.ad K) fd := by
  obtain ⟨fd, F⟩ := c.w.def_ i hi
  have F' : FunD K d.name d.qual (defArgs d.st) (defBody d.st) (defScope d.st) [] [] (d.at_.ad K) fd := by
    have e1 : d.dvs K = [] := by unfold DefW.dvs; rw [h1]; rfl
    have e2 : d.kws K = [] := by unfold DefW.kws; rw [h2]; rfl
    rw [e1, e2] at F
    exact F
  exact ⟨fd, F'.bindsN b, ok fd F', F'⟩

theorem f_dia (X : K.In h) (G : h.Ns mainGlobals mg) (c : SaysX chk3 fns xs K) : Dia K mg (He.ga K "Diary") := diaB_ok (f_glo X G c (by decide +kernel)) (f_ck c 16 rfl)
theorem f_diaO (c : SaysX chk3 fns xs K) : DiaO K (He.ga K "Diary") := by
  have f := f_fa2 c
  exact diaOB_ok (He.cls_ok (f (.cls "Diary") (by simp [fa2]))) (He.noat_ok (f (.noat "Diary" "_modulus") (by simp [fa2]))) (He.noat_ok (f (.noat "Diary" "_weekdays") (by simp [fa2]))) (He.noat_ok (f (.noat "Diary" "_bounds") (by simp [fa2]))) (f_ck c 17 rfl)
variable (X : K.In h) (G : h.Ns mainGlobals mg) (c : SaysX chk3 fns xs K)
include X G c
theorem f_num : Has P w K mg base 1 "is_number" ["value"] (spNum K) := mkHas X G c 0 (by decide +kernel) rfl (fun _ _ _ _ _ _ us hl => match us, hl with | [_], _ => rfl) fun fd F => ok_num F (f_blt X G c)
theorem f_within : Has P w K mg base 2 "is_within" ["value", "low", "high"] (spWithin K) := mkHas X G c 1 (by decide +kernel) rfl (fun _ _ _ _ _ _ us hl => match us, hl with | [_, _, _], _ => rfl) fun fd F => ok_within F (f_num X G c)
theorem f_tupOf : Has P w K mg base 1 "is_tuple_of" ["value", "low", "high"] (spTupOf K) := mkHas X G c 2 (by decide +kernel) rfl (fun _ _ _ _ _ _ us hl => match us, hl with | [_, _, _], _ => rfl) fun fd F => ok_tupOf F (f_blt X G c)
theorem f_bound : Has P w K mg base 3 "is_bound" ["value", "many"] (spBound K) := mkHas X G c 3 (by decide +kernel) rfl (fun _ _ _ _ _ _ us hl => match us, hl with | [_, _], _ => rfl) fun fd F => ok_bound F (f_dia X G c) (f_tupOf X G c) (f_within X G c)
theorem f_wf : Has P w K mg base 3 "weekdays_fault" ["modulus", "weekdays"] (spRowF K (fun x c => [c, x]) "weekdays" 1 16 Sh.note) := mkHas X G c 4 (by decide +kernel) rfl (fun _ _ _ _ _ _ us hl => match us, hl with | [_, _], _ => rfl) fun fd F => ok_wf F (f_blt X G c) (f_dia X G c) (f_tupOf X G c) (f_within X G c)
theorem f_bf : Has P w K mg base 4 "bounds_fault" ["many", "bounds"] (spRowF K (fun x c => [c, x]) "bounds" 0 60 Sh.bound) := mkHas X G c 5 (by decide +kernel) rfl (fun _ _ _ _ _ _ us hl => match us, hl with | [_, _], _ => rfl) fun fd F => ok_bf F (f_blt X G c) (f_dia X G c) (f_tupOf X G c) (f_bound X G c)
theorem f_df : Has P w K mg base 5 "diary_fault" ["modulus", "weekdays", "bounds"] (spDiaryF K) := mkHas X G c 6 (by decide +kernel) rfl (fun _ _ _ _ _ _ us hl => match us, hl with | [_, _, _], _ => rfl) fun fd F => ok_df F (f_blt X G c) (f_dia X G c) (f_within X G c) (f_wf X G c) (f_bf X G c)
variable (hf : P.main.file = file) (hs : (List.lookup ("super" : Str) P.main.scope.names).isSome = false)
include hf hs

theorem f_ex_InvalidEvent : (∃ fI fd, ExT P K mg ["value"] (He.ga K "InvalidEvent") fI ∧ ExI P K ["value"] (He.ga K "InvalidEvent") fI fd ∧ ∀ (s : Shared) (u v : Value), K.In s.heap → BindsTo s fd ⟨[u, v], []⟩ [("self", u), ("value", v)]) ∧ XfC K (He.ga K "InvalidEvent") ∧ PySem.W.exmOne K (.ref (He.ga K "InvalidEvent")) (.ref (He.ga K "InvalidEvent")) = some true := by
  have a1 := f_ck c 2 rfl
  have a2 := f_ck c 3 rfl
  have a3 := f_ck c 4 rfl
  have hi := f_ck c 5 rfl
  have ex := c.ex 0 (d := ⟨"InvalidEvent", s_InvalidEvent_init, true⟩) rfl
  rw [← hf] at hi
  obtain ⟨fd, J, ep, en⟩ := exI_ok (P := P) (fs := ["value"]) (C := He.ga K "InvalidEvent") (d := ⟨"InvalidEvent", s_InvalidEvent_init, true⟩) rfl hi ex ⟨_, rfl, rfl⟩ rfl rfl rfl (by decide +kernel) ⟨_, _, fun n => match n with | 0 => _ | 1 => _ | 2 => _ | 3 => _ | _ => _, [fun n => match n with | 0 => _ | 1 => _ | 2 => _ | _ => _], rfl, rfl, by decide +kernel⟩
  refine ⟨⟨_, fd, exTB_ok (f_free X G c (by decide +kernel)) hs a1, J, ?_⟩, xfacB_ok a2, emB_ok a3⟩
  intro s u v _
  obtain ⟨c1, c2, c3, c4, c5, c6, c7, c8, c9, d1, d2, d3, d4, d5, d6⟩ := fd
  simp only at ep
  subst ep
  have e8 : c8 = .none := by
    cases c8 <;> first | rfl | exact absurd (show false = true from en) (by decide)
  subst e8
  exact BindsTo.of_eq rfl

theorem f_ex_InvalidDiary : (∃ fI fd, ExT P K mg ["part", "item"] (He.ga K "InvalidDiary") fI ∧ ExI P K ["part", "item"] (He.ga K "InvalidDiary") fI fd ∧ (∀ (s : Shared) (u v1 v2 : Value), K.In s.heap → BindsTo s fd ⟨[u, v1, v2], []⟩ [("self", u), ("part", v1), ("item", v2)]) ∧ ∀ (s : Shared) (u v1 : Value), K.In s.heap → BindsTo s fd ⟨[u, v1], []⟩ [("self", u), ("part", v1), ("item", Value.none)]) ∧ XfC K (He.ga K "InvalidDiary") := by
  have a1 := f_ck c 6 rfl
  have a2 := f_ck c 7 rfl
  have hi := f_ck c 9 rfl
  have hd := f_ck c 10 rfl
  have ex := c.ex 1 (d := ⟨"InvalidDiary", s_InvalidDiary_init, false⟩) rfl
  rw [← hf] at hi
  obtain ⟨fd, J, ep, en⟩ := exI_ok (P := P) (fs := ["part", "item"]) (C := He.ga K "InvalidDiary") (d := ⟨"InvalidDiary", s_InvalidDiary_init, false⟩) rfl hi ex ⟨_, rfl, rfl⟩ rfl rfl rfl (by decide +kernel) ⟨_, _, fun n => match n with | 0 => _ | 1 => _ | 2 => _ | 3 => _ | _ => _, [fun n => match n with | 0 => _ | 1 => _ | 2 => _ | _ => _, fun n => match n with | 0 => _ | 1 => _ | 2 => _ | _ => _], rfl, rfl, by decide +kernel⟩
  refine ⟨⟨_, fd, exTB_ok (f_free X G c (by decide +kernel)) hs a1, J, ?_, ?_⟩, xfacB_ok a2⟩
  · intro s u v1 v2 hK
    obtain ⟨T, o, n, ed, lT, oT⟩ := exDB_okN J.at_ hd
    obtain ⟨c1, c2, c3, c4, c5, c6, c7, c8, c9, d1, d2, d3, d4, d5, d6⟩ := fd
    simp only at ep ed
    subst ep
    subst ed
    exact bind_dfl hK lT oT ⟨_, rfl, rfl⟩
  · intro s u v1 hK
    obtain ⟨T, o, n, ed, lT, oT⟩ := exDB_okN J.at_ hd
    obtain ⟨c1, c2, c3, c4, c5, c6, c7, c8, c9, d1, d2, d3, d4, d5, d6⟩ := fd
    simp only at ep ed
    subst ep
    subst ed
    exact bind_dfl hK lT oT ⟨_, rfl, rfl⟩
theorem f_ex_Mismatch : (∃ fI fd, ExT P K mg ["part", "spot"] (He.ga K "Mismatch") fI ∧ ExI P K ["part", "spot"] (He.ga K "Mismatch") fI fd ∧ (∀ (s : Shared) (u v1 v2 : Value), K.In s.heap → BindsTo s fd ⟨[u, v1, v2], []⟩ [("self", u), ("part", v1), ("spot", v2)]) ∧ ∀ (s : Shared) (u v1 : Value), K.In s.heap → BindsTo s fd ⟨[u, v1], []⟩ [("self", u), ("part", v1), ("spot", Value.none)]) ∧ XfC K (He.ga K "Mismatch") := by
  have a1 := f_ck c 11 rfl
  have a2 := f_ck c 12 rfl
  have hi := f_ck c 14 rfl
  have hd := f_ck c 15 rfl
  have ex := c.ex 2 (d := ⟨"Mismatch", s_Mismatch_init, false⟩) rfl
  rw [← hf] at hi
  obtain ⟨fd, J, ep, en⟩ := exI_ok (P := P) (fs := ["part", "spot"]) (C := He.ga K "Mismatch") (d := ⟨"Mismatch", s_Mismatch_init, false⟩) rfl hi ex ⟨_, rfl, rfl⟩ rfl rfl rfl (by decide +kernel) ⟨_, _, fun n => match n with | 0 => _ | 1 => _ | 2 => _ | 3 => _ | _ => _, [fun n => match n with | 0 => _ | 1 => _ | 2 => _ | _ => _, fun n => match n with | 0 => _ | 1 => _ | 2 => _ | _ => _], rfl, rfl, by decide +kernel⟩
  refine ⟨⟨_, fd, exTB_ok (f_free X G c (by decide +kernel)) hs a1, J, ?_, ?_⟩, xfacB_ok a2⟩
  · intro s u v1 v2 hK
    obtain ⟨T, o, n, ed, lT, oT⟩ := exDB_okN J.at_ hd
    obtain ⟨c1, c2, c3, c4, c5, c6, c7, c8, c9, d1, d2, d3, d4, d5, d6⟩ := fd
    simp only at ep ed
    subst ep
    subst ed
    exact bind_dfl hK lT oT ⟨_, rfl, rfl⟩
  · intro s u v1 hK
    obtain ⟨T, o, n, ed, lT, oT⟩ := exDB_okN J.at_ hd
    obtain ⟨c1, c2, c3, c4, c5, c6, c7, c8, c9, d1, d2, d3, d4, d5, d6⟩ := fd
    simp only at ep ed
    subst ep
    subst ed
    exact bind_dfl hK lT oT ⟨_, rfl, rfl⟩
theorem f_diaF : DiaF P w K mg base (He.ga K "Diary") (He.ga K "InvalidEvent") := by
  have f := f_fa2 c
  have O := f_diaO c
  have D := f_dia X G c
  have T := f_blt X G c
  obtain ⟨_, aoth⟩ := He.ba (f_ck c 17 rfl)
  obtain ⟨aoth, _⟩ := He.ba aoth
  obtain ⟨q1, a⟩ := He.ba (f_ck c 18 rfl)
  obtain ⟨q2, a⟩ := He.ba a
  obtain ⟨q3, a⟩ := He.ba a
  obtain ⟨q4, a⟩ := He.ba a
  obtain ⟨q5, a⟩ := He.ba a
  obtain ⟨q6, a⟩ := He.ba a
  obtain ⟨q7, a⟩ := He.ba a
  obtain ⟨q8, a⟩ := He.ba a
  obtain ⟨q9, q10⟩ := He.ba a
  have ev : EvX P K mg (He.ga K "InvalidEvent") := ⟨f_glo X G c (by decide +kernel), (f_ex_InvalidEvent (P := P) X G c hf hs).1⟩
  have mt1 := He.meth_ok (f (.meth "Diary" "need_event") (by simp [fa2]))
  have mt2 := He.meth_ok (f (.meth "Diary" "__len__") (by simp [fa2]))
  have mt3 := He.meth_ok (f (.meth "Diary" "__eq__") (by simp [fa2]))
  obtain ⟨fd1, bi1, ok1, F1⟩ := mkDef (P := P) (w := w) (mg := mg) (base := base) (CX := CX0) (k := 6) (ps := ["self", "modulus", "weekdays", "bounds"]) (sp := spDInit K (He.ga K "Diary")) c 7 rfl rfl rfl (fun _ _ _ _ _ _ us hl => match us, hl with | [_, _, _, _], _ => rfl) fun fd F => ok_dinit F O (f_df X G c)
  obtain ⟨fd2, bi2, ok2, F2⟩ := mkDef (P := P) (w := w) (mg := mg) (base := base) (CX := CX0) (k := 1) (ps := ["self"]) (sp := spGetF (He.ga K "Diary") "_modulus") c 9 rfl rfl rfl (fun _ _ _ _ _ _ us hl => match us, hl with | [_], _ => rfl) fun fd F => ok_dmod F O
  obtain ⟨fd3, bi3, ok3, F3⟩ := mkDef (P := P) (w := w) (mg := mg) (base := base) (CX := CX0) (k := 1) (ps := ["self"]) (sp := spGetF (He.ga K "Diary") "_weekdays") c 10 rfl rfl rfl (fun _ _ _ _ _ _ us hl => match us, hl with | [_], _ => rfl) fun fd F => ok_dwds F O
  obtain ⟨fd4, bi4, ok4, F4⟩ := mkDef (P := P) (w := w) (mg := mg) (base := base) (CX := CX0) (k := 1) (ps := ["self"]) (sp := spGetF (He.ga K "Diary") "_bounds") c 11 rfl rfl rfl (fun _ _ _ _ _ _ us hl => match us, hl with | [_], _ => rfl) fun fd F => ok_dbds F O
  obtain ⟨fd5, bi5, ok5, F5⟩ := mkDef (P := P) (w := w) (mg := mg) (base := base) (CX := CX0) (k := 1) (ps := ["self"]) (sp := spDLen (He.ga K "Diary") K) c 12 rfl rfl rfl (fun _ _ _ _ _ _ us hl => match us, hl with | [_], _ => rfl) fun fd F => ok_dlen F T O
  obtain ⟨fd6, bi6, ok6, F6⟩ := mkDef (P := P) (w := w) (mg := mg) (base := base) (CX := CX0) (k := 1) (ps := ["self", "other"]) (sp := spDEq K (He.ga K "Diary")) c 13 rfl rfl rfl (fun _ _ _ _ _ _ us hl => match us, hl with | [_, _], _ => rfl) fun fd F => ok_deq F T O D
  obtain ⟨fd7, bi7, ok7, F7⟩ := mkDef (P := P) (w := w) (mg := mg) (base := base) (CX := L2.CX P w) (k := 3) (ps := ["self", "event"]) (sp := spNeed K (He.ga K "Diary") (He.ga K "InvalidEvent")) c 14 rfl rfl rfl (fun _ _ _ _ _ _ us hl => match us, hl with | [_, _], _ => rfl) fun fd F => ok_need F T O ev (f_within X G c)
  refine ⟨D, O, ⟨_, fd1, He.mkr_ok (f (.mkr "Diary") (by simp [fa2])), bi1, ok1⟩, ⟨_, _, fd2, propB_ok q1, bi2, ok2⟩, ⟨_, _, fd3, propB_ok q2, bi3, ok3⟩, ⟨_, _, fd4, propB_ok q3, bi4, ok4⟩, ⟨_, fd5, mt2.at_, mt2.fn, bi5, ok5⟩, ⟨_, fd6, mt3.at_, mt3.fn, bi6, ok6⟩, He.eqO_ok q4, sbB_ok q5, fun s => (othB_ok aoth s).2, q6, ⟨_, fd7, mt1, bi7, ok7, ?_⟩, conB_ok q7, conB_ok q8, conB_ok q9, conB_ok q10⟩
  obtain ⟨oc, od, dV, kV, dc, pm, an, cdv, ct, osl, e, _, _, hdV, _⟩ := F7.ex
  refine ⟨fun s us ws _ h1 h2 => ?_, fun h1 h2 => Vals.append h1 h2⟩
  match us, ws, h1, h2 with
  | [u], [v], _, _ =>
    have ed : dV = .none := hdV.elim (fun z => z.2) (fun z => absurd rfl z.1)
    subst ed
    have eb : bindArgs (PySem.W.fnOf "need_event" "Diary.need_event" (defArgs s_Diary_need_event) (defBody s_Diary_need_event) (defScope s_Diary_need_event) .none kV dc pm an cdv ct) { pos := [u], kw := [(("event" : Str), v)] } = pure [(("self" : Str), u), (("event" : Str), v)] := rfl
    rw [e]
    intro M A E Q q
    show wpAny M A (bindArgs (PySem.W.fnOf "need_event" "Diary.need_event" (defArgs s_Diary_need_event) (defBody s_Diary_need_event) (defScope s_Diary_need_event) .none kV dc pm an cdv ct) { pos := [u], kw := [(("event" : Str), v)] }) Q E s
    rw [eb]
    exact wpAny_pure q

theorem f_evM : Ev2 P K mg "Mismatch" "part" "spot" (He.ga K "Mismatch") := ⟨f_glo X G c (by decide +kernel), (f_ex_Mismatch (P := P) X G c hf hs).1⟩
theorem f_evI : Ev2 P K mg "InvalidDiary" "part" "item" (He.ga K "InvalidDiary") := ⟨f_glo X G c (by decide +kernel), (f_ex_InvalidDiary (P := P) X G c hf hs).1⟩
theorem f_errX : ErrX K mg (He.ga K "Mismatch") (He.ga K "InvalidDiary") (He.ga K "InvalidDays") := by
  have f := f_fa2 c
  exact ⟨f_glo X G c (by decide +kernel), f_glo X G c (by decide +kernel), f_glo X G c (by decide +kernel), errcB_ok (f_ex_Mismatch (P := P) X G c hf hs).2 (show errcB K (He.ga K "Mismatch") = true from (f_ck c 21 rfl : errB56 K (He.ga K "Mismatch") = true)), errcB_ok (f_ex_InvalidDiary (P := P) X G c hf hs).2 (show errcB K (He.ga K "InvalidDiary") = true from (f_ck c 22 rfl : errB56 K (He.ga K "InvalidDiary") = true)),
    isB_ok (f_ck c 23 rfl), isB_ok (f_ck c 24 rfl), isB_ok (f_ck c 25 rfl), isB_ok (f_ck c 26 rfl),
    He.noat_ok (f (.noat "InvalidDiary" "part") (by simp [fa2])), He.noat_ok (f (.noat "InvalidDiary" "item") (by simp [fa2])), He.noat_ok (f (.noat "Mismatch" "part") (by simp [fa2])), He.noat_ok (f (.noat "Mismatch" "spot") (by simp [fa2]))⟩
theorem f_diaX : DiaX P w K mg base (He.ga K "Diary") (He.ga K "InvalidDiary") := by
  have O := f_diaO c
  have ev := f_evI (P := P) X G c hf hs
  obtain ⟨fd1, bi1, ok1, F1⟩ := mkDef (P := P) (w := w) (mg := mg) (base := base) (CX := L2.CX P w) (k := 6) (ps := ["self", "modulus", "weekdays", "bounds"]) (sp := spDInitX K (He.ga K "Diary") (He.ga K "InvalidDiary")) c 7 rfl rfl rfl (fun _ _ _ _ _ _ us hl => match us, hl with | [_, _, _, _], _ => rfl) fun fd F => ok_dinitX F O ev (f_df X G c)
  exact ⟨⟨_, fd1, He.mkr_ok (f_fa2 c (.mkr "Diary") (by simp [fa2])), bi1, ok1⟩⟩
theorem f_of : FnR P w K mg base CX0 8 (He5.wf K (He.ga K "Diary") "classmethod" "of") (spOfG (He.ga K "Diary")) := by
  obtain ⟨fd0, F0⟩ := c.w.def_ 8 rfl
  exact ok_ofG F0 (f_diaF X G c hf hs)
theorem h_class : Has P w K mg base 1 "_law_class" ["error"] (spClass (He.ga K "Mismatch") (He.ga K "InvalidDiary")) := mkHas X G c 25 (by decide +kernel) rfl (fun _ _ _ _ _ _ us hl => match us, hl with | [_], _ => rfl) fun fd F => ok_class F (f_blt X G c) (f_errX (P := P) X G c hf hs)
theorem f_told : ToldD P w K mg base (He.ga K "Mismatch") (He.ga K "InvalidDiary") := by
  obtain ⟨fd, m, F⟩ := mkFn (st := s_law_told) (x := "_law_told") X G c 26 (by decide +kernel) rfl
  exact ⟨⟨_, fd, m, F, F.bindsN (fun _ _ _ _ _ _ us hl => match us, hl with | [_], _ => rfl)⟩, ⟨_, f_glo X G c (by decide +kernel), emB_ok (f_ck c 27 rfl), emB_ok (f_ck c 28 rfl)⟩, h_class X G c hf hs⟩
omit hf hs
theorem h_mixed : Has P w K mg base 1 "_law_mixed" ["cell", "n"] (spMixed) := mkHas X G c 21 (by decide +kernel) rfl (fun _ _ _ _ _ _ us hl => match us, hl with | [_, _], _ => rfl) fun fd F => ok_mixed F
theorem h_folded : Has P w K mg base 1 "_law_folded" ["script"] (spFolded K) := mkHas X G c 22 (by decide +kernel) rfl (fun _ _ _ _ _ _ us hl => match us, hl with | [_], _ => rfl) fun fd F => ok_folded F (f_blt X G c)
theorem h_draw : Has P w K mg base 2 "_law_draw" ["m", "top"] (spDraw') := mkHas X G c 23 (by decide +kernel) rfl (fun _ _ _ _ _ _ us hl => match us, hl with | [_, _], _ => rfl) fun fd F => ok_draw F (f_blt X G c) (h_mixed X G c)
theorem h_begun : Has P w K mg base 2 "_law_begun" ["script"] (spBegun K) := mkHas X G c 24 (by decide +kernel) rfl (fun _ _ _ _ _ _ us hl => match us, hl with | [_], _ => rfl) fun fd F => ok_begun F (f_blt X G c) (h_folded X G c)
theorem h_istaken : Has P w K mg base 1 "is_taken" ["pair", "earlier"] (spIsTakenX) := mkHas X G c 18 (by decide +kernel) rfl (fun _ _ _ _ _ _ us hl => match us, hl with | [_, _], _ => rfl) fun fd F => ok_istakenX F (f_free X G c (by decide +kernel))
include hf hs
theorem h_ispair : Has P w K mg base 3 "is_pair" ["one", "other", "value"] (spIsPairX K (He.ga K "Diary")) := mkHas X G c 17 (by decide +kernel) rfl (fun _ _ _ _ _ _ us hl => match us, hl with | [_, _, _], _ => rfl) fun fd F => ok_ispairX F (f_blt X G c) (f_diaF X G c hf hs) (f_tupOf X G c) (f_within X G c)
theorem h_needpairs : HasE P w K mg base 4 "need_pairs" ["one", "other", "pairs"] (spNeedPairsX K (He.ga K "Diary") (He.ga K "Mismatch")) := mkHasE X G c 16 (by decide +kernel) rfl (fun _ _ _ _ _ _ us hl => match us, hl with | [_, _, _], _ => rfl) fun fd F => ok_needpairsX F (f_blt X G c) (f_evM X G c hf hs) (h_ispair X G c hf hs) (h_istaken X G c)
theorem h_agree : HasE P w K mg base 3 "need_agreement" ["one", "other", "pairs"] (spAgreeX (He.ga K "Diary") (He.ga K "Mismatch")) := mkHasE X G c 19 (by decide +kernel) rfl (fun _ _ _ _ _ _ us hl => match us, hl with | [_, _, _], _ => rfl) fun fd F => ok_agreeX F (f_blt X G c) (f_evM X G c hf hs) (f_diaF X G c hf hs)
theorem h_newnums : Has P w K mg base 3 "new_numbers" ["one", "other", "pairs"] (spNewNums (He.ga K "Diary")) := mkHas X G c 20 (by decide +kernel) rfl (fun _ _ _ _ _ _ us hl => match us, hl with | [_, _, _], _ => rfl) fun fd F => ok_newnums F (f_blt X G c) (f_diaF X G c hf hs)
theorem h_joined : HasR P w K mg base (L2.CX P w) 9 "joined" (spJoinX K (He.ga K "Diary") (He.ga K "Mismatch") (He.ga K "InvalidDiary")) := by
  obtain ⟨fd, m, F⟩ := mkFn (st := s_joined) (x := "joined") X G c 15 (by decide +kernel) rfl
  exact ⟨_, m, F.kp, ok_joinedX F (f_blt X G c) (f_evM X G c hf hs) (f_diaF X G c hf hs) (f_diaX X G c hf hs) (h_needpairs X G c hf hs) (h_agree X G c hf hs) (h_newnums X G c hf hs)⟩
theorem h_joinedK : HasRK P w K mg base (L2.CX P w) 9 "joined" ["other", "one"] (spJoinK K (He.ga K "Diary") (He.ga K "Mismatch") (He.ga K "InvalidDiary")) := by
  obtain ⟨fd, m, F⟩ := mkFn (st := s_joined) (x := "joined") X G c 15 (by decide +kernel) rfl
  exact ⟨_, m, F.kp, ok_joinedK F (f_blt X G c) (f_evM X G c hf hs) (f_diaF X G c hf hs) (f_diaX X G c hf hs) (h_needpairs X G c hf hs) (h_agree X G c hf hs) (h_newnums X G c hf hs)⟩
omit X G c hf hs
def qP : Str := (envOfC "_law_pairs_right" (defScope s_law_pairs_right) 0 0 .none).qual ++ "<lambda>"
def qT : Str := (envOfC "_law_three_right" (defScope s_law_three_right) 0 0 .none).qual ++ "<lambda>"
def qF : Str := (envOfC "_law_first_right" (defScope s_law_first_right) 0 0 .none).qual ++ "<lambda>"
def qS : Str := (envOfC "_law_sizes_right" (defScope s_law_sizes_right) 0 0 .none).qual ++ "<lambda>"
def qL : Str := (envOfC "law" (defScope s_law) 0 0 .none).qual ++ "<lambda>"
def TT (p1 p2 p3 p4 p5 : Addr) : List (Addr × Str) := [(p1, qP), (p2, qT), (p3, qF), (p4, qS), (p5, qL)]
theorem TT_u : ∀ {T : List (Addr × Str)} (nd : (T.map (·.1)).Nodup) {p : Addr} {q : Str} (h : (p, q) ∈ T), ∀ r ∈ T, r.1 = p → r.2 = q
  | [], _, _, _, h, _, _, _ => by cases h
  | t :: T, nd, p, q, h, r, hr, e => by
    rw [List.map_cons, List.nodup_cons] at nd
    rcases List.mem_cons.mp h with e1 | h1
    · rcases List.mem_cons.mp hr with e2 | h2
      · rw [e2, ← e1]
      · exact absurd (List.mem_map.mpr ⟨r, h2, by rw [e, ← e1]⟩) nd.1
    · rcases List.mem_cons.mp hr with e2 | h2
      · exact absurd (List.mem_map.mpr ⟨(p, q), h1, by rw [← e2, e]⟩) nd.1
      · exact TT_u nd.2 h1 r h2 e
include X G c hf hs
theorem h_pairs {c1 p1 p2 p3 p4 p5 : Addr} (nd : ((TT p1 p2 p3 p4 p5).map (·.1)).Nodup) (ht : tabA K (He.ga K "_law_pairs_right") = some (c1, p1)) (tb : LamX.TabB base mg c1 p1) : HasG P w K mg base 12 "_law_pairs_right" ["m", "base"] (spPairsR (TT p1 p2 p3 p4 p5)) :=
  mkHasG X G c 27 (by decide +kernel) rfl (fun _ _ _ _ _ _ us hl => match us, hl with | [_, _], _ => rfl) fun fd F => ok_pairs (TT := TT p1 p2 p3 p4 p5) List.mem_cons_self (TT_u nd List.mem_cons_self) F ht tb (f_blt X G c) (f_diaF X G c hf hs) (f_told X G c hf hs) (h_joined X G c hf hs) (h_draw X G c) (crB_ok (f_ck c 20 rfl)) (cmB_ok (f_ck c 19 rfl)) (f_of X G c hf hs)
theorem h_three {c1 p1 p2 p3 p4 p5 : Addr} (nd : ((TT p1 p2 p3 p4 p5).map (·.1)).Nodup) (ht : tabA K (He.ga K "_law_three_right") = some (c1, p2)) (tb : LamX.TabB base mg c1 p2) : HasG P w K mg base 12 "_law_three_right" ["base"] (spFirst (TT p1 p2 p3 p4 p5)) :=
  mkHasG X G c 28 (by decide +kernel) rfl (fun _ _ _ _ _ _ us hl => match us, hl with | [_], _ => rfl) fun fd F => ok_three (TT := TT p1 p2 p3 p4 p5) (List.mem_cons_of_mem _ List.mem_cons_self) (TT_u nd (List.mem_cons_of_mem _ List.mem_cons_self)) F ht tb (f_blt X G c) (f_diaF X G c hf hs) (f_told X G c hf hs) (h_joined X G c hf hs) (crB_ok (f_ck c 20 rfl)) (cmB_ok (f_ck c 19 rfl)) (f_of X G c hf hs)
theorem h_first {c1 p1 p2 p3 p4 p5 : Addr} (nd : ((TT p1 p2 p3 p4 p5).map (·.1)).Nodup) (ht : tabA K (He.ga K "_law_first_right") = some (c1, p3)) (tb : LamX.TabB base mg c1 p3) : HasG P w K mg base 12 "_law_first_right" ["base"] (spFirst (TT p1 p2 p3 p4 p5)) :=
  mkHasG X G c 29 (by decide +kernel) rfl (fun _ _ _ _ _ _ us hl => match us, hl with | [_], _ => rfl) fun fd F => ok_first (TT := TT p1 p2 p3 p4 p5) (List.mem_cons_of_mem _ (List.mem_cons_of_mem _ List.mem_cons_self)) (TT_u nd (List.mem_cons_of_mem _ (List.mem_cons_of_mem _ List.mem_cons_self))) F ht tb (f_blt X G c) (f_diaF X G c hf hs) (f_told X G c hf hs) (h_joined X G c hf hs)
theorem h_sizes {c1 p1 p2 p3 p4 p5 : Addr} (nd : ((TT p1 p2 p3 p4 p5).map (·.1)).Nodup) (ht : tabA K (He.ga K "_law_sizes_right") = some (c1, p4)) (tb : LamX.TabB base mg c1 p4) : HasG P w K mg base 12 "_law_sizes_right" ["m", "base"] (spSizesR (TT p1 p2 p3 p4 p5)) :=
  mkHasG X G c 30 (by decide +kernel) rfl (fun _ _ _ _ _ _ us hl => match us, hl with | [_, _], _ => rfl) fun fd F => ok_sizes (TT := TT p1 p2 p3 p4 p5) (List.mem_cons_of_mem _ (List.mem_cons_of_mem _ (List.mem_cons_of_mem _ List.mem_cons_self))) (TT_u nd (List.mem_cons_of_mem _ (List.mem_cons_of_mem _ (List.mem_cons_of_mem _ List.mem_cons_self)))) F ht tb (f_blt X G c) (f_diaF X G c hf hs) (f_told X G c hf hs) (h_joined X G c hf hs) (h_joinedK X G c hf hs) (h_draw X G c)
theorem facts {f c1 p1 c2 p2 c3 p3 c4 p4 c5 p5 : Addr} (hfa : mg ("law" : Str) = some (.ref f)) (h1 : tabA K (He.ga K "_law_pairs_right") = some (c1, p1)) (h2 : tabA K (He.ga K "_law_three_right") = some (c2, p2)) (h3 : tabA K (He.ga K "_law_first_right") = some (c3, p3)) (h4 : tabA K (He.ga K "_law_sizes_right") = some (c4, p4)) (h5 : tabA K (He.ga K "law") = some (c5, p5)) :
    ∃ fd : FuncData, (∀ (s : Shared) (v : Value), BindsTo s fd ⟨[v], []⟩ [("script", v)]) ∧ ∀ base : Heap, K.In base → base.Ns mainGlobals mg → (∀ q ∈ [(c1, p1), (c2, p2), (c3, p3), (c4, p4), (c5, p5)], LamX.TabB base mg q.1 q.2) → GOk P w K mg base 13 f fd ["script"] (spLawT K (TT p1 p2 p3 p4 p5)) := by
  have nd : ((TT p1 p2 p3 p4 p5).map (·.1)).Nodup := by
    have z := f_ck c 29 rfl
    unfold tabND at z
    have z := of_decide_eq_true z
    have tp : ∀ {g cc pp : Addr}, tabA K g = some (cc, pp) → tabP K g = pp := fun h => by unfold tabP; rw [h]
    simp only [List.map_cons, List.map_nil, tp h1, tp h2, tp h3, tp h4, tp h5] at z
    exact z
  obtain ⟨fd, F⟩ := c.w.def_ 31 rfl
  have F' : FnT K "law" s_law (He.ga K "law") fd := F
  have e := hfa.symm.trans (He.glo_ok X G (f_fa2 c (.glo "law") (by simp [fa2])))
  cases e
  have b := FunD.bindsA (ps := ["script"]) F' fun _ _ _ _ _ _ us hl => match us, hl with | [_], _ => rfl
  exact ⟨fd, fun s v => b s [v] rfl, fun base _ _ tb => ok_law (TT := TT p1 p2 p3 p4 p5) (List.mem_cons_of_mem _ (List.mem_cons_of_mem _ (List.mem_cons_of_mem _ (List.mem_cons_of_mem _ List.mem_cons_self)))) (TT_u nd (List.mem_cons_of_mem _ (List.mem_cons_of_mem _ (List.mem_cons_of_mem _ (List.mem_cons_of_mem _ List.mem_cons_self))))) F' h5 (tb (c5, p5) (List.mem_cons_of_mem _ (List.mem_cons_of_mem _ (List.mem_cons_of_mem _ (List.mem_cons_of_mem _ List.mem_cons_self))))) (f_blt X G c) (f_diaF X G c hf hs) (f_told X G c hf hs) (h_joined X G c hf hs) (h_draw X G c) (h_begun X G c)
    (h_pairs X G c hf hs nd h1 (tb (c1, p1) List.mem_cons_self)) (h_sizes X G c hf hs nd h4 (tb (c4, p4) (List.mem_cons_of_mem _ (List.mem_cons_of_mem _ (List.mem_cons_of_mem _ List.mem_cons_self))))) (h_three X G c hf hs nd h2 (tb (c2, p2) (List.mem_cons_of_mem _ List.mem_cons_self))) (h_first X G c hf hs nd h3 (tb (c3, p3) (List.mem_cons_of_mem _ (List.mem_cons_of_mem _ List.mem_cons_self)))) (crB_ok (f_ck c 20 rfl)) (cmB_ok (f_ck c 19 rfl)) (f_of X G c hf hs)⟩
end
end K56
open PySem PySem.W PySem.Calls PyProof.Rows
theorem PySem.Challenge.cw_weekdaylegs_k56_joining_refused_holds : PySem.Challenge.rw_weekdaylegs_k56_joining_refused.Holds := by
  w_on; o_law
  refine HandSHeadRun.head_any (r := OpenLaw.row PySem.Challenge.rw_weekdaylegs_k56_joining_refused) (q := view (OpenLaw.row PySem.Challenge.rw_weekdaylegs_k56_joining_refused).prog [47]) (H := K56.hk) (ob := K56.ob) (M := 12000) (loose := K56.loose) (d := HandSHeadRun.topDef (OpenLaw.row PySem.Challenge.rw_weekdaylegs_k56_joining_refused).prog 47) (kwd := []) K56.ob_eq
    (by kernel_rfl) (fun s => by kernel_rfl) K56.run (by kernel_rfl) (by kernel_rfl) (by kernel_rfl) (by rfl) (by first | assumption | decide +kernel) (by decide +kernel) ⟨rfl, rfl, rfl, rfl, rfl, by decide +kernel⟩ ?hw ?hc
  case hw => w_witness2
  case hc =>
    refine WL.walk_gT (l := PySem.Challenge.rw_weekdaylegs_k56_joining_refused) (n := 63) (k := 13) (x := "script") rfl (by decide) (by kernel_rfl) ⟨rfl, by decide, by decide⟩ ?F
    intro w mg fa h Y G hmg0
    obtain ⟨K, KX, c⟩ := Y
    have hmg : mg ("law" : PySem.Str) = some (.ref fa) := by
      have e : (HandSHeadRun.topDef (OpenLaw.row PySem.Challenge.rw_weekdaylegs_k56_joining_refused).prog 47).name = ("law" : PySem.Str) := by kernel_rfl
      rw [← e]
      exact hmg0
    obtain ⟨c1, p1, ht1, hcd1, hk1, hp1⟩ := c.tabs (.g "_law_pairs_right") List.mem_cons_self
    obtain ⟨c2, p2, ht2, hcd2, hk2, hp2⟩ := c.tabs (.g "_law_three_right") (List.mem_cons_of_mem _ List.mem_cons_self)
    obtain ⟨c3, p3, ht3, hcd3, hk3, hp3⟩ := c.tabs (.g "_law_first_right") (List.mem_cons_of_mem _ (List.mem_cons_of_mem _ List.mem_cons_self))
    obtain ⟨c4, p4, ht4, hcd4, hk4, hp4⟩ := c.tabs (.g "_law_sizes_right") (List.mem_cons_of_mem _ (List.mem_cons_of_mem _ (List.mem_cons_of_mem _ List.mem_cons_self)))
    obtain ⟨c5, p5, ht5, hcd5, hk5, hp5⟩ := c.tabs (.g "law") (List.mem_cons_of_mem _ (List.mem_cons_of_mem _ (List.mem_cons_of_mem _ (List.mem_cons_of_mem _ List.mem_cons_self))))
    obtain ⟨fd, hb, hF⟩ := K56.facts (P := PySem.Challenge.rw_weekdaylegs_k56_joining_refused.prog) (w := w) KX G c.x rfl (by decide +kernel) hmg ht1 ht2 ht3 ht4 ht5
    have five : ∀ {P : PySem.Addr × PySem.Addr → Prop}, P (c1, p1) → P (c2, p2) → P (c3, p3) → P (c4, p4) → P (c5, p5) → ∀ q ∈ [(c1, p1), (c2, p2), (c3, p3), (c4, p4), (c5, p5)], P q := fun a1 a2 a3 a4 a5 q hq => by
      rcases List.mem_cons.mp hq with rfl | hq
      · exact a1
      rcases List.mem_cons.mp hq with rfl | hq
      · exact a2
      rcases List.mem_cons.mp hq with rfl | hq
      · exact a3
      rcases List.mem_cons.mp hq with rfl | hq
      · exact a4
      · rw [List.mem_singleton.mp hq]; exact a5
    refine ⟨K, fd, WL.spLawT K (K56.TT p1 p2 p3 p4 p5), [(c1, p1), (c2, p2), (c3, p3), (c4, p4), (c5, p5)], KX, five hp1 hp2 hp3 hp4 hp5, five hk1 hk2 hk3 hk4 hk5, five hcd1 hcd2 hcd3 hcd4 hcd5, hb, fun H a ns hl hT hS => ⟨a, ns, rfl, hS, hl, fun r hr => ?_, fun _ => rfl⟩, hF⟩
    rcases List.mem_cons.mp hr with rfl | hr
    · exact LamX.TabS.nil (hT (c1, p1) List.mem_cons_self)
    rcases List.mem_cons.mp hr with rfl | hr
    · exact LamX.TabS.nil (hT (c2, p2) (List.mem_cons_of_mem _ List.mem_cons_self))
    rcases List.mem_cons.mp hr with rfl | hr
    · exact LamX.TabS.nil (hT (c3, p3) (List.mem_cons_of_mem _ (List.mem_cons_of_mem _ List.mem_cons_self)))
    rcases List.mem_cons.mp hr with rfl | hr
    · exact LamX.TabS.nil (hT (c4, p4) (List.mem_cons_of_mem _ (List.mem_cons_of_mem _ (List.mem_cons_of_mem _ List.mem_cons_self))))
    · rw [List.mem_singleton.mp hr]
      exact LamX.TabS.nil (hT (c5, p5) (List.mem_cons_of_mem _ (List.mem_cons_of_mem _ (List.mem_cons_of_mem _ (List.mem_cons_of_mem _ List.mem_cons_self)))))
