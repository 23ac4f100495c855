import PyProof.Rows.All
import HandS.ForMost
import HandS.IsInst
import HandS.TupMul
import HandS.TupAny
import HandS.Walk
import HandS.Zip
import PyProof.ReprRoads
import PyProof.ReprBulk
import KE.GoesMore
import PyProof.EnumMake
import HandS.Star
import HandS.Property
import HandS.SortKw
import KE.KOpsOwn
import KE.DataMinMax
import PyProof.InstNe
import HandS.Style
import HandS.DictTup
import PyProof.DictMoreH
import HandS.Iter
import PyProof.Rows.RowBridgeK
import HandS.Wide
import PyProof.Rows.ReprShort
import PyProof.ReprLen
import HandS.Conv
import HandS.TupSets
import PyProof.P3Statements
import HandS.SetFor
import HandS.Strs
import HandS.Dict
import HandS.More
import HandS.Deep
import KE.KDictKeyed
import KE.SortKeyHeap
import HandS.EndTab
import KE.KNest
import PyProof.CallFns
import PyProof.StrOps2
import HandS.HotCalls
import HandS.ExcIs
import HandS.ExcOwn
import HandS.WordsExc
import KE.KTryMore
import PySem.Challenge.RW_startgaps_k01_works_recognized
import HandS.FStr
import PyProof.ReprNest
import PyProof.Rows.ReprOcc
import HandS.RaiseMore
set_option Elab.async false
set_option linter.all false
set_option maxRecDepth 100000
set_option maxHeartbeats 4000000
namespace Sg
open PySem PySem.Spec PyProof.Rows L2
/-! ## defs that may ask for a text of data: they run outside of every such text -/
/-- a promise that holds where no text of data is being made -/
structure FnG (P : Program) (w : World) (K : PySem.W.Frag) (mg : Str → Option Value) (base : Heap) (k : Nat) (f : Addr)
    (fd : FuncData) (ps : List Str) (sp : Sp) : Prop where
  arity : ∀ vs H Q, sp vs H Q E0 → vs.length = ps.length
  go : ∀ (A : Around) (outer : List Env) (s : Shared) (H : Hp) (args : Args) (us : List Value) (vs : List V) (Q : VK),
    A.guards = some [] → Room k A → Env0 P w K mg base A outer s H → BindsTo s fd args (ps.zip us) → Vals vs us →
    sp vs H Q E0 → codeAny (model P w) A (.call (.ref f) args) (CR CX0 outer P w H s Q E0) s
section
variable {P : Program} {w : World} {K : PySem.W.Frag} {mg : Str → Option Value} {base : Heap} {k : Nat} {f : Addr}
variable {fd : FuncData} {ps : List Str} {sp : Sp}
theorem FnG.of (F : FnOk P w K mg base CX0 k f fd ps sp) : FnG P w K mg base k f fd ps sp :=
  ⟨fun vs H Q h => F.len vs H Q E0 h, fun A outer s H args us vs Q _ hr e0 hb hv h =>
    F.run A outer s H args us vs Q E0 hr e0 hb hv h⟩
theorem FnG.mono {j : Nat} (F : FnG P w K mg base j f fd ps sp) (h : j ≤ k) : FnG P w K mg base k f fd ps sp :=
  ⟨F.arity, fun A outer s H args us vs Q hg hr => F.go A outer s H args us vs Q hg (hr.mono h)⟩
/-- a def's body, where no text of data is being made -/
theorem fnG_mk {x qual : Str} {st : Stmt} {N : List Str} (F : Fun K x qual st f fd)
    (S : FnScope N ps (defScope st)) (arity : ∀ vs H Q, sp vs H Q E0 → vs.length = ps.length)
    (hbody : ∀ (cdv : Value) (A : Around) (outer : List Env) (s : Shared) (H : Hp) (vs : List V) (Q : VK),
      (A.deeper (envOfC qual (defScope st) s.heap.objs.size f cdv)).guards = some [] →
      Room k (A.deeper (envOfC qual (defScope st) s.heap.objs.size f cdv)) → sp vs H Q E0 →
      ∃ t, PSs (cxOf CX0 P w K mg base N qual (defScope st) f cdv A outer s H E0).nox (defBody st) t ∧
        t { nx := fun _ H' => Q .non H', rt := Q } (start N vs) H) :
    FnG P w K mg base (k + 1) f fd ps sp := by
  obtain ⟨oc, od, kV, doc, pm, an, cdv, ct, osl, rfl, lk, hcd⟩ := F.ex
  refine ⟨arity, ?_⟩
  intro A outer s H args us vs Q hg hr e0 hb r hsp
  have hl := arity _ _ _ hsp
  have hk0 : ∀ b o, base.get? b = some o → s.heap.get? b = some o := fun b o e => (e0.bs b o e).1
  have KX : K.In s.heap := e0.mod.kin.keeps hk0
  have lim : s.heap.NoLimit := e0.mod.nolimit.keeps hk0
  refine codeAny_call_function hr.depth (KX _ _ lk) rfl S.co S.gen rfl (PySem.W.codeRec_of KX hcd) ?_
  refine hb _ _ _ _ (wpAny_newFunctionEnv_cells S.kind ?_ ?_)
  · rintro ⟨n, v⟩ hy
    have hn := S.par n (List.of_mem_zip hy).1
    cases hn with
    | inl q => exact .inl q
    | inr q => exact .inr ⟨q, PySem.W.cellsFrom_some _ _ _ (.inl q)⟩
  · intro env he s1 x
    subst he
    refine ⟨lim.keeps x.toInCall.keep, ?_⟩
    apply codeAny_func
    obtain ⟨t, ht, hq⟩ := hbody cdv A outer s H vs Q hg (hr.deeper _) hsp
    have ht' := ht.nox
    have I := inv_start (CX := CX0) (E := E0) (cd := cdv) (qual := qual) (f := f) S hr.hd e0 hl r x
    refine wpAny_mono (ht'.run [] s1 (start N vs) H _ I hq) ?_ (fun e s' hs => hs)
    intro fl s' hs
    cases fl with
    | ret u =>
      obtain ⟨v, σ', H', J, rv, q⟩ := hs
      exact ⟨v, H', J.os, J.bare, J.base, J.hok, rv, q⟩
    | next =>
      obtain ⟨σ', H', J, q⟩ := hs
      exact ⟨V.non, H', J.os, J.bare, J.base, J.hok, rfl, q⟩
    | brk => obtain ⟨_, _, _, q⟩ := hs; exact q.elim
    | cont => obtain ⟨_, _, _, q⟩ := hs; exact q.elim
end
section
variable {X : Cx} {k : Nat} {f : Addr} {fd : FuncData} {ps : List Str} {sp : Sp} {dvs : List V} {ds : List Value}
variable {x : Str} {p pos : Pos} {e : Expr} {es : List Expr} {t : TA}
/-- f(a, ..) of such a def -/
theorem pe_callG (F : FnG X.prog X.w X.K X.mg X.base k f fd ps sp) (hgd : X.A.guards = some []) (hr : Room k X.A)
    (hg : Gl X x) (hm : X.mg x = some (.ref f)) (hk : PySem.W.keepIn X.K (.ref f) = true) (hb : Binds X.K fd ps [])
    (ha : PA X (e :: es) t) (hdb : (x == ("__debug__" : Str)) = false := by decide)
    (he : starEach (e :: es) X.env = (false, eval e X.env) :: starEach es X.env := by rfl)
    (hpl : (backTo pos (starEach es X.env)).any (·.1) = false := by rfl) :
    PE X (.Call (.Name x p) (e :: es) [] pos) (tCall sp [] E0 t) := by
  constructor
  intro pins s σ H Q I h
  refine wpAny_Call_Name_kw (ld_glob I hg hm (PySem.W.callWith_K (h₀ := X.base) I.ok.mod.kin hk ?_ he hpl) hdb)
  refine thn (ha.run pos pins s σ H _ I h) ?_
  rintro us s1 ⟨vs, H1, I1, r, q⟩
  refine ⟨I1.kIn, ?_⟩
  rw [List.append_nil] at q
  have hl : (us ++ []).length = ps.length := by rw [List.append_nil, ← r.length]; exact F.arity _ _ _ q
  have hbb := hb s1 us I1.kIn hl
  rw [List.append_nil] at hbb
  refine wpAny_call (codeAny_mono (F.go X.A X.stack s1 H1 ⟨us, []⟩ us vs Q hgd hr I1.env0 hbb r q) ?_)
  intro r' s' hq
  match r', hq with
  | .error _, hq => exact hq.elim
  | .ok (.ret _), hq => exact I1.after hq
  | .ok .next, hq => exact hq.elim
  | .ok .brk, hq => exact hq.elim
  | .ok .cont, hq => exact hq.elim
/-! ## repr of data -/
end
end Sg
set_option Elab.async false
set_option linter.all false
set_option maxRecDepth 100000
set_option maxHeartbeats 4000000
namespace Sg
open PySem PySem.Spec PyProof.Rows L2
/-! ## the law's own call -/
section
variable {P : Program} {w : World} {K : PySem.W.Frag} {mg mb : Str → Option Value} {k : Nat} {fa a : Addr}
variable {fd : FuncData} {x : Str} {sp : Sp} {s₁ : Shared} {vs : List Value} {ns : List Int}
/-- what is asked of the law's call -/
abbrev Ended (s₁ : Shared) : Result → Shared → Prop := fun r s' =>
  r = .ok (.ret (.bool true)) ∧ OldK s₁.heap s'.heap ∧ s'.os = s₁.os ∧ AllBare s'.gens
theorem call_from {H : Hp} (KX : K.In s₁.heap) (hns : s₁.heap.Ns mainGlobals mg) (hb : s₁.heap.Ns builtinsNs mb)
    (hbb : ∀ x : Str, x ≠ "__name__" → mb x = bootBuiltins x) (hlim : s₁.heap.NoLimit) (hg : s₁.gens = #[])
    (ha : s₁.heap.get? a = some { cls := .type "list", data := .seq vs.toArray }) (hr : Room k callerA)
    (F : ∀ base : Heap, K.In base → base.Ns mainGlobals mg → FnG P w K mg base k fa fd [x] sp)
    (hbind : ∀ (s : Shared) (u : Value), BindsTo s fd ⟨[u], []⟩ [(x, u)])
    (hsp : sp [.ref a] H (fun v _ => v = .bl true) E0) (hO : Only H) (hok : HOk P w H s₁.heap)
    (hA : ∀ b, H b ≠ none → b = a) (hK : H a ≠ none → K.lookup a = none) :
    codeAny (model P w) callerA (.call (.ref fa) ⟨[.ref a], []⟩) (Ended s₁) s₁ := by
  have only : ∀ {b : Addr} {u : HO}, H b = some u → b = a := fun z => hA _ (by rw [z]; exact fun q => nomatch q)
  have free : ∀ {b : Addr} {o : Obj} {es : Array DictEntry} {ep : Nat},
      s₁.heap.get? b = some o → o.data = .dict es ep → H b = none := by
    intro b o es ep e d
    rcases q : H b with _ | u
    · rfl
    · rw [only q, ha] at e
      have e' := Option.some.inj e
      rw [← e'] at d
      exact nomatch d
  have nsK : ∀ {b : Addr} {m : Str → Option Value}, s₁.heap.Ns b m → (hidT s₁.heap H).Ns b m := by
    rintro b m ⟨o, es, ep, e, d, r⟩
    exact ⟨o, es, ep, hidT_get e (free e d), d, r⟩
  have hKb : K.In (hidT s₁.heap H) := by
    intro b o e
    refine hidT_get (KX b o e) ?_
    rcases q : H b with _ | u
    · rfl
    · have e' := only q
      subst e'
      have z := hK (by rw [q]; exact fun q => nomatch q)
      rw [z] at e
      exact nomatch e
  have hM : Mod K mg (hidT s₁.heap H) := by
    refine ⟨hKb, nsK hns, ⟨mb, nsK hb, hbb⟩, ?_⟩
    obtain ⟨mc, h1, h2⟩ := hlim
    exact ⟨mc, nsK h1, h2⟩
  have e0 : Env0 P w K mg (hidT s₁.heap H) callerA [] s₁ H := by
    refine ⟨rfl, hM, fun b o e => of_hidT e, Nat.le_of_eq (hidT_size _ _), trivial, ?_, hok, .of_eq hg⟩
    intro b hb
    have hb' : b ∈ ([] : List Addr) := hb
    exact nomatch hb'
  have run := (F _ hKb (nsK hns)).go callerA [] s₁ H ⟨[.ref a], []⟩ [.ref a] [.ref a] _ rfl hr e0
    (hbind s₁ (.ref a)) (.cons rfl .nil) hsp
  refine codeAny_mono run ?_
  intro r s' h
  match r, h with
  | .error _, h => exact h.elim
  | .ok .next, h => exact h.elim
  | .ok .brk, h => exact h.elim
  | .ok .cont, h => exact h.elim
  | .ok (.ret u), h =>
    obtain ⟨v, H', os, bare, un, hok', r', q⟩ := h
    have q' : v = .bl true := q
    subst q'
    have eu : u = Value.bool true := r'
    subst eu
    refine ⟨rfl, OldK.of_keep ?_, os, bare⟩
    intro b o e
    rcases q : H b with _ | u
    · refine un.keep b o e q (fun z => ?_) (fun z => nomatch z)
      have z' : b ∈ ([] : List Addr) := z
      exact nomatch z'
    · rcases hO b with z | ⟨ob, xs, z⟩
      · rw [q] at z; exact nomatch z
      · obtain ⟨e1, _⟩ := hok b _ z
        obtain ⟨e2, _⟩ := hok' b _ (un.frzs b ob _ z)
        rw [e] at e1
        rw [e2, Option.some.inj e1]
theorem call_law (KX : K.In s₁.heap) (hns : s₁.heap.Ns mainGlobals mg) (hb : s₁.heap.Ns builtinsNs mb)
    (hbb : ∀ x : Str, x ≠ "__name__" → mb x = bootBuiltins x) (hlim : s₁.heap.NoLimit) (hg : s₁.gens = #[])
    (ha : s₁.heap.get? a = some { cls := .type "list", data := .seq vs.toArray }) (hi : IntsAre vs ns)
    (hl : ns.length ≤ sizeLine) (hr : Room k callerA)
    (F : ∀ base : Heap, K.In base → base.Ns mainGlobals mg → FnG P w K mg base k fa fd [x] sp)
    (hbind : ∀ (s : Shared) (u : Value), BindsTo s fd ⟨[u], []⟩ [(x, u)])
    (hsp : ∀ H : Hp, Only H → SqL K H a (ns.map V.int) → sp [.ref a] H (fun v _ => v = .bl true) E0) :
    codeAny (model P w) callerA (.call (.ref fa) ⟨[.ref a], []⟩) (Ended s₁) s₁ := by
  have rv := vals_ints hi
  have lenV := hi.length
  rcases hk : K.lookup a with _ | o
  · let H : Hp := fun b => if b = a then some (.frz { cls := .type "list", data := .seq vs.toArray } (.lst (ns.map V.int))) else none
    have at_a : H a = some (.frz { cls := .type "list", data := .seq vs.toArray } (.lst (ns.map V.int))) := if_pos rfl
    have off : ∀ b, b ≠ a → H b = none := fun b hb => if_neg hb
    have onlyH : Only H := by
      intro b
      by_cases hb : b = a
      · exact .inr ⟨_, _, if_pos hb⟩
      · exact .inl (off b hb)
    refine call_from (H := H) KX hns hb hbb hlim hg ha hr F hbind (hsp H onlyH (.inl (.inr ⟨_, at_a⟩))) onlyH ?_ ?_ (fun _ => hk)
    · intro b u z
      by_cases hb : b = a
      · subst hb
        rw [at_a] at z
        obtain rfl := Option.some.inj z
        exact ⟨ha, by rw [List.length_map]; exact hl, vs, _, rv, ha⟩
      · rw [off b hb] at z; exact nomatch z
    · intro b z
      by_cases hb : b = a
      · exact hb
      · exact absurd (off b hb) z
  · have e := KX a o hk
    rw [ha] at e
    obtain rfl := Option.some.inj e
    refine call_from (H := fun _ => none) KX hns hb hbb hlim hg ha hr F hbind (hsp _ (fun _ => .inl rfl) (.inr ?_)) (fun _ => .inl rfl)
      (fun b u z => nomatch z) (fun b z => absurd rfl z) (fun z => absurd rfl z)
    exact ⟨_, vs.toArray, _, hk, rfl, rfl, rfl, by rw [List.size_toArray, lenV]; exact hl, rv⟩
end
/-- the end of a law's proof -/
theorem walk_law {l : PySem.W.OpenLaw} {k : Nat} {q : Program} {loose : List Str} {XP : (Str → Option Value) → Heap → Prop}
    {YP : World → Heap → Prop} {d : DefRec} {K : Params → PySem.W.Frag} {sp : PySem.W.Frag → Sp} {x : Str}
    (hn : l.most = some 63) (hdf : d.params.defaults = []) (hr : Room k callerA)
    (hY : ∀ (w : World) (h : Heap), YP w h → (K w.params).In h)
    (F : ∀ (w : World) (mg : Str → Option Value) (fa : Addr) (h : Heap), (K w.params).In h → h.Ns mainGlobals mg →
      mg d.name = some (.ref fa) → ∃ fd : FuncData, (∀ (s : Shared) (u : Value), BindsTo s fd ⟨[u], []⟩ [(x, u)]) ∧
        ∀ base : Heap, (K w.params).In base → base.Ns mainGlobals mg →
          FnG l.prog w (K w.params) mg base k fa fd [x] (sp (K w.params)))
    (hsp : ∀ (K : PySem.W.Frag) (H : Hp) (a : Addr) (ns : List Int), ns.length ≤ 63 → Only H → SqL K H a (ns.map V.int) →
      sp K [.ref a] H (fun v _ => v = .bl true) E0) :
    PySem.W.WalkO q loose XP YP l.row.toRowW d [] (fun f vs => PySem.call f vs) := by
  refine Att.attach_call hn hdf ?_
  intro w s₀ s₁ mg mb fa o pm cd doc a vs ns G Y ho hd hcd hmg hobj hints hlen hg
  obtain ⟨fd, hb, hF⟩ := F w mg fa _ (hY w _ Y) G.T.g hmg
  exact call_law (hY w _ Y) G.T.g G.T.b G.T.builtins G.T.nolimit hg hobj hints
    (Nat.le_trans hlen (by decide)) hr hF hb (fun H hO hS => hsp _ H a ns hlen hO hS)
end Sg
set_option Elab.async false
set_option linter.all false
set_option maxRecDepth 100000
set_option maxHeartbeats 4000000
namespace PySem
open Sem (wp)
open AutoSeq1 (wpAny_loadPart')
end PySem
set_option Elab.async false
set_option linter.all false
set_option maxRecDepth 100000
set_option maxHeartbeats 4000000
namespace Sg
open PySem PySem.Spec PyProof.Rows L2
/-! ## [c for a in t for b in a for c in b], tuples all the way down -/
/-- slots that agree but for those of ws -/
def Ag (ws : List Nat) (σ σ' : L2.St) : Prop := σ'.length = σ.length ∧ ∀ j, j ∉ ws → σ'[j]? = σ[j]?
theorem Ag.refl (ws : List Nat) (σ : L2.St) : Ag ws σ σ := ⟨rfl, fun _ _ => rfl⟩
theorem Ag.trans {ws : List Nat} {a b c : L2.St} (h : Ag ws a b) (k : Ag ws b c) : Ag ws a c := ⟨k.1.trans h.1, fun j hj => (k.2 j hj).trans (h.2 j hj)⟩
theorem Ag.set {ws : List Nat} {σ : L2.St} {k : Nat} {v : Option V} (hk : k ∈ ws) : Ag ws σ (σ.set k v) := ⟨List.length_set, fun j hj => by
  rw [List.getElem?_set_ne]
  rintro rfl
  exact hj hk⟩
theorem Ag.mono {ws us : List Nat} {σ σ' : L2.St} (h : Ag ws σ σ') (k : ∀ j ∈ ws, j ∈ us) : Ag us σ σ' := ⟨h.1, fun j hj => h.2 j fun z => hj (k j z)⟩
/-- a turn of a loop of a comprehension without tests -/
def flatTurn (e : Expr) (d : Nat) (it D : Addr) (n : Str) (p pos : Pos) (bd : Sem Fin → Sem Fin) (env : Env) : Sem Fin :=
  standAt pos >>= fun _ => pyNext (.ref it) >>= fun r => match r with
    | none => pure (.done .next)
    | some v => letOwnedTupleGo (.Name n p) (.ref it) v >>= fun _ => assign (.Name n p) env v >>= fun _ =>
      bd (again (.compLoop e d (.ref it) (.ref D) env))
section
variable {Z : Cx} {elt : Expr} {gens : List Comprehension} {scope : Scope} {cpos p pos : Pos} {d k : Nat} {it D c : Addr} {n : Str} {bd : Sem Fin → Sem Fin}
variable {R : Result → Shared → Prop} {xs : List V} {pins : List (Addr × Obj)} {ws : List Nat}
theorem flat_loop (hxe : Z.xe = fun _ _ => False) (hcalm : Z.calm = true) (hN : Z.N.Nodup)
    (hturn : compTurn (.ListComp elt gens scope cpos) d (.ref it) (.ref D) Z.env = flatTurn (.ListComp elt gens scope cpos) d it D n p pos bd Z.env)
    (hk : Z.N[k]? = some n) (hloc : Loc Z.env.scope n) (hfn : Z.fn n = true ∨ Z.env.scope.names.lookup n = some .local) (hkw : k ∈ ws)
    (σ : L2.St) (G : Nat → Hp → Prop) (hG : ∀ i H, i ≤ xs.length → G i H → SqT Z.K H c xs) (hfp : ∀ H, H it = none → FpOk Z pins H it)
    (hbd : ∀ i x s σ' H, xs[i]? = some x → G i H → H it = none → Inv Z (pins ++ pinsAt [it] s.heap) σ' H s → σ'[k]? = some (some x) → Ag ws σ σ' →
      ∀ (kk : Sem Fin) (Qf : Fin → Shared → Prop) (Ef : Value → Shared → Prop),
        (∀ s' σ'' H', Inv Z (pins ++ pinsAt [it] s.heap) σ'' H' s' → Ag ws σ σ'' → G (i + 1) H' → wpAny (model Z.prog Z.w) Z.A kk Qf Ef s') → wpAny (model Z.prog Z.w) Z.A (bd kk) Qf Ef s)
    (hfin : ∀ s' σ' H', Inv Z pins σ' H' s' → Ag ws σ σ' → G xs.length H' → R (.ok .next) s')
    {s : Shared} {σ₀ : L2.St} {H₀ : Hp} (I₀ : Inv Z pins σ₀ H₀ s) (ag₀ : Ag ws σ σ₀) (g₀ : G 0 H₀) (n₀ : H₀ it = none) (st₀ : s.heap.IsTupleIter it c 0) :
    codeAny (model Z.prog Z.w) Z.A (.compLoop (.ListComp elt gens scope cpos) d (.ref it) (.ref D) Z.env) R s := by
  have T := turn_tuple (P := Z.prog) (w := Z.w) (K := Z.K) (tg := .Name n p) c it
  have hb1 : ∀ {H : Hp}, H it = none → ∀ b ∈ [it], FpOk Z pins H b := by
    intro H hn b hb
    rw [List.mem_singleton.mp hb]
    exact hfp H hn
  refine codeAny_loop rfl (fun m s' => ∃ i σ' H', Inv Z pins σ' H' s' ∧ Ag ws σ σ' ∧ G i H' ∧ H' it = none ∧ s'.heap.IsTupleIter it c i ∧ i ≤ xs.length ∧ m = xs.length - i) ?_ xs.length
    ⟨0, σ₀, H₀, I₀, ag₀, g₀, n₀, st₀, Nat.zero_le _, rfl⟩
  rintro m s1 ⟨i, σ1, H1, I1, ag1, g1, n1, st1, hi, rfl⟩
  show wpAny _ Z.A ((compTurn (.ListComp elt gens scope cpos) d (.ref it) (.ref D) Z.env).onRaise (fun x => do noteFrame x Z.env; theTreesLotGoes x)) _ _ s1
  refine wpAny_noted ?_
  rw [hturn]
  refine wpAny_bind (wpAny_standAt (wpAny_bind ?_))
  have hq := hG i H1 hi g1
  by_cases hlt : i < xs.length
  · have go := T.item Z rfl rfl rfl hcalm i pins s1 σ1 H1 (fun _ _ => False) I1 (hb1 n1) st1 ⟨xs, xs[i], hq, List.getElem?_eq_getElem hlt⟩
    refine thnF go ?_
    rintro r s2 ⟨u, rfl, h2⟩
    refine wpAny_bind (thnF h2 ?_)
    rintro _ s3 ⟨x, H3, I3, r3, ⟨eH, hy⟩, st3, n3⟩
    subst eH
    have hx : xs[i]? = some x := hy xs hq
    have n3' : H3 it = none := n3 it (List.mem_singleton.mpr rfl)
    have I3' := I3.pinned (hb1 n3') (T.obj _ _ st3)
    have ia := (pg_name (X := Z) (pos := p) hN hk hloc hfn).run _ s3 σ1 H3 x u (fun σ' H' => σ' = σ1.set k (some x) ∧ H' = H3) I3' r3 ⟨rfl, rfl⟩
    rw [hxe] at ia
    refine wpAny_bind (thnF ia ?_)
    rintro _ s4 ⟨σ4, H4, I4, rfl, rfl⟩
    obtain ⟨o, ho, hoc⟩ := T.obj _ _ st3 it (List.mem_singleton.mpr rfl)
    have pin4 := I4.pin (it, o) (List.mem_append_right _ (List.mem_append_right _ (mem_pinsAt (List.mem_singleton.mpr rfl) ho)))
    have ep : pinsAt [it] s3.heap = pinsAt [it] s4.heap := by
      unfold pinsAt
      rw [List.filterMap_cons, List.filterMap_cons, ho, pin4.1]
      rfl
    rw [ep] at I4
    have hσ4 : (σ1.set k (some x))[k]? = some (some x) := by
      have hkl : k < σ1.length := by rw [I1.len]; exact (List.getElem?_eq_some_iff.mp hk).1
      rw [List.getElem?_set_self hkl]
    refine hbd i x s4 _ _ hx g1 n3' I4 hσ4 (ag1.trans (Ag.set hkw)) _ _ _ ?_
    intro s5 σ5 H5 I5 ag5 g5
    have pin5 := I5.pin (it, o) (List.mem_append_right _ (List.mem_append_right _ (mem_pinsAt (List.mem_singleton.mpr rfl) pin4.1)))
    have st5 : s5.heap.IsTupleIter it c (i + 1) := T.keep _ _ _ st3 (by
      intro b hb o' e
      rw [List.mem_singleton.mp hb] at e ⊢
      rw [ho] at e
      rw [← Option.some.inj e]
      exact pin5.1)
    exact wpAny_pure ⟨rfl, xs.length - (i + 1), by omega, i + 1, σ5, H5, I5.unpinned, ag5, g5, pin5.2.1, st5, hlt, rfl⟩
  · have e : i = xs.length := by omega
    subst e
    have stop := T.done Z rfl rfl rfl hcalm xs.length pins s1 σ1 H1 (fun _ _ => False) I1 (hb1 n1) st1 ⟨xs, hq, Nat.le_refl _⟩
    refine thnF stop ?_
    rintro r s2 ⟨rfl, I2⟩
    exact wpAny_pure (hfin s2 σ1 H1 I2 ag1 g1)
end
/-! ### the three clauses -/
abbrev flatE (n1 n2 n3 : Str) (iter : Expr) (scope : Scope) (q1 q2 q3 a1 a2 a3 pos : Pos) : Expr :=
  .ListComp (.Name n3 a3) [⟨.Name n1 q1, iter, [], 0⟩, ⟨.Name n2 q2, .Name n1 a1, [], 0⟩, ⟨.Name n3 q3, .Name n2 a2, [], 0⟩] scope pos
section
variable {n1 n2 n3 : Str} {iter : Expr} {scope : Scope} {q1 q2 q3 a1 a2 a3 pos : Pos} {it D : Addr} {env : Env}
abbrev downBody (e i : Expr) (d : Nat) (D : Addr) (env : Env) (kk : Sem Fin) : Sem Fin := eval i env >>= fun x => standAt i.pos >>= fun _ =>
  foldedSetIterable i env x >>= fun x => holding [x] (pyIter x) >>= fun it' => runOwn (.compStart e d it' (.ref D) env) env >>= fun _ => kk
abbrev addBody (elt : Expr) (D : Addr) (env : Env) (kk : Sem Fin) : Sem Fin :=
  (eval elt env >>= fun x => call (.builtin "list.append") [.ref D, x] >>= fun _ => pure ()) >>= fun _ => kk
theorem flat_t0 : compTurn (flatE n1 n2 n3 iter scope q1 q2 q3 a1 a2 a3 pos) 0 (.ref it) (.ref D) env =
    flatTurn (flatE n1 n2 n3 iter scope q1 q2 q3 a1 a2 a3 pos) 0 it D n1 q1 iter.pos (downBody (flatE n1 n2 n3 iter scope q1 q2 q3 a1 a2 a3 pos) (.Name n1 a1) 1 D env) env := by rfl
theorem flat_t1 : compTurn (flatE n1 n2 n3 iter scope q1 q2 q3 a1 a2 a3 pos) 1 (.ref it) (.ref D) env =
    flatTurn (flatE n1 n2 n3 iter scope q1 q2 q3 a1 a2 a3 pos) 1 it D n2 q2 a1 (downBody (flatE n1 n2 n3 iter scope q1 q2 q3 a1 a2 a3 pos) (.Name n2 a2) 2 D env) env := by rfl
theorem flat_t2 : compTurn (flatE n1 n2 n3 iter scope q1 q2 q3 a1 a2 a3 pos) 2 (.ref it) (.ref D) env =
    flatTurn (flatE n1 n2 n3 iter scope q1 q2 q3 a1 a2 a3 pos) 2 it D n3 q3 a2 (addBody (.Name n3 a3) D env) env := by rfl
end
section
variable {prog : Program} {w : World} {A : Around} {R : Result → Shared → Prop} {s : Shared} {n1 n2 n3 : Str} {iter : Expr} {scope : Scope} {q1 q2 q3 a1 a2 a3 pos : Pos} {it acc : Value} {env : Env}
theorem flat_s1 (h0 : codeAny (model prog w) A (.compLoop (flatE n1 n2 n3 iter scope q1 q2 q3 a1 a2 a3 pos) 1 it acc env) R s)
    (h : wpAny (model prog w) A (pyIter it) (fun it' s' => codeAny (model prog w) A (.compLoop (flatE n1 n2 n3 iter scope q1 q2 q3 a1 a2 a3 pos) 1 it' acc env) R s') (notedBy (model prog w) A env fun x s' => R (.error x) s') s) :
    codeAny (model prog w) A (.compStart (flatE n1 n2 n3 iter scope q1 q2 q3 a1 a2 a3 pos) 1 it acc env) R s := by
  apply codeAny_of_tree
  show wpAny _ _ ((compStart (flatE n1 n2 n3 iter scope q1 q2 q3 a1 a2 a3 pos) 1 it acc env).onRaise (fun x => do noteFrame x env; standAt theWindowsPlace)) _ _ s
  apply wpAny_notedAt
  unfold compStart
  show wpAny _ _ (ask >>= _) _ _ s
  refine wpAny_bind (wpAny_askSetting (wpAny_ite ?_))
  split
  · first | exact wpAny_pure (And.intro rfl h0) | exact wpAny_bind (wpAny_pure (wpAny_pure (And.intro rfl h0)))
  · refine wpAny_bind (wpAny_rule ?_)
    show wpAny _ _ (standAt a1 >>= _) _ _ s
    exact wpAny_bind (wpAny_standAt (wpAny_bind (wpAny_mono h (fun it' s' h' => wpAny_pure (And.intro rfl h')) fun _ _ x => x)))
theorem flat_s2 (h0 : codeAny (model prog w) A (.compLoop (flatE n1 n2 n3 iter scope q1 q2 q3 a1 a2 a3 pos) 2 it acc env) R s)
    (h : wpAny (model prog w) A (pyIter it) (fun it' s' => codeAny (model prog w) A (.compLoop (flatE n1 n2 n3 iter scope q1 q2 q3 a1 a2 a3 pos) 2 it' acc env) R s') (notedBy (model prog w) A env fun x s' => R (.error x) s') s) :
    codeAny (model prog w) A (.compStart (flatE n1 n2 n3 iter scope q1 q2 q3 a1 a2 a3 pos) 2 it acc env) R s := by
  apply codeAny_of_tree
  show wpAny _ _ ((compStart (flatE n1 n2 n3 iter scope q1 q2 q3 a1 a2 a3 pos) 2 it acc env).onRaise (fun x => do noteFrame x env; standAt theWindowsPlace)) _ _ s
  apply wpAny_notedAt
  unfold compStart
  show wpAny _ _ (ask >>= _) _ _ s
  refine wpAny_bind (wpAny_askSetting (wpAny_ite ?_))
  split
  · first | exact wpAny_pure (And.intro rfl h0) | exact wpAny_bind (wpAny_pure (wpAny_pure (And.intro rfl h0)))
  · refine wpAny_bind (wpAny_rule ?_)
    show wpAny _ _ (standAt a2 >>= _) _ _ s
    exact wpAny_bind (wpAny_standAt (wpAny_bind (wpAny_mono h (fun it' s' h' => wpAny_pure (And.intro rfl h')) fun _ _ x => x)))
end
end Sg
set_option Elab.async false
set_option linter.all false
set_option maxRecDepth 100000
set_option maxHeartbeats 4000000
namespace Sg
open PySem PySem.Spec PyProof.Rows L2
/-- cells are tuples; xs are all their items -/
inductive FlatL (K : PySem.W.Frag) (H : Hp) : List V → List V → Prop
  | nil : FlatL K H [] []
  | cons {a : Addr} {ys cells xs : List V} : SqT K H a ys → FlatL K H cells xs → FlatL K H (.ref a :: cells) (ys ++ xs)
/-- rows are tuples of tuples; xs are all the items of these -/
inductive FlatR (K : PySem.W.Frag) (H : Hp) : List V → List V → Prop
  | nil : FlatR K H [] []
  | cons {a : Addr} {cells ys rows xs : List V} : SqT K H a cells → FlatL K H cells ys → FlatR K H rows xs → FlatR K H (.ref a :: rows) (ys ++ xs)
section
variable {K : PySem.W.Frag} {H : Hp}
theorem FlatL.snoc {a : Addr} {ys : List V} (h : SqT K H a ys) : ∀ {cells xs : List V}, FlatL K H cells xs → FlatL K H (cells ++ [.ref a]) (xs ++ ys)
  | _, _, .nil => by have z := FlatL.cons h .nil; rwa [List.append_nil] at z
  | _, _, .cons h1 r => by rw [List.append_assoc]; exact .cons h1 (FlatL.snoc h r)
theorem FlatR.snoc {a : Addr} {cells ys : List V} (h : SqT K H a cells) (hl : FlatL K H cells ys) : ∀ {rows xs : List V}, FlatR K H rows xs → FlatR K H (rows ++ [.ref a]) (xs ++ ys)
  | _, _, .nil => by have z := FlatR.cons h hl .nil; rwa [List.append_nil] at z
  | _, _, .cons h1 h2 r => by rw [List.append_assoc]; exact .cons h1 h2 (FlatR.snoc h hl r)
theorem FlatL.same {H' : Hp} (e : Same H H') : ∀ {cells xs : List V}, FlatL K H cells xs → FlatL K H' cells xs
  | _, _, .nil => .nil
  | _, _, .cons h r => .cons (h.imp (fun z => z.imp (e _ _) fun ⟨o, z⟩ => ⟨o, e _ _ z⟩) id) (FlatL.same e r)
theorem FlatR.same {H' : Hp} (e : Same H H') : ∀ {rows xs : List V}, FlatR K H rows xs → FlatR K H' rows xs
  | _, _, .nil => .nil
  | _, _, .cons h l r => .cons (h.imp (fun z => z.imp (e _ _) fun ⟨o, z⟩ => ⟨o, e _ _ z⟩) id) (FlatL.same e l) (FlatR.same e r)
theorem sqT_new {D a : Addr} {o : HO} {ys : List V} (n : H D = none) (h : SqT K H a ys) : SqT K (upd H D o) a ys :=
  h.imp (fun z => z.imp (fun z => by rw [upd_ne (ne_of_none z n)]; exact z) fun ⟨u, z⟩ => ⟨u, by rw [upd_ne (ne_of_none z n)]; exact z⟩) id
end
section
variable {Z : Cx} {n1 n2 n3 : Str} {iter : Expr} {scope : Scope} {q1 q2 q3 a1 a2 a3 pos : Pos} {k1 k2 k3 : Nat}
/-- what the block says of its names -/
structure FlatN (Z : Cx) (n1 n2 n3 : Str) (k1 k2 k3 : Nat) : Prop where
  xe : Z.xe = fun _ _ => False
  calm : Z.calm = true
  nd : Z.N.Nodup
  h1 : Z.N[k1]? = some n1
  h2 : Z.N[k2]? = some n2
  h3 : Z.N[k3]? = some n3
  l1 : Z.env.scope.names.lookup n1 = some .local
  l2 : Z.env.scope.names.lookup n2 = some .local
  l3 : Z.env.scope.names.lookup n3 = some .local
  d1 : (n1 == ("__debug__" : Str)) = false
  d2 : (n2 == ("__debug__" : Str)) = false
  d3 : (n3 == ("__debug__" : Str)) = false
  c1 : (n1 == ("__classdict__" : Str)) = false
  c2 : (n2 == ("__classdict__" : Str)) = false
  c3 : (n3 == ("__classdict__" : Str)) = false
/-- the innermost loop -/
theorem flat_in (B : FlatN Z n1 n2 n3 k1 k2 k3) {pins : List (Addr × Obj)} {σ : L2.St} {H : Hp} {s : Shared} {R : Result → Shared → Prop} {it D c : Addr} {acc xs : List V}
    (hn : H D = none) (hc : SqT Z.K H c xs) (hz : acc.length + xs.length ≤ 1000000) (I : Inv Z pins σ (upd H D (.lst acc)) s) (st : s.heap.IsTupleIter it c 0) (hit : (upd H D (.lst acc)) it = none)
    (hfp : ∀ H, H it = none → FpOk Z pins H it)
    (fin : ∀ s' σ', Inv Z pins σ' (upd H D (.lst (acc ++ xs))) s' → Ag [k3] σ σ' → R (.ok .next) s') :
    codeAny (model Z.prog Z.w) Z.A (.compLoop (flatE n1 n2 n3 iter scope q1 q2 q3 a1 a2 a3 pos) 2 (.ref it) (.ref D) Z.env) R s := by
  refine flat_loop B.xe B.calm B.nd flat_t2 B.h3 (.inl B.l3) (.inr B.l3) (List.mem_singleton.mpr rfl) σ (fun i H' => H' = upd H D (.lst (acc ++ xs.take i)))
    (fun i H' _ e => by rw [e]; exact sqT_new hn hc) hfp (fun i x s1 σ1 H1 hx e hi I1 hk ag kk Qf Ef cont => ?_) (fun s' σ' H' I' ag e => ?_) I (Ag.refl _ _) (by rw [List.take_zero, List.append_nil]) hit st
  · subst e
    have ev := (pe_var (pos := a3) (X := Z) B.h3 (.inl B.l3) B.d3 B.c3).run _ s1 σ1 _ (fun v H2 => v = x ∧ H2 = upd H D (.lst (acc ++ xs.take i))) I1 ⟨x, hk, rfl, rfl⟩
    rw [B.xe] at ev
    refine wpAny_bind (wpAny_bind (thnF ev ?_))
    rintro u s2 ⟨v, H2, I2, r2, rfl, rfl⟩
    have lt : (acc ++ xs.take i).length < sizeLine := by
      have h4 : sizeLine = 16777216 := sizeLine_eq
      rw [List.length_append, List.length_take]
      have := Nat.min_le_right i xs.length
      omega
    refine wpAny_bind (app_ok (X := Z) I2 upd_same lt r2 fun s3 I3 => wpAny_pure ?_)
    rw [upd_upd] at I3
    refine cont s3 σ1 _ I3 ag ?_
    rw [List.take_add_one, hx, List.append_assoc]
    rfl
  · subst e
    rw [List.take_length] at I'
    exact fin s' σ' I' ag
/-- down a level: name, iterator, loop -/
theorem flat_down {pins : List (Addr × Obj)} {σ : L2.St} {H : Hp} {s : Shared} {c : Addr} {ys : List V} {nn : Str} {aa : Pos} {e : Expr} {d k : Nat} {D : Addr} {kk : Sem Fin} {Qf : Fin → Shared → Prop} {Ef : Value → Shared → Prop}
    (hxe : Z.xe = fun _ _ => False) (hN : Z.N[k]? = some nn) (hl : Z.env.scope.names.lookup nn = some .local) (hd : (nn == ("__debug__" : Str)) = false) (hcd : (nn == ("__classdict__" : Str)) = false)
    (I : Inv Z pins σ H s) (hk : σ[k]? = some (some (.ref c))) (hq : SqT Z.K H c ys)
    (go : ∀ s1 it, Inv Z pins σ H s1 → H it = none → (∀ H, H it = none → FpOk Z pins H it) → s1.heap.IsTupleIter it c 0 →
      codeAny (model Z.prog Z.w) Z.A (.compStart e d (.ref it) (.ref D) Z.env) (fun r s' => r = .ok .next ∧ wpAny (model Z.prog Z.w) Z.A kk Qf Ef s') s1) :
    wpAny (model Z.prog Z.w) Z.A (downBody e (.Name nn aa) d D Z.env kk) Qf Ef s := by
  have ev := (pe_var (pos := aa) (X := Z) hN (.inl hl) hd hcd).run _ s σ H (fun v H2 => v = .ref c ∧ H2 = H) I ⟨.ref c, hk, rfl, rfl⟩
  rw [hxe] at ev
  refine wpAny_bind (thnF ev ?_)
  rintro u s2 ⟨v, H2, I2, r2, rfl, rfl⟩
  obtain rfl : u = Value.ref c := r2
  refine wpAny_bind (wpAny_standAt (wpAny_bind (wpAny_of_eq (a := Value.ref c) rfl (wpAny_bind (wpAny_holding ?_)))))
  obtain ⟨its, rv, p, hz⟩ := I2.tuple hq
  refine wpAny_pyIter_tuple (show s2.heap.IsTuple c its.toArray from p) ?_
  refine wpAny_bind (wpAny_runOwn ?_)
  rw [Around.mark_none]
  have I3 : Inv Z pins σ H2 { s2 with heap := s2.heap.push { cls := .type "tuple_iterator", data := .fields #[.ref c, .int 0 0] } } := I2.kept (t' := s2.toks) fun b o e => Heap.get?_push_of_some _ e
  refine codeAny_mono (go _ s2.heap.objs.size I3 (I2.hok.fresh (Nat.le_refl _)) (fun H' h => I2.fpOk (Nat.le_refl _) h) ⟨_, Heap.get?_push_size _ rfl, rfl, rfl⟩) ?_
  rintro r s' ⟨rfl, hkk⟩
  exact hkk
/-- the middle loop -/
theorem flat_mid (B : FlatN Z n1 n2 n3 k1 k2 k3) {pins : List (Addr × Obj)} {σ : L2.St} {H : Hp} {s : Shared} {R : Result → Shared → Prop} {it D c : Addr} {acc cells xs : List V}
    (hn : H D = none) (hc : SqT Z.K H c cells) (hf : FlatL Z.K H cells xs) (hz : acc.length + xs.length ≤ 1000000) (I : Inv Z pins σ (upd H D (.lst acc)) s) (st : s.heap.IsTupleIter it c 0) (hit : (upd H D (.lst acc)) it = none)
    (hfp : ∀ H, H it = none → FpOk Z pins H it)
    (fin : ∀ s' σ', Inv Z pins σ' (upd H D (.lst (acc ++ xs))) s' → Ag [k2, k3] σ σ' → R (.ok .next) s') :
    codeAny (model Z.prog Z.w) Z.A (.compLoop (flatE n1 n2 n3 iter scope q1 q2 q3 a1 a2 a3 pos) 1 (.ref it) (.ref D) Z.env) R s := by
  refine flat_loop (ws := [k2, k3]) B.xe B.calm B.nd flat_t1 B.h2 (.inl B.l2) (.inr B.l2) (List.mem_cons_self) σ
    (fun i H' => ∃ pre suf ys zs, cells = pre ++ suf ∧ pre.length = i ∧ FlatL Z.K H pre ys ∧ FlatL Z.K H suf zs ∧ xs = ys ++ zs ∧ H' = upd H D (.lst (acc ++ ys)))
    (fun i H' _ ⟨_, _, _, _, _, _, _, _, _, e⟩ => by rw [e]; exact sqT_new hn hc) hfp (fun i x s1 σ1 H1 hx e hi I1 hk ag kk Qf Ef cont => ?_) (fun s' σ' H' I' ag e => ?_) I (Ag.refl _ _)
    ⟨[], cells, [], xs, rfl, rfl, .nil, hf, rfl, by rw [List.append_nil]⟩ hit st
  · obtain ⟨pre, suf, ys, zs, ec, el, f1, f2, ex, rfl⟩ := e
    cases f2 with
    | nil =>
      rw [ec, List.append_nil, ← el, List.getElem?_eq_none (Nat.le_refl _)] at hx
      exact nomatch hx
    | @cons b bs suf' zs' hb r =>
      have xb : x = .ref b := by
        rw [ec, ← el, List.getElem?_append_right (Nat.le_refl _), Nat.sub_self] at hx
        exact (Option.some.inj hx).symm
      subst xb
      have zl : acc.length + ys.length + bs.length ≤ 1000000 := by
        rw [ex, List.length_append, List.length_append] at hz
        omega
      refine flat_down B.xe B.h2 B.l2 B.d2 B.c2 I1 hk (sqT_new hn hb) fun s2 it2 I2 n2' fp2 st2 => ?_
      have loop : codeAny (model Z.prog Z.w) Z.A (.compLoop (flatE n1 n2 n3 iter scope q1 q2 q3 a1 a2 a3 pos) 2 (.ref it2) (.ref D) Z.env) (fun r s' => r = .ok .next ∧ wpAny (model Z.prog Z.w) Z.A kk Qf Ef s') s2 := by
        refine flat_in B hn hb (by rw [List.length_append]; exact zl) I2 st2 n2' fp2 fun s3 σ3 I3 ag3 => ⟨rfl, ?_⟩
        refine cont s3 σ3 _ I3 (ag.trans (ag3.mono (by simp))) ⟨pre ++ [.ref b], suf', ys ++ bs, zs', by rw [ec, List.append_assoc]; rfl, by rw [List.length_append, el]; rfl, FlatL.snoc hb f1, r, by rw [ex, List.append_assoc], by rw [List.append_assoc]⟩
      exact flat_s2 loop (wpAny_pyIter_tupleiter st2 loop)
  · obtain ⟨pre, suf, ys, zs, ec, el, f1, f2, ex, rfl⟩ := e
    have es : suf = [] := by
      have z := congrArg List.length ec
      rw [List.length_append, el] at z
      exact List.eq_nil_of_length_eq_zero (by omega)
    subst es
    cases f2
    rw [List.append_nil] at ex
    subst ex
    exact fin s' σ' I' ag
/-- the outer loop -/
theorem flat_out (B : FlatN Z n1 n2 n3 k1 k2 k3) {σ : L2.St} {H : Hp} {s : Shared} {R : Result → Shared → Prop} {it D c : Addr} {rows xs : List V}
    (hn : H D = none) (hc : SqT Z.K H c rows) (hf : FlatR Z.K H rows xs) (hz : xs.length ≤ 1000000) (I : Inv Z [] σ (upd H D (.lst [])) s) (st : s.heap.IsTupleIter it c 0) (hit : (upd H D (.lst [])) it = none)
    (hfp : ∀ H, H it = none → FpOk Z [] H it)
    (fin : ∀ s' σ', Inv Z [] σ' (upd H D (.lst xs)) s' → R (.ok .next) s') :
    codeAny (model Z.prog Z.w) Z.A (.compLoop (flatE n1 n2 n3 iter scope q1 q2 q3 a1 a2 a3 pos) 0 (.ref it) (.ref D) Z.env) R s := by
  refine flat_loop (ws := [k1, k2, k3]) B.xe B.calm B.nd flat_t0 B.h1 (.inl B.l1) (.inr B.l1) (List.mem_cons_self) σ
    (fun i H' => ∃ pre suf ys zs, rows = pre ++ suf ∧ pre.length = i ∧ FlatR Z.K H pre ys ∧ FlatR Z.K H suf zs ∧ xs = ys ++ zs ∧ H' = upd H D (.lst ys))
    (fun i H' _ ⟨_, _, _, _, _, _, _, _, _, e⟩ => by rw [e]; exact sqT_new hn hc) hfp (fun i x s1 σ1 H1 hx e hi I1 hk ag kk Qf Ef cont => ?_) (fun s' σ' H' I' ag e => ?_) I (Ag.refl _ _)
    ⟨[], rows, [], xs, rfl, rfl, .nil, hf, rfl, rfl⟩ hit st
  · obtain ⟨pre, suf, ys, zs, ec, el, f1, f2, ex, rfl⟩ := e
    cases f2 with
    | nil =>
      rw [ec, List.append_nil, ← el, List.getElem?_eq_none (Nat.le_refl _)] at hx
      exact nomatch hx
    | @cons b bcells bs suf' zs' hb hbl r =>
      have xb : x = .ref b := by
        rw [ec, ← el, List.getElem?_append_right (Nat.le_refl _), Nat.sub_self] at hx
        exact (Option.some.inj hx).symm
      subst xb
      have zl : ys.length + bs.length ≤ 1000000 := by
        rw [ex, List.length_append, List.length_append] at hz
        omega
      refine flat_down B.xe B.h1 B.l1 B.d1 B.c1 I1 hk (sqT_new hn hb) fun s2 it2 I2 n2' fp2 st2 => ?_
      have loop : codeAny (model Z.prog Z.w) Z.A (.compLoop (flatE n1 n2 n3 iter scope q1 q2 q3 a1 a2 a3 pos) 1 (.ref it2) (.ref D) Z.env) (fun r s' => r = .ok .next ∧ wpAny (model Z.prog Z.w) Z.A kk Qf Ef s') s2 := by
        refine flat_mid B hn hb hbl zl I2 st2 n2' fp2 fun s3 σ3 I3 ag3 => ⟨rfl, ?_⟩
        refine cont s3 σ3 _ I3 (ag.trans (ag3.mono (by simp))) ⟨pre ++ [.ref b], suf', ys ++ bs, zs', by rw [ec, List.append_assoc]; rfl, by rw [List.length_append, el]; rfl, FlatR.snoc hb hbl f1, r, by rw [ex, List.append_assoc], rfl⟩
      exact flat_s1 loop (wpAny_pyIter_tupleiter st2 loop)
  · obtain ⟨pre, suf, ys, zs, ec, el, f1, f2, ex, rfl⟩ := e
    have es : suf = [] := by
      have z := congrArg List.length ec
      rw [List.length_append, el] at z
      exact List.eq_nil_of_length_eq_zero (by omega)
    subst es
    cases f2
    rw [List.append_nil] at ex
    subst ex
    exact fin s' σ' I'
end
end Sg
set_option Elab.async false
set_option linter.all false
set_option maxRecDepth 100000
set_option maxHeartbeats 4000000
namespace Sg
open PySem PySem.Spec PyProof.Rows L2
/-- [c for a in e for b in a for c in b]: e a tuple of tuples of tuples -/
def tFlat (K : PySem.W.Frag) (te : TE) : TE := fun σ H Q => te σ H fun v H1 => ∃ t rows xs, v = .ref t ∧ SqT K H1 t rows ∧ FlatR K H1 rows xs ∧ xs.length ≤ 1000000 ∧
  ∀ D, H1 D = none → Q (.ref D) (upd H1 D (.lst xs))
section
variable {X : Cx} {n1 n2 n3 : Str} {iter : Expr} {scope : Scope} {q1 q2 q3 a1 a2 a3 pos : Pos} {k1 k2 k3 : Nat} {own : List (Str × Nat)} {te : TE}
theorem pe_flat (hc : X.calm = true) (hN : X.N.Nodup) (hi : PE X iter te) (ok : BlkOk X.N X.env.scope scope own)
    (h1 : X.N[k1]? = some n1) (h2 : X.N[k2]? = some n2) (h3 : X.N[k3]? = some n3)
    (l1 : ∀ (C : Addr) (cl : List (Str × Addr)), (compEnvC scope cl C X.env).scope.names.lookup n1 = some .local)
    (l2 : ∀ (C : Addr) (cl : List (Str × Addr)), (compEnvC scope cl C X.env).scope.names.lookup n2 = some .local)
    (l3 : ∀ (C : Addr) (cl : List (Str × Addr)), (compEnvC scope cl C X.env).scope.names.lookup n3 = some .local)
    (dd : ((n1 == ("__debug__" : Str)) || (n2 == ("__debug__" : Str)) || (n3 == ("__debug__" : Str)) || (n1 == ("__classdict__" : Str)) || (n2 == ("__classdict__" : Str)) || (n3 == ("__classdict__" : Str))) = false := by decide)
    (hs : ∀ x, foldedSetIterable iter X.env x = pure x := by intro _; rfl) :
    PE X (flatE n1 n2 n3 iter scope q1 q2 q3 a1 a2 a3 pos) (tFlat X.K te) := by
  simp only [Bool.or_eq_false_iff] at dd
  obtain ⟨⟨⟨⟨⟨d1, d2⟩, d3⟩, c1⟩, c2⟩, c3⟩ := dd
  constructor
  intro pins s σ H Q I h
  rw [eval_ListComp]
  have hfree : ∀ y ∈ scope.names, y.2 = .free → ∃ c, X.env.cells.lookup y.1 = some c := by
    intro y hy e
    cases ok.free y hy e with
    | inl k => exact I.ok.has _ (.inl k)
    | inr k => exact I.ok.has _ (.inr k)
  refine wpAny_comprehension_free (use := none) rfl hs (closure_ok hfree) ok.kind (fun y hy e => by rw [ok.uniq y hy, e]) (thn (hi.run pins s σ H _ I h) ?_)
  rintro xv s1 ⟨v, H1, I1, r1, t, rows, xs, rfl, hq, hf, hz, q⟩
  obtain rfl : xv = Value.ref t := r1
  obtain ⟨its, rv, p, hzz⟩ := I1.tuple hq
  refine wpAny_pyIter_tuple (show s1.heap.IsTuple t its.toArray from p) ?_
  generalize hs2 : ({ s1 with heap := s1.heap.push { cls := .type "tuple_iterator", data := .fields #[.ref t, .int 0 0] } } : Shared) = s2
  have I2 : Inv X pins σ H1 s2 := by
    rw [← hs2]
    exact I1.kept (t' := s1.toks) fun b o e => Heap.get?_push_of_some _ e
  generalize hit : s1.heap.objs.size = it
  have st2 : s2.heap.IsTupleIter it t 0 := by
    rw [← hs2, ← hit]
    exact ⟨_, Heap.get?_push_size _ rfl, rfl, rfl⟩
  have nn2 : H1 it = none := I1.hok.fresh (Nat.le_of_eq hit)
  have lt2 : it < s2.heap.objs.size := by
    obtain ⟨_, e, _⟩ := st2
    exact Heap.lt_size e
  have f2 : ∀ H', H' it = none → FpOk X pins H' it := fun H' hn => I1.fpOk (Nat.le_of_eq hit) hn
  refine wpAny_newObj_type (newEnv_comp ?_) (by show 0 ≤ sizeLine; decide)
  generalize hD : s2.heap.objs.size = D
  have hDn : H1 D = none := I2.hok.fresh (Nat.le_of_eq hD)
  generalize hs3 : ({ s2 with heap := s2.heap.push { cls := .type "list", data := .seq ([] : List Value).toArray } } : Shared) = s3
  have I3 : Inv X pins σ (upd H1 D (.lst [])) s3 := by
    rw [← hs3]
    refine I2.laid (t' := s2.toks) (fun b o e => Heap.get?_push_of_some _ e) (Nat.le_of_eq hD) ⟨Nat.zero_le _, [], 0, .nil, ?_⟩
    rw [← hD]
    exact Heap.get?_push_size _ rfl
  have k3' : ∀ b o, s2.heap.get? b = some o → s3.heap.get? b = some o := by
    intro b o e
    rw [← hs3]
    exact Heap.get?_push_of_some _ e
  have st3 : s3.heap.IsTupleIter it t 0 := st2.at fun o e => k3' it o e
  have lt3 : it < s3.heap.objs.size := by
    obtain ⟨_, e, _⟩ := st3
    exact Heap.lt_size e
  have nit : (upd H1 D (.lst [])) it = none := by
    rw [upd_ne (by rw [← hD]; exact Nat.ne_of_lt lt2)]
    exact nn2
  have I4 := block_start (fp := [it]) I3 ok hN (by
    intro b hb
    rw [List.mem_singleton.mp hb]
    exact ⟨f2 _ nit, lt3⟩)
  show codeAny _ _ (.compStart (flatE n1 n2 n3 iter scope q1 q2 q3 a1 a2 a3 pos) 0 (.ref it) (.ref D) (compEnvC scope (cellsFrom (s3.heap.objs.size + 1) scope.names (cloFrom X.env.cells scope.names [])) s3.heap.objs.size X.env))
    (compPost (model X.prog X.w) X.A X.xe none (EP X pins σ Q) (.ref D) s3.heap.objs.size) { s3 with heap := pushCells (s3.heap.push { cls := .type "dict", data := .dict #[] }) scope.names }
  have hl1 := l1 s3.heap.objs.size (cellsFrom (s3.heap.objs.size + 1) scope.names (cloFrom X.env.cells scope.names []))
  have hl2 := l2 s3.heap.objs.size (cellsFrom (s3.heap.objs.size + 1) scope.names (cloFrom X.env.cells scope.names []))
  have hl3 := l3 s3.heap.objs.size (cellsFrom (s3.heap.objs.size + 1) scope.names (cloFrom X.env.cells scope.names []))
  have cL : (compEnvC scope (cellsFrom (s3.heap.objs.size + 1) scope.names (cloFrom X.env.cells scope.names [])) s3.heap.objs.size X.env).locals = s3.heap.objs.size := rfl
  generalize compEnvC scope (cellsFrom (s3.heap.objs.size + 1) scope.names (cloFrom X.env.cells scope.names [])) s3.heap.objs.size X.env = ce at I4 hl1 hl2 hl3 cL ⊢
  have st4 : (pushCells (s3.heap.push { cls := .type "dict", data := .dict #[] }) scope.names).IsTupleIter it t 0 :=
    st3.at fun o e => pushCells_keeps _ _ _ _ (Heap.get?_push_of_some _ e)
  generalize hs4 : ({ s3 with heap := pushCells (s3.heap.push { cls := .type "dict", data := .dict #[] }) scope.names } : Shared) = s4 at I4 ⊢
  have st4' : s4.heap.IsTupleIter it t 0 := by rw [← hs4]; exact st4
  have B : FlatN (X.blk s3 (upd H1 D (.lst [])) scope ce [it]) n1 n2 n3 k1 k2 k3 := ⟨rfl, hc, hN, h1, h2, h3, hl1, hl2, hl3, d1, d2, d3, c1, c2, c3⟩
  have fpZ : ∀ H', H' it = none → FpOk (X.blk s3 (upd H1 D (.lst [])) scope ce [it]) [] H' it := by
    intro H' hn
    refine ⟨hn, (I4.ok.exf it (List.mem_singleton.mpr rfl)).1, I4.ok.exfs it (List.mem_singleton.mpr rfl), .inl (List.mem_singleton.mpr rfl), (I4.ok.exf it (List.mem_singleton.mpr rfl)).2, ?_⟩
    intro p hp
    have hp' : p ∈ ([] : List (Addr × Obj)) ++ [] := hp
    exact nomatch hp'
  have loop : codeAny (model X.prog X.w) X.A (.compLoop (flatE n1 n2 n3 iter scope q1 q2 q3 a1 a2 a3 pos) 0 (.ref it) (.ref D) ce)
      (compPost (model X.prog X.w) X.A X.xe none (EP X pins σ Q) (.ref D) s3.heap.objs.size) s4 := by
    refine flat_out B hDn hq hf hz I4 st4' nit fpZ ?_
    intro s' σ' I5
    have I6 : Inv X pins σ (upd H1 D (.lst xs)) s' := by
      refine I3.call' (ch := [it]) I5.os I5.base I5.hok I5.bare ?_
      intro b hb
      rw [List.mem_singleton.mp hb]
      obtain ⟨_, g1, g2, g3, g4, g5⟩ := f2 _ nit
      exact ⟨g3, g1, g4, g5⟩
    have nC : (upd H1 D (.lst xs)) s3.heap.objs.size = none := by
      have z : (upd H1 D (.lst xs)) ce.locals = none := I5.free
      rw [cL] at z
      exact z
    obtain ⟨m, hn, _⟩ := I5.loc
    have hn' : s'.heap.Ns ce.locals m := hn
    rw [cL] at hn'
    refine ⟨m, hn', ?_⟩
    intro h'' sb
    obtain ⟨f0, f1, f2', f3, f4, f5⟩ := I3.fpOk (Nat.le_refl _) nC
    exact ⟨.ref D, _, I6.turned (t' := s'.toks) (fun b o hb e => (sb.2 b hb).trans e) f0 f1 f3 f4 f5, rfl, q D hDn⟩
  exact codeAny_compStart_list loop (wpAny_pyIter_tupleiter st4' loop)
end
end Sg
set_option Elab.async false
set_option linter.all false
set_option maxRecDepth 100000
set_option maxHeartbeats 4000000
namespace Sg
open PySem PySem.Spec PyProof.Rows L2
/-! ## max with a default -/
section
variable {X : Cx}
theorem cr_maxD (hc : X.calm = true) {j : Nat} (hr : Room j X.A) : CallRK X (.builtin "max") ["default"] (fun vs zs H Q => ∃ (a : Addr) (ns : List Int) (d : Int), vs = [.ref a] ∧ zs = [.int d] ∧ SqL X.K H a (ns.map V.int) ∧
    ∀ m : Int, (ns = [] → m = d) → (ns ≠ [] → m ∈ ns ∧ ∀ x ∈ ns, x ≤ m) → Q (.int m) H) := by
  intro pins s σ H xs zs us ws Q I r rz h
  obtain ⟨a, ns, d, rfl, rfl, hs, q⟩ := h
  obtain ⟨u, rfl, rfl⟩ := vals1 r
  obtain ⟨dv, rfl, td, rfl⟩ := vals1 rz
  obtain ⟨its, rv, hl, hzz⟩ := I.list hs
  have dp : DpAll X.K H (ns.map V.int) (ns.map PyData.int) := by
    clear hs q rv hl hzz
    induction ns with
    | nil => exact .nil
    | cons x r ih => exact .cons (.int x) ih
  obtain ⟨as, rd⟩ := Dp.readsAll I (ns.map PyData.int) _ its dp rv
  have al : PySem.W.AlikeAll (ns.map PyData.int) := by
    constructor
    · intro x hx y hy
      obtain ⟨i, _, rfl⟩ := List.mem_map.mp hx
      obtain ⟨j, _, rfl⟩ := List.mem_map.mp hy
      rfl
    · intro x hx z
      obtain ⟨i, _, rfl⟩ := List.mem_map.mp hx
      exact nomatch z
  have dep : PyData.depthAll (ns.map PyData.int) = 0 := by
    clear hs q rv hl rd al dp hzz
    induction ns with
    | nil => rfl
    | cons x r ih =>
      show max (PyData.depth (.int x)) (PyData.depthAll (r.map PyData.int)) = 0
      rw [ih]; rfl
  have hu := hr.units
  refine PySem.W.max_list_default (I.ok.hd hc) hl.isList (by simpa using rd) al (by rw [dep]; omega) (fun e h' tk hk => ?_) (fun y ys i v h' tk bs e hv hrd hk => ?_)
  · exact ⟨.int d, H, I.kept hk, ⟨_, rfl⟩, q d (fun _ => rfl) (fun z => absurd (List.map_eq_nil_iff.mp e) z)⟩
  · cases ns with
    | nil => exact nomatch e
    | cons n ns' =>
      obtain ⟨e1, e2⟩ := List.cons.inj e
      subst e1 e2
      rw [PySem.W.maxD_ints] at hrd
      cases hrd
      refine ⟨.int _, H, I.kept hk, ⟨_, rfl⟩, q _ (fun z => nomatch z) (fun _ => ?_)⟩
      have key : ∀ (l : List Int) (a : Int), (l.foldl max a = a ∨ l.foldl max a ∈ l) ∧ a ≤ l.foldl max a ∧ ∀ x ∈ l, x ≤ l.foldl max a := by
        intro l
        induction l with
        | nil => intro a; exact ⟨.inl rfl, Int.le_refl _, fun x hx => nomatch hx⟩
        | cons b l ih =>
          intro a
          obtain ⟨g1, g2, g3⟩ := ih (max a b)
          refine ⟨?_, by show a ≤ l.foldl max (max a b); omega, fun x hx => ?_⟩
          · show l.foldl max (max a b) = a ∨ l.foldl max (max a b) ∈ b :: l
            rcases g1 with g | g
            · rcases Int.le_total a b with z | z
              · right; rw [g, Int.max_eq_right z]; exact List.mem_cons_self
              · left; rw [g, Int.max_eq_left z]
            · exact .inr (List.mem_cons_of_mem _ g)
          · show x ≤ l.foldl max (max a b)
            rcases List.mem_cons.mp hx with rfl | z
            · omega
            · exact g3 x z
      obtain ⟨g1, g2, g3⟩ := key ns' n
      refine ⟨?_, fun x hx => ?_⟩
      · rcases g1 with g | g
        · rw [g]; exact List.mem_cons_self
        · exact List.mem_cons_of_mem _ g
      · rcases List.mem_cons.mp hx with rfl | z
        · exact g2
        · exact g3 x z
end
/-! ## operators of one's own -/
section
variable {X : Cx} {k : Nat} {C g : Addr} {fd : FuncData} {ps : List Str} {sp : Sp}
/-- an instance of C -/
def InsAt (H : Hp) (C a : Addr) : Prop := ∃ dx fs, H a = some (.ins C dx fs)
theorem insAt_look {pins : List (Addr × Obj)} {σ : L2.St} {H : Hp} {s : Shared} {a : Addr} (I : Inv X pins σ H s) (h : InsAt H C a) : ∃ ox od, PySem.W.InstAt s.heap a ox C od := by
  obtain ⟨dx, fs, h⟩ := h
  obtain ⟨mA, O, _⟩ := ins_get I.hok h
  obtain ⟨od, J, _⟩ := O.look
  exact ⟨_, _, J⟩
/-- a def called one C frame further in -/
theorem run_in1 {pins : List (Addr × Obj)} {σ : L2.St} {H : Hp} {s : Shared} {Q : VK} {us : List Value} {vs : List V} (F : FnOk X.prog X.w X.K X.mg X.base CX0 k g fd ps sp) (hr : Room (k + 1) X.A) (hb : Binds X.K fd ps [])
    (I : Inv X pins σ H s) (r : Vals vs us) (h : sp vs H Q E0) {E : Value → Shared → Prop} : wpAny (model X.prog X.w) X.A.in1 (call (.ref g) us) (EP X pins σ Q) E s := by
  have hl : (us ++ []).length = ps.length := by rw [List.append_nil, ← r.length]; exact F.len _ _ _ _ h
  have hbb := hb s us I.kIn hl
  rw [List.append_nil] at hbb
  refine wpAny_call (codeAny_mono (F.run X.A.in1 X.stack s H ⟨us, []⟩ us vs Q E0 hr.in1 I.env0.in1 hbb r h) ?_)
  intro r' s' hq
  match r', hq with
  | .error _, hq => exact hq.elim
  | .ok (.ret _), hq => exact I.after hq
  | .ok .next, hq => exact hq.elim
  | .ok .brk, hq => exact hq.elim
  | .ok .cont, hq => exact hq.elim
/-- len(a) -/
theorem call_lenO (F : FnOk X.prog X.w X.K X.mg X.base CX0 k g fd ps sp) (hr : Room (k + 1) X.A) (hb : Binds X.K fd ps []) (hs : PySem.W.findIn X.K (.ref C) "__len__" = some (some (.ref g))) (hf : PySem.W.isFn X.K (.ref g) = true) :
    CallR X (.builtin "len") (fun xs H Q => ∃ a, xs = [.ref a] ∧ InsAt H C a ∧ sp [.ref a] H (fun v H' => ∃ n : Nat, v = .int n ∧ n < 1000000 ∧ Q (.int n) H') E0) := by
  intro pins s σ H xs us Q I r h
  obtain ⟨a, rfl, ha, h⟩ := h
  obtain ⟨u, rfl, rfl⟩ := vals1 r
  obtain ⟨m, hF⟩ := I.fr
  obtain ⟨_, _, J⟩ := insAt_look I ha
  refine PySem.W.len_K hF I.ok.mod.kin J hs hf (thn (run_in1 (us := [.ref a]) (vs := [.ref a]) F hr hb I (.cons rfl .nil) h) ?_)
  rintro v s' ⟨x, H', I', rx, n, rfl, hn, q⟩
  obtain ⟨t, rfl⟩ := rx
  exact ⟨⟨by omega, by omega⟩, ⟨.int n, H', I'.tok _, ⟨_, rfl⟩, q⟩⟩
end
end Sg
set_option Elab.async false
set_option linter.all false
set_option maxRecDepth 100000
set_option maxHeartbeats 4000000
set_option Elab.async false
set_option linter.all false
set_option maxRecDepth 100000
set_option maxHeartbeats 4000000
namespace Sg
open PySem PySem.Spec PyProof.Rows L2 HT
/-! ## t[::-1] of a tuple -/
section
variable {prog : Program} {w : World} {A : Around} {E : Value → Shared → Prop} {s : Shared}
theorem slicePlaces_rev (n : Nat) : Builtin.Slice.slicePlaces ((n : Int) - 1) (-1) (-1) = n := by
  unfold Builtin.Slice.slicePlaces
  have h1 : ¬ ((-1 : Int) > 0) := by omega
  simp only [h1, if_false, Int.neg_neg, Int.ediv_one]
  split <;> omega
theorem sliceApplied_rev {sl : Addr} {vl vu vs : Value} {n : Nat} {Q : Int × Int × Nat → Shared → Prop} (hs : s.heap.IsSliceOf sl vl vu vs) (pl : IsPart vl none) (pu : IsPart vu none) (ps : IsPart vs (some (-1)))
    (h : Q ((n : Int) - 1, -1, n) s) : wpAny (model prog w) A (Builtin.Slice.sliceApplied (.ref sl) (pure (n : Int))) Q E s := by
  obtain ⟨os, hos, hcs, hds⟩ := id hs
  unfold Builtin.Slice.sliceApplied Builtin.Slice.sliceFields
  refine wpAny_bind (wpAny_bind (wpAny_field hos hds (x := vl) rfl (wpAny_bind (wpAny_field hos hds (x := vu) rfl (wpAny_bind (wpAny_field hos hds (x := vs) rfl (wpAny_pure ?_)))))))
  refine wpAny_bind (slicePart_ ps ?_)
  show wpAny _ _ (if ((-1 : Int) == 0) = true then _ else _) _ _ s
  rw [if_neg (by decide)]
  refine wpAny_bind (slicePart_ pl (wpAny_bind (slicePart_ pu (wpAny_bind (wpAny_pure ?_)))))
  show wpAny _ _ (pure ((n : Int) - 1, (-1 : Int), Builtin.Slice.slicePlaces ((n : Int) - 1) (-1) (-1))) _ _ s
  rw [slicePlaces_rev]
  exact wpAny_pure h
theorem filterMap_on {α β : Type} {f g : α → Option β} : ∀ {l : List α}, (∀ x ∈ l, f x = g x) → l.filterMap f = l.filterMap g
  | [], _ => rfl
  | x :: r, h => by
    rw [List.filterMap_cons, List.filterMap_cons, h x List.mem_cons_self, filterMap_on fun y hy => h y (List.mem_cons_of_mem _ hy)]
theorem pick_rev (xs : Array Value) : ((List.range xs.size).filterMap fun (m : Nat) => xs[(((xs.size : Int) - 1) + (m : Int) * (-1)).toNat]?).toArray = xs.toList.reverse.toArray := by
  have e1 : ∀ m ∈ List.range xs.size, xs[(((xs.size : Int) - 1) + (m : Int) * (-1)).toNat]? = xs[xs.size - 1 - m]? := by
    intro m hm
    have := List.mem_range.mp hm
    rw [show (((xs.size : Int) - 1) + (m : Int) * (-1)).toNat = xs.size - 1 - m from by omega]
  have e2 : ((List.range xs.size).map fun k => xs.size - 1 - k).filterMap (xs[·]?) = xs.toList.reverse := by
    rw [PySem.W.krv_range, List.filterMap_reverse, PySem.W.krv_all]
  rw [List.filterMap_map] at e2
  rw [← e2]
  congr 1
  exact filterMap_on (fun m hm => e1 m hm)
theorem getItem_tuple_rev {t sl : Addr} {items : Array Value} {vl vu vs : Value} {Q : Value → Shared → Prop} (ht : IsTup s.heap t items) (hs : s.heap.IsSliceOf sl vl vu vs) (pl : IsPart vl none) (pu : IsPart vu none) (ps : IsPart vs (some (-1)))
    (h : Q (.ref s.heap.objs.size) { s with heap := s.heap.push { cls := .type "tuple", data := .seq items.toList.reverse.toArray } })
    (hsz : items.size ≤ sizeLine) : wpAny (model prog w) A (getItem (.ref t) (.ref sl)) Q E s := by
  have htake : sizeOk (.seq items.toList.reverse.toArray) := by
    show items.toList.reverse.toArray.size ≤ sizeLine
    rw [List.size_toArray, List.length_reverse, Array.length_toList]
    exact hsz
  obtain ⟨os, hos, hcs, hds⟩ := id hs
  have hTs : s.TypeIs (.ref sl) "slice" := ⟨os, hos, hcs⟩
  unfold getItem
  try with_reducible refine wpAny_holding ?_
  first | refine wpAny_bind (wpAny_pure ?_) | skip
  refine wpAny_bind (wpAny_sequenceKey ht.typeIs (by decide) ?_)
  refine wpAny_bind (wpAny_callSpecial?_slot (name := Str.ofString "__getitem__") ht.typeIs PyProof.Rows.slot_tuple_getitem
    (wpAny_call_entry PyProof.Rows.slot_tuple_getitem ht.typeIs entry_tuple_getitem ?_ (args_tuple_getitem _ _)))
  show wpAny _ _ (Builtin.Tuple.tupleItemsOf (.ref t) >>= _) _ _ s
  refine wpAny_bind (tupleItemsOf_ ht ?_)
  refine wpAny_bind (wpAny_typeOf hTs ?_)
  rw [if_pos (by decide)]
  refine wpAny_bind (sliceApplied_rev hs pl pu ps ?_)
  have hno : ¬ ((((items.size : Int) - 1) == 0 && (-1 : Int) == 1 && items.size == items.size) = true) := by
    rw [show ((-1 : Int) == 1) = false from by decide, Bool.and_false, Bool.false_and]
    exact Bool.false_ne_true
  show wpAny _ _ (if (((items.size : Int) - 1) == 0 && (-1 : Int) == 1 && items.size == items.size) = true then _ else _) _ _ s
  rw [if_neg hno, pick_rev]
  first
    | exact wpAny_bind (m := Builtin.Tuple.tupleExact _) (wpAny_newObj_type (wpAny_pure ⟨_, rfl, wpAny_pure h⟩) htake)
    | exact wpAny_bind (m := Builtin.Tuple.tupleExact _) (wpAny_newObj_type (wpAny_bind (wpAny_pure (wpAny_pure ⟨_, rfl, wpAny_pure h⟩))) htake)
    | exact wpAny_bind (wpAny_bind (m := Builtin.Tuple.tupleExact _) (wpAny_newObj_type (wpAny_pure (wpAny_pure ⟨_, rfl, wpAny_pure h⟩)) htake))
    | exact wpAny_bind (wpAny_bind (m := Builtin.Tuple.tupleExact _) (wpAny_newObj_type (wpAny_pure ⟨_, rfl, wpAny_pure h⟩) htake))
end
def tRevT (K : PySem.W.Frag) (te : TE) : TE := fun σ H Q => te σ H fun x H1 => ∃ a xs, x = .ref a ∧ SqT K H1 a xs ∧ ∀ p, H1 p = none → Q (.ref p) (upd H1 p (.tup xs.reverse))
theorem pe_revT {X : Cx} {K : PySem.W.Frag} {e : Expr} {te : TE} {k : Nat} {p1 p2 p3 pos : Pos} (hK : X.K = K) (he : PE X e te) : PE X (.Subscript e (.Slice none none (some (.UnaryOp .USub (.Constant (.int 1) k p1) p2)) p3) pos) (tRevT K te) := by
  subst hK
  refine ⟨fun pins s σ H Q I h => ?_⟩
  refine Subscript_ (thn (he.run pins s σ H _ I h) fun v s1 ⟨x, H1, I1, r1, q1⟩ => ?_)
  obtain ⟨a, xs, ex, hx, q⟩ := q1
  subst ex
  cases r1
  have hst : PO X (some (.UnaryOp .USub (.Constant (.int 1) k p1) p2)) (tPart (tUn (rU fun i => .int (-i)) (tC (.int 1)))) := po_some (pe_un un_neg pe_int)
  refine wpAny_Slice (thn (po_none.run pins s1 σ H1 (fun o H2 => o = none ∧ H2 = H1) I1 ⟨rfl, rfl⟩) fun vl s2 ⟨l, H2, I2, pl, el, e2⟩ => ?_)
  subst el e2
  refine thn (po_none.run pins s2 σ H2 (fun o H3 => o = none ∧ H3 = H2) I2 ⟨rfl, rfl⟩) fun vu s3 ⟨u, H3, I3, pu, eu, e3⟩ => ?_
  subst eu e3
  refine thn (hst.run pins s3 σ H3 (fun o H4 => o = some (-1) ∧ H4 = H3) I3 ⟨1, rfl, -1, rfl, rfl, rfl⟩) fun vs s4 ⟨o, H4, I4, ps, eo, e4⟩ => ?_
  subst eo e4
  have I5 : Inv X pins σ H4 { s4 with heap := s4.heap.push { cls := .type "slice", data := .fields #[vl, vu, vs] } } := I4.kept (t' := s4.toks) fun b ob q => Heap.get?_push_of_some _ q
  obtain ⟨its, r, ht, hz⟩ := I5.tuple hx
  have hlen := r.length
  show wpAny (model X.prog X.w) X.A (subscriptTail e (.Slice none none (some (.UnaryOp .USub (.Constant (.int 1) k p1) p2)) p3) (.ref a) (.ref s4.heap.objs.size)) (EP X pins σ Q) X.xe { s4 with heap := s4.heap.push { cls := .type "slice", data := .fields #[vl, vu, vs] } }
  refine tail_any (ops := [.ref a, .ref s4.heap.objs.size]) ht.typeIs PyProof.Rows.slot_tuple_getitem.lookup ?_ (by with_unfolding_all rfl)
  refine getItem_tuple_rev ht (Heap.IsSliceOf.new _ vl vu vs) pl pu ps ?_ (by rw [List.size_toArray]; omega)
  refine ⟨.ref _, _, I5.laid (t' := s4.toks) (o := .tup xs.reverse) (fun b ob q => Heap.get?_push_of_some _ q) (Nat.le_refl _) ?_, rfl, q _ (I5.hok.fresh (Nat.le_refl _))⟩
  exact ⟨by rw [List.length_reverse]; exact hz, _, r.reverse, IsTup.new _ _⟩
end Sg
set_option Elab.async false
set_option linter.all false
set_option maxRecDepth 100000
set_option maxHeartbeats 4000000
set_option Elab.async false
set_option linter.all false
set_option maxRecDepth 100000
set_option maxHeartbeats 4000000
set_option Elab.async false
set_option linter.all false
set_option maxRecDepth 100000
set_option maxHeartbeats 4000000
set_option Elab.async false
set_option linter.all false
set_option maxRecDepth 100000
set_option maxHeartbeats 4000000
namespace Sg
open PySem PySem.Spec PyProof.Rows L2
/-! ## heaps -/
/-- all but p is as it was -/
def But (p : Addr) (H H' : Hp) : Prop := ∀ q o, q ≠ p → H q = some o → H' q = some o
theorem But.trans {p : Addr} {H H1 H2 : Hp} (a : But p H H1) (b : But p H1 H2) : But p H H2 := fun q o n h => b q o n (a q o n h)
theorem But.of {p : Addr} {H H' : Hp} (a : Same H H') : But p H H' := fun q o _ h => a q o h
theorem But.upd {p : Addr} {H : Hp} {o : HO} : But p H (upd H p o) := fun q u n h => by rw [upd_ne n]; exact h
theorem same_new {H : Hp} {p : Addr} {o : HO} (h : H p = none) : Same H (upd H p o) := fun b x e => by
  rw [upd_ne (ne_of_none e h)]
  exact e
/-- what is new behind a But is new ahead -/
theorem But.free {p q : Addr} {H H' : Hp} {u : HO} (e : But p H H') (hp : H p = some u) (hp' : ∃ v, H' p = some v) (h : H' q = none) : H q = none := by
  by_cases n : q = p
  · subst n
    obtain ⟨v, hv⟩ := hp'
    rw [hv] at h
    exact nomatch h
  · rcases z : H q with _ | o
    · rfl
    · rw [e q o n z] at h
      exact nomatch h
theorem But.tup {K : PySem.W.Frag} {p : Addr} {H H' : Hp} {a : Addr} {xs ys : List V} (e : But p H H') (hp : H p = some (.lst ys)) (h : SqT K H a xs) : SqT K H' a xs := by
  rcases h with (h | ⟨o, h⟩) | h
  · exact .inl (.inl (e _ _ (ne_of h hp (fun z => nomatch z)) h))
  · exact .inl (.inr ⟨o, e _ _ (ne_of h hp (fun z => nomatch z)) h⟩)
  · exact .inr h
theorem Same.tup {K : PySem.W.Frag} {H H' : Hp} {a : Addr} {xs : List V} (e : Same H H') (h : SqT K H a xs) : SqT K H' a xs := by
  rcases h with (h | ⟨o, h⟩) | h
  · exact .inl (.inl (e _ _ h))
  · exact .inl (.inr ⟨o, e _ _ h⟩)
  · exact .inr h
/-- a pen at p -/
def PenAt (H : Hp) (p : Addr) : Prop := ∃ a b c : Int, H p = some (.lst [.int a, .int b, .int c]) ∧ 0 ≤ b ∧ b < 2147483648
theorem PenAt.same {H H' : Hp} {p : Addr} (h : PenAt H p) (e : Same H H') : PenAt H' p := by
  obtain ⟨a, b, c, h1, h2⟩ := h
  exact ⟨a, b, c, e _ _ h1, h2⟩
theorem PenAt.tup {K : PySem.W.Frag} {p : Addr} {H H' : Hp} {a : Addr} {xs : List V} (h : PenAt H p) (e : But p H H') (q : SqT K H a xs) : SqT K H' a xs := by
  obtain ⟨_, _, _, h1, _⟩ := h
  exact e.tup h1 q
theorem PenAt.free {p q : Addr} {H H' : Hp} (h : PenAt H p) (h' : PenAt H' p) (e : But p H H') (n : H' q = none) : H q = none := by
  obtain ⟨_, _, _, h1, _⟩ := h
  obtain ⟨_, _, _, h2, _⟩ := h'
  exact e.free h1 ⟨_, h2⟩ n
theorem atI0 {x : V} {r : List V} : atI (x :: r) 0 = some x := atI_nat (j := 0) rfl
theorem atI1 {x y : V} {r : List V} : atI (x :: y :: r) 1 = some y := atI_nat (j := 1) rfl
theorem atI2 {x y z : V} {r : List V} : atI (x :: y :: z :: r) 2 = some z := atI_nat (j := 2) rfl
end Sg
set_option Elab.async false
set_option linter.all false
set_option maxRecDepth 100000
set_option maxHeartbeats 4000000
namespace Sg
open PySem PySem.Spec PyProof.Rows L2
/-! ## the mathematics of bars -/
/-- a work, as its items -/
structure IsWork (ns : List Int) : Prop where
  pos : 1 ≤ ns.length
  most : ns.length ≤ 60
  items : ∀ x ∈ ns, -1 ≤ x ∧ x ≤ 9
  head : ∀ x, ns[0]? = some x → x ≠ -1
  last : ∀ x, ns[ns.length - 1]? = some x → x ≠ -1
/-- a piece of other, d ticks behind one of one, clashes with it -/
def clashB (one other : List Int) (d : Nat) : Bool := ((one.drop d).zip other).any fun p => p.1 == p.2 && p.1 != -1
def barsN (one other : List Int) : List Nat := (List.range' 1 (one.length - 1)).filter (clashB one other)
/-! ### lists step by step -/
theorem filter_range'_succ (f : Nat → Bool) (a n : Nat) : (List.range' a (n + 1)).filter f = (List.range' a n).filter f ++ (if f (a + n) = true then [a + n] else []) := by
  rw [List.range'_concat, List.filter_append, Nat.one_mul]
  congr 1
  by_cases h : f (a + n) = true
  · rw [if_pos h, List.filter_cons_of_pos h]; rfl
  · rw [if_neg h, List.filter_cons_of_neg h]; rfl
/-- the bars found below 1 + n -/
def barsTo (one other : List Int) (n : Nat) : List Nat := (List.range' 1 n).filter (clashB one other)
theorem barsTo_len (one other : List Int) (n : Nat) : (barsTo one other n).length ≤ n := by
  unfold barsTo
  refine Nat.le_trans (List.length_filter_le _ _) ?_
  rw [List.length_range']
  exact Nat.le_refl _
abbrev nV (l : List Nat) : List V := l.map fun d => V.int (d : Nat)
theorem barsTo_yes {one other : List Int} {n : Nat} (h : clashB one other (1 + n) = true) : nV (barsTo one other (n + 1)) = nV (barsTo one other n) ++ [.int ((1 : Int) + n)] := by
  unfold nV barsTo
  rw [filter_range'_succ, if_pos h, List.map_append]
  have e : (((1 + n : Nat) : Int)) = (1 : Int) + n := by omega
  simp only [List.map_cons, List.map_nil, e]
theorem barsTo_no {one other : List Int} {n : Nat} (h : clashB one other (1 + n) = false) : barsTo one other (n + 1) = barsTo one other n := by
  unfold barsTo
  rw [filter_range'_succ, if_neg (by rw [h]; exact Bool.false_ne_true), List.append_nil]
/-- the pairs of a zip, looked at in turn -/
def hitsTo (one other : List Int) (d n : Nat) : List Bool := (((one.drop d).zip other).take n).map fun p => p.1 == p.2 && p.1 != -1
theorem hits_any (one other : List Int) (d : Nat) : (hitsTo one other d (min (one.drop d).length other.length)).any id = clashB one other d := by
  unfold hitsTo clashB
  rw [List.take_of_length_le (by rw [List.length_zip]; exact Nat.le_refl _), List.any_map]
  rfl
theorem hits_succ {one other : List Int} {d n : Nat} {x y : Int} (h1 : (one.drop d)[n]? = some x) (h2 : other[n]? = some y) : hitsTo one other d (n + 1) = hitsTo one other d n ++ [x == y && x != -1] := by
  unfold hitsTo
  rw [List.take_add_one, List.getElem?_zip_eq_some (z := (x, y)) |>.mpr ⟨h1, h2⟩, List.map_append]
  rfl
theorem hits_len (one other : List Int) (d n : Nat) : (hitsTo one other d n).length ≤ n := by
  unfold hitsTo
  rw [List.length_map, List.length_take]
  exact Nat.min_le_left _ _
end Sg
set_option Elab.async false
set_option linter.all false
set_option maxRecDepth 100000
set_option maxHeartbeats 4000000
namespace Sg
open PySem PySem.Spec PyProof.Rows L2
theorem walk_zipT {K : PySem.W.Frag} {a b : Addr} {xs ys : List V} {n : Nat} (hn : n = min xs.length ys.length) :
    Walk (RZ.ItzT K a b) n (fun H => SqT K H a xs ∧ SqT K H b ys) (YPair (fun i => xs[i]?) (fun i => ys[i]?)) := by
  subst hn
  constructor
  · intro i H hi q
    have h1 : i < xs.length := by omega
    have h2 : i < ys.length := by omega
    exact ⟨xs, ys, xs[i], ys[i], q.1, q.2, List.getElem?_eq_getElem h1, List.getElem?_eq_getElem h2⟩
  · intro H q
    exact ⟨xs, ys, q.1, q.2, by omega⟩
  · rintro i H v H' hi q ⟨T, x, z, h1, h2, h3, h4, h5⟩
    exact ⟨T, x, z, h1, h2, h3, h4 xs q.1, h5 ys q.2⟩
theorem cut_from (xs : List V) (d : Nat) : cutV xs (some (d : Int)) none = xs.drop d := by
  unfold cutV
  rw [HT.sIx_nat, HT.sIx_none]
  rcases Nat.le_total d xs.length with h | h
  · rw [Nat.min_eq_left h]
    exact List.take_of_length_le (by rw [List.length_drop]; exact Nat.le_refl _)
  · rw [Nat.min_eq_right h, List.drop_of_length_le (Nat.le_refl _), List.drop_of_length_le h]
    exact List.take_nil
section
variable {P : Program} {w : World} {K : PySem.W.Frag} {mg : Str → Option Value} {base : Heap}
theorem tyT {H : Hp} {a : Addr} {xs : List V} (h : SqT K H a xs) : TyX K H (.ref a) (.type "tuple") := by
  rcases h with (h | ⟨o, h⟩) | ⟨o, _, _, h, hc, _⟩
  · exact .base (.tup h)
  · exact .fTuple h
  · exact .kTuple h hc
/-- the module's numbers -/
structure Nums (mg : Str → Option Value) : Prop where
  nowhere : ∃ t, mg "NOWHERE" = some (.int (-1) t)
  stations : ∃ t, mg "STATIONS" = some (.int 10 t)
  most : ∃ t, mg "MOST_ITEMS" = some (.int 60 t)
def inR (x : Int) : Bool := decide (-1 ≤ x) && decide (x ≤ 9)
end
end Sg
set_option Elab.async false
set_option linter.all false
set_option maxRecDepth 100000
set_option maxHeartbeats 4000000
namespace Sg
open PySem PySem.Spec PyProof.Rows L2
/-! ## data that is shown -/
/-- data made of small ints, in lists and tuples, no deeper than n, of bulk b at most -/
structure Small (d : PyData) (n b : Nat) : Prop where
  sh : d.showable = true
  nd : d.hasDict = false
  dp : d.depth ≤ n
  lv : d.leavesShort 15 = true
  bk : d.bulk ≤ b
  ly : d.canLay0 = true
structure SmallAll (ds : List PyData) (n b : Nat) : Prop where
  sh : PyData.showableAll ds = true
  nd : PyData.hasDictAll ds = false
  dp : PyData.depthAll ds ≤ n
  lv : PyData.leavesShortAll 15 ds = true
  bk : PyData.bulkAll ds ≤ b
  ly : PyData.canLayAll0 ds = true
theorem Small.shaped {d : PyData} {n b : Nat} (h : Small d n b) (hn : n ≤ 64) : SeqAt.shaped d = true := by
  unfold SeqAt.shaped
  rw [h.ly, decide_eq_true (Nat.le_trans h.dp hn)]
  rfl
theorem Small.list {ds : List PyData} {n b : Nat} (h : SmallAll ds n b) : Small (.list ds) (n + 1) b :=
  ⟨by simpa only [PyData.showable] using h.sh, by simpa only [PyData.hasDict] using h.nd, by simpa only [PyData.depth] using Nat.succ_le_succ h.dp,
    by simpa only [PyData.leavesShort] using h.lv, by simpa only [PyData.bulk] using h.bk, by simpa only [PyData.canLay0] using h.ly⟩
theorem Small.tuple {ds : List PyData} {n b : Nat} (h : SmallAll ds n b) : Small (.tuple ds) (n + 1) b :=
  ⟨by simpa only [PyData.showable] using h.sh, by simpa only [PyData.hasDict] using h.nd, by simpa only [PyData.depth] using Nat.succ_le_succ h.dp,
    by simpa only [PyData.leavesShort] using h.lv, by simpa only [PyData.bulk] using h.bk, by simpa only [PyData.canLay0] using h.ly⟩
theorem SmallAll.nil {n b : Nat} : SmallAll [] n b := ⟨by simp only [PyData.showableAll], by simp only [PyData.hasDictAll], by simp only [PyData.depthAll]; exact Nat.zero_le _,
  by simp only [PyData.leavesShortAll], by simp only [PyData.bulkAll]; exact Nat.zero_le _, by simp only [PyData.canLayAll0]⟩
theorem SmallAll.cons {d : PyData} {ds : List PyData} {n b c : Nat} (h : Small d n b) (r : SmallAll ds n c) : SmallAll (d :: ds) n (b + 1 + c) :=
  ⟨by simp only [PyData.showableAll, h.sh, r.sh, Bool.and_self], by simp only [PyData.hasDictAll, h.nd, r.nd, Bool.or_self], by simp only [PyData.depthAll]; exact Nat.max_le.mpr ⟨h.dp, r.dp⟩,
    by simp only [PyData.leavesShortAll, h.lv, r.lv, Bool.and_self], by simp only [PyData.bulkAll]; have h1 := h.bk; have h2 := r.bk; omega, by simp only [PyData.canLayAll0, h.ly, r.ly, Bool.and_self]⟩
theorem Small.int {i : Int} {n b : Nat} (h1 : -99999999999999 ≤ i) (h2 : i ≤ 99999999999999) : Small (.int i) n b := by
  refine ⟨?_, by simp only [PyData.hasDict], by simp only [PyData.depth]; exact Nat.zero_le _, ?_, by simp only [PyData.bulk]; exact Nat.zero_le _, by simp only [PyData.canLay0]⟩
  · simp only [PyData.showable, decide_eq_true_eq]
    have h3 : i.natAbs < 2 ^ 47 := by omega
    have h4 := PySem.Flt.log2_lt_of (show 0 < 47 by decide) h3
    omega
  · simp only [PyData.leavesShort, decide_eq_true_eq]
    have h6 : i.natAbs < 10 ^ 14 := by
      have e : (10 : Nat) ^ 14 = 100000000000000 := by decide
      rw [e]
      omega
    have h5 := int_text_length_le10 (k := 14) (by decide) h6
    show (Str.ofString (toString i)).length ≤ 15
    rw [PySem.ofString_length]
    exact h5
theorem Small.mono {d : PyData} {n m b c : Nat} (h : Small d n b) (hn : n ≤ m) (hb : b ≤ c) : Small d m c := ⟨h.sh, h.nd, Nat.le_trans h.dp hn, h.lv, Nat.le_trans h.bk hb, h.ly⟩
theorem SmallAll.mono {d : List PyData} {n m b c : Nat} (h : SmallAll d n b) (hn : n ≤ m) (hb : b ≤ c) : SmallAll d m c := ⟨h.sh, h.nd, Nat.le_trans h.dp hn, h.lv, Nat.le_trans h.bk hb, h.ly⟩
abbrev iD (ns : List Int) : List PyData := ns.map PyData.int
theorem dpInts {K : PySem.W.Frag} {H : Hp} : ∀ (ns : List Int), DpAll K H (ns.map V.int) (iD ns)
  | [] => .nil
  | x :: r => .cons (.int x) (dpInts r)
abbrev nI (l : List Nat) : List Int := l.map fun d => ((d : Nat) : Int)
theorem nV_eq (l : List Nat) : nV l = (nI l).map V.int := by rw [List.map_map]; rfl
section
variable {P : Program} {w : World} {K : PySem.W.Frag} {mg : Str → Option Value} {base : Heap}
/-! ### _law_same -/
theorem PenAt.upd {H : Hp} {p q : Addr} {o : HO} (h : PenAt H p) (n : p ≠ q) : PenAt (upd H q o) p := by
  obtain ⟨a, b, c, h1, h2⟩ := h
  exact ⟨a, b, c, by rw [upd_ne n]; exact h1, h2⟩
theorem PenAt.ne {H : Hp} {p q : Addr} (h : PenAt H p) (n : H q = none) : p ≠ q := by
  obtain ⟨a, b, c, h1, _⟩ := h
  exact ne_of_none h1 n
end
end Sg
set_option Elab.async false
set_option linter.all false
set_option maxRecDepth 100000
set_option maxHeartbeats 4000000
namespace Sg
open PySem PySem.Spec PyProof.Rows L2
/-! ## data of ints and tuples alone -/
section
variable {K : PySem.W.Frag} {H H' : Hp}
mutual
inductive Tp (K : PySem.W.Frag) (H : Hp) : V → PyData → Prop
  | int (i : Int) : Tp K H (.int i) (.int i)
  | tu {a : Addr} {xs : List V} {ds : List PyData} : SqT K H a xs → TpAll K H xs ds → Tp K H (.ref a) (.tuple ds)
inductive TpAll (K : PySem.W.Frag) (H : Hp) : List V → List PyData → Prop
  | no : TpAll K H [] []
  | on {v : V} {vs : List V} {d : PyData} {ds : List PyData} : Tp K H v d → TpAll K H vs ds → TpAll K H (v :: vs) (d :: ds)
end
mutual
theorem Tp.dp : ∀ {v : V} {d : PyData}, Tp K H v d → Dp K H v d
  | _, _, .int i => .int i
  | _, _, .tu h r => .tup h (TpAll.dp r)
theorem TpAll.dp : ∀ {v : List V} {d : List PyData}, TpAll K H v d → DpAll K H v d
  | _, _, .no => .nil
  | _, _, .on a r => .cons (Tp.dp a) (TpAll.dp r)
end
/-- all tuples and all instances are as they were -/
structure St (K : PySem.W.Frag) (H H' : Hp) : Prop where
  tu : ∀ a xs, SqT K H a xs → SqT K H' a xs
  ob : ∀ a C dx fs, H a = some (.ins C dx fs) → H' a = some (.ins C dx fs)
theorem St.trans {H2 : Hp} (a : St K H H') (b : St K H' H2) : St K H H2 := ⟨fun _ _ h => b.tu _ _ (a.tu _ _ h), fun _ _ _ _ h => b.ob _ _ _ _ (a.ob _ _ _ _ h)⟩
theorem St.of (e : Same H H') : St K H H' := ⟨fun _ _ h => Same.tup e h, fun _ _ _ _ h => e _ _ h⟩
theorem St.but {p : Addr} {ys : List V} (e : But p H H') (hp : H p = some (.lst ys)) : St K H H' :=
  ⟨fun _ _ h => But.tup e hp h, fun a C dx fs h => e _ _ (fun z => by rw [z, hp] at h; exact nomatch h) h⟩
theorem St.pen {p : Addr} (e : But p H H') (hp : PenAt H p) : St K H H' := by
  obtain ⟨a, b, c, h, _⟩ := hp
  exact .but e h
mutual
theorem Tp.stayT (e : ∀ a xs, SqT K H a xs → SqT K H' a xs) : ∀ {v : V} {d : PyData}, Tp K H v d → Tp K H' v d
  | _, _, .int i => .int i
  | _, _, .tu h r => .tu (e _ _ h) (TpAll.stayT e r)
theorem TpAll.stayT (e : ∀ a xs, SqT K H a xs → SqT K H' a xs) : ∀ {v : List V} {d : List PyData}, TpAll K H v d → TpAll K H' v d
  | _, _, .no => .no
  | _, _, .on a r => .on (Tp.stayT e a) (TpAll.stayT e r)
end
theorem tu_ins {p C dx : Addr} {fs : List (Str × V)} {o : HO} (hp : H p = some (.ins C dx fs)) : ∀ a xs, SqT K H a xs → SqT K (upd H p o) a xs := by
  intro a xs h
  have ne : ∀ u, H a = some u → (∀ C dx fs, u ≠ .ins C dx fs) → a ≠ p := fun u hu n z => by
    rw [z, hp] at hu
    exact n _ _ _ (Option.some.inj hu).symm
  exact h.imp (fun z => z.imp (fun z => by rw [upd_ne (ne _ z (fun _ _ _ q => nomatch q))]; exact z) fun ⟨u, z⟩ => ⟨u, by rw [upd_ne (ne _ z (fun _ _ _ q => nomatch q))]; exact z⟩) id
mutual
theorem Tp.stay (e : St K H H') : ∀ {v : V} {d : PyData}, Tp K H v d → Tp K H' v d
  | _, _, .int i => .int i
  | _, _, .tu h r => .tu (e.tu _ _ h) (TpAll.stay e r)
theorem TpAll.stay (e : St K H H') : ∀ {v : List V} {d : List PyData}, TpAll K H v d → TpAll K H' v d
  | _, _, .no => .no
  | _, _, .on a r => .on (Tp.stay e a) (TpAll.stay e r)
end
theorem TpAll.len : ∀ {vs : List V} {ds : List PyData}, TpAll K H vs ds → vs.length = ds.length
  | _, _, .no => rfl
  | _, _, .on _ r => congrArg (· + 1) (TpAll.len r)
theorem TpAll.at : ∀ {vs : List V} {ds : List PyData} {i : Nat} {v : V}, TpAll K H vs ds → vs[i]? = some v → ∃ d, ds[i]? = some d ∧ Tp K H v d
  | _, _, 0, _, .on a _, e => by cases e; exact ⟨_, rfl, a⟩
  | _, _, i + 1, _, .on _ r, e => TpAll.at (i := i) r e
theorem TpAll.add : ∀ {vs us : List V} {ds es : List PyData}, TpAll K H vs ds → TpAll K H us es → TpAll K H (vs ++ us) (ds ++ es)
  | _, _, _, _, .no, b => b
  | _, _, _, _, .on a r, b => .on a (TpAll.add r b)
theorem TpAll.cut : ∀ {vs : List V} {ds : List PyData} (n : Nat), TpAll K H vs ds → TpAll K H (vs.take n) (ds.take n)
  | _, _, 0, _ => .no
  | _, _, _ + 1, .no => .no
  | _, _, n + 1, .on a r => .on a (TpAll.cut n r)
theorem TpAll.off : ∀ {vs : List V} {ds : List PyData} (n : Nat), TpAll K H vs ds → TpAll K H (vs.drop n) (ds.drop n)
  | _, _, 0, r => r
  | _, _, _ + 1, .no => .no
  | _, _, n + 1, .on _ r => TpAll.off n r
theorem TpAll.ints : ∀ (ns : List Int), TpAll K H (ns.map V.int) (iD ns)
  | [] => .no
  | x :: r => .on (.int x) (TpAll.ints r)
theorem TpAll.isInts : ∀ {vs : List V} {ns : List Int}, TpAll K H vs (iD ns) → vs = ns.map V.int
  | _, [], .no => rfl
  | _, _ :: _, .on (.int _) r => by rw [TpAll.isInts r]; rfl
theorem Tp.ofInts {a : Addr} {ns : List Int} (h : SqT K H a (ns.map V.int)) : Tp K H (.ref a) (.tuple (iD ns)) := .tu h (TpAll.ints ns)
theorem Tp.toInts {v : V} {ns : List Int} (h : Tp K H v (.tuple (iD ns))) : ∃ a, v = .ref a ∧ SqT K H a (ns.map V.int) := by
  cases h with
  | tu h r => exact ⟨_, rfl, by rw [← TpAll.isInts r]; exact h⟩
theorem Tp.toTup {v : V} {ds : List PyData} (h : Tp K H v (.tuple ds)) : ∃ a xs, v = .ref a ∧ SqT K H a xs ∧ TpAll K H xs ds := by
  cases h with
  | tu h r => exact ⟨_, _, rfl, h, r⟩
end
/-! ## lines -/
/-- one to three works -/
structure GoodL (ws : List (List Int)) : Prop where
  least : 1 ≤ ws.length
  few : ws.length ≤ 3
  work : ∀ w ∈ ws, IsWork w
abbrev tD (ns : List Int) : PyData := .tuple (iD ns)
abbrev tDs (ws : List (List Int)) : List PyData := ws.map tD
abbrev cellD (a b : List Int) : PyData := tD (nI (barsN a b))
abbrev rowD (a : List Int) (ws : List (List Int)) : PyData := .tuple (ws.map (cellD a))
abbrev barD (ws : List (List Int)) : List PyData := ws.map fun a => rowD a ws
/-- the bars of all, row by row -/
def rowB (a : List Int) (ws : List (List Int)) : List Int := ws.flatMap fun b => nI (barsN a b)
def allB (ws vs : List (List Int)) : List Int := ws.flatMap fun a => rowB a vs
/-- the greatest, or 0 -/
structure Top (l : List Int) (m : Int) : Prop where
  pos : 0 ≤ m
  le : ∀ x ∈ l, x ≤ m
  eq : m = 0 ∨ m ∈ l
theorem Top.uniq {l k : List Int} {m n : Int} (h : Top l m) (g : Top k n) (e : ∀ x, x ∈ l ↔ x ∈ k) : m = n := by
  have a : m ≤ n := by
    rcases h.eq with z | z
    · rw [z]; exact g.pos
    · exact g.le _ ((e _).mp z)
  have b : n ≤ m := by
    rcases g.eq with z | z
    · rw [z]; exact h.pos
    · exact h.le _ ((e _).mpr z)
  omega
/-! ### the object -/
def lf (t b : Addr) (r : Int) : List (Str × V) := putF "_reach" (.int r) (putF "_bars" (.ref b) (putF "_works" (.ref t) []))
theorem k1 : ¬ (("_works" : Str) = "_bars") := by decide +kernel
theorem k2 : ¬ (("_works" : Str) = "_reach") := by decide +kernel
theorem k3 : ¬ (("_bars" : Str) = "_reach") := by decide +kernel
theorem lf_works (t b : Addr) (r : Int) : (lf t b r).lookup ("_works" : Str) = some (.ref t) := by
  unfold lf
  rw [lookup_putF, if_neg k2, lookup_putF, if_neg k1, lookup_putF, if_pos rfl]
theorem lf_bars (t b : Addr) (r : Int) : (lf t b r).lookup ("_bars" : Str) = some (.ref b) := by
  unfold lf
  rw [lookup_putF, if_neg k3, lookup_putF, if_pos rfl]
/-- a Line of these works stands at a -/
def LineAt (K : PySem.W.Frag) (C : Addr) (H : Hp) (a : Addr) (ws : List (List Int)) : Prop :=
  ∃ (dx t b : Addr) (r : Int), H a = some (.ins C dx (lf t b r)) ∧ Tp K H (.ref t) (.tuple (tDs ws)) ∧ Tp K H (.ref b) (.tuple (barD ws)) ∧ Top (allB ws ws) r ∧ GoodL ws
theorem LineAt.ins {K : PySem.W.Frag} {C a : Addr} {H : Hp} {ws : List (List Int)} (h : LineAt K C H a ws) : InsAt H C a := by
  obtain ⟨dx, t, b, r, h1, _⟩ := h
  exact ⟨_, _, h1⟩
theorem LineAt.good {K : PySem.W.Frag} {C a : Addr} {H : Hp} {ws : List (List Int)} (h : LineAt K C H a ws) : GoodL ws := by
  obtain ⟨dx, t, b, r, _, _, _, _, g⟩ := h
  exact g
theorem LineAt.stay {K : PySem.W.Frag} {C a : Addr} {H H' : Hp} {ws : List (List Int)} (e : St K H H') (h : LineAt K C H a ws) : LineAt K C H' a ws := by
  obtain ⟨dx, t, b, r, h1, h2, h3, h4, h5⟩ := h
  exact ⟨dx, t, b, r, e.ob _ _ _ _ h1, h2.stay e, h3.stay e, h4, h5⟩
theorem TpAll.works {K : PySem.W.Frag} {H : Hp} {vs : List V} {ws : List (List Int)} {i : Nat} {v : V} (h : TpAll K H vs (tDs ws)) (e : vs[i]? = some v) : ∃ w a, ws[i]? = some w ∧ v = .ref a ∧ SqT K H a (w.map V.int) := by
  obtain ⟨d, hd, t⟩ := h.at e
  rw [List.getElem?_map] at hd
  obtain ⟨w, hw, rfl⟩ := Option.map_eq_some_iff.mp hd
  obtain ⟨a, rfl, hs⟩ := t.toInts
  exact ⟨w, a, hw, rfl, hs⟩
end Sg
set_option Elab.async false
set_option linter.all false
set_option maxRecDepth 100000
set_option maxHeartbeats 4000000
namespace Sg
open PySem PySem.Spec PyProof.Rows L2
theorem call_tuple_ofK {X : Cx} {K : PySem.W.Frag} (hK : X.K = K) : CallR X (.type "tuple") (fun xs H Q => ∃ p ys, xs = [.ref p] ∧ ((SqL K H p ys ∧ ∀ l, H l = none → Q (.ref l) (upd H l (.tup ys))) ∨ (SqT K H p ys ∧ Q (.ref p) H))) := by
  subst hK; exact call_tuple_of
theorem pi_tupK {X : Cx} {K : PySem.W.Frag} {tg l : Expr} {tl : TE} (hK : X.K = K) (hl : PE X l tl) : PI X tg l (iTup K tl) := by
  subst hK; exact pi_tup hl
/-! ## a list of tuple data that grows -/
def Grow (K : PySem.W.Frag) (H1 : Hp) (D : Addr) (ds : List PyData) (i : Nat) (H' : Hp) : Prop := Same H1 H' ∧ ∃ acc, H' D = some (.lst acc) ∧ TpAll K H' acc (ds.take i)
theorem Grow.zero {K : PySem.W.Frag} {H1 : Hp} {D : Addr} {ds : List PyData} (hD : H1 D = none) : Grow K H1 D ds 0 (upd H1 D (.lst [])) :=
  ⟨same_new hD, [], upd_same, .no⟩
theorem Grow.next {K : PySem.W.Frag} {H1 H' H'' : Hp} {D : Addr} {ds : List PyData} {i : Nat} {d : PyData} {v : V} (hD : H1 D = none) (hz : ds.length ≤ 1000) (h : Grow K H1 D ds i H') (e : Same H' H'') (hd : ds[i]? = some d) (t : Tp K H'' v d) :
    ∃ acc, H'' D = some (.lst acc) ∧ acc.length < sizeLine ∧ Grow K H1 D ds (i + 1) (upd H'' D (.lst (acc ++ [v]))) := by
  obtain ⟨s1, acc, h1, h2⟩ := h
  have hD2 := e _ _ h1
  have st : St K H'' (upd H'' D (.lst (acc ++ [v]))) := .but (.upd) hD2
  refine ⟨acc, hD2, ?_, fun b o q => ?_, _, upd_same, ?_⟩
  · have z := h2.len
    have z2 : i < ds.length := (List.getElem?_eq_some_iff.mp hd).1
    rw [List.length_take] at z
    exact small1000 (by omega)
  · rw [upd_ne (ne_of_none q hD)]
    exact e _ _ (s1 _ _ q)
  · rw [List.take_add_one, hd]
    exact ((h2.stay (.of e)).stay st).add (.on (t.stay st) .no)
theorem Grow.done {K : PySem.W.Frag} {H1 H' : Hp} {D : Addr} {ds : List PyData} {n : Nat} (h : Grow K H1 D ds n H') (hn : n = ds.length) : Same H1 H' ∧ ∃ acc, H' D = some (.lst acc) ∧ TpAll K H' acc ds := by
  obtain ⟨s1, acc, h1, h2⟩ := h
  rw [hn, List.take_length] at h2
  exact ⟨s1, acc, h1, h2⟩
theorem Tp.new {K : PySem.W.Frag} {H : Hp} {l : Addr} {acc : List V} {ds : List PyData} (nl : H l = none) (t : TpAll K H acc ds) : Tp K (upd H l (.tup acc)) (.ref l) (.tuple ds) :=
  .tu (.of upd_same) (t.stay (.of (same_new nl)))
theorem GoodL.mem {ws : List (List Int)} (h : GoodL ws) {i : Nat} {w : List Int} (e : ws[i]? = Option.some w) : IsWork w := h.work w (List.mem_of_getElem? e)
theorem GoodL.lt {ws : List (List Int)} (h : GoodL ws) : (barD ws).length ≤ 1000 := by
  have := h.few
  rw [List.length_map]
  omega
/-- what the class has -/
structure LC (K : PySem.W.Frag) (mg : Str → Option Value) (C : Addr) : Prop where
  cl : Cls K C
  nW : NoAttr K C "_works"
  nB : NoAttr K C "_bars"
  nR : NoAttr K C "_reach"
  mgC : mg "Line" = some (.ref C)
end Sg
set_option Elab.async false
set_option linter.all false
set_option maxRecDepth 100000
set_option maxHeartbeats 4000000
set_option Elab.async false
set_option linter.all false
set_option maxRecDepth 100000
set_option maxHeartbeats 4000000
namespace Sg
open PySem PySem.Spec PyProof.Rows L2
theorem PenAt.new {H : Hp} {p l : Addr} {o : HO} (h : PenAt H p) (n : H l = none) : PenAt (L2.upd H l o) p := h.upd (h.ne n)
end Sg
set_option Elab.async false
set_option linter.all false
set_option maxRecDepth 100000
set_option maxHeartbeats 4000000
set_option Elab.async false
set_option linter.all false
set_option maxRecDepth 100000
set_option maxHeartbeats 4000000
namespace Sg
open PySem PySem.Spec PyProof.Rows L2 StX
/-! ## data compared -/
theorem eqv_ints : ∀ (xs ys : List Int), PyData.eqvAll (iD xs) (iD ys) = decide (xs = ys)
  | [], [] => by simp [PyData.eqvAll]
  | [], _ :: _ => by simp [PyData.eqvAll]
  | _ :: _, [] => by simp [PyData.eqvAll]
  | x :: xs, y :: ys => by
    show PyData.eqvAll (.int x :: iD xs) (.int y :: iD ys) = _
    rw [PyData.eqvAll, eqv_ints xs ys, PyData.eqv]
    by_cases h : x = y
    · subst h; simp
    · simp [h]
theorem eqv_tD (xs ys : List Int) : PyData.eqv (tD xs) (tD ys) = decide (xs = ys) := by
  show PyData.eqv (.tuple (iD xs)) (.tuple (iD ys)) = _
  rw [PyData.eqv, eqv_ints]
theorem eqv_tDs : ∀ (xs ys : List (List Int)), PyData.eqvAll (tDs xs) (tDs ys) = decide (xs = ys)
  | [], [] => by simp [PyData.eqvAll]
  | [], _ :: _ => by simp [PyData.eqvAll]
  | _ :: _, [] => by simp [PyData.eqvAll]
  | x :: xs, y :: ys => by
    show PyData.eqvAll (tD x :: tDs xs) (tD y :: tDs ys) = _
    rw [PyData.eqvAll, eqv_tDs xs ys, eqv_tD]
    by_cases h : x = y
    · subst h; simp
    · simp [h]
theorem lay_iD : ∀ (xs : List Int), PyData.canLayAll0 (iD xs) = true
  | [] => by simp [PyData.canLayAll0]
  | x :: r => by
    show PyData.canLayAll0 (.int x :: iD r) = true
    rw [PyData.canLayAll0, lay_iD r, PyData.canLay0]; rfl
theorem dep_iD : ∀ (xs : List Int), PyData.depthAll (iD xs) = 0
  | [] => by simp [PyData.depthAll]
  | x :: r => by
    show PyData.depthAll (.int x :: iD r) = 0
    rw [PyData.depthAll, dep_iD r, PyData.depth]; rfl
theorem shaped_tD (xs : List Int) : SeqAt.shaped (tD xs) = true := by
  unfold SeqAt.shaped
  have a : (tD xs).canLay0 = true := by show PyData.canLay0 (.tuple (iD xs)) = true; rw [PyData.canLay0, lay_iD]
  have b : (tD xs).depth ≤ 64 := by show PyData.depth (.tuple (iD xs)) ≤ 64; rw [PyData.depth, dep_iD]; decide
  rw [a, decide_eq_true b]; rfl
theorem lay_tDs : ∀ (xs : List (List Int)), PyData.canLayAll0 (tDs xs) = true
  | [] => by simp [PyData.canLayAll0]
  | x :: r => by
    show PyData.canLayAll0 (.tuple (iD x) :: tDs r) = true
    rw [PyData.canLayAll0, lay_tDs r, PyData.canLay0, lay_iD]; rfl
theorem dep_tDs : ∀ (xs : List (List Int)), PyData.depthAll (tDs xs) ≤ 1
  | [] => by simp [PyData.depthAll]
  | x :: r => by
    show PyData.depthAll (.tuple (iD x) :: tDs r) ≤ 1
    rw [PyData.depthAll, PyData.depth, dep_iD]
    exact Nat.max_le.mpr ⟨Nat.le_refl _, dep_tDs r⟩
theorem shaped_tDs (xs : List (List Int)) : SeqAt.shaped (.tuple (tDs xs)) = true := by
  unfold SeqAt.shaped
  have a : (PyData.tuple (tDs xs)).canLay0 = true := by rw [PyData.canLay0, lay_tDs]
  have b : (PyData.tuple (tDs xs)).depth ≤ 64 := by rw [PyData.depth]; have := dep_tDs xs; omega
  rw [a, decide_eq_true b]; rfl
end Sg
set_option Elab.async false
set_option linter.all false
set_option maxRecDepth 100000
set_option maxHeartbeats 4000000
set_option Elab.async false
set_option linter.all false
set_option maxRecDepth 100000
set_option maxHeartbeats 4000000
namespace Sg
open PySem PySem.Spec PyProof.Rows L2
/-! ## keys that are tuples of tuples -/
mutual
/-- the value v is the key k: an int, or a tuple of keys -/
inductive KeyAt (H : Hp) : NestedKey → V → Prop
  | int (i : Int) : KeyAt H (.num i) (.int i)
  | tup {a : Addr} {us : List V} {ks : List NestedKey} : H a = some (.tup us) → KeyAll H ks us → KeyAt H (.tup ks) (.ref a)
inductive KeyAll (H : Hp) : List NestedKey → List V → Prop
  | no : KeyAll H [] []
  | on {k : NestedKey} {v : V} {ks : List NestedKey} {us : List V} : KeyAt H k v → KeyAll H ks us → KeyAll H (k :: ks) (v :: us)
end
mutual
theorem KeyAt.keep {H H' : Hp} (e : ∀ a us, H a = some (.tup us) → H' a = some (.tup us)) : ∀ {k : NestedKey} {v : V}, KeyAt H k v → KeyAt H' k v
  | _, _, .int i => .int i
  | _, _, .tup h r => .tup (e _ _ h) (KeyAll.keep e r)
theorem KeyAll.keep {H H' : Hp} (e : ∀ a us, H a = some (.tup us) → H' a = some (.tup us)) : ∀ {ks : List NestedKey} {us : List V}, KeyAll H ks us → KeyAll H' ks us
  | _, _, .no => .no
  | _, _, .on a r => .on (KeyAt.keep e a) (KeyAll.keep e r)
end
mutual
theorem KeyAt.is {P : Program} {w : World} {H : Hp} {h : Heap} (ok : HOk P w H h) : ∀ {k : NestedKey} {v : V} {u : Value}, KeyAt H k v → RelV v u → NestedIs h k u
  | _, _, u, .int i, r => by
    obtain ⟨t, rfl⟩ := r
    exact .int i t
  | _, _, u, .tup (a := a) h' q, r => by
    obtain rfl : u = Value.ref a := r
    obtain ⟨_, its, rv, o, h1, h2, n, h3⟩ := (show ObjOk P w H h a (.tup _) from ok a _ h')
    exact .tup h1 h2 h3 (by rw [List.toList_toArray]; exact KeyAll.is ok q rv)
theorem KeyAll.is {P : Program} {w : World} {H : Hp} {h : Heap} (ok : HOk P w H h) : ∀ {ks : List NestedKey} {us : List V} {its : List Value}, KeyAll H ks us → Vals us its → NestedAll h ks its
  | _, _, _, .no, .nil => .nil
  | _, _, _, .on a r, .cons b q => .cons (KeyAt.is ok a b) (KeyAll.is ok r q)
end
/-! ## a dict with such keys: its rows (key, where the key stands, value) -/
abbrev Row := NestedKey × Addr × V
def DN (P : Program) (w : World) (a : Addr) (rs : List Row) : HO := .ext fun h => rs.length ≤ sizeLine ∧ (a == sysModules) = false ∧
  ∃ ys : List (NestedKey × Addr × Value), Paired (fun r y => r.1 = y.1 ∧ r.2.1 = y.2.1 ∧ RelV r.2.2 y.2.2) rs ys ∧
    ∃ o es ep, h.get? a = some o ∧ o.ExactDict ∧ o.data = .dict es ep ∧ es.toList = ys.map (entryOfKey (nestedKind P w)) ∧ (ys.map (·.1)).Nodup
def KeysIn (H : Hp) (rs : List Row) : Prop := ∀ r ∈ rs, KeyAt H r.1 (.ref r.2.1) ∧ r.1.depth ≤ 8
theorem KeysIn.keep {H H' : Hp} {rs : List Row} (h : KeysIn H rs) (e : ∀ a us, H a = some (.tup us) → H' a = some (.tup us)) : KeysIn H' rs := fun r hr => ⟨(h r hr).1.keep e, (h r hr).2⟩
abbrev RowRel : Row → NestedKey × Addr × Value → Prop := fun r y => r.1 = y.1 ∧ r.2.1 = y.2.1 ∧ RelV r.2.2 y.2.2
section
variable {P : Program} {w : World} {H : Hp} {h : Heap} {a : Addr} {rs : List Row}
theorem dn_of (ok : HOk P w H h) (e : H a = some (DN P w a rs)) (ks : KeysIn H rs) : rs.length ≤ sizeLine ∧ (a == sysModules) = false ∧ ∃ ys, Paired RowRel rs ys ∧ h.DictOfH (nestedKind P w) a ys := by
  obtain ⟨z, y, ys, r, o, es, ep, h1, h2, h3, h4, h5⟩ := (ok a _ e).1
  refine ⟨z, y, ys, r, o, es, ep, h1, h2, h3, h4, ?_, h5⟩
  have all : ∀ {l : List Row} {m : List (NestedKey × Addr × Value)}, Paired RowRel l m → KeysIn H l → ∀ x ∈ m, (nestedKind P w).is h x.1 x.2.1 := by
    intro l m q
    induction q with
    | nil => intro _ x hx; exact nomatch hx
    | @cons p q ps qs hq t ih =>
      intro hk x hx
      rcases List.mem_cons.mp hx with e | hx
      · subst e
        obtain ⟨k1, k2⟩ := hk p List.mem_cons_self
        have := k1.is ok (u := .ref p.2.1) rfl
        rw [hq.1, hq.2.1] at this
        exact ⟨this, by rw [← hq.1]; exact k2⟩
      · exact ih (fun r hr => hk r (List.mem_cons_of_mem _ hr)) x hx
  exact all r ks
end
section
variable {X : Cx} {pins : List (Addr × Obj)} {σ : L2.St} {H : Hp} {s : Shared} {a b : Addr} {k : NestedKey} {rs : List Row} {v : V} {r : Value} {A : Around} {E : Value → Shared → Prop}
/-- the key at b is looked for in the dict at a -/
structure NAt (P : Program) (w : World) (H : Hp) (a b : Addr) (k : NestedKey) (rs : List Row) : Prop where
  at_ : H a = some (DN P w a rs)
  keys : KeysIn H rs
  key : KeyAt H k (.ref b)
  deep : k.depth ≤ 8
theorem NAt.is {P : Program} {w : World} {h : Heap} (n : NAt P w H a b k rs) (ok : HOk P w H h) : (nestedKind P w).is h k b := ⟨n.key.is ok rfl, n.deep⟩
end
/-! ### as rules -/
section
variable {X : Cx} {o i e value : Expr} {pos pos' : Pos} {td ty tv : TE}
theorem NAt.typeIs {pins : List (Addr × Obj)} {σ : L2.St} {H : Hp} {s : Shared} {a b : Addr} {k : NestedKey} {rs : List Row} (n : NAt X.prog X.w H a b k rs) (I : Inv X pins σ H s) : s.TypeIs (.ref a) "dict" := by
  obtain ⟨_, _, ys, _, dd⟩ := dn_of I.hok n.at_ n.keys
  exact dd.typeIs
end
end Sg
set_option Elab.async false
set_option linter.all false
set_option maxRecDepth 100000
set_option maxHeartbeats 4000000
set_option Elab.async false
set_option linter.all false
set_option maxRecDepth 100000
set_option maxHeartbeats 4000000
namespace Sg
open PySem PySem.Spec PyProof.Rows L2
/-! ## any data -/
mutual
theorem Dp.same {K : PySem.W.Frag} {H H' : Hp} (e : Same H H') : ∀ {v : V} {d : PyData}, Dp K H v d → Dp K H' v d
  | _, _, .non => .non
  | _, _, .bl b => .bl b
  | _, _, .int i => .int i
  | _, _, .str x => .str x
  | _, _, .lst h r => .lst (e.seq h) (DpAll.same e r)
  | _, _, .tup h r => .tup (Same.tup e h) (DpAll.same e r)
theorem DpAll.same {K : PySem.W.Frag} {H H' : Hp} (e : Same H H') : ∀ {vs : List V} {ds : List PyData}, DpAll K H vs ds → DpAll K H' vs ds
  | _, _, .nil => .nil
  | _, _, .cons a r => .cons (Dp.same e a) (DpAll.same e r)
end
theorem DpAll.app {K : PySem.W.Frag} {H : Hp} : ∀ {vs us : List V} {ds es : List PyData}, DpAll K H vs ds → DpAll K H us es → DpAll K H (vs ++ us) (ds ++ es)
  | _, _, _, _, .nil, g => g
  | _, _, _, _, .cons a r, g => .cons a (DpAll.app r g)
theorem DpAll.len {K : PySem.W.Frag} {H : Hp} : ∀ {vs : List V} {ds : List PyData}, DpAll K H vs ds → vs.length = ds.length
  | _, _, .nil => rfl
  | _, _, .cons _ r => congrArg (· + 1) (DpAll.len r)
theorem DpAll.at {K : PySem.W.Frag} {H : Hp} : ∀ {vs : List V} {ds : List PyData} {i : Nat} {v : V}, DpAll K H vs ds → vs[i]? = some v → ∃ d, ds[i]? = some d ∧ Dp K H v d
  | _, _, _, _, .nil, h => nomatch h
  | _, _, 0, _, .cons a _, h => by cases h; exact ⟨_, rfl, a⟩
  | _, _, i + 1, _, .cons _ r, h => DpAll.at (i := i) r h
theorem DpAll.mem {K : PySem.W.Frag} {H : Hp} {vs : List V} {ds : List PyData} (h : DpAll K H vs ds) {v : V} (hv : v ∈ vs) : ∃ d ∈ ds, Dp K H v d := by
  obtain ⟨i, hi⟩ := List.mem_iff_getElem?.mp hv
  obtain ⟨d, h1, h2⟩ := DpAll.at h hi
  exact ⟨d, List.mem_of_getElem? h1, h2⟩
/-! ints and tuples of them: nothing that changes is read -/
mutual
theorem Tp.reads0 {X : Cx} {pins : List (Addr × Obj)} {σ : L2.St} {H : Hp} {s : Shared} (I : Inv X pins σ H s) : ∀ (d : PyData) (v : V) (u : Value), Tp X.K H v d → RelV v u → Reads s.heap u d []
  | .int i, _, _, h, r => by
    cases h
    obtain ⟨t, rfl⟩ := r
    exact .int i t
  | .tuple ds, _, _, h, r => by
    cases h with
    | tu hs ha =>
      cases r
      obtain ⟨its, rv, ⟨o, ho, hc, n, hd⟩, _⟩ := I.tuple hs
      exact .tuple ho hc hd (TpAll.reads0 I ds _ its ha rv)
  | .none, _, _, h, _ => by cases h
  | .bool _, _, _, h, _ => by cases h
  | .str _, _, _, h, _ => by cases h
  | .list _, _, _, h, _ => by cases h
  | .dict _, _, _, h, _ => by cases h
theorem TpAll.reads0 {X : Cx} {pins : List (Addr × Obj)} {σ : L2.St} {H : Hp} {s : Shared} (I : Inv X pins σ H s) : ∀ (ds : List PyData) (vs : List V) (us : List Value), TpAll X.K H vs ds → Vals vs us → ReadsAll s.heap us ds []
  | [], _, _, h, r => by
    cases h
    cases r
    exact .nil
  | d :: ds, _, _, h, r => by
    cases h with
    | on h1 h2 =>
      cases r with
      | cons r1 r2 => exact ReadsAll.cons (as := []) (bs := []) (Tp.reads0 I d _ _ h1 r1) (TpAll.reads0 I ds _ _ h2 r2)
end
mutual
theorem Dp.noDict {K : PySem.W.Frag} {H : Hp} : ∀ {v : V} {d : PyData}, Dp K H v d → d.hasDict = false
  | _, _, .non => by simp only [PyData.hasDict]
  | _, _, .bl _ => by simp only [PyData.hasDict]
  | _, _, .int _ => by simp only [PyData.hasDict]
  | _, _, .str _ => by simp only [PyData.hasDict]
  | _, _, .lst _ r => by simp only [PyData.hasDict]; exact DpAll.noDict r
  | _, _, .tup _ r => by simp only [PyData.hasDict]; exact DpAll.noDict r
theorem DpAll.noDict {K : PySem.W.Frag} {H : Hp} : ∀ {vs : List V} {ds : List PyData}, DpAll K H vs ds → PyData.hasDictAll ds = false
  | _, _, .nil => by simp only [PyData.hasDictAll]
  | _, _, .cons a r => by simp only [PyData.hasDictAll, Dp.noDict a, DpAll.noDict r, Bool.or_self]
end
/-- a dict: empty, or one int for one value of ints and tuples -/
inductive DicD (K : PySem.W.Frag) (H : Hp) : List (L2.Key × V) → List (PyData × PyData) → Prop
  | no : DicD K H [] []
  | one {i : Int} {v : V} {d : PyData} : Tp K H v d → DicD K H [(.inl i, v)] [(.int i, d)]
/-- any data: a dict at most on top -/
inductive Aq (K : PySem.W.Frag) (H : Hp) : V → PyData → Prop
  | data {v : V} {d : PyData} : Dp K H v d → Aq K H v d
  | dic {a : Addr} {kvs : List (L2.Key × V)} {ds : List (PyData × PyData)} : H a = some (.dK kvs) → DicD K H kvs ds → Aq K H (.ref a) (.dict ds)
theorem Aq.same {K : PySem.W.Frag} {H H' : Hp} (e : Same H H') {v : V} {d : PyData} (h : Aq K H v d) : Aq K H' v d := by
  cases h with
  | data h => exact .data (Dp.same e h)
  | dic h g =>
    refine .dic (e _ _ h) ?_
    cases g with
    | no => exact .no
    | one t => exact .one (t.stay (.of e))
/-- what may be shown -/
structure GoodD (d : PyData) : Prop where
  sh : d.showable = true
  dp : d.depth ≤ 40
  lv : d.leavesShort 24 = true
  bk : d.bulk ≤ 400000
theorem GoodD.short {d : PyData} (h : GoodD d) : d.shown.length ≤ sizeLine := by
  have h1 := PyData.shown_le_bulk 24 (by decide) d h.lv
  have h2 := h.bk
  have h4 : sizeLine = 16777216 := sizeLine_eq
  omega
def goodB (d : PyData) : Bool := d.showable && decide (d.depth ≤ 40) && d.leavesShort 24 && decide (d.bulk ≤ 400000)
theorem good_by {d : PyData} (h : goodB d = true) : GoodD d := by
  unfold goodB at h
  simp only [Bool.and_eq_true, decide_eq_true_eq] at h
  exact ⟨h.1.1.1, h.1.1.2, h.1.2, h.2⟩
/-- some data that may be shown -/
def AnyV (K : PySem.W.Frag) (H : Hp) (v : V) : Prop := ∃ d, Aq K H v d ∧ GoodD d
theorem AnyV.same {K : PySem.W.Frag} {H H' : Hp} (e : Same H H') {v : V} (h : AnyV K H v) : AnyV K H' v := by
  obtain ⟨d, h1, h2⟩ := h
  exact ⟨d, h1.same e, h2⟩
def AllAny (K : PySem.W.Frag) (H : Hp) (vs : List V) : Prop := ∀ v ∈ vs, AnyV K H v
theorem AllAny.same {K : PySem.W.Frag} {H H' : Hp} (e : Same H H') {vs : List V} (h : AllAny K H vs) : AllAny K H' vs := fun v hv => (h v hv).same e
theorem AllAny.app {K : PySem.W.Frag} {H : Hp} {vs us : List V} (h : AllAny K H vs) (g : AllAny K H us) : AllAny K H (vs ++ us) := fun v hv => (List.mem_append.mp hv).elim (h v) (g v)
theorem AllAny.nil {K : PySem.W.Frag} {H : Hp} : AllAny K H [] := fun _ h => nomatch h
theorem AllAny.cons {K : PySem.W.Frag} {H : Hp} {v : V} {vs : List V} (h : AnyV K H v) (g : AllAny K H vs) : AllAny K H (v :: vs) := fun u hu => (List.mem_cons.mp hu).elim (fun e => e ▸ h) (g u)
section
variable {X : Cx}
/-! ### repr(x) -/
theorem call_reprA {j : Nat} (hgd : X.A.guards = some []) (hr : Room j X.A) :
    CallR X (.builtin "repr") (fun xs H Q => ∃ v d, xs = [v] ∧ Aq X.K H v d ∧ GoodD d ∧ Q (.str d.shown) H) := by
  intro pins s σ H xs us Q I r h
  obtain ⟨v, d, rfl, hd, hg, q⟩ := h
  obtain ⟨u, rfl, rx⟩ := vals1 r
  have hu := hr.units
  have hdp := hg.dp
  have fin : ∀ t : Nat, EP X pins σ Q (.str d.shown t) { s with toks := t + 1 } := fun t => ⟨.str d.shown, H, I.tok _, ⟨_, rfl⟩, q⟩
  have ref : ∀ a : Addr, u = .ref a → ∀ as, Reads s.heap (.ref a) d as → (d.hasDict = true → sysModules ∉ as) → wpAny (model X.prog X.w) X.A (call (.builtin "repr") [u]) (EP X pins σ Q) X.xe s := fun a e as rd hs => by
    subst e
    exact repr_of_reads' (h₀ := s.heap) rd hg.sh hs hgd (by omega) (fun _ _ z => z) (fun h' u tk hk => ⟨.str d.shown, H, I.kept hk, ⟨u, rfl⟩, q⟩) hg.short
  cases hd with
  | dic ha hD =>
    cases rx
    obtain ⟨z, hm, xs, rel, o, es, ep, ho, hx, hdat, hes, hp, hnd⟩ := dk_rd I.hok (.inl ha)
    cases hD with
    | no =>
      cases rel
      have he : es.toList = [] := by
        generalize es.toList = l at hp
        cases hp; rfl
      refine ref _ rfl _ (.dict (as := []) (bs := []) ho hx.1 hdat (by rw [he]; exact .nil) (by rw [he]; exact .nil)) fun _ y => ?_
      have y' := List.mem_singleton.mp (show sysModules ∈ [_] from y)
      rw [← y'] at hm
      exact absurd hm (by simp)
    | one t =>
      cases rel with
      | cons r1 r2 =>
        cases r2
        rename_i b
        obtain ⟨k, y⟩ := b
        obtain ⟨ek, ry⟩ := r1
        have he : ∃ e : DictEntry, es.toList = [e] ∧ keyIs k e.key = true ∧ e.val = y := by
          generalize es.toList = l at hp
          cases hp with
          | cons h1 h2 h3 =>
            cases h3
            exact ⟨_, rfl, h1, h2⟩
        obtain ⟨e, he, hk, hv⟩ := he
        have ek' : (Sum.inl _ : L2.Key) = k := ek
        rw [← ek'] at hk
        obtain ⟨t0, e0⟩ := Value.isInt_shape hk
        refine ref _ rfl _ (.dict (as := []) (bs := []) ho hx.1 hdat ?_ ?_) fun _ y => ?_
        · rw [he]
          show ReadsAll s.heap [e.key] _ []
          rw [e0]
          exact ReadsAll.cons (as := []) (bs := []) (.int _ _) .nil
        · rw [he]
          show ReadsAll s.heap [e.val] _ []
          rw [hv]
          exact ReadsAll.cons (as := []) (bs := []) (Tp.reads0 I _ _ _ t ry) .nil
        · have y' := List.mem_singleton.mp (show sysModules ∈ [_] from y)
          rw [← y'] at hm
          exact absurd hm (by simp)
  | data hd =>
    cases hd with
    | non => cases rx; exact PySem.P.repr_of_none (fin _)
    | bl b => cases rx; exact PySem.P.repr_of_bool (by have := fin s.toks; cases b <;> exact this)
    | int i =>
      obtain ⟨t, rfl⟩ := rx
      have hs := hg.sh
      simp only [PyData.showable, decide_eq_true_eq] at hs
      exact PySem.P.repr_of_int hs (fin _)
    | str x =>
      obtain ⟨t, rfl⟩ := rx
      exact PySem.P.repr_of_str (fin _) hg.short
    | lst hs ha =>
      cases rx
      obtain ⟨as, rd⟩ := Dp.reads I _ _ _ (.lst hs ha) rfl
      exact ref _ rfl as rd fun z => by
        rw [Dp.noDict (Dp.lst hs ha)] at z; exact nomatch z
    | tup hs ha =>
      cases rx
      obtain ⟨as, rd⟩ := Dp.reads I _ _ _ (.tup hs ha) rfl
      exact ref _ rfl as rd fun z => by
        rw [Dp.noDict (Dp.tup hs ha)] at z; exact nomatch z
end
end Sg
set_option Elab.async false
set_option linter.all false
set_option maxRecDepth 100000
set_option maxHeartbeats 4000000
namespace Sg
open PySem PySem.Spec PyProof.Rows L2
/-! ## isinstance of any data -/
def tyN : PyData → String
  | .none => "NoneType"
  | .bool _ => "bool"
  | .int _ => "int"
  | .str _ => "str"
  | .list _ => "list"
  | .tuple _ => "tuple"
  | .dict _ => "dict"
theorem tyL {K : PySem.W.Frag} {H : Hp} {a : Addr} {xs : List V} (h : SqL K H a xs) : TyX K H (.ref a) (.type "list") := by
  rcases h with (h | ⟨o, h⟩) | ⟨o, _, _, h, hc, _⟩
  · exact .base (.lst h)
  · exact .base (.frz h)
  · exact .kList h hc
theorem aq_ty {K : PySem.W.Frag} {H : Hp} {v : V} {d : PyData} (h : Aq K H v d) : TyX K H v (.type (tyN d)) := by
  cases h with
  | dic h _ => exact .base (.dK h)
  | data h =>
    cases h with
    | non => exact .base .non
    | bl b => exact .base (.bl b)
    | int i => exact .base (.int i)
    | str x => exact .base (.str x)
    | lst h _ => exact tyL h
    | tup h _ => exact tyT h
def isS (u t : String) : Bool := decide (t = u) || (decide (u = "int") && decide (t = "bool"))
def isB (u : String) (d : PyData) : Bool := isS u (tyN d)
theorem tyN_mem (d : PyData) : tyN d ∈ ["NoneType", "bool", "int", "str", "list", "tuple", "dict"] := by
  cases d <;> simp [tyN]
theorem kit_table : ∀ t ∈ ["NoneType", "bool", "int", "str", "list", "tuple", "dict"], ∀ u ∈ ["tuple", "int", "bool", "str", "list"], kitB t u = some (isS u t) := by decide +kernel
theorem isB_kit {u : String} (hu : u = "tuple" ∨ u = "int" ∨ u = "bool" ∨ u = "str" ∨ u = "list") (d : PyData) : kitB (tyN d) u = some (isB u d) :=
  kit_table _ (tyN_mem d) u (by rcases hu with rfl | rfl | rfl | rfl | rfl <;> simp)
section
variable {X : Cx}
theorem call_isiA : CallR X (.builtin "isinstance") (fun xs H Q => ∃ v d u, xs = [v, .ty u] ∧ Aq X.K H v d ∧ (u = "tuple" ∨ u = "int" ∨ u = "bool" ∨ u = "str" ∨ u = "list") ∧ Q (.bl (isB u d)) H) := by
  intro pins s σ H xs us Q I r h
  obtain ⟨v, d, u, rfl, hd, hu, q⟩ := h
  exact call_isi pins s σ H _ us Q I r ⟨v, .ty u, _, _, _, rfl, .ty _, aq_ty hd, kit_ty (isB_kit hu d), q⟩
end
theorem isB_tup {d : PyData} : isB "tuple" d = true ↔ ∃ ds, d = .tuple ds := by
  cases d <;> simp [isB, isS, tyN]
/-- an int that is no bool -/
def isIntD : PyData → Bool
  | .int _ => true
  | _ => false
def betD (d : PyData) (l m : Int) : Bool := match d with
  | .int i => decide (l ≤ i) && decide (i ≤ m)
  | _ => false
/-! ## displays of constants -/
def mapO (f : Expr → Option PyData) : List Expr → Option (List PyData)
  | [] => some []
  | e :: es => match f e, mapO f es with
    | some d, some ds => some (d :: ds)
    | _, _ => none
def constE : Nat → Expr → Option PyData
  | 0, _ => none
  | _ + 1, .Constant .none _ _ => some .none
  | _ + 1, .Constant (.bool b) _ _ => some (.bool b)
  | _ + 1, .Constant (.int i) _ _ => some (.int i)
  | _ + 1, .Constant (.str x) _ _ => some (.str x)
  | _ + 1, .UnaryOp .USub (.Constant (.int i) _ _) _ => some (.int (-i))
  | _ + 1, .BinOp (.Constant (.int a) _ _) .Pow (.Constant (.int b) _ _) _ => if 0 ≤ b ∧ b ≤ 18 ∧ a = 10 then some (.int (a ^ b.toNat)) else none
  | n + 1, .Tuple es _ _ => if es.length ≤ 1000 then (mapO (constE n) es).map .tuple else none
  | n + 1, .List es _ => if es.length ≤ 1000 then (mapO (constE n) es).map .list else none
  | _, _ => none
def constD (n : Nat) : Expr → Option PyData
  | .Dict [] [] _ => some (.dict [])
  | .Dict [some (.Constant (.int k) _ _)] [.Constant (.int v) _ _] _ => some (.dict [(.int k, .int v)])
  | e => constE n e
theorem PE.imp {X : Cx} {e : Expr} {t t' : TE} (h : PE X e t) (i : ∀ σ H Q, t' σ H Q → t σ H Q) : PE X e t' := ⟨fun pins s σ H Q I q => h.run pins s σ H Q I (i _ _ _ q)⟩
theorem same_refl (H : Hp) : Same H H := fun _ _ h => h
/-- what is new since H -/
def nw (H H' : Hp) : Hp := fun b => match H b with
  | none => H' b
  | some _ => none
/-- all but what stands at p -/
def wo (p : Addr) (H : Hp) : Hp := fun b => if b = p then none else H b
theorem nw_none {H H' : Hp} {b : Addr} (h : H b = none) : nw H H' b = H' b := by unfold nw; rw [h]
theorem nw_some {H H' : Hp} {b : Addr} {o : HO} (h : nw H H' b = some o) : H b = none ∧ H' b = some o := by
  unfold nw at h
  rcases z : H b with _ | u
  · rw [z] at h; exact ⟨rfl, h⟩
  · rw [z] at h; exact nomatch h
theorem nw_same {H H1 H2 : Hp} (e : Same H1 H2) : Same (nw H H1) (nw H H2) := fun b o h => by
  obtain ⟨h1, h2⟩ := nw_some h
  rw [nw_none h1]; exact e _ _ h2
theorem nw_left {H H1 H2 : Hp} (e : Same H H1) : Same (nw H1 H2) (nw H H2) := fun b o h => by
  obtain ⟨h1, h2⟩ := nw_some h
  have : H b = none := by
    rcases z : H b with _ | u
    · rfl
    · rw [e _ _ z] at h1; exact nomatch h1
  rw [nw_none this]; exact h2
theorem nw_sub {H H' : Hp} : Same (nw H H') H' := fun b o h => (nw_some h).2
theorem wo_some {p b : Addr} {H : Hp} {o : HO} (h : wo p H b = some o) : b ≠ p ∧ H b = some o := by
  unfold wo at h
  by_cases z : b = p
  · rw [if_pos z] at h; exact nomatch h
  · rw [if_neg z] at h; exact ⟨z, h⟩
theorem wo_ne {p b : Addr} {H : Hp} (h : b ≠ p) : wo p H b = H b := by unfold wo; rw [if_neg h]
theorem wo_sub {p : Addr} {H : Hp} : Same (wo p H) H := fun b o h => (wo_some h).2
theorem wo_but {p : Addr} {H H' : Hp} (e : But p H H') : Same (wo p H) (wo p H') := fun b o h => by
  obtain ⟨h1, h2⟩ := wo_some h
  rw [wo_ne h1]; exact e _ _ h1 h2
theorem wo_same {p : Addr} {H H' : Hp} (e : Same H H') : Same (wo p H) (wo p H') := fun b o h => by
  obtain ⟨h1, h2⟩ := wo_some h
  rw [wo_ne h1]; exact e _ _ h2
theorem nw_wo {p : Addr} {H H' : Hp} {o : HO} (h : H p = some o) : Same (nw H H') (wo p H') := fun b u g => by
  obtain ⟨h1, h2⟩ := nw_some g
  rw [wo_ne (fun z => by rw [z, h] at h1; exact nomatch h1)]; exact h2
theorem same_none {H H' : Hp} (e : Same H H') {b : Addr} (h : H' b = none) : H b = none := by
  rcases z : H b with _ | u
  · rfl
  · rw [e _ _ z] at h; exact nomatch h
def tData (K : PySem.W.Frag) (d : PyData) : TE := fun _ H Q => ∀ H' v, Same H H' → Dp K (nw H H') v d → Q v H'
def tDatas (K : PySem.W.Frag) (ds : List PyData) : TA := fun _ H Q => ∀ H' vs, Same H H' → DpAll K (nw H H') vs ds → Q vs H'
theorem constE_star {n : Nat} {e : Expr} {d : PyData} (h : constE n e = some d) : ∀ (es : List Expr) (env : Env), starEach (e :: es) env = (false, eval e env) :: starEach es env := by
  intro es env
  cases e with
  | Starred v p => cases n <;> simp [constE] at h
  | _ => rfl
theorem constE_ok {X : Cx} : ∀ (n : Nat) (e : Expr) (d : PyData), constE n e = some d → PE X e (tData X.K d) := by
  intro n
  induction n with
  | zero => intro e d h; exact nomatch h
  | succ n ih =>
    have big : 1000 ≤ sizeLine := by rw [sizeLine_eq]; decide
    have all : ∀ (es : List Expr) (ds : List PyData), mapO (constE n) es = some ds → PA X es (tDatas X.K ds) ∧ ds.length = es.length := by
      intro es
      induction es with
      | nil =>
        intro ds h
        cases h
        exact ⟨⟨fun pos pins s σ H Q I h => pa_nil.run pos pins s σ H Q I (h H [] (same_refl H) .nil)⟩, rfl⟩
      | cons e es ihe =>
        intro ds h
        unfold mapO at h
        split at h
        · rename_i d ds' h1 h2
          cases h
          obtain ⟨g1, g2⟩ := ihe ds' h2
          refine ⟨⟨fun pos pins s σ H Q I h => (pa_cons (ih e d h1) g1 (constE_star h1 _ _)).run pos pins s σ H Q I ?_⟩, by rw [List.length_cons, List.length_cons, g2]⟩
          exact fun H1 v e1 hv => fun H2 vs e2 hvs => h H2 (v :: vs) (e1.trans e2) (.cons (Dp.same (nw_same e2) hv) (DpAll.same (nw_left e1) hvs))
        · exact nomatch h
    intro e d h
    unfold constE at h
    split at h
    · exact absurd ‹_› (by simp)
    · cases h; exact PE.imp pe_non fun σ H Q q => q H _ (same_refl H) .non
    · cases h; exact PE.imp pe_bl fun σ H Q q => q H _ (same_refl H) (.bl _)
    · cases h; exact PE.imp pe_int fun σ H Q q => q H _ (same_refl H) (.int _)
    · cases h; exact PE.imp pe_str fun σ H Q q => q H _ (same_refl H) (.str _)
    · cases h; exact PE.imp (pe_un un_neg pe_int) fun σ H Q q => ⟨_, rfl, q H _ (same_refl H) (.int _)⟩
    · rename_i a j1 p1 b j2 p2 p3 m hm
      split at h
      · rename_i hc
        cases h
        obtain ⟨h1, h2, rfl⟩ := hc
        exact PE.imp (pe_op op_pow pe_int pe_int) fun σ H Q q => ⟨_, _, rfl, rfl, ⟨h1, by omega, by decide⟩, q H _ (same_refl H) (.int _)⟩
      · exact nomatch h
    · rename_i n' es k p hn
      cases hn
      split at h
      · rename_i hl
        obtain ⟨ds, h1, rfl⟩ := Option.map_eq_some_iff.mp h
        obtain ⟨g1, g2⟩ := all es ds h1
        refine PE.imp (pe_tup g1) fun σ H Q q => ?_
        intro H1 vs e1 hvs
        refine ⟨by have := DpAll.len hvs; omega, fun t nt => q _ _ (e1.trans (same_new nt)) (.tup (.of ((nw_none (same_none e1 nt)).trans upd_same)) (DpAll.same (nw_same (same_new nt)) hvs))⟩
      · exact nomatch h
    · rename_i n' es p hn
      cases hn
      split at h
      · rename_i hl
        obtain ⟨ds, h1, rfl⟩ := Option.map_eq_some_iff.mp h
        obtain ⟨g1, g2⟩ := all es ds h1
        refine PE.imp (pe_lst g1) fun σ H Q q => ?_
        intro H1 vs e1 hvs
        refine ⟨by have := DpAll.len hvs; omega, fun t nt => q _ _ (e1.trans (same_new nt)) (.lst (.of ((nw_none (same_none e1 nt)).trans upd_same)) (DpAll.same (nw_same (same_new nt)) hvs))⟩
      · exact nomatch h
    · exact nomatch h
/-! ### any constant, a list of them -/
def tAny (K : PySem.W.Frag) : TE := fun _ H Q => ∀ H' v, Same H H' → AnyV K (nw H H') v → Q v H'
def tAnys (K : PySem.W.Frag) (n : Nat) : TA := fun _ H Q => ∀ H' vs, Same H H' → AllAny K (nw H H') vs → vs.length = n → Q vs H'
def okC (e : Expr) : Bool := match constD 12 e with
  | some d => goodB d
  | none => false
theorem okC_star {e : Expr} (h : okC e = true) : ∀ (es : List Expr) (env : Env), starEach (e :: es) env = (false, eval e env) :: starEach es env := by
  intro es env
  cases e with
  | Starred v p => simp [okC, constD, constE] at h
  | _ => rfl
theorem pe_any {X : Cx} {e : Expr} (h : okC e = true) : PE X e (tAny X.K) := by
  unfold okC at h
  split at h
  · rename_i d hd
    have hg := good_by h
    unfold constD at hd
    split at hd
    · cases hd
      refine PE.imp pe_dnewK fun σ H Q q => ?_
      exact fun p np => q _ _ (same_new np) ⟨_, .dic ((nw_none np).trans upd_same) .no, hg⟩
    · rename_i ki j1 p1 vi j2 p2 p3
      cases hd
      refine PE.imp (pe_disp (pps_cons pe_int pe_int pps_nil) rfl rfl (fun z => nomatch z) (by show 1 ≤ 15; decide)) fun σ H Q q => ?_
      intro p np
      refine ⟨upd_same, [(.inl ki, .int vi)], rfl, by show 1 ≤ 15; decide, ?_⟩
      have e2 : Same H (L2.upd (L2.upd H p (.dK [])) p (.dK (mergeK [] [(.inl ki, .int vi)]))) := fun b o z => by
        rw [upd_ne (ne_of_none z np), upd_ne (ne_of_none z np)]; exact z
      exact q _ _ e2 ⟨_, .dic ((nw_none np).trans upd_same) (.one (.int _)), hg⟩
    · exact PE.imp (constE_ok 12 e d hd) fun σ H Q q => fun H' v e' hv => q H' v e' ⟨d, .data hv, hg⟩
  · exact nomatch h
theorem pa_consts {X : Cx} : ∀ (es : List Expr), es.all okC = true → PA X es (tAnys X.K es.length)
  | [], _ => ⟨fun pos pins s σ H Q I h => pa_nil.run pos pins s σ H Q I (h H [] (same_refl H) .nil rfl)⟩
  | e :: es, h => by
    rw [List.all_cons, Bool.and_eq_true] at h
    refine ⟨fun pos pins s σ H Q I q => (pa_cons (pe_any h.1) (pa_consts es h.2) (okC_star h.1 _ _)).run pos pins s σ H Q I ?_⟩
    exact fun H1 v e1 hv => fun H2 vs e2 hvs hl => q H2 (v :: vs) (e1.trans e2) (.cons (hv.same (nw_same e2)) (hvs.same (nw_left e1))) (congrArg (· + 1) hl)
/-- a list of constants -/
def tAnyL (K : PySem.W.Frag) (n : Nat) : TE := fun _ H Q => ∀ H' l vs, Same H H' → H l = none → H' l = some (.lst vs) → AllAny K (nw H H') vs → vs.length = n → Q (.ref l) H'
theorem pe_anyL {X : Cx} {es : List Expr} {p : Pos} {n : Nat} (h : es.all okC = true) (hn : es.length = n) (hs : n ≤ 1000) : PE X (.List es p) (tAnyL X.K n) := by
  refine PE.imp (pe_lst (pa_consts es h)) fun σ H Q q => ?_
  intro H1 vs e1 hvs hl
  have big : 1000 ≤ sizeLine := by rw [sizeLine_eq]; decide
  exact ⟨by omega, fun l nl => q _ l vs (e1.trans (same_new nl)) (same_none e1 nl) upd_same (hvs.same (nw_same (same_new nl))) (by omega)⟩
end Sg
set_option Elab.async false
set_option linter.all false
set_option maxRecDepth 100000
set_option maxHeartbeats 4000000
namespace Sg
open PySem PySem.Spec PyProof.Rows L2
/-! ## defs that are handed an exception, in an except suite -/
/-- p: the exception's place and object -/
structure FnE (P : Program) (w : World) (K : PySem.W.Frag) (mg : Str → Option Value) (base : Heap) (k : Nat) (f : Addr) (fd : FuncData) (ps : List Str) (sp : Addr × Obj → Sp) : Prop where
  arity : ∀ p vs H Q, sp p vs H Q E0 → vs.length = ps.length
  go : ∀ (A : Around) (outer : List Env) (s : Shared) (H : Hp) (args : Args) (us : List Value) (vs : List V) (Q : VK) (p : Addr × Obj),
    L2H.RoomH k A → L2H.PinOk outer H s p → Env0 P w K mg base A outer s H → BindsTo s fd args (ps.zip us) → Vals vs us → sp p vs H Q E0 →
    codeAny (model P w) A (.call (.ref f) args) (CR CX0 outer P w H s Q E0) s
section
variable {P : Program} {w : World} {K : PySem.W.Frag} {mg : Str → Option Value} {base : Heap} {k : Nat} {f : Addr}
variable {fd : FuncData} {ps : List Str} {sp : Addr × Obj → Sp}
theorem FnE.mono {j : Nat} (F : FnE P w K mg base j f fd ps sp) (h : j ≤ k) : FnE P w K mg base k f fd ps sp :=
  ⟨F.arity, fun A outer s H args us vs Q p hr => F.go A outer s H args us vs Q p (hr.mono h)⟩
end
end Sg
set_option Elab.async false
set_option linter.all false
set_option maxRecDepth 100000
set_option maxHeartbeats 4000000
namespace Sg
open PySem PySem.Spec PyProof.Rows L2
/-! ## tuples whose object is told: their methods -/
def FrzT (H : Hp) (a : Addr) (xs : List V) : Prop := ∃ ob, H a = some (.frz ob (.tup xs)) ∧ ob.cls = .type "tuple" ∧ ob.dict = none
theorem FrzT.sq {K : PySem.W.Frag} {H : Hp} {a : Addr} {xs : List V} (h : FrzT H a xs) : SqT K H a xs := by
  obtain ⟨ob, h1, _⟩ := h
  exact .inl (.inr ⟨ob, h1⟩)
theorem FrzT.same {H H' : Hp} (e : Same H H') {a : Addr} {xs : List V} (h : FrzT H a xs) : FrzT H' a xs := by
  obtain ⟨ob, h1, h2⟩ := h
  exact ⟨ob, e _ _ h1, h2⟩
theorem FrzT.but {p : Addr} {H H' : Hp} (e : But p H H') {a : Addr} {xs : List V} (h : FrzT H a xs) (n : a ≠ p) : FrzT H' a xs := by
  obtain ⟨ob, h1, h2⟩ := h
  exact ⟨ob, e _ _ n h1, h2⟩
theorem call_tupleF {X : Cx} : CallR X (.type "tuple") (fun xs H Q => ∃ p ys, xs = [.ref p] ∧ SqL X.K H p ys ∧ ∀ l ob, H l = none → ob.cls = .type "tuple" → ob.dict = none → Q (.ref l) (upd H l (.frz ob (.tup ys)))) := by
  intro pins s σ H xs us Q I r h
  obtain ⟨p, ys, e, hq, q⟩ := h
  subst e
  obtain ⟨u, eu, rx⟩ := vals1 r
  subst eu
  cases rx
  obtain ⟨its, rv, pl, hz⟩ := I.list hq
  have lv := rv.length
  refine call_tuple_list pl.isList (fun h1 kp => ?_) (by rw [List.size_toArray, ← lv]; exact hz)
  have J : Inv X pins σ H { s with heap := h1 } := I.kept (t' := s.toks) kp
  have hn : (h1.push { cls := .type "tuple", data := .seq its.toArray }).get? h1.objs.size = some { cls := .type "tuple", data := .seq its.toArray } := Heap.get?_push_size _ rfl
  have hnew : ObjOk X.prog X.w (upd H h1.objs.size (.frz { cls := .type "tuple", data := .seq its.toArray } (.tup ys))) (h1.push { cls := .type "tuple", data := .seq its.toArray }) h1.objs.size (.frz { cls := .type "tuple", data := .seq its.toArray } (.tup ys)) :=
    ⟨hn, hz, its, rv, IsTup.new _ _⟩
  exact ⟨.ref h1.objs.size, _, J.laid (t' := s.toks) (fun b o z => Heap.get?_push_of_some _ z) (Nat.le_refl _) hnew, rfl, q _ _ (J.hok.fresh (Nat.le_refl _)) rfl rfl⟩
section
variable {X : Cx} {o e : Expr} {es : List Expr} {to : TE} {t : TA} {name : Str} {apos cpos : Pos} {id : String} {r : V → List V → Hp → VK → Prop}
/-! ## a tuple times a number, up to 100,000 items -/
def rRepB (K : PySem.W.Frag) : R2 := fun x y H Q => ∃ l, ∃ k : Nat, ∃ xs, x = .ref l ∧ y = .int k ∧ SqT K H l xs ∧ xs ≠ [] ∧ 2 ≤ k ∧ k * xs.length ≤ 100000 ∧ ∀ p, H p = none → Q (.ref p) (upd H p (.tup (List.replicate k xs).flatten))
theorem op_repB : OpR X (binaryOp .Mult) (rRepB X.K) := by
  intro pins s σ H x y v u Q I rx ry h
  obtain ⟨l, k, xs, e1, e2, hT, hne, h1, hz, q⟩ := h
  subst e1 e2
  cases rx
  obtain ⟨t, et⟩ := ry
  subst et
  obtain ⟨its, r, ⟨⟨cls, dd, data, sl⟩, ho, hc, n, hd⟩, hs⟩ := I.tuple hT
  simp only at hc hd
  subst hc hd
  have lx : its.length = xs.length := r.length.symm
  have pos : 0 < xs.length := List.length_pos_iff.mpr hne
  have ne : its.toArray.isEmpty = false := by
    cases its with
    | nil => rw [← lx] at pos; exact absurd pos (by decide)
    | cons a b => rfl
  have sz : its.toArray.size = xs.length := by rw [List.size_toArray, lx]
  have prod : ((its.toArray.size : Nat) : Int) * (k : Nat) ≤ 100000 := by
    rw [sz, ← Int.natCast_mul, Nat.mul_comm]
    exact Int.ofNat_le.mpr hz
  have kle : k ≤ 100000 := Nat.le_trans (Nat.le_mul_of_pos_right k pos) hz
  have lim : (100000 : Nat) ≤ sizeLine := by rw [sizeLine_eq]; decide
  have flat : (List.replicate k its).flatten.length ≤ sizeLine := by
    rw [PyProof.Rows.lm_len_rep_flat, lx]
    exact Nat.le_trans hz lim
  have c0 : (decide (((k : Nat) : Int) < -(2 ^ 63)) || decide (((k : Nat) : Int) ≥ 2 ^ 63)) = false := by
    rw [decide_eq_false (by omega), decide_eq_false (by omega)]; rfl
  have c1 : (its.toArray.isEmpty || ((k : Nat) : Int) == 1) = false := by
    rw [ne, Bool.false_or]
    exact beq_eq_false_iff_ne.mpr (by omega)
  have c2 : (decide (((k : Nat) : Int) ≤ 0) || its.toArray.isEmpty) = false := by
    rw [ne, Bool.or_false]
    exact decide_eq_false (by omega)
  have c4 : Builtin.Tuple.tupleTooMany (((its.toArray.size : Nat) : Int) * (k : Nat)) = false := by
    unfold Builtin.Tuple.tupleTooMany
    refine decide_eq_false ?_
    have : ((100000 : Nat) : Int) ≤ (sizeLine : Int) := Int.ofNat_le.mpr lim
    omega
  have hmul := tuple_mulW l its.toArray n dd sl ((k : Nat) : Int) t c0 c1 c2 (by omega) c4 (by rw [size_rep, List.size_toArray]; exact flat)
  refine wpAny_binaryOp_repeat_ref (T := "tuple") (U := "int") (by decide) ⟨_, ho, rfl⟩ (fun s' => typeIs_int s' k t) noFill_tuple_mul PySem.F.fills_int_mul PySem.F.slot_int_rmul repeat_tuple PySem.F.slot_int_index.lookup
    (call_meets PySem.F.slot_int_rmul (typeIs_int s k t) PySem.F.entry_int_rmul (PySem.F.args_int_rmul_2 _ _) (int_rmul_tuple k t l its.toArray n dd sl)
      ⟨ho, rfl, ⟨_, ho, rfl⟩, call_meets PySem.F.slot_tuple_mul ⟨_, ho, rfl⟩ PySem.F.entry_tuple_mul (PySem.F.args_tuple_mul_2 _ _) hmul ⟨ho, ?_⟩⟩)
  rw [size_rep]
  have hnew : ObjOk X.prog X.w (upd H s.heap.objs.size (.tup (List.replicate k xs).flatten)) (s.heap.push { cls := .type "tuple", data := .seq (List.replicate ((k : Nat) : Int).toNat its).flatten.toArray }) s.heap.objs.size (.tup (List.replicate k xs).flatten) :=
    ⟨by rw [PyProof.Rows.lm_len_rep_flat]; exact Nat.le_trans hz lim, _, r.rep k, IsTup.new _ _⟩
  exact ⟨.ref s.heap.objs.size, _, I.laid (t' := s.toks) (fun b ob z => Heap.get?_push_of_some _ z) (Nat.le_refl _) hnew, rfl, q _ (I.hok.fresh (Nat.le_refl _))⟩
/-! ## a text times a number -/
def repS (z : Str) (n : Nat) : Str := ⟨(List.replicate n z.cps).foldl (· ++ ·) #[]⟩
theorem op_mulS : OpR X (binaryOp .Mult) (fun x y H Q => ∃ z, ∃ n : Nat, x = .str z ∧ y = .int n ∧ 2 ≤ n ∧ 2 ≤ z.length ∧ z.length * n ≤ 100000 ∧ Q (.str (repS z n)) H) := by
  intro pins s σ H x y v u Q I rx ry h
  obtain ⟨z, n, e1, e2, h1, h2, h3, q⟩ := h
  subst e1 e2
  obtain ⟨t, et⟩ := rx
  obtain ⟨t', et'⟩ := ry
  subst et et'
  have lim : (100000 : Nat) ≤ sizeLine := by rw [sizeLine_eq]; decide
  have nle : n ≤ 100000 := Nat.le_trans (Nat.le_mul_of_pos_left n (by omega)) h3
  have zle : z.length ≤ 100000 := Nat.le_trans (Nat.le_mul_of_pos_right z.length (by omega)) h3
  have ne1 : ¬ ((n : Nat) : Int) < 1 := by omega
  have no : (((n : Nat) : Int) == 1 || z.length == 0) = false := by
    rw [beq_eq_false_iff_ne.mpr (by omega), beq_eq_false_iff_ne.mpr (by omega)]; rfl
  refine SB.mul ⟨?_, fun _ _ => ?_, fun _ _ => ?_⟩ fun t' k => ?_
  · rw [decide_eq_false (by omega), decide_eq_false (by omega)]; rfl
  · have : ((z.length : Nat) : Int) ≤ (2 ^ 63 - 1) / ((n : Nat) : Int) := by
      rw [Int.le_ediv_iff_mul_le (by omega), ← Int.natCast_mul]
      exact Int.le_trans (Int.ofNat_le.mpr h3) (by decide)
    omega
  · unfold Builtin.Str.tooLong
    refine decide_eq_false ?_
    rw [Int.toNat_natCast]
    omega
  · have e : Txt.mul z ((n : Nat) : Int) = repS z n := by
      unfold Txt.mul
      rw [if_neg ne1, no, Int.toNat_natCast]; rfl
    rw [e]
    exact ⟨.str (repS z n), H, I.tok _, ⟨_, rfl⟩, q⟩
end
end Sg
set_option Elab.async false
set_option linter.all false
set_option maxRecDepth 100000
set_option maxHeartbeats 4000000
namespace Sg
open PySem PySem.Spec PyProof.Rows L2
/-! ## rows of data that may be shown -/
structure SmL (k : Nat) (ds : List PyData) : Prop where
  sh : PyData.showableAll ds = true
  dp : PyData.depthAll ds ≤ 38
  lv : PyData.leavesShortAll 24 ds = true
  bk : PyData.bulkAll ds ≤ k
def smB (k : Nat) (ds : List PyData) : Bool := PyData.showableAll ds && decide (PyData.depthAll ds ≤ 38) && PyData.leavesShortAll 24 ds && decide (PyData.bulkAll ds ≤ k)
theorem smL_by {k : Nat} {ds : List PyData} (h : smB k ds = true) : SmL k ds := by
  unfold smB at h
  simp only [Bool.and_eq_true, decide_eq_true_eq] at h
  exact ⟨h.1.1.1, h.1.1.2, h.1.2, h.2⟩
theorem SmL.le {k m : Nat} {ds : List PyData} (h : SmL k ds) (e : k ≤ m) : SmL m ds := ⟨h.sh, h.dp, h.lv, Nat.le_trans h.bk e⟩
theorem SmL.nil : SmL 0 [] := smL_by (by decide +kernel)
theorem SmL.cons {k m : Nat} {d : PyData} {ds : List PyData} (h : SmL k [d]) (g : SmL m ds) : SmL (k + m) (d :: ds) := by
  have h1 := h.sh; have h2 := h.dp; have h3 := h.lv; have h4 := h.bk
  simp only [PyData.showableAll, PyData.depthAll, PyData.leavesShortAll, PyData.bulkAll, Bool.and_true] at h1 h2 h3 h4
  refine ⟨?_, ?_, ?_, ?_⟩
  · simp only [PyData.showableAll, h1, g.sh, Bool.and_self]
  · simp only [PyData.depthAll]; have := g.dp; omega
  · simp only [PyData.leavesShortAll, h3, g.lv, Bool.and_self]
  · simp only [PyData.bulkAll]; have := g.bk; omega
theorem SmL.uncons {k : Nat} {d : PyData} {ds : List PyData} (h : SmL k (d :: ds)) : SmL k [d] ∧ SmL k ds := by
  have h1 := h.sh; have h2 := h.dp; have h3 := h.lv; have h4 := h.bk
  simp only [PyData.showableAll, PyData.depthAll, PyData.leavesShortAll, PyData.bulkAll, Bool.and_eq_true] at h1 h2 h3 h4
  refine ⟨⟨?_, ?_, ?_, ?_⟩, h1.2, by omega, h3.2, by omega⟩
  · simp only [PyData.showableAll, h1.1, Bool.and_self]
  · simp only [PyData.depthAll]; omega
  · simp only [PyData.leavesShortAll, h3.1, Bool.and_self]
  · simp only [PyData.bulkAll]; omega
theorem SmL.app {k m : Nat} : ∀ {ds es : List PyData}, SmL k ds → SmL m es → SmL (k + m) (ds ++ es)
  | [], _, _, g => g.le (Nat.le_add_left _ _)
  | d :: ds, es, h, g => by
    have h1 := h.sh; have h2 := h.dp; have h3 := h.lv; have h4 := h.bk
    simp only [PyData.showableAll, PyData.depthAll, PyData.leavesShortAll, PyData.bulkAll, Bool.and_eq_true] at h1 h2 h3 h4
    have i := SmL.app (k := PyData.bulkAll ds) ⟨h1.2, by omega, h3.2, Nat.le_refl _⟩ g
    have j := SmL.cons h.uncons.1 i
    refine ⟨j.sh, j.dp, j.lv, ?_⟩
    show PyData.bulkAll (d :: (ds ++ es)) ≤ _
    simp only [PyData.bulkAll]
    have := i.bk
    omega
theorem SmL.drop {k : Nat} : ∀ {ds : List PyData} (i : Nat), SmL k ds → SmL k (ds.drop i)
  | _, 0, h => h
  | [], _ + 1, h => h
  | _ :: _, i + 1, h => SmL.drop i h.uncons.2
theorem SmL.take {k : Nat} : ∀ {ds : List PyData} (i : Nat), SmL k ds → SmL k (ds.take i)
  | _, 0, h => by rw [List.take_zero]; exact SmL.nil.le (Nat.zero_le _)
  | [], _ + 1, h => h
  | d :: ds, i + 1, h => by
    have h4 := h.bk
    simp only [PyData.bulkAll] at h4
    have u := h.uncons
    have t := SmL.take (k := PyData.bulkAll ds) i ⟨u.2.sh, u.2.dp, u.2.lv, Nat.le_refl _⟩
    have j := SmL.cons (k := PyData.bulk d + 1) ⟨u.1.sh, u.1.dp, u.1.lv, by simp only [PyData.bulkAll]; omega⟩ t
    exact j.le h4
theorem SmL.rep {k : Nat} {ds : List PyData} (h : SmL k ds) : ∀ n : Nat, SmL (n * k) (List.replicate n ds).flatten
  | 0 => SmL.nil.le (Nat.zero_le _)
  | n + 1 => by
    rw [List.replicate_succ, List.flatten_cons]
    exact (SmL.app h (SmL.rep h n)).le (by rw [Nat.add_mul, Nat.one_mul]; omega)
theorem SmL.tup {k : Nat} {ds : List PyData} (h : SmL k ds) (e : k ≤ 400000) : GoodD (.tuple ds) :=
  ⟨by simp only [PyData.showable, h.sh], by simp only [PyData.depth]; have := h.dp; omega, by simp only [PyData.leavesShort, h.lv], by simp only [PyData.bulk]; exact Nat.le_trans h.bk e⟩
theorem SmL.lst {k : Nat} {ds : List PyData} (h : SmL k ds) (e : k ≤ 400000) : GoodD (.list ds) :=
  ⟨by simp only [PyData.showable, h.sh], by simp only [PyData.depth]; have := h.dp; omega, by simp only [PyData.leavesShort, h.lv], by simp only [PyData.bulk]; exact Nat.le_trans h.bk e⟩
theorem SmL.one {d : PyData} {k : Nat} (h : GoodD d) (e : d.depth ≤ 38) (b : d.bulk + 1 ≤ k) : SmL k [d] :=
  ⟨by simp only [PyData.showableAll, h.sh, Bool.and_self], by simp only [PyData.depthAll]; omega, by simp only [PyData.leavesShortAll, h.lv, Bool.and_self], by simp only [PyData.bulkAll]; omega⟩
theorem SmL.all {ds : List PyData} (h : ∀ d ∈ ds, SmL 100 [d]) : SmL (ds.length * 100) ds := by
  induction ds with
  | nil => exact SmL.nil.le (Nat.zero_le _)
  | cons d ds ih =>
    refine (SmL.cons (h d List.mem_cons_self) (ih fun x hx => h x (List.mem_cons_of_mem _ hx))).le ?_
    rw [List.length_cons, Nat.add_mul, Nat.one_mul]; omega
def smallI : List Int := [-1, 0, 1, 2, 3, 4, 5, 6, 7, 8, 9]
theorem small_table : ∀ i ∈ smallI, smB 1 [.int i] = true := by decide +kernel
theorem mem_smallI {i : Int} (h : -1 ≤ i ∧ i ≤ 9) : i ∈ smallI := by
  have : i = -1 ∨ i = 0 ∨ i = 1 ∨ i = 2 ∨ i = 3 ∨ i = 4 ∨ i = 5 ∨ i = 6 ∨ i = 7 ∨ i = 8 ∨ i = 9 := by omega
  unfold smallI
  rcases this with rfl | rfl | rfl | rfl | rfl | rfl | rfl | rfl | rfl | rfl | rfl <;> simp
theorem smL_ints {ns : List Int} (h : ∀ x ∈ ns, -1 ≤ x ∧ x ≤ 9) : SmL ns.length (iD ns) := by
  induction ns with
  | nil => exact SmL.nil
  | cons n ns ih =>
    refine (SmL.cons (smL_by (small_table n (mem_smallI (h n List.mem_cons_self)))) (ih fun x hx => h x (List.mem_cons_of_mem _ hx))).le ?_
    rw [List.length_cons]; omega
theorem DpAll.drop {K : PySem.W.Frag} {H : Hp} : ∀ {vs : List V} {ds : List PyData} (i : Nat), DpAll K H vs ds → DpAll K H (vs.drop i) (ds.drop i)
  | _, _, 0, h => h
  | _, _, _ + 1, .nil => .nil
  | _, _, i + 1, .cons _ r => DpAll.drop i r
theorem DpAll.take {K : PySem.W.Frag} {H : Hp} : ∀ {vs : List V} {ds : List PyData} (i : Nat), DpAll K H vs ds → DpAll K H (vs.take i) (ds.take i)
  | _, _, 0, h => by rw [List.take_zero, List.take_zero]; exact .nil
  | _, _, _ + 1, .nil => .nil
  | _, _, i + 1, .cons a r => .cons a (DpAll.take i r)
theorem DpAll.rep {K : PySem.W.Frag} {H : Hp} {vs : List V} {ds : List PyData} (h : DpAll K H vs ds) : ∀ n, DpAll K H (List.replicate n vs).flatten (List.replicate n ds).flatten
  | 0 => .nil
  | n + 1 => by
    rw [List.replicate_succ, List.replicate_succ, List.flatten_cons, List.flatten_cons]
    exact DpAll.app h (DpAll.rep h n)
theorem DpAll.cut {K : PySem.W.Frag} {H : Hp} {vs : List V} {ds : List PyData} (h : DpAll K H vs ds) {k : Nat} (g : SmL k ds) (lo hi : Option Int) : ∃ es, DpAll K H (cutV vs lo hi) es ∧ SmL k es := by
  unfold cutV
  exact ⟨_, DpAll.take _ (DpAll.drop _ h), SmL.take _ (SmL.drop _ g)⟩
/-- a text, again and again -/
theorem repS_list (z : Str) (n : Nat) : (repS z n).cps.toList = (List.replicate n z.cps.toList).flatten := by
  unfold repS
  have : ∀ (l : List (Array Nat)) (acc : Array Nat), (l.foldl (· ++ ·) acc).toList = acc.toList ++ (l.map (·.toList)).flatten := by
    intro l
    induction l with
    | nil => intro acc; simp
    | cons a l ih => intro acc; rw [List.foldl_cons, ih]; simp
  rw [this]
  simp
theorem smL_rep {z : Str} {n : Nat} (h : z.cps.toList.all (fun c => decide (c < 16 ^ 8)) = true) : SmL (n * z.length + 1) [.str (repS z n)] := by
  have e := repS_list z n
  refine ⟨by simp only [PyData.showableAll, PyData.showable, Bool.and_self], by simp only [PyData.depthAll, PyData.depth]; omega, ?_, ?_⟩
  · simp only [PyData.leavesShortAll, PyData.leavesShort, Bool.and_true]
    rw [e, List.all_eq_true]
    intro c hc
    obtain ⟨l, hl, hcl⟩ := List.mem_flatten.mp hc
    rw [List.eq_of_mem_replicate hl] at hcl
    exact List.all_eq_true.mp h c hcl
  · simp only [PyData.bulkAll, PyData.bulk]
    have : (repS z n).cps.size = n * z.length := by
      rw [← Array.length_toList, e, List.length_flatten]
      simp [Str.length]
    omega
/-! ## l != [] -/
theorem op_neNil {X : Cx} (hu : X.A.units < cLine) : OpR X (compareOp .NotEq) (fun x y H Q => ∃ a b xs, x = .ref a ∧ y = .ref b ∧ SqL X.K H a xs ∧ SqL X.K H b [] ∧ Q (.bl (!xs.isEmpty)) H) := by
  intro pins s σ H x y v u Q I rx ry h
  obtain ⟨a, b, xs, rfl, rfl, h1, h2, q⟩ := h
  cases rx
  cases ry
  obtain ⟨its, rv, pl, hz⟩ := I.list h1
  obtain ⟨its2, rv2, pl2, hz2⟩ := I.list h2
  obtain rfl : its2 = [] := by cases rv2; rfl
  cases xs with
  | nil =>
    obtain rfl : its = [] := by cases rv; rfl
    exact SeqAt.RcNeAt.lists (e := fun _ => true) pl.isList pl2.isList rfl hu (fun j h1 _ => absurd h1 (by simp)) _ _ _ _ ⟨.bl _, H, I, rfl, q⟩
  | cons x xs =>
    obtain ⟨y, its', rfl⟩ : ∃ y its', its = y :: its' := by cases rv with | cons a b => exact ⟨_, _, rfl⟩
    exact SeqAt.RcNeAt.lists_lengths pl.isList pl2.isList (by simp) hu _ _ _ _ ⟨.bl _, H, I, rfl, q⟩
end Sg
set_option Elab.async false
set_option linter.all false
set_option maxRecDepth 100000
set_option maxHeartbeats 4000000
namespace Sg
open PySem PySem.Spec PyProof.Rows L2
/-! ## rows of expressions, each of its own making -/
def tE (S : L2.St → Hp → Prop) (R : Hp → V → Prop) : TE := fun σ H Q => S σ H ∧ ∀ H' v, Same H H' → R H' v → Q v H'
def tEs (S : L2.St → Hp → Prop) (R : Hp → V → Prop) (n : Nat) : TA := fun σ H Q => S σ H ∧ ∀ H' vs, Same H H' → (∀ v ∈ vs, R H' v) → vs.length = n → Q vs H'
section
variable {X : Cx} {S : L2.St → Hp → Prop} {R : Hp → V → Prop}
theorem pa_e0 : PA X [] (tEs S R 0) := ⟨fun pos pins s σ H Q I h => pa_nil.run pos pins s σ H Q I (h.2 H [] (same_refl H) (fun v hv => nomatch hv) rfl)⟩
theorem pa_e {e : Expr} {es : List Expr} {n : Nat} (stS : ∀ σ H H', Same H H' → S σ H → S σ H') (stR : ∀ H H' v, Same H H' → R H v → R H' v) (h : PE X e (tE S R)) (g : PA X es (tEs S R n))
    (he : starEach (e :: es) X.env = (false, eval e X.env) :: starEach es X.env := by rfl) : PA X (e :: es) (tEs S R (n + 1)) := by
  refine ⟨fun pos pins s σ H Q I q => (pa_cons h g he).run pos pins s σ H Q I ?_⟩
  refine ⟨q.1, fun H1 v e1 hv => ⟨stS _ _ _ e1 q.1, fun H2 vs e2 hvs hl => q.2 H2 (v :: vs) (e1.trans e2) (fun u hu => ?_) (congrArg (· + 1) hl)⟩⟩
  rcases List.mem_cons.mp hu with z | z
  · rw [z]; exact stR _ _ _ e2 hv
  · exact hvs u z
theorem PE.e {e : Expr} {t : TE} (h : PE X e t) (i : ∀ σ H Q, S σ H → (∀ H' v, Same H H' → R H' v → Q v H') → t σ H Q) : PE X e (tE S R) := PE.imp h fun σ H Q q => i σ H Q q.1 q.2
/-! ## tuples: + and slices, any of them -/
theorem op_catB {K : PySem.W.Frag} (hK : X.K = K) : OpR X (binaryOp .Add) (fun x y H Q => ∃ a b xs ys, x = .ref a ∧ y = .ref b ∧ SqT K H a xs ∧ SqT K H b ys ∧ xs.length + ys.length ≤ sizeLine ∧ ∀ H' c, Same H H' → SqT K H' c (xs ++ ys) → Q (.ref c) H') := by
  subst hK
  intro pins s σ H x y v u Q I rx ry h
  obtain ⟨a, b, xs, ys, rfl, rfl, ha, hb, hz, q⟩ := h
  refine op_catA pins s σ H _ _ v u Q I rx ry ⟨a, b, xs, ys, rfl, rfl, ha, hb, hz, fun e => q H b (same_refl H) (by rw [e]; exact hb), fun _ e => q H a (same_refl H) (by rw [e, List.append_nil]; exact ha), fun _ _ p np => q _ p (same_new np) (.of upd_same)⟩
theorem cutV_whole {xs : List V} {lo hi : Option Int} (h : HT.sIx xs.length 0 lo = 0 ∧ HT.sIx xs.length xs.length hi = xs.length) : cutV xs lo hi = xs := by
  unfold cutV
  rw [h.1, h.2, List.drop_zero, Nat.sub_zero, List.take_length]
theorem sl_tupB {K : PySem.W.Frag} (hK : X.K = K) : SlR X (fun x lo hi H Q => ∃ a xs, x = .ref a ∧ SqT K H a xs ∧ ∀ H' b, Same H H' → SqT K H' b (cutV xs lo hi) → Q (.ref b) H') := by
  subst hK
  intro pins s σ H x v vl vu lo hi sl Q I rx hs pl pu h
  obtain ⟨a, xs, rfl, hx, q⟩ := h
  exact sl_tupA pins s σ H _ v vl vu lo hi sl Q I rx hs pl pu ⟨a, xs, rfl, hx, fun hw => q H a (same_refl H) (by rw [cutV_whole hw]; exact hx), fun _ p np => q _ p (same_new np) (.of upd_same)⟩
end
theorem sq_wo {K : PySem.W.Frag} {H : Hp} {p a : Addr} {ys xs : List V} (hp : H p = some (.lst ys)) (h : SqT K H a xs) : SqT K (wo p H) a xs := by
  rcases h with (h | ⟨o, h⟩) | h
  · exact .inl (.inl (by rw [wo_ne (ne_of h hp fun z => nomatch z)]; exact h))
  · exact .inl (.inr ⟨o, by rw [wo_ne (ne_of h hp fun z => nomatch z)]; exact h⟩)
  · exact .inr h
/-! ## short data -/
def SmV (K : PySem.W.Frag) (H : Hp) (v : V) : Prop := ∃ d, Dp K H v d ∧ SmL 100 [d]
theorem SmV.same {K : PySem.W.Frag} {H H' : Hp} (e : Same H H') {v : V} (h : SmV K H v) : SmV K H' v := by
  obtain ⟨d, h1, h2⟩ := h
  exact ⟨d, Dp.same e h1, h2⟩
end Sg
set_option Elab.async false
set_option linter.all false
set_option maxRecDepth 100000
set_option maxHeartbeats 4000000
namespace Sg
open PySem PySem.Spec PyProof.Rows L2
/-! ## data is kept where only tables change -/
abbrev ExtN := @LamX.ExtN
theorem ext_of {H H' : Hp} (e : Same H H') : LamX.ExtN H H' := fun b o h _ => e b o h
theorem ext_tup {K : PySem.W.Frag} {H H' : Hp} {a : Addr} {xs : List V} (e : LamX.ExtN H H') (h : SqT K H a xs) : SqT K H' a xs := by
  rcases h with (h | ⟨o, h⟩) | h
  · exact .inl (.inl (e _ _ h fun ps z => nomatch z))
  · exact .inl (.inr ⟨o, e _ _ h fun ps z => nomatch z⟩)
  · exact .inr h
theorem ext_lst {K : PySem.W.Frag} {H H' : Hp} {a : Addr} {xs : List V} (e : LamX.ExtN H H') (h : SqL K H a xs) : SqL K H' a xs := by
  rcases h with (h | ⟨o, h⟩) | h
  · exact .inl (.inl (e _ _ h fun ps z => nomatch z))
  · exact .inl (.inr ⟨o, e _ _ h fun ps z => nomatch z⟩)
  · exact .inr h
mutual
theorem Dp.ext {K : PySem.W.Frag} {H H' : Hp} (e : LamX.ExtN H H') : ∀ {v : V} {d : PyData}, Dp K H v d → Dp K H' v d
  | _, _, .non => .non
  | _, _, .bl b => .bl b
  | _, _, .int i => .int i
  | _, _, .str x => .str x
  | _, _, .lst h r => .lst (ext_lst e h) (DpAll.ext e r)
  | _, _, .tup h r => .tup (ext_tup e h) (DpAll.ext e r)
theorem DpAll.ext {K : PySem.W.Frag} {H H' : Hp} (e : LamX.ExtN H H') : ∀ {vs : List V} {ds : List PyData}, DpAll K H vs ds → DpAll K H' vs ds
  | _, _, .nil => .nil
  | _, _, .cons a r => .cons (Dp.ext e a) (DpAll.ext e r)
end
mutual
theorem Tp.ext {K : PySem.W.Frag} {H H' : Hp} (e : LamX.ExtN H H') : ∀ {v : V} {d : PyData}, Tp K H v d → Tp K H' v d
  | _, _, .int i => .int i
  | _, _, .tu h r => .tu (ext_tup e h) (TpAll.ext e r)
theorem TpAll.ext {K : PySem.W.Frag} {H H' : Hp} (e : LamX.ExtN H H') : ∀ {vs : List V} {ds : List PyData}, TpAll K H vs ds → TpAll K H' vs ds
  | _, _, .no => .no
  | _, _, .on a r => .on (Tp.ext e a) (TpAll.ext e r)
end
theorem Aq.ext {K : PySem.W.Frag} {H H' : Hp} (e : LamX.ExtN H H') {v : V} {d : PyData} (h : Aq K H v d) : Aq K H' v d := by
  cases h with
  | data h => exact .data (Dp.ext e h)
  | dic h g =>
    refine .dic (e _ _ h fun ps z => nomatch z) ?_
    cases g with
    | no => exact .no
    | one t => exact .one (Tp.ext e t)
theorem AnyV.ext {K : PySem.W.Frag} {H H' : Hp} (e : LamX.ExtN H H') {v : V} (h : AnyV K H v) : AnyV K H' v := by
  obtain ⟨d, h1, h2⟩ := h
  exact ⟨d, h1.ext e, h2⟩
theorem PenAt.ext {H H' : Hp} {p : Addr} (e : LamX.ExtN H H') (h : PenAt H p) : PenAt H' p := by
  obtain ⟨a, b, c, h1, h2⟩ := h
  exact ⟨a, b, c, e _ _ h1 (fun ps z => nomatch z), h2⟩
theorem FrzT.ext {H H' : Hp} (e : LamX.ExtN H H') {a : Addr} {xs : List V} (h : FrzT H a xs) : FrzT H' a xs := by
  obtain ⟨ob, h1, h2⟩ := h
  exact ⟨ob, e _ _ h1 (fun ps z => nomatch z), h2⟩
/-! ## the code object of a def that makes lambdas -/
end Sg
set_option Elab.async false
set_option linter.all false
set_option maxRecDepth 100000
set_option maxHeartbeats 4000000
set_option Elab.async false
set_option linter.all false
set_option maxRecDepth 100000
set_option maxHeartbeats 4000000
namespace Sg
open PySem PySem.Spec PyProof.Rows L2
/-! ## short data, a dict at most on top -/
def AnyS (K : PySem.W.Frag) (H : Hp) (v : V) : Prop := ∃ d, Aq K H v d ∧ GoodD d ∧ d.bulk ≤ 900
theorem AnyS.same {K : PySem.W.Frag} {H H' : Hp} (e : Same H H') {v : V} (h : AnyS K H v) : AnyS K H' v := by
  obtain ⟨d, h1, h2⟩ := h
  exact ⟨d, h1.same e, h2⟩
theorem AnyS.ext {K : PySem.W.Frag} {H H' : Hp} (e : LamX.ExtN H H') {v : V} (h : AnyS K H v) : AnyS K H' v := by
  obtain ⟨d, h1, h2⟩ := h
  exact ⟨d, h1.ext e, h2⟩
theorem AnyS.any {K : PySem.W.Frag} {H : Hp} {v : V} (h : AnyS K H v) : AnyV K H v := by
  obtain ⟨d, h1, h2, _⟩ := h
  exact ⟨d, h1, h2⟩
def AllS (K : PySem.W.Frag) (H : Hp) (vs : List V) : Prop := ∀ v ∈ vs, AnyS K H v
theorem AllS.same {K : PySem.W.Frag} {H H' : Hp} (e : Same H H') {vs : List V} (h : AllS K H vs) : AllS K H' vs := fun v hv => (h v hv).same e
theorem AllS.app {K : PySem.W.Frag} {H : Hp} {vs us : List V} (h : AllS K H vs) (g : AllS K H us) : AllS K H (vs ++ us) := fun v hv => (List.mem_append.mp hv).elim (h v) (g v)
/-! ## what is no instance of an own class -/
/-! ## laps, worths: of any data -/
end Sg
set_option Elab.async false
set_option linter.all false
set_option maxRecDepth 100000
set_option maxHeartbeats 4000000
set_option Elab.async false
set_option linter.all false
set_option maxRecDepth 100000
set_option maxHeartbeats 4000000
namespace Sg
open PySem PySem.Spec PyProof.Rows L2
/-! ## data that may hold a Line: to the built-in types a Line looks as None does -/
mutual
inductive Lp (K : PySem.W.Frag) (C : Addr) (H : Hp) : V → PyData → Prop
  | non : Lp K C H .non .none
  | bl (b : Bool) : Lp K C H (.bl b) (.bool b)
  | int (i : Int) : Lp K C H (.int i) (.int i)
  | str (x : Str) : Lp K C H (.str x) (.str x)
  | lst {a : Addr} {xs : List V} {ds : List PyData} : SqL K H a xs → LpAll K C H xs ds → Lp K C H (.ref a) (.list ds)
  | tup {a : Addr} {xs : List V} {ds : List PyData} : SqT K H a xs → LpAll K C H xs ds → Lp K C H (.ref a) (.tuple ds)
  | line {a : Addr} {ws : List (List Int)} : LineAt K C H a ws → Lp K C H (.ref a) .none
  | dic {a : Addr} {kvs : List (L2.Key × V)} : H a = some (.dK kvs) → Lp K C H (.ref a) (.dict [])
inductive LpAll (K : PySem.W.Frag) (C : Addr) (H : Hp) : List V → List PyData → Prop
  | nil : LpAll K C H [] []
  | cons {v : V} {vs : List V} {d : PyData} {ds : List PyData} : Lp K C H v d → LpAll K C H vs ds → LpAll K C H (v :: vs) (d :: ds)
end
mutual
theorem Lp.ext {K : PySem.W.Frag} {C : Addr} {H H' : Hp} (e : LamX.ExtN H H') : ∀ {v : V} {d : PyData}, Lp K C H v d → Lp K C H' v d
  | _, _, .non => .non
  | _, _, .bl b => .bl b
  | _, _, .int i => .int i
  | _, _, .str x => .str x
  | _, _, .lst h r => .lst (ext_lst e h) (LpAll.ext e r)
  | _, _, .tup h r => .tup (ext_tup e h) (LpAll.ext e r)
  | _, _, .line h => .line (h.stay ⟨fun _ _ z => ext_tup e z, fun _ _ _ _ z => e _ _ z fun ps y => nomatch y⟩)
  | _, _, .dic h => .dic (e _ _ h fun ps y => nomatch y)
theorem LpAll.ext {K : PySem.W.Frag} {C : Addr} {H H' : Hp} (e : LamX.ExtN H H') : ∀ {vs : List V} {ds : List PyData}, LpAll K C H vs ds → LpAll K C H' vs ds
  | _, _, .nil => .nil
  | _, _, .cons a r => .cons (Lp.ext e a) (LpAll.ext e r)
end
theorem Lp.same {K : PySem.W.Frag} {C : Addr} {H H' : Hp} (e : Same H H') {v : V} {d : PyData} (h : Lp K C H v d) : Lp K C H' v d := h.ext (ext_of e)
theorem LpAll.same {K : PySem.W.Frag} {C : Addr} {H H' : Hp} (e : Same H H') {vs : List V} {ds : List PyData} (h : LpAll K C H vs ds) : LpAll K C H' vs ds := h.ext (ext_of e)
theorem LpAll.len {K : PySem.W.Frag} {C : Addr} {H : Hp} : ∀ {vs : List V} {ds : List PyData}, LpAll K C H vs ds → vs.length = ds.length
  | _, _, .nil => rfl
  | _, _, .cons _ r => congrArg (· + 1) (LpAll.len r)
theorem LpAll.at {K : PySem.W.Frag} {C : Addr} {H : Hp} : ∀ {vs : List V} {ds : List PyData} {i : Nat} {v : V}, LpAll K C H vs ds → vs[i]? = some v → ∃ d, ds[i]? = some d ∧ Lp K C H v d
  | _, _, _, _, .nil, h => nomatch h
  | _, _, 0, _, .cons a _, h => by cases h; exact ⟨_, rfl, a⟩
  | _, _, i + 1, _, .cons _ r, h => LpAll.at (i := i) r h
mutual
theorem Dp.lp {K : PySem.W.Frag} {C : Addr} {H : Hp} : ∀ {v : V} {d : PyData}, Dp K H v d → Lp K C H v d
  | _, _, .non => .non
  | _, _, .bl b => .bl b
  | _, _, .int i => .int i
  | _, _, .str x => .str x
  | _, _, .lst h r => .lst h (DpAll.lp r)
  | _, _, .tup h r => .tup h (DpAll.lp r)
theorem DpAll.lp {K : PySem.W.Frag} {C : Addr} {H : Hp} : ∀ {vs : List V} {ds : List PyData}, DpAll K H vs ds → LpAll K C H vs ds
  | _, _, .nil => .nil
  | _, _, .cons a r => .cons (Dp.lp a) (DpAll.lp r)
end
theorem Lp.tuple_inv {K : PySem.W.Frag} {C : Addr} {H : Hp} {v : V} {ds : List PyData} (h : Lp K C H v (.tuple ds)) : ∃ a xs, v = .ref a ∧ SqT K H a xs ∧ LpAll K C H xs ds := by
  cases h with
  | tup h1 h2 => exact ⟨_, _, rfl, h1, h2⟩
theorem Lp.int_inv {K : PySem.W.Frag} {C : Addr} {H : Hp} {v : V} {i : Int} (h : Lp K C H v (.int i)) : v = .int i := by
  cases h; rfl
theorem lpInts_v {K : PySem.W.Frag} {C : Addr} {H : Hp} : ∀ {xs : List V} {ns : List Int}, LpAll K C H xs (iD ns) → xs = ns.map V.int
  | [], [], _ => rfl
  | _ :: _, [], h => by cases h
  | [], _ :: _, h => by cases h
  | x :: xs, n :: ns, h => by
    cases h with
    | cons a r =>
      rw [Lp.int_inv a, lpInts_v (ns := ns) r]; rfl
/-- what a Line is to the built-in types -/
structure LineKit (K : PySem.W.Frag) (C : Addr) : Prop where
  ty : ∀ {H : Hp} {a : Addr} {ws : List (List Int)}, LineAt K C H a ws → TyX K H (.ref a) (.ref C)
  no : ∀ u ∈ ["tuple", "int", "bool", "str", "list"], PySem.W.kitOne K (.ref C) (.type u) = some false
theorem call_isiL {X : Cx} {K : PySem.W.Frag} {C : Addr} (hK : X.K = K) (L : LineKit K C) : CallR X (.builtin "isinstance") (fun xs H Q => ∃ v d u, xs = [v, .ty u] ∧ Lp K C H v d ∧ (u = "tuple" ∨ u = "int" ∨ u = "bool" ∨ u = "str" ∨ u = "list") ∧ Q (.bl (isB u d)) H) := by
  subst hK
  intro pins s σ H xs us Q I r h
  obtain ⟨v, d, u, rfl, hd, hu, q⟩ := h
  have plain : ∀ d' : PyData, TyX X.K H v (.type (tyN d')) → d' = d → wpAny (model X.prog X.w) X.A (call (.builtin "isinstance") us) (EP X pins σ Q) X.xe s := fun d' ty e => by
    subst e
    exact call_isi pins s σ H _ us Q I r ⟨v, .ty u, _, _, _, rfl, .ty _, ty, kit_ty (isB_kit hu d'), q⟩
  cases hd with
  | non => exact plain .none (.base .non) rfl
  | bl b => exact plain (.bool b) (.base (.bl b)) rfl
  | int i => exact plain (.int i) (.base (.int i)) rfl
  | str x => exact plain (.str x) (.base (.str x)) rfl
  | lst h _ => exact plain (.list _) (tyL h) rfl
  | tup h _ => exact plain (.tuple _) (tyT h) rfl
  | dic h => exact plain (.dict []) (.base (.dK h)) rfl
  | line h =>
    have e : isB u .none = false := by rcases hu with rfl | rfl | rfl | rfl | rfl <;> rfl
    rw [e] at q
    have hm : u ∈ ["tuple", "int", "bool", "str", "list"] := by rcases hu with rfl | rfl | rfl | rfl | rfl <;> simp
    exact call_isi pins s σ H _ us Q I r ⟨_, .ty u, .ref C, .type u, false, rfl, .ty _, L.ty h, L.no u hm, q⟩
end Sg
set_option Elab.async false
set_option linter.all false
set_option maxRecDepth 100000
set_option maxHeartbeats 4000000
namespace Sg
open PySem PySem.Spec PyProof.Rows L2
/-! the places of the text -/
def topS (i : Nat) : Stmt := PySem.Challenge.pw_startgaps_k01_works_recognized.main.body.getD i (.Pass ⟨0, 0, 0, 0⟩)
abbrev s_is_int : Stmt := topS 9
theorem sc_is_int : FnScope ["thing"] ["thing"] (defScope s_is_int) := ⟨rfl, rfl, rfl, by decide +kernel, rfl, by decide +kernel, by decide +kernel⟩
abbrev s_is_between : Stmt := topS 10
theorem sc_is_between : FnScope ["thing", "least", "most"] ["thing", "least", "most"] (defScope s_is_between) := ⟨rfl, rfl, rfl, by decide +kernel, rfl, by decide +kernel, by decide +kernel⟩
abbrev s_is_work : Stmt := topS 15
theorem sc_is_work : FnScope ["thing", "item"] ["thing"] (defScope s_is_work) := ⟨rfl, rfl, rfl, by decide +kernel, rfl, by decide +kernel, by decide +kernel⟩
abbrev s_bars : Stmt := topS 16
theorem sc_bars : FnScope ["one", "other", "distance"] ["one", "other"] (defScope s_bars) := ⟨rfl, rfl, rfl, by decide +kernel, rfl, by decide +kernel, by decide +kernel⟩
abbrev s_require_work : Stmt := topS 17
theorem sc_require_work : FnScope ["thing"] ["thing"] (defScope s_require_work) := ⟨rfl, rfl, rfl, by decide +kernel, rfl, by decide +kernel, by decide +kernel⟩
abbrev s_clashes_behind : Stmt := topS 18
theorem sc_clashes_behind : FnScope ["one", "other", "distance", "here", "there"] ["one", "other", "distance"] (defScope s_clashes_behind) := ⟨rfl, rfl, rfl, by decide +kernel, rfl, by decide +kernel, by decide +kernel⟩
abbrev s_is_kind : Stmt := topS 21
theorem sc_is_kind : FnScope ["line", "thing"] ["line", "thing"] (defScope s_is_kind) := ⟨rfl, rfl, rfl, by decide +kernel, rfl, by decide +kernel, by decide +kernel⟩
abbrev s_require_kind : Stmt := topS 22
theorem sc_require_kind : FnScope ["line", "thing"] ["line", "thing"] (defScope s_require_kind) := ⟨rfl, rfl, rfl, by decide +kernel, rfl, by decide +kernel, by decide +kernel⟩
abbrev s_bars_of_all : Stmt := topS 23
theorem sc_bars_of_all : FnScope ["works", "other", "one"] ["works"] (defScope s_bars_of_all) := ⟨rfl, rfl, rfl, by decide +kernel, rfl, by decide +kernel, by decide +kernel⟩
abbrev s_Line_init : Stmt := inClass (topS 24) 0
theorem sc_Line_init : FnScope ["self", "works", "work", "row", "pair", "bar"] ["self", "works"] (defScope s_Line_init) := ⟨rfl, rfl, rfl, by decide +kernel, rfl, by decide +kernel, by decide +kernel⟩
abbrev s_Line_works : Stmt := inClass (topS 24) 1
theorem sc_Line_works : FnScope ["self"] ["self"] (defScope s_Line_works) := ⟨rfl, rfl, rfl, by decide +kernel, rfl, by decide +kernel, by decide +kernel⟩
abbrev s_Line_len : Stmt := inClass (topS 24) 3
theorem sc_Line_len : FnScope ["self"] ["self"] (defScope s_Line_len) := ⟨rfl, rfl, rfl, by decide +kernel, rfl, by decide +kernel, by decide +kernel⟩
abbrev s_Line_getitem : Stmt := inClass (topS 24) 4
theorem sc_Line_getitem : FnScope ["self", "at"] ["self", "at"] (defScope s_Line_getitem) := ⟨rfl, rfl, rfl, by decide +kernel, rfl, by decide +kernel, by decide +kernel⟩
abbrev s_Line_call : Stmt := inClass (topS 24) 6
theorem sc_Line_call : FnScope ["self", "one", "other"] ["self", "one", "other"] (defScope s_Line_call) := ⟨rfl, rfl, rfl, by decide +kernel, rfl, by decide +kernel, by decide +kernel⟩
abbrev s_Line_add : Stmt := inClass (topS 24) 7
theorem sc_Line_add : FnScope ["self", "other", "works"] ["self", "other"] (defScope s_Line_add) := ⟨rfl, rfl, rfl, by decide +kernel, rfl, by decide +kernel, by decide +kernel⟩
abbrev s_Line_sub : Stmt := inClass (topS 24) 9
theorem sc_Line_sub : FnScope ["self", "other", "works"] ["self", "other"] (defScope s_Line_sub) := ⟨rfl, rfl, rfl, by decide +kernel, rfl, by decide +kernel, by decide +kernel⟩
abbrev s_Line_neg : Stmt := inClass (topS 24) 10
theorem sc_Line_neg : FnScope ["self", "works", "work"] ["self"] (defScope s_Line_neg) := ⟨rfl, rfl, rfl, by decide +kernel, rfl, by decide +kernel, by decide +kernel⟩
abbrev s_Line_eq : Stmt := inClass (topS 24) 11
theorem sc_Line_eq : FnScope ["self", "other"] ["self", "other"] (defScope s_Line_eq) := ⟨rfl, rfl, rfl, by decide +kernel, rfl, by decide +kernel, by decide +kernel⟩
abbrev s_Line_repr : Stmt := inClass (topS 24) 12
theorem sc_Line_repr : FnScope ["self"] ["self"] (defScope s_Line_repr) := ⟨rfl, rfl, rfl, by decide +kernel, rfl, by decide +kernel, by decide +kernel⟩
abbrev s_l_cell : Stmt := topS 26
theorem sc_l_cell : FnScope ["_law_script", "_law_k"] ["_law_script", "_law_k"] (defScope s_l_cell) := ⟨rfl, rfl, rfl, by decide +kernel, rfl, by decide +kernel, by decide +kernel⟩
abbrev s_l_pen : Stmt := topS 27
theorem sc_l_pen : FnScope ["_law_cell_here"] ["_law_cell_here"] (defScope s_l_pen) := ⟨rfl, rfl, rfl, by decide +kernel, rfl, by decide +kernel, by decide +kernel⟩
abbrev s_l_draw : Stmt := topS 28
theorem sc_l_draw : FnScope ["_law_pen_here", "_law_many", "_law_found", "_law_stirred"] ["_law_pen_here", "_law_many"] (defScope s_l_draw) := ⟨rfl, rfl, rfl, by decide +kernel, rfl, by decide +kernel, by decide +kernel⟩
abbrev s_l_pick : Stmt := topS 29
theorem sc_l_pick : FnScope ["_law_pen_here", "_law_some"] ["_law_pen_here", "_law_some"] (defScope s_l_pick) := ⟨rfl, rfl, rfl, by decide +kernel, rfl, by decide +kernel, by decide +kernel⟩
abbrev s_l_same : Stmt := topS 30
theorem sc_l_same : FnScope ["_law_found", "_law_due"] ["_law_found", "_law_due"] (defScope s_l_same) := ⟨rfl, rfl, rfl, by decide +kernel, rfl, by decide +kernel, by decide +kernel⟩
abbrev s_l_is_whole : Stmt := topS 31
theorem sc_l_is_whole : FnScope ["_law_thing", "_law_low", "_law_high"] ["_law_thing", "_law_low", "_law_high"] (defScope s_l_is_whole) := ⟨rfl, rfl, rfl, by decide +kernel, rfl, by decide +kernel, by decide +kernel⟩
abbrev s_l_is_work : Stmt := topS 32
theorem sc_l_is_work : FnScope ["_law_thing", "_law_one"] ["_law_thing"] (defScope s_l_is_work) := ⟨rfl, rfl, rfl, by decide +kernel, rfl, by decide +kernel, by decide +kernel⟩
abbrev s_l_work : Stmt := topS 33
theorem sc_l_work : FnScope ["_law_pen_here", "_law_most", "_law_stations", "_law_way", "_law_long", "_law_items", "_law_turn"] ["_law_pen_here", "_law_most", "_law_stations"] (defScope s_l_work) := ⟨rfl, rfl, rfl, by decide +kernel, rfl, by decide +kernel, by decide +kernel⟩
abbrev s_l_odds : Stmt := topS 34
theorem sc_l_odds : FnScope ["_law_found"] [] (defScope s_l_odds) := ⟨rfl, rfl, rfl, by decide +kernel, rfl, by decide +kernel, by decide +kernel⟩
abbrev s_l_great : Stmt := topS 35
theorem sc_l_great : FnScope ["_law_deep", "_law_turn"] [] (defScope s_l_great) := ⟨rfl, rfl, rfl, by decide +kernel, rfl, by decide +kernel, by decide +kernel⟩
abbrev s_l_bend : Stmt := topS 36
theorem sc_l_bend : FnScope ["_law_pen_here", "_law_row", "_law_one", "_law_spot", "_law_found", "_law_other"] ["_law_pen_here", "_law_row"] (defScope s_l_bend) := ⟨rfl, rfl, rfl, by decide +kernel, rfl, by decide +kernel, by decide +kernel⟩
abbrev s_l_is_right : Stmt := topS 37
theorem sc_l_is_right : FnScope ["_law_thing", "_law_due", "_law_kept"] ["_law_thing"] (defScope s_l_is_right) := ⟨rfl, rfl, rfl, by decide +kernel, rfl, by decide +kernel, by decide +kernel⟩
abbrev s_law : Stmt := topS 38
theorem sc_law : FnScope ["_law_script", "_law_great_here", "_law_thing", "_law_cell_here", "_law_pen_here", "_law_lap", "_law_work_here", "_law_bent", "_law_again"] ["_law_script"] (defScope s_law) := ⟨rfl, rfl, rfl, by decide +kernel, rfl, by decide +kernel, by decide +kernel⟩
end Sg
set_option Elab.async false
set_option linter.all false
set_option maxRecDepth 100000
set_option maxHeartbeats 4000000
namespace Sg
open PySem PySem.Spec PyProof.Rows L2 StX
section
variable {P : Program} {w : World} {K : PySem.W.Frag} {mg : Str → Option Value} {base : Heap}
def spIsInt : Sp := fun vs H Q _ => ∃ i : Int, vs = [.int i] ∧ Q (.bl true) H
theorem ok_is_int {f : Addr} {fd : FuncData} {k : Nat} (F : Fun K "is_int" "is_int" s_is_int f fd) (m1 : mg "isinstance" = none) (m2 : mg "int" = none) (m3 : mg "bool" = none) :
    FnOk P w K mg base CX0 (k + 1) f fd ["thing"] spIsInt := by
  refine F.ok sc_is_int (fun vs H Q E h => ?_) (fun cdv A outer s H vs Q E hr h => ?_)
  · obtain ⟨i, rfl, _⟩ := h; rfl
  · obtain ⟨i, rfl, q⟩ := h
    refine ⟨_, pss_one (ps_ret (pe_and
      (pe_callB call_isi (by rfl) m1 (by decide +kernel) (pa_cons (pv 0) (pa_cons (pe_bltn (v := .ty "int") (by rfl) m2 (by decide +kernel) rfl) pa_nil)))
      (pe_one (pe_not (pe_callB call_isi (by rfl) m1 (by decide +kernel) (pa_cons (pv 0) (pa_cons (pe_bltn (v := .ty "bool") (by rfl) m3 (by decide +kernel) rfl) pa_nil))))))), ?_⟩
    refine ⟨.int i, rfl, .int i, .ty "int", _, _, true, rfl, .ty _, .base (.int i), kit_ty (by decide +kernel), true, rfl, iteT ?_⟩
    exact ⟨.int i, rfl, .int i, .ty "bool", _, _, false, rfl, .ty _, .base (.int i), kit_ty (by decide +kernel), false, rfl, q⟩
def spIsBetween : Sp := fun vs H Q _ => ∃ i l m : Int, vs = [.int i, .int l, .int m] ∧ Q (.bl (decide (l ≤ i) && decide (i ≤ m))) H
theorem ok_is_between {f f1 : Addr} {fd fd1 : FuncData} {k : Nat} (F : Fun K "is_between" "is_between" s_is_between f fd)
    (G1 : FnOk P w K mg base CX0 k f1 fd1 ["thing"] spIsInt) (kp1 : PySem.W.keepIn K (.ref f1) = true) (b1 : Binds K fd1 ["thing"] []) (g1 : mg "is_int" = some (.ref f1)) :
    FnOk P w K mg base CX0 (k + 1) f fd ["thing", "least", "most"] spIsBetween := by
  refine F.ok sc_is_between (fun vs H Q E h => ?_) (fun cdv A outer s H vs Q E hr h => ?_)
  · obtain ⟨i, l, m, rfl, _⟩ := h; rfl
  · obtain ⟨i, l, m, rfl, q⟩ := h
    refine ⟨_, pss_one (ps_ret (pe_and (pe_call G1 hr (by rfl) g1 kp1 b1 .nil pass0 (pa_cons (pv 0) pa_nil)) (pe_one (pe_chain op_le op_le (pv 1) (pv 0) (pv 2))))), ?_⟩
    refine ⟨.int i, rfl, i, rfl, true, rfl, iteT ?_⟩
    refine ⟨.int l, rfl, .int i, rfl, l, i, rfl, rfl, decide (l ≤ i), rfl, ?_⟩
    by_cases h1 : l ≤ i
    · rw [decide_eq_true h1] at q ⊢
      exact iteT ⟨.int m, rfl, i, m, rfl, rfl, q⟩
    · rw [decide_eq_false h1] at q ⊢
      exact iteF q
/-! ### is_int, is_between: of any data -/
/-! ### the script's cells, the pen -/
def spCell (K : PySem.W.Frag) : Sp := fun vs H Q _ => ∃ (a : Addr) (ns : List Int) (k : Nat), vs = [.ref a, .int k] ∧ SqL K H a (ns.map V.int) ∧ ∀ r : Int, Q (.int r) H
theorem ok_l_cell {f : Addr} {fd : FuncData} {k : Nat} (F : Fun K "_law_cell" "_law_cell" s_l_cell f fd) (m1 : mg "len" = none) :
    FnOk P w K mg base CX0 (k + 1) f fd ["_law_script", "_law_k"] (spCell K) := by
  refine F.ok sc_l_cell (fun vs H Q E h => ?_) (fun cdv A outer s H vs Q E hr h => ?_)
  · obtain ⟨a, ns, j, rfl, _⟩ := h; rfl
  · obtain ⟨a, ns, j, rfl, hS, q⟩ := h
    refine ⟨_, pss_one (ps_ret (pe_ifExp (pt_cmpR op_lt (pv 1) (pe_callB call_len_seq (by rfl) m1 PySem.boot_len (pa_cons (pv 0) pa_nil)) (nomark _))
      (pe_ix ix_list (pv 0) (pv 1) (fun _ _ => rfl)) pe_int)), ?_⟩
    refine ⟨.int j, rfl, .ref a, rfl, a, ns.map V.int, rfl, .inl hS, _, _, rfl, rfl, _, rfl, ite2 (fun e => ?_) (fun e => ?_)⟩
    · have e1 : (j : Int) < ((ns.map V.int).length : Nat) := of_decide_eq_true e
      have e2 : j < ns.length := by rw [List.length_map] at e1; omega
      refine ⟨.ref a, rfl, .int j, rfl, a, ns.map V.int, (j : Int), .int ns[j], rfl, rfl, hS, atI_nat ?_, q _⟩
      rw [List.getElem?_map, List.getElem?_eq_getElem e2]; rfl
    · exact q 0
def spPen : Sp := fun vs H Q _ => ∃ c : Int, vs = [.int c] ∧ ∀ H' p, H p = none → Same H H' → PenAt H' p → Q (.ref p) H'
theorem ok_l_pen {f : Addr} {fd : FuncData} {k : Nat} (F : Fun K "_law_pen" "_law_pen" s_l_pen f fd) (m1 : mg "max" = none) :
    FnOk P w K mg base CX0 (k + 1) f fd ["_law_cell_here"] spPen := by
  refine F.ok sc_l_pen (fun vs H Q E h => ?_) (fun cdv A outer s H vs Q E hr h => ?_)
  · obtain ⟨c, rfl, _⟩ := h; rfl
  · obtain ⟨c, rfl, q⟩ := h
    refine ⟨_, pss_one (ps_ret (pe_lst (pa_cons (pe_callB (call_max2 rfl) (by rfl) m1 (by decide +kernel) (pa_cons pe_int (pa_cons (pe_op op_sub (pv 0) (pe_op op_pow pe_int pe_int)) pa_nil)))
      (pa_cons (pe_op op_add (pe_op op_mod (pv 0) pe_int) pe_int) (pa_cons pe_int pa_nil))))), ?_⟩
    refine ⟨.int c, rfl, 10, 18, rfl, rfl, (by show (0 : Int) ≤ 18 ∧ (18 : Int) ≤ 1000000 ∧ _; decide), c, _, rfl, rfl, _, _, rfl, ?_⟩
    refine ⟨.int c, rfl, c, 2147483629, rfl, rfl, (by show (0 : Int) < 2147483629; decide), _, _, rfl, rfl, ?_⟩
    refine ⟨by show 3 ≤ sizeLine; decide, fun p hp => q _ p hp (same_new hp) ⟨_, _, _, upd_same, ?_⟩⟩
    have h1 := Int.emod_nonneg c (show (2147483629 : Int) ≠ 0 by decide)
    have h2 := Int.emod_lt_of_pos c (show (0 : Int) < 2147483629 by decide)
    constructor <;> omega
/-! ### a draw -/
def spDraw : Sp := fun vs H Q _ => ∃ (p : Addr) (m : Int), vs = [.ref p, .int m] ∧ PenAt H p ∧ 0 < m ∧ m < 1000000 ∧
  ∀ H' (r : Int), 0 ≤ r → r < m → PenAt H' p → But p H H' → Q (.int r) H'
theorem ok_l_draw {f : Addr} {fd : FuncData} {k : Nat} (F : Fun K "_law_draw" "_law_draw" s_l_draw f fd) :
    FnOk P w K mg base CX0 (k + 1) f fd ["_law_pen_here", "_law_many"] spDraw := by
  refine F.ok sc_l_draw (fun vs H Q E h => ?_) (fun cdv A outer s H vs Q E hr h => ?_)
  · obtain ⟨p, m, rfl, _⟩ := h; rfl
  · obtain ⟨p, m, rfl, ⟨a, b, c, hp, hb0, hb1⟩, hm0, hm1, q⟩ := h
    refine ⟨_, pss_cons (ps_if (pt_cmpR op_gt (pe_ix ix_list (pv 0) pe_int (fun _ _ => rfl)) pe_int (nomark _))
        (pss_cons (ps_set (i := 2) sc_l_draw.nd rfl (.inl rfl) (pe_op op_mod (pe_ix ix_list (pv 0) pe_int (fun _ _ => rfl)) (pv 1)))
        (pss_cons (ps_asg (pe_op op_fdiv (pe_ix ix_list (pv 0) pe_int (fun _ _ => rfl)) (pv 1)) (pg_sub (pv 0) pe_int set_list))
        (pss_one (ps_ret (pv 2))))) pss_nil)
      (pss_cons (ps_asg (pe_op op_add (pe_ix ix_list (pv 0) pe_int (fun _ _ => rfl)) pe_int) (pg_sub (pv 0) pe_int set_list))
      (pss_cons (ps_asg (pe_op op_mod (pe_op op_add (pe_op op_add (pe_op op_mul (pe_ix ix_list (pv 0) pe_int (fun _ _ => rfl)) pe_int)
            (pe_op op_mul pe_int (pe_ix ix_list (pv 0) pe_int (fun _ _ => rfl)))) pe_int) pe_int) (pg_sub (pv 0) pe_int set_list))
      (pss_cons (ps_set (i := 3) sc_l_draw.nd rfl (.inl rfl) (pe_op op_mod (pe_op op_add (pe_op op_add (pe_op op_mul (pe_ix ix_list (pv 0) pe_int (fun _ _ => rfl)) (pe_ix ix_list (pv 0) pe_int (fun _ _ => rfl)))
            (pe_op op_mul pe_int (pe_ix ix_list (pv 0) pe_int (fun _ _ => rfl)))) pe_int) pe_int))
      (pss_cons (ps_set (i := 3) sc_l_draw.nd rfl (.inl rfl) (pe_op op_mod (pe_op op_add (pe_op op_mul (pv 3) (pv 3)) (pe_op op_mul pe_int (pv 3))) pe_int))
      (pss_one (ps_ret (pe_op op_mod (pe_op op_fdiv (pv 3) pe_int) (pv 1)))))))), ?_⟩
    refine ⟨.ref p, rfl, p, _, 0, .int a, rfl, rfl, .of hp, atI0, a, 0, rfl, rfl, _, rfl, ite2 (fun e => ?_) (fun e => ?_)⟩
    · have ha : 0 < a := of_decide_eq_true e
      refine ⟨.ref p, rfl, p, _, 0, .int a, rfl, rfl, .of hp, atI0, .int m, rfl, a, m, rfl, rfl, hm0, ?_⟩
      refine ⟨.ref p, rfl, p, _, 0, .int a, rfl, rfl, .of hp, atI0, .int m, rfl, a, m, rfl, rfl, ⟨hm0, (by omega)⟩, ?_⟩
      refine ⟨.ref p, rfl, p, _, 0, 0, rfl, rfl, hp, rfl, ?_⟩
      refine ⟨.int (a % m), rfl, q _ _ (Int.emod_nonneg a (by omega)) (Int.emod_lt_of_pos a hm0) ⟨a / m, b, c, upd_same, hb0, hb1⟩ But.upd⟩
    · refine ⟨.ref p, rfl, p, _, 2, .int c, rfl, rfl, .of hp, atI2, c, 1, rfl, rfl, ?_⟩
      refine ⟨.ref p, rfl, p, _, 2, 2, rfl, rfl, hp, rfl, ?_⟩
      have hp1 : (upd H p (.lst [.int a, .int b, .int (c + 1)])) p = some (.lst [.int a, .int b, .int (c + 1)]) := upd_same
      refine ⟨.ref p, rfl, p, _, 1, .int b, rfl, rfl, .of hp1, atI1, b, 48271, rfl, rfl, .inl ⟨by omega, by omega⟩, ?_⟩
      refine ⟨.ref p, rfl, p, _, 2, .int (c + 1), rfl, rfl, .of hp1, atI2, 1009, c + 1, rfl, rfl, .inl (by decide), ?_⟩
      refine ⟨_, _, rfl, rfl, _, _, rfl, rfl, _, 2147483647, rfl, rfl, (by show (0 : Int) < 2147483647; decide), ?_⟩
      refine ⟨.ref p, rfl, p, _, 1, 1, rfl, rfl, hp1, rfl, ?_⟩
      dsimp only [List.set]
      generalize hb' : (b * 48271 + 1009 * (c + 1) + 7) % 2147483647 = b'
      have g1 : 0 ≤ b' := by rw [← hb']; exact Int.emod_nonneg _ (by decide)
      have g2 : b' < 2147483647 := by rw [← hb']; exact Int.emod_lt_of_pos _ (by decide)
      have hp2 : (upd (upd H p (.lst [.int a, .int b, .int (c + 1)])) p (.lst [.int a, .int b', .int (c + 1)])) p = some (.lst [.int a, .int b', .int (c + 1)]) := upd_same
      refine ⟨.ref p, rfl, p, _, 1, .int b', rfl, rfl, .of hp2, atI1, .ref p, rfl, p, _, 1, .int b', rfl, rfl, .of hp2, atI1, b', b', rfl, rfl, .inl ⟨by omega, by omega⟩, ?_⟩
      refine ⟨.ref p, rfl, p, _, 1, .int b', rfl, rfl, .of hp2, atI1, 69621, b', rfl, rfl, .inl (by decide), ?_⟩
      refine ⟨_, _, rfl, rfl, _, _, rfl, rfl, _, 2147483629, rfl, rfl, (by show (0 : Int) < 2147483629; decide), ?_⟩
      dsimp only
      generalize ht : (b' * b' + 69621 * b' + 11) % 2147483629 = t
      have t1 : 0 ≤ t := by rw [← ht]; exact Int.emod_nonneg _ (by decide)
      have t2 : t < 2147483629 := by rw [← ht]; exact Int.emod_lt_of_pos _ (by decide)
      refine ⟨.int t, rfl, .int t, rfl, t, t, rfl, rfl, .inl ⟨by omega, by omega⟩, .int t, rfl, 40014, t, rfl, rfl, .inl (by decide), _, _, rfl, rfl, _, 2147483587, rfl, rfl, (by show (0 : Int) < 2147483587; decide), ?_⟩
      refine ⟨_, rfl, _, 16, rfl, rfl, ⟨by decide, by decide⟩, .int m, rfl, _, m, rfl, rfl, hm0, ?_⟩
      refine q _ _ (Int.emod_nonneg _ (by omega)) (Int.emod_lt_of_pos _ hm0) ⟨a, b', c + 1, upd_same, by omega, by omega⟩ ?_
      exact But.upd.trans But.upd
end
end Sg
set_option Elab.async false
set_option linter.all false
set_option maxRecDepth 100000
set_option maxHeartbeats 4000000
namespace Sg
open PySem PySem.Spec PyProof.Rows L2
section
variable {P : Program} {w : World} {K : PySem.W.Frag} {mg : Str → Option Value} {base : Heap}
/-! ### is_work, of a work -/
def spIsWork (K : PySem.W.Frag) : Sp := fun vs H Q _ => ∃ (a : Addr) (ns : List Int), vs = [.ref a] ∧ SqT K H a (ns.map V.int) ∧ IsWork ns ∧ ∀ H', Same H H' → Q (.bl true) H'
theorem ok_is_work {f f1 : Addr} {fd fd1 : FuncData} {k : Nat} (F : Fun K "is_work" "is_work" s_is_work f fd) (N : Nums mg)
    (G1 : FnOk P w K mg base CX0 k f1 fd1 ["thing", "least", "most"] spIsBetween) (kp1 : PySem.W.keepIn K (.ref f1) = true) (b1 : Binds K fd1 ["thing", "least", "most"] []) (g1 : mg "is_between" = some (.ref f1))
    (m1 : mg "isinstance" = none) (m2 : mg "tuple" = none) (m3 : mg "len" = none) (m4 : mg "all" = none) :
    FnOk P w K mg base CX0 (k + 1) f fd ["thing"] (spIsWork K) := by
  obtain ⟨t1, n1⟩ := N.nowhere
  obtain ⟨t2, n2⟩ := N.stations
  obtain ⟨t3, n3⟩ := N.most
  refine F.ok sc_is_work (fun vs H Q E h => ?_) (fun cdv A outer s H vs Q E hr h => ?_)
  · obtain ⟨a, ns, rfl, _⟩ := h; rfl
  · obtain ⟨a, ns, rfl, hS, hw, q⟩ := h
    refine ⟨_, pss_cons (ps_if (PW.pt (pw_or (pt_not (pt_val (pe_callB call_isi (by rfl) m1 (by decide +kernel) (pa_cons (pv 0) (pa_cons (pe_bltn (v := .ty "tuple") (by rfl) m2 (by decide +kernel) rfl) pa_nil)))))
          (pw_or1 (pt_not (pt_chain op_le op_le pe_int (pe_callB call_len_seq (by rfl) m3 PySem.boot_len (pa_cons (pv 0) pa_nil)) (pe_glob (v := .int 60) (by rfl) n3 ⟨_, rfl⟩))))))
        (pss_one (ps_ret pe_bl)) pss_nil)
      (pss_cons (ps_if (pt_not (pt_val (pe_callB (cr_all rfl) (by rfl) m4 (by decide +kernel) (pa_cons
          (pe_lc (own := [("item", 1)]) (g := gName 1) (tt := tYes) rfl sc_is_work.nd (pi_tup (pv 0)) (blkOk_by (N := ["thing", "item"]) (sc := defScope s_is_work) (by decide +kernel))
            (fun _ _ _ _ _ => pg_name (i := 1) sc_is_work.nd rfl (Or.inl rfl)) (fun _ _ _ _ _ => pts_nil)
            (fun _ _ _ _ _ => pe_call G1 hr (by rfl) g1 kp1 b1 .nil pass0 (pa_cons (pv 1) (pa_cons (pe_glob (v := .int (-1)) (by rfl) n1 ⟨_, rfl⟩) (pa_cons (pe_op op_sub (pe_glob (v := .int 10) (by rfl) n2 ⟨_, rfl⟩) pe_int) pa_nil))))) pa_nil))))
        (pss_one (ps_ret pe_bl)) pss_nil)
      (pss_one (ps_ret (pe_and (pe_cmpR op_ne (pe_ix ix_tup (pv 0) pe_int (fun _ _ => rfl)) (pe_glob (v := .int (-1)) (by rfl) n1 ⟨_, rfl⟩) (nomark _))
        (pe_one (pe_cmpR op_ne (pe_ix ix_tup (pv 0) (pe_un un_neg pe_int) (fun _ _ => rfl)) (pe_glob (v := .int (-1)) (by rfl) n1 ⟨_, rfl⟩) (nomark _))))))), ?_⟩
    have l1 : ((ns.map V.int).length : Int) = ns.length := by rw [List.length_map]
    refine ⟨.ref a, rfl, .ref a, .ty "tuple", _, _, true, rfl, .ty _, tyT hS, kit_ty (by decide +kernel), true, rfl, iteF ?_⟩
    refine ⟨.ref a, rfl, a, ns.map V.int, rfl, .inr hS, 1, _, rfl, rfl, _, rfl, ?_⟩
    have c1 : decide ((1 : Int) ≤ ((ns.map V.int).length : Nat)) = true := decide_eq_true (by rw [List.length_map]; have := hw.pos; omega)
    rw [c1]
    refine iteT ⟨_, 60, rfl, rfl, _, rfl, ?_⟩
    have c2 : decide ((((ns.map V.int).length : Nat) : Int) ≤ 60) = true := decide_eq_true (by rw [List.length_map]; have := hw.most; omega)
    rw [c2]
    refine iteF ?_
    refine ⟨.ref a, rfl, a, rfl, ⟨_, hS⟩, fun D hD => ?_⟩
    refine lc_tup (xs := ns.map V.int) (fun i H' => Same H H' ∧ H' D = some (.lst ((((ns.take i).map inR)).map V.bl))) ⟨same_new hD, upd_same⟩ (fun i H' _ h => Same.tup h.1 hS) (fun i x H' hx h => ?_) (fun H' h => ?_)
    · rw [List.getElem?_map] at hx
      obtain ⟨z, hz, rfl⟩ := Option.map_eq_some_iff.mp hx
      have hl : i < ns.length := (List.getElem?_eq_some_iff.mp hz).1
      refine ⟨rfl, .int z, rfl, 10, 1, rfl, rfl, z, -1, _, rfl, ?_⟩
      refine ⟨_, h.2, ?_, fun b o e => ?_, ?_⟩
      · rw [List.length_map, List.length_map, List.length_take]
        have := hw.most
        exact small1000 (by omega)
      · rw [upd_ne (ne_of_none e hD)]
        exact h.1 _ _ e
      · rw [upd_same, List.take_add_one, hz, List.map_append, List.map_append]
        rfl
    · have hall : (((ns.take ns.length).map inR)).all id = true := by
        rw [List.take_length, List.all_map, List.all_eq_true]
        intro x hx
        have := hw.items x hx
        simp [inR, this.1, this.2]
      have h2 := h.2
      rw [List.length_map] at h2
      refine ⟨D, _, rfl, .of h2, true, congrArg V.bl hall, iteF ?_⟩
      have hS' : SqT K H' a (ns.map V.int) := Same.tup h.1 hS
      obtain ⟨x, hx⟩ : ∃ x, ns[0]? = some x := ⟨ns[0]'(hw.pos), List.getElem?_eq_getElem _⟩
      have hpos := hw.pos
      obtain ⟨y, hy⟩ : ∃ y, ns[ns.length - 1]? = some y := ⟨ns[ns.length - 1]'(by omega), List.getElem?_eq_getElem _⟩
      have gx : (ns.map V.int)[0]? = some (.int x) := by rw [List.getElem?_map, hx]; rfl
      have gy : atI (ns.map V.int) (-1) = some (.int y) := by
        have hne : ns ≠ [] := fun z => by rw [z] at hpos; exact absurd hpos (by decide)
        have e1 : ns = ns.dropLast ++ [y] := by
          have e2 : ns.getLast hne = y := by
            have := List.getLast_eq_getElem hne
            rw [this]
            exact (List.getElem?_eq_some_iff.mp hy).2
          rw [← e2, List.dropLast_concat_getLast]
        rw [e1, List.map_append]
        exact atI_last _ _
      refine ⟨.ref a, rfl, a, _, 0, .int x, rfl, rfl, hS', atI_nat (j := 0) gx, rfl, ?_⟩
      have d1 : decide (V.int x = V.int (-1)) = false := decide_eq_false fun z => hw.head x hx (V.int.inj z)
      rw [d1]
      refine ⟨true, rfl, iteT ?_⟩
      refine ⟨.ref a, rfl, 1, rfl, a, _, -1, .int y, rfl, rfl, hS', gy, rfl, ?_⟩
      have d2 : decide (V.int y = V.int (-1)) = false := decide_eq_false fun z => hw.last y hy (V.int.inj z)
      rw [d2]
      exact q H' h.1
def spReq (K : PySem.W.Frag) : Sp := fun vs H Q _ => ∃ (a : Addr) (ns : List Int), vs = [.ref a] ∧ SqT K H a (ns.map V.int) ∧ IsWork ns ∧ ∀ H', Same H H' → Q .non H'
theorem ok_require_work {f f1 : Addr} {fd fd1 : FuncData} {k : Nat} (F : Fun K "require_work" "require_work" s_require_work f fd)
    (G1 : FnOk P w K mg base CX0 k f1 fd1 ["thing"] (spIsWork K)) (kp1 : PySem.W.keepIn K (.ref f1) = true) (b1 : Binds K fd1 ["thing"] []) (g1 : mg "is_work" = some (.ref f1)) :
    FnOk P w K mg base CX0 (k + 1) f fd ["thing"] (spReq K) := by
  refine F.ok sc_require_work (fun vs H Q E h => ?_) (fun cdv A outer s H vs Q E hr h => ?_)
  · obtain ⟨a, ns, rfl, _⟩ := h; rfl
  · obtain ⟨a, ns, rfl, hS, hw, q⟩ := h
    refine ⟨_, pss_one (ps_if (pt_not (pt_val (pe_call G1 hr (by rfl) g1 kp1 b1 .nil pass0 (pa_cons (pv 0) pa_nil)))) (pss_one ps_never) pss_nil), ?_⟩
    exact ⟨.ref a, rfl, a, ns, rfl, hS, hw, fun H' sm => ⟨true, rfl, iteF (q H' sm)⟩⟩
/-! ### _clashes_behind -/
def spClash (K : PySem.W.Frag) : Sp := fun vs H Q _ => ∃ (a b : Addr) (one other : List Int) (d : Nat), vs = [.ref a, .ref b, .int d] ∧ SqT K H a (one.map V.int) ∧ SqT K H b (other.map V.int) ∧ one.length ≤ 60 ∧ 1 ≤ d ∧ d < one.length ∧
  ∀ H', Same H H' → Q (.bl (clashB one other d)) H'
theorem ok_clashes_behind {f : Addr} {fd : FuncData} {k : Nat} (F : Fun K "_clashes_behind" "_clashes_behind" s_clashes_behind f fd) (N : Nums mg) (m1 : mg "any" = none) (m2 : mg "zip" = none) :
    FnOk P w K mg base CX0 (k + 1) f fd ["one", "other", "distance"] (spClash K) := by
  obtain ⟨t1, n1⟩ := N.nowhere
  refine F.ok sc_clashes_behind (fun vs H Q E h => ?_) (fun cdv A outer s H vs Q E hr h => ?_)
  · obtain ⟨a, b, o1, o2, d, rfl, _⟩ := h; rfl
  · obtain ⟨a, b, one, other, d, rfl, hA, hB, hm, hd1, hd2, q⟩ := h
    refine ⟨_, pss_one (ps_ret (pe_callB (cr_any rfl) (by rfl) m1 (by decide +kernel) (pa_cons
      (pe_lc (own := [("here", 3), ("there", 4)]) (g := gTup K 2 (gCons (gName 3) (gCons (gName 4) gNil))) (tt := tYes) rfl sc_clashes_behind.nd (RZ.pi_zipA (by rfl) m2 (pa_cons (pe_slice sl_tup (pv 0) (po_some (pv 2)) po_none) (pa_cons (pv 1) pa_nil)))
        (blkOk_by (N := ["one", "other", "distance", "here", "there"]) (sc := defScope s_clashes_behind) (by decide +kernel))
        (fun _ _ _ _ _ => pg_tup rfl (pgs_cons (pg_name (i := 3) sc_clashes_behind.nd rfl (Or.inl rfl)) (pgs_cons (pg_name (i := 4) sc_clashes_behind.nd rfl (Or.inl rfl)) pgs_nil)))
        (fun _ _ _ _ _ => pts_nil)
        (fun _ _ _ _ _ => pe_and (pe_cmpR op_eq (pv 3) (pv 4) (nomark _)) (pe_one (pe_cmpR op_ne (pv 3) (pe_glob (v := .int (-1)) (by rfl) n1 ⟨_, rfl⟩) (nomark _))))) pa_nil))), ?_⟩
    have hcut : cutV (one.map V.int) (some (d : Int)) none = (one.drop d).map V.int := by rw [cut_from, List.map_drop]
    refine ⟨.ref a, rfl, .int d, rfl, d, rfl, a, _, rfl, hA, ?_, fun c nc => ?_⟩
    · rintro ⟨z, _⟩
      rw [HT.sIx_nat, List.length_map] at z
      omega
    rw [hcut]
    have s1 : Same H (upd H c (.tup ((one.drop d).map V.int))) := same_new nc
    refine ⟨.ref b, rfl, c, b, _, _, rfl, .inr ⟨.of upd_same, Same.tup s1 hB, fun D hD => ?_⟩⟩
    have s2 : Same (upd H c (.tup ((one.drop d).map V.int))) (upd (upd H c (.tup ((one.drop d).map V.int))) D (.lst [])) := same_new hD
    have hc0 : (upd H c (.tup ((one.drop d).map V.int))) c = some (.tup ((one.drop d).map V.int)) := upd_same
    refine lc_it (walk_zipT (xs := (one.drop d).map V.int) (ys := other.map V.int) (n := min (one.drop d).length other.length) (by rw [List.length_map, List.length_map]))
      (fun i H' => Same (upd H c (.tup ((one.drop d).map V.int))) H' ∧ H' D = some (.lst ((hitsTo one other d i).map V.bl))) ⟨s2, upd_same⟩
      (fun i H' _ h => ⟨.of (h.1 _ _ hc0), Same.tup (s1.trans h.1) hB⟩) (fun i x H' H'' hi h hY => ?_) (fun H' h => ?_)
    · obtain ⟨T, x1, x2, rfl, nT, rfl, f1, f2⟩ := hY
      dsimp only at f1 f2
      rw [List.getElem?_map] at f1 f2
      obtain ⟨z1, hz1, rfl⟩ := Option.map_eq_some_iff.mp f1
      obtain ⟨z2, hz2, rfl⟩ := Option.map_eq_some_iff.mp f2
      have nTD : D ≠ T := ne_of_none h.2 nT
      refine ⟨T, _, rfl, .of upd_same, rfl, _, _, rfl, _, _, rfl, rfl, rfl, ?_⟩
      have fin : ∀ bb : Bool, bb = (z1 == z2 && z1 != -1) → ∃ acc, (upd H' T (.tup [V.int z1, V.int z2])) D = some (.lst acc) ∧ acc.length < sizeLine ∧
          (Same (upd H c (.tup ((one.drop d).map V.int))) (upd (upd H' T (.tup [V.int z1, V.int z2])) D (.lst (acc ++ [V.bl bb]))) ∧ (upd (upd H' T (.tup [V.int z1, V.int z2])) D (.lst (acc ++ [V.bl bb]))) D = some (.lst ((hitsTo one other d (i + 1)).map V.bl))) := by
        rintro bb rfl
        refine ⟨_, by rw [upd_ne nTD]; exact h.2, ?_, fun y o e => ?_, ?_⟩
        · rw [List.length_map]
          have := hits_len one other d i
          exact small1000 (by rw [List.length_drop] at hi; omega)
        · rw [upd_ne (ne_of_none e hD)]
          exact same_new nT _ _ (h.1 _ _ e)
        · rw [upd_same, hits_succ hz1 hz2, List.map_append]
          rfl
      refine ⟨.int z1, rfl, .int z2, rfl, rfl, ?_⟩
      by_cases hz : z1 = z2
      · subst hz
        rw [decide_eq_true (rfl : V.int z1 = V.int z1)]
        refine ⟨true, rfl, iteT ⟨.int z1, rfl, rfl, ?_⟩⟩
        refine fin _ ?_
        by_cases hn : z1 = -1
        · subst hn; rfl
        · rw [decide_eq_false fun z => hn (V.int.inj z)]
          simp [hn]
      · rw [decide_eq_false fun z => hz (V.int.inj z)]
        refine ⟨false, rfl, iteF (fin _ ?_)⟩
        simp [hz]
    · refine ⟨D, _, rfl, .of h.2, ?_⟩
      rw [hits_any]
      exact q H' (s1.trans h.1)
/-! ### bars -/
def spBars (K : PySem.W.Frag) : Sp := fun vs H Q _ => ∃ (a b : Addr) (one other : List Int), vs = [.ref a, .ref b] ∧ SqT K H a (one.map V.int) ∧ SqT K H b (other.map V.int) ∧ IsWork one ∧ IsWork other ∧
  ∀ H' p, Same H H' → H p = none → H' p = some (.tup (nV (barsN one other))) → Q (.ref p) H'
theorem ok_bars {f f1 f2 : Addr} {fd fd1 fd2 : FuncData} {k : Nat} (F : Fun K "bars" "bars" s_bars f fd)
    (G1 : FnOk P w K mg base CX0 k f1 fd1 ["thing"] (spReq K)) (kp1 : PySem.W.keepIn K (.ref f1) = true) (b1 : Binds K fd1 ["thing"] []) (g1 : mg "require_work" = some (.ref f1))
    (G2 : FnOk P w K mg base CX0 k f2 fd2 ["one", "other", "distance"] (spClash K)) (kp2 : PySem.W.keepIn K (.ref f2) = true) (b2 : Binds K fd2 ["one", "other", "distance"] []) (g2 : mg "_clashes_behind" = some (.ref f2))
    (m1 : mg "tuple" = none) (m2 : mg "range" = none) (m3 : mg "len" = none) :
    FnOk P w K mg base CX0 (k + 1) f fd ["one", "other"] (spBars K) := by
  refine F.ok sc_bars (fun vs H Q E h => ?_) (fun cdv A outer s H vs Q E hr h => ?_)
  · obtain ⟨a, b, o1, o2, rfl, _⟩ := h; rfl
  · obtain ⟨a, b, one, other, rfl, hA, hB, w1, w2, q⟩ := h
    refine ⟨_, pss_cons (ps_expr (pe_call G1 hr (by rfl) g1 kp1 b1 .nil pass0 (pa_cons (pv 0) pa_nil))) (pss_cons (ps_expr (pe_call G1 hr (by rfl) g1 kp1 b1 .nil pass0 (pa_cons (pv 1) pa_nil)))
      (pss_one (ps_ret (pe_callTy call_tuple_of (by rfl) m1 (by decide +kernel) (pa_cons
        (pe_lc (own := [("distance", 2)]) (g := gName 2) rfl sc_bars.nd (pi_range2 (by rfl) m2 (pa_cons pe_int (pa_cons (pe_callB call_len_seq (by rfl) m3 PySem.boot_len (pa_cons (pv 0) pa_nil)) pa_nil)))
          (blkOk_by (N := ["one", "other", "distance"]) (sc := defScope s_bars) (by decide +kernel))
          (fun _ _ _ _ _ => pg_name (i := 2) sc_bars.nd rfl (Or.inl rfl))
          (fun _ _ _ _ _ => pts_one (pt_val (pe_call G2 hr (by rfl) g2 kp2 b2 .nil pass0 (pa_cons (pv 0) (pa_cons (pv 1) (pa_cons (pv 2) pa_nil))))))
          (fun _ _ _ _ _ => pv 2)) pa_nil))))), ?_⟩
    refine ⟨.ref a, rfl, a, one, rfl, hA, w1, fun H1 e1 => ?_⟩
    refine ⟨.ref b, rfl, b, other, rfl, Same.tup e1 hB, w2, fun H2 e2 => ?_⟩
    have e12 : Same H H2 := e1.trans e2
    have hA2 := Same.tup e12 hA
    have hB2 := Same.tup e12 hB
    refine ⟨.ref a, rfl, a, one.map V.int, rfl, .inr hA2, 1, _, rfl, ?_, fun D hD => ?_⟩
    · rw [List.length_map]
      have := w1.most
      omega
    have en : (((one.map V.int).length : Int) - 1).toNat = one.length - 1 := by rw [List.length_map]; omega
    rw [en]
    refine lc_range (lo := 1) (n := one.length - 1) (fun i H' => Same H2 H' ∧ H' D = some (.lst (nV (barsTo one other i)))) ⟨same_new hD, upd_same⟩ (fun i H' hi h => ?_) (fun H' h => ?_)
    · refine ⟨rfl, ?_⟩
      have ed : ((1 : Int) + (i : Int)) = ((1 + i : Nat) : Int) := by omega
      refine ⟨.ref a, rfl, .ref b, rfl, .int (1 + i), rfl, a, b, one, other, 1 + i, by rw [ed]; rfl, Same.tup h.1 hA2, Same.tup h.1 hB2, w1.most, by omega, by omega, fun H'' e3 => ?_⟩
      refine ⟨_, rfl, ?_⟩
      have hD3 := e3 _ _ h.2
      cases hc : clashB one other (1 + i) with
      | true =>
        refine iteT ⟨_, rfl, _, hD3, ?_, fun y o e => ?_, ?_⟩
        · rw [List.length_map]
          have := barsTo_len one other i
          have := w1.most
          exact small1000 (by omega)
        · rw [upd_ne (ne_of_none e hD)]
          exact e3 _ _ (h.1 _ _ e)
        · rw [upd_same, barsTo_yes hc]
      | false =>
        refine iteF ⟨h.1.trans e3, ?_⟩
        rw [barsTo_no hc]
        exact hD3
    · refine ⟨D, _, rfl, .inl ⟨.of h.2, fun l hl => ?_⟩⟩
      have e3 : Same H H' := e12.trans h.1
      exact q _ l (e3.trans (same_new hl)) (Same.free e3 hl) upd_same
end
end Sg
set_option Elab.async false
set_option linter.all false
set_option maxRecDepth 100000
set_option maxHeartbeats 4000000
namespace Sg
open PySem PySem.Spec PyProof.Rows L2
section
variable {P : Program} {w : World} {K : PySem.W.Frag} {mg : Str → Option Value} {base : Heap}
/-! ### len -/
def spLen (K : PySem.W.Frag) (C : Addr) : Sp := fun vs H Q _ => ∃ (a : Addr) (ws : List (List Int)), vs = [.ref a] ∧ LineAt K C H a ws ∧ Q (.int (ws.length : Nat)) H
theorem ok_len {f C : Addr} {fd : FuncData} {k : Nat} (F : Fun K "__len__" "Line.__len__" s_Line_len f fd) (T : LC K mg C) (m1 : mg "len" = none) :
    FnOk P w K mg base CX0 (k + 1) f fd ["self"] (spLen K C) := by
  refine F.ok sc_Line_len (fun vs H Q E h => ?_) (fun cdv A outer s H vs Q E hr h => ?_)
  · obtain ⟨a, ws, rfl, _⟩ := h; rfl
  · obtain ⟨a, ws, rfl, ⟨dx, t, b, r, h1, h2, h3, h4, h5⟩, q⟩ := h
    refine ⟨_, pss_one (ps_ret (pe_callB call_len_seq (by rfl) m1 PySem.boot_len (pa_cons (pe_fld (pv 0) rfl) pa_nil))), ?_⟩
    obtain ⟨t', xs, e, hS, hT⟩ := h2.toTup
    cases e
    refine ⟨.ref a, rfl, a, C, dx, _, _, rfl, h1, T.cl, T.nW, lf_works _ _ _, t, xs, rfl, .inr hS, ?_⟩
    have e := hT.len
    rw [List.length_map] at e
    rw [e]
    exact q
/-! ### is_kind -/
def spIsKind (K : PySem.W.Frag) (C : Addr) : Sp := fun vs H Q _ => ∃ (a : Addr) (ws : List (List Int)) (i : Int), vs = [.ref a, .int i] ∧ LineAt K C H a ws ∧ Q (.bl (decide (0 ≤ i) && decide (i ≤ (ws.length : Nat) - 1))) H
theorem ok_is_kind {f f1 f2 C : Addr} {fd fd1 fd2 : FuncData} {k : Nat} (F : Fun K "is_kind" "is_kind" s_is_kind f fd) (T : LC K mg C) (m1 : mg "len" = none)
    (G1 : FnOk P w K mg base CX0 k f1 fd1 ["thing", "least", "most"] spIsBetween) (kp1 : PySem.W.keepIn K (.ref f1) = true) (b1 : Binds K fd1 ["thing", "least", "most"] []) (g1 : mg "is_between" = some (.ref f1))
    (G2 : FnOk P w K mg base CX0 k f2 fd2 ["self"] (spLen K C)) (b2 : Binds K fd2 ["self"] []) (s2 : PySem.W.findIn K (.ref C) "__len__" = some (some (.ref f2))) (i2 : PySem.W.isFn K (.ref f2) = true) :
    FnOk P w K mg base CX0 (k + 2) f fd ["line", "thing"] (spIsKind K C) := by
  refine F.ok sc_is_kind (fun vs H Q E h => ?_) (fun cdv A outer s H vs Q E hr h => ?_)
  · obtain ⟨a, ws, i, rfl, _⟩ := h; rfl
  · obtain ⟨a, ws, i, rfl, hL, q⟩ := h
    refine ⟨_, pss_one (ps_ret (pe_call G1 (hr.mono (Nat.le_succ k)) (by rfl) g1 kp1 b1 .nil pass0 (pa_cons (pv 1) (pa_cons pe_int (pa_cons (pe_op op_sub (pe_callB (call_lenO G2 hr b2 s2 i2) (by rfl) m1 PySem.boot_len (pa_cons (pv 0) pa_nil)) pe_int) pa_nil))))), ?_⟩
    refine ⟨.int i, rfl, .ref a, rfl, a, rfl, hL.ins, a, ws, rfl, hL, ws.length, rfl, ?_, _, 1, rfl, rfl, i, 0, _, rfl, q⟩
    have := hL.good.few
    omega
def spReqKind (K : PySem.W.Frag) (C : Addr) : Sp := fun vs H Q _ => ∃ (a : Addr) (ws : List (List Int)) (i : Nat), vs = [.ref a, .int i] ∧ LineAt K C H a ws ∧ i < ws.length ∧ Q .non H
theorem ok_require_kind {f f1 C : Addr} {fd fd1 : FuncData} {k : Nat} (F : Fun K "require_kind" "require_kind" s_require_kind f fd)
    (G1 : FnOk P w K mg base CX0 k f1 fd1 ["line", "thing"] (spIsKind K C)) (kp1 : PySem.W.keepIn K (.ref f1) = true) (b1 : Binds K fd1 ["line", "thing"] []) (g1 : mg "is_kind" = some (.ref f1)) :
    FnOk P w K mg base CX0 (k + 1) f fd ["line", "thing"] (spReqKind K C) := by
  refine F.ok sc_require_kind (fun vs H Q E h => ?_) (fun cdv A outer s H vs Q E hr h => ?_)
  · obtain ⟨a, ws, i, rfl, _⟩ := h; rfl
  · obtain ⟨a, ws, i, rfl, hL, hi, q⟩ := h
    refine ⟨_, pss_one (ps_if (pt_not (pt_val (pe_call G1 hr (by rfl) g1 kp1 b1 .nil pass0 (pa_cons (pv 0) (pa_cons (pv 1) pa_nil))))) (pss_one ps_never) pss_nil), ?_⟩
    refine ⟨.ref a, rfl, .int i, rfl, a, ws, i, rfl, hL, ?_⟩
    rw [decide_eq_true (show (0 : Int) ≤ i by omega), decide_eq_true (show (i : Int) ≤ (ws.length : Nat) - 1 by omega)]
    exact ⟨true, rfl, iteF q⟩
/-! ### _bars_of_all -/
def spBarsAll (K : PySem.W.Frag) : Sp := fun vs H Q _ => ∃ (a : Addr) (ws : List (List Int)), vs = [.ref a] ∧ Tp K H (.ref a) (.tuple (tDs ws)) ∧ GoodL ws ∧
  ∀ H' p, Same H H' → Tp K H' (.ref p) (.tuple (barD ws)) → Q (.ref p) H'
theorem ok_bars_of_all {f f1 : Addr} {fd fd1 : FuncData} {k : Nat} (F : Fun K "_bars_of_all" "_bars_of_all" s_bars_of_all f fd) (m1 : mg "tuple" = none)
    (G1 : FnOk P w K mg base CX0 k f1 fd1 ["one", "other"] (spBars K)) (kp1 : PySem.W.keepIn K (.ref f1) = true) (b1 : Binds K fd1 ["one", "other"] []) (g1 : mg "bars" = some (.ref f1)) :
    FnOk P w K mg base CX0 (k + 1) f fd ["works"] (spBarsAll K) := by
  refine F.ok sc_bars_of_all (fun vs H Q E h => ?_) (fun cdv A outer s H vs Q E hr h => ?_)
  · obtain ⟨a, ws, rfl, _⟩ := h; rfl
  · obtain ⟨a, ws, rfl, hW, hg, q⟩ := h
    refine ⟨_, pss_one (ps_ret (pe_callTy call_tuple_of (by rfl) m1 (by decide +kernel) (pa_cons
      (pe_lc (own := [("one", 2)]) (g := gName 2) (tt := tYes) rfl sc_bars_of_all.nd (pi_tup (pv 0)) (blkOk_by (N := ["works", "other", "one"]) (sc := defScope s_bars_of_all) (by decide +kernel))
        (fun _ _ _ _ _ => pg_name (i := 2) sc_bars_of_all.nd rfl (Or.inr rfl)) (fun _ _ _ _ _ => pts_nil)
        (fun s' H' C' cl fp => pe_callTy (call_tuple_ofK (K := K) rfl) (by rfl) m1 (by decide +kernel) (pa_cons
          (pe_lc (own := [("other", 1)]) (g := gName 1) (tt := tYes) rfl sc_bars_of_all.nd (pi_tupK (K := K) rfl (pv 0)) (blkOk_by (by rfl))
            (fun _ _ _ _ _ => pg_name (i := 1) sc_bars_of_all.nd rfl (Or.inl rfl)) (fun _ _ _ _ _ => pts_nil)
            (fun _ _ _ _ _ => pe_call G1 hr (by rfl) g1 kp1 b1 .nil pass0 (pa_cons (pv 2) (pa_cons (pv 1) pa_nil)))) pa_nil))) pa_nil))), ?_⟩
    obtain ⟨a', xs, ea, hS, hT⟩ := hW.toTup
    cases ea
    have hlen := hT.len
    rw [List.length_map] at hlen
    refine ⟨.ref a, rfl, a, rfl, ⟨_, hS⟩, fun D hD => ?_⟩
    refine lc_tup (xs := xs) (fun i H' => Grow K H D (barD ws) i H') (.zero hD) (fun i H' _ h => Same.tup h.1 hS) (fun i x H' hx h => ?_) (fun H' h => ?_)
    · obtain ⟨o, c1, ho, rfl, hc1⟩ := hT.works hx
      have fewr : (ws.map (cellD o)).length ≤ 1000 := by
        have := hg.few
        rw [List.length_map]
        omega
      refine ⟨rfl, ?_⟩
      refine ⟨.ref a, rfl, a, rfl, ⟨_, Same.tup h.1 hS⟩, fun D2 hD2 => ?_⟩
      refine lc_tup (xs := xs) (fun j H2 => Grow K H' D2 (ws.map (cellD o)) j H2) (.zero hD2) (fun i H2 _ h2 => Same.tup (h.1.trans h2.1) hS) (fun j y H2 hy h2 => ?_) (fun H2 h2 => ?_)
      · obtain ⟨o2, c2, ho2, rfl, hc2⟩ := hT.works hy
        refine ⟨rfl, .ref c1, rfl, .ref c2, rfl, c1, c2, o, o2, rfl, Same.tup (h.1.trans h2.1) hc1, Same.tup (h.1.trans h2.1) hc2, hg.mem ho, hg.mem ho2, fun H3 p e3 np hp => ?_⟩
        refine h2.next hD2 fewr e3 (by rw [List.getElem?_map, ho2]; rfl) (.ofInts ?_)
        rw [← nV_eq]
        exact .of hp
      · obtain ⟨e2, acc, g1, g2⟩ := h2.done (by rw [List.length_map, hlen])
        refine ⟨D2, acc, rfl, .inl ⟨.of g1, fun l nl => ?_⟩⟩
        exact h.next hD hg.lt (e2.trans (same_new nl)) (by rw [List.getElem?_map, ho]; rfl) (.new nl g2)
    · obtain ⟨e2, acc, g1, g2⟩ := h.done (by rw [List.length_map, hlen])
      exact ⟨D, acc, rfl, .inl ⟨.of g1, fun l nl => q _ l (e2.trans (same_new nl)) (.new nl g2)⟩⟩
end
end Sg
set_option Elab.async false
set_option linter.all false
set_option maxRecDepth 100000
set_option maxHeartbeats 4000000
namespace Sg
open PySem PySem.Spec PyProof.Rows L2 StX
/-! ## the bars of a line, flat -/
theorem flatL_of {K : PySem.W.Frag} {H : Hp} {a : List Int} : ∀ {cells : List V} {ws : List (List Int)}, TpAll K H cells (ws.map (cellD a)) → FlatL K H cells ((rowB a ws).map V.int)
  | _, [], .no => .nil
  | _, b :: ws, .on t r => by
    obtain ⟨c, rfl, hs⟩ := t.toInts
    show FlatL K H _ ((nI (barsN a b) ++ rowB a ws).map V.int)
    rw [List.map_append]
    exact .cons hs (flatL_of r)
theorem flatR_of {K : PySem.W.Frag} {H : Hp} {vs : List (List Int)} : ∀ {rows : List V} {ws : List (List Int)}, TpAll K H rows (ws.map fun a => rowD a vs) → FlatR K H rows ((allB ws vs).map V.int)
  | _, [], .no => .nil
  | _, b :: ws, .on t r => by
    obtain ⟨c, xs, rfl, hs, ht⟩ := t.toTup
    show FlatR K H _ ((rowB b vs ++ allB ws vs).map V.int)
    rw [List.map_append]
    exact .cons hs (flatL_of ht) (flatR_of r)
theorem bars_le {a b : List Int} (h : IsWork a) : (nI (barsN a b)).length ≤ 60 := by
  rw [List.length_map]
  have := h.most
  exact Nat.le_trans (barsTo_len a b (a.length - 1)) (by omega)
theorem rowB_len {a : List Int} (h : IsWork a) : ∀ (ws : List (List Int)), (rowB a ws).length ≤ 60 * ws.length
  | [] => Nat.le_refl _
  | b :: ws => by
    show (nI (barsN a b) ++ rowB a ws).length ≤ _
    rw [List.length_append, List.length_cons]
    have := bars_le h (b := b)
    have := rowB_len h ws
    omega
theorem allB_len {vs : List (List Int)} : ∀ (ws : List (List Int)), (∀ w ∈ ws, IsWork w) → (allB ws vs).length ≤ 60 * vs.length * ws.length
  | [], _ => Nat.zero_le _
  | b :: ws, h => by
    show (rowB b vs ++ allB ws vs).length ≤ _
    rw [List.length_append, List.length_cons, Nat.mul_succ]
    have := rowB_len (h b List.mem_cons_self) vs
    have := allB_len (vs := vs) ws fun w hw => h w (List.mem_cons_of_mem _ hw)
    omega
theorem mem_allB {ws vs : List (List Int)} {x : Int} : x ∈ allB ws vs ↔ ∃ a ∈ ws, ∃ b ∈ vs, x ∈ nI (barsN a b) := by
  unfold allB rowB
  simp only [List.mem_flatMap]
theorem bar_pos {a b : List Int} {x : Int} (h : x ∈ nI (barsN a b)) : 1 ≤ x := by
  obtain ⟨d, hd, rfl⟩ := List.mem_map.mp h
  have := (List.mem_range'_1.mp (List.mem_filter.mp hd).1).1
  omega
theorem top_of {l : List Int} {m : Int} (hp : ∀ x ∈ l, 1 ≤ x) (h0 : l = [] → m = 0) (h1 : l ≠ [] → m ∈ l ∧ ∀ x ∈ l, x ≤ m) : Top l m := by
  by_cases z : l = []
  · have e := h0 z
    subst z
    exact ⟨by omega, fun x hx => (nomatch hx), .inl e⟩
  · obtain ⟨g1, g2⟩ := h1 z
    exact ⟨by have := hp _ g1; omega, g2, .inr g1⟩
section
variable {P : Program} {w : World} {K : PySem.W.Frag} {mg : Str → Option Value} {base : Heap}
/-! ### __init__ -/
def spInit (K : PySem.W.Frag) (C : Addr) : Sp := fun vs H Q _ => ∃ (x dx : Addr) (rest : List V) (ws : List (List Int)), vs = .ref x :: rest ∧ H x = some (.ins C dx []) ∧ TpAll K H rest (tDs ws) ∧ GoodL ws ∧
  ∀ H', (∀ b o, H b = some o → b ≠ x → H' b = some o) → LineAt K C H' x ws → Q .non H'
theorem ok_init {f f1 f2 C : Addr} {fd fd1 fd2 : FuncData} {k : Nat} (F : Fun K "__init__" "Line.__init__" s_Line_init f fd) (T : LC K mg C) (hM : ∃ t, mg "MOST_WORKS" = some (.int 3 t))
    (G1 : FnOk P w K mg base CX0 k f1 fd1 ["thing"] (spIsWork K)) (kp1 : PySem.W.keepIn K (.ref f1) = true) (b1 : Binds K fd1 ["thing"] []) (g1 : mg "is_work" = some (.ref f1))
    (G2 : FnOk P w K mg base CX0 k f2 fd2 ["works"] (spBarsAll K)) (kp2 : PySem.W.keepIn K (.ref f2) = true) (b2 : Binds K fd2 ["works"] []) (g2 : mg "_bars_of_all" = some (.ref f2))
    (m1 : mg "all" = none) (m2 : mg "len" = none) (m3 : mg "max" = none) : FnR P w K mg base CX0 (k + 1) f (spInit K C) := by
  obtain ⟨tM, nM⟩ := hM
  obtain ⟨oc, od, kV, doc, pm, an, cdv, ct, osl, rfl, lk, hcd⟩ := F.ex
  have R := fn_star (CX := CX0) (P := P) (w := w) (mg := mg) (base := base) (k := k) (ps := ["self"]) (pv := "works") (sp := fun vs H Q _ => ∃ (x dx p : Addr) (rest : List V) (ws : List (List Int)), vs = [.ref x, .ref p] ∧ H x = some (.ins C dx []) ∧ H p = some (.tup rest) ∧ TpAll K H rest (tDs ws) ∧ GoodL ws ∧
    ∀ H', (∀ b o, H b = some o → b ≠ x → H' b = some o) → LineAt K C H' x ws → Q .non H') lk hcd sc_Line_init cxUp_none (bind_star1 (B := fun us => bindArgs (PySem.W.fnOf "__init__" "Line.__init__" (defArgs s_Line_init) (defBody s_Line_init) (defScope s_Line_init) .none kV doc pm an cdv ct) ⟨us, []⟩) (fun _ => rfl) (fun _ _ _ => rfl)) ?_
  · refine R.imp fun vs H Q E h => ?_
    obtain ⟨x, dx, rest, ws, rfl, hx, hT, hg, q⟩ := h
    have hl := hT.len
    have := hg.few
    rw [List.length_map] at hl
    refine ⟨[.ref x], rest, rfl, rfl, Nat.le_of_lt (small1000 (by omega)), fun p np => ⟨x, dx, p, rest, ws, rfl, same_new np _ _ hx, upd_same, hT.stay (.of (same_new np)), hg, fun H' hk hL => q H' (fun b o e hb => hk b o (same_new np _ _ e) hb) hL⟩⟩
  · intro A outer s H vs Q E hr h
    obtain ⟨x, dx, p, rest, ws, rfl, hx, hp, hT, hg, q⟩ := h
    refine ⟨_, pss_cons (ps_if (PW.pt (pw_or (pt_not (pt_truth (pv 1) (fun _ => rfl))) (pw_or1 (pt_not (pt_val (pe_callB (cr_all rfl) (by rfl) m1 (by decide +kernel) (pa_cons
        (pe_lc (own := [("work", 2)]) (g := gName 2) (tt := tYes) rfl sc_Line_init.nd (pi_tup (pv 1)) (blkOk_by (N := ["self", "works", "work", "row", "pair", "bar"]) (sc := defScope s_Line_init) (by decide +kernel))
          (fun _ _ _ _ _ => pg_name (i := 2) sc_Line_init.nd rfl (Or.inl rfl)) (fun _ _ _ _ _ => pts_nil)
          (fun _ _ _ _ _ => pe_call G1 hr (by rfl) g1 kp1 b1 .nil pass0 (pa_cons (pv 2) pa_nil))) pa_nil))))))) (pss_one ps_never) pss_nil)
      (pss_cons (ps_if (pt_cmpR op_gt (pe_callB call_len_seq (by rfl) m2 PySem.boot_len (pa_cons (pv 1) pa_nil)) (pe_glob (v := .int 3) (by rfl) nM ⟨_, rfl⟩) (nomark _)) (pss_one ps_never) pss_nil)
      (pss_cons (ps_fld (pv 0) (pv 1) rfl)
      (pss_cons (ps_fld (pv 0) (pe_call G2 hr (by rfl) g2 kp2 b2 .nil pass0 (pa_cons (pv 1) pa_nil)) rfl)
      (pss_one (ps_fld (pv 0) (pe_callBK (cr_maxD rfl hr) (by rfl) m3 (by decide +kernel) (pa_cons (pe_flat (k1 := 3) (k2 := 4) (k3 := 5) (own := [("row", 3), ("pair", 4), ("bar", 5)]) rfl sc_Line_init.nd (pe_fld (pv 0) rfl)
          (blkOk_by (N := ["self", "works", "work", "row", "pair", "bar"]) (sc := defScope s_Line_init) (by decide +kernel)) rfl rfl rfl (fun _ _ => rfl) (fun _ _ => rfl) (fun _ _ => rfl)) pa_nil) (pk_cons pe_int pk_nil)) rfl))))), ?_⟩
    have hl := hT.len
    rw [List.length_map] at hl
    have hp' : SqT K H p rest := .of hp
    have hemp : (!rest.isEmpty) = true := by
      have := hg.least
      cases rest with
      | nil => rw [← hl] at this; exact absurd this (by decide)
      | cons => rfl
    refine ⟨.ref p, rfl, !rest.isEmpty, .inr (.inl ⟨rest, hp', rfl⟩), ?_⟩
    rw [hemp]
    refine iteF ?_
    refine ⟨.ref p, rfl, p, rfl, ⟨_, hp'⟩, fun D hD => ?_⟩
    refine lc_tup (xs := rest) (fun i H' => Same H H' ∧ H' D = some (.lst (((List.replicate i true)).map V.bl))) ⟨same_new hD, upd_same⟩ (fun i H' _ h => Same.tup h.1 hp') (fun i y H' hy h => ?_) (fun H' h => ?_)
    · obtain ⟨w1, c, hw, rfl, hc⟩ := hT.works hy
      refine ⟨rfl, .ref c, rfl, c, w1, rfl, Same.tup h.1 hc, hg.mem hw, fun H2 e2 => ?_⟩
      refine ⟨_, e2 _ _ h.2, ?_, fun b o e => ?_, ?_⟩
      · rw [List.length_map, List.length_replicate]
        have := hg.few
        have := (List.getElem?_eq_some_iff.mp hw).1
        exact small1000 (by omega)
      · rw [upd_ne (ne_of_none e hD)]
        exact e2 _ _ (h.1 _ _ e)
      · rw [upd_same, List.replicate_succ', List.map_append]
        rfl
    · have hall : (List.replicate rest.length true).all id = true := by simp
      refine ⟨D, _, rfl, .of h.2, true, congrArg V.bl hall, iteF ?_⟩
      have hpH : SqT K H' p rest := Same.tup h.1 hp'
      refine ⟨.ref p, rfl, p, rest, rfl, .inr hpH, _, 3, rfl, rfl, _, rfl, ?_⟩
      have c3 : decide ((((rest.length : Nat) : Int)) > 3) = false := decide_eq_false (by have := hg.few; omega)
      rw [c3]
      refine iteF ?_
      have hx1 := h.1 _ _ hx
      refine ⟨.ref p, rfl, .ref x, rfl, x, C, dx, [], rfl, hx1, T.cl, T.nW, (by show 0 < 1000; decide), ?_⟩
      have hW1 : Tp K H' (.ref p) (.tuple (tDs ws)) := .tu hpH (hT.stay (.of h.1))
      have hW2 := hW1.stayT (tu_ins hx1 (o := .ins C dx (putF "_works" (.ref p) [])))
      generalize hH2 : upd H' x (.ins C dx (putF "_works" (.ref p) [])) = H2 at hW2 ⊢
      have hx2 : H2 x = some (.ins C dx (putF "_works" (.ref p) [])) := by rw [← hH2]; exact upd_same
      refine ⟨.ref p, rfl, p, ws, rfl, hW2, hg, fun H3 b e3 hb => ?_⟩
      have hx3 := e3 _ _ hx2
      refine ⟨.ref x, rfl, x, C, dx, _, rfl, hx3, T.cl, T.nB, (by show 1 < 1000; decide), ?_⟩
      have hW4 := (hW2.stay (.of e3)).stayT (tu_ins hx3 (o := .ins C dx (putF "_bars" (.ref b) (putF "_works" (.ref p) []))))
      have hB4 := hb.stayT (tu_ins hx3 (o := .ins C dx (putF "_bars" (.ref b) (putF "_works" (.ref p) []))))
      generalize hH4 : upd H3 x (.ins C dx (putF "_bars" (.ref b) (putF "_works" (.ref p) []))) = H4 at hW4 hB4 ⊢
      have hx4 : H4 x = some (.ins C dx (putF "_bars" (.ref b) (putF "_works" (.ref p) []))) := by rw [← hH4]; exact upd_same
      obtain ⟨b', rows, eb, hbS, hbT⟩ := hB4.toTup
      cases eb
      have lb : (putF "_bars" (.ref b) (putF "_works" (.ref p) [])).lookup ("_bars" : Str) = some (.ref b) := by rw [lookup_putF, if_pos rfl]
      have lenB : ((allB ws ws).map V.int).length ≤ 1000000 := by
        rw [List.length_map]
        have z := allB_len (vs := ws) ws hg.work
        have := hg.few
        have z2 : 60 * ws.length * ws.length ≤ 60 * 3 * 3 := Nat.mul_le_mul (Nat.mul_le_mul (Nat.le_refl _) this) this
        omega
      refine ⟨.ref x, rfl, x, C, dx, _, _, rfl, hx4, T.cl, T.nB, lb, b, rows, _, rfl, hbS, flatR_of hbT, lenB, fun D2 nD2 => ?_⟩
      have s5 : Same H4 (upd H4 D2 (.lst ((allB ws ws).map V.int))) := same_new nD2
      refine ⟨D2, allB ws ws, 0, rfl, rfl, .of upd_same, fun m h0 h1 => ?_⟩
      have hx5 := s5 _ _ hx4
      refine ⟨.ref x, rfl, x, C, dx, _, rfl, hx5, T.cl, T.nR, (by show 2 < 1000; decide), ?_⟩
      have hW6 := (hW4.stay (.of s5)).stayT (tu_ins hx5 (o := .ins C dx (lf p b m)))
      have hB6 := (hB4.stay (.of s5)).stayT (tu_ins hx5 (o := .ins C dx (lf p b m)))
      refine q _ (fun c o e hc => ?_) ⟨dx, p, b, m, upd_same, hW6, hB6, top_of (fun y hy => ?_) h0 h1, hg⟩
      · rw [upd_ne hc]
        refine s5 _ _ ?_
        rw [← hH4, upd_ne hc]
        refine e3 _ _ ?_
        rw [← hH2, upd_ne hc]
        exact h.1 _ _ e
      · obtain ⟨_, _, _, _, z⟩ := mem_allB.mp hy
        exact bar_pos z
end
end Sg
set_option Elab.async false
set_option linter.all false
set_option maxRecDepth 100000
set_option maxHeartbeats 4000000
namespace Sg
open PySem PySem.Spec PyProof.Rows L2 StX
/-! ## a Line is made -/
theorem make_line {K : PySem.W.Frag} {C : Addr} {H1 : Hp} {vs : List V} {ws : List (List Int)} {Q : VK} (hT : TpAll K H1 vs (tDs ws)) (hg : GoodL ws)
    (q : ∀ H' a, Same H1 H' → H1 a = none → LineAt K C H' a ws → Q (.ref a) H') :
    ∀ x dx, H1 x = none → H1 dx = none → dx ≠ x → spInit K C (V.ref x :: vs) (upd (upd H1 dx (.own x)) x (.ins C dx [])) (fun v H2 => v = .non ∧ Q (.ref x) H2) E0 := by
  intro x dx nx ndx ne
  have s0 : Same H1 (upd (upd H1 dx (.own x)) x (.ins C dx [])) := fun b o e => by
    rw [upd_ne (ne_of_none e nx), upd_ne (ne_of_none e ndx)]
    exact e
  exact ⟨x, dx, vs, ws, rfl, upd_same, hT.stay (.of s0), hg, fun H' hk hL => ⟨rfl, q H' x (fun b o e => hk b o (s0 b o e) (ne_of_none e nx)) nx hL⟩⟩
/-- C(*e) -/
theorem pe_makeS {X : Cx} {CX : CXT} {k : Nat} {f C : Addr} {sp : Sp} {E : XK} {x : Str} {e : Expr} {te : TE} {p pos sp_ : Pos} (M : Mk X.K C f) (F : FnR X.prog X.w X.K X.mg X.base CX k f sp) (hr : Room (k + 1) X.A)
    (hg : Gl X x) (hm : X.mg x = some (.ref C)) (hx : Passes CX X E) (he : PE X e te) (hd : (x == ("__debug__" : Str)) = false := by decide) (hst : starEach [.Starred e sp_] X.env = [(true, eval e X.env)] := by rfl) :
    PE X (.Call (.Name x p) [.Starred e sp_] [] pos) (fun σ H Q => te σ H fun y H1 => ∃ a xs, y = V.ref a ∧ (SqT X.K H1 a xs ∨ SqL X.K H1 a xs) ∧
      ∀ z dz, H1 z = none → H1 dz = none → dz ≠ z → sp (V.ref z :: xs) (upd (upd H1 dz (.own z)) z (.ins C dz [])) (fun v H2 => v = .non ∧ Q (.ref z) H2) E) := by
  refine ⟨fun pins s σ H Q I h => wpAny_Call_Name_kw (ld_glob I hg hm ?_ hd)⟩
  refine PySem.W.callWith_S (h₀ := X.base) I.ok.mod.kin M.kp (thn (he.run pins s σ H _ I h) fun v s1 ⟨y, H1, I1, ry, a, xs, ey, hxs, q⟩ => ?_) hst
  subst ey
  obtain rfl : v = Value.ref a := ry
  exact star_any I1 hxs fun us s2 I2 rv => ⟨I2.kIn, run_makeR M F hr hx I2 rv q⟩
theorem GoodL.back {ws : List (List Int)} (h : GoodL ws) : GoodL (ws.map List.reverse) := by
  refine ⟨by rw [List.length_map]; exact h.least, by rw [List.length_map]; exact h.few, fun w hw => ?_⟩
  obtain ⟨v, hv, rfl⟩ := List.mem_map.mp hw
  have i := h.work v hv
  refine ⟨by rw [List.length_reverse]; exact i.pos, by rw [List.length_reverse]; exact i.most, fun x hx => i.items x (List.mem_reverse.mp hx), fun x hx => ?_, fun x hx => ?_⟩
  · have := i.pos
    rw [List.getElem?_reverse (by omega)] at hx
    exact i.last x (by rw [← hx]; congr 1)
  · have := i.pos
    rw [List.length_reverse, List.getElem?_reverse (by omega)] at hx
    exact i.head x (by rw [← hx]; congr 1; omega)
theorem cut_upto (xs : List V) (d : Nat) : cutV xs none (some (d : Int)) = xs.take d := by
  unfold cutV
  rw [HT.sIx_nat, HT.sIx_none, List.drop_zero, Nat.sub_zero]
  rcases Nat.le_total d xs.length with h | h
  · rw [Nat.min_eq_left h]
  · rw [Nat.min_eq_right h, List.take_of_length_le h, List.take_length]
end Sg
set_option Elab.async false
set_option linter.all false
set_option maxRecDepth 100000
set_option maxHeartbeats 4000000
namespace Sg
open PySem PySem.Spec PyProof.Rows L2 StX
/-- what isinstance asks of the class -/
structure LI (K : PySem.W.Frag) (C : Addr) : Prop where
  ha : PySem.W.findIn K (.ref C) "__class__" = some (some (.builtin "object.__class__"))
  hn : PySem.W.specialIn K (.builtin "object.__class__") "__get__" = some (some (.builtin "getset_descriptor.__get__"))
  ht : PySem.W.takesIn K (.builtin "object.__class__") = some true
  hm : PySem.W.mroIn K C (.type "object") = some true
  kit : PySem.W.kitOne K (.ref C) (.ref C) = some true
section
variable {P : Program} {w : World} {K : PySem.W.Frag} {mg : Str → Option Value} {base : Heap}
theorem isLine {C a : Addr} {H : Hp} {ws : List (List Int)} (c : Cls K C) (T : LI K C) (h : LineAt K C H a ws) : TyX K H (.ref a) (.ref C) := by
  obtain ⟨dx, t, b, r, h1, _⟩ := h
  exact .base (.ins h1 c T.ha T.hn T.ht T.hm)
/-! ### line(one, other) -/
def spCall (K : PySem.W.Frag) (C : Addr) : Sp := fun vs H Q _ => ∃ (a : Addr) (ws : List (List Int)) (i j : Nat) (x y : List Int), vs = [.ref a, .int i, .int j] ∧ LineAt K C H a ws ∧ ws[i]? = some x ∧ ws[j]? = some y ∧
  ∀ c, SqT K H c (nV (barsN x y)) → Q (.ref c) H
theorem ok_call {f f1 C : Addr} {fd fd1 : FuncData} {k : Nat} (F : Fun K "__call__" "Line.__call__" s_Line_call f fd) (T : LC K mg C)
    (G1 : FnOk P w K mg base CX0 k f1 fd1 ["line", "thing"] (spReqKind K C)) (kp1 : PySem.W.keepIn K (.ref f1) = true) (b1 : Binds K fd1 ["line", "thing"] []) (g1 : mg "require_kind" = some (.ref f1)) :
    FnOk P w K mg base CX0 (k + 1) f fd ["self", "one", "other"] (spCall K C) := by
  refine F.ok sc_Line_call (fun vs H Q E h => ?_) (fun cdv A outer s H vs Q E hr h => ?_)
  · obtain ⟨a, ws, i, j, x, y, rfl, _⟩ := h; rfl
  · obtain ⟨a, ws, i, j, x, y, rfl, hL, hx, hy, q⟩ := h
    refine ⟨_, pss_cons (ps_expr (pe_call G1 hr (by rfl) g1 kp1 b1 .nil pass0 (pa_cons (pv 0) (pa_cons (pv 1) pa_nil))))
      (pss_cons (ps_expr (pe_call G1 hr (by rfl) g1 kp1 b1 .nil pass0 (pa_cons (pv 0) (pa_cons (pv 2) pa_nil))))
      (pss_one (ps_ret (pe_ix ix_tup (pe_ix ix_tup (pe_fld (pv 0) rfl) (pv 1) (fun _ _ => rfl)) (pv 2) (fun _ _ => rfl))))), ?_⟩
    have hi := (List.getElem?_eq_some_iff.mp hx).1
    have hj := (List.getElem?_eq_some_iff.mp hy).1
    refine ⟨.ref a, rfl, .int i, rfl, a, ws, i, rfl, hL, hi, .ref a, rfl, .int j, rfl, a, ws, j, rfl, hL, hj, ?_⟩
    obtain ⟨dx, t, b, r, h1, h2, h3, h4, h5⟩ := hL
    obtain ⟨b', rows, eb, hS, hT⟩ := h3.toTup
    cases eb
    have lr := hT.len
    rw [List.length_map] at lr
    obtain ⟨ro, hro⟩ : ∃ ro, rows[i]? = some ro := ⟨rows[i]'(by omega), List.getElem?_eq_getElem _⟩
    obtain ⟨d, hd, tr⟩ := hT.at hro
    rw [List.getElem?_map, hx] at hd
    cases hd
    obtain ⟨b2, cells, rfl, hS2, hT2⟩ := tr.toTup
    have lc := hT2.len
    rw [List.length_map] at lc
    obtain ⟨ce, hce⟩ : ∃ ce, cells[j]? = some ce := ⟨cells[j]'(by omega), List.getElem?_eq_getElem _⟩
    obtain ⟨d, hd, tc⟩ := hT2.at hce
    rw [List.getElem?_map, hy] at hd
    cases hd
    obtain ⟨c, rfl, hc⟩ := tc.toInts
    refine ⟨.ref a, rfl, a, C, dx, _, _, rfl, h1, T.cl, T.nB, lf_bars _ _ _, .int i, rfl, b, rows, i, .ref b2, rfl, rfl, hS, atI_nat hro, ?_⟩
    refine ⟨.int j, rfl, b2, cells, j, .ref c, rfl, rfl, hS2, atI_nat hce, q c ?_⟩
    rw [nV_eq]
    exact hc
/-! ### one == other -/
def spEq (K : PySem.W.Frag) (C : Addr) : Sp := fun vs H Q _ => ∃ (a b : Addr) (ws us : List (List Int)), vs = [.ref a, .ref b] ∧ LineAt K C H a ws ∧ LineAt K C H b us ∧ Q (.bl (decide (ws = us))) H
theorem ok_eq {f C : Addr} {fd : FuncData} {k : Nat} (F : Fun K "__eq__" "Line.__eq__" s_Line_eq f fd) (T : LC K mg C) (I : LI K C) (m1 : mg "isinstance" = none) :
    FnOk P w K mg base CX0 (k + 1) f fd ["self", "other"] (spEq K C) := by
  refine F.ok sc_Line_eq (fun vs H Q E h => ?_) (fun cdv A outer s H vs Q E hr h => ?_)
  · obtain ⟨a, b, ws, us, rfl, _⟩ := h; rfl
  · obtain ⟨a, b, ws, us, rfl, hL, hR, q⟩ := h
    have hu := hr.units
    refine ⟨_, pss_one (ps_ret (pe_and (pe_callB call_isi (by rfl) m1 (by decide +kernel) (pa_cons (pv 1) (pa_cons (pe_glob (v := .ref C) (by rfl) T.mgC rfl) pa_nil)))
      (pe_one (pe_cmpR (op_eqD hu) (pe_fld (pv 0) rfl) (pe_fld (pv 1) rfl) (nomark _))))), ?_⟩
    refine ⟨.ref b, rfl, .ref b, .ref C, .ref C, .ref C, true, rfl, .own C, isLine T.cl I hR, I.kit, ?_⟩
    obtain ⟨dx, t, b1, r, h1, h2, h3, h4, h5⟩ := hL
    obtain ⟨dx', t', b1', r', h1', h2', h3', h4', h5'⟩ := hR
    refine ⟨true, rfl, iteT ?_⟩
    refine ⟨.ref a, rfl, a, C, dx, _, _, rfl, h1, T.cl, T.nW, lf_works _ _ _, .ref b, rfl, b, C, dx', _, _, rfl, h1', T.cl, T.nW, lf_works _ _ _, _, _, h2.dp, h2'.dp, shaped_tDs _, shaped_tDs _, ?_⟩
    rw [show PyData.eqv (.tuple (tDs ws)) (.tuple (tDs us)) = decide (ws = us) from by rw [PyData.eqv, eqv_tDs]]
    exact q
end
end Sg
set_option Elab.async false
set_option linter.all false
set_option maxRecDepth 100000
set_option maxHeartbeats 4000000
namespace Sg
open PySem PySem.Spec PyProof.Rows L2 StX
section
variable {P : Program} {w : World} {K : PySem.W.Frag} {mg : Str → Option Value} {base : Heap}
theorem GoodL.plus {ws us : List (List Int)} (h : GoodL ws) (g : GoodL us) (hl : ws.length + us.length ≤ 3) : GoodL (ws ++ us) := by
  refine ⟨by have := h.least; rw [List.length_append]; omega, by rw [List.length_append]; exact hl, fun w hw => ?_⟩
  rcases List.mem_append.mp hw with z | z
  · exact h.work w z
  · exact g.work w z
theorem GoodL.less {ws : List (List Int)} (h : GoodL ws) {i : Nat} (hi : i < ws.length) (h2 : 2 ≤ ws.length) : GoodL (ws.take i ++ ws.drop (i + 1)) := by
  have := h.few
  refine ⟨by rw [List.length_append, List.length_take, List.length_drop]; omega, by rw [List.length_append, List.length_take, List.length_drop]; omega, fun w hw => ?_⟩
  rcases List.mem_append.mp hw with z | z
  · exact h.work w (List.mem_of_mem_take z)
  · exact h.work w (List.mem_of_mem_drop z)
/-! ### one + other -/
def spAdd (K : PySem.W.Frag) (C : Addr) : Sp := fun vs H Q _ => ∃ (a b : Addr) (ws us : List (List Int)), vs = [.ref a, .ref b] ∧ LineAt K C H a ws ∧ LineAt K C H b us ∧ ws.length + us.length ≤ 3 ∧
  ∀ H' x, Same H H' → H x = none → LineAt K C H' x (ws ++ us) → Q (.ref x) H'
theorem ok_add {f f1 C : Addr} {fd : FuncData} {k : Nat} (F : Fun K "__add__" "Line.__add__" s_Line_add f fd) (T : LC K mg C) (I : LI K C) (M : Mk K C f1) (G : FnR P w K mg base CX0 k f1 (spInit K C)) (m1 : mg "isinstance" = none) :
    FnOk P w K mg base CX0 (k + 2) f fd ["self", "other"] (spAdd K C) := by
  refine F.ok sc_Line_add (fun vs H Q E h => ?_) (fun cdv A outer s H vs Q E hr h => ?_)
  · obtain ⟨a, b, ws, us, rfl, _⟩ := h; rfl
  · obtain ⟨a, b, ws, us, rfl, hL, hR, hl, q⟩ := h
    refine ⟨_, pss_cons (ps_if (pt_not (pt_val (pe_callB call_isi (by rfl) m1 (by decide +kernel) (pa_cons (pv 1) (pa_cons (pe_glob (v := .ref C) (by rfl) T.mgC rfl) pa_nil))))) (pss_one ps_never) pss_nil)
      (pss_cons (ps_set (i := 2) sc_Line_add.nd rfl (Or.inl rfl) (pe_op op_catA (pe_fld (pv 0) rfl) (pe_fld (pv 1) rfl)))
      (pss_one (ps_ret (pe_makeS M G hr (by rfl) T.mgC pass0 (pv 2))))), ?_⟩
    refine ⟨.ref b, rfl, .ref b, .ref C, .ref C, .ref C, true, rfl, .own C, isLine T.cl I hR, I.kit, true, rfl, iteF ?_⟩
    obtain ⟨dx, t, b1, r, h1, h2, h3, h4, h5⟩ := id hL
    obtain ⟨dx', t', b1', r', h1', h2', h3', h4', h5'⟩ := id hR
    obtain ⟨_, xs, e, hS, hT⟩ := h2.toTup
    cases e
    obtain ⟨_, ys, e, hS', hT'⟩ := h2'.toTup
    cases e
    have l1 := hT.len
    have l2 := hT'.len
    rw [List.length_map] at l1 l2
    have p1 := h5.least
    have p2 := h5'.least
    refine ⟨.ref a, rfl, a, C, dx, _, _, rfl, h1, T.cl, T.nW, lf_works _ _ _, .ref b, rfl, b, C, dx', _, _, rfl, h1', T.cl, T.nW, lf_works _ _ _, t, t', xs, ys, rfl, rfl, hS, hS', Nat.le_of_lt (small1000 (by omega)),
      (fun z => ?_), (fun _ z => ?_), (fun _ _ p np => ?_)⟩
    · rw [z] at l1; rw [← l1] at p1; exact absurd p1 (by decide)
    · rw [z] at l2; rw [← l2] at p2; exact absurd p2 (by decide)
    · refine ⟨.ref p, rfl, p, xs ++ ys, rfl, .inl (.of upd_same), ?_⟩
      have st : St K H (upd H p (.tup (xs ++ ys))) := .of (same_new np)
      refine make_line (ws := ws ++ us) ?_ (h5.plus h5' hl) (fun H' x e3 nx hLx => ?_)
      · have z := (hT.stay st).add (hT'.stay st)
        rw [← List.map_append] at z
        exact z
      · exact q H' x ((same_new np).trans e3) (Same.free (same_new np) nx) hLx
/-! ### line - kind -/
def spSub (K : PySem.W.Frag) (C : Addr) : Sp := fun vs H Q _ => ∃ (a : Addr) (ws : List (List Int)) (i : Nat), vs = [.ref a, .int i] ∧ LineAt K C H a ws ∧ i < ws.length ∧ 2 ≤ ws.length ∧
  ∀ H' x, Same H H' → H x = none → LineAt K C H' x (ws.take i ++ ws.drop (i + 1)) → Q (.ref x) H'
theorem ok_sub {f f1 f2 C : Addr} {fd fd2 : FuncData} {k : Nat} (F : Fun K "__sub__" "Line.__sub__" s_Line_sub f fd) (T : LC K mg C) (M : Mk K C f1) (G : FnR P w K mg base CX0 k f1 (spInit K C))
    (G2 : FnOk P w K mg base CX0 k f2 fd2 ["line", "thing"] (spReqKind K C)) (kp2 : PySem.W.keepIn K (.ref f2) = true) (b2 : Binds K fd2 ["line", "thing"] []) (g2 : mg "require_kind" = some (.ref f2)) (m1 : mg "len" = none) :
    FnOk P w K mg base CX0 (k + 2) f fd ["self", "other"] (spSub K C) := by
  refine F.ok sc_Line_sub (fun vs H Q E h => ?_) (fun cdv A outer s H vs Q E hr h => ?_)
  · obtain ⟨a, ws, i, rfl, _⟩ := h; rfl
  · obtain ⟨a, ws, i, rfl, hL, hi, h2w, q⟩ := h
    refine ⟨_, pss_cons (ps_expr (pe_call G2 (hr.mono (Nat.le_succ k)) (by rfl) g2 kp2 b2 .nil pass0 (pa_cons (pv 0) (pa_cons (pv 1) pa_nil))))
      (pss_cons (ps_if (pt_cmpR op_eq (pe_callB call_len_seq (by rfl) m1 PySem.boot_len (pa_cons (pe_fld (pv 0) rfl) pa_nil)) pe_int (nomark _)) (pss_one ps_never) pss_nil)
      (pss_cons (ps_set (i := 2) sc_Line_sub.nd rfl (Or.inl rfl) (pe_op op_catA (pe_slice sl_tup (pe_fld (pv 0) rfl) po_none (po_some (pv 1))) (pe_slice sl_tup (pe_fld (pv 0) rfl) (po_some (pe_op op_add (pv 1) pe_int)) po_none)))
      (pss_one (ps_ret (pe_makeS M G hr (by rfl) T.mgC pass0 (pv 2)))))), ?_⟩
    refine ⟨.ref a, rfl, .int i, rfl, a, ws, i, rfl, hL, hi, ?_⟩
    obtain ⟨dx, t, b1, r, h1, h2, h3, h4, h5⟩ := id hL
    obtain ⟨_, xs, e, hS, hT⟩ := h2.toTup
    cases e
    have l1 := hT.len
    rw [List.length_map] at l1
    have few := h5.few
    refine ⟨.ref a, rfl, a, C, dx, _, _, rfl, h1, T.cl, T.nW, lf_works _ _ _, t, xs, rfl, .inr hS, rfl, ?_⟩
    have c1 : decide (V.int ((xs.length : Nat) : Int) = V.int 1) = false := decide_eq_false fun z => by have := V.int.inj z; omega
    rw [c1]
    refine ⟨false, rfl, iteF ?_⟩
    have w1 : ¬ (HT.sIx xs.length 0 none = 0 ∧ HT.sIx xs.length xs.length (some (i : Int)) = xs.length) := by
      rintro ⟨_, z⟩
      rw [HT.sIx_nat] at z
      omega
    refine ⟨.ref a, rfl, a, C, dx, _, _, rfl, h1, T.cl, T.nW, lf_works _ _ _, .int i, rfl, i, rfl, t, xs, rfl, hS, w1, fun p np => ?_⟩
    have s1 : Same H (upd H p (.tup (cutV xs none (some (i : Int))))) := same_new np
    have e1 : ((i : Int) + 1) = ((i + 1 : Nat) : Int) := by omega
    have w2 : ¬ (HT.sIx xs.length 0 (some ((i : Int) + 1)) = 0 ∧ HT.sIx xs.length xs.length none = xs.length) := by
      rintro ⟨z, _⟩
      rw [e1, HT.sIx_nat] at z
      omega
    have hp1 : (upd H p (.tup (cutV xs none (some (i : Int))))) p = some (.tup (xs.take i)) := by rw [upd_same, cut_upto]
    generalize hH1 : upd H p (.tup (cutV xs none (some (i : Int)))) = H1 at s1 hp1 ⊢
    refine ⟨.ref a, rfl, a, C, dx, _, _, rfl, s1 _ _ h1, T.cl, T.nW, lf_works _ _ _, .int i, rfl, i, 1, rfl, rfl, (i : Int) + 1, rfl, t, xs, rfl, Same.tup s1 hS, w2, fun p2 np2 => ?_⟩
    have s2 : Same H1 (upd H1 p2 (.tup (cutV xs (some ((i : Int) + 1)) none))) := same_new np2
    have hp2 : (upd H1 p2 (.tup (cutV xs (some ((i : Int) + 1)) none))) p2 = some (.tup (xs.drop (i + 1))) := by rw [upd_same, e1, cut_from]
    generalize hH2 : upd H1 p2 (.tup (cutV xs (some ((i : Int) + 1)) none)) = H2 at s2 hp2 ⊢
    have hp1' := s2 _ _ hp1
    have s12 := s1.trans s2
    have tt : TpAll K H (xs.take i ++ xs.drop (i + 1)) (tDs (ws.take i ++ ws.drop (i + 1))) := by
      have z := (hT.cut i).add (hT.off (i + 1))
      rw [← List.map_take, ← List.map_drop, ← List.map_append] at z
      exact z
    have fin : ∀ (H3 : Hp) (l : Addr), Same H H3 → SqT K H3 l (xs.take i ++ xs.drop (i + 1)) →
        ∃ a' xs', V.ref l = V.ref a' ∧ (SqT K H3 a' xs' ∨ SqL K H3 a' xs') ∧ ∀ z dz, H3 z = none → H3 dz = none → dz ≠ z → spInit K C (V.ref z :: xs') (upd (upd H3 dz (.own z)) z (.ins C dz [])) (fun v H2 => v = .non ∧ Q (.ref z) H2) E0 := by
      intro H3 l e3 hl
      refine ⟨l, _, rfl, .inl hl, make_line (ws := ws.take i ++ ws.drop (i + 1)) (tt.stay (.of e3)) (h5.less hi h2w) fun H' x e4 nx hLx => q H' x (e3.trans e4) (Same.free e3 nx) hLx⟩
    have len2 : (xs.take i).length + (xs.drop (i + 1)).length ≤ sizeLine := by
      rw [List.length_take, List.length_drop]
      exact Nat.le_of_lt (small1000 (by omega))
    refine ⟨p, p2, _, _, rfl, rfl, .of hp1', .of hp2, len2, (fun z => ?_), (fun _ z => ?_), (fun _ _ p3 np3 => ?_)⟩
    · refine ⟨.ref p2, rfl, fin H2 p2 s12 ?_⟩
      rw [z, List.nil_append]
      exact .of hp2
    · refine ⟨.ref p, rfl, fin H2 p s12 ?_⟩
      rw [z, List.append_nil]
      exact .of hp1'
    · exact ⟨.ref p3, rfl, fin _ p3 (s12.trans (same_new np3)) (.of upd_same)⟩
/-! ### -line -/
def spNeg (K : PySem.W.Frag) (C : Addr) : Sp := fun vs H Q _ => ∃ (a : Addr) (ws : List (List Int)), vs = [.ref a] ∧ LineAt K C H a ws ∧
  ∀ H' x, Same H H' → H x = none → LineAt K C H' x (ws.map List.reverse) → Q (.ref x) H'
theorem ok_neg {f f1 C : Addr} {fd : FuncData} {k : Nat} (F : Fun K "__neg__" "Line.__neg__" s_Line_neg f fd) (T : LC K mg C) (M : Mk K C f1) (G : FnR P w K mg base CX0 k f1 (spInit K C)) :
    FnOk P w K mg base CX0 (k + 2) f fd ["self"] (spNeg K C) := by
  refine F.ok sc_Line_neg (fun vs H Q E h => ?_) (fun cdv A outer s H vs Q E hr h => ?_)
  · obtain ⟨a, ws, rfl, _⟩ := h; rfl
  · obtain ⟨a, ws, rfl, hL, q⟩ := h
    refine ⟨_, pss_cons (ps_setLc (i := 1) (own := [("work", 2)]) (g := gName 2) (tt := tYes) rfl sc_Line_neg.nd rfl rfl (sw_true rfl rfl rfl (by decide +kernel)) (pi_tup (pe_fld (pv 0) rfl))
          (blkOk_by (N := ["self", "works", "work"]) (sc := defScope s_Line_neg) (by decide +kernel))
          (fun _ _ _ _ _ => pg_name (i := 2) sc_Line_neg.nd rfl (Or.inl rfl)) (fun _ _ _ _ _ => pts_nil) (fun _ _ _ _ _ => pe_revT (K := K) rfl (pv 2)))
      (pss_one (ps_ret (pe_makeS M G hr (by rfl) T.mgC pass0 (pv 1)))), ?_⟩
    obtain ⟨dx, t, b1, r, h1, h2, h3, h4, h5⟩ := id hL
    obtain ⟨_, xs, e, hS, hT⟩ := h2.toTup
    cases e
    have l1 := hT.len
    rw [List.length_map] at l1
    have few := h5.few
    have lz : (tDs (ws.map List.reverse)).length ≤ 1000 := by rw [List.length_map, List.length_map]; omega
    refine ⟨.ref a, rfl, a, C, dx, _, _, rfl, h1, T.cl, T.nW, lf_works _ _ _, t, rfl, ⟨_, hS⟩, fun D hD => ?_⟩
    refine lc_tup (xs := xs) (fun i H' => Grow K H D (tDs (ws.map List.reverse)) i H') (.zero hD) (fun i H' _ h => Same.tup h.1 hS) (fun i x H' hx h => ?_) (fun H' h => ?_)
    · obtain ⟨o, c1, ho, rfl, hc1⟩ := hT.works hx
      refine ⟨rfl, .ref c1, rfl, c1, _, rfl, Same.tup h.1 hc1, fun p np => ?_⟩
      refine h.next hD lz (same_new np) (d := tD o.reverse) (by rw [List.getElem?_map, List.getElem?_map, ho]; rfl) (.ofInts ?_)
      rw [List.map_reverse]
      exact .of upd_same
    · obtain ⟨e2, acc, g1, g2⟩ := h.done (by rw [List.length_map, List.length_map, l1])
      exact ⟨.ref D, rfl, D, acc, rfl, .inr (.of g1), make_line (ws := ws.map List.reverse) g2 h5.back fun H3 x e3 nx hLx => q H3 x (e2.trans e3) (Same.free e2 nx) hLx⟩
end
end Sg
set_option Elab.async false
set_option linter.all false
set_option maxRecDepth 100000
set_option maxHeartbeats 4000000
namespace Sg
open PySem PySem.Spec PyProof.Rows L2 StX
/-- what a class has under a name: a def that keeps sp -/
structure Has (P : Program) (w : World) (K : PySem.W.Frag) (mg : Str → Option Value) (base : Heap) (k : Nat) (C : Addr) (n : Str) (f : Addr) (fd : FuncData) (ps : List Str) (sp : Sp) : Prop where
  ok : FnOk P w K mg base CX0 k f fd ps sp
  bi : Binds K fd ps []
  at_ : PySem.W.findIn K (.ref C) n = some (some (.ref f))
  fn : PySem.W.isFn K (.ref f) = true
/-- what the operators ask of the class beside their defs -/
structure Ops (K : PySem.W.Frag) (C : Addr) : Prop where
  sf : PySem.W.selfFirst K C = true
  rs : ∃ rc, PySem.W.findIn K (.ref C) "__rsub__" = some rc ∧ (rc = none ∨ ∃ g : Addr, rc = some (.ref g))
  is : ∃ fo, PySem.W.findIn K (.type "int") "__sub__" = some fo
  ir : ∃ ro, PySem.W.findIn K (.type "int") "__rsub__" = some ro
  nsub : PySem.W.subIn K (.type "int") (.ref C) = some false
  ne : PySem.W.findIn K (.ref C) "__ne__" = some (some (.builtin "object.__ne__"))
  ob : PySem.W.subIn K (.ref C) (.type "object") = some true
/-- Line's methods, as they are promised -/
structure Meths (P : Program) (w : World) (K : PySem.W.Frag) (mg : Str → Option Value) (base : Heap) (k : Nat) (C : Addr) : Prop where
  lc : LC K mg C
  li : LI K C
  op : Ops K C
  len : ∃ f fd, Has P w K mg base k C "__len__" f fd ["self"] (spLen K C)
  call : ∃ f fd, Has P w K mg base k C "__call__" f fd ["self", "one", "other"] (spCall K C) ∧ PySem.W.fnIn K f = true
  add : ∃ f fd, Has P w K mg base k C "__add__" f fd ["self", "other"] (spAdd K C)
  sub : ∃ f fd, Has P w K mg base k C "__sub__" f fd ["self", "other"] (spSub K C)
  neg : ∃ f fd, Has P w K mg base k C "__neg__" f fd ["self"] (spNeg K C)
  eq : ∃ f fd, Has P w K mg base k C "__eq__" f fd ["self", "other"] (spEq K C)
  works : ∃ p g fd, PropOf K C "works" p g ∧ FnOk P w K mg base CX0 k g fd ["self"] (getSp C "_works") ∧ Binds K fd ["self"] []
  init : ∃ f, Mk K C f ∧ FnR P w K mg base CX0 k f (spInit K C)
end Sg
set_option Elab.async false
set_option linter.all false
set_option maxRecDepth 100000
set_option maxHeartbeats 4000000
namespace Sg
open PySem PySem.Spec PyProof.Rows L2 StX
/-- a whole number as it is written -/
def num (i : Int) : Str := toString i
def word (n : Nat) : Str := (("Line(" : Str) ++ num n) ++ (" works)" : Str)
section
variable {P : Program} {w : World} {K : PySem.W.Frag} {mg : Str → Option Value} {base : Heap}
/-! ### line[kind] -/
def spItem (K : PySem.W.Frag) (C : Addr) : Sp := fun vs H Q _ => ∃ (a : Addr) (ws : List (List Int)) (i : Nat) (x : List Int), vs = [.ref a, .int i] ∧ LineAt K C H a ws ∧ ws[i]? = some x ∧ ∀ c, SqT K H c (x.map V.int) → Q (.ref c) H
theorem ok_item {f f1 C : Addr} {fd fd1 : FuncData} {k : Nat} (F : Fun K "__getitem__" "Line.__getitem__" s_Line_getitem f fd) (T : LC K mg C)
    (G1 : FnOk P w K mg base CX0 k f1 fd1 ["line", "thing"] (spReqKind K C)) (kp1 : PySem.W.keepIn K (.ref f1) = true) (b1 : Binds K fd1 ["line", "thing"] []) (g1 : mg "require_kind" = some (.ref f1)) :
    FnOk P w K mg base CX0 (k + 1) f fd ["self", "at"] (spItem K C) := by
  refine F.ok sc_Line_getitem (fun vs H Q E h => ?_) (fun cdv A outer s H vs Q E hr h => ?_)
  · obtain ⟨a, ws, i, x, rfl, _⟩ := h; rfl
  · obtain ⟨a, ws, i, x, rfl, hL, hx, q⟩ := h
    refine ⟨_, pss_cons (ps_expr (pe_call G1 hr (by rfl) g1 kp1 b1 .nil pass0 (pa_cons (pv 0) (pa_cons (pv 1) pa_nil))))
      (pss_one (ps_ret (pe_ix ix_tup (pe_fld (pv 0) rfl) (pv 1) (fun _ _ => rfl)))), ?_⟩
    have hi := (List.getElem?_eq_some_iff.mp hx).1
    refine ⟨.ref a, rfl, .int i, rfl, a, ws, i, rfl, hL, hi, ?_⟩
    obtain ⟨dx, t, b, r, h1, h2, h3, h4, h5⟩ := hL
    obtain ⟨_, xs, e, hS, hT⟩ := h2.toTup
    cases e
    have l := hT.len
    rw [List.length_map] at l
    obtain ⟨y, hy⟩ : ∃ y, xs[i]? = some y := ⟨xs[i]'(by omega), List.getElem?_eq_getElem _⟩
    obtain ⟨x', c, hx', rfl, hc⟩ := hT.works hy
    obtain rfl : x = x' := Option.some.inj (hx.symm.trans hx')
    exact ⟨.ref a, rfl, a, C, dx, _, _, rfl, h1, T.cl, T.nW, lf_works _ _ _, .int i, rfl, t, xs, i, .ref c, rfl, rfl, hS, atI_nat hy, q c hc⟩
/-! ### repr -/
def spRepr (K : PySem.W.Frag) (C : Addr) : Sp := fun vs H Q _ => ∃ (a : Addr) (ws : List (List Int)), vs = [.ref a] ∧ LineAt K C H a ws ∧ Q (.str (word ws.length)) H
theorem word_join (n : Nat) (h1 : 1 ≤ n) (h2 : n ≤ 3) : ((Str.empty ++ ("Line(" : Str)) ++ num n) ++ (" works)" : Str) = word n := by
  have : n = 1 ∨ n = 2 ∨ n = 3 := by omega
  rcases this with rfl | rfl | rfl <;> decide +kernel
theorem num_len (n : Nat) (h1 : 1 ≤ n) (h2 : n ≤ 3) : ((Str.empty ++ ("Line(" : Str)) ++ num n).length ≤ 100 ∧ (((Str.empty ++ ("Line(" : Str)) ++ num n) ++ (" works)" : Str)).length ≤ 100 := by
  have : n = 1 ∨ n = 2 ∨ n = 3 := by omega
  rcases this with rfl | rfl | rfl <;> decide +kernel
theorem log_small (n : Nat) (h2 : n ≤ 3) : ((n : Int)).natAbs.log2 < 1920 := by
  have : n = 0 ∨ n = 1 ∨ n = 2 ∨ n = 3 := by omega
  rcases this with rfl | rfl | rfl | rfl <;> decide +kernel
theorem ok_repr {f C : Addr} {fd : FuncData} {k : Nat} (F : Fun K "__repr__" "Line.__repr__" s_Line_repr f fd) (T : LC K mg C) (m1 : mg "len" = none) :
    FnOk P w K mg base CX0 (k + 1) f fd ["self"] (spRepr K C) := by
  refine F.ok sc_Line_repr (fun vs H Q E h => ?_) (fun cdv A outer s H vs Q E hr h => ?_)
  · obtain ⟨a, ws, rfl, _⟩ := h; rfl
  · obtain ⟨a, ws, rfl, ⟨dx, t, b, r, h1, h2, h3, h4, h5⟩, q⟩ := h
    refine ⟨_, pss_one (ps_ret (pe_joined (.cons pe_str (.cons (pe_fmt (pe_callB call_len_seq (by rfl) m1 PySem.boot_len (pa_cons (pe_fld (pv 0) rfl) pa_nil))) (.cons pe_str .nil))))), ?_⟩
    obtain ⟨t', xs, e, hS, hT⟩ := h2.toTup
    cases e
    have l := hT.len
    rw [List.length_map] at l
    have big : 100 ≤ sizeLine := by rw [sizeLine_eq]; decide
    obtain ⟨z1, z2⟩ := num_len ws.length h5.least h5.few
    refine ⟨_, rfl, Nat.le_trans (by decide +kernel) big, ?_⟩
    refine ⟨.ref a, rfl, a, C, dx, _, _, rfl, h1, T.cl, T.nW, lf_works _ _ _, t, xs, rfl, .inr hS, ?_⟩
    rw [l]
    refine .inr ⟨((ws.length : Nat) : Int), rfl, log_small _ h5.few, ?_⟩
    refine ⟨_, rfl, Nat.le_trans z1 big, ?_⟩
    refine ⟨_, rfl, Nat.le_trans z2 big, ?_⟩
    have e := word_join ws.length h5.least h5.few
    show Q (.str (((Str.empty ++ ("Line(" : Str)) ++ num ws.length) ++ (" works)" : Str))) H
    rw [e]
    exact q
end
/-- the two more -/
structure Meths2 (P : Program) (w : World) (K : PySem.W.Frag) (mg : Str → Option Value) (base : Heap) (k : Nat) (C : Addr) : Prop where
  m : Meths P w K mg base k C
  item : ∃ f fd, Has P w K mg base k C "__getitem__" f fd ["self", "at"] (spItem K C) ∧ PySem.W.fnIn K f = true
  rep : ∃ f fd, Has P w K mg base k C "__repr__" f fd ["self"] (spRepr K C)
section
variable {X : Cx} {k : Nat} {C : Addr}
theorem Meths2.cRepr (M : Meths2 X.prog X.w X.K X.mg X.base k C) (hr : Room (k + 2) X.A) : CallR X (.builtin "repr") (fun xs H Q => ∃ a ws, xs = [.ref a] ∧ LineAt X.K C H a ws ∧ Q (.str (word ws.length)) H) := by
  obtain ⟨f, fd, h⟩ := M.rep
  intro pins s σ H xs us Q I r q
  obtain ⟨a, ws, rfl, hL, q⟩ := q
  obtain ⟨u, rfl, rfl⟩ := vals1 r
  obtain ⟨m, hF⟩ := I.fr
  obtain ⟨_, _, J⟩ := insAt_look I hL.ins
  refine PySem.W.repr_K (show X.A.in1.units < cLine from (hr.mono (show k + 1 ≤ k + 2 by omega)).in1.units0) hF I.ok.mod.kin J h.at_ h.fn (thn (run_in1 (Q := fun v H' => v = .str (word ws.length) ∧ Q (.str (word ws.length)) H') (us := [.ref a]) (vs := [.ref a]) h.ok (hr.mono (Nat.le_succ _)) h.bi I (.cons rfl .nil) ⟨a, ws, rfl, hL, rfl, q⟩) ?_)
  rintro v s' ⟨x, H', I', rx, rfl, q'⟩
  obtain ⟨t, rfl⟩ := rx
  exact ⟨.str _, H', I', ⟨_, rfl⟩, q'⟩
end
end Sg
set_option Elab.async false
set_option linter.all false
set_option maxRecDepth 100000
set_option maxHeartbeats 4000000
namespace Sg
open PySem PySem.Spec PyProof.Rows L2 StX
/-! ## a text of an own thing, asked for within another text -/
theorem boundBy_own {M : Model} {A : Around} {E : Value → Shared → Prop} {s : Shared} {K : PySem.W.Frag} {x C f : Addr} {ox : Obj} {od : Option Obj} {name : Str} {last : Value → List Value → Sem Value} {Q : Option Value → Shared → Prop} (X : K.In s.heap) (I : PySem.W.InstAt s.heap x ox C od)
    (hs : PySem.W.findIn K (.ref C) name = some (some (.ref f))) (hf : PySem.W.isFn K (.ref f) = true)
    (h : wpAny M A (last (.ref f) [.ref x]) (fun v => Q (some v)) E s) : wpAny M A (callSpecialIfBoundBy? last (.ref x) name) Q E s := by
  simp only [callSpecialIfBoundBy?, bindSpecialIfBound?]
  refine wpAny_holding (wpAny_bind (wpAny_bind (wpAny_bind (I.type.here ((PySem.W.looks_findIn X hs).here ?_)))))
  refine wpAny_bind (wpAny_askSetting (wpAny_ite ?_))
  have fin : wpAny M A (last (.ref f) [.ref x] >>= fun v => pure (some v)) Q E s := wpAny_bind (wpAny_mono h (fun v s' h' => wpAny_pure h') fun _ _ h' => h')
  split
  · exact wpAny_bind ((PySem.W.bind_fn X _ (beq_iff_eq.mp hf)).here (wpAny_pure (by exact fin)))
  · exact wpAny_tryCatch (wpAny_bind ((PySem.W.bind_fn X _ (beq_iff_eq.mp hf)).here (wpAny_pure (by exact fin))))
theorem reprUnder_own {prog : Program} {w : World} {A : Around} {E : Value → Shared → Prop} {s : Shared} {K : PySem.W.Frag} {x C f : Addr} {ox : Obj} {od : Option Obj} {b : Nat} {t : Str} {Q : Str → Shared → Prop} (hb : b ≤ sizeLine) (hu : A.units < cLine) (X : K.In s.heap) (I : PySem.W.InstAt s.heap x ox C od)
    (hs : PySem.W.findIn K (.ref C) "__repr__" = some (some (.ref f))) (hf : PySem.W.isFn K (.ref f) = true)
    (h : wpAny (model prog w) A (call (.ref f) [.ref x]) (fun v s' => ∃ u, v = .str t u ∧ Q t s') E s) : wpAny (model prog w) A (pyReprUnder b (.ref x)) Q E s := by
  refine wpAny_pyReprUnder_ref hb ?_
  unfold pyReprObjUnder pyReprObjBy
  refine wpAny_bind (wpAny_cRoomFor hu ?_)
  refine wpAny_bind (wpAny_bind (I.type.here ((PySem.W.looks_findIn X hs).here ?_)))
  show wpAny _ _ (if (some (Value.ref f)).isNone = true then _ else _) _ _ _
  rw [if_neg (by simp)]
  refine wpAny_bind (boundBy_own X I hs hf ?_)
  refine wpAny_mono h (fun v s' ⟨u, e, q⟩ => ?_) fun _ _ y => y
  subst e
  refine wpAny_bind (wpAny_isInstance (typeIs_str _ _ _) isSubtype_str_str ?_)
  exact wpAny_pure ⟨t, u, rfl, q⟩
end Sg
set_option Elab.async false
set_option linter.all false
set_option maxRecDepth 100000
set_option maxHeartbeats 4000000
namespace Sg
open PySem PySem.Spec PyProof.Rows L2 StX
/-! ## within the text of a container: the frames are the same -/
structure Near (A A' : Around) (m : Nat) : Prop where
  hd : A'.handled = A.handled
  fr : A'.frames = A.frames
  dp : A'.depth ≤ A.depth + m
  un : A'.units ≤ A.units + m
theorem Near.refl (A : Around) : Near A A 0 := ⟨rfl, rfl, Nat.le_refl _, Nat.le_refl _⟩
theorem Near.le {A A' : Around} {m n : Nat} (h : Near A A' m) (e : m ≤ n) : Near A A' n := ⟨h.hd, h.fr, by have := h.dp; omega, by have := h.un; omega⟩
theorem Near.in1 {A A' : Around} {m : Nat} (h : Near A A' m) : Near A A'.in1 (m + 1) := ⟨h.hd, h.fr, by have := h.dp; show A'.depth ≤ _; omega, by have := h.un; show A'.units + 1 ≤ _; omega⟩
theorem Near.room {A A' : Around} {m k : Nat} (h : Near A A' m) (r : Room (k + 1) A) (hm : m ≤ 3) : Room k A' := by
  have h1 := r.dp; have h2 := r.un; have h3 := h.un; have h4 := h.dp
  exact ⟨h.hd.trans r.hd, by omega, by omega⟩
/-- the thing v shows as t, whatever texts are under way -/
def Rep (X : Cx) (pins : List (Addr × Obj)) (σ : L2.St) (H : Hp) (A : Around) (v : V) (t : Str) : Prop :=
  ∀ (b : Nat) (u : Value) (s : Shared) (E : Value → Shared → Prop) (Q : Str → Shared → Prop), b + t.length ≤ sizeLine → Inv X pins σ H s → RelV v u → (∀ s', Inv X pins σ H s' → Q t s') → wpAny (model X.prog X.w) A (pyReprUnder b u) Q E s
inductive Reps (X : Cx) (pins : List (Addr × Obj)) (σ : L2.St) (H : Hp) (A : Around) : List V → List Str → Prop
  | nil : Reps X pins σ H A [] []
  | cons {v : V} {t : Str} {vs : List V} {ts : List Str} : Rep X pins σ H A v t → Reps X pins σ H A vs ts → Reps X pins σ H A (v :: vs) (t :: ts)
section
variable {X : Cx} {pins : List (Addr × Obj)} {σ : L2.St} {H : Hp} {A : Around}
theorem Reps.len : ∀ {vs : List V} {ts : List Str}, Reps X pins σ H A vs ts → ts.length = vs.length
  | _, _, .nil => rfl
  | _, _, .cons _ r => congrArg (· + 1) r.len
theorem Rep.int {i : Int} (h : i.natAbs.log2 < 1920) : Rep X pins σ H A (.int i) (PyData.int i).shown := by
  intro b u s E Q hb I r q
  obtain ⟨t, rfl⟩ := r
  have e : (PyData.int i).shown = ((toString i : String) : Str) := PyData.shown_int i
  rw [e] at hb q
  exact ReprIs.int t h b hb A E s _ fun tk => q _ (I.tok tk)
/-- a Line -/
theorem Rep.line {k m : Nat} {C a : Addr} {ws : List (List Int)} (M : Meths2 X.prog X.w X.K X.mg X.base k C) (hr : Room (k + 1) X.A) (N : Near X.A A m) (hm : m ≤ 3) (hL : LineAt X.K C H a ws) : Rep X pins σ H A (.ref a) (word ws.length) := by
  intro b u s E Q hb I r q
  obtain rfl : u = Value.ref a := r
  obtain ⟨f, fd, h⟩ := M.rep
  obtain ⟨_, _, J⟩ := insAt_look I hL.ins
  have hr' := N.room hr hm
  refine reprUnder_own (t := word ws.length) (by omega) hr'.units0 I.kIn J h.at_ h.fn ?_
  have hl : ([Value.ref a] ++ []).length = ["self"].length := rfl
  have hbb := h.bi s [.ref a] I.kIn rfl
  rw [List.append_nil] at hbb
  have e0 : Env0 X.prog X.w X.K X.mg X.base A X.stack s H := by
    have e := I.env0
    exact ⟨N.fr.trans e.frames, e.mod, e.bs, e.bsz, e.funs, e.frf, e.hok, e.bare⟩
  refine wpAny_call (codeAny_mono (h.ok.run A X.stack s H ⟨[.ref a], []⟩ [.ref a] [.ref a] (fun v H' => v = .str (word ws.length) ∧ H' = H) E0 hr' e0 hbb (.cons rfl .nil) ⟨a, ws, rfl, hL, rfl, rfl⟩) ?_)
  intro r' s' hq
  match r', hq with
  | .error _, hq => exact hq.elim
  | .ok (.ret _), hq =>
    obtain ⟨v, H', I', rv, rfl, rfl⟩ := I.after hq
    obtain ⟨u', rfl⟩ := rv
    exact ⟨u', rfl, q _ I'⟩
  | .ok .next, hq => exact hq.elim
  | .ok .brk, hq => exact hq.elim
  | .ok .cont, hq => exact hq.elim
/-- the items, one after another -/
theorem reps_fold {E : Value → Shared → Prop} : ∀ {vs : List V} {ts : List Str}, Reps X pins σ H A vs ts → ∀ {us : List Value}, Vals vs us → ∀ (acc : Array Str) (n : Nat) (s : Shared) (Q : (Array Str × Nat) → Shared → Prop), Inv X pins σ H s → n + piled ts ≤ sizeLine →
    (∀ s', Inv X pins σ H s' → Q ⟨acc ++ ts.toArray, n + piled ts⟩ s') → wpAny (model X.prog X.w) A (forIn us (⟨acc, n⟩ : (Array Str × Nat)) tupBody) Q E s := by
  intro vs ts h
  induction h with
  | nil =>
    intro us r acc n s Q I _ q
    cases r
    have h0 := q s I
    simp only [List.forIn_nil]
    exact wpAny_pure (by simpa [piled] using h0)
  | @cons v t vs ts hv _ ih =>
    intro us r acc n s Q I hn q
    cases r with
    | @cons a b as bs r1 r2 =>
      rw [piled_cons] at hn
      rw [List.forIn_cons]
      refine wpAny_bind (wpAny_bind (hv (n + 1) _ s _ _ (by omega) I r1 fun s1 I1 => wpAny_pure ?_))
      refine ih r2 (acc.push t) (n + (t.length + 2)) s1 _ I1 (by omega) fun s2 I2 => ?_
      have h1 := q s2 I2
      have e : n + piled (t :: ts) = n + (t.length + 2) + piled ts := by rw [piled_cons]; omega
      rw [e] at h1
      simpa using h1
end
end Sg
set_option Elab.async false
set_option linter.all false
set_option maxRecDepth 100000
set_option maxHeartbeats 4000000
namespace Sg
open PySem PySem.Spec PyProof.Rows L2 StX
section
variable {X : Cx} {pins : List (Addr × Obj)} {σ : L2.St} {H : Hp} {A : Around}
/-- the text of a tuple whose items show: its own code -/
theorem tupShow_own {a : Addr} {xs : List V} {ts : List Str} {g : List Code} {s : Shared} {R : Result → Shared → Prop} {base : Nat} {id : String} {rest : List Value} (I : Inv X pins σ H s) (hs : SqT X.K H a xs)
    (hT : Reps X pins σ H (A.under (.builtin id ⟨.ref a :: rest, []⟩)) xs ts) (hg : A.guards = some g) (hca : Clear g a)
    (hR : ∀ s' u, Inv X pins σ H s' → R (.ok (.ret (.str (tupleText ts) u))) s') (hsz : base + (tupleText ts).length ≤ sizeLine) :
    wpOwn (model X.prog X.w) A (.builtin id ⟨.ref a :: rest, []⟩) (Builtin.tupleReprAt base ⟨[.ref a], []⟩) (fun fin s' => match fin with | .done f => R (.ok f) s' | .again c' => c'.quiet = true ∧ codeAny (model X.prog X.w) A c' R s') (fun e s' => R (.error e) s') s := by
  obtain ⟨its, rv, ⟨o, ho, hc, n, hd⟩, hz⟩ := I.tuple hs
  have ln : ts.length = its.toArray.size := by rw [hT.len, rv.length, List.size_toArray]
  have pl := piled_le_tupleText ts
  have z0 : (tupleText ts).length ≤ sizeLine := by omega
  rw [tuple_repr_tree, tupleReprUnderWay_eq]
  have none_ : (g.any fun c => tupGuardF (.ref a) (c, default)) = false := List.any_eq_false.mpr fun c hcm => by rw [tupGuardF_of_clear hca c hcm]; exact Bool.false_ne_true
  refine wpOwn_bind (wpOwn_stackTailAny hg (tupGuardF_off _) (tupGuardF_pos _) ?_)
  rw [none_]
  refine wpOwn_of_wpAny (show wpAny _ _ (tupleReprRest base (.ref a)) _ _ s from ?_)
  unfold tupleReprRest Builtin.Tuple.tupleItemsOf
  refine wpAny_bind (wpAny_bind (wpAny_seqItems ho hd (wpAny_pure ?_)))
  rw [← Array.forIn_toList]
  refine wpAny_bind (reps_fold hT (us := its) rv _ _ _ _ I (by omega) fun s1 I1 => ?_)
  refine wpAny_bind (wpAny_mkStr (wpAny_pure ?_) (by simpa [tupleText, ln] using z0))
  have h1 := hR _ s1.toks (I1.tok (s1.toks + 1))
  simpa [tupleText, ln] using h1
/-- .. within another text -/
theorem Rep.tup {a : Addr} {xs : List V} {ts : List Str} {g : List Code} (hs : SqT X.K H a xs) (hT : ∀ rest, Reps X pins σ H (A.under (.builtin "tuple.__repr__.under" ⟨.ref a :: rest, []⟩)) xs ts) (hg : A.guards = some g) (hca : Clear g a) (hu : A.units + 1 < cLine) : Rep X pins σ H A (.ref a) (tupleText ts) := by
  intro b u s E Q hb I r q
  obtain rfl : u = Value.ref a := r
  obtain ⟨its, rv, ⟨o, ho, hc, n, hd⟩, hz⟩ := I.tuple hs
  refine wpAny_pyReprUnder_ref (by omega) ?_
  refine wpAny_pyReprObjUnder_twin (twin := "tuple.__repr__.under") ⟨o, ho, hc⟩ F.slot_tuple_repr rfl (by omega) ?_
  refine call_twin_own (F.quiet_tuple_repr_under _) F.entry_tuple_repr_under F.check_tuple_repr_under ⟨o, ho, hc⟩ F.slot_tuple_repr (F.args_tuple_repr_1 _) ?_
  exact tupShow_own I hs (hT _) hg hca (fun s' u I' => ⟨⟨_, _, rfl⟩, _, _, rfl, q s' I'⟩) hb
/-- repr(t) -/
theorem callRepr_tup {j : Nat} {a : Addr} {xs : List V} {ts : List Str} {s : Shared} {Q : VK} (hgd : X.A.guards = some []) (hr : Room j X.A) (I : Inv X pins σ H s) (hs : SqT X.K H a xs) (hT : Reps X pins σ H (X.A.in1.under (.builtin "tuple.__repr__" ⟨[.ref a], []⟩)) xs ts)
    (hz : (tupleText ts).length ≤ sizeLine) (q : Q (.str (tupleText ts)) H) : wpAny (model X.prog X.w) X.A (call (.builtin "repr") [.ref a]) (EP X pins σ Q) X.xe s := by
  obtain ⟨its, rv, ⟨o, ho, hc, n, hd⟩, _⟩ := I.tuple hs
  have hu := hr.un
  refine call_repr_slot (by omega) ⟨o, ho, hc⟩ F.slot_tuple_repr ?_
  refine wpAny_call (codeAny_call_builtin_own (Code.quiet_builtin _ (by decide +kernel)) F.entry_tuple_repr (F.slot_tuple_repr.check _ _ _ _ _ _ _ _ ⟨o, ho, hc⟩ (F.args_tuple_repr_1 _) ?_))
  exact tupShow_own (A := X.A.in1) (base := 0) (R := callEnd (fun v s' => ∃ x t, v = .str x t ∧ EP X pins σ Q v s') X.xe) I hs hT hgd (Clear.nil a) (fun s' u I' => ⟨_, _, rfl, .str (tupleText ts), H, I', ⟨_, rfl⟩, q⟩) (by omega)
end
end Sg
set_option Elab.async false
set_option linter.all false
set_option maxRecDepth 100000
set_option maxHeartbeats 4000000
namespace Sg
open PySem PySem.Spec PyProof.Rows L2 StX
theorem near_under {A A' : Around} {m : Nat} {id : String} {args : Args} (h : Near A A' m) (hg : (Code.builtin id args).weight = 1) (hu : (A'.under (.builtin id args)).units = A'.units + 1) : Near A (A'.under (.builtin id args)) (m + 1) := by
  refine ⟨h.hd, ?_, ?_, ?_⟩
  · have e : (Code.builtin id args).envs = [] := by simp [Code.envs, Code.isFrame]
    show pushEnvs (Code.builtin id args).envs A'.frames = A.frames
    rw [e]
    exact h.fr
  · show A'.depth + (Code.builtin id args).weight ≤ A.depth + (m + 1)
    rw [hg]
    have := h.dp
    omega
  · rw [hu]
    have := h.un
    omega
theorem weight_tuple (args : Args) : (Code.builtin "tuple.__repr__" args).weight = 1 := by
  unfold Code.weight
  rw [isGuard_tuple_repr]
  simp [Code.frames, Code.isCreation, Code.isCaller, Code.isFrame]
theorem weight_tuple_under (args : Args) : (Code.builtin "tuple.__repr__.under" args).weight = 1 := by
  unfold Code.weight
  rw [isGuard_tuple_repr_under]
  simp [Code.frames, Code.isCreation, Code.isCaller, Code.isFrame]
/-! ## repr(x), x data or a Line or a tuple with one -/
/-- ints and Lines -/
inductive IntLn (K : PySem.W.Frag) (C : Addr) (H : Hp) : List V → List Str → Prop
  | nil : IntLn K C H [] []
  | int {i : Int} {vs : List V} {ts : List Str} : i.natAbs.log2 < 1920 → IntLn K C H vs ts → IntLn K C H (.int i :: vs) ((PyData.int i).shown :: ts)
  | line {a : Addr} {ws : List (List Int)} {vs : List V} {ts : List Str} : LineAt K C H a ws → IntLn K C H vs ts → IntLn K C H (.ref a :: vs) (word ws.length :: ts)
theorem IntLn.reps {X : Cx} {pins : List (Addr × Obj)} {σ : L2.St} {H : Hp} {A : Around} {k m : Nat} {C : Addr} (M : Meths2 X.prog X.w X.K X.mg X.base k C) (hr : Room (k + 1) X.A) (N : Near X.A A m) (hm : m ≤ 3) :
    ∀ {vs : List V} {ts : List Str}, IntLn X.K C H vs ts → Reps X pins σ H A vs ts
  | _, _, .nil => .nil
  | _, _, .int h r => .cons (Rep.int h) (IntLn.reps M hr N hm r)
  | _, _, .line h r => .cons (Rep.line M hr N hm h) (IntLn.reps M hr N hm r)
/-- what shows as t -/
inductive ShowL (K : PySem.W.Frag) (C : Addr) (H : Hp) : V → Str → Prop
  | any {v : V} {d : PyData} : Aq K H v d → GoodD d → ShowL K C H v d.shown
  | line {a : Addr} {ws : List (List Int)} : LineAt K C H a ws → ShowL K C H (.ref a) (word ws.length)
  | tup {a : Addr} {xs : List V} {ts : List Str} : SqT K H a xs → IntLn K C H xs ts → (tupleText ts).length ≤ 1000 → ShowL K C H (.ref a) (tupleText ts)
  | nest {a b : Addr} {xs : List V} {ts : List Str} : SqT K H a [.ref b] → SqT K H b xs → IntLn K C H xs ts → a ≠ b → (tupleText ts).length ≤ 1000 → (tupleText [tupleText ts]).length ≤ 2000 → ShowL K C H (.ref a) (tupleText [tupleText ts])
theorem call_reprL {X : Cx} {k : Nat} {C : Addr} (M : Meths2 X.prog X.w X.K X.mg X.base k C) (hgd : X.A.guards = some []) (hr : Room (k + 2) X.A) :
    CallR X (.builtin "repr") (fun xs H Q => ∃ v t, xs = [v] ∧ ShowL X.K C H v t ∧ Q (.str t) H) := by
  have big : 2000 ≤ sizeLine := by rw [sizeLine_eq]; decide
  have hr1 : Room (k + 1) X.A := hr.mono (by omega)
  have N1 : ∀ args, Near X.A (X.A.in1.under (.builtin "tuple.__repr__" args)) 2 := fun args => near_under (Near.refl X.A).in1 (weight_tuple args) (units_under_tuple_repr _ _)
  intro pins s σ H xs us Q I r h
  obtain ⟨v, t, rfl, h, q⟩ := h
  cases h with
  | any hd hg => exact call_reprA hgd hr pins s σ H _ us Q I r ⟨v, _, rfl, hd, hg, q⟩
  | line hL => exact M.cRepr hr pins s σ H _ us Q I r ⟨_, _, rfl, hL, q⟩
  | tup hs hf hz =>
    obtain ⟨u, rfl, rx⟩ := vals1 r
    cases rx
    exact callRepr_tup hgd hr I hs (hf.reps M hr1 (N1 _) (by decide)) (by omega) q
  | @nest a b xs ts hs hs2 hf hne hz hz2 =>
    obtain ⟨u, rfl, rx⟩ := vals1 r
    cases rx
    refine callRepr_tup hgd hr I hs (.cons (Rep.tup hs2 (fun rest => hf.reps M hr1 (near_under (N1 _) (weight_tuple_under _) (units_under_tuple_repr_under _ _)) (by decide)) (guards_under_guard (isGuard_tuple_repr _) hgd) ((Clear.nil b).cons hne) ?_) .nil) (by omega) q
    have h1 := (N1 ⟨[.ref a], []⟩).un
    have h2 := hr.un
    omega
end Sg
set_option Elab.async false
set_option linter.all false
set_option maxRecDepth 100000
set_option maxHeartbeats 4000000
namespace Sg
open PySem PySem.Spec PyProof.Rows L2 StX
/-- data that is a work -/
def WorkD (d : PyData) : Prop := ∃ ns, d = tD ns ∧ IsWork ns
theorem all_ints : ∀ {ds : List PyData} {l m : Int}, (∀ d ∈ ds, betD d l m = true) → ∃ ns : List Int, ds = iD ns ∧ ∀ x ∈ ns, l ≤ x ∧ x ≤ m
  | [], _, _, _ => ⟨[], rfl, fun _ h => nomatch h⟩
  | d :: ds, l, m, h => by
    obtain ⟨ns, rfl, hn⟩ := all_ints (ds := ds) (l := l) (m := m) fun x hx => h x (List.mem_cons_of_mem _ hx)
    have h1 := h d List.mem_cons_self
    obtain ⟨i, rfl⟩ : ∃ i, d = .int i := by cases d <;> first | exact ⟨_, rfl⟩ | exact nomatch h1
    have h2 : (decide (l ≤ i) && decide (i ≤ m)) = true := h1
    rw [Bool.and_eq_true, decide_eq_true_eq, decide_eq_true_eq] at h2
    exact ⟨i :: ns, rfl, fun x hx => (List.mem_cons.mp hx).elim (fun e => e ▸ h2) (hn x)⟩
theorem ints_bet {ns : List Int} {l m : Int} (h : ∀ x ∈ ns, l ≤ x ∧ x ≤ m) : ∀ d ∈ iD ns, betD d l m = true := fun d hd => by
  obtain ⟨x, hx, rfl⟩ := List.mem_map.mp hd
  show (decide (l ≤ x) && decide (x ≤ m)) = true
  rw [decide_eq_true (h x hx).1, decide_eq_true (h x hx).2]; rfl
section
variable {P : Program} {w : World} {K : PySem.W.Frag} {mg : Str → Option Value} {base : Heap}
theorem isInt_eqL (d : PyData) : (isB "int" d && !isB "bool" d) = isIntD d := by
  cases d <;> rfl
def spIsIntL (K : PySem.W.Frag) (C : Addr) : Sp := fun vs H Q _ => ∃ v d, vs = [v] ∧ Lp K C H v d ∧ Q (.bl (isIntD d)) H
theorem ok_is_intL {f C : Addr} {fd : FuncData} {k : Nat} (LK : LineKit K C) (F : Fun K "is_int" "is_int" s_is_int f fd) (m1 : mg "isinstance" = none) (m2 : mg "int" = none) (m3 : mg "bool" = none) :
    FnOk P w K mg base CX0 (k + 1) f fd ["thing"] (spIsIntL K C) := by
  refine F.ok sc_is_int (fun vs H Q E h => ?_) (fun cdv A outer s H vs Q E hr h => ?_)
  · obtain ⟨v, d, rfl, _⟩ := h; rfl
  · obtain ⟨v, d, rfl, hd, q⟩ := h
    refine ⟨_, pss_one (ps_ret (pe_and
      (pe_callB (call_isiL (K := K) rfl LK) (by rfl) m1 (by decide +kernel) (pa_cons (pv 0) (pa_cons (pe_bltn (v := .ty "int") (by rfl) m2 (by decide +kernel) rfl) pa_nil)))
      (pe_one (pe_not (pe_callB (call_isiL (K := K) rfl LK) (by rfl) m1 (by decide +kernel) (pa_cons (pv 0) (pa_cons (pe_bltn (v := .ty "bool") (by rfl) m3 (by decide +kernel) rfl) pa_nil))))))), ?_⟩
    refine ⟨v, rfl, v, d, "int", rfl, hd, .inr (.inl rfl), isB "int" d, rfl, ?_⟩
    have e := isInt_eqL d
    cases h1 : isB "int" d with
    | false => rw [h1] at e; rw [← e] at q; exact iteF q
    | true =>
      refine iteT ⟨v, rfl, v, d, "bool", rfl, hd, .inr (.inr (.inl rfl)), isB "bool" d, rfl, ?_⟩
      rw [h1, Bool.true_and] at e
      rw [← e] at q
      exact q
def spBetL (K : PySem.W.Frag) (C : Addr) : Sp := fun vs H Q _ => ∃ v d, ∃ l m : Int, vs = [v, .int l, .int m] ∧ Lp K C H v d ∧ Q (.bl (betD d l m)) H
theorem ok_is_betweenL {f f1 C : Addr} {fd fd1 : FuncData} {k : Nat} (F : Fun K "is_between" "is_between" s_is_between f fd)
    (G1 : FnOk P w K mg base CX0 k f1 fd1 ["thing"] (spIsIntL K C)) (kp1 : PySem.W.keepIn K (.ref f1) = true) (b1 : Binds K fd1 ["thing"] []) (g1 : mg "is_int" = some (.ref f1)) :
    FnOk P w K mg base CX0 (k + 1) f fd ["thing", "least", "most"] (spBetL K C) := by
  refine F.ok sc_is_between (fun vs H Q E h => ?_) (fun cdv A outer s H vs Q E hr h => ?_)
  · obtain ⟨v, d, l, m, rfl, _⟩ := h; rfl
  · obtain ⟨v, d, l, m, rfl, hd, q⟩ := h
    refine ⟨_, pss_one (ps_ret (pe_and (pe_call G1 hr (by rfl) g1 kp1 b1 .nil pass0 (pa_cons (pv 0) pa_nil)) (pe_one (pe_chain op_le op_le (pv 1) (pv 0) (pv 2))))), ?_⟩
    refine ⟨v, rfl, v, d, rfl, hd, isIntD d, rfl, ?_⟩
    cases hi : isIntD d with
    | false =>
      have e : betD d l m = false := by cases d <;> first | rfl | exact nomatch hi
      rw [e] at q
      exact iteF q
    | true =>
      obtain ⟨i, rfl⟩ : ∃ i, d = .int i := by cases d <;> first | exact ⟨_, rfl⟩ | exact nomatch hi
      obtain rfl : v = .int i := hd.int_inv
      refine iteT ⟨.int l, rfl, .int i, rfl, l, i, rfl, rfl, decide (l ≤ i), rfl, ?_⟩
      have e : betD (.int i) l m = (decide (l ≤ i) && decide (i ≤ m)) := rfl
      rw [e] at q
      by_cases h1 : l ≤ i
      · rw [decide_eq_true h1] at q ⊢
        exact iteT ⟨.int m, rfl, i, m, rfl, rfl, q⟩
      · rw [decide_eq_false h1] at q ⊢
        exact iteF q
/-! ### is_work, of any data -/
def spIsWorkL (K : PySem.W.Frag) (C : Addr) : Sp := fun vs H Q _ => ∃ v d, vs = [v] ∧ Lp K C H v d ∧ ∀ H' b, Same H H' → (b = true ↔ WorkD d) → Q (.bl b) H'
theorem ok_is_workL {f f1 C : Addr} {fd fd1 : FuncData} {k : Nat} (LK : LineKit K C) (F : Fun K "is_work" "is_work" s_is_work f fd) (N : Nums mg)
    (G1 : FnOk P w K mg base CX0 k f1 fd1 ["thing", "least", "most"] (spBetL K C)) (kp1 : PySem.W.keepIn K (.ref f1) = true) (b1 : Binds K fd1 ["thing", "least", "most"] []) (g1 : mg "is_between" = some (.ref f1))
    (m1 : mg "isinstance" = none) (m2 : mg "tuple" = none) (m3 : mg "len" = none) (m4 : mg "all" = none) :
    FnOk P w K mg base CX0 (k + 1) f fd ["thing"] (spIsWorkL K C) := by
  obtain ⟨t1, n1⟩ := N.nowhere
  obtain ⟨t2, n2⟩ := N.stations
  obtain ⟨t3, n3⟩ := N.most
  refine F.ok sc_is_work (fun vs H Q E h => ?_) (fun cdv A outer s H vs Q E hr h => ?_)
  · obtain ⟨v, d, rfl, _⟩ := h; rfl
  · obtain ⟨v, d, rfl, hd, q⟩ := h
    refine ⟨_, pss_cons (ps_if (PW.pt (pw_or (pt_not (pt_val (pe_callB (call_isiL (K := K) rfl LK) (by rfl) m1 (by decide +kernel) (pa_cons (pv 0) (pa_cons (pe_bltn (v := .ty "tuple") (by rfl) m2 (by decide +kernel) rfl) pa_nil)))))
          (pw_or1 (pt_not (pt_chain op_le op_le pe_int (pe_callB call_len_seq (by rfl) m3 PySem.boot_len (pa_cons (pv 0) pa_nil)) (pe_glob (v := .int 60) (by rfl) n3 ⟨_, rfl⟩))))))
        (pss_one (ps_ret pe_bl)) pss_nil)
      (pss_cons (ps_if (pt_not (pt_val (pe_callB (cr_all rfl) (by rfl) m4 (by decide +kernel) (pa_cons
          (pe_lc (own := [("item", 1)]) (g := gName 1) (tt := tYes) rfl sc_is_work.nd (pi_tup (pv 0)) (blkOk_by (N := ["thing", "item"]) (sc := defScope s_is_work) (by decide +kernel))
            (fun _ _ _ _ _ => pg_name (i := 1) sc_is_work.nd rfl (Or.inl rfl)) (fun _ _ _ _ _ => pts_nil)
            (fun _ _ _ _ _ => pe_call G1 hr (by rfl) g1 kp1 b1 .nil pass0 (pa_cons (pv 1) (pa_cons (pe_glob (v := .int (-1)) (by rfl) n1 ⟨_, rfl⟩) (pa_cons (pe_op op_sub (pe_glob (v := .int 10) (by rfl) n2 ⟨_, rfl⟩) pe_int) pa_nil))))) pa_nil))))
        (pss_one (ps_ret pe_bl)) pss_nil)
      (pss_one (ps_ret (pe_and (pe_cmpR op_ne (pe_ix ix_tup (pv 0) pe_int (fun _ _ => rfl)) (pe_glob (v := .int (-1)) (by rfl) n1 ⟨_, rfl⟩) (nomark _))
        (pe_one (pe_cmpR op_ne (pe_ix ix_tup (pv 0) (pe_un un_neg pe_int) (fun _ _ => rfl)) (pe_glob (v := .int (-1)) (by rfl) n1 ⟨_, rfl⟩) (nomark _))))))), ?_⟩
    refine ⟨v, rfl, v, d, "tuple", rfl, hd, .inl rfl, isB "tuple" d, rfl, ?_⟩
    cases ht : isB "tuple" d with
    | false =>
      refine iteT ?_
      refine q H false (same_refl H) ⟨(fun z => nomatch z), fun ⟨ns, z, _⟩ => ?_⟩
      rw [z] at ht
      exact nomatch ht
    | true =>
      obtain ⟨ds, rfl⟩ := isB_tup.mp ht
      obtain ⟨a, xs, rfl, hS, hA⟩ := hd.tuple_inv
      have lx := LpAll.len hA
      have nowork : ∀ {H'}, Same H H' → (∀ ns, ds = iD ns → ¬ IsWork ns) → Q (.bl false) H' := fun {H'} e no => q H' false e ⟨(fun z => nomatch z), fun ⟨ns, z, hw⟩ => absurd hw (no ns (PyData.tuple.inj z))⟩
      refine iteF ?_
      refine ⟨.ref a, rfl, a, xs, rfl, .inr hS, 1, _, rfl, rfl, decide ((1 : Int) ≤ ((xs.length : Nat) : Int)), rfl, ?_⟩
      by_cases c1 : (1 : Int) ≤ ((xs.length : Nat) : Int)
      case neg =>
        rw [decide_eq_false c1]
        refine iteF ⟨false, rfl, iteT (nowork (same_refl H) fun ns e hw => ?_)⟩
        have := hw.pos
        rw [e, List.length_map] at lx
        omega
      rw [decide_eq_true c1]
      refine iteT ⟨_, 60, rfl, rfl, decide (((xs.length : Nat) : Int) ≤ 60), rfl, ?_⟩
      by_cases c2 : ((xs.length : Nat) : Int) ≤ 60
      case neg =>
        rw [decide_eq_false c2]
        refine iteT (nowork (same_refl H) fun ns e hw => ?_)
        have := hw.most
        rw [e, List.length_map] at lx
        omega
      rw [decide_eq_true c2]
      refine iteF ?_
      refine ⟨.ref a, rfl, a, rfl, ⟨_, hS⟩, fun D hD => ?_⟩
      refine lc_tup (xs := xs) (fun i H' => Same H H' ∧ H' D = some (.lst ((((ds.take i).map fun z => betD z (-1) 9)).map V.bl))) ⟨same_new hD, upd_same⟩ (fun i H' _ h => Same.tup h.1 hS) (fun i x H' hx h => ?_) (fun H' h => ?_)
      · obtain ⟨dd, hdd, hxd⟩ := LpAll.at hA hx
        have hil := (List.getElem?_eq_some_iff.mp hdd).1
        refine ⟨rfl, x, rfl, 10, 1, rfl, rfl, x, dd, -1, _, rfl, (hxd.same h.1), ?_⟩
        refine ⟨_, h.2, ?_, fun b o e => ?_, ?_⟩
        · rw [List.length_map, List.length_map, List.length_take]
          exact small1000 (by omega)
        · rw [upd_ne (ne_of_none e hD)]
          exact h.1 _ _ e
        · rw [upd_same, List.take_add_one, hdd, List.map_append, List.map_append]
          rfl
      · have h2 := h.2
        rw [lx, List.take_length] at h2
        refine ⟨D, _, rfl, .of h2, ((ds.map fun z => betD z (-1) 9)).all id, rfl, ?_⟩
        cases hall : ((ds.map fun z => betD z (-1) 9)).all id with
        | false =>
          refine iteT (nowork h.1 fun ns e hw => ?_)
          have : ((ds.map fun z => betD z (-1) 9)).all id = true := by
            rw [List.all_map, List.all_eq_true]
            intro z hz
            rw [e] at hz
            exact ints_bet (fun x hx => hw.items x hx) z hz
          rw [this] at hall
          exact nomatch hall
        | true =>
          rw [List.all_map, List.all_eq_true] at hall
          obtain ⟨ns, rfl, hns⟩ := all_ints hall
          obtain rfl := lpInts_v hA
          have ln : (ns.map V.int).length = ns.length := List.length_map _
          rw [ln] at c1 c2
          refine iteF ?_
          have hS' : SqT K H' a (ns.map V.int) := Same.tup h.1 hS
          obtain ⟨x, hx⟩ : ∃ x, ns[0]? = some x := ⟨ns[0]'(by omega), List.getElem?_eq_getElem _⟩
          obtain ⟨y, hy⟩ : ∃ y, ns[ns.length - 1]? = some y := ⟨ns[ns.length - 1]'(by omega), List.getElem?_eq_getElem _⟩
          have gx : (ns.map V.int)[0]? = some (.int x) := by rw [List.getElem?_map, hx]; rfl
          have gy : atI (ns.map V.int) (-1) = some (.int y) := by
            have hne : ns ≠ [] := fun z => by rw [z] at c1; exact absurd c1 (by decide)
            have e1 : ns = ns.dropLast ++ [y] := by
              have e2 : ns.getLast hne = y := by
                have := List.getLast_eq_getElem hne
                rw [this]
                exact (List.getElem?_eq_some_iff.mp hy).2
              rw [← e2, List.dropLast_concat_getLast]
            rw [e1, List.map_append]
            exact atI_last _ _
          have fin : ∀ b : Bool, (b = true ↔ x ≠ -1 ∧ y ≠ -1) → Q (.bl b) H' := fun b hb => q H' b h.1 (hb.trans ⟨fun ⟨g1, g2⟩ => ⟨ns, rfl, ⟨by omega, by omega, hns, fun z hz => by rw [hx] at hz; rw [← Option.some.inj hz]; exact g1, fun z hz => by rw [hy] at hz; rw [← Option.some.inj hz]; exact g2⟩⟩,
            fun ⟨ms, e, hw⟩ => by
              have e' : ns = ms := by
                have := congrArg (fun l : List PyData => l.map fun d => match d with | .int i => i | _ => 0) (PyData.tuple.inj e)
                simpa [List.map_map, Function.comp_def] using this
              subst e'
              exact ⟨hw.head x hx, hw.last y hy⟩⟩)
          refine ⟨.ref a, rfl, a, _, 0, .int x, rfl, rfl, hS', atI_nat (j := 0) gx, rfl, _, rfl, ?_⟩
          by_cases ex : x = -1
          · have d1 : (!decide (V.int x = V.int (-1))) = false := by rw [ex]; rfl
            rw [d1]
            exact iteF (fin false ⟨(fun z => nomatch z), fun z => absurd ex z.1⟩)
          · have d1 : (!decide (V.int x = V.int (-1))) = true := by rw [decide_eq_false fun z => ex (V.int.inj z)]; rfl
            rw [d1]
            refine iteT ⟨.ref a, rfl, 1, rfl, a, _, -1, .int y, rfl, rfl, hS', gy, rfl, ?_⟩
            refine fin _ ⟨fun z => ⟨ex, fun e => ?_⟩, fun z => ?_⟩
            · rw [e] at z; exact nomatch z
            · rw [decide_eq_false fun e => z.2 (V.int.inj e)]; rfl
/-! ### require_work, of any data -/
end
end Sg
set_option Elab.async false
set_option linter.all false
set_option maxRecDepth 100000
set_option maxHeartbeats 4000000
namespace Sg
open PySem PySem.Spec PyProof.Rows L2 StX
section
variable {P : Program} {w : World} {K : PySem.W.Frag} {mg : Str → Option Value} {base : Heap}
theorem ok_is_whole {f C : Addr} {fd : FuncData} {k : Nat} (LK : LineKit K C) (F : Fun K "_law_is_whole" "_law_is_whole" s_l_is_whole f fd) (m1 : mg "isinstance" = none) (m2 : mg "int" = none) (m3 : mg "bool" = none) :
    FnOk P w K mg base CX0 (k + 1) f fd ["_law_thing", "_law_low", "_law_high"] (spBetL K C) := by
  refine F.ok sc_l_is_whole (fun vs H Q E h => ?_) (fun cdv A outer s H vs Q E hr h => ?_)
  · obtain ⟨v, d, l, m, rfl, _⟩ := h; rfl
  · obtain ⟨v, d, l, m, rfl, hd, q⟩ := h
    refine ⟨_, pss_one (ps_ret (pe_and
      (pe_callB (call_isiL (K := K) rfl LK) (by rfl) m1 (by decide +kernel) (pa_cons (pv 0) (pa_cons (pe_bltn (v := .ty "int") (by rfl) m2 (by decide +kernel) rfl) pa_nil)))
      (pe_and (pe_not (pe_callB (call_isiL (K := K) rfl LK) (by rfl) m1 (by decide +kernel) (pa_cons (pv 0) (pa_cons (pe_bltn (v := .ty "bool") (by rfl) m3 (by decide +kernel) rfl) pa_nil))))
        (pe_one (pe_chain op_le op_le (pv 1) (pv 0) (pv 2)))))), ?_⟩
    refine ⟨v, rfl, v, d, "int", rfl, hd, .inr (.inl rfl), isB "int" d, rfl, ?_⟩
    have e := isInt_eqL d
    have no : isIntD d = false → betD d l m = false := fun z => by cases d <;> first | rfl | exact nomatch z
    cases h1 : isB "int" d with
    | false =>
      rw [h1] at e
      rw [no e.symm] at q
      exact iteF q
    | true =>
      rw [h1, Bool.true_and] at e
      refine iteT ⟨v, rfl, v, d, "bool", rfl, hd, .inr (.inr (.inl rfl)), isB "bool" d, rfl, !isB "bool" d, rfl, ?_⟩
      rw [e]
      cases hi : isIntD d with
      | false => rw [no hi] at q; exact iteF q
      | true =>
        obtain ⟨i, rfl⟩ : ∃ i, d = .int i := by cases d <;> first | exact ⟨_, rfl⟩ | exact nomatch hi
        obtain rfl : v = .int i := hd.int_inv
        refine iteT ⟨.int l, rfl, .int i, rfl, l, i, rfl, rfl, decide (l ≤ i), rfl, ?_⟩
        have e : betD (.int i) l m = (decide (l ≤ i) && decide (i ≤ m)) := rfl
        rw [e] at q
        by_cases h1 : l ≤ i
        · rw [decide_eq_true h1] at q ⊢
          exact iteT ⟨.int m, rfl, i, m, rfl, rfl, q⟩
        · rw [decide_eq_false h1] at q ⊢
          exact iteF q
theorem ok_l_is_work {f f1 C : Addr} {fd fd1 : FuncData} {k : Nat} (LK : LineKit K C) (F : Fun K "_law_is_work" "_law_is_work" s_l_is_work f fd)
    (G1 : FnOk P w K mg base CX0 k f1 fd1 ["_law_thing", "_law_low", "_law_high"] (spBetL K C)) (kp1 : PySem.W.keepIn K (.ref f1) = true) (b1 : Binds K fd1 ["_law_thing", "_law_low", "_law_high"] []) (g1 : mg "_law_is_whole" = some (.ref f1))
    (m1 : mg "isinstance" = none) (m2 : mg "tuple" = none) (m3 : mg "len" = none) :
    FnOk P w K mg base CX0 (k + 1) f fd ["_law_thing"] (spIsWorkL K C) := by
  refine F.ok sc_l_is_work (fun vs H Q E h => ?_) (fun cdv A outer s H vs Q E hr h => ?_)
  · obtain ⟨v, d, rfl, _⟩ := h; rfl
  · obtain ⟨v, d, rfl, hd, q⟩ := h
    refine ⟨_, pss_cons (ps_if (PW.pt (pw_or (pt_not (pt_val (pe_callB (call_isiL (K := K) rfl LK) (by rfl) m1 (by decide +kernel) (pa_cons (pv 0) (pa_cons (pe_bltn (v := .ty "tuple") (by rfl) m2 (by decide +kernel) rfl) pa_nil)))))
          (pw_or1 (pt_not (pt_chain op_le op_le pe_int (pe_callB call_len_seq (by rfl) m3 PySem.boot_len (pa_cons (pv 0) pa_nil)) pe_int)))))
        (pss_one (ps_ret pe_bl)) pss_nil)
      (pss_cons (ps_if (pt_cmpR (op_neNil hr.units0) (pe_lc (own := [("_law_one", 1)]) (g := gName 1) rfl sc_l_is_work.nd (pi_tup (pv 0)) (blkOk_by (N := ["_law_thing", "_law_one"]) (sc := defScope s_l_is_work) (by decide +kernel))
            (fun _ _ _ _ _ => pg_name (i := 1) sc_l_is_work.nd rfl (Or.inl rfl))
            (fun _ _ _ _ _ => pts_one (pt_not (pt_val (pe_call G1 hr (by rfl) g1 kp1 b1 .nil pass0 (pa_cons (pv 1) (pa_cons (pe_un un_neg pe_int) (pa_cons pe_int pa_nil)))))))
            (fun _ _ _ _ _ => pv 1)) (pe_lst pa_nil) (nomark _))
        (pss_one (ps_ret pe_bl)) pss_nil)
      (pss_one (ps_ret (pe_and (pe_cmpR op_gt (pe_ix ix_tup (pv 0) pe_int (fun _ _ => rfl)) (pe_un un_neg pe_int) (nomark _))
        (pe_one (pe_cmpR op_gt (pe_ix ix_tup (pv 0) (pe_un un_neg pe_int) (fun _ _ => rfl)) (pe_un un_neg pe_int) (nomark _))))))), ?_⟩
    refine ⟨v, rfl, v, d, "tuple", rfl, hd, .inl rfl, isB "tuple" d, rfl, ?_⟩
    cases ht : isB "tuple" d with
    | false =>
      refine iteT ?_
      refine q H false (same_refl H) ⟨(fun z => nomatch z), fun ⟨ns, z, _⟩ => ?_⟩
      rw [z] at ht
      exact nomatch ht
    | true =>
      obtain ⟨ds, rfl⟩ := isB_tup.mp ht
      obtain ⟨a, xs, rfl, hS, hA⟩ := hd.tuple_inv
      have lx := LpAll.len hA
      have nowork : ∀ {H'}, Same H H' → (∀ ns, ds = iD ns → ¬ IsWork ns) → Q (.bl false) H' := fun {H'} e no => q H' false e ⟨(fun z => nomatch z), fun ⟨ns, z, hw⟩ => absurd hw (no ns (PyData.tuple.inj z))⟩
      refine iteF ?_
      refine ⟨.ref a, rfl, a, xs, rfl, .inr hS, 1, _, rfl, rfl, decide ((1 : Int) ≤ ((xs.length : Nat) : Int)), rfl, ?_⟩
      by_cases c1 : (1 : Int) ≤ ((xs.length : Nat) : Int)
      case neg =>
        rw [decide_eq_false c1]
        refine iteF ⟨false, rfl, iteT (nowork (same_refl H) fun ns e hw => ?_)⟩
        have := hw.pos
        rw [e, List.length_map] at lx
        omega
      rw [decide_eq_true c1]
      refine iteT ⟨_, 60, rfl, rfl, decide (((xs.length : Nat) : Int) ≤ 60), rfl, ?_⟩
      by_cases c2 : ((xs.length : Nat) : Int) ≤ 60
      case neg =>
        rw [decide_eq_false c2]
        refine iteT (nowork (same_refl H) fun ns e hw => ?_)
        have := hw.most
        rw [e, List.length_map] at lx
        omega
      rw [decide_eq_true c2]
      refine iteF ?_
      refine ⟨.ref a, rfl, a, rfl, ⟨_, hS⟩, fun D hD => ?_⟩
      refine lc_tup (xs := xs) (fun i H' => Same H H' ∧ ∃ acc, H' D = some (.lst acc) ∧ acc.length ≤ i ∧ (acc = [] ↔ ∀ z ∈ ds.take i, betD z (-1) 9 = true)) ⟨same_new hD, [], upd_same, Nat.le_refl _, by simp⟩ (fun i H' _ h => Same.tup h.1 hS) (fun i x H' hx h => ?_) (fun H' h => ?_)
      · obtain ⟨sm, acc, hac, hal, hall⟩ := h
        obtain ⟨dd, hdd, hxd⟩ := LpAll.at hA hx
        have hil := (List.getElem?_eq_some_iff.mp hdd).1
        have htk : ds.take (i + 1) = ds.take i ++ [dd] := by rw [List.take_add_one, hdd]; rfl
        refine ⟨rfl, x, rfl, 1, rfl, x, dd, -1, 9, rfl, hxd.same sm, betD dd (-1) 9, rfl, ?_⟩
        cases hb : betD dd (-1) 9 with
        | true =>
          refine iteF ⟨sm, acc, hac, by omega, hall.trans ⟨fun h z hz => ?_, fun h z hz => h z (by rw [htk]; exact List.mem_append_left _ hz)⟩⟩
          rw [htk] at hz
          rcases List.mem_append.mp hz with hz | hz
          · exact h z hz
          · rw [List.mem_singleton.mp hz]; exact hb
        | false =>
          refine iteT ⟨x, rfl, acc, hac, small1000 (by omega), ?_⟩
          refine ⟨fun b o e => ?_, _, upd_same, by rw [List.length_append]; show acc.length + 1 ≤ i + 1; omega, ⟨fun z => absurd z (by simp), fun h => ?_⟩⟩
          · rw [upd_ne (ne_of_none e hD)]; exact sm _ _ e
          · have := h dd (by rw [htk]; exact List.mem_append_right _ List.mem_cons_self)
            rw [hb] at this
            exact nomatch this
      · obtain ⟨sm, acc, hac, hal, hall⟩ := h
        refine ⟨by show 0 ≤ sizeLine; omega, fun p hp => ?_⟩
        have nDp : D ≠ p := ne_of_none hac hp
        have sm' : Same H (upd H' p (.lst [])) := sm.trans (same_new hp)
        refine ⟨D, p, acc, rfl, rfl, .of (by rw [upd_ne nDp]; exact hac), .of upd_same, _, rfl, ?_⟩
        rw [lx, List.take_length] at hall
        cases hacc : acc with
        | cons y acc' =>
          refine iteT (nowork sm' fun ns e hw => ?_)
          have : acc = [] := hall.mpr fun z hz => by
            rw [e] at hz
            exact ints_bet (fun x hx => hw.items x hx) z hz
          rw [hacc] at this
          exact nomatch this
        | nil =>
          have hall := hall.mp hacc
          obtain ⟨ns, rfl, hns⟩ := all_ints hall
          obtain rfl := lpInts_v hA
          have ln : (ns.map V.int).length = ns.length := List.length_map _
          rw [ln] at c1 c2
          refine iteF ?_
          have hS' : SqT K (upd H' p (.lst [])) a (ns.map V.int) := Same.tup sm' hS
          obtain ⟨x, hx⟩ : ∃ x, ns[0]? = some x := ⟨ns[0]'(by omega), List.getElem?_eq_getElem _⟩
          obtain ⟨y, hy⟩ : ∃ y, ns[ns.length - 1]? = some y := ⟨ns[ns.length - 1]'(by omega), List.getElem?_eq_getElem _⟩
          have gx : (ns.map V.int)[0]? = some (.int x) := by rw [List.getElem?_map, hx]; rfl
          have gy : atI (ns.map V.int) (-1) = some (.int y) := by
            have hne : ns ≠ [] := fun z => by rw [z] at c1; exact absurd c1 (by decide)
            have e1 : ns = ns.dropLast ++ [y] := by
              have e2 : ns.getLast hne = y := by
                have := List.getLast_eq_getElem hne
                rw [this]
                exact (List.getElem?_eq_some_iff.mp hy).2
              rw [← e2, List.dropLast_concat_getLast]
            rw [e1, List.map_append]
            exact atI_last _ _
          have bx := hns x (List.mem_of_getElem? hx)
          have byy := hns y (List.mem_of_getElem? hy)
          have fin : ∀ b : Bool, (b = true ↔ x ≠ -1 ∧ y ≠ -1) → Q (.bl b) (upd H' p (.lst [])) := fun b hb => q _ b sm' (hb.trans ⟨fun ⟨g1, g2⟩ => ⟨ns, rfl, ⟨by omega, by omega, hns, fun z hz => by rw [hx] at hz; rw [← Option.some.inj hz]; exact g1, fun z hz => by rw [hy] at hz; rw [← Option.some.inj hz]; exact g2⟩⟩,
            fun ⟨ms, e, hw⟩ => by
              have e' : ns = ms := by
                have := congrArg (fun l : List PyData => l.map fun d => match d with | .int i => i | _ => 0) (PyData.tuple.inj e)
                simpa [List.map_map, Function.comp_def] using this
              subst e'
              exact ⟨hw.head x hx, hw.last y hy⟩⟩)
          refine ⟨.ref a, rfl, a, _, 0, .int x, rfl, rfl, hS', atI_nat (j := 0) gx, 1, rfl, x, -1, rfl, rfl, _, rfl, ?_⟩
          by_cases ex : x = -1
          · rw [decide_eq_false (by omega)]
            exact iteF (fin false ⟨(fun z => nomatch z), fun z => absurd ex z.1⟩)
          · rw [decide_eq_true (by omega)]
            refine iteT ⟨.ref a, rfl, 1, rfl, a, _, -1, .int y, rfl, rfl, hS', gy, 1, rfl, y, -1, rfl, rfl, ?_⟩
            refine fin _ ⟨fun z => ⟨ex, fun e => ?_⟩, fun z => decide_eq_true (by omega)⟩
            have := of_decide_eq_true z
            omega
/-! ### _law_same, of two rows of truths -/
def spSame2 (K : PySem.W.Frag) : Sp := fun vs H Q _ => ∃ (a b : Addr) (t : Bool), vs = [.ref a, .ref b] ∧ H a = some (.lst [.bl t, .bl t]) ∧ H b = some (.lst [.bl t, .bl t]) ∧ Q (.bl true) H
theorem good_bools (b : Bool) : GoodD (.list [.bool b, .bool b]) := by cases b <;> exact good_by (by decide +kernel)
theorem ok_same2 {f : Addr} {fd : FuncData} {k : Nat} (F : Fun K "_law_same" "_law_same" s_l_same f fd) (m1 : mg "repr" = none) :
    FnG P w K mg base (k + 1) f fd ["_law_found", "_law_due"] (spSame2 K) := by
  refine fnG_mk F sc_l_same (fun vs H Q h => ?_) (fun cdv A outer s H vs Q hg hr h => ?_)
  · obtain ⟨a, b, t, rfl, _⟩ := h; rfl
  · obtain ⟨a, b, t, rfl, ha, hb, q⟩ := h
    refine ⟨_, pss_one (ps_ret (pe_cmpR op_eq (pe_callB (call_reprA hg hr) (by rfl) m1 (by decide +kernel) (pa_cons (pv 0) pa_nil))
      (pe_callB (call_reprA hg hr) (by rfl) m1 (by decide +kernel) (pa_cons (pv 1) pa_nil)) (nomark _))), ?_⟩
    refine ⟨.ref a, rfl, .ref a, _, rfl, .data (.lst (.of ha) (.cons (.bl t) (.cons (.bl t) .nil))), good_bools t, .ref b, rfl, .ref b, _, rfl, .data (.lst (.of hb) (.cons (.bl t) (.cons (.bl t) .nil))), good_bools t, rfl, ?_⟩
    rw [decide_eq_true rfl]
    exact q
end
end Sg
set_option Elab.async false
set_option linter.all false
set_option maxRecDepth 100000
set_option maxHeartbeats 4000000
namespace Sg
open PySem PySem.Spec PyProof.Rows L2 StX
section
variable {P : Program} {w : World} {K : PySem.W.Frag} {mg : Str → Option Value} {base : Heap}
/-! ### _law_work -/
def spWork : Sp := fun vs H Q _ => ∃ (p : Addr) (m st : Int), vs = [.ref p, .int m, .int st] ∧ PenAt H p ∧ 1 ≤ m ∧ m ≤ 60 ∧ 1 ≤ st ∧ st ≤ 10 ∧
  ∀ H' t (ns : List Int), PenAt H' p → But p H H' → H t = none → FrzT H' t (ns.map V.int) → IsWork ns → (ns.length : Int) ≤ m → (∀ x ∈ ns, x < st) → Q (.ref t) H'
theorem ok_l_work {f f1 : Addr} {fd fd1 : FuncData} {k : Nat} (F : Fun K "_law_work" "_law_work" s_l_work f fd)
    (G1 : FnOk P w K mg base CX0 k f1 fd1 ["_law_pen_here", "_law_many"] spDraw) (kp1 : PySem.W.keepIn K (.ref f1) = true) (b1 : Binds K fd1 ["_law_pen_here", "_law_many"] []) (g1 : mg "_law_draw" = some (.ref f1))
    (m1 : mg "range" = none) (m2 : mg "tuple" = none) :
    FnOk P w K mg base CX0 (k + 1) f fd ["_law_pen_here", "_law_most", "_law_stations"] spWork := by
  refine F.ok sc_l_work (fun vs H Q E h => ?_) (fun cdv A outer s H vs Q E hr h => ?_)
  · obtain ⟨p, m, st, rfl, _⟩ := h; rfl
  · obtain ⟨p, m, st, rfl, hp, hm1, hm2, hs1, hs2, q⟩ := h
    refine ⟨_, pss_cons (ps_asg (pe_tup (pa_cons (pe_call G1 hr (by rfl) g1 kp1 b1 .nil pass0 (pa_cons (pv 0) (pa_cons pe_int pa_nil)))
        (pa_cons (pe_op op_add pe_int (pe_call G1 hr (by rfl) g1 kp1 b1 .nil pass0 (pa_cons (pv 0) (pa_cons (pv 1) pa_nil)))) pa_nil)))
        (pg_tup rfl (pgs_cons (pg_name (i := 3) sc_l_work.nd rfl (.inr rfl)) (pgs_cons (pg_name (i := 4) sc_l_work.nd rfl (.inl rfl)) pgs_nil))))
      (pss_cons (ps_setLc (i := 5) (own := [("_law_turn", 6)]) (g := gName 6) (tt := tYes) rfl sc_l_work.nd rfl rfl (sw_true rfl rfl rfl (by decide +kernel)) (pi_range1 (by rfl) m1 (pa_cons (pv 4) pa_nil))
          (blkOk_by (N := ["_law_pen_here", "_law_most", "_law_stations", "_law_way", "_law_long", "_law_items", "_law_turn"]) (sc := defScope s_l_work) (by decide +kernel))
          (fun _ _ _ _ _ => pg_name (i := 6) sc_l_work.nd rfl (Or.inl rfl)) (fun _ _ _ _ _ => pts_nil)
          (fun _ _ _ _ _ => pe_ifExp (pt_cmpR op_ge (pe_call G1 hr (by rfl) g1 kp1 b1 .nil pass0 (pa_cons (pv 0) (pa_cons pe_int pa_nil))) (pv 3) (nomark _))
            (pe_call G1 hr (by rfl) g1 kp1 b1 .nil pass0 (pa_cons (pv 0) (pa_cons (pv 2) pa_nil))) (pe_un un_neg pe_int)))
      (pss_cons (ps_asg (pe_tup (pa_cons (pe_call G1 hr (by rfl) g1 kp1 b1 .nil pass0 (pa_cons (pv 0) (pa_cons (pv 2) pa_nil))) (pa_cons (pe_call G1 hr (by rfl) g1 kp1 b1 .nil pass0 (pa_cons (pv 0) (pa_cons (pv 2) pa_nil))) pa_nil)))
        (pg_tup rfl (pgs_cons (pg_sub (pv 5) pe_int set_list) (pgs_cons (pg_sub (pv 5) (pe_un un_neg pe_int) set_list) pgs_nil))))
      (pss_one (ps_ret (pe_callTy call_tupleF (by rfl) m2 (by decide +kernel) (pa_cons (pv 5) pa_nil)))))), ?_⟩
    refine ⟨.ref p, rfl, p, 3, rfl, hp, by decide, by decide, fun H1 way a1 a2 p1 e1 => ?_⟩
    refine ⟨.ref p, rfl, .int m, rfl, p, m, rfl, p1, by omega, by omega, fun H2 l0 a3 a4 p2 e2 => ?_⟩
    refine ⟨1, l0, rfl, rfl, by show 2 ≤ sizeLine; decide, fun T nT => ?_⟩
    have e12 := e1.trans e2
    have p3 : PenAt (upd H2 T (.tup [.int way, .int (1 + l0)])) p := p2.upd (p2.ne nT)
    have e3 : But p H (upd H2 T (.tup [.int way, .int (1 + l0)])) := e12.trans (.of (same_new nT))
    refine ⟨T, _, rfl, .of upd_same, rfl, _, _, rfl, _, _, rfl, rfl, ?_⟩
    generalize hH3 : upd H2 T (.tup [.int way, .int (1 + l0)]) = H3 at p3 e3 ⊢
    refine ⟨.int (1 + l0), rfl, 1 + l0, rfl, by omega, by omega, fun D hD => ?_⟩
    have n3 : p ≠ D := p3.ne hD
    refine lc_range (lo := 0) (n := (1 + l0).toNat) (fun i H' => PenAt H' p ∧ But p H3 H' ∧ ∃ ns : List Int, ns.length = i ∧ (∀ x ∈ ns, -1 ≤ x ∧ x < st) ∧ H' D = some (.lst (ns.map V.int)))
      ⟨p3.upd n3, .of (same_new hD), [], rfl, (fun x hx => nomatch hx), upd_same⟩ (fun i H' hi h => ?_) (fun H' h => ?_)
    · obtain ⟨p4, e4, ns, hlen, hall, hDl⟩ := h
      refine ⟨rfl, ?_⟩
      have fin : ∀ (H'' : Hp) (r : Int), PenAt H'' p → But p H' H'' → -1 ≤ r → r < st → ∃ acc, H'' D = some (.lst acc) ∧ acc.length < sizeLine ∧
          (PenAt (upd H'' D (.lst (acc ++ [V.int r]))) p ∧ But p H3 (upd H'' D (.lst (acc ++ [V.int r]))) ∧ ∃ ns : List Int, ns.length = i + 1 ∧ (∀ x ∈ ns, -1 ≤ x ∧ x < st) ∧ (upd H'' D (.lst (acc ++ [V.int r]))) D = some (.lst (ns.map V.int))) := by
        intro H'' r p5 e5 r1 r2
        have hD5 := e5 _ _ (Ne.symm n3) hDl
        refine ⟨_, hD5, ?_, p5.upd n3, fun b o n e => ?_, ns ++ [r], ?_, fun x hx => ?_, ?_⟩
        · rw [List.length_map]
          exact small1000 (by omega)
        · rw [upd_ne (ne_of_none e hD)]
          exact e5 _ _ n (e4 _ _ n e)
        · rw [List.length_append]; show ns.length + 1 = i + 1; omega
        · rcases List.mem_append.mp hx with z | z
          · exact hall x z
          · rw [List.mem_singleton.mp z]; exact ⟨r1, r2⟩
        · rw [upd_same, List.map_append]; rfl
      refine ⟨.ref p, rfl, p, 3, rfl, p4, by decide, by decide, fun H5 r b1 b2 p5 e5 => ?_⟩
      refine ⟨.int way, rfl, r, way, rfl, rfl, _, rfl, ite2 (fun _ => ?_) (fun _ => ?_)⟩
      · exact ⟨.ref p, rfl, .int st, rfl, p, st, rfl, p5, by omega, by omega, fun H6 r' c1 c2 p6 e6 => fin H6 r' p6 (e5.trans e6) (by omega) c2⟩
      · exact ⟨1, rfl, fin H5 (-1) p5 e5 (by omega) (by omega)⟩
    · obtain ⟨p4, e4, ns, hlen, hall, hDl⟩ := h
      refine ⟨.ref p, rfl, .int st, rfl, p, st, rfl, p4, by omega, by omega, fun H5 r c1 c2 p5 e5 => ?_⟩
      refine ⟨.ref p, rfl, .int st, rfl, p, st, rfl, p5, by omega, by omega, fun H6 r' c3 c4 p6 e6 => ?_⟩
      refine ⟨by show 2 ≤ sizeLine; decide, fun U nU => ?_⟩
      have hD6 := (e5.trans e6) _ _ (Ne.symm n3) hDl
      have nDU : D ≠ U := ne_of_none hD6 nU
      have hl0 : 0 < ns.length := by omega
      have hpos : ((ns.map V.int).length : Nat) = ns.length := by rw [List.length_map]
      refine ⟨U, _, rfl, .of upd_same, rfl, _, _, rfl, ?_⟩
      have hD7 : (upd H6 U (.tup [.int r, .int r'])) D = some (.lst (ns.map V.int)) := by rw [upd_ne nDU]; exact hD6
      have ix0 : ixN (ns.map V.int).length 0 = some 0 := by
        unfold ixN
        rw [if_pos (by decide), if_pos (by rw [hpos]; omega)]; rfl
      refine ⟨.ref D, rfl, D, _, 0, 0, rfl, rfl, hD7, ix0, ?_⟩
      have hD8 : (upd (upd H6 U (.tup [.int r, .int r'])) D (.lst ((ns.map V.int).set 0 (.int r)))) D = some (.lst ((ns.map V.int).set 0 (.int r))) := upd_same
      have ix1 : ixN ((ns.map V.int).set 0 (.int r)).length (-1) = some (ns.length - 1) := by
        unfold ixN
        rw [List.length_set, hpos, if_neg (by decide), if_pos (by omega)]
        congr 1
        omega
      refine ⟨_, _, rfl, .ref D, rfl, 1, rfl, D, _, -1, ns.length - 1, rfl, rfl, hD8, ix1, rfl, ?_⟩
      have eL : (((ns.map V.int).set 0 (.int r)).set (ns.length - 1) (.int r')) = (((ns.set 0 r).set (ns.length - 1) r').map V.int) := by rw [List.map_set, List.map_set]
      rw [eL]
      have hD9 : (upd (upd (upd H6 U (.tup [.int r, .int r'])) D (.lst ((ns.map V.int).set 0 (.int r)))) D (.lst (((ns.set 0 r).set (ns.length - 1) r').map V.int))) D = some (.lst (((ns.set 0 r).set (ns.length - 1) r').map V.int)) := upd_same
      have mem : ∀ x ∈ ((ns.set 0 r).set (ns.length - 1) r'), -1 ≤ x ∧ x < st := by
        intro x hx
        rcases List.mem_or_eq_of_mem_set hx with z | z
        · rcases List.mem_or_eq_of_mem_set z with z | z
          · exact hall x z
          · rw [z]; exact ⟨by omega, c2⟩
        · rw [z]; exact ⟨by omega, c4⟩
      have len' : ((ns.set 0 r).set (ns.length - 1) r').length = ns.length := by rw [List.length_set, List.length_set]
      refine ⟨.ref D, rfl, D, _, rfl, .of hD9, fun t ob nt c1 d1 => ?_⟩
      refine q _ t ((ns.set 0 r).set (ns.length - 1) r') ?_ ?_ ?_ ⟨ob, upd_same, c1, d1⟩ ⟨by omega, by omega, fun x hx => ?_, fun x hx => ?_, fun x hx => ?_⟩ (by omega) (fun x hx => (mem x hx).2)
      · refine PenAt.upd (PenAt.upd (PenAt.upd (p6.upd (p6.ne nU)) n3) n3) (PenAt.ne (PenAt.upd (PenAt.upd (p6.upd (p6.ne nU)) n3) n3) nt)
      · refine fun b o n e => ?_
        have z := (e5.trans e6) _ _ n (e4 _ _ n (e3 _ _ n e))
        have nbD : b ≠ D := ne_of_none (e3 _ _ n e) hD
        have nbU : b ≠ U := ne_of_none z nU
        rw [upd_ne (ne_of_none (show (upd (upd (upd H6 U (.tup [.int r, .int r'])) D (.lst ((ns.map V.int).set 0 (.int r)))) D (.lst (((ns.set 0 r).set (ns.length - 1) r').map V.int))) b = some o by rw [upd_ne nbD, upd_ne nbD, upd_ne nbU]; exact z) nt), upd_ne nbD, upd_ne nbD, upd_ne nbU]
        exact z
      · -- t is new
        have nt6 : H6 t = none := by
          have z := nt
          have htD : t ≠ D := fun z' => by rw [z', hD9] at z; exact nomatch z
          rw [upd_ne htD, upd_ne htD] at z
          by_cases htU : t = U
          · rw [htU]; exact nU
          · rwa [upd_ne htU] at z
        exact hp.free p6 (e3.trans (e4.trans (e5.trans e6))) nt6
      · exact ⟨(mem x hx).1, by have := (mem x hx).2; omega⟩
      · have : x = r ∨ x = r' := by
          rw [List.getElem?_set] at hx
          split at hx
          · rw [if_pos (by rw [List.length_set]; omega)] at hx
            exact .inr (Option.some.inj hx).symm
          · rw [List.getElem?_set, if_pos rfl, if_pos hl0] at hx
            exact .inl (Option.some.inj hx).symm
        omega
      · rw [len', List.getElem?_set, if_pos rfl, if_pos (by rw [List.length_set]; omega)] at hx
        have := Option.some.inj hx
        omega
end
end Sg
set_option Elab.async false
set_option linter.all false
set_option maxRecDepth 100000
set_option maxHeartbeats 4000000
namespace Sg
open PySem PySem.Spec PyProof.Rows L2 StX
section
variable {P : Program} {w : World} {K : PySem.W.Frag} {mg : Str → Option Value} {base : Heap}
/-! ### _law_odds -/
/-- a list of some data, made of what is new -/
def spAnys (K : PySem.W.Frag) : Sp := fun vs H Q _ => vs = [] ∧ ∀ H' l xs, Same H H' → H l = none → H' l = some (.lst xs) → AllAny K (nw H H') xs → xs.length ≤ 100 → Q (.ref l) H'
/-- from H0 on: a list of some data at l -/
def AnyL (K : PySem.W.Frag) (H0 H : Hp) (n : Nat) (l : Addr) : Prop := ∃ xs, Same H0 H ∧ H0 l = none ∧ H l = some (.lst xs) ∧ AllAny K (nw H0 H) xs ∧ xs.length = n
theorem AnyL.cat {H0 H H' : Hp} {n m : Nat} {l l' : Addr} (h : AnyL K H0 H n l) (g : AnyL K H H' m l') (e : n + m ≤ 1000) {Q : VK} (q : ∀ H'' p, AnyL K H0 H'' (n + m) p → Q (.ref p) H'') : rCat (.ref l) (.ref l') H' Q := by
  obtain ⟨xs, a1, a2, a3, a4, a5⟩ := h
  obtain ⟨ys, b1, b2, b3, b4, b5⟩ := g
  have big : 1000 ≤ sizeLine := by rw [sizeLine_eq]; decide
  refine ⟨l, l', xs, ys, rfl, rfl, b1 _ _ a3, b3, by omega, fun p np => q _ p ⟨xs ++ ys, a1.trans (b1.trans (same_new np)), same_none (a1.trans b1) np, upd_same, ?_, by rw [List.length_append]; omega⟩⟩
  refine AllAny.app (a4.same (nw_same (b1.trans (same_new np)))) ((b4.same (nw_left a1)).same (nw_same (same_new np)))
theorem tAnyL.at {n : Nat} {σ : L2.St} {H : Hp} {Q : VK} (q : ∀ H' l, AnyL K H H' n l → Q (.ref l) H') : tAnyL K n σ H Q := fun H' l vs e1 e2 e3 e4 e5 => q H' l ⟨vs, e1, e2, e3, e4, e5⟩
theorem ok_l_odds {f : Addr} {fd : FuncData} {k : Nat} (F : Fun K "_law_odds" "_law_odds" s_l_odds f fd) : FnOk P w K mg base CX0 (k + 1) f fd [] (spAnys K) := by
  refine F.ok sc_l_odds (fun vs H Q E h => ?_) (fun cdv A outer s H vs Q E hr h => ?_)
  · rw [h.1]; rfl
  · obtain ⟨rfl, q⟩ := h
    refine ⟨_, pss_cons (ps_set (i := 0) sc_l_odds.nd rfl (.inl rfl) (pe_anyL (n := 20) (by decide +kernel) rfl (by decide)))
      (pss_cons (ps_set (i := 0) sc_l_odds.nd rfl (.inl rfl) (pe_op op_cat (pv 0) (pe_anyL (n := 11) (by decide +kernel) rfl (by decide))))
      (pss_cons (ps_set (i := 0) sc_l_odds.nd rfl (.inl rfl) (pe_op op_cat (pv 0) (pe_anyL (n := 9) (by decide +kernel) rfl (by decide))))
      (pss_cons (ps_set (i := 0) sc_l_odds.nd rfl (.inl rfl) (pe_op op_cat (pv 0) (pe_anyL (n := 9) (by decide +kernel) rfl (by decide))))
      (pss_one (ps_ret (pe_op op_cat (pv 0) (pe_anyL (n := 9) (by decide +kernel) rfl (by decide)))))))), ?_⟩
    refine fun H1 l1 x1 a1 a2 a3 a4 a5 => ⟨.ref l1, rfl, fun H2 l2 x2 b1 b2 b3 b4 b5 => AnyL.cat (K := K) ⟨x1, a1, a2, a3, a4, a5⟩ ⟨x2, b1, b2, b3, b4, b5⟩ (by decide) fun H3 p3 A3 => ?_⟩
    refine ⟨.ref p3, rfl, fun H2 l2 x2 b1 b2 b3 b4 b5 => A3.cat ⟨x2, b1, b2, b3, b4, b5⟩ (by decide) fun H5 p5 A5 => ?_⟩
    refine ⟨.ref p5, rfl, fun H2 l2 x2 b1 b2 b3 b4 b5 => A5.cat ⟨x2, b1, b2, b3, b4, b5⟩ (by decide) fun H7 p7 A7 => ?_⟩
    refine ⟨.ref p7, rfl, fun H2 l2 x2 b1 b2 b3 b4 b5 => A7.cat ⟨x2, b1, b2, b3, b4, b5⟩ (by decide) fun H9 p9 A9 => ?_⟩
    obtain ⟨xs, a1, a2, a3, a4, a5⟩ := A9
    exact q H9 p9 xs a1 a2 a3 a4 (by omega)
/-! ### _law_great -/
def deepD : Nat → PyData
  | 0 => .int 0
  | n + 1 => .tuple [deepD n]
theorem rep_any {H0 H : Hp} {p : Addr} {i : Int} {n : Nat} (h0 : H0 p = none) (hi : i = 0 ∨ i = -1) (hn : n ≤ 4000) : AnyV K (nw H0 (upd H p (.tup (List.replicate n [V.int i]).flatten))) (.ref p) := by
  have sm : SmL 1 [PyData.int i] := by rcases hi with rfl | rfl <;> exact smL_by (by decide +kernel)
  exact ⟨.tuple (List.replicate n [.int i]).flatten, .data (.tup (.of ((nw_none h0).trans upd_same)) (DpAll.rep (.cons (.int i) .nil) n)), (sm.rep n).tup (by omega)⟩
theorem repl_any {H0 H : Hp} {p : Addr} {i : Int} {n : Nat} (h0 : H0 p = none) (hi : i = 0 ∨ i = -1) (hn : n ≤ 4000) : AnyV K (nw H0 (upd H p (.lst (List.replicate n [V.int i]).flatten))) (.ref p) := by
  have sm : SmL 1 [PyData.int i] := by rcases hi with rfl | rfl <;> exact smL_by (by decide +kernel)
  exact ⟨.list (List.replicate n [.int i]).flatten, .data (.lst (.of ((nw_none h0).trans upd_same)) (DpAll.rep (.cons (.int i) .nil) n)), (sm.rep n).lst (by omega)⟩
/-- the state of _law_great at its end -/
def GreatS (K : PySem.W.Frag) (H0 : Hp) (σ : L2.St) (H : Hp) : Prop := ∃ v x, σ = [some v, x] ∧ Same H0 H ∧ Tp K (nw H0 H) v (deepD 18)
theorem ok_l_great {f : Addr} {fd : FuncData} {k : Nat} (F : Fun K "_law_great" "_law_great" s_l_great f fd) (m1 : mg "range" = none) : FnOk P w K mg base CX0 (k + 1) f fd [] (spAnys K) := by
  refine F.ok sc_l_great (fun vs H Q E h => ?_) (fun cdv A outer s H vs Q E hr h => ?_)
  · rw [h.1]; rfl
  · obtain ⟨rfl, q⟩ := h
    have stS : ∀ σ H1 H2, Same H1 H2 → GreatS K H σ H1 → GreatS K H σ H2 := fun σ H1 H2 e ⟨v, x, e1, e2, e3⟩ => ⟨v, x, e1, e2.trans e, e3.stay (.of (nw_same e))⟩
    have stR : ∀ (H1 H2 : Hp) v, Same H1 H2 → AnyV K (nw H H1) v → AnyV K (nw H H2) v := fun H1 H2 v e h => h.same (nw_same e)
    have pos : ∀ {m : Nat}, m ≤ 100000 → m ≤ sizeLine := fun h => Nat.le_trans h (by rw [sizeLine_eq]; decide)
    refine ⟨_, pss_cons (ps_set (i := 0) sc_l_great.nd rfl (.inl rfl) pe_int)
      (pss_cons (ps_for PassesOwn.never rfl (pi_range1 (by rfl) m1 (pa_cons pe_int pa_nil)) (pg_name (i := 1) sc_l_great.nd rfl (.inl rfl))
        (pss_one (ps_set (i := 0) sc_l_great.nd rfl (.inl rfl) (pe_tup (pa_cons (pv 0) pa_nil)))))
      (pss_one (ps_ret (pe_lst (pa_e (S := GreatS K H) (R := fun H' v => AnyV K (nw H H') v) stS stR (PE.e (pv 0) fun σ H1 Q1 hS q1 => ?_)
        (pa_e stS stR (PE.e (pe_op op_repB (pe_tup (pa_cons pe_int pa_nil)) pe_int) fun σ H1 Q1 hS q1 => ?_)
        (pa_e stS stR (PE.e (pe_op op_rep (pe_lst (pa_cons pe_int pa_nil)) pe_int) fun σ H1 Q1 hS q1 => ?_)
        (pa_e stS stR (PE.e (pe_op op_repB (pe_tup (pa_cons (pe_un un_neg pe_int) pa_nil)) pe_int) fun σ H1 Q1 hS q1 => ?_)
        (pa_e stS stR (PE.e (pe_disp (pps_cons pe_int (pv 0) pps_nil) rfl rfl (fun z => nomatch z) (by show 1 ≤ 15; decide)) fun σ H1 Q1 hS q1 => ?_)
        (pa_e stS stR (PE.e (pe_tup (pa_cons (pe_op op_repB (pe_tup (pa_cons pe_int pa_nil)) pe_int) (pa_cons (pv 0) pa_nil))) fun σ H1 Q1 hS q1 => ?_)
        (pa_e stS stR (PE.e (pe_tup (pa_cons (pe_op op_mulS pe_str pe_int) pa_nil)) fun σ H1 Q1 hS q1 => ?_) pa_e0))))))))))), ?_⟩
    · obtain ⟨v, x, rfl, sm, hT⟩ := hS
      exact ⟨v, rfl, q1 H1 v (same_refl H1) ⟨_, .data (Tp.dp hT), good_by (by decide +kernel)⟩⟩
    · obtain ⟨v, x, rfl, sm, hT⟩ := hS
      refine ⟨pos (by decide), fun t nt => ⟨t, 3000, _, rfl, rfl, .of upd_same, (fun z => nomatch z), by decide, by decide, fun p np => ?_⟩⟩
      have e1 := (same_new (o := .tup [V.int 0]) nt).trans (same_new (o := .tup (List.replicate 3000 [V.int 0]).flatten) np)
      exact q1 _ _ e1 (rep_any (same_none (sm.trans (same_new nt)) np) (.inl rfl) (by decide))
    · obtain ⟨v, x, rfl, sm, hT⟩ := hS
      refine ⟨pos (by decide), fun t nt => ⟨t, 3000, _, rfl, rfl, upd_same, by decide, by decide, pos (by decide), fun p np => ?_⟩⟩
      have e1 := (same_new (o := .lst [V.int 0]) nt).trans (same_new (o := .lst (List.replicate 3000 [V.int 0]).flatten) np)
      exact q1 _ _ e1 (repl_any (same_none (sm.trans (same_new nt)) np) (.inl rfl) (by decide))
    · obtain ⟨v, x, rfl, sm, hT⟩ := hS
      refine ⟨1, rfl, pos (by decide), fun t nt => ⟨t, 2000, _, rfl, rfl, .of upd_same, (fun z => nomatch z), by decide, by decide, fun p np => ?_⟩⟩
      have e1 := (same_new (o := .tup [V.int (-1)]) nt).trans (same_new (o := .tup (List.replicate 2000 [V.int (-1)]).flatten) np)
      exact q1 _ _ e1 (rep_any (same_none (sm.trans (same_new nt)) np) (.inr rfl) (by decide))
    · obtain ⟨v, x, rfl, sm, hT⟩ := hS
      intro p np
      refine ⟨v, rfl, upd_same, [(.inl 0, v)], rfl, by show 1 ≤ 15; decide, ?_⟩
      have e2 : Same H1 (L2.upd (L2.upd H1 p (.dK [])) p (.dK (mergeK [] [(.inl 0, v)]))) := fun b o z => by
        rw [upd_ne (ne_of_none z np), upd_ne (ne_of_none z np)]; exact z
      exact q1 _ _ e2 ⟨.dict [(.int 0, deepD 18)], .dic ((nw_none (same_none sm np)).trans upd_same) (.one (hT.stay (.of (nw_same e2)))), good_by (by decide +kernel)⟩
    · obtain ⟨v, x, rfl, sm, hT⟩ := hS
      refine ⟨pos (by decide), fun t nt => ⟨t, 900, _, rfl, rfl, .of upd_same, (fun z => nomatch z), by decide, by decide, fun p np => ?_⟩⟩
      have e1 := (same_new (o := .tup [V.int 0]) nt).trans (same_new (o := .tup (List.replicate 900 [V.int 0]).flatten) np)
      have hp0 := same_none (sm.trans (same_new nt)) np
      have hp1 : (upd (upd H1 t (.tup [V.int 0])) p (.tup (List.replicate 900 [V.int 0]).flatten)) p = some (.tup (List.replicate 900 [V.int 0]).flatten) := upd_same
      generalize upd (upd H1 t (.tup [V.int 0])) p (.tup (List.replicate 900 [V.int 0]).flatten) = H2 at e1 hp1 ⊢
      refine ⟨v, rfl, pos (by show 2 ≤ 100000; decide), fun r nr => ?_⟩
      have sm2 := sm.trans e1
      refine q1 _ _ (e1.trans (same_new nr)) ⟨.tuple [.tuple (List.replicate 900 [PyData.int 0]).flatten, deepD 18], .data (.tup (.of ((nw_none (same_none sm2 nr)).trans upd_same)) (.cons (.tup (.of ?_) (DpAll.rep (.cons (.int 0) .nil) 900)) (.cons (Tp.dp (hT.stay (.of (nw_same (e1.trans (same_new nr)))))) .nil))), ?_⟩
      · rw [nw_none hp0]; exact same_new nr _ _ hp1
      · have s1 : SmL 1 [PyData.int 0] := smL_by (by decide +kernel)
        have s2 : SmL 2000 [PyData.tuple (List.replicate 900 [PyData.int 0]).flatten] := SmL.one ((s1.rep 900).tup (by decide)) (by decide +kernel) (by have := (s1.rep 900).bk; simp only [PyData.bulk]; omega)
        have s3 : SmL 2000 [deepD 18] := smL_by (by decide +kernel)
        exact (SmL.cons s2 s3).tup (by decide)
    · obtain ⟨v, x, rfl, sm, hT⟩ := hS
      refine ⟨_, 900, rfl, rfl, by decide, by decide, by decide, pos (by decide), fun t nt => ?_⟩
      refine q1 _ _ (same_new nt) ⟨.tuple [.str (repS _ 900)], .data (.tup (.of ((nw_none (same_none sm nt)).trans upd_same)) (.cons (.str _) .nil)), (smL_rep (by decide +kernel)).tup (by decide)⟩
    · refine ⟨18, rfl, by decide, by decide, ?_⟩
      refine for_range (lo := 0) (n := 18) (fun i σ H' => ∃ v x, σ = [some v, x] ∧ Same H H' ∧ Tp K (nw H H') v (deepD i)) ⟨.int 0, _, rfl, same_refl H, .int 0⟩ ?_ ?_
      · rintro i σ H5 hi ⟨v, x, rfl, sm, hT⟩
        refine ⟨v, rfl, pos (by show 1 ≤ 100000; decide), fun t nt => ⟨.ref t, _, rfl, sm.trans (same_new nt), ?_⟩⟩
        exact .tu (.of ((nw_none (same_none sm nt)).trans upd_same)) (.on (hT.stay (.of (nw_same (same_new nt)))) .no)
      · rintro σ H5 ⟨v, x, rfl, sm, hT⟩
        refine ⟨⟨v, x, rfl, sm, hT⟩, fun H6 vs e6 hvs hl => ⟨pos (by omega), fun l nl => ?_⟩⟩
        exact q _ l vs ((sm.trans e6).trans (same_new nl)) (same_none (sm.trans e6) nl) upd_same (AllAny.same (nw_same (same_new nl)) hvs) (by omega)
end
end Sg
set_option Elab.async false
set_option linter.all false
set_option maxRecDepth 100000
set_option maxHeartbeats 4000000
namespace Sg
open PySem PySem.Spec PyProof.Rows L2 StX
section
variable {P : Program} {w : World} {K : PySem.W.Frag} {mg : Str → Option Value} {base : Heap}
/-! ### _law_pick -/
def spPickA : Sp := fun vs H Q _ => ∃ (p l : Addr) (xs : List V), vs = [.ref p, .ref l] ∧ PenAt H p ∧ H l = some (.lst xs) ∧ l ≠ p ∧ xs ≠ [] ∧ xs.length ≤ 1000 ∧ ∀ H' x, x ∈ xs → PenAt H' p → But p H H' → Q x H'
theorem ok_l_pickA {f f1 : Addr} {fd fd1 : FuncData} {k : Nat} (F : Fun K "_law_pick" "_law_pick" s_l_pick f fd)
    (G1 : FnOk P w K mg base CX0 k f1 fd1 ["_law_pen_here", "_law_many"] spDraw) (kp1 : PySem.W.keepIn K (.ref f1) = true) (b1 : Binds K fd1 ["_law_pen_here", "_law_many"] []) (g1 : mg "_law_draw" = some (.ref f1)) (m1 : mg "len" = none) :
    FnOk P w K mg base CX0 (k + 1) f fd ["_law_pen_here", "_law_some"] spPickA := by
  refine F.ok sc_l_pick (fun vs H Q E h => ?_) (fun cdv A outer s H vs Q E hr h => ?_)
  · obtain ⟨p, l, xs, rfl, _⟩ := h; rfl
  · obtain ⟨p, l, xs, rfl, hp, hl, nlp, hne, hz, q⟩ := h
    refine ⟨_, pss_one (ps_ret (pe_ix ix_list (pv 1) (pe_call G1 hr (by rfl) g1 kp1 b1 .nil pass0 (pa_cons (pv 0) (pa_cons (pe_callB call_len_seq (by rfl) m1 PySem.boot_len (pa_cons (pv 1) pa_nil)) pa_nil))) (fun _ _ => rfl))), ?_⟩
    have h0 := List.length_pos_iff.mpr hne
    refine ⟨.ref l, rfl, .ref p, rfl, .ref l, rfl, l, xs, rfl, .inl (.of hl), p, _, rfl, hp, by omega, by omega, fun H' r r0 r1 p' e' => ?_⟩
    obtain ⟨i, rfl⟩ : ∃ i : Nat, r = i := ⟨r.toNat, by omega⟩
    have hi : i < xs.length := by omega
    exact ⟨l, xs, (i : Nat), xs[i], rfl, rfl, .of (e' _ _ nlp hl), atI_nat (List.getElem?_eq_getElem hi), q H' _ (List.getElem_mem hi) p' e'⟩
end
end Sg
set_option Elab.async false
set_option linter.all false
set_option maxRecDepth 100000
set_option maxHeartbeats 4000000
namespace Sg
open PySem PySem.Spec PyProof.Rows L2 StX
/-! ### str(x) -/
def strS : PyData → Str
  | .str z => z
  | d => d.shown
theorem call_strA {X : Cx} {j : Nat} (hgd : X.A.guards = some []) (hr : Room j X.A) :
    CallR X (.type "str") (fun xs H Q => ∃ v d, xs = [v] ∧ Dp X.K H v d ∧ GoodD d ∧ Q (.str (strS d)) H) := by
  intro pins s σ H xs us Q I r h
  obtain ⟨v, d, rfl, hd, hg, q⟩ := h
  obtain ⟨u, rfl, rx⟩ := vals1 r
  have hu := hr.units
  have hdp := hg.dp
  have fin : ∀ z t, Q (.str z) H → EP X pins σ Q (.str z t) { s with toks := t + 1 } := fun z t q => ⟨.str z, H, I.tok _, ⟨_, rfl⟩, q⟩
  cases hd with
  | non => cases rx; exact PySem.P.str_of_none (fin _ _ q)
  | bl b => cases rx; exact PySem.P.str_of_bool (by have := fin _ s.toks q; cases b <;> exact this)
  | int i =>
    obtain ⟨t, rfl⟩ := rx
    have hs := hg.sh
    simp only [PyData.showable, decide_eq_true_eq] at hs
    exact PySem.P.str_of_int hs (fin _ _ q)
  | str x =>
    obtain ⟨t, rfl⟩ := rx
    exact PySem.P.str_of_str ⟨.str x, H, I, ⟨t, rfl⟩, q⟩
  | lst hs ha =>
    cases rx
    obtain ⟨as, rd⟩ := Dp.reads I _ _ _ (.lst hs ha) rfl
    exact str_of_reads (h₀ := s.heap) rd hg.sh (fun z => by rw [Dp.noDict (Dp.lst hs ha)] at z; exact nomatch z) hgd (by omega) (fun _ _ z => z) (fun h' u tk hk => ⟨.str (PyData.list _).shown, H, I.kept hk, ⟨u, rfl⟩, q⟩) hg.short
  | tup hs ha =>
    cases rx
    obtain ⟨as, rd⟩ := Dp.reads I _ _ _ (.tup hs ha) rfl
    exact str_of_reads (h₀ := s.heap) rd hg.sh (fun z => by rw [Dp.noDict (Dp.tup hs ha)] at z; exact nomatch z) hgd (by omega) (fun _ _ z => z) (fun h' u tk hk => ⟨.str (PyData.tuple _).shown, H, I.kept hk, ⟨u, rfl⟩, q⟩) hg.short
/-! ### the rows that are bent -/
def isOne (d : PyData) : Bool := PyData.eqv d (.int 1)
def bools (ds : List PyData) : List PyData := ds.map fun d => .bool (isOne d)
def strsD (ds : List PyData) : List PyData := ds.map fun d => .str (strS d)
/-- a row that may be bent -/
structure RowD (ds : List PyData) : Prop where
  len : ds.length ≤ 121
  sm : SmL 5000 ds
  dp : PyData.depthAll ds ≤ 10
  bl : SmL 2000 (bools ds)
  st : SmL 20000 (strsD ds)
  ok : ∀ d ∈ ds, GoodD d ∧ SeqAt.shaped d = true
def oneB (d : PyData) : Bool := smB 20 [d] && decide (d.depth ≤ 3) && smB 10 [.bool (isOne d)] && smB 20 [.str (strS d)] && goodB d && SeqAt.shaped d
theorem depth_all {m : Nat} : ∀ {ds : List PyData}, (∀ d ∈ ds, d.depth ≤ m) → PyData.depthAll ds ≤ m
  | [], _ => Nat.zero_le _
  | d :: ds, h => by
    show max d.depth (PyData.depthAll ds) ≤ m
    exact Nat.max_le.mpr ⟨h d List.mem_cons_self, depth_all fun x hx => h x (List.mem_cons_of_mem _ hx)⟩
theorem smL_all {m : Nat} : ∀ {ds : List PyData}, (∀ d ∈ ds, SmL m [d]) → SmL (ds.length * m) ds
  | [], _ => SmL.nil.le (Nat.zero_le _)
  | d :: ds, h => by
    refine (SmL.cons (h d List.mem_cons_self) (smL_all fun x hx => h x (List.mem_cons_of_mem _ hx))).le ?_
    rw [List.length_cons, Nat.add_mul, Nat.one_mul]; omega
theorem smL_all_map {m : Nat} {g : PyData → PyData} {ds : List PyData} (h : ∀ d ∈ ds, SmL m [g d]) : SmL (ds.length * m) (ds.map g) := by
  have := smL_all (m := m) (ds := ds.map g) fun d hd => by
    obtain ⟨x, hx, rfl⟩ := List.mem_map.mp hd
    exact h x hx
  rw [List.length_map] at this; exact this
theorem row_ones {ds : List PyData} (h : ∀ d ∈ ds, oneB d = true) (hl : ds.length ≤ 121) : RowD ds := by
  have ok : ∀ d ∈ ds, SmL 20 [d] ∧ d.depth ≤ 3 ∧ SmL 10 [.bool (isOne d)] ∧ SmL 20 [.str (strS d)] ∧ GoodD d ∧ SeqAt.shaped d = true := fun d hd => by
    have e := h d hd
    unfold oneB at e
    simp only [Bool.and_eq_true, decide_eq_true_eq] at e
    exact ⟨smL_by e.1.1.1.1.1, e.1.1.1.1.2, smL_by e.1.1.1.2, smL_by e.1.1.2, good_by e.1.2, e.2⟩
  refine ⟨hl, (smL_all fun d hd => (ok d hd).1).le (by omega), Nat.le_trans (depth_all fun d hd => (ok d hd).2.1) (by decide), ?_, ?_, fun d hd => ⟨(ok d hd).2.2.2.2.1, (ok d hd).2.2.2.2.2⟩⟩
  · exact (smL_all_map (g := fun d => .bool (isOne d)) fun d hd => (ok d hd).2.2.1).le (by omega)
  · exact (smL_all_map (g := fun d => .str (strS d)) fun d hd => (ok d hd).2.2.2.1).le (by omega)
theorem codes_tup {ns : List Int} {k : Nat} (hk : 1000 < k) : k ∉ (PyData.tuple (iD ns)).shown.cps.toList := by
  rw [PyData.shown_tuple]
  intro h
  rcases mem_cps_append.mp h with h | h
  · rcases mem_cps_append.mp h with h | h
    · rw [signs_lparen] at h
      have := List.mem_singleton.mp h
      omega
    · rcases (mem_join _ _ _).mp h with ⟨t, ht, hc⟩ | ⟨_, hc⟩
      · refine shownAll_free (k := k) (fun x hx => ?_) t ht hc
        obtain ⟨i, _, rfl⟩ := List.mem_map.mp hx
        exact shown_int_free' ⟨by omega, by omega⟩ i
      · rw [signs_sep] at hc
        simp only [List.mem_cons, List.not_mem_nil, or_false] at hc
        omega
  · split at h
    · have e : ((",)" : String) : Str).cps.toList = [44, 41] := by decide
      rw [e] at h
      simp only [List.mem_cons, List.not_mem_nil, or_false] at h
      omega
    · have e : ((")" : String) : Str).cps.toList = [41] := by decide
      rw [e] at h
      have := List.mem_singleton.mp h
      omega
theorem row_tup {ns : List Int} (h : ∀ x ∈ ns, -1 ≤ x ∧ x ≤ 9) (hl : ns.length ≤ 60) : RowD [.tuple (iD ns)] := by
  have s0 := smL_ints h
  have d0 : PyData.depthAll (iD ns) = 0 := by
    have := depth_all (m := 0) (ds := iD ns) fun d hd => by
      obtain ⟨i, _, rfl⟩ := List.mem_map.mp hd
      simp only [PyData.depth]; omega
    omega
  have g : GoodD (.tuple (iD ns)) := s0.tup (by omega)
  have bk : (PyData.tuple (iD ns)).bulk ≤ 100 := by simp only [PyData.bulk]; have := s0.bk; omega
  have dd : (PyData.tuple (iD ns)).depth ≤ 1 := by simp only [PyData.depth, d0]; omega
  have sh : SeqAt.shaped (.tuple (iD ns)) = true := shaped_tD ns
  have o : isOne (.tuple (iD ns)) = false := rfl
  have sb : SmL 10 [.bool false] := smL_by (by decide +kernel)
  have len := PyData.shown_le_bulk 24 (by decide) (.tuple (iD ns)) g.lv
  refine ⟨by show 1 ≤ 121; decide, (SmL.one g (by omega) (Nat.le_refl _)).le (by omega), depth_all fun d hd => by rw [List.mem_singleton.mp hd]; omega, by unfold bools; rw [List.map_cons, List.map_nil, o]; exact sb.le (by decide), ?_, fun d hd => by rw [List.mem_singleton.mp hd]; exact ⟨g, sh⟩⟩
  show SmL 20000 [.str (PyData.tuple (iD ns)).shown]
  refine ⟨by simp only [PyData.showableAll, PyData.showable, Bool.and_self], by simp only [PyData.depthAll, PyData.depth]; omega, ?_, ?_⟩
  · simp only [PyData.leavesShortAll, PyData.leavesShort, Bool.and_true]
    rw [List.all_eq_true]
    intro c hc
    rw [decide_eq_true_eq]
    have e : (16 : Nat) ^ 8 = 4294967296 := by decide
    rw [e]
    by_cases hk : 1000 < c
    · exact absurd hc (codes_tup hk)
    · omega
  · simp only [PyData.bulkAll, PyData.bulk]
    show (PyData.tuple (iD ns)).shown.length + 1 + 0 ≤ 20000
    omega
/-- a part of a row, its items known -/
theorem DpAll.cutM {K : PySem.W.Frag} {H : Hp} {vs : List V} {ds : List PyData} (h : DpAll K H vs ds) (lo hi : Option Int) : ∃ es, DpAll K H (cutV vs lo hi) es ∧ (∀ k, SmL k ds → SmL k es) ∧ (∀ e ∈ es, e ∈ ds) ∧ es.length ≤ ds.length := by
  unfold cutV
  refine ⟨_, DpAll.take _ (DpAll.drop _ h), fun k g => SmL.take _ (SmL.drop _ g), fun e he => List.mem_of_mem_drop (List.mem_of_mem_take he), ?_⟩
  rw [List.length_take, List.length_drop]; omega
theorem DpAll.revM {K : PySem.W.Frag} {H : Hp} : ∀ {us : List V} {ds : List PyData}, DpAll K H us ds → DpAll K H us.reverse ds.reverse
  | _, _, .nil => .nil
  | _, _, .cons a r => by
    rw [List.reverse_cons, List.reverse_cons]
    exact DpAll.app (DpAll.revM r) (.cons a .nil)
theorem SmL.rev {k : Nat} : ∀ {ds : List PyData}, SmL k ds → SmL k ds.reverse
  | [], h => h
  | d :: ds, h => by
    have b := h.bk
    simp only [PyData.bulkAll] at b
    rw [List.reverse_cons]
    have u := h.uncons
    exact (SmL.app (SmL.rev (k := PyData.bulkAll ds) ⟨u.2.sh, u.2.dp, u.2.lv, Nat.le_refl _⟩) (m := PyData.bulk d + 1) ⟨u.1.sh, u.1.dp, u.1.lv, by simp only [PyData.bulkAll]; omega⟩).le (by omega)
end Sg
set_option Elab.async false
set_option linter.all false
set_option maxRecDepth 100000
set_option maxHeartbeats 4000000
namespace Sg
open PySem PySem.Spec PyProof.Rows L2 StX
theorem op_eqDK {X : Cx} {K : PySem.W.Frag} {j : Nat} (hK : X.K = K) (hr : Room j X.A) : OpR X (compareOp .Eq) (rEqD K) := by
  subst hK
  exact op_eqD (by have := hr.units; omega)
theorem call_strAK {X : Cx} {K : PySem.W.Frag} {j : Nat} (hK : X.K = K) (hgd : X.A.guards = some []) (hr : Room j X.A) :
    CallR X (.type "str") (fun xs H Q => ∃ v d, xs = [v] ∧ Dp K H v d ∧ GoodD d ∧ Q (.str (strS d)) H) := by
  subst hK
  exact call_strA hgd hr
def okOne (e : Expr) : Bool := match constE 12 e with
  | some d => oneB d
  | none => false
theorem okOne_star {e : Expr} (h : okOne e = true) : ∀ (es : List Expr) (env : Env), starEach (e :: es) env = (false, eval e env) :: starEach es env := by
  intro es env
  cases e with
  | Starred v p => simp [okOne, constE] at h
  | _ => rfl
def OneV (K : PySem.W.Frag) (H : Hp) (v : V) : Prop := ∃ d, Dp K H v d ∧ oneB d = true
theorem OneV.same {K : PySem.W.Frag} {H H' : Hp} {v : V} (e : Same H H') (h : OneV K H v) : OneV K H' v := by
  obtain ⟨d, h1, h2⟩ := h
  exact ⟨d, Dp.same e h1, h2⟩
theorem pe_one1 {X : Cx} {e : Expr} (h : okOne e = true) : PE X e (fun _ H Q => ∀ H' v, Same H H' → OneV X.K (nw H H') v → Q v H') := by
  unfold okOne at h
  cases e1 : constE 12 e with
  | none => rw [e1] at h; exact nomatch h
  | some d =>
    rw [e1] at h
    exact PE.imp (constE_ok 12 e d e1) fun σ H Q q => fun H' v e' hv => q H' v e' ⟨d, hv, h⟩
def tOnes (K : PySem.W.Frag) (n : Nat) : TA := fun _ H Q => ∀ H' vs, Same H H' → (∀ v ∈ vs, OneV K (nw H H') v) → vs.length = n → Q vs H'
theorem pa_ones {X : Cx} : ∀ (es : List Expr), es.all okOne = true → PA X es (tOnes X.K es.length)
  | [], _ => ⟨fun pos pins s σ H Q I h => pa_nil.run pos pins s σ H Q I (h H [] (same_refl H) (fun _ z => nomatch z) rfl)⟩
  | e :: es, h => by
    rw [List.all_cons, Bool.and_eq_true] at h
    refine ⟨fun pos pins s σ H Q I q => (pa_cons (pe_one1 h.1) (pa_ones es h.2) (okOne_star h.1 _ _)).run pos pins s σ H Q I ?_⟩
    refine fun H1 v e1 hv => fun H2 vs e2 hvs hl => q H2 (v :: vs) (e1.trans e2) (fun u hu => ?_) (congrArg (· + 1) hl)
    rcases List.mem_cons.mp hu with z | z
    · rw [z]; exact hv.same (nw_same e2)
    · exact (hvs u z).same (nw_left e1)
theorem pe_onesL {X : Cx} {K : PySem.W.Frag} {es : List Expr} {p : Pos} {n : Nat} (hK : X.K = K) (h : es.all okOne = true) (hn : es.length = n) (hs : n ≤ 1000) :
    PE X (.List es p) (fun _ H Q => ∀ H' l vs, Same H H' → H l = none → H' l = some (.lst vs) → (∀ v ∈ vs, OneV K (nw H H') v) → vs.length = n → Q (.ref l) H') := by
  subst hK
  refine PE.imp (pe_lst (pa_ones es h)) fun σ H Q q => ?_
  intro H1 vs e1 hvs hl
  have big : 1000 ≤ sizeLine := by rw [sizeLine_eq]; decide
  exact ⟨by omega, fun l nl => q _ l vs (e1.trans (same_new nl)) (same_none e1 nl) upd_same (fun v hv => (hvs v hv).same (nw_same (same_new nl))) (by omega)⟩
theorem oneB_int : ∀ x ∈ smallI, oneB (.int x) = true := by decide +kernel
theorem oneB_str : ∀ x ∈ smallI, oneB (.str (strS (.int x))) = true := by decide +kernel
theorem oneB_bool (b : Bool) : oneB (.bool b) = true := by cases b <;> decide +kernel
def IntR (ds : List PyData) : Prop := ∃ ns : List Int, ds = iD ns ∧ (∀ x ∈ ns, -1 ≤ x ∧ x ≤ 9) ∧ ns.length ≤ 60
theorem IntR.one {ds : List PyData} (h : IntR ds) : ∀ d ∈ ds, oneB d = true := fun d hd => by
  obtain ⟨ns, rfl, hn, _⟩ := h
  obtain ⟨x, hx, rfl⟩ := List.mem_map.mp hd
  exact oneB_int x (mem_smallI (hn x hx))
theorem IntR.len {ds : List PyData} (h : IntR ds) : ds.length ≤ 60 := by
  obtain ⟨ns, rfl, _, hl⟩ := h
  rw [List.length_map]; exact hl
theorem IntR.row {ds : List PyData} (h : IntR ds) : RowD ds := row_ones h.one (by have := h.len; omega)
/-- what a bent row of whole numbers is -/
def OutD (d : PyData) : Prop := (∃ es, d = .tuple es ∧ RowD es) ∨ ∃ es, d = .list es ∧ d.depth ≤ 12 ∧ d.bulk ≤ 6000
def Res (K : PySem.W.Frag) (p : Addr) (ds : List PyData) (H : Hp) (v : V) : Prop := ∃ d, Dp K (wo p H) v d ∧ GoodD d ∧ (IntR ds → OutD d)
theorem Res.same {K : PySem.W.Frag} {p : Addr} {ds : List PyData} {H H' : Hp} {v : V} (e : Same H H') (h : Res K p ds H v) : Res K p ds H' v := by
  obtain ⟨d, h1, h2⟩ := h
  exact ⟨d, Dp.same (wo_same e) h1, h2⟩
theorem Res.but {K : PySem.W.Frag} {p : Addr} {ds : List PyData} {H H' : Hp} {v : V} (e : But p H H') (h : Res K p ds H v) : Res K p ds H' v := by
  obtain ⟨d, h1, h2⟩ := h
  exact ⟨d, Dp.same (wo_but e) h1, h2⟩
theorem PenAt.sqw {K : PySem.W.Frag} {p a : Addr} {H : Hp} {xs : List V} (h : PenAt H p) (s : SqT K H a xs) : SqT K (Sg.wo p H) a xs := by
  obtain ⟨_, _, _, hp, _⟩ := h
  exact sq_wo hp s
structure BH (K : PySem.W.Frag) (p a : Addr) (xs : List V) (ds : List PyData) (v1 : V) (d1 : PyData) (H : Hp) : Prop where
  pen : PenAt H p
  row : SqT K H a xs
  dat : DpAll K (wo p H) xs ds
  one : Dp K (wo p H) v1 d1
section
variable {K : PySem.W.Frag} {p a : Addr} {xs : List V} {ds : List PyData} {v1 : V} {d1 : PyData}
theorem BH.same {H H' : Hp} (h : BH K p a xs ds v1 d1 H) (e : Same H H') : BH K p a xs ds v1 d1 H' := ⟨h.pen.same e, Same.tup e h.row, DpAll.same (wo_same e) h.dat, Dp.same (wo_same e) h.one⟩
def BS (K : PySem.W.Frag) (p a : Addr) (xs : List V) (ds : List PyData) (v1 : V) (d1 : PyData) (sp : Nat) (x4 : Option V) (σ : L2.St) (H : Hp) : Prop := σ = [some (.ref p), some (.ref a), some v1, some (.int sp), x4, none] ∧ BH K p a xs ds v1 d1 H
theorem cut_len {xs : List V} {lo hi : Option Int} : (cutV xs lo hi).length ≤ xs.length := by
  unfold cutV
  rw [List.length_take, List.length_drop]; omega
def tMid (K : PySem.W.Frag) (tl : TO) : TE :=
    tOp (fun x y H Q => ∃ a b xs ys, x = .ref a ∧ y = .ref b ∧ SqT K H a xs ∧ SqT K H b ys ∧ xs.length + ys.length ≤ sizeLine ∧ ∀ H' c, Same H H' → SqT K H' c (xs ++ ys) → Q (.ref c) H')
      (tOp (fun x y H Q => ∃ a b xs ys, x = .ref a ∧ y = .ref b ∧ SqT K H a xs ∧ SqT K H b ys ∧ xs.length + ys.length ≤ sizeLine ∧ ∀ H' c, Same H H' → SqT K H' c (xs ++ ys) → Q (.ref c) H')
        (tSl (fun x lo hi H Q => ∃ a xs, x = .ref a ∧ SqT K H a xs ∧ ∀ H' b, Same H H' → SqT K H' b (cutV xs lo hi) → Q (.ref b) H') (tVar 1) tNoPart (tPart (tVar 3)))
        (tTup (tCons (tVar 2) tNil)))
      (tSl (fun x lo hi H Q => ∃ a xs, x = .ref a ∧ SqT K H a xs ∧ ∀ H' b, Same H H' → SqT K H' b (cutV xs lo hi) → Q (.ref b) H') (tVar 1) tl tNoPart)
theorem res_tup {H : Hp} {b : Addr} {ys : List V} {es : List PyData} {k : Nat} (pn : PenAt H p) (hb : SqT K H b ys) (hd : DpAll K (wo p H) ys es) (g : SmL k es) (hk : k ≤ 400000) (o : IntR ds → RowD es) : Res K p ds H (.ref b) :=
  ⟨.tuple es, .tup (pn.sqw hb) hd, g.tup hk, fun i => .inl ⟨es, rfl, o i⟩⟩
/-- row[:spot] + (one,) + row[lo:] -/
theorem bendg_mid {tl : TO} {σ : L2.St} {H : Hp} {Q : VK} {sp : Nat} {x4 : Option V} (R : RowD ds) (o1 : oneB d1 = true) (hS : BS K p a xs ds v1 d1 sp x4 σ H) (q : ∀ H' v, Same H H' → Res K p ds H' v → Q v H')
    (hth : ∀ H' (Q' : Option Int → Hp → Prop), BH K p a xs ds v1 d1 H' → (∀ o, Q' o H') → tl σ H' Q') : tMid K tl σ H Q := by
  obtain ⟨rfl, hB⟩ := hS
  have big : 1000 ≤ sizeLine := by rw [sizeLine_eq]; decide
  have lx : xs.length ≤ 121 := by have := DpAll.len hB.dat; have := R.len; omega
  refine ⟨.ref a, rfl, .int sp, rfl, _, rfl, a, _, rfl, hB.row, fun H1 b1 e1 h1 => ?_⟩
  refine ⟨v1, rfl, by show 1 ≤ sizeLine; omega, fun t nt => ?_⟩
  have ht : (upd H1 t (.tup [v1])) t = some (.tup [v1]) := upd_same
  have e2 : Same H (upd H1 t (.tup [v1])) := e1.trans (same_new nt)
  have h2 := Same.tup (same_new (o := .tup [v1]) nt) h1
  generalize upd H1 t (.tup [v1]) = H2 at ht e2 h2 ⊢
  have c1 := cut_len (xs := xs) (lo := none) (hi := some (sp : Int))
  refine ⟨b1, t, _, _, rfl, rfl, h2, .of ht, by show _ + 1 ≤ _; omega, fun H3 b3 e3 h3 => ?_⟩
  refine ⟨.ref a, rfl, hth H3 _ (hB.same (e2.trans e3)) fun o => ?_⟩
  refine ⟨a, _, rfl, Same.tup (e2.trans e3) hB.row, fun H4 b4 e4 h4 => ?_⟩
  have c2 := cut_len (xs := xs) (lo := o) (hi := none)
  refine ⟨b3, b4, _, _, rfl, rfl, Same.tup e4 h3, h4, by rw [List.length_append]; show _ + 1 + _ ≤ _; omega, fun H5 b5 e5 h5 => ?_⟩
  have eA := ((e2.trans e3).trans e4).trans e5
  have hB5 := hB.same eA
  have g1 : SmL 20 [d1] := by
    unfold oneB at o1
    simp only [Bool.and_eq_true, decide_eq_true_eq] at o1
    exact smL_by o1.1.1.1.1.1
  obtain ⟨es1, k1, k2, k3, k4⟩ := DpAll.cutM hB5.dat none (some (sp : Int))
  obtain ⟨es2, k5, k6, k7, k8⟩ := DpAll.cutM hB5.dat o none
  refine q H5 _ eA (res_tup hB5.pen h5 (DpAll.app (DpAll.app k1 (.cons hB5.one .nil)) k5) (((k2 _ R.sm).app g1).app (k6 _ R.sm)) (by decide) fun i => row_ones (fun e he => ?_) ?_)
  · rcases List.mem_append.mp he with he | he
    · rcases List.mem_append.mp he with he | he
      · exact i.one e (k3 e he)
      · rw [List.mem_singleton.mp he]; exact o1
    · exact i.one e (k7 e he)
  · have := i.len
    rw [List.length_append, List.length_append]
    show _ + 1 + _ ≤ 121
    omega
end
theorem dp_mapD {K : PySem.W.Frag} {H : Hp} {f : PyData → V} {g : PyData → PyData} (hf : ∀ x, Dp K H (f x) (g x)) : ∀ ds : List PyData, DpAll K H (ds.map f) (ds.map g)
  | [] => .nil
  | n :: ds => .cons (hf n) (dp_mapD hf ds)
end Sg
set_option Elab.async false
set_option linter.all false
set_option maxRecDepth 100000
set_option maxHeartbeats 4000000
namespace Sg
open PySem PySem.Spec PyProof.Rows L2 StX
theorem cut_one1 {xs : List V} : (cutV xs (some (-1)) none).length ≤ 1 := by
  unfold cutV
  have e : HT.sIx xs.length 0 (some (-1)) = xs.length - 1 := by
    show (if (-1 : Int) < 0 then ((-1 : Int) + (xs.length : Nat)).toNat else min (-1 : Int).toNat xs.length) = _
    rw [if_pos (by decide)]
    omega
  rw [e, List.length_take, List.length_drop]
  omega
section
variable {P : Program} {w : World} {K : PySem.W.Frag} {mg : Str → Option Value} {base : Heap}
def spBendG (K : PySem.W.Frag) : Sp := fun vs H Q _ => ∃ (p a : Addr) (xs : List V) (ds : List PyData), vs = [.ref p, .ref a] ∧ PenAt H p ∧ SqT K H a xs ∧ DpAll K (wo p H) xs ds ∧ RowD ds ∧
  ∀ H' v, PenAt H' p → But p H H' → Res K p ds H' v → Q v H'
theorem ok_l_bendG {f f1 f2 : Addr} {fd fd1 fd2 : FuncData} {k : Nat} (F : Fun K "_law_bend" "_law_bend" s_l_bend f fd)
    (G1 : FnOk P w K mg base CX0 k f1 fd1 ["_law_pen_here", "_law_many"] spDraw) (kp1 : PySem.W.keepIn K (.ref f1) = true) (b1 : Binds K fd1 ["_law_pen_here", "_law_many"] []) (g1 : mg "_law_draw" = some (.ref f1))
    (G2 : FnOk P w K mg base CX0 k f2 fd2 ["_law_pen_here", "_law_some"] spPickA) (kp2 : PySem.W.keepIn K (.ref f2) = true) (b2 : Binds K fd2 ["_law_pen_here", "_law_some"] []) (g2 : mg "_law_pick" = some (.ref f2))
    (m1 : mg "len" = none) (m2 : mg "list" = none) (m3 : mg "tuple" = none) (m4 : mg "str" = none) :
    FnG P w K mg base (k + 1) f fd ["_law_pen_here", "_law_row"] (spBendG K) := by
  refine fnG_mk F sc_l_bend (fun vs H Q h => ?_) (fun cdv A outer s H vs Q hg hr h => ?_)
  · obtain ⟨p, a, xs, ds, rfl, _⟩ := h; rfl
  · obtain ⟨p, a, xs, ds, rfl, hp, hrow, hdat, R, q⟩ := h
    have big : 1000 ≤ sizeLine := by rw [sizeLine_eq]; decide
    have lx : xs.length = ds.length := DpAll.len hdat
    have l1 := R.len
    have stR : ∀ (H1 H2 : Hp) v, Same H1 H2 → Res K p ds H1 v → Res K p ds H2 v := fun H1 H2 v e h => h.same e
    let S : L2.St → Hp → Prop := fun σ H' => ∃ v1 d1 sp x4, oneB d1 = true ∧ BS K p a xs ds v1 d1 sp x4 σ H'
    have stS : ∀ σ H1 H2, Same H1 H2 → S σ H1 → S σ H2 := fun σ H1 H2 e ⟨v1, d1, sp, x4, o, h⟩ => ⟨v1, d1, sp, x4, o, h.1, h.2.same e⟩
    have mid : ∀ {σ : L2.St} {Hm : Hp} {Q : VK}, S σ Hm → (∀ H' v, Same Hm H' → Res K p ds H' v → Q v H') → tMid K (tPart (tVar 3)) σ Hm Q := @fun σ Hm Q hS q => by
      obtain ⟨v1, d1, sp, x4, o, hS⟩ := hS
      exact bendg_mid R o hS q (fun H' Q' hB h => ⟨.int sp, by rw [hS.1]; rfl, _, rfl, h _⟩)
    have mid1 : ∀ {σ : L2.St} {Hm : Hp} {Q : VK}, S σ Hm → (∀ H' v, Same Hm H' → Res K p ds H' v → Q v H') → tMid K (tPart (tOp rAdd (tVar 3) (tC (.int 1)))) σ Hm Q := @fun σ Hm Q hS q => by
      obtain ⟨v1, d1, sp, x4, o, hS⟩ := hS
      exact bendg_mid R o hS q (fun H' Q' hB h => ⟨.int sp, by rw [hS.1]; rfl, sp, 1, rfl, rfl, _, rfl, h _⟩)
    have clen : ∀ lo hi, (cutV xs lo hi).length ≤ xs.length := fun lo hi => cut_len
    refine ⟨_, pss_cons (ps_set (i := 2) sc_l_bend.nd rfl (.inl rfl) (pe_call G2 hr (by rfl) g2 kp2 b2 .nil pass0 (pa_cons (pv 0) (pa_cons (pe_onesL (K := K) (n := 13) rfl (by decide +kernel) rfl (by decide)) pa_nil))))
      (pss_cons (ps_set (i := 3) sc_l_bend.nd rfl (.inl rfl) (pe_call G1 hr (by rfl) g1 kp1 b1 .nil pass0 (pa_cons (pv 0) (pa_cons (pe_op op_add (pe_callB call_len_seq (by rfl) m1 PySem.boot_len (pa_cons (pv 1) pa_nil)) pe_int) pa_nil))))
      (pss_cons (ps_set (i := 4) sc_l_bend.nd rfl (.inl rfl) (pe_lst (pa_e (S := S) (R := fun H' v => Res K p ds H' v) stS stR (PE.e (pe_op (op_catB (K := K) rfl) (pe_op (op_catB (K := K) rfl) (pe_slice (sl_tupB (K := K) rfl) (pv 1) po_none (po_some (pv 3))) (pe_tup (pa_cons (pv 2) pa_nil))) (pe_slice (sl_tupB (K := K) rfl) (pv 1) (po_some (pv 3)) po_none)) fun σ H1 Q1 hS q1 => mid hS q1) (pa_e (S := S) (R := fun H' v => Res K p ds H' v) stS stR (PE.e (pe_revT (K := K) rfl (pv 1)) fun σ H1 Q1 hS q1 => ?_) (pa_e (S := S) (R := fun H' v => Res K p ds H' v) stS stR (PE.e (pe_callTy call_list_of (by rfl) m2 (by decide +kernel) (pa_cons (pv 1) pa_nil)) fun σ H1 Q1 hS q1 => ?_) (pa_e (S := S) (R := fun H' v => Res K p ds H' v) stS stR (PE.e (pe_tup (pa_cons (pv 1) pa_nil)) fun σ H1 Q1 hS q1 => ?_) (pa_e (S := S) (R := fun H' v => Res K p ds H' v) stS stR (PE.e (pe_op (op_catB (K := K) rfl) (pv 1) (pe_slice (sl_tupB (K := K) rfl) (pv 1) (po_some (pe_un un_neg pe_int)) po_none)) fun σ H1 Q1 hS q1 => ?_) (pa_e (S := S) (R := fun H' v => Res K p ds H' v) stS stR (PE.e (pe_slice (sl_tupB (K := K) rfl) (pv 1) (po_some pe_int) po_none) fun σ H1 Q1 hS q1 => ?_) (pa_e (S := S) (R := fun H' v => Res K p ds H' v) stS stR (PE.e (pe_slice (sl_tupB (K := K) rfl) (pv 1) po_none (po_some (pe_un un_neg pe_int))) fun σ H1 Q1 hS q1 => ?_) pa_e0)))))))))
      (pss_cons (ps_set (i := 4) sc_l_bend.nd rfl (.inl rfl) (pe_op op_cat (pv 4) (pe_lst (pa_e (S := S) (R := fun H' v => Res K p ds H' v) stS stR (PE.e (pe_op (op_catB (K := K) rfl) (pe_op (op_catB (K := K) rfl) (pe_slice (sl_tupB (K := K) rfl) (pv 1) po_none (po_some (pv 3))) (pe_tup (pa_cons (pv 2) pa_nil))) (pe_slice (sl_tupB (K := K) rfl) (pv 1) (po_some (pe_op op_add (pv 3) pe_int)) po_none)) fun σ H1 Q1 hS q1 => mid1 hS q1) (pa_e (S := S) (R := fun H' v => Res K p ds H' v) stS stR (PE.e (pe_callTy call_tuple_of (by rfl) m3 (by decide +kernel) (pa_cons (pe_lc (own := [("_law_other", 5)]) (g := gName 5) (tt := tYes) rfl sc_l_bend.nd (pi_tup (pv 1)) (blkOk_by (N := ["_law_pen_here", "_law_row", "_law_one", "_law_spot", "_law_found", "_law_other"]) (sc := defScope s_l_bend) (by decide +kernel)) (fun _ _ _ _ _ => pg_name (i := 5) sc_l_bend.nd rfl (Or.inl rfl)) (fun _ _ _ _ _ => pts_nil) (fun _ _ _ _ _ => pe_cmpR (op_eqDK (K := K) rfl hr) (pv 5) pe_int (nomark _))) pa_nil)) fun σ H1 Q1 hS q1 => ?_) pa_e0)))))
      (pss_one (ps_ret (pe_call G2 hr (by rfl) g2 kp2 b2 .nil pass0 (pa_cons (pv 0) (pa_cons (pe_op op_cat (pv 4) (pe_lst (pa_e (S := S) (R := fun H' v => Res K p ds H' v) stS stR (PE.e (pe_op (op_catB (K := K) rfl) (pe_op (op_catB (K := K) rfl) (pe_slice (sl_tupB (K := K) rfl) (pv 1) po_none (po_some (pv 3))) (pe_tup (pa_cons (pv 2) pa_nil))) (pe_slice (sl_tupB (K := K) rfl) (pv 1) (po_some (pe_op op_add (pv 3) pe_int)) po_none)) fun σ H1 Q1 hS q1 => mid1 hS q1) (pa_e (S := S) (R := fun H' v => Res K p ds H' v) stS stR (PE.e (pe_callTy call_tuple_of (by rfl) m3 (by decide +kernel) (pa_cons (pe_lc (own := [("_law_other", 5)]) (g := gName 5) (tt := tYes) rfl sc_l_bend.nd (pi_tup (pv 1)) (blkOk_by (N := ["_law_pen_here", "_law_row", "_law_one", "_law_spot", "_law_found", "_law_other"]) (sc := defScope s_l_bend) (by decide +kernel)) (fun _ _ _ _ _ => pg_name (i := 5) sc_l_bend.nd rfl (Or.inl rfl)) (fun _ _ _ _ _ => pts_nil) (fun _ _ _ _ _ => pe_callTy (call_strAK (K := K) rfl hg hr) (by rfl) m4 (by decide +kernel) (pa_cons (pv 5) pa_nil))) pa_nil)) fun σ H1 Q1 hS q1 => ?_) pa_e0)))) pa_nil)))))))), ?_⟩
    · obtain ⟨v1, d1, sp, x4, o1, rfl, hB⟩ := hS
      refine ⟨.ref a, rfl, a, _, rfl, hB.row, fun t nt => q1 _ _ (same_new nt) ?_⟩
      exact res_tup (hB.pen.new nt) (.of upd_same) (DpAll.same (wo_same (same_new nt)) (DpAll.revM hB.dat)) (R.sm.rev) (by decide) fun i => row_ones (fun e he => i.one e (List.mem_reverse.mp he)) (by rw [List.length_reverse]; exact R.len)
    · obtain ⟨v1, d1, sp, x4, o1, rfl, hB⟩ := hS
      refine ⟨.ref a, rfl, a, _, rfl, .inr hB.row, fun l nl => q1 _ _ (same_new nl) ⟨.list ds, .lst (.of ((wo_ne (hB.pen.ne nl).symm).trans upd_same)) (DpAll.same (wo_same (same_new nl)) hB.dat), R.sm.lst (by decide), fun _ => .inr ⟨_, rfl, by simp only [PyData.depth]; have := R.dp; omega, by simp only [PyData.bulk]; have := R.sm.bk; omega⟩⟩⟩
    · obtain ⟨v1, d1, sp, x4, o1, rfl, hB⟩ := hS
      refine ⟨.ref a, rfl, by show 1 ≤ sizeLine; omega, fun t nt => q1 _ _ (same_new nt) ?_⟩
      have dd : (PyData.tuple ds).depth ≤ 11 := by simp only [PyData.depth]; have := R.dp; omega
      have bk : (PyData.tuple ds).bulk + 1 ≤ 6000 := by simp only [PyData.bulk]; have := R.sm.bk; omega
      refine res_tup (k := 6000) (hB.pen.new nt) (.of upd_same) (.cons (.tup ((hB.pen.new nt).sqw (Same.tup (same_new nt) hB.row)) (DpAll.same (wo_same (same_new nt)) hB.dat)) .nil) (SmL.one (R.sm.tup (by decide)) (by omega) bk) (by decide) fun i => ?_
      obtain ⟨ns, rfl, hn, hl⟩ := i
      exact row_tup hn hl
    · obtain ⟨v1, d1, sp, x4, o1, rfl, hB⟩ := hS
      refine ⟨.ref a, rfl, .ref a, rfl, 1, rfl, _, rfl, a, _, rfl, hB.row, fun H2 b2 e2 h2 => ?_⟩
      refine ⟨a, b2, _, _, rfl, rfl, Same.tup e2 hB.row, h2, by have := clen (some (-1)) none; omega, fun H3 b3 e3 h3 => q1 _ _ (e2.trans e3) ?_⟩
      have hB3 := hB.same (e2.trans e3)
      obtain ⟨es, k1, k2, k3, k4⟩ := DpAll.cutM hB3.dat (some (-1)) none
      have c1 : (cutV xs (some (-1)) none).length ≤ 1 := cut_one1
      have le := DpAll.len k1
      refine res_tup hB3.pen h3 (DpAll.app hB3.dat k1) (SmL.app R.sm (k2 _ R.sm)) (by decide) fun i => row_ones (fun e he => ?_) (by rw [List.length_append]; have := i.len; omega)
      rcases List.mem_append.mp he with he | he
      · exact i.one e he
      · exact i.one e (k3 e he)
    · obtain ⟨v1, d1, sp, x4, o1, rfl, hB⟩ := hS
      refine ⟨.ref a, rfl, _, rfl, a, _, rfl, hB.row, fun H2 b2 e2 h2 => q1 _ _ e2 ?_⟩
      have hB2 := hB.same e2
      obtain ⟨es, k1, k2, k3, k4⟩ := DpAll.cutM hB2.dat (some 1) none
      exact res_tup hB2.pen h2 k1 (k2 _ R.sm) (by decide) fun i => row_ones (fun e he => i.one e (k3 e he)) (by omega)
    · obtain ⟨v1, d1, sp, x4, o1, rfl, hB⟩ := hS
      refine ⟨.ref a, rfl, 1, rfl, _, rfl, a, _, rfl, hB.row, fun H2 b2 e2 h2 => q1 _ _ e2 ?_⟩
      have hB2 := hB.same e2
      obtain ⟨es, k1, k2, k3, k4⟩ := DpAll.cutM hB2.dat none (some (-1))
      exact res_tup hB2.pen h2 k1 (k2 _ R.sm) (by decide) fun i => row_ones (fun e he => i.one e (k3 e he)) (by omega)
    · obtain ⟨v1, d1, sp, x4, o1, rfl, hB⟩ := hS
      refine ⟨.ref a, rfl, a, rfl, ⟨_, hB.row⟩, fun D hD => ?_⟩
      refine lc_tup (xs := xs) (fun i H' => Same H1 H' ∧ H' D = some (.lst ((ds.take i).map fun d => V.bl (isOne d)))) ⟨same_new hD, upd_same⟩ (fun i H' _ h => Same.tup h.1 hB.row) (fun i x H' hx h => ?_) (fun H' h => ?_)
      · obtain ⟨sm, hDl⟩ := h
        obtain ⟨d, hdd, hxd⟩ := DpAll.at hB.dat hx
        have hx' : Dp K H' x d := Dp.same (wo_sub.trans sm) hxd
        obtain ⟨gd, gs⟩ := R.ok d (List.mem_of_getElem? hdd)
        refine ⟨rfl, x, rfl, d, .int 1, hx', .int 1, gs, rfl, _, hDl, ?_, fun b o e => ?_, ?_⟩
        · rw [List.length_map, List.length_take]; omega
        · rw [upd_ne (ne_of_none e hD)]; exact sm _ _ e
        · rw [upd_same, List.take_add_one, hdd, List.map_append]; rfl
      · obtain ⟨sm, hDl⟩ := h
        rw [lx, List.take_length] at hDl
        refine ⟨D, _, rfl, .inl ⟨.of hDl, fun t nt => q1 _ _ (sm.trans (same_new nt)) ?_⟩⟩
        exact res_tup (hB.pen.same (sm.trans (same_new nt))) (.of upd_same) (dp_mapD (g := fun d => .bool (isOne d)) (fun d => .bl _) ds) R.bl (by decide) fun i => row_ones (fun e he => by
          obtain ⟨d, hd, rfl⟩ := List.mem_map.mp he
          exact oneB_bool _) (by rw [List.length_map]; exact R.len)
    · obtain ⟨v1, d1, sp, x4, o1, rfl, hB⟩ := hS
      refine ⟨.ref a, rfl, a, rfl, ⟨_, hB.row⟩, fun D hD => ?_⟩
      refine lc_tup (xs := xs) (fun i H' => Same H1 H' ∧ H' D = some (.lst ((ds.take i).map fun d => V.str (strS d)))) ⟨same_new hD, upd_same⟩ (fun i H' _ h => Same.tup h.1 hB.row) (fun i x H' hx h => ?_) (fun H' h => ?_)
      · obtain ⟨sm, hDl⟩ := h
        obtain ⟨d, hdd, hxd⟩ := DpAll.at hB.dat hx
        have hx' : Dp K H' x d := Dp.same (wo_sub.trans sm) hxd
        obtain ⟨gd, gs⟩ := R.ok d (List.mem_of_getElem? hdd)
        refine ⟨rfl, x, rfl, x, d, rfl, hx', gd, _, hDl, ?_, fun b o e => ?_, ?_⟩
        · rw [List.length_map, List.length_take]; omega
        · rw [upd_ne (ne_of_none e hD)]; exact sm _ _ e
        · rw [upd_same, List.take_add_one, hdd, List.map_append]; rfl
      · obtain ⟨sm, hDl⟩ := h
        rw [lx, List.take_length] at hDl
        refine ⟨D, _, rfl, .inl ⟨.of hDl, fun t nt => q1 _ _ (sm.trans (same_new nt)) ?_⟩⟩
        exact res_tup (hB.pen.same (sm.trans (same_new nt))) (.of upd_same) (dp_mapD (g := fun d => .str (strS d)) (fun d => .str _) ds) R.st (by decide) fun i => row_ones (fun e he => by
          obtain ⟨d, hd, rfl⟩ := List.mem_map.mp he
          obtain ⟨ns, rfl, hn, _⟩ := i
          obtain ⟨y, hy, rfl⟩ := List.mem_map.mp hd
          exact oneB_str y (mem_smallI (hn y hy))) (by rw [List.length_map]; exact R.len)
    · refine ⟨.ref p, rfl, fun H1 l ys e1 nl hl1 hxs ly => ?_⟩
      have p1 := hp.same e1
      refine ⟨p, l, ys, rfl, p1, hl1, Ne.symm (hp.ne nl), (fun z => by rw [z] at ly; exact absurd ly (by decide)), by omega, fun H2 v1 hv1 p2 b2 => ?_⟩
      obtain ⟨d1, dv1, o1⟩ := hxs v1 hv1
      have hpl : ∃ o, H p = some o := by obtain ⟨_, _, _, h, _⟩ := hp; exact ⟨_, h⟩
      obtain ⟨op, hop⟩ := hpl
      have hB2 : BH K p a xs ds v1 d1 H2 := ⟨p2, p1.tup b2 (Same.tup e1 hrow), DpAll.same ((wo_same e1).trans (wo_but b2)) hdat, Dp.same ((nw_wo hop).trans (wo_but b2)) dv1⟩
      refine ⟨.ref p, rfl, .ref a, rfl, a, _, rfl, .inr hB2.row, _, 1, rfl, rfl, p, _, rfl, p2, by omega, by omega, fun H3 r r0 r1 p3 b3 => ?_⟩
      have hB3 : BH K p a xs ds v1 d1 H3 := ⟨p3, p2.tup b3 hB2.row, DpAll.same (wo_but b3) hB2.dat, Dp.same (wo_but b3) hB2.one⟩
      obtain ⟨sp, rfl⟩ : ∃ sp : Nat, r = sp := ⟨r.toNat, by omega⟩
      have c3 : But p H H3 := ((But.of e1).trans b2).trans b3
      refine ⟨⟨v1, d1, sp, none, o1, rfl, hB3⟩, fun H4 vs4 e4 hv4 hl4 => ⟨by omega, fun l4 nl4 => ?_⟩⟩
      have hB4 := (hB3.same e4).same (same_new (o := .lst vs4) nl4)
      have hl4' : (upd H4 l4 (.lst vs4)) l4 = some (.lst vs4) := upd_same
      have e4' := e4.trans (same_new (o := .lst vs4) nl4)
      have hv4' : ∀ v ∈ vs4, Res K p ds (upd H4 l4 (.lst vs4)) v := fun v hv => stR _ _ _ (same_new nl4) (hv4 v hv)
      generalize upd H4 l4 (.lst vs4) = H4' at hB4 hl4' e4' hv4' ⊢
      refine ⟨.ref l4, rfl, ⟨v1, d1, sp, some (.ref l4), o1, rfl, hB4⟩, fun H5 vs5 e5 hv5 hl5 => ⟨by omega, fun l5 nl5 => ?_⟩⟩
      refine ⟨l4, l5, _, _, rfl, rfl, same_new nl5 _ _ (e5 _ _ hl4'), upd_same, by omega, fun l6 nl6 => ?_⟩
      have e6 := (e5.trans (same_new (o := .lst vs5) nl5)).trans (same_new (o := .lst (vs4 ++ vs5)) nl6)
      have hB6 := hB4.same e6
      have hl6 : (upd (upd H5 l5 (.lst vs5)) l6 (.lst (vs4 ++ vs5))) l6 = some (.lst (vs4 ++ vs5)) := upd_same
      have hv6 : ∀ v ∈ vs4 ++ vs5, Res K p ds (upd (upd H5 l5 (.lst vs5)) l6 (.lst (vs4 ++ vs5))) v := fun v hv => (List.mem_append.mp hv).elim (fun z => stR _ _ _ e6 (hv4' v z)) fun z => stR _ _ _ ((same_new (o := .lst vs5) nl5).trans (same_new nl6)) (hv5 v z)
      have hl6' : (vs4 ++ vs5).length = 9 := by rw [List.length_append]; omega
      generalize upd (upd H5 l5 (.lst vs5)) l6 (.lst (vs4 ++ vs5)) = H6 at e6 hB6 hl6 hv6 ⊢
      generalize vs4 ++ vs5 = vs6 at hl6 hv6 hl6' ⊢
      refine ⟨.ref p, rfl, .ref l6, rfl, ⟨v1, d1, sp, some (.ref l6), o1, rfl, hB6⟩, fun H7 vs7 e7 hv7 hl7 => ⟨by omega, fun l7 nl7 => ?_⟩⟩
      refine ⟨l6, l7, _, _, rfl, rfl, same_new nl7 _ _ (e7 _ _ hl6), upd_same, by omega, fun l8 nl8 => ?_⟩
      have e8 := (e7.trans (same_new (o := .lst vs7) nl7)).trans (same_new (o := .lst (vs6 ++ vs7)) nl8)
      have hB8 := hB6.same e8
      have p8n := Ne.symm (((hB6.pen.same e7).same (same_new (o := .lst vs7) nl7)).ne nl8)
      have hv8 : ∀ v ∈ vs6 ++ vs7, Res K p ds (upd (upd H7 l7 (.lst vs7)) l8 (.lst (vs6 ++ vs7))) v := fun v hv => (List.mem_append.mp hv).elim (fun z => stR _ _ _ e8 (hv6 v z)) fun z => stR _ _ _ ((same_new (o := .lst vs7) nl7).trans (same_new nl8)) (hv7 v z)
      have hl8 : (vs6 ++ vs7).length = 11 := by rw [List.length_append]; omega
      refine ⟨p, l8, _, rfl, hB8.pen, upd_same, p8n, (fun z => by rw [z] at hl8; exact absurd hl8 (by decide)), by omega, fun H9 x hx p9 b9 => ?_⟩
      exact q H9 x p9 (((c3.trans (.of e4')).trans (.of (e6.trans e8))).trans b9) ((hv8 x hx).but b9)
end
end Sg
set_option Elab.async false
set_option linter.all false
set_option maxRecDepth 100000
set_option maxHeartbeats 4000000
namespace Sg
open PySem PySem.Spec PyProof.Rows L2 StX
theorem LineAt.ext {K : PySem.W.Frag} {C a : Addr} {H H' : Hp} {ws : List (List Int)} (h : LineAt K C H a ws) (e : LamX.ExtN H H') : LineAt K C H' a ws :=
  h.stay ⟨fun _ _ z => ext_tup e z, fun _ _ _ _ z => e _ _ z fun ps y => nomatch y⟩
theorem IntLn.ext {K : PySem.W.Frag} {C : Addr} {H H' : Hp} (e : LamX.ExtN H H') : ∀ {vs : List V} {ts : List Str}, IntLn K C H vs ts → IntLn K C H' vs ts
  | _, _, .nil => .nil
  | _, _, .int h r => .int h (IntLn.ext e r)
  | _, _, .line h r => .line (h.ext e) (IntLn.ext e r)
theorem ShowL.ext {K : PySem.W.Frag} {C : Addr} {H H' : Hp} (e : LamX.ExtN H H') {v : V} {t : Str} (h : ShowL K C H v t) : ShowL K C H' v t := by
  cases h with
  | any h g => exact .any (h.ext e) g
  | line h => exact .line (h.ext e)
  | tup h1 h2 h3 => exact .tup (ext_tup e h1) (h2.ext e) h3
  | nest h1 h2 h3 h4 h5 h6 => exact .nest (ext_tup e h1) (ext_tup e h2) (h3.ext e) h4 h5 h6
/-- a thing that can be shown -/
def ThL (K : PySem.W.Frag) (C : Addr) (H : Hp) (v : V) : Prop := (∃ t, ShowL K C H v t) ∧ ∃ d, Lp K C H v d
theorem ThL.ext {K : PySem.W.Frag} {C : Addr} {H H' : Hp} (e : LamX.ExtN H H') {v : V} (h : ThL K C H v) : ThL K C H' v := by
  obtain ⟨⟨t, h1⟩, d, h2⟩ := h
  exact ⟨⟨t, h1.ext e⟩, d, h2.ext e⟩
theorem ThL.same {K : PySem.W.Frag} {C : Addr} {H H' : Hp} (e : Same H H') {v : V} (h : ThL K C H v) : ThL K C H' v := h.ext (ext_of e)
def flatD : PyData → PyData
  | .dict _ => .dict []
  | d => d
theorem Aq.lp {K : PySem.W.Frag} {C : Addr} {H : Hp} {v : V} {d : PyData} (h : Aq K H v d) : Lp K C H v (flatD d) := by
  cases h with
  | dic h g => exact .dic h
  | data h =>
    cases h with
    | non => exact .non
    | bl b => exact .bl b
    | int i => exact .int i
    | str x => exact .str x
    | lst h r => exact .lst h (DpAll.lp r)
    | tup h r => exact .tup h (DpAll.lp r)
theorem ThL.of {K : PySem.W.Frag} {C : Addr} {H : Hp} {v : V} {d : PyData} (h : Aq K H v d) (g : GoodD d) : ThL K C H v := ⟨⟨_, .any h g⟩, _, h.lp⟩
section
variable {P : Program} {w : World} {K : PySem.W.Frag} {mg : Str → Option Value} {base : Heap}
/-! ### _law_is_right -/
def spRight (K : PySem.W.Frag) (C : Addr) : Sp := fun vs H Q _ => ∃ v, vs = [v] ∧ ThL K C H v ∧ ∀ H', Same H H' → Q (.bl true) H'
theorem bool_iff {a b : Bool} {p : Prop} (h : a = true ↔ p) (g : b = true ↔ p) : a = b := by
  cases a <;> cases b <;> first | rfl | exact absurd (h.mpr (g.mp rfl)) (by decide) | exact absurd (g.mpr (h.mp rfl)) (by decide)
theorem ok_right {f f1 f2 f3 CL : Addr} {fd fd1 fd2 fd3 : FuncData} {k kM : Nat} (F : Fun K "_law_is_right" "_law_is_right" s_l_is_right f fd) (M : Meths2 P w K mg base kM CL) (hk : kM + 2 ≤ k)
    (G1 : FnOk P w K mg base CX0 k f1 fd1 ["_law_thing"] (spIsWorkL K CL)) (kp1 : PySem.W.keepIn K (.ref f1) = true) (b1 : Binds K fd1 ["_law_thing"] []) (g1 : mg "_law_is_work" = some (.ref f1))
    (G2 : FnOk P w K mg base CX0 k f2 fd2 ["thing"] (spIsWorkL K CL)) (kp2 : PySem.W.keepIn K (.ref f2) = true) (b2 : Binds K fd2 ["thing"] []) (g2 : mg "is_work" = some (.ref f2))
    (G3 : FnG P w K mg base k f3 fd3 ["_law_found", "_law_due"] (spSame2 K)) (kp3 : PySem.W.keepIn K (.ref f3) = true) (b3 : Binds K fd3 ["_law_found", "_law_due"] []) (g3 : mg "_law_same" = some (.ref f3)) (m1 : mg "repr" = none) :
    FnG P w K mg base (k + 1) f fd ["_law_thing"] (spRight K CL) := by
  refine fnG_mk F sc_l_is_right (fun vs H Q h => ?_) (fun cdv A outer s H vs Q hg hr h => ?_)
  · obtain ⟨v, rfl, _⟩ := h; rfl
  · obtain ⟨v, rfl, ⟨⟨t, ht⟩, d, hd⟩, q⟩ := h
    have big : 1000 ≤ sizeLine := by rw [sizeLine_eq]; decide
    refine ⟨_, pss_cons (ps_par (i := 1) (j := 2) (by rfl) sc_l_is_right.nd rfl rfl (by decide) rfl rfl (pa_cons (pe_call G1 hr (by rfl) g1 kp1 b1 .nil pass0 (pa_cons (pv 0) pa_nil)) (pa_cons (pe_callB (call_reprL M hg (hr.mono hk)) (by rfl) m1 (by decide +kernel) (pa_cons (pv 0) pa_nil)) pa_nil)) (by rfl))
      (pss_one (ps_ret (pe_and (pe_callG G3 hg hr (by rfl) g3 kp3 b3 (pa_cons (pe_lst (pa_cons (pe_call G2 hr (by rfl) g2 kp2 b2 .nil pass0 (pa_cons (pv 0) pa_nil)) (pa_cons (pe_call G2 hr (by rfl) g2 kp2 b2 .nil pass0 (pa_cons (pv 0) pa_nil)) pa_nil))) (pa_cons (pe_lst (pa_cons (pv 1) (pa_cons (pv 1) pa_nil))) pa_nil)))
        (pe_one (pe_cmpR op_eq (pe_callB (call_reprL M hg (hr.mono hk)) (by rfl) m1 (by decide +kernel) (pa_cons (pv 0) pa_nil)) (pv 2) (nomark _)))))), ?_⟩
    refine ⟨v, rfl, v, d, rfl, hd, fun H1 b s1 hb => ⟨v, rfl, v, t, rfl, ht.ext (ext_of s1), _, _, rfl, ?_⟩⟩
    refine ⟨v, rfl, v, d, rfl, hd.same s1, fun H2 c s2 hc => ⟨v, rfl, v, d, rfl, (hd.same s1).same s2, fun H3 e s3 he => ⟨by show 2 ≤ sizeLine; omega, fun l1 n1 => ⟨.bl b, rfl, .bl b, rfl, by show 2 ≤ sizeLine; omega, fun l2 n2 => ?_⟩⟩⟩⟩
    have ec : c = b := bool_iff hc hb
    have ee : e = b := bool_iff he hb
    subst ec
    subst ee
    have s4 := ((s1.trans s2).trans s3).trans ((same_new (o := .lst [V.bl e, V.bl e]) n1).trans (same_new (o := .lst [V.bl e, V.bl e]) n2))
    refine ⟨l1, l2, e, rfl, same_new n2 _ _ upd_same, upd_same, true, rfl, iteT ⟨v, rfl, v, t, rfl, ht.ext (ext_of s4), .str t, rfl, rfl, ?_⟩⟩
    rw [decide_eq_true rfl]
    exact q _ s4
end
end Sg
set_option Elab.async false
set_option linter.all false
set_option maxRecDepth 100000
set_option maxHeartbeats 4000000
namespace Sg
open PySem PySem.Spec PyProof.Rows L2 StX
theorem cut_map (xs : List Int) (lo hi : Option Int) : ∃ ys : List Int, cutV (xs.map V.int) lo hi = ys.map V.int ∧ ys.length ≤ xs.length := by
  unfold cutV
  refine ⟨(xs.drop (HT.sIx (xs.map V.int).length 0 lo)).take (HT.sIx (xs.map V.int).length (xs.map V.int).length hi - HT.sIx (xs.map V.int).length 0 lo), ?_, ?_⟩
  · rw [List.map_take, List.map_drop]
  · rw [List.length_take, List.length_drop]
    exact Nat.le_trans (Nat.min_le_right _ _) (Nat.sub_le _ _)
theorem lap3 (j : Nat) : ∃ z : Int, atI [V.int 6, V.int 12, V.int 60] ((0 + (j : Nat) : Int) % 3) = some (.int z) ∧ 1 ≤ z ∧ z ≤ 60 := by
  have h0 : (0 + (j : Nat) : Int) % 3 = ((j % 3 : Nat) : Int) := by omega
  rw [h0]
  have : j % 3 = 0 ∨ j % 3 = 1 ∨ j % 3 = 2 := by omega
  rcases this with e | e | e <;> rw [e]
  · exact ⟨6, atI_nat rfl, by decide, by decide⟩
  · exact ⟨12, atI_nat rfl, by decide, by decide⟩
  · exact ⟨60, atI_nat rfl, by decide, by decide⟩
theorem good0 : GoodL [[0]] := ⟨by decide, by decide, fun w hw => by
  rw [List.mem_singleton.mp hw]
  exact ⟨by decide, by decide, fun x hx => by rw [List.mem_singleton.mp hx]; decide, fun x hx => by cases hx; decide, fun x hx => by cases hx; decide⟩⟩
theorem line0_fin {K : PySem.W.Frag} {C : Addr} {H : Hp} {Q : VK} (q : ∀ H' x, Same H H' → LineAt K C H' x [[0]] → Q (.ref x) H') (t : Addr) (nt : H t = none) :
    ∀ z dz, (upd H t (.tup [V.int 0])) z = none → (upd H t (.tup [V.int 0])) dz = none → dz ≠ z → spInit K C [V.ref z, V.ref t] (upd (upd (upd H t (.tup [V.int 0])) dz (.own z)) z (.ins C dz [])) (fun v H2 => v = .non ∧ Q (.ref z) H2) E0 :=
  make_line (vs := [.ref t]) (ws := [[0]]) (.on (.ofInts (ns := [0]) (.of upd_same)) .no) good0 fun H' x e _ hL => q H' x ((same_new nt).trans e) hL
def tL0 (K : PySem.W.Frag) (C : Addr) : TE := fun σ H Q => ∀ H' x, Same H H' → LineAt K C H' x [[0]] → Q (.ref x) H'
theorem good01 : GoodL [[0, 1]] := ⟨by decide, by decide, fun w hw => by
  rw [List.mem_singleton.mp hw]
  exact ⟨by decide, by decide, by decide, by decide, by decide⟩⟩
theorem line01_fin {K : PySem.W.Frag} {C : Addr} {H : Hp} {Q : VK} (q : ∀ H' x, Same H H' → LineAt K C H' x [[0, 1]] → Q (.ref x) H') (t : Addr) (nt : H t = none) :
    ∀ z dz, (upd H t (.tup [V.int 0, V.int 1])) z = none → (upd H t (.tup [V.int 0, V.int 1])) dz = none → dz ≠ z → spInit K C [V.ref z, V.ref t] (upd (upd (upd H t (.tup [V.int 0, V.int 1])) dz (.own z)) z (.ins C dz [])) (fun v H2 => v = .non ∧ Q (.ref z) H2) E0 :=
  make_line (vs := [.ref t]) (ws := [[0, 1]]) (.on (.ofInts (ns := [0, 1]) (.of upd_same)) .no) good01 fun H' x e _ hL => q H' x ((same_new nt).trans e) hL
def tL01 (K : PySem.W.Frag) (C : Addr) : TE := fun σ H Q => ∀ H' x, Same H H' → LineAt K C H' x [[0, 1]] → Q (.ref x) H'
theorem line_show1 : (tupleText [word 1]).length ≤ 1000 := by decide +kernel
theorem rep_th {K : PySem.W.Frag} {C p : Addr} {H : Hp} {i : Int} {n : Nat} (hi : -1 ≤ i ∧ i ≤ 9) (hn : n ≤ 4000) : ThL K C (upd H p (.tup (List.replicate n [V.int i]).flatten)) (.ref p) :=
  .of (.data (.tup (.of upd_same) (DpAll.rep (.cons (.int i) .nil) n))) (((smL_by (small_table i (mem_smallI hi))).rep n).tup (by omega))
theorem rep_len {α : Type} (n : Nat) (x : α) : (List.replicate n [x]).flatten.length = n := by
  induction n with
  | zero => rfl
  | succ n ih => rw [List.replicate_succ, List.flatten_cons, List.length_append, ih]; show 1 + n = n + 1; omega
def tThing (K : PySem.W.Frag) (C : Addr) : TE := fun σ H Q => ∃ (p t : Addr) (ns : List Int), σ[6]? = some (some (.ref t)) ∧ PenAt H p ∧ SqT K H t (ns.map V.int) ∧ (∀ x ∈ ns, -1 ≤ x ∧ x ≤ 9) ∧ ns.length ≤ 60 ∧
  ∀ H' v, Same H H' → ThL K C (wo p H') v → Q v H'
theorem ten_sm : SmL 1 [.int 10] := smL_by (by decide +kernel)
theorem one_sm : SmL 1 [.int (-1)] := smL_by (by decide +kernel)
theorem good_one {d : PyData} (g : GoodD d) (h : d.depth ≤ 38 ∧ d.bulk ≤ 300000) : GoodD (.list [d]) := (SmL.one (k := 300001) g h.1 (by omega)).lst (by decide)
section
variable {P : Program} {w : World} {K : PySem.W.Frag} {mg : Str → Option Value} {base : Heap}
def spLaw (K : PySem.W.Frag) : Sp := fun vs H Q _ => ∃ (a : Addr) (ns : List Int), vs = [.ref a] ∧ SqL K H a (ns.map V.int) ∧ ns.length ≤ 63 ∧ ∀ H', Q (.bl true) H'
set_option maxHeartbeats 16000000 in
theorem ok_law {f f1 f2 f3 f4 f5 f6 f8 fi CL : Addr} {fd fd1 fd2 fd3 fd4 fd5 fd6 fd8 : FuncData} {k : Nat} (F : Fun K "law" "law" s_law f fd)
    (T : LC K mg CL) (MM : Mk K CL fi) (GI : FnR P w K mg base CX0 k fi (spInit K CL))
    (G1 : FnOk P w K mg base CX0 (k + 1) f1 fd1 ["_law_script", "_law_k"] (spCell K)) (kp1 : PySem.W.keepIn K (.ref f1) = true) (b1 : Binds K fd1 ["_law_script", "_law_k"] []) (g1 : mg "_law_cell" = some (.ref f1))
    (G2 : FnOk P w K mg base CX0 (k + 1) f2 fd2 ["_law_cell_here"] spPen) (kp2 : PySem.W.keepIn K (.ref f2) = true) (b2 : Binds K fd2 ["_law_cell_here"] []) (g2 : mg "_law_pen" = some (.ref f2))
    (G3 : FnOk P w K mg base CX0 (k + 1) f3 fd3 ["_law_pen_here", "_law_most", "_law_stations"] spWork) (kp3 : PySem.W.keepIn K (.ref f3) = true) (b3 : Binds K fd3 ["_law_pen_here", "_law_most", "_law_stations"] []) (g3 : mg "_law_work" = some (.ref f3))
    (G4 : FnOk P w K mg base CX0 (k + 1) f4 fd4 [] (spAnys K)) (kp4 : PySem.W.keepIn K (.ref f4) = true) (b4 : Binds K fd4 [] []) (g4 : mg "_law_odds" = some (.ref f4))
    (G5 : FnOk P w K mg base CX0 (k + 1) f5 fd5 [] (spAnys K)) (kp5 : PySem.W.keepIn K (.ref f5) = true) (b5 : Binds K fd5 [] []) (g5 : mg "_law_great" = some (.ref f5))
    (G6 : FnG P w K mg base (k + 1) f6 fd6 ["_law_pen_here", "_law_row"] (spBendG K)) (kp6 : PySem.W.keepIn K (.ref f6) = true) (b6 : Binds K fd6 ["_law_pen_here", "_law_row"] []) (g6 : mg "_law_bend" = some (.ref f6))
    (G8 : FnG P w K mg base (k + 1) f8 fd8 ["_law_thing"] (spRight K CL)) (kp8 : PySem.W.keepIn K (.ref f8) = true) (b8 : Binds K fd8 ["_law_thing"] []) (g8 : mg "_law_is_right" = some (.ref f8))
    (m1 : mg "range" = none) (m2 : mg "isinstance" = none) (m3 : mg "tuple" = none) (m4 : mg "list" = none) : FnG P w K mg base (k + 2) f fd ["_law_script"] (spLaw K) := by
  refine fnG_mk F sc_law (fun vs H Q h => ?_) (fun cdv A outer s H vs Q hgd hr h => ?_)
  · obtain ⟨a, ns, rfl, _⟩ := h; rfl
  · obtain ⟨a, ns, rfl, hS, hlen, q⟩ := h
    have big : 5000 ≤ sizeLine := by rw [sizeLine_eq]; decide
    let S : L2.St → Hp → Prop := fun σ H' => True
    let R : Hp → V → Prop := fun H' v => ThL K CL H' v
    have stS : ∀ σ H H', Same H H' → S σ H → S σ H' := fun _ _ _ _ h => h
    have stR : ∀ H H' v, Same H H' → R H v → R H' v := fun _ _ _ e h => h.same e
    refine ⟨_, pss_cons (ps_set (i := 1) sc_law.nd rfl (.inl rfl) (pe_lst (pa_e (S := S) (R := R) stS stR (PE.e (pe_op op_repB (pe_tup (pa_cons pe_int pa_nil)) pe_int) fun σ H1 Q1 hS q1 => ?_) (pa_e (S := S) (R := R) stS stR (PE.e (pe_op op_repB (pe_tup (pa_cons pe_int pa_nil)) pe_int) fun σ H1 Q1 hS q1 => ?_) (pa_e (S := S) (R := R) stS stR (PE.e (pe_op (op_catB (K := K) rfl) (pe_op (op_catB (K := K) rfl) (pe_tup (pa_cons pe_int pa_nil)) (pe_op op_repB (pe_tup (pa_cons (pe_un un_neg pe_int) pa_nil)) pe_int)) (pe_tup (pa_cons pe_int pa_nil))) fun σ H1 Q1 hS q1 => ?_) (pa_e (S := S) (R := R) stS stR (PE.e (pe_op (op_catB (K := K) rfl) (pe_op (op_catB (K := K) rfl) (pe_tup (pa_cons pe_int pa_nil)) (pe_op op_repB (pe_tup (pa_cons (pe_un un_neg pe_int) pa_nil)) pe_int)) (pe_tup (pa_cons pe_int pa_nil))) fun σ H1 Q1 hS q1 => ?_) (pa_e (S := S) (R := R) stS stR (PE.e (PE.imp (t' := tL01 K CL) (pe_makeR MM GI hr (by rfl) T.mgC pass0 (pa_cons (pe_tup (pa_cons pe_int (pa_cons pe_int pa_nil))) pa_nil)) fun σ H Q q => ⟨by show 2 ≤ sizeLine; omega, fun t nt => line01_fin q t nt⟩) fun σ H1 Q1 hS q1 => fun H' x e hL => q1 H' _ e ⟨⟨_, .line hL⟩, _, .line hL⟩) (pa_e (S := S) (R := R) stS stR (PE.e (pe_tup (pa_cons (PE.imp (t' := tL0 K CL) (pe_makeR MM GI hr (by rfl) T.mgC pass0 (pa_cons (pe_tup (pa_cons pe_int pa_nil)) pa_nil)) fun σ H Q q => ⟨by show 1 ≤ sizeLine; omega, fun t nt => line0_fin q t nt⟩) pa_nil)) fun σ H1 Q1 hS q1 => fun H' x e hL => ⟨by show 1 ≤ sizeLine; omega, fun u nu => q1 _ _ (e.trans (same_new nu)) ⟨⟨_, .tup (.of upd_same) (.line (hL.stay (.of (same_new nu))) .nil) line_show1⟩, _, .tup (.of upd_same) (.cons (.line (hL.stay (.of (same_new nu)))) .nil)⟩⟩) pa_e0))))))))
      (pss_cons (ps_for PassesOwn.never rfl (pi_list (pe_op op_cat (pe_op op_cat (pe_call0 G4 hr (by rfl) g4 kp4 b4 .nil pass0) (pe_call0 G5 hr (by rfl) g5 kp5 b5 .nil pass0)) (pv 1))) (pg_name (i := 2) sc_law.nd rfl (.inl rfl)) (pss_one (ps_if (pt_not (pt_val (pe_callG G8 hgd hr (by rfl) g8 kp8 b8 (pa_cons (pv 2) pa_nil)))) (pss_one (ps_ret pe_bl)) pss_nil)))
      (pss_cons (ps_for PassesOwn.never rfl (pi_list (pe_op op_cat (pe_lst (pa_cons (pe_call G1 hr (by rfl) g1 kp1 b1 .nil pass0 (pa_cons (pv 0) (pa_cons pe_int pa_nil))) pa_nil)) (pe_slice sl_list (pv 0) (po_some pe_int) (po_some pe_int)))) (pg_name (i := 3) sc_law.nd rfl (.inl rfl))
        (pss_cons (ps_set (i := 4) sc_law.nd rfl (.inl rfl) (pe_call G2 hr (by rfl) g2 kp2 b2 .nil pass0 (pa_cons (pv 3) pa_nil)))
        (pss_one (ps_for PassesOwn.never rfl (pi_range1 (by rfl) m1 (pa_cons pe_int pa_nil)) (pg_name (i := 5) sc_law.nd rfl (.inl rfl))
          (pss_cons (ps_set (i := 6) sc_law.nd rfl (.inl rfl) (pe_call G3 hr (by rfl) g3 kp3 b3 .nil pass0 (pa_cons (pv 4) (pa_cons (pe_ix ix_list (pe_lst (pa_cons pe_int (pa_cons pe_int (pa_cons pe_int pa_nil)))) (pe_op op_mod (pv 5) pe_int) (fun _ _ => rfl)) (pa_cons pe_int pa_nil)))))
          (pss_cons (ps_set (i := 7) sc_law.nd rfl (.inl rfl) (pe_callG G6 hgd hr (by rfl) g6 kp6 b6 (pa_cons (pv 4) (pa_cons (pv 6) pa_nil))))
          (pss_cons (ps_set (i := 8) sc_law.nd rfl (.inl rfl) (pe_ifExp (pt_val (pe_callB call_isiA (by rfl) m2 (by decide +kernel) (pa_cons (pv 7) (pa_cons (pe_bltn (v := .ty "tuple") (by rfl) m3 (by decide +kernel) rfl) pa_nil)))) (pe_callG G6 hgd hr (by rfl) g6 kp6 b6 (pa_cons (pv 4) (pa_cons (pv 7) pa_nil))) (pe_lst (pa_cons (pv 7) pa_nil))))
          (pss_one (ps_for PassesOwn.never rfl (pi_list (pe_lst (pa_cons (pv 6) (pa_cons (pv 7) (pa_cons (pv 8) (pa_cons (PE.imp (t' := tThing K CL) (pe_callTy call_list_of (by rfl) m4 (by decide +kernel) (pa_cons (pv 6) pa_nil)) (fun σ H1 Q1 hb => ?_)) (pa_cons (PE.imp (t' := tThing K CL) (pe_op (op_catB (K := K) rfl) (pv 6) (pe_tup (pa_cons (pe_un un_neg pe_int) pa_nil))) (fun σ H1 Q1 hb => ?_)) (pa_cons (PE.imp (t' := tThing K CL) (pe_op (op_catB (K := K) rfl) (pe_tup (pa_cons (pe_un un_neg pe_int) pa_nil)) (pv 6)) (fun σ H1 Q1 hb => ?_)) (pa_cons (PE.imp (t' := tThing K CL) (pe_op (op_catB (K := K) rfl) (pv 6) (pe_tup (pa_cons pe_int pa_nil))) (fun σ H1 Q1 hb => ?_)) (pa_cons (PE.imp (t' := tThing K CL) (pe_revT (K := K) rfl (pv 6)) (fun σ H1 Q1 hb => ?_)) pa_nil)))))))))) (pg_name (i := 2) sc_law.nd rfl (.inl rfl)) (pss_one (ps_if (pt_not (pt_val (pe_callG G8 hgd hr (by rfl) g8 kp8 b8 (pa_cons (pv 2) pa_nil)))) (pss_one (ps_ret pe_bl)) pss_nil)))))))))))
      (pss_one (ps_ret pe_bl)))), ?_⟩
    · exact ⟨by show 1 ≤ sizeLine; omega, fun t nt => ⟨t, 60, _, rfl, rfl, .of upd_same, (fun z => nomatch z), by decide, by decide, fun p np => q1 _ _ ((same_new nt).trans (same_new np)) (rep_th (by decide) (by decide))⟩⟩
    · exact ⟨by show 1 ≤ sizeLine; omega, fun t nt => ⟨t, 61, _, rfl, rfl, .of upd_same, (fun z => nomatch z), by decide, by decide, fun p np => q1 _ _ ((same_new nt).trans (same_new np)) (rep_th (by decide) (by decide))⟩⟩
    · refine ⟨by show 1 ≤ sizeLine; omega, fun t1 n1 => ⟨1, rfl, by show 1 ≤ sizeLine; omega, fun t2 n2 => ⟨t2, 58, _, rfl, rfl, .of upd_same, (fun z => nomatch z), by decide, by decide, fun t3 n3 => ?_⟩⟩⟩
      have s1 := same_new (o := .tup [V.int 0]) n1
      have h1 : (upd H1 t1 (.tup [V.int 0])) t1 = some (.tup [V.int 0]) := upd_same
      generalize upd H1 t1 (.tup [V.int 0]) = Ha at s1 h1 n2 n3 ⊢
      have s2 := same_new (o := .tup [V.int (-1)]) n2
      generalize upd Ha t2 (.tup [V.int (-1)]) = Hb at s2 n3 ⊢
      have s3 := same_new (o := .tup (List.replicate 58 [V.int (-1)]).flatten) n3
      have h3 : (upd Hb t3 (.tup (List.replicate 58 [V.int (-1)]).flatten)) t3 = some (.tup (List.replicate 58 [V.int (-1)]).flatten) := upd_same
      have rl := rep_len 58 (V.int (-1))
      refine ⟨t1, t3, [V.int 0], (List.replicate 58 [V.int (-1)]).flatten, rfl, rfl, .of (s3 _ _ (s2 _ _ h1)), .of h3, by rw [rl]; show 1 + _ ≤ _; omega, fun Hd c1 ed hc1 => ⟨by show 1 ≤ sizeLine; omega, fun t4 n4 => ?_⟩⟩
      have s4 := same_new (o := .tup [V.int 9]) n4
      have h4 : (upd Hd t4 (.tup [V.int 9])) t4 = some (.tup [V.int 9]) := upd_same
      generalize upd Hd t4 (.tup [V.int 9]) = He at s4 h4 ⊢
      refine ⟨c1, t4, _, _, rfl, rfl, Same.tup s4 hc1, .of h4, by rw [List.length_append, rl]; show 1 + _ + 1 ≤ _; omega, fun Hf c2 ef hc2 => ?_⟩
      refine q1 Hf _ (((((s1.trans s2).trans s3).trans ed).trans s4).trans ef) (.of (.data (.tup hc2 (DpAll.app (DpAll.app (.cons (.int 0) .nil) (DpAll.rep (.cons (.int (-1)) .nil) 58)) (.cons (.int 9) .nil)))) ?_)
      exact (SmL.app (SmL.app (smL_by (k := 1) (by decide +kernel)) (one_sm.rep 58)) (smL_by (k := 1) (by decide +kernel))).tup (by decide)
    · refine ⟨by show 1 ≤ sizeLine; omega, fun t1 n1 => ⟨1, rfl, by show 1 ≤ sizeLine; omega, fun t2 n2 => ⟨t2, 59, _, rfl, rfl, .of upd_same, (fun z => nomatch z), by decide, by decide, fun t3 n3 => ?_⟩⟩⟩
      have s1 := same_new (o := .tup [V.int 0]) n1
      have h1 : (upd H1 t1 (.tup [V.int 0])) t1 = some (.tup [V.int 0]) := upd_same
      generalize upd H1 t1 (.tup [V.int 0]) = Ha at s1 h1 n2 n3 ⊢
      have s2 := same_new (o := .tup [V.int (-1)]) n2
      generalize upd Ha t2 (.tup [V.int (-1)]) = Hb at s2 n3 ⊢
      have s3 := same_new (o := .tup (List.replicate 59 [V.int (-1)]).flatten) n3
      have h3 : (upd Hb t3 (.tup (List.replicate 59 [V.int (-1)]).flatten)) t3 = some (.tup (List.replicate 59 [V.int (-1)]).flatten) := upd_same
      have rl := rep_len 59 (V.int (-1))
      refine ⟨t1, t3, [V.int 0], (List.replicate 59 [V.int (-1)]).flatten, rfl, rfl, .of (s3 _ _ (s2 _ _ h1)), .of h3, by rw [rl]; show 1 + _ ≤ _; omega, fun Hd c1 ed hc1 => ⟨by show 1 ≤ sizeLine; omega, fun t4 n4 => ?_⟩⟩
      have s4 := same_new (o := .tup [V.int 9]) n4
      have h4 : (upd Hd t4 (.tup [V.int 9])) t4 = some (.tup [V.int 9]) := upd_same
      generalize upd Hd t4 (.tup [V.int 9]) = He at s4 h4 ⊢
      refine ⟨c1, t4, _, _, rfl, rfl, Same.tup s4 hc1, .of h4, by rw [List.length_append, rl]; show 1 + _ + 1 ≤ _; omega, fun Hf c2 ef hc2 => ?_⟩
      refine q1 Hf _ (((((s1.trans s2).trans s3).trans ed).trans s4).trans ef) (.of (.data (.tup hc2 (DpAll.app (DpAll.app (.cons (.int 0) .nil) (DpAll.rep (.cons (.int (-1)) .nil) 59)) (.cons (.int 9) .nil)))) ?_)
      exact (SmL.app (SmL.app (smL_by (k := 1) (by decide +kernel)) (one_sm.rep 59)) (smL_by (k := 1) (by decide +kernel))).tup (by decide)
    · obtain ⟨p, t, ns, s6, pn, hT, hn, hl, q1⟩ := hb
      have sn := (smL_ints hn).le (show ns.length ≤ 60 from hl)
      have ln : (ns.map V.int).length = ns.length := List.length_map _
      exact ⟨.ref t, s6, t, _, rfl, .inr hT, fun l nl => q1 _ _ (same_new nl) (.of (.data (.lst (.of ((wo_ne (pn.ne nl).symm).trans upd_same)) (dpInts ns))) (sn.lst (by decide)))⟩
    · obtain ⟨p, t, ns, s6, pn, hT, hn, hl, q1⟩ := hb
      have sn := (smL_ints hn).le (show ns.length ≤ 60 from hl)
      have ln : (ns.map V.int).length = ns.length := List.length_map _
      refine ⟨.ref t, s6, 1, rfl, by show 1 ≤ sizeLine; omega, fun u nu => ?_⟩
      have s1 := same_new (o := .tup [V.int (-1)]) nu
      have h1 : (upd H1 u (.tup [V.int (-1)])) u = some (.tup [V.int (-1)]) := upd_same
      generalize upd H1 u (.tup [V.int (-1)]) = Ha at s1 h1 ⊢
      refine ⟨t, u, _, _, rfl, rfl, Same.tup s1 hT, .of h1, by rw [ln]; show _ + 1 ≤ _; omega, fun Hb c e hc => q1 _ _ (s1.trans e) ?_⟩
      exact .of (.data (.tup ((pn.same (s1.trans e)).sqw hc) (DpAll.app (dpInts ns) (.cons (.int (-1)) .nil)))) ((SmL.app sn one_sm).tup (by decide))
    · obtain ⟨p, t, ns, s6, pn, hT, hn, hl, q1⟩ := hb
      have sn := (smL_ints hn).le (show ns.length ≤ 60 from hl)
      have ln : (ns.map V.int).length = ns.length := List.length_map _
      refine ⟨1, rfl, by show 1 ≤ sizeLine; omega, fun u nu => ?_⟩
      have s1 := same_new (o := .tup [V.int (-1)]) nu
      have h1 : (upd H1 u (.tup [V.int (-1)])) u = some (.tup [V.int (-1)]) := upd_same
      generalize upd H1 u (.tup [V.int (-1)]) = Ha at s1 h1 ⊢
      refine ⟨.ref t, s6, u, t, _, _, rfl, rfl, .of h1, Same.tup s1 hT, by rw [ln]; show 1 + _ ≤ _; omega, fun Hb c e hc => q1 _ _ (s1.trans e) ?_⟩
      exact .of (.data (.tup ((pn.same (s1.trans e)).sqw hc) (DpAll.app (.cons (.int (-1)) .nil) (dpInts ns)))) ((SmL.app one_sm sn).tup (by decide))
    · obtain ⟨p, t, ns, s6, pn, hT, hn, hl, q1⟩ := hb
      have sn := (smL_ints hn).le (show ns.length ≤ 60 from hl)
      have ln : (ns.map V.int).length = ns.length := List.length_map _
      refine ⟨.ref t, s6, by show 1 ≤ sizeLine; omega, fun u nu => ?_⟩
      have s1 := same_new (o := .tup [V.int (10)]) nu
      have h1 : (upd H1 u (.tup [V.int (10)])) u = some (.tup [V.int (10)]) := upd_same
      generalize upd H1 u (.tup [V.int (10)]) = Ha at s1 h1 ⊢
      refine ⟨t, u, _, _, rfl, rfl, Same.tup s1 hT, .of h1, by rw [ln]; show _ + 1 ≤ _; omega, fun Hb c e hc => q1 _ _ (s1.trans e) ?_⟩
      exact .of (.data (.tup ((pn.same (s1.trans e)).sqw hc) (DpAll.app (dpInts ns) (.cons (.int (10)) .nil)))) ((SmL.app sn ten_sm).tup (by decide))
    · obtain ⟨p, t, ns, s6, pn, hT, hn, hl, q1⟩ := hb
      have sn := (smL_ints hn).le (show ns.length ≤ 60 from hl)
      have ln : (ns.map V.int).length = ns.length := List.length_map _
      have hrev : ∀ l (nl : H1 l = none), SqT K (upd H1 l (.tup (ns.map V.int).reverse)) l (ns.map V.int).reverse := fun l nl => .of upd_same
      exact ⟨.ref t, s6, t, _, rfl, hT, fun l nl => q1 _ _ (same_new nl) (.of (.data (.tup ((pn.new nl).sqw (hrev l nl)) (DpAll.revM (dpInts ns)))) ((SmL.rev sn).tup (by decide)))⟩
    refine ⟨trivial, fun H1 vs1 e1 b1' l1 => ⟨by omega, fun FG nG => ?_⟩⟩
    have eG : Same H (upd H1 FG (.lst vs1)) := e1.trans (same_new nG)
    have hG : (upd H1 FG (.lst vs1)) FG = some (.lst vs1) := upd_same
    have bG : ∀ v ∈ vs1, ThL K CL (upd H1 FG (.lst vs1)) v := fun v hv => (b1' v hv).same (same_new nG)
    generalize upd H1 FG (.lst vs1) = HG at eG hG bG ⊢
    refine ⟨rfl, fun H2 l2 x2 a1 a2 a3 a4 a5 => ⟨rfl, fun H3 l3 x3 c1 c2 c3 c4 c5 => ⟨l2, l3, x2, x3, rfl, rfl, c1 _ _ a3, c3, by omega, fun l4 n4 => ?_⟩⟩⟩
    have e4 := (a1.trans c1).trans (same_new (o := .lst (x2 ++ x3)) n4)
    have h4 : (upd H3 l4 (.lst (x2 ++ x3))) l4 = some (.lst (x2 ++ x3)) := upd_same
    have b4' : ∀ v ∈ x2 ++ x3, ThL K CL (upd H3 l4 (.lst (x2 ++ x3))) v := fun v hv => by
      rcases List.mem_append.mp hv with z | z
      · obtain ⟨d, hd, g⟩ := a4 v z
        exact (ThL.of ((hd.same nw_sub).same c1) g).same (same_new n4)
      · obtain ⟨d, hd, g⟩ := c4 v z
        exact (ThL.of (hd.same nw_sub) g).same (same_new n4)
    have l4' : (x2 ++ x3).length ≤ 200 := by rw [List.length_append]; omega
    generalize upd H3 l4 (.lst (x2 ++ x3)) = H4 at e4 h4 b4' ⊢
    generalize x2 ++ x3 = x4 at h4 b4' l4' ⊢
    refine ⟨.ref FG, rfl, l4, FG, x4, vs1, rfl, rfl, h4, e4 _ _ hG, by omega, fun l5 n5 => ?_⟩
    have e5 := e4.trans (same_new (o := .lst (x4 ++ vs1)) n5)
    have h5 : (upd H4 l5 (.lst (x4 ++ vs1))) l5 = some (.lst (x4 ++ vs1)) := upd_same
    have b5' : ∀ v ∈ x4 ++ vs1, ThL K CL (upd H4 l5 (.lst (x4 ++ vs1))) v := fun v hv => by
      rcases List.mem_append.mp hv with z | z
      · exact (b4' v z).same (same_new n5)
      · exact (bG v z).same e5
    generalize upd H4 l5 (.lst (x4 ++ vs1)) = H5 at e5 h5 b5' ⊢
    generalize x4 ++ vs1 = x5 at h5 b5' ⊢
    have hS5 := (eG.trans e5).seq hS
    clear b4' h4 e4 l4' bG hG
    refine ⟨l5, rfl, ⟨_, .of h5⟩, ?_⟩
    refine for_list (xs := x5) (fun i σ H' => ∃ v1 v2 v3 v4 v5 v6 v7 v8, σ = [some (.ref a), v1, v2, v3, v4, v5, v6, v7, v8] ∧ Same H5 H') ⟨_, _, _, _, _, _, _, _, rfl, same_refl H5⟩ (fun i σ H' _ h => ?_) ?_ ?_
    · obtain ⟨_, _, _, _, _, _, _, _, _, e⟩ := h
      exact .of (e _ _ h5)
    · rintro i v σ H' hv ⟨v1, v2, v3, v4, v5, v6, v7, v8, rfl, e⟩
      exact ⟨v, rfl, v, rfl, (b5' v (List.mem_of_getElem? hv)).same e, fun H'' e' => ⟨true, rfl, iteF ⟨_, _, _, _, _, _, _, _, rfl, e.trans e'⟩⟩⟩
    rintro σ H6 ⟨v1, v2, v3, v4, v5, v6, v7, v8, rfl, e6⟩
    have hS6 := e6.seq hS5
    refine ⟨.ref a, rfl, a, ns, 0, rfl, hS6, fun r => ?_⟩
    refine ⟨by show 1 ≤ sizeLine; omega, fun L1 n1 => ?_⟩
    have hSb : SqL K (L2.upd H6 L1 (.lst [V.int r])) a (ns.map V.int) := (same_new n1).seq hS6
    refine ⟨.ref a, rfl, 1, rfl, 3, rfl, a, ns.map V.int, rfl, hSb, fun La n2 => ?_⟩
    obtain ⟨ys, ey, ly⟩ := cut_map ns (some 1) (some 3)
    rw [ey]
    have h1 : (L2.upd (L2.upd H6 L1 (.lst [V.int r])) La (.lst (ys.map V.int))) L1 = some (.lst [V.int r]) := by rw [upd_ne (ne_of_none upd_same n2)]; exact upd_same
    refine ⟨L1, La, [V.int r], ys.map V.int, rfl, rfl, h1, upd_same, by rw [List.length_map, List.length_singleton]; omega, fun L n => ?_⟩
    have eL : [V.int r] ++ ys.map V.int = (r :: ys).map V.int := rfl
    rw [eL]
    have hL0 : (L2.upd (L2.upd (L2.upd H6 L1 (.lst [V.int r])) La (.lst (ys.map V.int))) L (.lst ((r :: ys).map V.int))) L = some (.lst ((r :: ys).map V.int)) := upd_same
    generalize L2.upd (L2.upd (L2.upd H6 L1 (.lst [V.int r])) La (.lst (ys.map V.int))) L (.lst ((r :: ys).map V.int)) = H0 at hL0 ⊢
    generalize r :: ys = cs at hL0 ⊢
    refine ⟨L, rfl, ⟨_, .of hL0⟩, ?_⟩
    refine for_list (xs := cs.map V.int) (fun i σ H' => ∃ v1 v2 v3 v4 v5 v6 v7 v8, σ = [some (.ref a), v1, v2, v3, v4, v5, v6, v7, v8] ∧ H' L = some (.lst (cs.map V.int)))
      ⟨_, _, _, _, _, _, _, _, rfl, hL0⟩ (fun i σ H' _ h => ?_) ?_ ?_
    · obtain ⟨_, _, _, _, _, _, _, _, _, h⟩ := h
      exact .of h
    rotate_left
    · rintro σ H7 _
      exact q H7
    rintro i x σ H7 hx ⟨v1, v2, v3, v4, v5, v6, v7, v8, rfl, hL7⟩
    rw [List.getElem?_map] at hx
    obtain ⟨z, hz, rfl⟩ := Option.map_eq_some_iff.mp hx
    refine ⟨.int z, rfl, z, rfl, fun H8 p np s8 p8 => ?_⟩
    have nLp : L ≠ p := ne_of_none hL7 np
    have hL8 := s8 _ _ hL7
    refine ⟨12, rfl, by decide, by decide, ?_⟩
    refine for_range (lo := 0) (n := (12 : Int).toNat) (fun i σ H' => ∃ v1 v2 v3 v5 v6 v7 v8, σ = [some (.ref a), v1, v2, v3, some (.ref p), v5, v6, v7, v8] ∧ H' L = some (.lst (cs.map V.int)) ∧ PenAt H' p)
      ⟨_, _, _, _, _, _, _, rfl, hL8, p8⟩ ?_ ?_
    rotate_left
    · rintro σ H9 ⟨v1, v2, v3, v5, v6, v7, v8, rfl, hL9, p9⟩
      exact ⟨_, _, _, _, _, _, _, _, rfl, hL9⟩
    rintro j σ H9 hj ⟨v1, v2, v3, v5, v6, v7, v8, rfl, hL9, p9⟩
    obtain ⟨m, hm1, hm2, hm3⟩ := lap3 j
    refine ⟨.ref p, rfl, by show 3 ≤ sizeLine; omega, fun l nl => ?_⟩
    have sl := same_new (o := .lst [V.int 6, V.int 12, V.int 60]) nl
    refine ⟨.int (0 + (j : Nat)), rfl, _, 3, rfl, rfl, by show (0 : Int) < 3; decide, l, _, _, .int m, rfl, rfl, .of upd_same, hm1, ?_⟩
    refine ⟨p, m, 10, rfl, p9.same sl, hm2, hm3, by decide, by decide, fun H10 t wns p10 e10 nt hF hw _ _ => ?_⟩
    have c10 : But p H9 H10 := (But.of sl).trans e10
    have hL10 := c10 _ _ nLp hL9
    have hn : ∀ x ∈ wns, -1 ≤ x ∧ x ≤ 9 := fun x hx => hw.items x hx
    have hl := hw.most
    have hir : IntR (iD wns) := ⟨wns, rfl, hn, hl⟩
    refine ⟨.ref p, rfl, .ref t, rfl, p, t, wns.map V.int, iD wns, rfl, p10, hF.sq, dpInts wns, hir.row, fun H11 u p11 e11 r1 => ?_⟩
    have hT11 : SqT K H11 t (wns.map V.int) := p10.tup e11 hF.sq
    have hL11 := e11 _ _ nLp hL10
    obtain ⟨d1, dv1, gd1, o1⟩ := r1
    rcases o1 hir with ⟨es, rfl, Re⟩ | ⟨es, rfl, dl1, dl2⟩
    · obtain ⟨b1x, ysx, rfl, hb1, hys⟩ : ∃ b ys, u = .ref b ∧ SqT K (wo p H11) b ys ∧ DpAll K (wo p H11) ys es := by
        cases dv1 with
        | tup h1 h2 => exact ⟨_, _, rfl, h1, h2⟩
      refine ⟨.ref b1x, rfl, .ref b1x, _, "tuple", rfl, .data (Dp.same wo_sub dv1), .inl rfl, true, rfl, iteT ?_⟩
      refine ⟨.ref p, rfl, .ref b1x, rfl, p, b1x, ysx, es, rfl, p11, Same.tup wo_sub hb1, hys, Re, fun H12 v2' p12 e12 r2 => ?_⟩
      obtain ⟨d2, dv2, gd2, _⟩ := r2
      have hT12 := p11.tup e12 hT11
      have hL12 := e12 _ _ nLp hL11
      have t1 : ThL K CL (wo p H12) (.ref b1x) := .of (.data (Dp.same (wo_but e12) dv1)) gd1
      have t2 : ThL K CL (wo p H12) v2' := .of (.data dv2) gd2
      refine ⟨.ref t, rfl, .ref b1x, rfl, v2', rfl, p, t, wns, rfl, p12, hT12, hn, hl, fun Ha w1 sa ta => ?_⟩
      refine ⟨p, t, wns, rfl, p12.same sa, Same.tup sa hT12, hn, hl, fun Hb w2 sb tb => ?_⟩
      refine ⟨p, t, wns, rfl, (p12.same sa).same sb, Same.tup (sa.trans sb) hT12, hn, hl, fun Hc w3 sc tc => ?_⟩
      refine ⟨p, t, wns, rfl, ((p12.same sa).same sb).same sc, Same.tup ((sa.trans sb).trans sc) hT12, hn, hl, fun Hd w4 sd td => ?_⟩
      refine ⟨p, t, wns, rfl, (((p12.same sa).same sb).same sc).same sd, Same.tup (((sa.trans sb).trans sc).trans sd) hT12, hn, hl, fun He w5 se te => ⟨by show 8 ≤ sizeLine; omega, fun F nF => ?_⟩⟩
      have s5 := (((sa.trans sb).trans sc).trans sd).trans se
      have sF := s5.trans (same_new (o := .lst [.ref t, .ref b1x, v2', w1, w2, w3, w4, w5]) nF)
      have pF := p12.same sF
      have all : ∀ v ∈ [.ref t, .ref b1x, v2', w1, w2, w3, w4, w5], ThL K CL (wo p He) v := fun v hv => by
        simp only [List.mem_cons, List.not_mem_nil, or_false] at hv
        rcases hv with rfl | rfl | rfl | rfl | rfl | rfl | rfl | rfl
        · exact .of (.data (.tup ((p12.same s5).sqw (Same.tup s5 hT12)) (dpInts wns))) ((smL_ints hn).tup (by omega))
        · exact t1.same (wo_same s5)
        · exact t2.same (wo_same s5)
        · exact ta.same (wo_same (((sb.trans sc).trans sd).trans se))
        · exact tb.same (wo_same ((sc.trans sd).trans se))
        · exact tc.same (wo_same (sd.trans se))
        · exact td.same (wo_same se)
        · exact te
      have allF : ∀ v ∈ [.ref t, .ref b1x, v2', w1, w2, w3, w4, w5], ThL K CL (upd He F (.lst [.ref t, .ref b1x, v2', w1, w2, w3, w4, w5])) v := fun v hv => ((all v hv).same (wo_same (same_new nF))).same wo_sub
      have hF2 : (upd He F (.lst [.ref t, .ref b1x, v2', w1, w2, w3, w4, w5])) F = some (.lst [.ref t, .ref b1x, v2', w1, w2, w3, w4, w5]) := upd_same
      have hLF := sF _ _ hL12
      generalize upd He F (.lst [.ref t, .ref b1x, v2', w1, w2, w3, w4, w5]) = HF at sF pF allF hF2 hLF ⊢
      refine ⟨F, rfl, ⟨_, .of hF2⟩, ?_⟩
      refine for_list (xs := [.ref t, .ref b1x, v2', w1, w2, w3, w4, w5]) (fun i σ H' => ∃ v1 v2 v3 v5 v6 v7 v8, σ = [some (.ref a), v1, v2, v3, some (.ref p), v5, v6, v7, v8] ∧ Same HF H') ⟨_, _, _, _, _, _, _, rfl, same_refl HF⟩ (fun i σ H' _ h => ?_) ?_ ?_
      · obtain ⟨_, _, _, _, _, _, _, _, e⟩ := h
        exact .of (e _ _ hF2)
      · rintro i v σ H' hv ⟨v1, v2, v3, v5, v6, v7, v8, rfl, e⟩
        exact ⟨v, rfl, v, rfl, (allF v (List.mem_of_getElem? hv)).same e, fun H'' e' => ⟨true, rfl, iteF ⟨_, _, _, _, _, _, _, rfl, e.trans e'⟩⟩⟩
      rintro σ HZ ⟨v1, v2, v3, v5, v6, v7, v8, rfl, e⟩
      exact ⟨_, _, _, _, _, _, _, rfl, e _ _ hLF, pF.same e⟩
    · refine ⟨u, rfl, u, _, "tuple", rfl, .data (Dp.same wo_sub dv1), .inl rfl, false, rfl, iteF ⟨u, rfl, by show 1 ≤ sizeLine; omega, fun l nl => ?_⟩⟩
      have e12 := same_new (o := .lst [u]) nl
      have p12 := p11.same e12
      have hT12 := Same.tup e12 hT11
      have hL12 := e12 _ _ hL11
      have t1 : ThL K CL (wo p (upd H11 l (.lst [u]))) u := .of (.data (Dp.same (wo_same e12) dv1)) gd1
      have t2 : ThL K CL (wo p (upd H11 l (.lst [u]))) (.ref l) := .of (.data (.lst (.of ((wo_ne (p11.ne nl).symm).trans upd_same)) (.cons (Dp.same (wo_same e12) dv1) .nil))) (good_one gd1 ⟨by omega, by omega⟩)
      generalize upd H11 l (.lst [u]) = H12 at e12 p12 hT12 hL12 t1 t2 ⊢
      generalize V.ref l = v2' at t2 ⊢
      refine ⟨.ref t, rfl, u, rfl, v2', rfl, p, t, wns, rfl, p12, hT12, hn, hl, fun Ha w1 sa ta => ?_⟩
      refine ⟨p, t, wns, rfl, p12.same sa, Same.tup sa hT12, hn, hl, fun Hb w2 sb tb => ?_⟩
      refine ⟨p, t, wns, rfl, (p12.same sa).same sb, Same.tup (sa.trans sb) hT12, hn, hl, fun Hc w3 sc tc => ?_⟩
      refine ⟨p, t, wns, rfl, ((p12.same sa).same sb).same sc, Same.tup ((sa.trans sb).trans sc) hT12, hn, hl, fun Hd w4 sd td => ?_⟩
      refine ⟨p, t, wns, rfl, (((p12.same sa).same sb).same sc).same sd, Same.tup (((sa.trans sb).trans sc).trans sd) hT12, hn, hl, fun He w5 se te => ⟨by show 8 ≤ sizeLine; omega, fun F nF => ?_⟩⟩
      have s5 := (((sa.trans sb).trans sc).trans sd).trans se
      have sF := s5.trans (same_new (o := .lst [.ref t, u, v2', w1, w2, w3, w4, w5]) nF)
      have pF := p12.same sF
      have all : ∀ v ∈ [.ref t, u, v2', w1, w2, w3, w4, w5], ThL K CL (wo p He) v := fun v hv => by
        simp only [List.mem_cons, List.not_mem_nil, or_false] at hv
        rcases hv with rfl | rfl | rfl | rfl | rfl | rfl | rfl | rfl
        · exact .of (.data (.tup ((p12.same s5).sqw (Same.tup s5 hT12)) (dpInts wns))) ((smL_ints hn).tup (by omega))
        · exact t1.same (wo_same s5)
        · exact t2.same (wo_same s5)
        · exact ta.same (wo_same (((sb.trans sc).trans sd).trans se))
        · exact tb.same (wo_same ((sc.trans sd).trans se))
        · exact tc.same (wo_same (sd.trans se))
        · exact td.same (wo_same se)
        · exact te
      have allF : ∀ v ∈ [.ref t, u, v2', w1, w2, w3, w4, w5], ThL K CL (upd He F (.lst [.ref t, u, v2', w1, w2, w3, w4, w5])) v := fun v hv => ((all v hv).same (wo_same (same_new nF))).same wo_sub
      have hF2 : (upd He F (.lst [.ref t, u, v2', w1, w2, w3, w4, w5])) F = some (.lst [.ref t, u, v2', w1, w2, w3, w4, w5]) := upd_same
      have hLF := sF _ _ hL12
      generalize upd He F (.lst [.ref t, u, v2', w1, w2, w3, w4, w5]) = HF at sF pF allF hF2 hLF ⊢
      refine ⟨F, rfl, ⟨_, .of hF2⟩, ?_⟩
      refine for_list (xs := [.ref t, u, v2', w1, w2, w3, w4, w5]) (fun i σ H' => ∃ v1 v2 v3 v5 v6 v7 v8, σ = [some (.ref a), v1, v2, v3, some (.ref p), v5, v6, v7, v8] ∧ Same HF H') ⟨_, _, _, _, _, _, _, rfl, same_refl HF⟩ (fun i σ H' _ h => ?_) ?_ ?_
      · obtain ⟨_, _, _, _, _, _, _, _, e⟩ := h
        exact .of (e _ _ hF2)
      · rintro i v σ H' hv ⟨v1, v2, v3, v5, v6, v7, v8, rfl, e⟩
        exact ⟨v, rfl, v, rfl, (allF v (List.mem_of_getElem? hv)).same e, fun H'' e' => ⟨true, rfl, iteF ⟨_, _, _, _, _, _, _, rfl, e.trans e'⟩⟩⟩
      rintro σ HZ ⟨v1, v2, v3, v5, v6, v7, v8, rfl, e⟩
      exact ⟨_, _, _, _, _, _, _, rfl, e _ _ hLF, pF.same e⟩
end
end Sg
set_option Elab.async false
set_option linter.all false
set_option maxRecDepth 100000
set_option maxHeartbeats 4000000
namespace Sg
open PySem PySem.Spec PyProof.Rows L2 StX
theorem kit_ty_no {K : PySem.W.Frag} {u : String} {C : Addr} (m : PySem.W.kitMeta u = true) (s : PySem.W.subIn K (.ref C) (.type u) = some false) : PySem.W.kitOne K (.ref C) (.type u) = some false := by
  unfold PySem.W.kitOne
  rw [if_neg (by simp)]
  show (if PySem.W.kitMeta u = true then PySem.W.subIn K (.ref C) (.type u) else none) = some false
  rw [if_pos m]
  exact s
theorem all_mk {l : PySem.W.OpenLaw} {w : World} {K : PySem.W.Frag} {h : Heap} {mg : Str → Option Value} {fa fd0 fd1 fd2 fd3 fd4 fd5 fd6 fd7 fd8 fd9 fd10 fd11 fd12 fd13 fd14 fd15 fd16 fd17 fd18 fd19 fd20 fd21 C fm0 fm1 fm2 fm3 fm4 fm5 fm6 fm7 fm8 pp0 fp0 : Addr} {tu_NOWHERE tu_STATIONS tu_MOST_ITEMS tu_MOST_WORKS : Tok} {rsp0 : List Value} {fo ro : Option Value} {odd0 and0 odd1 and1 odd2 and2 odd3 and3 odd4 and4 odd5 and5 odd6 and6 odd7 and7 odd8 and8 odd9 and9 odd10 and10 odd11 and11 odd12 and12 odd13 and13 odd14 and14 odd15 and15 odd16 and16 odd17 and17 odd18 and18 odd19 and19 odd20 and20 odd21 and21 odm0 anm0 odm1 anm1 odm2 anm2 odm3 anm3 odm4 anm4 odm5 anm5 odm6 anm6 odm7 anm7 odm8 anm8 odp0 anp0 : Option Addr} {sld0 sld1 sld2 sld3 sld4 sld5 sld6 sld7 sld8 sld9 sld10 sld11 sld12 sld13 sld14 sld15 sld16 sld17 sld18 sld19 sld20 sld21 slm0 slm1 slm2 slm3 slm4 slm5 slm6 slm7 slm8 slp0 : Array (Option Value)} {ocd0 kVd0 dcd0 pmd0 cdd0 ctd0 ocd1 kVd1 dcd1 pmd1 cdd1 ctd1 ocd2 kVd2 dcd2 pmd2 cdd2 ctd2 ocd3 kVd3 dcd3 pmd3 cdd3 ctd3 ocd4 kVd4 dcd4 pmd4 cdd4 ctd4 ocd5 kVd5 dcd5 pmd5 cdd5 ctd5 ocd6 kVd6 dcd6 pmd6 cdd6 ctd6 ocd7 kVd7 dcd7 pmd7 cdd7 ctd7 ocd8 kVd8 dcd8 pmd8 cdd8 ctd8 ocd9 kVd9 dcd9 pmd9 cdd9 ctd9 ocd10 kVd10 dcd10 pmd10 cdd10 ctd10 ocd11 kVd11 dcd11 pmd11 cdd11 ctd11 ocd12 kVd12 dcd12 pmd12 cdd12 ctd12 ocd13 kVd13 dcd13 pmd13 cdd13 ctd13 ocd14 kVd14 dcd14 pmd14 cdd14 ctd14 ocd15 kVd15 dcd15 pmd15 cdd15 ctd15 ocd16 kVd16 dcd16 pmd16 cdd16 ctd16 ocd17 kVd17 dcd17 pmd17 cdd17 ctd17 ocd18 kVd18 dcd18 pmd18 cdd18 ctd18 ocd19 kVd19 dcd19 pmd19 cdd19 ctd19 ocd20 kVd20 dcd20 pmd20 cdd20 ctd20 ocd21 kVd21 dcd21 pmd21 cdd21 ctd21 ocm0 kVm0 dcm0 pmm0 cdm0 ctm0 ocm1 kVm1 dcm1 pmm1 cdm1 ctm1 ocm2 kVm2 dcm2 pmm2 cdm2 ctm2 ocm3 kVm3 dcm3 pmm3 cdm3 ctm3 ocm4 kVm4 dcm4 pmm4 cdm4 ctm4 ocm5 kVm5 dcm5 pmm5 cdm5 ctm5 ocm6 kVm6 dcm6 pmm6 cdm6 ctm6 ocm7 kVm7 dcm7 pmm7 cdm7 ctm7 ocm8 kVm8 dcm8 pmm8 cdm8 ctm8 ocp0 kVp0 dcp0 pmp0 cdp0 ctp0 : Value} (X : K.In h) (G : h.Ns mainGlobals mg) (hfa : mg "law" = some (.ref fa))
    (ad0 : PySem.W.nsIn K mainGlobals "is_int" = some (some (.ref fd0)))
    (ld0 : K.lookup fd0 = some ⟨ocd0, odd0, .func (PySem.W.fnOf "is_int" "is_int" (defArgs s_is_int) (defBody s_is_int) (defScope s_is_int) .none kVd0 dcd0 pmd0 and0 cdd0 ctd0), sld0⟩)
    (cd0 : PySem.W.codeIn K cdd0 "is_int" = true)
    (kd0 : PySem.W.keepIn K (.ref fd0) = true)
    (ad1 : PySem.W.nsIn K mainGlobals "is_between" = some (some (.ref fd1)))
    (ld1 : K.lookup fd1 = some ⟨ocd1, odd1, .func (PySem.W.fnOf "is_between" "is_between" (defArgs s_is_between) (defBody s_is_between) (defScope s_is_between) .none kVd1 dcd1 pmd1 and1 cdd1 ctd1), sld1⟩)
    (cd1 : PySem.W.codeIn K cdd1 "is_between" = true)
    (kd1 : PySem.W.keepIn K (.ref fd1) = true)
    (ad2 : PySem.W.nsIn K mainGlobals "is_work" = some (some (.ref fd2)))
    (ld2 : K.lookup fd2 = some ⟨ocd2, odd2, .func (PySem.W.fnOf "is_work" "is_work" (defArgs s_is_work) (defBody s_is_work) (defScope s_is_work) .none kVd2 dcd2 pmd2 and2 cdd2 ctd2), sld2⟩)
    (cd2 : PySem.W.codeIn K cdd2 "is_work" = true)
    (kd2 : PySem.W.keepIn K (.ref fd2) = true)
    (ad3 : PySem.W.nsIn K mainGlobals "bars" = some (some (.ref fd3)))
    (ld3 : K.lookup fd3 = some ⟨ocd3, odd3, .func (PySem.W.fnOf "bars" "bars" (defArgs s_bars) (defBody s_bars) (defScope s_bars) .none kVd3 dcd3 pmd3 and3 cdd3 ctd3), sld3⟩)
    (cd3 : PySem.W.codeIn K cdd3 "bars" = true)
    (kd3 : PySem.W.keepIn K (.ref fd3) = true)
    (ad4 : PySem.W.nsIn K mainGlobals "require_work" = some (some (.ref fd4)))
    (ld4 : K.lookup fd4 = some ⟨ocd4, odd4, .func (PySem.W.fnOf "require_work" "require_work" (defArgs s_require_work) (defBody s_require_work) (defScope s_require_work) .none kVd4 dcd4 pmd4 and4 cdd4 ctd4), sld4⟩)
    (cd4 : PySem.W.codeIn K cdd4 "require_work" = true)
    (kd4 : PySem.W.keepIn K (.ref fd4) = true)
    (ad5 : PySem.W.nsIn K mainGlobals "_clashes_behind" = some (some (.ref fd5)))
    (ld5 : K.lookup fd5 = some ⟨ocd5, odd5, .func (PySem.W.fnOf "_clashes_behind" "_clashes_behind" (defArgs s_clashes_behind) (defBody s_clashes_behind) (defScope s_clashes_behind) .none kVd5 dcd5 pmd5 and5 cdd5 ctd5), sld5⟩)
    (cd5 : PySem.W.codeIn K cdd5 "_clashes_behind" = true)
    (kd5 : PySem.W.keepIn K (.ref fd5) = true)
    (ad6 : PySem.W.nsIn K mainGlobals "is_kind" = some (some (.ref fd6)))
    (ld6 : K.lookup fd6 = some ⟨ocd6, odd6, .func (PySem.W.fnOf "is_kind" "is_kind" (defArgs s_is_kind) (defBody s_is_kind) (defScope s_is_kind) .none kVd6 dcd6 pmd6 and6 cdd6 ctd6), sld6⟩)
    (cd6 : PySem.W.codeIn K cdd6 "is_kind" = true)
    (kd6 : PySem.W.keepIn K (.ref fd6) = true)
    (ad7 : PySem.W.nsIn K mainGlobals "require_kind" = some (some (.ref fd7)))
    (ld7 : K.lookup fd7 = some ⟨ocd7, odd7, .func (PySem.W.fnOf "require_kind" "require_kind" (defArgs s_require_kind) (defBody s_require_kind) (defScope s_require_kind) .none kVd7 dcd7 pmd7 and7 cdd7 ctd7), sld7⟩)
    (cd7 : PySem.W.codeIn K cdd7 "require_kind" = true)
    (kd7 : PySem.W.keepIn K (.ref fd7) = true)
    (ad8 : PySem.W.nsIn K mainGlobals "_bars_of_all" = some (some (.ref fd8)))
    (ld8 : K.lookup fd8 = some ⟨ocd8, odd8, .func (PySem.W.fnOf "_bars_of_all" "_bars_of_all" (defArgs s_bars_of_all) (defBody s_bars_of_all) (defScope s_bars_of_all) .none kVd8 dcd8 pmd8 and8 cdd8 ctd8), sld8⟩)
    (cd8 : PySem.W.codeIn K cdd8 "_bars_of_all" = true)
    (kd8 : PySem.W.keepIn K (.ref fd8) = true)
    (ad9 : PySem.W.nsIn K mainGlobals "_law_cell" = some (some (.ref fd9)))
    (ld9 : K.lookup fd9 = some ⟨ocd9, odd9, .func (PySem.W.fnOf "_law_cell" "_law_cell" (defArgs s_l_cell) (defBody s_l_cell) (defScope s_l_cell) .none kVd9 dcd9 pmd9 and9 cdd9 ctd9), sld9⟩)
    (cd9 : PySem.W.codeIn K cdd9 "_law_cell" = true)
    (kd9 : PySem.W.keepIn K (.ref fd9) = true)
    (ad10 : PySem.W.nsIn K mainGlobals "_law_pen" = some (some (.ref fd10)))
    (ld10 : K.lookup fd10 = some ⟨ocd10, odd10, .func (PySem.W.fnOf "_law_pen" "_law_pen" (defArgs s_l_pen) (defBody s_l_pen) (defScope s_l_pen) .none kVd10 dcd10 pmd10 and10 cdd10 ctd10), sld10⟩)
    (cd10 : PySem.W.codeIn K cdd10 "_law_pen" = true)
    (kd10 : PySem.W.keepIn K (.ref fd10) = true)
    (ad11 : PySem.W.nsIn K mainGlobals "_law_draw" = some (some (.ref fd11)))
    (ld11 : K.lookup fd11 = some ⟨ocd11, odd11, .func (PySem.W.fnOf "_law_draw" "_law_draw" (defArgs s_l_draw) (defBody s_l_draw) (defScope s_l_draw) .none kVd11 dcd11 pmd11 and11 cdd11 ctd11), sld11⟩)
    (cd11 : PySem.W.codeIn K cdd11 "_law_draw" = true)
    (kd11 : PySem.W.keepIn K (.ref fd11) = true)
    (ad12 : PySem.W.nsIn K mainGlobals "_law_pick" = some (some (.ref fd12)))
    (ld12 : K.lookup fd12 = some ⟨ocd12, odd12, .func (PySem.W.fnOf "_law_pick" "_law_pick" (defArgs s_l_pick) (defBody s_l_pick) (defScope s_l_pick) .none kVd12 dcd12 pmd12 and12 cdd12 ctd12), sld12⟩)
    (cd12 : PySem.W.codeIn K cdd12 "_law_pick" = true)
    (kd12 : PySem.W.keepIn K (.ref fd12) = true)
    (ad13 : PySem.W.nsIn K mainGlobals "_law_same" = some (some (.ref fd13)))
    (ld13 : K.lookup fd13 = some ⟨ocd13, odd13, .func (PySem.W.fnOf "_law_same" "_law_same" (defArgs s_l_same) (defBody s_l_same) (defScope s_l_same) .none kVd13 dcd13 pmd13 and13 cdd13 ctd13), sld13⟩)
    (cd13 : PySem.W.codeIn K cdd13 "_law_same" = true)
    (kd13 : PySem.W.keepIn K (.ref fd13) = true)
    (ad14 : PySem.W.nsIn K mainGlobals "_law_is_whole" = some (some (.ref fd14)))
    (ld14 : K.lookup fd14 = some ⟨ocd14, odd14, .func (PySem.W.fnOf "_law_is_whole" "_law_is_whole" (defArgs s_l_is_whole) (defBody s_l_is_whole) (defScope s_l_is_whole) .none kVd14 dcd14 pmd14 and14 cdd14 ctd14), sld14⟩)
    (cd14 : PySem.W.codeIn K cdd14 "_law_is_whole" = true)
    (kd14 : PySem.W.keepIn K (.ref fd14) = true)
    (ad15 : PySem.W.nsIn K mainGlobals "_law_is_work" = some (some (.ref fd15)))
    (ld15 : K.lookup fd15 = some ⟨ocd15, odd15, .func (PySem.W.fnOf "_law_is_work" "_law_is_work" (defArgs s_l_is_work) (defBody s_l_is_work) (defScope s_l_is_work) .none kVd15 dcd15 pmd15 and15 cdd15 ctd15), sld15⟩)
    (cd15 : PySem.W.codeIn K cdd15 "_law_is_work" = true)
    (kd15 : PySem.W.keepIn K (.ref fd15) = true)
    (ad16 : PySem.W.nsIn K mainGlobals "_law_work" = some (some (.ref fd16)))
    (ld16 : K.lookup fd16 = some ⟨ocd16, odd16, .func (PySem.W.fnOf "_law_work" "_law_work" (defArgs s_l_work) (defBody s_l_work) (defScope s_l_work) .none kVd16 dcd16 pmd16 and16 cdd16 ctd16), sld16⟩)
    (cd16 : PySem.W.codeIn K cdd16 "_law_work" = true)
    (kd16 : PySem.W.keepIn K (.ref fd16) = true)
    (ad17 : PySem.W.nsIn K mainGlobals "_law_odds" = some (some (.ref fd17)))
    (ld17 : K.lookup fd17 = some ⟨ocd17, odd17, .func (PySem.W.fnOf "_law_odds" "_law_odds" (defArgs s_l_odds) (defBody s_l_odds) (defScope s_l_odds) .none kVd17 dcd17 pmd17 and17 cdd17 ctd17), sld17⟩)
    (cd17 : PySem.W.codeIn K cdd17 "_law_odds" = true)
    (kd17 : PySem.W.keepIn K (.ref fd17) = true)
    (ad18 : PySem.W.nsIn K mainGlobals "_law_great" = some (some (.ref fd18)))
    (ld18 : K.lookup fd18 = some ⟨ocd18, odd18, .func (PySem.W.fnOf "_law_great" "_law_great" (defArgs s_l_great) (defBody s_l_great) (defScope s_l_great) .none kVd18 dcd18 pmd18 and18 cdd18 ctd18), sld18⟩)
    (cd18 : PySem.W.codeIn K cdd18 "_law_great" = true)
    (kd18 : PySem.W.keepIn K (.ref fd18) = true)
    (ad19 : PySem.W.nsIn K mainGlobals "_law_bend" = some (some (.ref fd19)))
    (ld19 : K.lookup fd19 = some ⟨ocd19, odd19, .func (PySem.W.fnOf "_law_bend" "_law_bend" (defArgs s_l_bend) (defBody s_l_bend) (defScope s_l_bend) .none kVd19 dcd19 pmd19 and19 cdd19 ctd19), sld19⟩)
    (cd19 : PySem.W.codeIn K cdd19 "_law_bend" = true)
    (kd19 : PySem.W.keepIn K (.ref fd19) = true)
    (ad20 : PySem.W.nsIn K mainGlobals "_law_is_right" = some (some (.ref fd20)))
    (ld20 : K.lookup fd20 = some ⟨ocd20, odd20, .func (PySem.W.fnOf "_law_is_right" "_law_is_right" (defArgs s_l_is_right) (defBody s_l_is_right) (defScope s_l_is_right) .none kVd20 dcd20 pmd20 and20 cdd20 ctd20), sld20⟩)
    (cd20 : PySem.W.codeIn K cdd20 "_law_is_right" = true)
    (kd20 : PySem.W.keepIn K (.ref fd20) = true)
    (ad21 : PySem.W.nsIn K mainGlobals "law" = some (some (.ref fd21)))
    (ld21 : K.lookup fd21 = some ⟨ocd21, odd21, .func (PySem.W.fnOf "law" "law" (defArgs s_law) (defBody s_law) (defScope s_law) .none kVd21 dcd21 pmd21 and21 cdd21 ctd21), sld21⟩)
    (cd21 : PySem.W.codeIn K cdd21 "law" = true)
    (kd21 : PySem.W.keepIn K (.ref fd21) = true)
    (aC : PySem.W.nsIn K mainGlobals "Line" = some (some (.ref C)))
    (am0 : PySem.W.findIn K (.ref C) "__init__" = some (some (.ref fm0)))
    (im0 : PySem.W.isFn K (.ref fm0) = true)
    (lm0 : K.lookup fm0 = some ⟨ocm0, odm0, .func (PySem.W.fnOf "__init__" "Line.__init__" (defArgs s_Line_init) (defBody s_Line_init) (defScope s_Line_init) .none kVm0 dcm0 pmm0 anm0 cdm0 ctm0), slm0⟩)
    (cm0 : PySem.W.codeIn K cdm0 "Line.__init__" = true)
    (km0 : PySem.W.keepIn K (.ref fm0) = true)
    (am1 : PySem.W.findIn K (.ref C) "__len__" = some (some (.ref fm1)))
    (im1 : PySem.W.isFn K (.ref fm1) = true)
    (lm1 : K.lookup fm1 = some ⟨ocm1, odm1, .func (PySem.W.fnOf "__len__" "Line.__len__" (defArgs s_Line_len) (defBody s_Line_len) (defScope s_Line_len) .none kVm1 dcm1 pmm1 anm1 cdm1 ctm1), slm1⟩)
    (cm1 : PySem.W.codeIn K cdm1 "Line.__len__" = true)
    (km1 : PySem.W.keepIn K (.ref fm1) = true)
    (am2 : PySem.W.findIn K (.ref C) "__call__" = some (some (.ref fm2)))
    (im2 : PySem.W.isFn K (.ref fm2) = true)
    (lm2 : K.lookup fm2 = some ⟨ocm2, odm2, .func (PySem.W.fnOf "__call__" "Line.__call__" (defArgs s_Line_call) (defBody s_Line_call) (defScope s_Line_call) .none kVm2 dcm2 pmm2 anm2 cdm2 ctm2), slm2⟩)
    (cm2 : PySem.W.codeIn K cdm2 "Line.__call__" = true)
    (km2 : PySem.W.keepIn K (.ref fm2) = true)
    (am3 : PySem.W.findIn K (.ref C) "__add__" = some (some (.ref fm3)))
    (im3 : PySem.W.isFn K (.ref fm3) = true)
    (lm3 : K.lookup fm3 = some ⟨ocm3, odm3, .func (PySem.W.fnOf "__add__" "Line.__add__" (defArgs s_Line_add) (defBody s_Line_add) (defScope s_Line_add) .none kVm3 dcm3 pmm3 anm3 cdm3 ctm3), slm3⟩)
    (cm3 : PySem.W.codeIn K cdm3 "Line.__add__" = true)
    (km3 : PySem.W.keepIn K (.ref fm3) = true)
    (am4 : PySem.W.findIn K (.ref C) "__sub__" = some (some (.ref fm4)))
    (im4 : PySem.W.isFn K (.ref fm4) = true)
    (lm4 : K.lookup fm4 = some ⟨ocm4, odm4, .func (PySem.W.fnOf "__sub__" "Line.__sub__" (defArgs s_Line_sub) (defBody s_Line_sub) (defScope s_Line_sub) .none kVm4 dcm4 pmm4 anm4 cdm4 ctm4), slm4⟩)
    (cm4 : PySem.W.codeIn K cdm4 "Line.__sub__" = true)
    (km4 : PySem.W.keepIn K (.ref fm4) = true)
    (am5 : PySem.W.findIn K (.ref C) "__neg__" = some (some (.ref fm5)))
    (im5 : PySem.W.isFn K (.ref fm5) = true)
    (lm5 : K.lookup fm5 = some ⟨ocm5, odm5, .func (PySem.W.fnOf "__neg__" "Line.__neg__" (defArgs s_Line_neg) (defBody s_Line_neg) (defScope s_Line_neg) .none kVm5 dcm5 pmm5 anm5 cdm5 ctm5), slm5⟩)
    (cm5 : PySem.W.codeIn K cdm5 "Line.__neg__" = true)
    (km5 : PySem.W.keepIn K (.ref fm5) = true)
    (am6 : PySem.W.findIn K (.ref C) "__eq__" = some (some (.ref fm6)))
    (im6 : PySem.W.isFn K (.ref fm6) = true)
    (lm6 : K.lookup fm6 = some ⟨ocm6, odm6, .func (PySem.W.fnOf "__eq__" "Line.__eq__" (defArgs s_Line_eq) (defBody s_Line_eq) (defScope s_Line_eq) .none kVm6 dcm6 pmm6 anm6 cdm6 ctm6), slm6⟩)
    (cm6 : PySem.W.codeIn K cdm6 "Line.__eq__" = true)
    (km6 : PySem.W.keepIn K (.ref fm6) = true)
    (am7 : PySem.W.findIn K (.ref C) "__getitem__" = some (some (.ref fm7)))
    (im7 : PySem.W.isFn K (.ref fm7) = true)
    (lm7 : K.lookup fm7 = some ⟨ocm7, odm7, .func (PySem.W.fnOf "__getitem__" "Line.__getitem__" (defArgs s_Line_getitem) (defBody s_Line_getitem) (defScope s_Line_getitem) .none kVm7 dcm7 pmm7 anm7 cdm7 ctm7), slm7⟩)
    (cm7 : PySem.W.codeIn K cdm7 "Line.__getitem__" = true)
    (km7 : PySem.W.keepIn K (.ref fm7) = true)
    (am8 : PySem.W.findIn K (.ref C) "__repr__" = some (some (.ref fm8)))
    (im8 : PySem.W.isFn K (.ref fm8) = true)
    (lm8 : K.lookup fm8 = some ⟨ocm8, odm8, .func (PySem.W.fnOf "__repr__" "Line.__repr__" (defArgs s_Line_repr) (defBody s_Line_repr) (defScope s_Line_repr) .none kVm8 dcm8 pmm8 anm8 cdm8 ctm8), slm8⟩)
    (cm8 : PySem.W.codeIn K cdm8 "Line.__repr__" = true)
    (km8 : PySem.W.keepIn K (.ref fm8) = true)
    (ap0 : PySem.W.findIn K (.ref C) "works" = some (some (.ref pp0)))
    (gp0 : PySem.W.specialIn K (.ref pp0) "__get__" = some (some (.builtin "property.__get__")))
    (tp0 : PySem.W.takesIn K (.ref pp0) = some true)
    (rp0 : PySem.W.recIn K pp0 "property" = some (.ref fp0 :: rsp0))
    (lp0 : K.lookup fp0 = some ⟨ocp0, odp0, .func (PySem.W.fnOf "works" "Line.works" (defArgs s_Line_works) (defBody s_Line_works) (defScope s_Line_works) .none kVp0 dcp0 pmp0 anp0 cdp0 ctp0), slp0⟩)
    (cp0 : PySem.W.codeIn K cdp0 "Line.works" = true)
    (kp0 : PySem.W.keepIn K (.ref fp0) = true)
    (pg : PySem.W.plainGet K C Str.empty = true)
    (hd : PySem.W.hasDictIn K C = true)
    (po : PySem.W.plainOver K C = true)
    (sa : PySem.W.findIn K (.ref C) "__setattr__" = some (some (.builtin "object.__setattr__")))
    (mk : PySem.W.makesIn K C = true)
    (kc : PySem.W.keepIn K (.ref C) = true)
    (nW : PySem.W.findIn K (.ref C) "_works" = some none)
    (nB : PySem.W.findIn K (.ref C) "_bars" = some none)
    (nR : PySem.W.findIn K (.ref C) "_reach" = some none)
    (ha : PySem.W.findIn K (.ref C) "__class__" = some (some (.builtin "object.__class__")))
    (hn : PySem.W.specialIn K (.builtin "object.__class__") "__get__" = some (some (.builtin "getset_descriptor.__get__")))
    (ht : PySem.W.takesIn K (.builtin "object.__class__") = some true)
    (hm : PySem.W.mroIn K C (.type "object") = some true)
    (sf : PySem.W.selfFirst K C = true)
    (rs : PySem.W.findIn K (.ref C) "__rsub__" = some none)
    (is1 : PySem.W.findIn K (.type "int") "__sub__" = some fo)
    (ir1 : PySem.W.findIn K (.type "int") "__rsub__" = some ro)
    (nsub : PySem.W.subIn K (.type "int") (.ref C) = some false)
    (ne : PySem.W.findIn K (.ref C) "__ne__" = some (some (.builtin "object.__ne__")))
    (ob : PySem.W.subIn K (.ref C) (.type "object") = some true)
    (fi : PySem.W.fnIn K fm2 = true)
    (fg : PySem.W.fnIn K fm7 = true)
    (iCl : PySem.W.isClsIn K C = true)
    (tCl : PySem.W.typeIn K (.ref C) = some (.type "type"))
    (nt_tuple : PySem.W.subIn K (.ref C) (.type "tuple") = some false)
    (nt_int : PySem.W.subIn K (.ref C) (.type "int") = some false)
    (nt_bool : PySem.W.subIn K (.ref C) (.type "bool") = some false)
    (nt_str : PySem.W.subIn K (.ref C) (.type "str") = some false)
    (nt_list : PySem.W.subIn K (.ref C) (.type "list") = some false)
    (z_isinstance : PySem.W.nsIn K mainGlobals "isinstance" = some none)
    (z_int : PySem.W.nsIn K mainGlobals "int" = some none)
    (z_bool : PySem.W.nsIn K mainGlobals "bool" = some none)
    (z_tuple : PySem.W.nsIn K mainGlobals "tuple" = some none)
    (z_len : PySem.W.nsIn K mainGlobals "len" = some none)
    (z_all : PySem.W.nsIn K mainGlobals "all" = some none)
    (z_any : PySem.W.nsIn K mainGlobals "any" = some none)
    (z_zip : PySem.W.nsIn K mainGlobals "zip" = some none)
    (z_range : PySem.W.nsIn K mainGlobals "range" = some none)
    (z_max : PySem.W.nsIn K mainGlobals "max" = some none)
    (z_min : PySem.W.nsIn K mainGlobals "min" = some none)
    (z_list : PySem.W.nsIn K mainGlobals "list" = some none)
    (z_str : PySem.W.nsIn K mainGlobals "str" = some none)
    (z_repr : PySem.W.nsIn K mainGlobals "repr" = some none)
    (u_NOWHERE : PySem.W.nsIn K mainGlobals "NOWHERE" = some (some (.int (-1) tu_NOWHERE)))
    (u_STATIONS : PySem.W.nsIn K mainGlobals "STATIONS" = some (some (.int (10) tu_STATIONS)))
    (u_MOST_ITEMS : PySem.W.nsIn K mainGlobals "MOST_ITEMS" = some (some (.int (60) tu_MOST_ITEMS)))
    (u_MOST_WORKS : PySem.W.nsIn K mainGlobals "MOST_WORKS" = some (some (.int (3) tu_MOST_WORKS))) :
    ∃ fd : FuncData, (∀ (s : Shared) (v : Value), BindsTo s fd ⟨[v], []⟩ [("_law_script", v)]) ∧ ∀ base : Heap, K.In base → base.Ns mainGlobals mg → FnG l.prog w K mg base 14 fa fd ["_law_script"] (spLaw K) := by
  have e := hfa.symm.trans (PySem.W.mg_of X G ad21)
  cases e
  have y_isinstance := PySem.W.mg_none_of X G z_isinstance
  have y_int := PySem.W.mg_none_of X G z_int
  have y_bool := PySem.W.mg_none_of X G z_bool
  have y_tuple := PySem.W.mg_none_of X G z_tuple
  have y_len := PySem.W.mg_none_of X G z_len
  have y_all := PySem.W.mg_none_of X G z_all
  have y_any := PySem.W.mg_none_of X G z_any
  have y_zip := PySem.W.mg_none_of X G z_zip
  have y_range := PySem.W.mg_none_of X G z_range
  have y_max := PySem.W.mg_none_of X G z_max
  have y_min := PySem.W.mg_none_of X G z_min
  have y_list := PySem.W.mg_none_of X G z_list
  have y_str := PySem.W.mg_none_of X G z_str
  have y_repr := PySem.W.mg_none_of X G z_repr
  have Fd0 := fun_mk (st := s_is_int) ld0 cd0 kd0
  have bd0 := Fd0.binds (ps := ["thing"]) fun _ _ _ _ _ _ us hl => match us, hl with | [_], _ => rfl
  have vd0 := PySem.W.mg_of X G ad0
  have Fd1 := fun_mk (st := s_is_between) ld1 cd1 kd1
  have bd1 := Fd1.binds (ps := ["thing", "least", "most"]) fun _ _ _ _ _ _ us hl => match us, hl with | [_, _, _], _ => rfl
  have vd1 := PySem.W.mg_of X G ad1
  have Fd2 := fun_mk (st := s_is_work) ld2 cd2 kd2
  have bd2 := Fd2.binds (ps := ["thing"]) fun _ _ _ _ _ _ us hl => match us, hl with | [_], _ => rfl
  have vd2 := PySem.W.mg_of X G ad2
  have Fd3 := fun_mk (st := s_bars) ld3 cd3 kd3
  have bd3 := Fd3.binds (ps := ["one", "other"]) fun _ _ _ _ _ _ us hl => match us, hl with | [_, _], _ => rfl
  have vd3 := PySem.W.mg_of X G ad3
  have Fd4 := fun_mk (st := s_require_work) ld4 cd4 kd4
  have bd4 := Fd4.binds (ps := ["thing"]) fun _ _ _ _ _ _ us hl => match us, hl with | [_], _ => rfl
  have vd4 := PySem.W.mg_of X G ad4
  have Fd5 := fun_mk (st := s_clashes_behind) ld5 cd5 kd5
  have bd5 := Fd5.binds (ps := ["one", "other", "distance"]) fun _ _ _ _ _ _ us hl => match us, hl with | [_, _, _], _ => rfl
  have vd5 := PySem.W.mg_of X G ad5
  have Fd6 := fun_mk (st := s_is_kind) ld6 cd6 kd6
  have bd6 := Fd6.binds (ps := ["line", "thing"]) fun _ _ _ _ _ _ us hl => match us, hl with | [_, _], _ => rfl
  have vd6 := PySem.W.mg_of X G ad6
  have Fd7 := fun_mk (st := s_require_kind) ld7 cd7 kd7
  have bd7 := Fd7.binds (ps := ["line", "thing"]) fun _ _ _ _ _ _ us hl => match us, hl with | [_, _], _ => rfl
  have vd7 := PySem.W.mg_of X G ad7
  have Fd8 := fun_mk (st := s_bars_of_all) ld8 cd8 kd8
  have bd8 := Fd8.binds (ps := ["works"]) fun _ _ _ _ _ _ us hl => match us, hl with | [_], _ => rfl
  have vd8 := PySem.W.mg_of X G ad8
  have Fd9 := fun_mk (st := s_l_cell) ld9 cd9 kd9
  have bd9 := Fd9.binds (ps := ["_law_script", "_law_k"]) fun _ _ _ _ _ _ us hl => match us, hl with | [_, _], _ => rfl
  have vd9 := PySem.W.mg_of X G ad9
  have Fd10 := fun_mk (st := s_l_pen) ld10 cd10 kd10
  have bd10 := Fd10.binds (ps := ["_law_cell_here"]) fun _ _ _ _ _ _ us hl => match us, hl with | [_], _ => rfl
  have vd10 := PySem.W.mg_of X G ad10
  have Fd11 := fun_mk (st := s_l_draw) ld11 cd11 kd11
  have bd11 := Fd11.binds (ps := ["_law_pen_here", "_law_many"]) fun _ _ _ _ _ _ us hl => match us, hl with | [_, _], _ => rfl
  have vd11 := PySem.W.mg_of X G ad11
  have Fd12 := fun_mk (st := s_l_pick) ld12 cd12 kd12
  have bd12 := Fd12.binds (ps := ["_law_pen_here", "_law_some"]) fun _ _ _ _ _ _ us hl => match us, hl with | [_, _], _ => rfl
  have vd12 := PySem.W.mg_of X G ad12
  have Fd13 := fun_mk (st := s_l_same) ld13 cd13 kd13
  have bd13 := Fd13.binds (ps := ["_law_found", "_law_due"]) fun _ _ _ _ _ _ us hl => match us, hl with | [_, _], _ => rfl
  have vd13 := PySem.W.mg_of X G ad13
  have Fd14 := fun_mk (st := s_l_is_whole) ld14 cd14 kd14
  have bd14 := Fd14.binds (ps := ["_law_thing", "_law_low", "_law_high"]) fun _ _ _ _ _ _ us hl => match us, hl with | [_, _, _], _ => rfl
  have vd14 := PySem.W.mg_of X G ad14
  have Fd15 := fun_mk (st := s_l_is_work) ld15 cd15 kd15
  have bd15 := Fd15.binds (ps := ["_law_thing"]) fun _ _ _ _ _ _ us hl => match us, hl with | [_], _ => rfl
  have vd15 := PySem.W.mg_of X G ad15
  have Fd16 := fun_mk (st := s_l_work) ld16 cd16 kd16
  have bd16 := Fd16.binds (ps := ["_law_pen_here", "_law_most", "_law_stations"]) fun _ _ _ _ _ _ us hl => match us, hl with | [_, _, _], _ => rfl
  have vd16 := PySem.W.mg_of X G ad16
  have Fd17 := fun_mk (st := s_l_odds) ld17 cd17 kd17
  have bd17 := Fd17.binds (ps := []) fun _ _ _ _ _ _ us hl => match us, hl with | [], _ => rfl
  have vd17 := PySem.W.mg_of X G ad17
  have Fd18 := fun_mk (st := s_l_great) ld18 cd18 kd18
  have bd18 := Fd18.binds (ps := []) fun _ _ _ _ _ _ us hl => match us, hl with | [], _ => rfl
  have vd18 := PySem.W.mg_of X G ad18
  have Fd19 := fun_mk (st := s_l_bend) ld19 cd19 kd19
  have bd19 := Fd19.binds (ps := ["_law_pen_here", "_law_row"]) fun _ _ _ _ _ _ us hl => match us, hl with | [_, _], _ => rfl
  have vd19 := PySem.W.mg_of X G ad19
  have Fd20 := fun_mk (st := s_l_is_right) ld20 cd20 kd20
  have bd20 := Fd20.binds (ps := ["_law_thing"]) fun _ _ _ _ _ _ us hl => match us, hl with | [_], _ => rfl
  have vd20 := PySem.W.mg_of X G ad20
  have Fd21 := fun_mk (st := s_law) ld21 cd21 kd21
  have bd21 := Fd21.binds (ps := ["_law_script"]) fun _ _ _ _ _ _ us hl => match us, hl with | [_], _ => rfl
  have vd21 := PySem.W.mg_of X G ad21
  have Fm0 := fun_mk (st := s_Line_init) lm0 cm0 km0
  have Fm1 := fun_mk (st := s_Line_len) lm1 cm1 km1
  have bm1 := Fm1.binds (ps := ["self"]) fun _ _ _ _ _ _ us hl => match us, hl with | [_], _ => rfl
  have Fm2 := fun_mk (st := s_Line_call) lm2 cm2 km2
  have bm2 := Fm2.binds (ps := ["self", "one", "other"]) fun _ _ _ _ _ _ us hl => match us, hl with | [_, _, _], _ => rfl
  have Fm3 := fun_mk (st := s_Line_add) lm3 cm3 km3
  have bm3 := Fm3.binds (ps := ["self", "other"]) fun _ _ _ _ _ _ us hl => match us, hl with | [_, _], _ => rfl
  have Fm4 := fun_mk (st := s_Line_sub) lm4 cm4 km4
  have bm4 := Fm4.binds (ps := ["self", "other"]) fun _ _ _ _ _ _ us hl => match us, hl with | [_, _], _ => rfl
  have Fm5 := fun_mk (st := s_Line_neg) lm5 cm5 km5
  have bm5 := Fm5.binds (ps := ["self"]) fun _ _ _ _ _ _ us hl => match us, hl with | [_], _ => rfl
  have Fm6 := fun_mk (st := s_Line_eq) lm6 cm6 km6
  have bm6 := Fm6.binds (ps := ["self", "other"]) fun _ _ _ _ _ _ us hl => match us, hl with | [_, _], _ => rfl
  have Fm7 := fun_mk (st := s_Line_getitem) lm7 cm7 km7
  have bm7 := Fm7.binds (ps := ["self", "at"]) fun _ _ _ _ _ _ us hl => match us, hl with | [_, _], _ => rfl
  have Fm8 := fun_mk (st := s_Line_repr) lm8 cm8 km8
  have bm8 := Fm8.binds (ps := ["self"]) fun _ _ _ _ _ _ us hl => match us, hl with | [_], _ => rfl
  have Fp0 := fun_mk (st := s_Line_works) lp0 cp0 kp0
  have bp0 := Fp0.binds (ps := ["self"]) fun _ _ _ _ _ _ us hl => match us, hl with | [_], _ => rfl
  have N_NOWHERE : ∃ t, mg "NOWHERE" = some (.int (-1) t) := ⟨_, PySem.W.mg_of X G u_NOWHERE⟩
  have N_STATIONS : ∃ t, mg "STATIONS" = some (.int (10) t) := ⟨_, PySem.W.mg_of X G u_STATIONS⟩
  have N_MOST_ITEMS : ∃ t, mg "MOST_ITEMS" = some (.int (60) t) := ⟨_, PySem.W.mg_of X G u_MOST_ITEMS⟩
  have N_MOST_WORKS : ∃ t, mg "MOST_WORKS" = some (.int (3) t) := ⟨_, PySem.W.mg_of X G u_MOST_WORKS⟩
  have cl : Cls K C := ⟨pg, hd, po, sa⟩
  have T : LC K mg C := ⟨cl, nW, nB, nR, PySem.W.mg_of X G aC⟩
  have kit : PySem.W.kitOne K (.ref C) (.ref C) = some true := by unfold PySem.W.kitOne; simp
  have I : LI K C := ⟨ha, hn, ht, hm, kit⟩
  have O : Ops K C := ⟨sf, ⟨none, rs, .inl rfl⟩, ⟨_, is1⟩, ⟨_, ir1⟩, nsub, ne, ob⟩
  have Mi : Mk K C fm0 := ⟨mk, am0, im0, kc⟩
  refine ⟨PySem.W.fnOf "law" "law" (defArgs s_law) (defBody s_law) (defScope s_law) .none kVd21 dcd21 pmd21 and21 cdd21 ctd21, fun s v => .of_eq rfl, fun base _ _ => ?_⟩
  have Gd0 := ok_is_int (P := l.prog) (w := w) (mg := mg) (base := base) (k := 0) Fd0 y_isinstance y_int y_bool
  have Gd1 := ok_is_between (P := l.prog) (w := w) (mg := mg) (base := base) (k := 1) Fd1 (Gd0.mono (by decide)) kd0 bd0 vd0
  have N : Nums mg := ⟨N_NOWHERE, N_STATIONS, N_MOST_ITEMS⟩
  have Gd2 := ok_is_work (P := l.prog) (w := w) (mg := mg) (base := base) (k := 2) Fd2 N (Gd1.mono (by decide)) kd1 bd1 vd1 y_isinstance y_tuple y_len y_all
  have Gd4 := ok_require_work (P := l.prog) (w := w) (mg := mg) (base := base) (k := 3) Fd4 (Gd2.mono (by decide)) kd2 bd2 vd2
  have Gd5 := ok_clashes_behind (P := l.prog) (w := w) (mg := mg) (base := base) (k := 3) Fd5 N y_any y_zip
  have Gd3 := ok_bars (P := l.prog) (w := w) (mg := mg) (base := base) (k := 4) Fd3 Gd4 kd4 bd4 vd4 Gd5 kd5 bd5 vd5 y_tuple y_range y_len
  have Gd8 := ok_bars_of_all (P := l.prog) (w := w) (mg := mg) (base := base) (k := 5) Fd8 y_tuple Gd3 kd3 bd3 vd3
  have Gi := ok_init (P := l.prog) (w := w) (mg := mg) (base := base) (k := 6) Fm0 T N_MOST_WORKS (Gd2.mono (by decide)) kd2 bd2 vd2 Gd8 kd8 bd8 vd8 y_all y_len y_max
  have Glen := ok_len (P := l.prog) (w := w) (mg := mg) (base := base) (k := 1) Fm1 T y_len
  have Gd6 := ok_is_kind (P := l.prog) (w := w) (mg := mg) (base := base) (k := 2) Fd6 T y_len Gd1 kd1 bd1 vd1 Glen bm1 am1 im1
  have Gd7 := ok_require_kind (P := l.prog) (w := w) (mg := mg) (base := base) (k := 4) Fd7 Gd6 kd6 bd6 vd6
  have Gcall := ok_call (P := l.prog) (w := w) (mg := mg) (base := base) (k := 5) Fm2 T Gd7 kd7 bd7 vd7
  have Gadd := ok_add (P := l.prog) (w := w) (mg := mg) (base := base) (k := 7) Fm3 T I Mi Gi y_isinstance
  have Gsub := ok_sub (P := l.prog) (w := w) (mg := mg) (base := base) (k := 7) Fm4 T Mi Gi (Gd7.mono (by decide)) kd7 bd7 vd7 y_len
  have Gneg := ok_neg (P := l.prog) (w := w) (mg := mg) (base := base) (k := 7) Fm5 T Mi Gi
  have Geq := ok_eq (P := l.prog) (w := w) (mg := mg) (base := base) (k := 0) Fm6 T I y_isinstance
  have Gw := fn_getter (CX := CX0) (P := l.prog) (w := w) (mg := mg) (base := base) (k := 0) lp0 cp0 sc_Line_works rfl rfl cl nW
  have M : Meths l.prog w K mg base 10 C := ⟨T, I, O, ⟨_, _, Glen.mono (by decide), bm1, am1, im1⟩, ⟨_, _, ⟨Gcall.mono (by decide), bm2, am2, im2⟩, fi⟩, ⟨_, _, Gadd.mono (by decide), bm3, am3, im3⟩, ⟨_, _, Gsub.mono (by decide), bm4, am4, im4⟩, ⟨_, _, Gneg.mono (by decide), bm5, am5, im5⟩, ⟨_, _, Geq.mono (by decide), bm6, am6, im6⟩, ⟨_, _, _, ⟨ap0, gp0, tp0, _, rp0⟩, Gw.mono (by decide), bp0⟩, ⟨_, Mi, Gi.mono (by decide)⟩⟩
  have Gitem := ok_item (P := l.prog) (w := w) (mg := mg) (base := base) (k := 5) Fm7 T Gd7 kd7 bd7 vd7
  have Grepr := ok_repr (P := l.prog) (w := w) (mg := mg) (base := base) (k := 0) Fm8 T y_len
  have M2 : Meths2 l.prog w K mg base 10 C := ⟨M, ⟨_, _, ⟨Gitem.mono (by decide), bm7, am7, im7⟩, fg⟩, ⟨_, _, Grepr.mono (by decide), bm8, am8, im8⟩⟩
  have LKI : LineKit K C := ⟨fun hL => isLine T.cl I hL, fun u hu => by
    simp only [List.mem_cons, List.not_mem_nil, or_false] at hu
    rcases hu with rfl | rfl | rfl | rfl | rfl
    · exact kit_ty_no (by decide +kernel) nt_tuple
    · exact kit_ty_no (by decide +kernel) nt_int
    · exact kit_ty_no (by decide +kernel) nt_bool
    · exact kit_ty_no (by decide +kernel) nt_str
    · exact kit_ty_no (by decide +kernel) nt_list⟩
  have GLi := ok_is_intL (P := l.prog) (w := w) (mg := mg) (base := base) (k := 0) LKI Fd0 y_isinstance y_int y_bool
  have GLb := ok_is_betweenL (P := l.prog) (w := w) (mg := mg) (base := base) (k := 1) Fd1 (GLi.mono (by decide)) kd0 bd0 vd0
  have GLw := ok_is_workL (P := l.prog) (w := w) (mg := mg) (base := base) (k := 2) LKI Fd2 N (GLb.mono (by decide)) kd1 bd1 vd1 y_isinstance y_tuple y_len y_all
  have Gd9 := ok_l_cell (P := l.prog) (w := w) (mg := mg) (base := base) (k := 0) Fd9 y_len
  have Gd10 := ok_l_pen (P := l.prog) (w := w) (mg := mg) (base := base) (k := 0) Fd10 y_max
  have Gd11 := ok_l_draw (P := l.prog) (w := w) (mg := mg) (base := base) (k := 0) Fd11
  have Gd12 := ok_l_pickA (P := l.prog) (w := w) (mg := mg) (base := base) (k := 1) Fd12 (Gd11.mono (by decide)) kd11 bd11 vd11 y_len
  have Gd13 := ok_same2 (P := l.prog) (w := w) (mg := mg) (base := base) (k := 0) Fd13 y_repr
  have Gd14 := ok_is_whole (P := l.prog) (w := w) (mg := mg) (base := base) (k := 0) LKI Fd14 y_isinstance y_int y_bool
  have Gd15 := ok_l_is_work (P := l.prog) (w := w) (mg := mg) (base := base) (k := 1) LKI Fd15 (Gd14.mono (by decide)) kd14 bd14 vd14 y_isinstance y_tuple y_len
  have Gd16 := ok_l_work (P := l.prog) (w := w) (mg := mg) (base := base) (k := 1) Fd16 (Gd11.mono (by decide)) kd11 bd11 vd11 y_range y_tuple
  have Gd17 := ok_l_odds (P := l.prog) (w := w) (mg := mg) (base := base) (k := 0) Fd17
  have Gd18 := ok_l_great (P := l.prog) (w := w) (mg := mg) (base := base) (k := 0) Fd18 y_range
  have Gd19 := ok_l_bendG (P := l.prog) (w := w) (mg := mg) (base := base) (k := 2) Fd19 (Gd11.mono (by decide)) kd11 bd11 vd11 (Gd12.mono (by decide)) kd12 bd12 vd12 y_len y_list y_tuple y_str
  have Gd20 := ok_right (P := l.prog) (w := w) (mg := mg) (base := base) (k := 12) (kM := 10) Fd20 M2 (by decide) (Gd15.mono (by decide)) kd15 bd15 vd15 (GLw.mono (by decide)) kd2 bd2 vd2 (Gd13.mono (by decide)) kd13 bd13 vd13 y_repr
  exact ok_law (P := l.prog) (w := w) (mg := mg) (base := base) (k := 12) Fd21 T Mi (Gi.mono (by decide)) (Gd9.mono (by decide)) kd9 bd9 vd9 (Gd10.mono (by decide)) kd10 bd10 vd10 (Gd16.mono (by decide)) kd16 bd16 vd16 (Gd17.mono (by decide)) kd17 bd17 vd17 (Gd18.mono (by decide)) kd18 bd18 vd18 (Gd19.mono (by decide)) kd19 bd19 vd19 (Gd20.mono (by decide)) kd20 bd20 vd20 y_range y_isinstance y_tuple y_list
end Sg
set_option Elab.async false
set_option linter.all false
open PySem PySem.W PyProof.Rows
set_option maxRecDepth 100000 in
set_option maxHeartbeats 0 in
theorem PySem.Challenge.cw_startgaps_k01_works_recognized_holds : PySem.Challenge.rw_startgaps_k01_works_recognized.Holds := by
  w_on; o_law; k_head; (case hw => w_witness2)
  k_fill
  refine Sg.walk_law (l := PySem.Challenge.rw_startgaps_k01_works_recognized) (k := 14) (x := "_law_script") (sp := Sg.spLaw) rfl rfl ⟨rfl, by decide, by decide⟩ (fun w h Y => PySem.W.kIn_of Y) ?F (fun K H a ns hl _ hS => ⟨a, ns, rfl, hS, hl, fun _ => rfl⟩)
  case F =>
    intro w mg fa h KX G hmg
    refine' Sg.all_mk KX G hmg ?ad0 ?ld0 ?cd0 ?kd0 ?ad1 ?ld1 ?cd1 ?kd1 ?ad2 ?ld2 ?cd2 ?kd2 ?ad3 ?ld3 ?cd3 ?kd3 ?ad4 ?ld4 ?cd4 ?kd4 ?ad5 ?ld5 ?cd5 ?kd5 ?ad6 ?ld6 ?cd6 ?kd6 ?ad7 ?ld7 ?cd7 ?kd7 ?ad8 ?ld8 ?cd8 ?kd8 ?ad9 ?ld9 ?cd9 ?kd9 ?ad10 ?ld10 ?cd10 ?kd10 ?ad11 ?ld11 ?cd11 ?kd11 ?ad12 ?ld12 ?cd12 ?kd12 ?ad13 ?ld13 ?cd13 ?kd13 ?ad14 ?ld14 ?cd14 ?kd14 ?ad15 ?ld15 ?cd15 ?kd15 ?ad16 ?ld16 ?cd16 ?kd16 ?ad17 ?ld17 ?cd17 ?kd17 ?ad18 ?ld18 ?cd18 ?kd18 ?ad19 ?ld19 ?cd19 ?kd19 ?ad20 ?ld20 ?cd20 ?kd20 ?ad21 ?ld21 ?cd21 ?kd21 ?aC ?am0 ?im0 ?lm0 ?cm0 ?km0 ?am1 ?im1 ?lm1 ?cm1 ?km1 ?am2 ?im2 ?lm2 ?cm2 ?km2 ?am3 ?im3 ?lm3 ?cm3 ?km3 ?am4 ?im4 ?lm4 ?cm4 ?km4 ?am5 ?im5 ?lm5 ?cm5 ?km5 ?am6 ?im6 ?lm6 ?cm6 ?km6 ?am7 ?im7 ?lm7 ?cm7 ?km7 ?am8 ?im8 ?lm8 ?cm8 ?km8 ?ap0 ?gp0 ?tp0 ?rp0 ?lp0 ?cp0 ?kp0 ?pg ?hd ?po ?sa ?mk ?kc ?nW ?nB ?nR ?ha ?hn ?ht ?hm ?sf ?rs ?is1 ?ir1 ?nsub ?ne ?ob ?fi ?fg ?iCl ?tCl ?nt_tuple ?nt_int ?nt_bool ?nt_str ?nt_list ?z_isinstance ?z_int ?z_bool ?z_tuple ?z_len ?z_all ?z_any ?z_zip ?z_range ?z_max ?z_min ?z_list ?z_str ?z_repr ?u_NOWHERE ?u_STATIONS ?u_MOST_ITEMS ?u_MOST_WORKS
    (case ad0 => k_is)
    (case ld0 => k_is)
    (case cd0 => k_is)
    (case kd0 => k_is)
    (case ad1 => k_is)
    (case ld1 => k_is)
    (case cd1 => k_is)
    (case kd1 => k_is)
    (case ad2 => k_is)
    (case ld2 => k_is)
    (case cd2 => k_is)
    (case kd2 => k_is)
    (case ad3 => k_is)
    (case ld3 => k_is)
    (case cd3 => k_is)
    (case kd3 => k_is)
    (case ad4 => k_is)
    (case ld4 => k_is)
    (case cd4 => k_is)
    (case kd4 => k_is)
    (case ad5 => k_is)
    (case ld5 => k_is)
    (case cd5 => k_is)
    (case kd5 => k_is)
    (case ad6 => k_is)
    (case ld6 => k_is)
    (case cd6 => k_is)
    (case kd6 => k_is)
    (case ad7 => k_is)
    (case ld7 => k_is)
    (case cd7 => k_is)
    (case kd7 => k_is)
    (case ad8 => k_is)
    (case ld8 => k_is)
    (case cd8 => k_is)
    (case kd8 => k_is)
    (case ad9 => k_is)
    (case ld9 => k_is)
    (case cd9 => k_is)
    (case kd9 => k_is)
    (case ad10 => k_is)
    (case ld10 => k_is)
    (case cd10 => k_is)
    (case kd10 => k_is)
    (case ad11 => k_is)
    (case ld11 => k_is)
    (case cd11 => k_is)
    (case kd11 => k_is)
    (case ad12 => k_is)
    (case ld12 => k_is)
    (case cd12 => k_is)
    (case kd12 => k_is)
    (case ad13 => k_is)
    (case ld13 => k_is)
    (case cd13 => k_is)
    (case kd13 => k_is)
    (case ad14 => k_is)
    (case ld14 => k_is)
    (case cd14 => k_is)
    (case kd14 => k_is)
    (case ad15 => k_is)
    (case ld15 => k_is)
    (case cd15 => k_is)
    (case kd15 => k_is)
    (case ad16 => k_is)
    (case ld16 => k_is)
    (case cd16 => k_is)
    (case kd16 => k_is)
    (case ad17 => k_is)
    (case ld17 => k_is)
    (case cd17 => k_is)
    (case kd17 => k_is)
    (case ad18 => k_is)
    (case ld18 => k_is)
    (case cd18 => k_is)
    (case kd18 => k_is)
    (case ad19 => k_is)
    (case ld19 => k_is)
    (case cd19 => k_is)
    (case kd19 => k_is)
    (case ad20 => k_is)
    (case ld20 => k_is)
    (case cd20 => k_is)
    (case kd20 => k_is)
    (case ad21 => k_is)
    (case ld21 => k_is)
    (case cd21 => k_is)
    (case kd21 => k_is)
    (case aC => k_is)
    (case am0 => k_is)
    (case im0 => k_is)
    (case lm0 => k_is)
    (case cm0 => k_is)
    (case km0 => k_is)
    (case am1 => k_is)
    (case im1 => k_is)
    (case lm1 => k_is)
    (case cm1 => k_is)
    (case km1 => k_is)
    (case am2 => k_is)
    (case im2 => k_is)
    (case lm2 => k_is)
    (case cm2 => k_is)
    (case km2 => k_is)
    (case am3 => k_is)
    (case im3 => k_is)
    (case lm3 => k_is)
    (case cm3 => k_is)
    (case km3 => k_is)
    (case am4 => k_is)
    (case im4 => k_is)
    (case lm4 => k_is)
    (case cm4 => k_is)
    (case km4 => k_is)
    (case am5 => k_is)
    (case im5 => k_is)
    (case lm5 => k_is)
    (case cm5 => k_is)
    (case km5 => k_is)
    (case am6 => k_is)
    (case im6 => k_is)
    (case lm6 => k_is)
    (case cm6 => k_is)
    (case km6 => k_is)
    (case am7 => k_is)
    (case im7 => k_is)
    (case lm7 => k_is)
    (case cm7 => k_is)
    (case km7 => k_is)
    (case am8 => k_is)
    (case im8 => k_is)
    (case lm8 => k_is)
    (case cm8 => k_is)
    (case km8 => k_is)
    (case ap0 => k_is)
    (case gp0 => k_is)
    (case tp0 => k_is)
    (case rp0 => k_is)
    (case lp0 => k_is)
    (case cp0 => k_is)
    (case kp0 => k_is)
    (case pg => k_is)
    (case hd => k_is)
    (case po => k_is)
    (case sa => k_is)
    (case mk => k_is)
    (case kc => k_is)
    (case nW => k_is)
    (case nB => k_is)
    (case nR => k_is)
    (case ha => k_is)
    (case hn => k_is)
    (case ht => k_is)
    (case hm => k_is)
    (case sf => k_is)
    (case rs => k_is)
    (case is1 => k_is)
    (case ir1 => k_is)
    (case nsub => k_is)
    (case ne => k_is)
    (case ob => k_is)
    (case fi => k_is)
    (case fg => k_is)
    (case iCl => k_is)
    (case tCl => k_is)
    (case nt_tuple => k_is)
    (case nt_int => k_is)
    (case nt_bool => k_is)
    (case nt_str => k_is)
    (case nt_list => k_is)
    (case z_isinstance => k_is)
    (case z_int => k_is)
    (case z_bool => k_is)
    (case z_tuple => k_is)
    (case z_len => k_is)
    (case z_all => k_is)
    (case z_any => k_is)
    (case z_zip => k_is)
    (case z_range => k_is)
    (case z_max => k_is)
    (case z_min => k_is)
    (case z_list => k_is)
    (case z_str => k_is)
    (case z_repr => k_is)
    (case u_NOWHERE => k_is)
    (case u_STATIONS => k_is)
    (case u_MOST_ITEMS => k_is)
    (case u_MOST_WORKS => k_is)
