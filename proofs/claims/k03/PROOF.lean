import PyProof.Rows.All
import HandS.ForMost
import HandS.IsInst
import HandS.TupMul
import HandS.TupAny
import HandS.Walk
import HandS.Zip
import PyProof.ReprRoads
import PyProof.ReprBulk
import KE.GoesMore
import PyProof.EnumMake
import HandS.Star
import HandS.Property
import HandS.SortKw
import KE.KOpsOwn
import KE.DataMinMax
import PyProof.InstNe
import HandS.Style
import HandS.DictTup
import PyProof.DictMoreH
import HandS.Iter
import PyProof.Rows.RowBridgeK
import HandS.EndTab
import KE.KNest
import HandS.Wide
import PyProof.Rows.ReprShort
import PyProof.ReprLen
import HandS.Conv
import HandS.TupSets
import PyProof.P3Statements
import HandS.SetFor
import HandS.Strs
import HandS.Dict
import HandS.More
import HandS.Deep
import KE.KDictKeyed
import KE.SortKeyHeap
import PyProof.CallFns
import PyProof.StrOps2
import HandS.HotCalls
import HandS.ExcIs
import HandS.ExcOwn
import HandS.WordsExc
import KE.KTryMore
import PySem.Challenge.RW_startgaps_k03_visits_and_refusals_of_wor
set_option Elab.async false
set_option linter.all false
set_option maxRecDepth 100000
set_option maxHeartbeats 4000000
namespace Sg
open PySem PySem.Spec PyProof.Rows L2

/-! ## defs that may ask for a text of data: they run outside of every such text -/
/-- a promise that holds where no text of data is being made -/
structure FnG (P : Program) (w : World) (K : PySem.W.Frag) (mg : Str → Option Value) (base : Heap) (k : Nat) (f : Addr)
    (fd : FuncData) (ps : List Str) (sp : Sp) : Prop where
  arity : ∀ vs H Q, sp vs H Q E0 → vs.length = ps.length
  go : ∀ (A : Around) (outer : List Env) (s : Shared) (H : Hp) (args : Args) (us : List Value) (vs : List V) (Q : VK),
    A.guards = some [] → Room k A → Env0 P w K mg base A outer s H → BindsTo s fd args (ps.zip us) → Vals vs us →
    sp vs H Q E0 → codeAny (model P w) A (.call (.ref f) args) (CR CX0 outer P w H s Q E0) s

section
variable {P : Program} {w : World} {K : PySem.W.Frag} {mg : Str → Option Value} {base : Heap} {k : Nat} {f : Addr}
variable {fd : FuncData} {ps : List Str} {sp : Sp}

theorem FnG.of (F : FnOk P w K mg base CX0 k f fd ps sp) : FnG P w K mg base k f fd ps sp :=
  ⟨fun vs H Q h => F.len vs H Q E0 h, fun A outer s H args us vs Q _ hr e0 hb hv h =>
    F.run A outer s H args us vs Q E0 hr e0 hb hv h⟩

theorem FnG.mono {j : Nat} (F : FnG P w K mg base j f fd ps sp) (h : j ≤ k) : FnG P w K mg base k f fd ps sp :=
  ⟨F.arity, fun A outer s H args us vs Q hg hr => F.go A outer s H args us vs Q hg (hr.mono h)⟩

/-- a def's body, where no text of data is being made -/
theorem fnG_mk {x qual : Str} {st : Stmt} {N : List Str} (F : Fun K x qual st f fd)
    (S : FnScope N ps (defScope st)) (arity : ∀ vs H Q, sp vs H Q E0 → vs.length = ps.length)
    (hbody : ∀ (cdv : Value) (A : Around) (outer : List Env) (s : Shared) (H : Hp) (vs : List V) (Q : VK),
      (A.deeper (envOfC qual (defScope st) s.heap.objs.size f cdv)).guards = some [] →
      Room k (A.deeper (envOfC qual (defScope st) s.heap.objs.size f cdv)) → sp vs H Q E0 →
      ∃ t, PSs (cxOf CX0 P w K mg base N qual (defScope st) f cdv A outer s H E0).nox (defBody st) t ∧
        t { nx := fun _ H' => Q .non H', rt := Q } (start N vs) H) :
    FnG P w K mg base (k + 1) f fd ps sp := by
  obtain ⟨oc, od, kV, doc, pm, an, cdv, ct, osl, rfl, lk, hcd⟩ := F.ex
  refine ⟨arity, ?_⟩
  intro A outer s H args us vs Q hg hr e0 hb r hsp
  have hl := arity _ _ _ hsp
  have hk0 : ∀ b o, base.get? b = some o → s.heap.get? b = some o := fun b o e => (e0.bs b o e).1
  have KX : K.In s.heap := e0.mod.kin.keeps hk0
  have lim : s.heap.NoLimit := e0.mod.nolimit.keeps hk0
  refine codeAny_call_function hr.depth (KX _ _ lk) rfl S.co S.gen rfl (PySem.W.codeRec_of KX hcd) ?_
  refine hb _ _ _ _ (wpAny_newFunctionEnv_cells S.kind ?_ ?_)
  · rintro ⟨n, v⟩ hy
    have hn := S.par n (List.of_mem_zip hy).1
    cases hn with
    | inl q => exact .inl q
    | inr q => exact .inr ⟨q, PySem.W.cellsFrom_some _ _ _ (.inl q)⟩
  · intro env he s1 x
    subst he
    refine ⟨lim.keeps x.toInCall.keep, ?_⟩
    apply codeAny_func
    obtain ⟨t, ht, hq⟩ := hbody cdv A outer s H vs Q hg (hr.deeper _) hsp
    have ht' := ht.nox
    have I := inv_start (CX := CX0) (E := E0) (cd := cdv) (qual := qual) (f := f) S hr.hd e0 hl r x
    refine wpAny_mono (ht'.run [] s1 (start N vs) H _ I hq) ?_ (fun e s' hs => hs)
    intro fl s' hs
    cases fl with
    | ret u =>
      obtain ⟨v, σ', H', J, rv, q⟩ := hs
      exact ⟨v, H', J.os, J.bare, J.base, J.hok, rv, q⟩
    | next =>
      obtain ⟨σ', H', J, q⟩ := hs
      exact ⟨V.non, H', J.os, J.bare, J.base, J.hok, rfl, q⟩
    | brk => obtain ⟨_, _, _, q⟩ := hs; exact q.elim
    | cont => obtain ⟨_, _, _, q⟩ := hs; exact q.elim
end

section
variable {X : Cx} {k : Nat} {f : Addr} {fd : FuncData} {ps : List Str} {sp : Sp} {dvs : List V} {ds : List Value}
variable {x : Str} {p pos : Pos} {e : Expr} {es : List Expr} {t : TA}
/-- f(a, ..) of such a def -/
theorem pe_callG (F : FnG X.prog X.w X.K X.mg X.base k f fd ps sp) (hgd : X.A.guards = some []) (hr : Room k X.A)
    (hg : Gl X x) (hm : X.mg x = some (.ref f)) (hk : PySem.W.keepIn X.K (.ref f) = true) (hb : Binds X.K fd ps [])
    (ha : PA X (e :: es) t) (hdb : (x == ("__debug__" : Str)) = false := by decide)
    (he : starEach (e :: es) X.env = (false, eval e X.env) :: starEach es X.env := by rfl)
    (hpl : (backTo pos (starEach es X.env)).any (·.1) = false := by rfl) :
    PE X (.Call (.Name x p) (e :: es) [] pos) (tCall sp [] E0 t) := by
  constructor
  intro pins s σ H Q I h
  refine wpAny_Call_Name_kw (ld_glob I hg hm (PySem.W.callWith_K (h₀ := X.base) I.ok.mod.kin hk ?_ he hpl) hdb)
  refine thn (ha.run pos pins s σ H _ I h) ?_
  rintro us s1 ⟨vs, H1, I1, r, q⟩
  refine ⟨I1.kIn, ?_⟩
  rw [List.append_nil] at q
  have hl : (us ++ []).length = ps.length := by rw [List.append_nil, ← r.length]; exact F.arity _ _ _ q
  have hbb := hb s1 us I1.kIn hl
  rw [List.append_nil] at hbb
  refine wpAny_call (codeAny_mono (F.go X.A X.stack s1 H1 ⟨us, []⟩ us vs Q hgd hr I1.env0 hbb r q) ?_)
  intro r' s' hq
  match r', hq with
  | .error _, hq => exact hq.elim
  | .ok (.ret _), hq => exact I1.after hq
  | .ok .next, hq => exact hq.elim
  | .ok .brk, hq => exact hq.elim
  | .ok .cont, hq => exact hq.elim

/-! ## repr of data -/
/-- what may be shown: its ints are not too great, and the text is not too long -/
def Shows (d : PyData) : Prop := d.showable = true ∧ d.hasDict = false ∧ d.depth ≤ 40 ∧ d.shown.length ≤ sizeLine
theorem call_reprD {j : Nat} (hgd : X.A.guards = some []) (hr : Room j X.A) :
    CallR X (.builtin "repr") (fun xs H Q => ∃ a d, xs = [.ref a] ∧ Dp X.K H (.ref a) d ∧ Shows d ∧ Q (.str d.shown) H) := by
  intro pins s σ H xs us Q I r h
  obtain ⟨a, d, rfl, hd, ⟨h1, h2, h3, h4⟩, q⟩ := h
  obtain ⟨u, rfl, rfl⟩ := vals1 r
  obtain ⟨as, rd⟩ := Dp.reads I d (.ref a) (.ref a) hd rfl
  have hu := hr.units
  refine repr_of_reads' (h₀ := s.heap) rd h1 (fun z => ?_) hgd (by omega) (fun _ _ z => z) (fun h' u tk hk => ?_) h4
  · rw [h2] at z; cases z
  · exact ⟨.str d.shown, H, I.kept hk, ⟨u, rfl⟩, q⟩
end
end Sg

set_option Elab.async false
set_option linter.all false
set_option maxRecDepth 100000
set_option maxHeartbeats 4000000
namespace Sg
open PySem PySem.Spec PyProof.Rows L2
/-! ## the law's own call -/
section
variable {P : Program} {w : World} {K : PySem.W.Frag} {mg mb : Str → Option Value} {k : Nat} {fa a : Addr}
variable {fd : FuncData} {x : Str} {sp : Sp} {s₁ : Shared} {vs : List Value} {ns : List Int}

/-- what is asked of the law's call -/
abbrev Ended (s₁ : Shared) : Result → Shared → Prop := fun r s' =>
  r = .ok (.ret (.bool true)) ∧ OldK s₁.heap s'.heap ∧ s'.os = s₁.os ∧ AllBare s'.gens

theorem call_from {H : Hp} (KX : K.In s₁.heap) (hns : s₁.heap.Ns mainGlobals mg) (hb : s₁.heap.Ns builtinsNs mb)
    (hbb : ∀ x : Str, x ≠ "__name__" → mb x = bootBuiltins x) (hlim : s₁.heap.NoLimit) (hg : s₁.gens = #[])
    (ha : s₁.heap.get? a = some { cls := .type "list", data := .seq vs.toArray }) (hr : Room k callerA)
    (F : ∀ base : Heap, K.In base → base.Ns mainGlobals mg → FnG P w K mg base k fa fd [x] sp)
    (hbind : ∀ (s : Shared) (u : Value), BindsTo s fd ⟨[u], []⟩ [(x, u)])
    (hsp : sp [.ref a] H (fun v _ => v = .bl true) E0) (hO : Only H) (hok : HOk P w H s₁.heap)
    (hA : ∀ b, H b ≠ none → b = a) (hK : H a ≠ none → K.lookup a = none) :
    codeAny (model P w) callerA (.call (.ref fa) ⟨[.ref a], []⟩) (Ended s₁) s₁ := by
  have only : ∀ {b : Addr} {u : HO}, H b = some u → b = a := fun z => hA _ (by rw [z]; exact fun q => nomatch q)
  have free : ∀ {b : Addr} {o : Obj} {es : Array DictEntry} {ep : Nat},
      s₁.heap.get? b = some o → o.data = .dict es ep → H b = none := by
    intro b o es ep e d
    rcases q : H b with _ | u
    · rfl
    · rw [only q, ha] at e
      have e' := Option.some.inj e
      rw [← e'] at d
      exact nomatch d
  have nsK : ∀ {b : Addr} {m : Str → Option Value}, s₁.heap.Ns b m → (hidT s₁.heap H).Ns b m := by
    rintro b m ⟨o, es, ep, e, d, r⟩
    exact ⟨o, es, ep, hidT_get e (free e d), d, r⟩
  have hKb : K.In (hidT s₁.heap H) := by
    intro b o e
    refine hidT_get (KX b o e) ?_
    rcases q : H b with _ | u
    · rfl
    · have e' := only q
      subst e'
      have z := hK (by rw [q]; exact fun q => nomatch q)
      rw [z] at e
      exact nomatch e
  have hM : Mod K mg (hidT s₁.heap H) := by
    refine ⟨hKb, nsK hns, ⟨mb, nsK hb, hbb⟩, ?_⟩
    obtain ⟨mc, h1, h2⟩ := hlim
    exact ⟨mc, nsK h1, h2⟩
  have e0 : Env0 P w K mg (hidT s₁.heap H) callerA [] s₁ H := by
    refine ⟨rfl, hM, fun b o e => of_hidT e, Nat.le_of_eq (hidT_size _ _), trivial, ?_, hok, .of_eq hg⟩
    intro b hb
    have hb' : b ∈ ([] : List Addr) := hb
    exact nomatch hb'
  have run := (F _ hKb (nsK hns)).go callerA [] s₁ H ⟨[.ref a], []⟩ [.ref a] [.ref a] _ rfl hr e0
    (hbind s₁ (.ref a)) (.cons rfl .nil) hsp
  refine codeAny_mono run ?_
  intro r s' h
  match r, h with
  | .error _, h => exact h.elim
  | .ok .next, h => exact h.elim
  | .ok .brk, h => exact h.elim
  | .ok .cont, h => exact h.elim
  | .ok (.ret u), h =>
    obtain ⟨v, H', os, bare, un, hok', r', q⟩ := h
    have q' : v = .bl true := q
    subst q'
    have eu : u = Value.bool true := r'
    subst eu
    refine ⟨rfl, OldK.of_keep ?_, os, bare⟩
    intro b o e
    rcases q : H b with _ | u
    · refine un.keep b o e q (fun z => ?_) (fun z => nomatch z)
      have z' : b ∈ ([] : List Addr) := z
      exact nomatch z'
    · rcases hO b with z | ⟨ob, xs, z⟩
      · rw [q] at z; exact nomatch z
      · obtain ⟨e1, _⟩ := hok b _ z
        obtain ⟨e2, _⟩ := hok' b _ (un.frzs b ob _ z)
        rw [e] at e1
        rw [e2, Option.some.inj e1]

theorem call_law (KX : K.In s₁.heap) (hns : s₁.heap.Ns mainGlobals mg) (hb : s₁.heap.Ns builtinsNs mb)
    (hbb : ∀ x : Str, x ≠ "__name__" → mb x = bootBuiltins x) (hlim : s₁.heap.NoLimit) (hg : s₁.gens = #[])
    (ha : s₁.heap.get? a = some { cls := .type "list", data := .seq vs.toArray }) (hi : IntsAre vs ns)
    (hl : ns.length ≤ sizeLine) (hr : Room k callerA)
    (F : ∀ base : Heap, K.In base → base.Ns mainGlobals mg → FnG P w K mg base k fa fd [x] sp)
    (hbind : ∀ (s : Shared) (u : Value), BindsTo s fd ⟨[u], []⟩ [(x, u)])
    (hsp : ∀ H : Hp, Only H → SqL K H a (ns.map V.int) → sp [.ref a] H (fun v _ => v = .bl true) E0) :
    codeAny (model P w) callerA (.call (.ref fa) ⟨[.ref a], []⟩) (Ended s₁) s₁ := by
  have rv := vals_ints hi
  have lenV := hi.length
  rcases hk : K.lookup a with _ | o
  · let H : Hp := fun b => if b = a then some (.frz { cls := .type "list", data := .seq vs.toArray } (.lst (ns.map V.int))) else none
    have at_a : H a = some (.frz { cls := .type "list", data := .seq vs.toArray } (.lst (ns.map V.int))) := if_pos rfl
    have off : ∀ b, b ≠ a → H b = none := fun b hb => if_neg hb
    have onlyH : Only H := by
      intro b
      by_cases hb : b = a
      · exact .inr ⟨_, _, if_pos hb⟩
      · exact .inl (off b hb)
    refine call_from (H := H) KX hns hb hbb hlim hg ha hr F hbind (hsp H onlyH (.inl (.inr ⟨_, at_a⟩))) onlyH ?_ ?_ (fun _ => hk)
    · intro b u z
      by_cases hb : b = a
      · subst hb
        rw [at_a] at z
        obtain rfl := Option.some.inj z
        exact ⟨ha, by rw [List.length_map]; exact hl, vs, _, rv, ha⟩
      · rw [off b hb] at z; exact nomatch z
    · intro b z
      by_cases hb : b = a
      · exact hb
      · exact absurd (off b hb) z
  · have e := KX a o hk
    rw [ha] at e
    obtain rfl := Option.some.inj e
    refine call_from (H := fun _ => none) KX hns hb hbb hlim hg ha hr F hbind (hsp _ (fun _ => .inl rfl) (.inr ?_)) (fun _ => .inl rfl)
      (fun b u z => nomatch z) (fun b z => absurd rfl z) (fun z => absurd rfl z)
    exact ⟨_, vs.toArray, _, hk, rfl, rfl, rfl, by rw [List.size_toArray, lenV]; exact hl, rv⟩
end

/-- the end of a law's proof -/
theorem walk_law {l : PySem.W.OpenLaw} {k : Nat} {q : Program} {loose : List Str} {XP : (Str → Option Value) → Heap → Prop}
    {YP : World → Heap → Prop} {d : DefRec} {K : Params → PySem.W.Frag} {sp : PySem.W.Frag → Sp} {x : Str}
    (hn : l.most = some 63) (hdf : d.params.defaults = []) (hr : Room k callerA)
    (hY : ∀ (w : World) (h : Heap), YP w h → (K w.params).In h)
    (F : ∀ (w : World) (mg : Str → Option Value) (fa : Addr) (h : Heap), (K w.params).In h → h.Ns mainGlobals mg →
      mg d.name = some (.ref fa) → ∃ fd : FuncData, (∀ (s : Shared) (u : Value), BindsTo s fd ⟨[u], []⟩ [(x, u)]) ∧
        ∀ base : Heap, (K w.params).In base → base.Ns mainGlobals mg →
          FnG l.prog w (K w.params) mg base k fa fd [x] (sp (K w.params)))
    (hsp : ∀ (K : PySem.W.Frag) (H : Hp) (a : Addr) (ns : List Int), ns.length ≤ 63 → Only H → SqL K H a (ns.map V.int) →
      sp K [.ref a] H (fun v _ => v = .bl true) E0) :
    PySem.W.WalkO q loose XP YP l.row.toRowW d [] (fun f vs => PySem.call f vs) := by
  refine Att.attach_call hn hdf ?_
  intro w s₀ s₁ mg mb fa o pm cd doc a vs ns G Y ho hd hcd hmg hobj hints hlen hg
  obtain ⟨fd, hb, hF⟩ := F w mg fa _ (hY w _ Y) G.T.g hmg
  exact call_law (hY w _ Y) G.T.g G.T.b G.T.builtins G.T.nolimit hg hobj hints
    (Nat.le_trans hlen (by decide)) hr hF hb (fun H hO hS => hsp _ H a ns hlen hO hS)
end Sg

set_option Elab.async false
set_option linter.all false
set_option maxRecDepth 100000
set_option maxHeartbeats 4000000
namespace PySem
open Sem (wp)
open AutoSeq1 (wpAny_loadPart')
/-- enumerate(t), t a tuple: its two new cells -/
theorem sg_enum_new (l : Addr) (items : Array Value) :
    Meets (Builtin.«enumerate.__new__» ⟨[.type "enumerate", .ref l], []⟩) (fun _ R s => s.heap.IsTuple l items ∧
      R (.ok (.ret (.ref (s.heap.push { cls := .type "tuple_iterator", data := .fields #[.ref l, .int 0 0] }).objs.size)))
        { s with heap := ((s.heap.push { cls := .type "tuple_iterator", data := .fields #[.ref l, .int 0 0] }).push { cls := .type "enumerate", data := .fields #[.none, .bool false, .ref s.heap.objs.size, rawInt 0, .none, .none] }) }) := by
  refine .of_wp ?_
  intro prog w A R s h
  obtain ⟨hp, g, d, tk, os⟩ := s
  obtain ⟨hT, h⟩ := h
  obtain ⟨o, hl, hc, n, hd⟩ := id hT
  have hsub := sub_enumerate
  wp_walk using wpAny_loadPart' hl
  refine wpAny_stack_any fun st => wpAny_pure ?_
  split
  · rename_i c _ _ _ _ _
    rcases hcc : (c == Value.type "enumerate") with _ | _ <;>
    · wp_walk using wpAny_loadPart' hl, wpAny_pyIter_tuple hT
      exact ⟨_, rfl, h⟩
  · wp_walk using wpAny_loadPart' hl, wpAny_pyIter_tuple hT
    exact ⟨_, rfl, h⟩

section
variable {prog : Program} {w : World} {A : Around} {E : Value → Shared → Prop} {s : Shared}
theorem sg_call_enum {l : Addr} {items : Array Value} {Q : Value → Shared → Prop} (hL : s.heap.IsTuple l items)
    (h : ∀ h', IsEnum h' (s.heap.objs.size + 1) s.heap.objs.size 0 .none → h'.IsTupleIter s.heap.objs.size l 0 →
      (∀ b o, s.heap.get? b = some o → h'.get? b = some o) → Q (.ref (s.heap.objs.size + 1)) { s with heap := h' }) :
    wpAny (model prog w) A (call (.type "enumerate") [.ref l]) Q E s := by
  refine callType_new F.called_enumerate (by decide) (F.typeCall_enumerate_1 _) (F.newCall_enumerate_1 _)
    (fun obj => F.args_object_init_2 obj _) F.entry_enumerate_new (sg_enum_new l items) ⟨hL, ?_⟩
  let o1 : Obj := { cls := .type "tuple_iterator", data := .fields #[.ref l, .int 0 0] }
  have hz : (s.heap.push o1).objs.size = s.heap.objs.size + 1 := Heap.size_push ..
  show _ ∧ _
  rw [hz]
  have he : IsEnum ((s.heap.push o1).push { cls := .type "enumerate", data := .fields #[.none, .bool false, .ref s.heap.objs.size, rawInt 0, .none, .none] })
      (s.heap.objs.size + 1) s.heap.objs.size 0 .none := by
    have z := Heap.get?_push_size (s.heap.push o1)
      (o := { cls := .type "enumerate", data := .fields #[.none, .bool false, .ref s.heap.objs.size, rawInt 0, .none, .none] }) rfl
    rw [hz] at z
    exact z
  refine ⟨⟨_, he, rfl⟩, h _ he ⟨_, Heap.get?_push_of_some _ (Heap.get?_push_size _ rfl), rfl, rfl⟩ ?_⟩
  intro b o x
  exact Heap.get?_push_of_some _ (Heap.get?_push_of_some _ x)
end
end PySem
namespace Sg
open PySem PySem.Spec PyProof.Rows L2
/-- the tuple at a, item by item, each in a new pair with its place -/
def ItE (K : PySem.W.Frag) (a : Addr) : It :=
  ⟨fun i H => ∃ (xs : List V) (x : V), SqT K H a xs ∧ xs[i]? = some x,
   fun i H v H' => ∃ T x, v = .ref T ∧ H T = none ∧ H' = upd H T (.tup [.int (i : Nat), x]) ∧ ∀ xs, SqT K H a xs → xs[i]? = some x,
   fun i H => ∃ xs : List V, SqT K H a xs ∧ xs.length ≤ i⟩
theorem turn_enumT {P : Program} {w : World} {K : PySem.W.Frag} {elts : List Expr} {kk : Nat} {tpos : Pos} (a e it : Addr) :
    Turn P w K (.Tuple elts kk tpos) (ItE K a) [e, it] e
      (fun i h => (∃ old, IsEnum h e it ((i : Nat) : Int) old) ∧ h.IsTupleIter it a i ∧ e ≠ it) := by
  have two : ∀ {b : Addr}, b ∈ [e, it] → b = e ∨ b = it := fun {b} hb => by simpa using hb
  refine ⟨by simp, ?_, ?_, ?_, ?_, ?_⟩
  · rintro i h ⟨⟨old, he⟩, ⟨o, ho, hc, hd⟩, _⟩ b hb
    rcases two hb with rfl | rfl
    · exact ⟨_, he, fun v q => nomatch q⟩
    · refine ⟨o, ho, fun v q => ?_⟩
      rw [hd] at q
      exact nomatch q
  · rintro i h h' ⟨⟨old, he⟩, hi, hne⟩ k
    exact ⟨⟨old, k e (by simp) _ he⟩, hi.at fun o q => k it (by simp) o q, hne⟩
  · intro X hP hw hK hc i pins s σ H E I hf st hg
    subst hP hw hK
    obtain ⟨⟨old, he⟩, hit, hne⟩ := st
    obtain ⟨xs, x, hq, hx⟩ := hg
    obtain ⟨its, rv, p, hz⟩ := I.tuple hq
    obtain ⟨u, hu, ru⟩ := rv.get hx
    have hel : e < s.heap.objs.size := Heap.lt_size he
    have hil : it < s.heap.objs.size := by obtain ⟨_, q, _⟩ := hit; exact Heap.lt_size q
    have hai : a ≠ it := by
      rintro rfl
      obtain ⟨o, ho, hcl, _⟩ := p
      obtain ⟨o', ho', hcl', _⟩ := hit
      rw [ho] at ho'
      obtain rfl := Option.some.inj ho'
      rw [hcl] at hcl'
      exact absurd hcl' (by decide)
    have hae : e ≠ a := by
      rintro rfl
      obtain ⟨o, ho, hcl, _⟩ := p
      have he' : s.heap.get? e = _ := he
      rw [ho] at he'
      obtain rfl := Option.some.inj he'
      have z : ("enumerate" : String) = "tuple" := Value.type.inj hcl
      exact absurd z (by decide)
    have hlt : i < its.length := (List.getElem?_eq_some_iff.mp hu).1
    refine wpAny_pyNext_enum_itemD (Draws.tuple (A := X.A.in1) (I.ok.hd hc) it a hai its.toArray) he ⟨hit, p⟩
      (by simpa using hlt) hne (by simp [hne, hae]) ?_
    intro x' h' tk hP ho hs' hT hsz hk
    have hxu : x' = u := by
      have z : its[i]? = some x' := by simpa using hP
      rw [hu] at z
      exact (Option.some.inj z).symm
    subst hxu
    refine ⟨_, rfl, wpAny_letOwnedTupleGo_enum (s := { s with heap := h', toks := tk + 1 }) ho ?_⟩
    intro h'' he' sb
    have hT2 : h''.get? s.heap.objs.size = some { cls := .type "tuple", data := .seq #[.int i tk, x'] } :=
      (sb.2 _ (Nat.ne_of_gt hel)).trans hT
    have new : ObjOk X.prog X.w (upd H s.heap.objs.size (.tup [.int (i : Nat), x])) h'' s.heap.objs.size (.tup [.int (i : Nat), x]) := by
      refine ⟨by show 2 ≤ sizeLine; decide, [.int i tk, x'], .cons ⟨_, rfl⟩ (.cons ru .nil), ⟨_, hT2, rfl, _, rfl⟩⟩
    have I1 : Inv X pins σ (upd H s.heap.objs.size (.tup [.int (i : Nat), x])) { s with heap := h'', toks := tk + 1 } := by
      refine I.turnedNew (ch := [e, it]) ?_ hf (Nat.le_refl _) new
      intro b ob hb q
      have n1 : b ≠ e := fun z => hb (by simp [z])
      have n2 : b ≠ it := fun z => hb (by simp [z])
      exact (sb.2 b n1).trans (hk b ob n1 n2 q)
    refine ⟨.ref s.heap.objs.size, _, I1, rfl, ⟨_, x, rfl, I.hok.fresh (Nat.le_refl _), rfl, ?_⟩, ⟨⟨x', ?_⟩, ?_, hne⟩, ?_⟩
    · intro ys hy
      rw [I.tuple_inj hy hq]
      exact hx
    · have e1 : ((i + 1 : Nat) : Int) = (i : Int) + 1 := by omega
      rw [e1]
      exact he'
    · exact hs'.1.at fun o q => (sb.2 it (Ne.symm hne)).trans q
    · intro b hb
      have hb' : b < s.heap.objs.size := by
        rcases two hb with rfl | rfl
        · exact hel
        · exact hil
      rw [upd_ne (Nat.ne_of_lt hb')]
      exact (hf b hb).1
  · intro X hP hw hK hc i pins s σ H E I hf st hg
    subst hP hw hK
    obtain ⟨⟨old, he⟩, hit, hne⟩ := st
    obtain ⟨xs, hq, hx⟩ := hg
    obtain ⟨its, rv, p, hz⟩ := I.tuple hq
    obtain ⟨f0, f1, f2, f3, f4, f5⟩ := hf it (by simp)
    have hl := rv.length
    have hh : X.A.in1.in1.handled = none := I.ok.hd hc
    have hai : a ≠ it := by
      rintro rfl
      obtain ⟨o, ho, hcl, _⟩ := p
      obtain ⟨o', ho', hcl', _⟩ := hit
      rw [ho] at ho'
      obtain rfl := Option.some.inj ho'
      rw [hcl] at hcl'
      exact absurd hcl' (by decide)
    unfold pyNext
    have hTy : s.TypeIs (.ref e) "enumerate" := ⟨_, he, rfl⟩
    refine wpAny_bind (wpAny_attempt (wpAny_callSpecial?_slot (name := Str.ofString "__next__") hTy F.slot_enumerate_next
      (wpAny_call_entry F.slot_enumerate_next hTy F.entry_enumerate_next ?_ (F.args_enumerate_next_1 _))))
    show wpAny _ _ (field (.ref e) 2 >>= _) _ _ _
    refine wpAny_bind (wpAny_field he rfl (x := .ref it) rfl ?_)
    refine wpAny_bind (wpAny_nextOf_tuple_end hh hit p (by simp; omega) ?_)
    rintro h' x he' ⟨o, ho, hcl⟩
    refine wpAny_bind (wpAny_isInstance (T := "StopIteration") (b := true) ⟨o, ho, hcl⟩ isSubtype_stop (wpAny_pure ?_))
    exact ⟨rfl, I.turned (t' := s.toks) (fun b o hb q => he' b o hb q) f0 f1 f3 f4 f5⟩
  · intro A i s Q E st h
    obtain ⟨⟨_, he⟩, _⟩ := st
    exact wpAny_pyIter_enum he h
def iEnT (K : PySem.W.Frag) (ta : TA) : TI := fun σ H R => ta σ H fun vs H1 => ∃ a xs, vs = [.ref a] ∧ SqT K H1 a xs ∧ R (ItE K a) H1
theorem pi_enumT {X : Cx} {e : Expr} {ta : TA} {p pos tpos : Pos} {elts : List Expr} {kk : Nat} (hg : Gl X "enumerate")
    (hm : X.mg "enumerate" = none) (ha : PA X [e] ta) (hs : starEach [e] X.env = [(false, eval e X.env)] := by rfl) :
    PI X (.Tuple elts kk tpos) (.Call (.Name "enumerate" p) [e] [] pos) (iEnT X.K ta) := by
  constructor
  intro pins s σ H R I h
  refine Call_ (ld_blt I hg hm boot_enumerate (PyProof.Rows.callWith_type1 (thn (ha.run pos pins s σ H _ I h) ?_) hs rfl))
  rintro us s1 ⟨vs, H1, I1, r1, a, xs, rfl, hq, q⟩
  obtain ⟨u, rfl, rfl⟩ := vals1 r1
  obtain ⟨its, rv, p', hz⟩ := I1.tuple hq
  refine sg_call_enum p' ?_
  intro h' he hit hk
  refine wpAny_pyIter_enum he ?_
  have I2 : Inv X pins σ H1 { s1 with heap := h' } := I1.kept (t' := s1.toks) hk
  refine ⟨s1.heap.objs.size + 1, [s1.heap.objs.size + 1, s1.heap.objs.size], _, _, H1, rfl, I2,
    turn_enumT a (s1.heap.objs.size + 1) s1.heap.objs.size, ⟨⟨.none, he⟩, hit, Nat.succ_ne_self _⟩, ?_, q⟩
  intro b hb
  have hle : s1.heap.objs.size ≤ b := by
    have e' : b = s1.heap.objs.size + 1 ∨ b = s1.heap.objs.size := by simpa using hb
    rcases e' with rfl | rfl
    · exact Nat.le_succ _
    · exact Nat.le_refl _
  exact I1.fpOk hle (I1.hok.fresh hle)
end Sg

set_option Elab.async false
set_option linter.all false
set_option maxRecDepth 100000
set_option maxHeartbeats 4000000
namespace Sg
open PySem PySem.Spec PyProof.Rows L2
/-! ## [c for a in t for b in a for c in b], tuples all the way down -/
/-- slots that agree but for those of ws -/
def Ag (ws : List Nat) (σ σ' : L2.St) : Prop := σ'.length = σ.length ∧ ∀ j, j ∉ ws → σ'[j]? = σ[j]?
theorem Ag.refl (ws : List Nat) (σ : L2.St) : Ag ws σ σ := ⟨rfl, fun _ _ => rfl⟩
theorem Ag.trans {ws : List Nat} {a b c : L2.St} (h : Ag ws a b) (k : Ag ws b c) : Ag ws a c := ⟨k.1.trans h.1, fun j hj => (k.2 j hj).trans (h.2 j hj)⟩
theorem Ag.set {ws : List Nat} {σ : L2.St} {k : Nat} {v : Option V} (hk : k ∈ ws) : Ag ws σ (σ.set k v) := ⟨List.length_set, fun j hj => by
  rw [List.getElem?_set_ne]
  rintro rfl
  exact hj hk⟩
theorem Ag.mono {ws us : List Nat} {σ σ' : L2.St} (h : Ag ws σ σ') (k : ∀ j ∈ ws, j ∈ us) : Ag us σ σ' := ⟨h.1, fun j hj => h.2 j fun z => hj (k j z)⟩
/-- a turn of a loop of a comprehension without tests -/
def flatTurn (e : Expr) (d : Nat) (it D : Addr) (n : Str) (p pos : Pos) (bd : Sem Fin → Sem Fin) (env : Env) : Sem Fin :=
  standAt pos >>= fun _ => pyNext (.ref it) >>= fun r => match r with
    | none => pure (.done .next)
    | some v => letOwnedTupleGo (.Name n p) (.ref it) v >>= fun _ => assign (.Name n p) env v >>= fun _ =>
      bd (again (.compLoop e d (.ref it) (.ref D) env))
section
variable {Z : Cx} {elt : Expr} {gens : List Comprehension} {scope : Scope} {cpos p pos : Pos} {d k : Nat} {it D c : Addr} {n : Str} {bd : Sem Fin → Sem Fin}
variable {R : Result → Shared → Prop} {xs : List V} {pins : List (Addr × Obj)} {ws : List Nat}
theorem flat_loop (hxe : Z.xe = fun _ _ => False) (hcalm : Z.calm = true) (hN : Z.N.Nodup)
    (hturn : compTurn (.ListComp elt gens scope cpos) d (.ref it) (.ref D) Z.env = flatTurn (.ListComp elt gens scope cpos) d it D n p pos bd Z.env)
    (hk : Z.N[k]? = some n) (hloc : Loc Z.env.scope n) (hfn : Z.fn n = true ∨ Z.env.scope.names.lookup n = some .local) (hkw : k ∈ ws)
    (σ : L2.St) (G : Nat → Hp → Prop) (hG : ∀ i H, i ≤ xs.length → G i H → SqT Z.K H c xs) (hfp : ∀ H, H it = none → FpOk Z pins H it)
    (hbd : ∀ i x s σ' H, xs[i]? = some x → G i H → H it = none → Inv Z (pins ++ pinsAt [it] s.heap) σ' H s → σ'[k]? = some (some x) → Ag ws σ σ' →
      ∀ (kk : Sem Fin) (Qf : Fin → Shared → Prop) (Ef : Value → Shared → Prop),
        (∀ s' σ'' H', Inv Z (pins ++ pinsAt [it] s.heap) σ'' H' s' → Ag ws σ σ'' → G (i + 1) H' → wpAny (model Z.prog Z.w) Z.A kk Qf Ef s') → wpAny (model Z.prog Z.w) Z.A (bd kk) Qf Ef s)
    (hfin : ∀ s' σ' H', Inv Z pins σ' H' s' → Ag ws σ σ' → G xs.length H' → R (.ok .next) s')
    {s : Shared} {σ₀ : L2.St} {H₀ : Hp} (I₀ : Inv Z pins σ₀ H₀ s) (ag₀ : Ag ws σ σ₀) (g₀ : G 0 H₀) (n₀ : H₀ it = none) (st₀ : s.heap.IsTupleIter it c 0) :
    codeAny (model Z.prog Z.w) Z.A (.compLoop (.ListComp elt gens scope cpos) d (.ref it) (.ref D) Z.env) R s := by
  have T := turn_tuple (P := Z.prog) (w := Z.w) (K := Z.K) (tg := .Name n p) c it
  have hb1 : ∀ {H : Hp}, H it = none → ∀ b ∈ [it], FpOk Z pins H b := by
    intro H hn b hb
    rw [List.mem_singleton.mp hb]
    exact hfp H hn
  refine codeAny_loop rfl (fun m s' => ∃ i σ' H', Inv Z pins σ' H' s' ∧ Ag ws σ σ' ∧ G i H' ∧ H' it = none ∧ s'.heap.IsTupleIter it c i ∧ i ≤ xs.length ∧ m = xs.length - i) ?_ xs.length
    ⟨0, σ₀, H₀, I₀, ag₀, g₀, n₀, st₀, Nat.zero_le _, rfl⟩
  rintro m s1 ⟨i, σ1, H1, I1, ag1, g1, n1, st1, hi, rfl⟩
  show wpAny _ Z.A ((compTurn (.ListComp elt gens scope cpos) d (.ref it) (.ref D) Z.env).onRaise (fun x => do noteFrame x Z.env; theTreesLotGoes x)) _ _ s1
  refine wpAny_noted ?_
  rw [hturn]
  refine wpAny_bind (wpAny_standAt (wpAny_bind ?_))
  have hq := hG i H1 hi g1
  by_cases hlt : i < xs.length
  · have go := T.item Z rfl rfl rfl hcalm i pins s1 σ1 H1 (fun _ _ => False) I1 (hb1 n1) st1 ⟨xs, xs[i], hq, List.getElem?_eq_getElem hlt⟩
    refine thnF go ?_
    rintro r s2 ⟨u, rfl, h2⟩
    refine wpAny_bind (thnF h2 ?_)
    rintro _ s3 ⟨x, H3, I3, r3, ⟨eH, hy⟩, st3, n3⟩
    subst eH
    have hx : xs[i]? = some x := hy xs hq
    have n3' : H3 it = none := n3 it (List.mem_singleton.mpr rfl)
    have I3' := I3.pinned (hb1 n3') (T.obj _ _ st3)
    have ia := (pg_name (X := Z) (pos := p) hN hk hloc hfn).run _ s3 σ1 H3 x u (fun σ' H' => σ' = σ1.set k (some x) ∧ H' = H3) I3' r3 ⟨rfl, rfl⟩
    rw [hxe] at ia
    refine wpAny_bind (thnF ia ?_)
    rintro _ s4 ⟨σ4, H4, I4, rfl, rfl⟩
    obtain ⟨o, ho, hoc⟩ := T.obj _ _ st3 it (List.mem_singleton.mpr rfl)
    have pin4 := I4.pin (it, o) (List.mem_append_right _ (List.mem_append_right _ (mem_pinsAt (List.mem_singleton.mpr rfl) ho)))
    have ep : pinsAt [it] s3.heap = pinsAt [it] s4.heap := by
      unfold pinsAt
      rw [List.filterMap_cons, List.filterMap_cons, ho, pin4.1]
      rfl
    rw [ep] at I4
    have hσ4 : (σ1.set k (some x))[k]? = some (some x) := by
      have hkl : k < σ1.length := by rw [I1.len]; exact (List.getElem?_eq_some_iff.mp hk).1
      rw [List.getElem?_set_self hkl]
    refine hbd i x s4 _ _ hx g1 n3' I4 hσ4 (ag1.trans (Ag.set hkw)) _ _ _ ?_
    intro s5 σ5 H5 I5 ag5 g5
    have pin5 := I5.pin (it, o) (List.mem_append_right _ (List.mem_append_right _ (mem_pinsAt (List.mem_singleton.mpr rfl) pin4.1)))
    have st5 : s5.heap.IsTupleIter it c (i + 1) := T.keep _ _ _ st3 (by
      intro b hb o' e
      rw [List.mem_singleton.mp hb] at e ⊢
      rw [ho] at e
      rw [← Option.some.inj e]
      exact pin5.1)
    exact wpAny_pure ⟨rfl, xs.length - (i + 1), by omega, i + 1, σ5, H5, I5.unpinned, ag5, g5, pin5.2.1, st5, hlt, rfl⟩
  · have e : i = xs.length := by omega
    subst e
    have stop := T.done Z rfl rfl rfl hcalm xs.length pins s1 σ1 H1 (fun _ _ => False) I1 (hb1 n1) st1 ⟨xs, hq, Nat.le_refl _⟩
    refine thnF stop ?_
    rintro r s2 ⟨rfl, I2⟩
    exact wpAny_pure (hfin s2 σ1 H1 I2 ag1 g1)
end
/-! ### the three clauses -/
abbrev flatE (n1 n2 n3 : Str) (iter : Expr) (scope : Scope) (q1 q2 q3 a1 a2 a3 pos : Pos) : Expr :=
  .ListComp (.Name n3 a3) [⟨.Name n1 q1, iter, [], 0⟩, ⟨.Name n2 q2, .Name n1 a1, [], 0⟩, ⟨.Name n3 q3, .Name n2 a2, [], 0⟩] scope pos
section
variable {n1 n2 n3 : Str} {iter : Expr} {scope : Scope} {q1 q2 q3 a1 a2 a3 pos : Pos} {it D : Addr} {env : Env}
abbrev downBody (e i : Expr) (d : Nat) (D : Addr) (env : Env) (kk : Sem Fin) : Sem Fin := eval i env >>= fun x => standAt i.pos >>= fun _ =>
  foldedSetIterable i env x >>= fun x => holding [x] (pyIter x) >>= fun it' => runOwn (.compStart e d it' (.ref D) env) env >>= fun _ => kk
abbrev addBody (elt : Expr) (D : Addr) (env : Env) (kk : Sem Fin) : Sem Fin :=
  (eval elt env >>= fun x => call (.builtin "list.append") [.ref D, x] >>= fun _ => pure ()) >>= fun _ => kk
theorem flat_t0 : compTurn (flatE n1 n2 n3 iter scope q1 q2 q3 a1 a2 a3 pos) 0 (.ref it) (.ref D) env =
    flatTurn (flatE n1 n2 n3 iter scope q1 q2 q3 a1 a2 a3 pos) 0 it D n1 q1 iter.pos (downBody (flatE n1 n2 n3 iter scope q1 q2 q3 a1 a2 a3 pos) (.Name n1 a1) 1 D env) env := by rfl
theorem flat_t1 : compTurn (flatE n1 n2 n3 iter scope q1 q2 q3 a1 a2 a3 pos) 1 (.ref it) (.ref D) env =
    flatTurn (flatE n1 n2 n3 iter scope q1 q2 q3 a1 a2 a3 pos) 1 it D n2 q2 a1 (downBody (flatE n1 n2 n3 iter scope q1 q2 q3 a1 a2 a3 pos) (.Name n2 a2) 2 D env) env := by rfl
theorem flat_t2 : compTurn (flatE n1 n2 n3 iter scope q1 q2 q3 a1 a2 a3 pos) 2 (.ref it) (.ref D) env =
    flatTurn (flatE n1 n2 n3 iter scope q1 q2 q3 a1 a2 a3 pos) 2 it D n3 q3 a2 (addBody (.Name n3 a3) D env) env := by rfl
end
section
variable {prog : Program} {w : World} {A : Around} {R : Result → Shared → Prop} {s : Shared} {n1 n2 n3 : Str} {iter : Expr} {scope : Scope} {q1 q2 q3 a1 a2 a3 pos : Pos} {it acc : Value} {env : Env}
theorem flat_s1 (h0 : codeAny (model prog w) A (.compLoop (flatE n1 n2 n3 iter scope q1 q2 q3 a1 a2 a3 pos) 1 it acc env) R s)
    (h : wpAny (model prog w) A (pyIter it) (fun it' s' => codeAny (model prog w) A (.compLoop (flatE n1 n2 n3 iter scope q1 q2 q3 a1 a2 a3 pos) 1 it' acc env) R s') (notedBy (model prog w) A env fun x s' => R (.error x) s') s) :
    codeAny (model prog w) A (.compStart (flatE n1 n2 n3 iter scope q1 q2 q3 a1 a2 a3 pos) 1 it acc env) R s := by
  apply codeAny_of_tree
  show wpAny _ _ ((compStart (flatE n1 n2 n3 iter scope q1 q2 q3 a1 a2 a3 pos) 1 it acc env).onRaise (fun x => do noteFrame x env; standAt theWindowsPlace)) _ _ s
  apply wpAny_notedAt
  unfold compStart
  show wpAny _ _ (ask >>= _) _ _ s
  refine wpAny_bind (wpAny_askSetting (wpAny_ite ?_))
  split
  · first | exact wpAny_pure (And.intro rfl h0) | exact wpAny_bind (wpAny_pure (wpAny_pure (And.intro rfl h0)))
  · refine wpAny_bind (wpAny_rule ?_)
    show wpAny _ _ (standAt a1 >>= _) _ _ s
    exact wpAny_bind (wpAny_standAt (wpAny_bind (wpAny_mono h (fun it' s' h' => wpAny_pure (And.intro rfl h')) fun _ _ x => x)))
theorem flat_s2 (h0 : codeAny (model prog w) A (.compLoop (flatE n1 n2 n3 iter scope q1 q2 q3 a1 a2 a3 pos) 2 it acc env) R s)
    (h : wpAny (model prog w) A (pyIter it) (fun it' s' => codeAny (model prog w) A (.compLoop (flatE n1 n2 n3 iter scope q1 q2 q3 a1 a2 a3 pos) 2 it' acc env) R s') (notedBy (model prog w) A env fun x s' => R (.error x) s') s) :
    codeAny (model prog w) A (.compStart (flatE n1 n2 n3 iter scope q1 q2 q3 a1 a2 a3 pos) 2 it acc env) R s := by
  apply codeAny_of_tree
  show wpAny _ _ ((compStart (flatE n1 n2 n3 iter scope q1 q2 q3 a1 a2 a3 pos) 2 it acc env).onRaise (fun x => do noteFrame x env; standAt theWindowsPlace)) _ _ s
  apply wpAny_notedAt
  unfold compStart
  show wpAny _ _ (ask >>= _) _ _ s
  refine wpAny_bind (wpAny_askSetting (wpAny_ite ?_))
  split
  · first | exact wpAny_pure (And.intro rfl h0) | exact wpAny_bind (wpAny_pure (wpAny_pure (And.intro rfl h0)))
  · refine wpAny_bind (wpAny_rule ?_)
    show wpAny _ _ (standAt a2 >>= _) _ _ s
    exact wpAny_bind (wpAny_standAt (wpAny_bind (wpAny_mono h (fun it' s' h' => wpAny_pure (And.intro rfl h')) fun _ _ x => x)))
end
end Sg

set_option Elab.async false
set_option linter.all false
set_option maxRecDepth 100000
set_option maxHeartbeats 4000000
namespace Sg
open PySem PySem.Spec PyProof.Rows L2
/-- cells are tuples; xs are all their items -/
inductive FlatL (K : PySem.W.Frag) (H : Hp) : List V → List V → Prop
  | nil : FlatL K H [] []
  | cons {a : Addr} {ys cells xs : List V} : SqT K H a ys → FlatL K H cells xs → FlatL K H (.ref a :: cells) (ys ++ xs)
/-- rows are tuples of tuples; xs are all the items of these -/
inductive FlatR (K : PySem.W.Frag) (H : Hp) : List V → List V → Prop
  | nil : FlatR K H [] []
  | cons {a : Addr} {cells ys rows xs : List V} : SqT K H a cells → FlatL K H cells ys → FlatR K H rows xs → FlatR K H (.ref a :: rows) (ys ++ xs)
section
variable {K : PySem.W.Frag} {H : Hp}
theorem FlatL.snoc {a : Addr} {ys : List V} (h : SqT K H a ys) : ∀ {cells xs : List V}, FlatL K H cells xs → FlatL K H (cells ++ [.ref a]) (xs ++ ys)
  | _, _, .nil => by have z := FlatL.cons h .nil; rwa [List.append_nil] at z
  | _, _, .cons h1 r => by rw [List.append_assoc]; exact .cons h1 (FlatL.snoc h r)
theorem FlatR.snoc {a : Addr} {cells ys : List V} (h : SqT K H a cells) (hl : FlatL K H cells ys) : ∀ {rows xs : List V}, FlatR K H rows xs → FlatR K H (rows ++ [.ref a]) (xs ++ ys)
  | _, _, .nil => by have z := FlatR.cons h hl .nil; rwa [List.append_nil] at z
  | _, _, .cons h1 h2 r => by rw [List.append_assoc]; exact .cons h1 h2 (FlatR.snoc h hl r)
theorem FlatL.same {H' : Hp} (e : Same H H') : ∀ {cells xs : List V}, FlatL K H cells xs → FlatL K H' cells xs
  | _, _, .nil => .nil
  | _, _, .cons h r => .cons (h.imp (fun z => z.imp (e _ _) fun ⟨o, z⟩ => ⟨o, e _ _ z⟩) id) (FlatL.same e r)
theorem FlatR.same {H' : Hp} (e : Same H H') : ∀ {rows xs : List V}, FlatR K H rows xs → FlatR K H' rows xs
  | _, _, .nil => .nil
  | _, _, .cons h l r => .cons (h.imp (fun z => z.imp (e _ _) fun ⟨o, z⟩ => ⟨o, e _ _ z⟩) id) (FlatL.same e l) (FlatR.same e r)
theorem sqT_new {D a : Addr} {o : HO} {ys : List V} (n : H D = none) (h : SqT K H a ys) : SqT K (upd H D o) a ys :=
  h.imp (fun z => z.imp (fun z => by rw [upd_ne (ne_of_none z n)]; exact z) fun ⟨u, z⟩ => ⟨u, by rw [upd_ne (ne_of_none z n)]; exact z⟩) id
end
section
variable {Z : Cx} {n1 n2 n3 : Str} {iter : Expr} {scope : Scope} {q1 q2 q3 a1 a2 a3 pos : Pos} {k1 k2 k3 : Nat}
/-- what the block says of its names -/
structure FlatN (Z : Cx) (n1 n2 n3 : Str) (k1 k2 k3 : Nat) : Prop where
  xe : Z.xe = fun _ _ => False
  calm : Z.calm = true
  nd : Z.N.Nodup
  h1 : Z.N[k1]? = some n1
  h2 : Z.N[k2]? = some n2
  h3 : Z.N[k3]? = some n3
  l1 : Z.env.scope.names.lookup n1 = some .local
  l2 : Z.env.scope.names.lookup n2 = some .local
  l3 : Z.env.scope.names.lookup n3 = some .local
  d1 : (n1 == ("__debug__" : Str)) = false
  d2 : (n2 == ("__debug__" : Str)) = false
  d3 : (n3 == ("__debug__" : Str)) = false
  c1 : (n1 == ("__classdict__" : Str)) = false
  c2 : (n2 == ("__classdict__" : Str)) = false
  c3 : (n3 == ("__classdict__" : Str)) = false
/-- the innermost loop -/
theorem flat_in (B : FlatN Z n1 n2 n3 k1 k2 k3) {pins : List (Addr × Obj)} {σ : L2.St} {H : Hp} {s : Shared} {R : Result → Shared → Prop} {it D c : Addr} {acc xs : List V}
    (hn : H D = none) (hc : SqT Z.K H c xs) (hz : acc.length + xs.length ≤ 1000000) (I : Inv Z pins σ (upd H D (.lst acc)) s) (st : s.heap.IsTupleIter it c 0) (hit : (upd H D (.lst acc)) it = none)
    (hfp : ∀ H, H it = none → FpOk Z pins H it)
    (fin : ∀ s' σ', Inv Z pins σ' (upd H D (.lst (acc ++ xs))) s' → Ag [k3] σ σ' → R (.ok .next) s') :
    codeAny (model Z.prog Z.w) Z.A (.compLoop (flatE n1 n2 n3 iter scope q1 q2 q3 a1 a2 a3 pos) 2 (.ref it) (.ref D) Z.env) R s := by
  refine flat_loop B.xe B.calm B.nd flat_t2 B.h3 (.inl B.l3) (.inr B.l3) (List.mem_singleton.mpr rfl) σ (fun i H' => H' = upd H D (.lst (acc ++ xs.take i)))
    (fun i H' _ e => by rw [e]; exact sqT_new hn hc) hfp (fun i x s1 σ1 H1 hx e hi I1 hk ag kk Qf Ef cont => ?_) (fun s' σ' H' I' ag e => ?_) I (Ag.refl _ _) (by rw [List.take_zero, List.append_nil]) hit st
  · subst e
    have ev := (pe_var (pos := a3) (X := Z) B.h3 (.inl B.l3) B.d3 B.c3).run _ s1 σ1 _ (fun v H2 => v = x ∧ H2 = upd H D (.lst (acc ++ xs.take i))) I1 ⟨x, hk, rfl, rfl⟩
    rw [B.xe] at ev
    refine wpAny_bind (wpAny_bind (thnF ev ?_))
    rintro u s2 ⟨v, H2, I2, r2, rfl, rfl⟩
    have lt : (acc ++ xs.take i).length < sizeLine := by
      have h4 : sizeLine = 16777216 := sizeLine_eq
      rw [List.length_append, List.length_take]
      have := Nat.min_le_right i xs.length
      omega
    refine wpAny_bind (app_ok (X := Z) I2 upd_same lt r2 fun s3 I3 => wpAny_pure ?_)
    rw [upd_upd] at I3
    refine cont s3 σ1 _ I3 ag ?_
    rw [List.take_add_one, hx, List.append_assoc]
    rfl
  · subst e
    rw [List.take_length] at I'
    exact fin s' σ' I' ag
/-- down a level: name, iterator, loop -/
theorem flat_down {pins : List (Addr × Obj)} {σ : L2.St} {H : Hp} {s : Shared} {c : Addr} {ys : List V} {nn : Str} {aa : Pos} {e : Expr} {d k : Nat} {D : Addr} {kk : Sem Fin} {Qf : Fin → Shared → Prop} {Ef : Value → Shared → Prop}
    (hxe : Z.xe = fun _ _ => False) (hN : Z.N[k]? = some nn) (hl : Z.env.scope.names.lookup nn = some .local) (hd : (nn == ("__debug__" : Str)) = false) (hcd : (nn == ("__classdict__" : Str)) = false)
    (I : Inv Z pins σ H s) (hk : σ[k]? = some (some (.ref c))) (hq : SqT Z.K H c ys)
    (go : ∀ s1 it, Inv Z pins σ H s1 → H it = none → (∀ H, H it = none → FpOk Z pins H it) → s1.heap.IsTupleIter it c 0 →
      codeAny (model Z.prog Z.w) Z.A (.compStart e d (.ref it) (.ref D) Z.env) (fun r s' => r = .ok .next ∧ wpAny (model Z.prog Z.w) Z.A kk Qf Ef s') s1) :
    wpAny (model Z.prog Z.w) Z.A (downBody e (.Name nn aa) d D Z.env kk) Qf Ef s := by
  have ev := (pe_var (pos := aa) (X := Z) hN (.inl hl) hd hcd).run _ s σ H (fun v H2 => v = .ref c ∧ H2 = H) I ⟨.ref c, hk, rfl, rfl⟩
  rw [hxe] at ev
  refine wpAny_bind (thnF ev ?_)
  rintro u s2 ⟨v, H2, I2, r2, rfl, rfl⟩
  obtain rfl : u = Value.ref c := r2
  refine wpAny_bind (wpAny_standAt (wpAny_bind (wpAny_of_eq (a := Value.ref c) rfl (wpAny_bind (wpAny_holding ?_)))))
  obtain ⟨its, rv, p, hz⟩ := I2.tuple hq
  refine wpAny_pyIter_tuple (show s2.heap.IsTuple c its.toArray from p) ?_
  refine wpAny_bind (wpAny_runOwn ?_)
  rw [Around.mark_none]
  have I3 : Inv Z pins σ H2 { s2 with heap := s2.heap.push { cls := .type "tuple_iterator", data := .fields #[.ref c, .int 0 0] } } := I2.kept (t' := s2.toks) fun b o e => Heap.get?_push_of_some _ e
  refine codeAny_mono (go _ s2.heap.objs.size I3 (I2.hok.fresh (Nat.le_refl _)) (fun H' h => I2.fpOk (Nat.le_refl _) h) ⟨_, Heap.get?_push_size _ rfl, rfl, rfl⟩) ?_
  rintro r s' ⟨rfl, hkk⟩
  exact hkk
/-- the middle loop -/
theorem flat_mid (B : FlatN Z n1 n2 n3 k1 k2 k3) {pins : List (Addr × Obj)} {σ : L2.St} {H : Hp} {s : Shared} {R : Result → Shared → Prop} {it D c : Addr} {acc cells xs : List V}
    (hn : H D = none) (hc : SqT Z.K H c cells) (hf : FlatL Z.K H cells xs) (hz : acc.length + xs.length ≤ 1000000) (I : Inv Z pins σ (upd H D (.lst acc)) s) (st : s.heap.IsTupleIter it c 0) (hit : (upd H D (.lst acc)) it = none)
    (hfp : ∀ H, H it = none → FpOk Z pins H it)
    (fin : ∀ s' σ', Inv Z pins σ' (upd H D (.lst (acc ++ xs))) s' → Ag [k2, k3] σ σ' → R (.ok .next) s') :
    codeAny (model Z.prog Z.w) Z.A (.compLoop (flatE n1 n2 n3 iter scope q1 q2 q3 a1 a2 a3 pos) 1 (.ref it) (.ref D) Z.env) R s := by
  refine flat_loop (ws := [k2, k3]) B.xe B.calm B.nd flat_t1 B.h2 (.inl B.l2) (.inr B.l2) (List.mem_cons_self) σ
    (fun i H' => ∃ pre suf ys zs, cells = pre ++ suf ∧ pre.length = i ∧ FlatL Z.K H pre ys ∧ FlatL Z.K H suf zs ∧ xs = ys ++ zs ∧ H' = upd H D (.lst (acc ++ ys)))
    (fun i H' _ ⟨_, _, _, _, _, _, _, _, _, e⟩ => by rw [e]; exact sqT_new hn hc) hfp (fun i x s1 σ1 H1 hx e hi I1 hk ag kk Qf Ef cont => ?_) (fun s' σ' H' I' ag e => ?_) I (Ag.refl _ _)
    ⟨[], cells, [], xs, rfl, rfl, .nil, hf, rfl, by rw [List.append_nil]⟩ hit st
  · obtain ⟨pre, suf, ys, zs, ec, el, f1, f2, ex, rfl⟩ := e
    cases f2 with
    | nil =>
      rw [ec, List.append_nil, ← el, List.getElem?_eq_none (Nat.le_refl _)] at hx
      exact nomatch hx
    | @cons b bs suf' zs' hb r =>
      have xb : x = .ref b := by
        rw [ec, ← el, List.getElem?_append_right (Nat.le_refl _), Nat.sub_self] at hx
        exact (Option.some.inj hx).symm
      subst xb
      have zl : acc.length + ys.length + bs.length ≤ 1000000 := by
        rw [ex, List.length_append, List.length_append] at hz
        omega
      refine flat_down B.xe B.h2 B.l2 B.d2 B.c2 I1 hk (sqT_new hn hb) fun s2 it2 I2 n2' fp2 st2 => ?_
      have loop : codeAny (model Z.prog Z.w) Z.A (.compLoop (flatE n1 n2 n3 iter scope q1 q2 q3 a1 a2 a3 pos) 2 (.ref it2) (.ref D) Z.env) (fun r s' => r = .ok .next ∧ wpAny (model Z.prog Z.w) Z.A kk Qf Ef s') s2 := by
        refine flat_in B hn hb (by rw [List.length_append]; exact zl) I2 st2 n2' fp2 fun s3 σ3 I3 ag3 => ⟨rfl, ?_⟩
        refine cont s3 σ3 _ I3 (ag.trans (ag3.mono (by simp))) ⟨pre ++ [.ref b], suf', ys ++ bs, zs', by rw [ec, List.append_assoc]; rfl, by rw [List.length_append, el]; rfl, FlatL.snoc hb f1, r, by rw [ex, List.append_assoc], by rw [List.append_assoc]⟩
      exact flat_s2 loop (wpAny_pyIter_tupleiter st2 loop)
  · obtain ⟨pre, suf, ys, zs, ec, el, f1, f2, ex, rfl⟩ := e
    have es : suf = [] := by
      have z := congrArg List.length ec
      rw [List.length_append, el] at z
      exact List.eq_nil_of_length_eq_zero (by omega)
    subst es
    cases f2
    rw [List.append_nil] at ex
    subst ex
    exact fin s' σ' I' ag
/-- the outer loop -/
theorem flat_out (B : FlatN Z n1 n2 n3 k1 k2 k3) {σ : L2.St} {H : Hp} {s : Shared} {R : Result → Shared → Prop} {it D c : Addr} {rows xs : List V}
    (hn : H D = none) (hc : SqT Z.K H c rows) (hf : FlatR Z.K H rows xs) (hz : xs.length ≤ 1000000) (I : Inv Z [] σ (upd H D (.lst [])) s) (st : s.heap.IsTupleIter it c 0) (hit : (upd H D (.lst [])) it = none)
    (hfp : ∀ H, H it = none → FpOk Z [] H it)
    (fin : ∀ s' σ', Inv Z [] σ' (upd H D (.lst xs)) s' → R (.ok .next) s') :
    codeAny (model Z.prog Z.w) Z.A (.compLoop (flatE n1 n2 n3 iter scope q1 q2 q3 a1 a2 a3 pos) 0 (.ref it) (.ref D) Z.env) R s := by
  refine flat_loop (ws := [k1, k2, k3]) B.xe B.calm B.nd flat_t0 B.h1 (.inl B.l1) (.inr B.l1) (List.mem_cons_self) σ
    (fun i H' => ∃ pre suf ys zs, rows = pre ++ suf ∧ pre.length = i ∧ FlatR Z.K H pre ys ∧ FlatR Z.K H suf zs ∧ xs = ys ++ zs ∧ H' = upd H D (.lst ys))
    (fun i H' _ ⟨_, _, _, _, _, _, _, _, _, e⟩ => by rw [e]; exact sqT_new hn hc) hfp (fun i x s1 σ1 H1 hx e hi I1 hk ag kk Qf Ef cont => ?_) (fun s' σ' H' I' ag e => ?_) I (Ag.refl _ _)
    ⟨[], rows, [], xs, rfl, rfl, .nil, hf, rfl, rfl⟩ hit st
  · obtain ⟨pre, suf, ys, zs, ec, el, f1, f2, ex, rfl⟩ := e
    cases f2 with
    | nil =>
      rw [ec, List.append_nil, ← el, List.getElem?_eq_none (Nat.le_refl _)] at hx
      exact nomatch hx
    | @cons b bcells bs suf' zs' hb hbl r =>
      have xb : x = .ref b := by
        rw [ec, ← el, List.getElem?_append_right (Nat.le_refl _), Nat.sub_self] at hx
        exact (Option.some.inj hx).symm
      subst xb
      have zl : ys.length + bs.length ≤ 1000000 := by
        rw [ex, List.length_append, List.length_append] at hz
        omega
      refine flat_down B.xe B.h1 B.l1 B.d1 B.c1 I1 hk (sqT_new hn hb) fun s2 it2 I2 n2' fp2 st2 => ?_
      have loop : codeAny (model Z.prog Z.w) Z.A (.compLoop (flatE n1 n2 n3 iter scope q1 q2 q3 a1 a2 a3 pos) 1 (.ref it2) (.ref D) Z.env) (fun r s' => r = .ok .next ∧ wpAny (model Z.prog Z.w) Z.A kk Qf Ef s') s2 := by
        refine flat_mid B hn hb hbl zl I2 st2 n2' fp2 fun s3 σ3 I3 ag3 => ⟨rfl, ?_⟩
        refine cont s3 σ3 _ I3 (ag.trans (ag3.mono (by simp))) ⟨pre ++ [.ref b], suf', ys ++ bs, zs', by rw [ec, List.append_assoc]; rfl, by rw [List.length_append, el]; rfl, FlatR.snoc hb hbl f1, r, by rw [ex, List.append_assoc], rfl⟩
      exact flat_s1 loop (wpAny_pyIter_tupleiter st2 loop)
  · obtain ⟨pre, suf, ys, zs, ec, el, f1, f2, ex, rfl⟩ := e
    have es : suf = [] := by
      have z := congrArg List.length ec
      rw [List.length_append, el] at z
      exact List.eq_nil_of_length_eq_zero (by omega)
    subst es
    cases f2
    rw [List.append_nil] at ex
    subst ex
    exact fin s' σ' I'
end
end Sg

set_option Elab.async false
set_option linter.all false
set_option maxRecDepth 100000
set_option maxHeartbeats 4000000
namespace Sg
open PySem PySem.Spec PyProof.Rows L2
/-- [c for a in e for b in a for c in b]: e a tuple of tuples of tuples -/
def tFlat (K : PySem.W.Frag) (te : TE) : TE := fun σ H Q => te σ H fun v H1 => ∃ t rows xs, v = .ref t ∧ SqT K H1 t rows ∧ FlatR K H1 rows xs ∧ xs.length ≤ 1000000 ∧
  ∀ D, H1 D = none → Q (.ref D) (upd H1 D (.lst xs))
section
variable {X : Cx} {n1 n2 n3 : Str} {iter : Expr} {scope : Scope} {q1 q2 q3 a1 a2 a3 pos : Pos} {k1 k2 k3 : Nat} {own : List (Str × Nat)} {te : TE}
theorem pe_flat (hc : X.calm = true) (hN : X.N.Nodup) (hi : PE X iter te) (ok : BlkOk X.N X.env.scope scope own)
    (h1 : X.N[k1]? = some n1) (h2 : X.N[k2]? = some n2) (h3 : X.N[k3]? = some n3)
    (l1 : ∀ (C : Addr) (cl : List (Str × Addr)), (compEnvC scope cl C X.env).scope.names.lookup n1 = some .local)
    (l2 : ∀ (C : Addr) (cl : List (Str × Addr)), (compEnvC scope cl C X.env).scope.names.lookup n2 = some .local)
    (l3 : ∀ (C : Addr) (cl : List (Str × Addr)), (compEnvC scope cl C X.env).scope.names.lookup n3 = some .local)
    (dd : ((n1 == ("__debug__" : Str)) || (n2 == ("__debug__" : Str)) || (n3 == ("__debug__" : Str)) || (n1 == ("__classdict__" : Str)) || (n2 == ("__classdict__" : Str)) || (n3 == ("__classdict__" : Str))) = false := by decide)
    (hs : ∀ x, foldedSetIterable iter X.env x = pure x := by intro _; rfl) :
    PE X (flatE n1 n2 n3 iter scope q1 q2 q3 a1 a2 a3 pos) (tFlat X.K te) := by
  simp only [Bool.or_eq_false_iff] at dd
  obtain ⟨⟨⟨⟨⟨d1, d2⟩, d3⟩, c1⟩, c2⟩, c3⟩ := dd
  constructor
  intro pins s σ H Q I h
  rw [eval_ListComp]
  have hfree : ∀ y ∈ scope.names, y.2 = .free → ∃ c, X.env.cells.lookup y.1 = some c := by
    intro y hy e
    cases ok.free y hy e with
    | inl k => exact I.ok.has _ (.inl k)
    | inr k => exact I.ok.has _ (.inr k)
  refine wpAny_comprehension_free (use := none) rfl hs (closure_ok hfree) ok.kind (fun y hy e => by rw [ok.uniq y hy, e]) (thn (hi.run pins s σ H _ I h) ?_)
  rintro xv s1 ⟨v, H1, I1, r1, t, rows, xs, rfl, hq, hf, hz, q⟩
  obtain rfl : xv = Value.ref t := r1
  obtain ⟨its, rv, p, hzz⟩ := I1.tuple hq
  refine wpAny_pyIter_tuple (show s1.heap.IsTuple t its.toArray from p) ?_
  generalize hs2 : ({ s1 with heap := s1.heap.push { cls := .type "tuple_iterator", data := .fields #[.ref t, .int 0 0] } } : Shared) = s2
  have I2 : Inv X pins σ H1 s2 := by
    rw [← hs2]
    exact I1.kept (t' := s1.toks) fun b o e => Heap.get?_push_of_some _ e
  generalize hit : s1.heap.objs.size = it
  have st2 : s2.heap.IsTupleIter it t 0 := by
    rw [← hs2, ← hit]
    exact ⟨_, Heap.get?_push_size _ rfl, rfl, rfl⟩
  have nn2 : H1 it = none := I1.hok.fresh (Nat.le_of_eq hit)
  have lt2 : it < s2.heap.objs.size := by
    obtain ⟨_, e, _⟩ := st2
    exact Heap.lt_size e
  have f2 : ∀ H', H' it = none → FpOk X pins H' it := fun H' hn => I1.fpOk (Nat.le_of_eq hit) hn
  refine wpAny_newObj_type (newEnv_comp ?_) (by show 0 ≤ sizeLine; decide)
  generalize hD : s2.heap.objs.size = D
  have hDn : H1 D = none := I2.hok.fresh (Nat.le_of_eq hD)
  generalize hs3 : ({ s2 with heap := s2.heap.push { cls := .type "list", data := .seq ([] : List Value).toArray } } : Shared) = s3
  have I3 : Inv X pins σ (upd H1 D (.lst [])) s3 := by
    rw [← hs3]
    refine I2.laid (t' := s2.toks) (fun b o e => Heap.get?_push_of_some _ e) (Nat.le_of_eq hD) ⟨Nat.zero_le _, [], 0, .nil, ?_⟩
    rw [← hD]
    exact Heap.get?_push_size _ rfl
  have k3' : ∀ b o, s2.heap.get? b = some o → s3.heap.get? b = some o := by
    intro b o e
    rw [← hs3]
    exact Heap.get?_push_of_some _ e
  have st3 : s3.heap.IsTupleIter it t 0 := st2.at fun o e => k3' it o e
  have lt3 : it < s3.heap.objs.size := by
    obtain ⟨_, e, _⟩ := st3
    exact Heap.lt_size e
  have nit : (upd H1 D (.lst [])) it = none := by
    rw [upd_ne (by rw [← hD]; exact Nat.ne_of_lt lt2)]
    exact nn2
  have I4 := block_start (fp := [it]) I3 ok hN (by
    intro b hb
    rw [List.mem_singleton.mp hb]
    exact ⟨f2 _ nit, lt3⟩)
  show codeAny _ _ (.compStart (flatE n1 n2 n3 iter scope q1 q2 q3 a1 a2 a3 pos) 0 (.ref it) (.ref D) (compEnvC scope (cellsFrom (s3.heap.objs.size + 1) scope.names (cloFrom X.env.cells scope.names [])) s3.heap.objs.size X.env))
    (compPost (model X.prog X.w) X.A X.xe none (EP X pins σ Q) (.ref D) s3.heap.objs.size) { s3 with heap := pushCells (s3.heap.push { cls := .type "dict", data := .dict #[] }) scope.names }
  have hl1 := l1 s3.heap.objs.size (cellsFrom (s3.heap.objs.size + 1) scope.names (cloFrom X.env.cells scope.names []))
  have hl2 := l2 s3.heap.objs.size (cellsFrom (s3.heap.objs.size + 1) scope.names (cloFrom X.env.cells scope.names []))
  have hl3 := l3 s3.heap.objs.size (cellsFrom (s3.heap.objs.size + 1) scope.names (cloFrom X.env.cells scope.names []))
  have cL : (compEnvC scope (cellsFrom (s3.heap.objs.size + 1) scope.names (cloFrom X.env.cells scope.names [])) s3.heap.objs.size X.env).locals = s3.heap.objs.size := rfl
  generalize compEnvC scope (cellsFrom (s3.heap.objs.size + 1) scope.names (cloFrom X.env.cells scope.names [])) s3.heap.objs.size X.env = ce at I4 hl1 hl2 hl3 cL ⊢
  have st4 : (pushCells (s3.heap.push { cls := .type "dict", data := .dict #[] }) scope.names).IsTupleIter it t 0 :=
    st3.at fun o e => pushCells_keeps _ _ _ _ (Heap.get?_push_of_some _ e)
  generalize hs4 : ({ s3 with heap := pushCells (s3.heap.push { cls := .type "dict", data := .dict #[] }) scope.names } : Shared) = s4 at I4 ⊢
  have st4' : s4.heap.IsTupleIter it t 0 := by rw [← hs4]; exact st4
  have B : FlatN (X.blk s3 (upd H1 D (.lst [])) scope ce [it]) n1 n2 n3 k1 k2 k3 := ⟨rfl, hc, hN, h1, h2, h3, hl1, hl2, hl3, d1, d2, d3, c1, c2, c3⟩
  have fpZ : ∀ H', H' it = none → FpOk (X.blk s3 (upd H1 D (.lst [])) scope ce [it]) [] H' it := by
    intro H' hn
    refine ⟨hn, (I4.ok.exf it (List.mem_singleton.mpr rfl)).1, I4.ok.exfs it (List.mem_singleton.mpr rfl), .inl (List.mem_singleton.mpr rfl), (I4.ok.exf it (List.mem_singleton.mpr rfl)).2, ?_⟩
    intro p hp
    have hp' : p ∈ ([] : List (Addr × Obj)) ++ [] := hp
    exact nomatch hp'
  have loop : codeAny (model X.prog X.w) X.A (.compLoop (flatE n1 n2 n3 iter scope q1 q2 q3 a1 a2 a3 pos) 0 (.ref it) (.ref D) ce)
      (compPost (model X.prog X.w) X.A X.xe none (EP X pins σ Q) (.ref D) s3.heap.objs.size) s4 := by
    refine flat_out B hDn hq hf hz I4 st4' nit fpZ ?_
    intro s' σ' I5
    have I6 : Inv X pins σ (upd H1 D (.lst xs)) s' := by
      refine I3.call' (ch := [it]) I5.os I5.base I5.hok I5.bare ?_
      intro b hb
      rw [List.mem_singleton.mp hb]
      obtain ⟨_, g1, g2, g3, g4, g5⟩ := f2 _ nit
      exact ⟨g3, g1, g4, g5⟩
    have nC : (upd H1 D (.lst xs)) s3.heap.objs.size = none := by
      have z : (upd H1 D (.lst xs)) ce.locals = none := I5.free
      rw [cL] at z
      exact z
    obtain ⟨m, hn, _⟩ := I5.loc
    have hn' : s'.heap.Ns ce.locals m := hn
    rw [cL] at hn'
    refine ⟨m, hn', ?_⟩
    intro h'' sb
    obtain ⟨f0, f1, f2', f3, f4, f5⟩ := I3.fpOk (Nat.le_refl _) nC
    exact ⟨.ref D, _, I6.turned (t' := s'.toks) (fun b o hb e => (sb.2 b hb).trans e) f0 f1 f3 f4 f5, rfl, q D hDn⟩
  exact codeAny_compStart_list loop (wpAny_pyIter_tupleiter st4' loop)
end
end Sg

set_option Elab.async false
set_option linter.all false
set_option maxRecDepth 100000
set_option maxHeartbeats 4000000
namespace Sg
open PySem PySem.Spec PyProof.Rows L2
/-! ## max with a default -/
section
variable {X : Cx}
theorem cr_maxD (hc : X.calm = true) {j : Nat} (hr : Room j X.A) : CallRK X (.builtin "max") ["default"] (fun vs zs H Q => ∃ (a : Addr) (ns : List Int) (d : Int), vs = [.ref a] ∧ zs = [.int d] ∧ SqL X.K H a (ns.map V.int) ∧
    ∀ m : Int, (ns = [] → m = d) → (ns ≠ [] → m ∈ ns ∧ ∀ x ∈ ns, x ≤ m) → Q (.int m) H) := by
  intro pins s σ H xs zs us ws Q I r rz h
  obtain ⟨a, ns, d, rfl, rfl, hs, q⟩ := h
  obtain ⟨u, rfl, rfl⟩ := vals1 r
  obtain ⟨dv, rfl, td, rfl⟩ := vals1 rz
  obtain ⟨its, rv, hl, hzz⟩ := I.list hs
  have dp : DpAll X.K H (ns.map V.int) (ns.map PyData.int) := by
    clear hs q rv hl hzz
    induction ns with
    | nil => exact .nil
    | cons x r ih => exact .cons (.int x) ih
  obtain ⟨as, rd⟩ := Dp.readsAll I (ns.map PyData.int) _ its dp rv
  have al : PySem.W.AlikeAll (ns.map PyData.int) := by
    constructor
    · intro x hx y hy
      obtain ⟨i, _, rfl⟩ := List.mem_map.mp hx
      obtain ⟨j, _, rfl⟩ := List.mem_map.mp hy
      rfl
    · intro x hx z
      obtain ⟨i, _, rfl⟩ := List.mem_map.mp hx
      exact nomatch z
  have dep : PyData.depthAll (ns.map PyData.int) = 0 := by
    clear hs q rv hl rd al dp hzz
    induction ns with
    | nil => rfl
    | cons x r ih =>
      show max (PyData.depth (.int x)) (PyData.depthAll (r.map PyData.int)) = 0
      rw [ih]; rfl
  have hu := hr.units
  refine PySem.W.max_list_default (I.ok.hd hc) hl.isList (by simpa using rd) al (by rw [dep]; omega) (fun e h' tk hk => ?_) (fun y ys i v h' tk bs e hv hrd hk => ?_)
  · exact ⟨.int d, H, I.kept hk, ⟨_, rfl⟩, q d (fun _ => rfl) (fun z => absurd (List.map_eq_nil_iff.mp e) z)⟩
  · cases ns with
    | nil => exact nomatch e
    | cons n ns' =>
      obtain ⟨e1, e2⟩ := List.cons.inj e
      subst e1 e2
      rw [PySem.W.maxD_ints] at hrd
      cases hrd
      refine ⟨.int _, H, I.kept hk, ⟨_, rfl⟩, q _ (fun z => nomatch z) (fun _ => ?_)⟩
      have key : ∀ (l : List Int) (a : Int), (l.foldl max a = a ∨ l.foldl max a ∈ l) ∧ a ≤ l.foldl max a ∧ ∀ x ∈ l, x ≤ l.foldl max a := by
        intro l
        induction l with
        | nil => intro a; exact ⟨.inl rfl, Int.le_refl _, fun x hx => nomatch hx⟩
        | cons b l ih =>
          intro a
          obtain ⟨g1, g2, g3⟩ := ih (max a b)
          refine ⟨?_, by show a ≤ l.foldl max (max a b); omega, fun x hx => ?_⟩
          · show l.foldl max (max a b) = a ∨ l.foldl max (max a b) ∈ b :: l
            rcases g1 with g | g
            · rcases Int.le_total a b with z | z
              · right; rw [g, Int.max_eq_right z]; exact List.mem_cons_self
              · left; rw [g, Int.max_eq_left z]
            · exact .inr (List.mem_cons_of_mem _ g)
          · show x ≤ l.foldl max (max a b)
            rcases List.mem_cons.mp hx with rfl | z
            · omega
            · exact g3 x z
      obtain ⟨g1, g2, g3⟩ := key ns' n
      refine ⟨?_, fun x hx => ?_⟩
      · rcases g1 with g | g
        · rw [g]; exact List.mem_cons_self
        · exact List.mem_cons_of_mem _ g
      · rcases List.mem_cons.mp hx with rfl | z
        · exact g2
        · exact g3 x z
end
/-! ## operators of one's own -/
section
variable {X : Cx} {k : Nat} {C g : Addr} {fd : FuncData} {ps : List Str} {sp : Sp}
theorem back_of {pins : List (Addr × Obj)} {σ : L2.St} {Q : VK} {u : Value} {s : Shared} (h : EP X pins σ Q u s) : PySem.W.CmpBack (EP X pins σ Q) u s := by
  obtain ⟨v, H, I, r, q⟩ := id h
  cases v with
  | non => cases r; exact h
  | bl b => cases r; exact h
  | int i => obtain ⟨t, rfl⟩ := r; exact h
  | str i => obtain ⟨t, rfl⟩ := r; exact h
  | byt i => obtain ⟨t, rfl⟩ := r; exact h
  | flt i => obtain ⟨t, rfl⟩ := r; exact h
  | ref a => cases r; exact h
  | ty n => cases r; exact h
/-- an instance of C -/
def InsAt (H : Hp) (C a : Addr) : Prop := ∃ dx fs, H a = some (.ins C dx fs)
theorem insAt_look {pins : List (Addr × Obj)} {σ : L2.St} {H : Hp} {s : Shared} {a : Addr} (I : Inv X pins σ H s) (h : InsAt H C a) : ∃ ox od, PySem.W.InstAt s.heap a ox C od := by
  obtain ⟨dx, fs, h⟩ := h
  obtain ⟨mA, O, _⟩ := ins_get I.hok h
  obtain ⟨od, J, _⟩ := O.look
  exact ⟨_, _, J⟩
/-- a + b and its like, both instances of C -/
theorem op_own {op : Operator} (F : FnOk X.prog X.w X.K X.mg X.base CX0 k g fd ps sp) (hr : Room k X.A) (hb : Binds X.K fd ps []) (hs : PySem.W.findIn X.K (.ref C) (PySem.dunder op.info.2) = some (some (.ref g)))
    (hf : PySem.W.isFn X.K (.ref g) = true) (hc : PySem.W.selfFirst X.K C = true) :
    OpR X (binaryOp op) (fun x y H Q => ∃ a b, x = .ref a ∧ y = .ref b ∧ InsAt H C a ∧ InsAt H C b ∧ sp [.ref a, .ref b] H Q E0) := by
  intro pins s σ H x y v u Q I rx ry h
  obtain ⟨a, b, rfl, rfl, ha, hb', h⟩ := h
  obtain rfl : v = Value.ref a := rx
  obtain rfl : u = Value.ref b := ry
  obtain ⟨m, hF⟩ := I.fr
  obtain ⟨_, _, J⟩ := insAt_look I ha
  obtain ⟨_, _, J'⟩ := insAt_look I hb'
  refine PySem.W.binop_K hF I.ok.mod.kin J J'.type hc hs hf ?_
  exact thn (run_fn (us := [.ref a, .ref b]) (vs := [.ref a, .ref b]) F hr hb .nil pass0 I (.cons rfl (.cons rfl .nil)) h) fun _ _ z => back_of z
/-- a - n, n a whole number -/
theorem op_ownI {op : Operator} {fo ro rc : Option Value} (F : FnOk X.prog X.w X.K X.mg X.base CX0 k g fd ps sp) (hr : Room k X.A) (hb : Binds X.K fd ps []) (hs : PySem.W.findIn X.K (.ref C) (PySem.dunder op.info.2) = some (some (.ref g)))
    (hf : PySem.W.isFn X.K (.ref g) = true) (hc : PySem.W.selfFirst X.K C = true) (hrr : PySem.W.findIn X.K (.ref C) (dunderR op.info.2) = some rc) (hp : rc = none ∨ ∃ g : Addr, rc = some (.ref g))
    (h1 : PySem.W.findIn X.K (.type "int") (PySem.dunder op.info.2) = some fo) (h2 : PySem.W.findIn X.K (.type "int") (dunderR op.info.2) = some ro) (hsub : PySem.W.subIn X.K (.type "int") (.ref C) = some false) :
    OpR X (binaryOp op) (fun x y H Q => ∃ a i, x = .ref a ∧ y = .int i ∧ InsAt H C a ∧ sp [.ref a, .int i] H Q E0) := by
  intro pins s σ H x y v u Q I rx ry h
  obtain ⟨a, i, rfl, rfl, ha, h⟩ := h
  obtain rfl : v = Value.ref a := rx
  obtain ⟨t, rfl⟩ := ry
  obtain ⟨m, hF⟩ := I.fr
  obtain ⟨_, _, J⟩ := insAt_look I ha
  refine PySem.W.ksp_binT (T := "int") hF I.ok.mod.kin J rfl hc hs hf hrr hp h1 h2 hsub ?_
  exact thn (run_fn (us := [.ref a, .int i t]) (vs := [.ref a, .int i]) F hr hb .nil pass0 I (.cons rfl (.cons ⟨t, rfl⟩ .nil)) h) fun _ _ z => back_of z
/-- -a -/
theorem un_own (F : FnOk X.prog X.w X.K X.mg X.base CX0 k g fd ps sp) (hr : Room k X.A) (hb : Binds X.K fd ps []) (hs : PySem.W.findIn X.K (.ref C) "__neg__" = some (some (.ref g))) (hf : PySem.W.isFn X.K (.ref g) = true) :
    UnR X (unaryOp .USub) (fun x H Q => ∃ a, x = .ref a ∧ InsAt H C a ∧ sp [.ref a] H Q E0) := by
  intro pins s σ H x v Q I rx h
  obtain ⟨a, rfl, ha, h⟩ := h
  obtain rfl : v = Value.ref a := rx
  obtain ⟨m, hF⟩ := I.fr
  obtain ⟨_, _, J⟩ := insAt_look I ha
  exact PySem.W.ksp_neg hF I.ok.mod.kin J hs hf (run_fn (us := [.ref a]) (vs := [.ref a]) F hr hb .nil pass0 I (.cons rfl .nil) h)
/-- a == b, both instances of C -/
theorem op_ownEq (F : FnOk X.prog X.w X.K X.mg X.base CX0 k g fd ps sp) (hr : Room k X.A) (hb : Binds X.K fd ps []) (hs : PySem.W.findIn X.K (.ref C) "__eq__" = some (some (.ref g))) (hf : PySem.W.isFn X.K (.ref g) = true) :
    OpR X (compareOp .Eq) (fun x y H Q => ∃ a b, x = .ref a ∧ y = .ref b ∧ InsAt H C a ∧ InsAt H C b ∧ sp [.ref a, .ref b] H Q E0) := by
  intro pins s σ H x y v u Q I rx ry h
  obtain ⟨a, b, rfl, rfl, ha, hb', h⟩ := h
  obtain rfl : v = Value.ref a := rx
  obtain rfl : u = Value.ref b := ry
  obtain ⟨m, hF⟩ := I.fr
  obtain ⟨_, _, J⟩ := insAt_look I ha
  obtain ⟨_, _, J'⟩ := insAt_look I hb'
  show wpAny (model X.prog X.w) X.A (richCompare .Eq (.ref a) (.ref b)) (EP X pins σ Q) X.xe s
  refine PySem.W.cmp_K (op := .Eq) (tb := .ref C) hr.units0 hF I.ok.mod.kin J J'.type (by simp [PySem.W.notFirst]) hs hf ?_
  exact thn (run_fn (us := [.ref a, .ref b]) (vs := [.ref a, .ref b]) F hr hb .nil pass0 I (.cons rfl (.cons rfl .nil)) h) fun _ _ z => back_of z
/-- a def called one C frame further in -/
theorem run_in1 {pins : List (Addr × Obj)} {σ : L2.St} {H : Hp} {s : Shared} {Q : VK} {us : List Value} {vs : List V} (F : FnOk X.prog X.w X.K X.mg X.base CX0 k g fd ps sp) (hr : Room (k + 1) X.A) (hb : Binds X.K fd ps [])
    (I : Inv X pins σ H s) (r : Vals vs us) (h : sp vs H Q E0) {E : Value → Shared → Prop} : wpAny (model X.prog X.w) X.A.in1 (call (.ref g) us) (EP X pins σ Q) E s := by
  have hl : (us ++ []).length = ps.length := by rw [List.append_nil, ← r.length]; exact F.len _ _ _ _ h
  have hbb := hb s us I.kIn hl
  rw [List.append_nil] at hbb
  refine wpAny_call (codeAny_mono (F.run X.A.in1 X.stack s H ⟨us, []⟩ us vs Q E0 hr.in1 I.env0.in1 hbb r h) ?_)
  intro r' s' hq
  match r', hq with
  | .error _, hq => exact hq.elim
  | .ok (.ret _), hq => exact I.after hq
  | .ok .next, hq => exact hq.elim
  | .ok .brk, hq => exact hq.elim
  | .ok .cont, hq => exact hq.elim
/-- len(a) -/
theorem call_lenO (F : FnOk X.prog X.w X.K X.mg X.base CX0 k g fd ps sp) (hr : Room (k + 1) X.A) (hb : Binds X.K fd ps []) (hs : PySem.W.findIn X.K (.ref C) "__len__" = some (some (.ref g))) (hf : PySem.W.isFn X.K (.ref g) = true) :
    CallR X (.builtin "len") (fun xs H Q => ∃ a, xs = [.ref a] ∧ InsAt H C a ∧ sp [.ref a] H (fun v H' => ∃ n : Nat, v = .int n ∧ n < 1000000 ∧ Q (.int n) H') E0) := by
  intro pins s σ H xs us Q I r h
  obtain ⟨a, rfl, ha, h⟩ := h
  obtain ⟨u, rfl, rfl⟩ := vals1 r
  obtain ⟨m, hF⟩ := I.fr
  obtain ⟨_, _, J⟩ := insAt_look I ha
  refine PySem.W.len_K hF I.ok.mod.kin J hs hf (thn (run_in1 (us := [.ref a]) (vs := [.ref a]) F hr hb I (.cons rfl .nil) h) ?_)
  rintro v s' ⟨x, H', I', rx, n, rfl, hn, q⟩
  obtain ⟨t, rfl⟩ := rx
  exact ⟨⟨by omega, by omega⟩, ⟨.int n, H', I'.tok _, ⟨_, rfl⟩, q⟩⟩
/-- a[i] -/
theorem ix_own (F : FnOk X.prog X.w X.K X.mg X.base CX0 k g fd ps sp) (hr : Room k X.A) (hb : Binds X.K fd ps []) (hs : PySem.W.findIn X.K (.ref C) "__getitem__" = some (some (.ref g))) (hf : PySem.W.isFn X.K (.ref g) = true) (hq : PySem.W.noSeq X.K C = true) :
    ∀ (pins : List (Addr × Obj)) (s : Shared) (σ : L2.St) (H : Hp) (a : Addr) (y : V) (u : Value) (Q : VK), Inv X pins σ H s → RelV y u → InsAt H C a → sp [.ref a, y] H Q E0 →
      wpAny (model X.prog X.w) X.A (getItem (.ref a) u) (EP X pins σ Q) X.xe s := by
  intro pins s σ H a y u Q I ry ha h
  obtain ⟨m, hF⟩ := I.fr
  obtain ⟨_, _, J⟩ := insAt_look I ha
  exact PySem.W.getItem_K hF I.ok.mod.kin J hq hs hf (run_fn (us := [.ref a, u]) (vs := [.ref a, y]) F hr hb .nil pass0 I (.cons rfl (.cons ry .nil)) h)
/-- the same as an FnR -/
theorem fnR_of {P : Program} {w : World} {K : PySem.W.Frag} {mg : Str → Option Value} {base : Heap} (F : FnOk P w K mg base CX0 k g fd ps sp) (hb : Binds K fd ps []) : FnR P w K mg base CX0 k g sp := by
  intro A outer s H us vs Q E hr e0 r h
  have hl : (us ++ []).length = ps.length := by rw [List.append_nil, ← r.length]; exact F.len _ _ _ _ h
  have KX : K.In s.heap := e0.mod.kin.keeps fun b o e => (e0.bs b o e).1
  have hbb := hb s us KX hl
  rw [List.append_nil] at hbb
  exact F.run A outer s H ⟨us, []⟩ us vs Q E hr e0 hbb r h
end
end Sg

set_option Elab.async false
set_option linter.all false
set_option maxRecDepth 100000
set_option maxHeartbeats 4000000
namespace Sg
open PySem PySem.Spec PyProof.Rows L2
/-! ## != by an own __eq__ -/
theorem slot_object_ne : Slot "object" "__ne__" "object.__ne__" :=
  Slot.of (T := "object") (name := "__ne__") (owner := "object") (n := "__ne__") (by rw [typeLookup_type, builtinLookup_eq_fast]; kernel_rfl)
    (by decide +kernel) (by decide +kernel) (by decide +kernel) (.inl (by decide +kernel)) (by rw [isSubtype_type]; kernel_rfl)
section
variable {X : Cx} {k : Nat} {C g : Addr} {fd : FuncData} {ps : List Str} {sp : Sp}
theorem op_ownNe (F : FnOk X.prog X.w X.K X.mg X.base CX0 k g fd ps sp) (hr : Room (k + 2) X.A) (hb : Binds X.K fd ps []) (hs : PySem.W.findIn X.K (.ref C) "__eq__" = some (some (.ref g))) (hf : PySem.W.isFn X.K (.ref g) = true)
    (hne : PySem.W.findIn X.K (.ref C) "__ne__" = some (some (.builtin "object.__ne__"))) (hsub : PySem.W.subIn X.K (.ref C) (.type "object") = some true) :
    OpR X (compareOp .NotEq) (fun x y H Q => ∃ a b, x = .ref a ∧ y = .ref b ∧ InsAt H C a ∧ InsAt H C b ∧ sp [.ref a, .ref b] H (fun v H' => ∃ c, v = .bl c ∧ Q (.bl (!c)) H') E0) := by
  intro pins s σ H x y v u Q I rx ry h
  obtain ⟨a, b, rfl, rfl, ha, hb', h⟩ := h
  obtain rfl : v = Value.ref a := rx
  obtain rfl : u = Value.ref b := ry
  obtain ⟨_, _, J⟩ := insAt_look I ha
  obtain ⟨_, _, J'⟩ := insAt_look I hb'
  have hcall := run_in1 (us := [.ref a, .ref b]) (vs := [.ref a, .ref b]) (E := X.xe) F (hr.mono (by omega)) hb I (.cons rfl (.cons rfl .nil)) h
  have inner : wpAny (model X.prog X.w) X.A.in1 (Builtin.«object.__ne__» ⟨[.ref a, .ref b], []⟩) (fun fin s' => ∃ r, fin = .done (.ret (.bool r)) ∧ EP X pins σ Q (.bool r) s') X.xe s := by
    unfold Builtin.«object.__ne__»
    refine wpAny_bind (m := slotArgs "__ne__" 1 ⟨[.ref a, .ref b], []⟩) (wpAny_of_eq (a := (Value.ref a, [Value.ref b])) (by first | rfl | (simp only [slotArgs]; rfl)) ?_)
    refine wpAny_bind (wpAny_cRoomFor (show X.A.in1.units < cLine from (hr.mono (show k + 1 ≤ k + 2 by omega)).in1.units0) ?_)
    refine wpAny_bind (m := callSpecialIfBound? (.ref a) (Str.ofString "__eq__") [.ref b]) (PySem.W.ifBound_K I.kIn J hs hf (thn hcall ?_))
    rintro w' s' ⟨z, H', I', rz, c, rfl, q⟩
    obtain rfl : w' = Value.bool c := rz
    refine wpAny_bind (wpAny_truthy_bool ?_)
    exact wpAny_pure ⟨!c, rfl, .bl (!c), H', I', rfl, q⟩
  have isI : PySem.W.Looks (model X.prog X.w) s.heap (isInstance (.ref a) (.type "object")) true := J.type.andThen (PySem.W.looks_subIn I.kIn hsub)
  have one : wpAny (model X.prog X.w) X.A (tryCompare (.ref a) "__ne__" (.ref b)) (fun r s' => ∃ c, r = some (.bool c) ∧ EP X pins σ Q (.bool c) s') X.xe s := by
    unfold tryCompare
    have call1 : wpAny (model X.prog X.w) X.A (call (.builtin "object.__ne__") [.ref a, .ref b]) (fun r s' => ∃ c, r = .bool c ∧ EP X pins σ Q (.bool c) s') X.xe s := by
      refine wpAny_call (codeAny_call_builtin slot_object_ne.plain PySem.F.cmpEntry_ne ?_)
      refine PySem.W.check_slot PySem.F.cmpKind_ne PySem.F.cmpSplit_ne isI (PySem.F.cmpArgs_ne _ _) (thn inner ?_)
      rintro fin s' ⟨r, rfl, q⟩
      exact ⟨r, rfl, q⟩
    have call2 : wpAny (model X.prog X.w) X.A (callSpecialIfBound? (.ref a) "__ne__" [.ref b]) (fun r s' => ∃ c, r = some (.bool c) ∧ EP X pins σ Q (.bool c) s') X.xe s := by
      simp only [callSpecialIfBound?, bindSpecialIfBound?]
      refine wpAny_holding (wpAny_bind (wpAny_bind (wpAny_bind (J.type.here ((PySem.W.looks_findIn I.kIn hne).here ?_)))))
      refine wpAny_bind (wpAny_askSetting (wpAny_ite ?_))
      have fin : wpAny (model X.prog X.w) X.A (call (.builtin "object.__ne__") ([.ref a] ++ [.ref b]) >>= fun v => pure (some v)) (fun r s' => ∃ c, r = some (.bool c) ∧ EP X pins σ Q (.bool c) s') X.xe s := by
        refine wpAny_bind (thn call1 ?_)
        rintro r s' ⟨c, rfl, q⟩
        exact wpAny_pure ⟨c, rfl, q⟩
      have bind : (bindSpecial (.builtin "object.__ne__") (.ref a) : Sem _) = pure (.builtin "object.__ne__", [.ref a]) := slot_object_ne.bind (.ref a)
      split
      · rw [bind]; exact wpAny_bind (wpAny_pure (wpAny_pure (by exact fin)))
      · rw [bind]; exact wpAny_tryCatch (wpAny_bind (wpAny_pure (wpAny_pure (by exact fin))))
    refine wpAny_bind (thn call2 ?_)
    rintro r s' ⟨c, rfl, q⟩
    exact wpAny_pure ⟨c, rfl, q⟩
  show wpAny (model X.prog X.w) X.A (richCompare .NotEq (.ref a) (.ref b)) (EP X pins σ Q) X.xe s
  unfold richCompare
  simp only [oneThing_ref]
  refine wpAny_holding (wpAny_bind (wpAny_cRoomFor hr.units0 ?_))
  refine wpAny_bind (J.type.here (wpAny_bind (J'.type.here ?_)))
  rw [show (Value.ref C != Value.ref C) = false from by simp]
  simp only [Bool.false_eq_true, if_false]
  refine wpAny_bind (wpAny_pure ?_)
  simp only [Bool.false_eq_true, if_false]
  refine wpAny_bind (thn one ?_)
  rintro r s' ⟨c, rfl, q⟩
  exact wpAny_pure q
end
end Sg

set_option Elab.async false
set_option linter.all false
set_option maxRecDepth 100000
set_option maxHeartbeats 4000000
namespace Sg
open PySem PySem.Spec PyProof.Rows L2 HT
/-! ## t[::-1] of a tuple -/
section
variable {prog : Program} {w : World} {A : Around} {E : Value → Shared → Prop} {s : Shared}
theorem slicePlaces_rev (n : Nat) : Builtin.Slice.slicePlaces ((n : Int) - 1) (-1) (-1) = n := by
  unfold Builtin.Slice.slicePlaces
  have h1 : ¬ ((-1 : Int) > 0) := by omega
  simp only [h1, if_false, Int.neg_neg, Int.ediv_one]
  split <;> omega
theorem sliceApplied_rev {sl : Addr} {vl vu vs : Value} {n : Nat} {Q : Int × Int × Nat → Shared → Prop} (hs : s.heap.IsSliceOf sl vl vu vs) (pl : IsPart vl none) (pu : IsPart vu none) (ps : IsPart vs (some (-1)))
    (h : Q ((n : Int) - 1, -1, n) s) : wpAny (model prog w) A (Builtin.Slice.sliceApplied (.ref sl) (pure (n : Int))) Q E s := by
  obtain ⟨os, hos, hcs, hds⟩ := id hs
  unfold Builtin.Slice.sliceApplied Builtin.Slice.sliceFields
  refine wpAny_bind (wpAny_bind (wpAny_field hos hds (x := vl) rfl (wpAny_bind (wpAny_field hos hds (x := vu) rfl (wpAny_bind (wpAny_field hos hds (x := vs) rfl (wpAny_pure ?_)))))))
  refine wpAny_bind (slicePart_ ps ?_)
  show wpAny _ _ (if ((-1 : Int) == 0) = true then _ else _) _ _ s
  rw [if_neg (by decide)]
  refine wpAny_bind (slicePart_ pl (wpAny_bind (slicePart_ pu (wpAny_bind (wpAny_pure ?_)))))
  show wpAny _ _ (pure ((n : Int) - 1, (-1 : Int), Builtin.Slice.slicePlaces ((n : Int) - 1) (-1) (-1))) _ _ s
  rw [slicePlaces_rev]
  exact wpAny_pure h
theorem filterMap_on {α β : Type} {f g : α → Option β} : ∀ {l : List α}, (∀ x ∈ l, f x = g x) → l.filterMap f = l.filterMap g
  | [], _ => rfl
  | x :: r, h => by
    rw [List.filterMap_cons, List.filterMap_cons, h x List.mem_cons_self, filterMap_on fun y hy => h y (List.mem_cons_of_mem _ hy)]
theorem pick_rev (xs : Array Value) : ((List.range xs.size).filterMap fun (m : Nat) => xs[(((xs.size : Int) - 1) + (m : Int) * (-1)).toNat]?).toArray = xs.toList.reverse.toArray := by
  have e1 : ∀ m ∈ List.range xs.size, xs[(((xs.size : Int) - 1) + (m : Int) * (-1)).toNat]? = xs[xs.size - 1 - m]? := by
    intro m hm
    have := List.mem_range.mp hm
    rw [show (((xs.size : Int) - 1) + (m : Int) * (-1)).toNat = xs.size - 1 - m from by omega]
  have e2 : ((List.range xs.size).map fun k => xs.size - 1 - k).filterMap (xs[·]?) = xs.toList.reverse := by
    rw [PySem.W.krv_range, List.filterMap_reverse, PySem.W.krv_all]
  rw [List.filterMap_map] at e2
  rw [← e2]
  congr 1
  exact filterMap_on (fun m hm => e1 m hm)
theorem getItem_tuple_rev {t sl : Addr} {items : Array Value} {vl vu vs : Value} {Q : Value → Shared → Prop} (ht : IsTup s.heap t items) (hs : s.heap.IsSliceOf sl vl vu vs) (pl : IsPart vl none) (pu : IsPart vu none) (ps : IsPart vs (some (-1)))
    (h : Q (.ref s.heap.objs.size) { s with heap := s.heap.push { cls := .type "tuple", data := .seq items.toList.reverse.toArray } })
    (hsz : items.size ≤ sizeLine) : wpAny (model prog w) A (getItem (.ref t) (.ref sl)) Q E s := by
  have htake : sizeOk (.seq items.toList.reverse.toArray) := by
    show items.toList.reverse.toArray.size ≤ sizeLine
    rw [List.size_toArray, List.length_reverse, Array.length_toList]
    exact hsz
  obtain ⟨os, hos, hcs, hds⟩ := id hs
  have hTs : s.TypeIs (.ref sl) "slice" := ⟨os, hos, hcs⟩
  unfold getItem
  try with_reducible refine wpAny_holding ?_
  first | refine wpAny_bind (wpAny_pure ?_) | skip
  refine wpAny_bind (wpAny_sequenceKey ht.typeIs (by decide) ?_)
  refine wpAny_bind (wpAny_callSpecial?_slot (name := Str.ofString "__getitem__") ht.typeIs PyProof.Rows.slot_tuple_getitem
    (wpAny_call_entry PyProof.Rows.slot_tuple_getitem ht.typeIs entry_tuple_getitem ?_ (args_tuple_getitem _ _)))
  show wpAny _ _ (Builtin.Tuple.tupleItemsOf (.ref t) >>= _) _ _ s
  refine wpAny_bind (tupleItemsOf_ ht ?_)
  refine wpAny_bind (wpAny_typeOf hTs ?_)
  rw [if_pos (by decide)]
  refine wpAny_bind (sliceApplied_rev hs pl pu ps ?_)
  have hno : ¬ ((((items.size : Int) - 1) == 0 && (-1 : Int) == 1 && items.size == items.size) = true) := by
    rw [show ((-1 : Int) == 1) = false from by decide, Bool.and_false, Bool.false_and]
    exact Bool.false_ne_true
  show wpAny _ _ (if (((items.size : Int) - 1) == 0 && (-1 : Int) == 1 && items.size == items.size) = true then _ else _) _ _ s
  rw [if_neg hno, pick_rev]
  first
    | exact wpAny_bind (m := Builtin.Tuple.tupleExact _) (wpAny_newObj_type (wpAny_pure ⟨_, rfl, wpAny_pure h⟩) htake)
    | exact wpAny_bind (m := Builtin.Tuple.tupleExact _) (wpAny_newObj_type (wpAny_bind (wpAny_pure (wpAny_pure ⟨_, rfl, wpAny_pure h⟩))) htake)
    | exact wpAny_bind (wpAny_bind (m := Builtin.Tuple.tupleExact _) (wpAny_newObj_type (wpAny_pure (wpAny_pure ⟨_, rfl, wpAny_pure h⟩)) htake))
    | exact wpAny_bind (wpAny_bind (m := Builtin.Tuple.tupleExact _) (wpAny_newObj_type (wpAny_pure ⟨_, rfl, wpAny_pure h⟩) htake))
end
def tRevT (K : PySem.W.Frag) (te : TE) : TE := fun σ H Q => te σ H fun x H1 => ∃ a xs, x = .ref a ∧ SqT K H1 a xs ∧ ∀ p, H1 p = none → Q (.ref p) (upd H1 p (.tup xs.reverse))
theorem pe_revT {X : Cx} {K : PySem.W.Frag} {e : Expr} {te : TE} {k : Nat} {p1 p2 p3 pos : Pos} (hK : X.K = K) (he : PE X e te) : PE X (.Subscript e (.Slice none none (some (.UnaryOp .USub (.Constant (.int 1) k p1) p2)) p3) pos) (tRevT K te) := by
  subst hK
  refine ⟨fun pins s σ H Q I h => ?_⟩
  refine Subscript_ (thn (he.run pins s σ H _ I h) fun v s1 ⟨x, H1, I1, r1, q1⟩ => ?_)
  obtain ⟨a, xs, ex, hx, q⟩ := q1
  subst ex
  cases r1
  have hst : PO X (some (.UnaryOp .USub (.Constant (.int 1) k p1) p2)) (tPart (tUn (rU fun i => .int (-i)) (tC (.int 1)))) := po_some (pe_un un_neg pe_int)
  refine wpAny_Slice (thn (po_none.run pins s1 σ H1 (fun o H2 => o = none ∧ H2 = H1) I1 ⟨rfl, rfl⟩) fun vl s2 ⟨l, H2, I2, pl, el, e2⟩ => ?_)
  subst el e2
  refine thn (po_none.run pins s2 σ H2 (fun o H3 => o = none ∧ H3 = H2) I2 ⟨rfl, rfl⟩) fun vu s3 ⟨u, H3, I3, pu, eu, e3⟩ => ?_
  subst eu e3
  refine thn (hst.run pins s3 σ H3 (fun o H4 => o = some (-1) ∧ H4 = H3) I3 ⟨1, rfl, -1, rfl, rfl, rfl⟩) fun vs s4 ⟨o, H4, I4, ps, eo, e4⟩ => ?_
  subst eo e4
  have I5 : Inv X pins σ H4 { s4 with heap := s4.heap.push { cls := .type "slice", data := .fields #[vl, vu, vs] } } := I4.kept (t' := s4.toks) fun b ob q => Heap.get?_push_of_some _ q
  obtain ⟨its, r, ht, hz⟩ := I5.tuple hx
  have hlen := r.length
  show wpAny (model X.prog X.w) X.A (subscriptTail e (.Slice none none (some (.UnaryOp .USub (.Constant (.int 1) k p1) p2)) p3) (.ref a) (.ref s4.heap.objs.size)) (EP X pins σ Q) X.xe { s4 with heap := s4.heap.push { cls := .type "slice", data := .fields #[vl, vu, vs] } }
  refine tail_any (ops := [.ref a, .ref s4.heap.objs.size]) ht.typeIs PyProof.Rows.slot_tuple_getitem.lookup ?_ (by with_unfolding_all rfl)
  refine getItem_tuple_rev ht (Heap.IsSliceOf.new _ vl vu vs) pl pu ps ?_ (by rw [List.size_toArray]; omega)
  refine ⟨.ref _, _, I5.laid (t' := s4.toks) (o := .tup xs.reverse) (fun b ob q => Heap.get?_push_of_some _ q) (Nat.le_refl _) ?_, rfl, q _ (I5.hok.fresh (Nat.le_refl _))⟩
  exact ⟨by rw [List.length_reverse]; exact hz, _, r.reverse, IsTup.new _ _⟩
end Sg

set_option Elab.async false
set_option linter.all false
set_option maxRecDepth 100000
set_option maxHeartbeats 4000000
namespace Sg
open PySem PySem.Spec PyProof.Rows L2
/-! ## d.setdefault(t, v), t a tuple of ints and texts -/
def rSetdT : V → List V → Hp → VK → Prop := fun x xs H Q => ∃ (a : Addr) (kvs : List (List L2.Key × V)) (k : List L2.Key) (b : Addr) (d : V), x = .ref a ∧ xs = [.ref b, d] ∧ H a = some (.dT kvs) ∧ H b = some (.tup (k.map kV)) ∧ kvs.length < sizeLine ∧
  (∀ v, valV kvs k = some v → Q v H) ∧ (valV kvs k = none → Q d (upd H a (.dT (putK kvs k d))))
theorem mt_setdT {X : Cx} (hu : X.A.units + 1 < cLine) : MtR X "dict.setdefault" rSetdT := by
  intro pins s σ H x xs v us Q I rx rxs h
  obtain ⟨a, kvs, k, b, d, rfl, rfl, ha, hb, hl, q1, q2⟩ := h
  cases rx
  obtain ⟨u1, u2, rfl, r1, r2⟩ := vals2 rxs
  cases r1
  obtain ⟨z, hd, xs', rel, dd⟩ := dt_of I.hok ha
  have hz : xs'.length ≤ sizeLine := by rw [← Paired.length rel]; exact z
  refine call_meetsIn PySem.F.slot_dict_setdefault dd.typeIs PySem.F.entry_dict_setdefault (PySem.F.args_dict_setdefault_3 _ _ _) (meetsH_dict_setdefault (tupleKind (mixKind X.prog X.w)) a b hd u2)
    ⟨tupleKind_room_in1 hu, k, xs', key_of I.hok hb, dd, hz, fun p hp => ?_, fun hn h' dd' hs => ?_⟩
  · have r := rel.val k
    rw [hp] at r
    obtain ⟨v0, ev, rv⟩ : ∃ v0, valV kvs k = some v0 ∧ RelV v0 p.2 := by
      cases ev : valV kvs k with
      | none =>
        rw [ev] at r
        exact (show False from r).elim
      | some v0 =>
        rw [ev] at r
        exact ⟨v0, rfl, r⟩
    exact ⟨v0, H, I.tok _, rv, q1 v0 ev⟩
  · have r := rel.val k
    rw [hn] at r
    have e : valV kvs k = none := by
      cases ev : valV kvs k with
      | none => rfl
      | some v0 =>
        rw [ev] at r
        exact (show False from r).elim
    have hl2 : (putK kvs k d).length ≤ sizeLine := by
      have := length_putK kvs k d
      omega
    obtain ⟨o, es, ep, hq, h2, h3, h4, _, h5⟩ := dd'
    refine ⟨d, _, ?_, r2, q2 e⟩
    exact d_write I (by rw [ha]; exact True.intro) hs ⟨o, hq⟩ ⟨hl2, hd, _, (rel.put k hb r2).keeps (fun c ys ec => (by rw [upd_ne (ne_of ec ha (fun z => nomatch z))]; exact ec)), o, es, ep, hq, h2, h3, h4, h5⟩
end Sg

set_option Elab.async false
set_option linter.all false
set_option maxRecDepth 100000
set_option maxHeartbeats 4000000
namespace Sg
open PySem PySem.Spec PyProof.Rows L2
/-! ## for k, v in d.items(), d with tuples as keys -/
theorem pair_at {α β : Type} {G : α → β → Prop} : ∀ {l : List α} {m : List β}, Paired G l m → ∀ {i : Nat} {x : α}, l[i]? = some x → ∃ y, m[i]? = some y ∧ G x y
  | _, _, .nil, i, x, e => nomatch e
  | _, _, .cons r t, 0, x, e => by
    cases e
    exact ⟨_, rfl, r⟩
  | _, _, .cons r t, i + 1, x, e => pair_at t (i := i) (by simpa using e)
/-- the entries, as new pairs of the key's own tuple and the value -/
def IteT (d : Addr) (ob : Obj) (es : List (List L2.Key × V)) : It where
  go := fun j G => G d = some (.frz ob (.dT es)) ∧ j < es.length
  yld := fun j G x G' => ∃ t r k u, es[j]? = some (k, u) ∧ G r = some (.tup (k.map kV)) ∧ x = .ref t ∧ G t = none ∧ G' = upd G t (.tup [.ref r, u])
  stop := fun j G => G d = some (.frz ob (.dT es)) ∧ es.length ≤ j
section
variable {X : Cx} {pins : List (Addr × Obj)} {σ : L2.St} {H : Hp} {s : Shared} {d : Addr} {ob : Obj}
theorem frz_dT {ks : List (List L2.Key × V)} (I : Inv X pins σ H s) (h : H d = some (.frz ob (.dT ks))) : (d == sysModules) = false ∧ ∃ (es : Array DictEntry) (ep : Nat), DT.Raw s.heap d es ep ∧ ob.data = .dict es ep ∧ es.size = ks.length ∧
    ∀ (i : Nat) (k : List L2.Key) (v : V), ks[i]? = some (k, v) → ∃ (en : DictEntry) (q : Addr), es[i]? = some en ∧ en.key = .ref q ∧ RelV v en.val ∧ H q = some (.tup (k.map kV)) := by
  obtain ⟨g, _, ns, ys, pr, o2, es, ep, g2, hx, hdt, he, _⟩ := I.hok d _ h
  rw [g] at g2
  cases g2
  have l1 : es.size = ys.length := by
    have := congrArg List.length he
    rw [List.length_map, Array.length_toList] at this
    exact this
  have l2 : ks.length = ys.length := Paired.length pr
  refine ⟨ns, es, ep, ⟨ob, g, hx, hdt⟩, hdt, by omega, fun i k v e => ?_⟩
  obtain ⟨b, hb, e1, e2, e3⟩ := pair_at pr e
  have q : es[i]? = some (entryOfKey (tupleKind (mixKind X.prog X.w)) b) := by
    rw [← Array.getElem?_toList, he, List.getElem?_map, hb]
    rfl
  exact ⟨_, b.2.1, q, rfl, e3, e2⟩
end
theorem same_dict {o : Obj} {x y : Array DictEntry} {m n : Nat} (h : o.data = .dict x m) (h' : o.data = .dict y n) : y = x ∧ n = m := by
  rw [h] at h'
  cases h'
  exact ⟨rfl, rfl⟩
section
variable {P : Program} {w : World} {K : PySem.W.Frag} {d : Addr} {o : Obj} {es : Array DictEntry} {ep : Nat}
theorem turn_itemsT {ks : List (List L2.Key × V)} {elts : List Expr} {kk : Nat} {tpos : Pos} (it : Addr) (hod : o.data = .dict es ep) (hsz : es.size = ks.length) :
    Turn P w K (.Tuple elts kk tpos) (IteT d o ks) [it] it (fun i h => ∃ x y, IsItemIter h it d i es.size ep x y) where
  mem := List.mem_singleton.mpr rfl
  obj := by
    rintro i h ⟨x, y, e⟩ b hb
    obtain rfl := List.mem_singleton.mp hb
    exact ⟨_, e, fun v z => nomatch z⟩
  keep := by
    rintro i h h' ⟨x, y, e⟩ k
    exact ⟨x, y, k it (List.mem_singleton.mpr rfl) _ e⟩
  item := by
    intro X e1 e2 e3 hc i pins s σ H E I hf ⟨x, y, st⟩ ⟨hd, hi⟩
    subst e1 e2 e3
    obtain ⟨ns, es2, ep2, raw, hdt, hz, ent⟩ := frz_dT I hd
    obtain ⟨rfl, rfl⟩ := same_dict hod hdt
    obtain ⟨⟨k, v⟩, hkv⟩ : ∃ p, ks[i]? = some p := ⟨ks[i], List.getElem?_eq_getElem hi⟩
    obtain ⟨en, q, g1, g2, g3, g4⟩ := ent i k v hkv
    have hi2 : i < es2.size := by omega
    have g5 : es2[i] = en := by
      rw [Array.getElem?_eq_getElem hi2] at g1
      exact Option.some.inj g1
    have below : it < s.heap.objs.size := Heap.lt_size st
    have apart : s.heap.objs.size ≠ it := Nat.ne_of_gt below
    refine DT.nextI st raw hi2 fun h1 ho hT hz1 hk => ?_
    refine ⟨_, rfl, wpAny_letOwnedTupleGo_items (s := { s with heap := h1 }) ho fun h2 he sb => ?_⟩
    rw [g5] at hT he
    rw [g2] at hT
    have hT2 := (sb.2 s.heap.objs.size apart).trans hT
    have new : ObjOk X.prog X.w (upd H s.heap.objs.size (.tup [.ref q, v])) h2 s.heap.objs.size (.tup [.ref q, v]) :=
      ⟨by show 2 ≤ sizeLine; decide, [.ref q, en.val], .cons rfl (.cons g3 .nil), ⟨_, hT2, rfl, _, rfl⟩⟩
    have only : ∀ {b : Addr}, b ∉ [it] → b ≠ it := fun hb z => hb (List.mem_singleton.mpr z)
    have J := I.turnedNew (t' := s.toks) (ch := [it]) (fun b ob hb e => (sb.2 b (only hb)).trans (hk b ob (only hb) e)) hf (Nat.le_refl _) new
    refine ⟨.ref s.heap.objs.size, _, J, rfl, ⟨_, q, k, v, hkv, g4, rfl, I.hok.fresh (Nat.le_refl _), rfl⟩, ⟨_, _, he⟩, fun b hb => ?_⟩
    obtain rfl := List.mem_singleton.mp hb
    rw [upd_ne apart.symm]
    exact (hf b hb).1
  done := by
    intro X e1 e2 e3 hc i pins s σ H E I hf ⟨x, y, st⟩ ⟨hd, hi⟩
    subst e1 e2 e3
    obtain ⟨f0, f1, f2, f3, f4, f5⟩ := hf it (List.mem_singleton.mpr rfl)
    obtain ⟨ns, es2, ep2, raw, hdt, hz, ent⟩ := frz_dT I hd
    obtain ⟨rfl, rfl⟩ := same_dict hod hdt
    exact DT.endI (I.ok.hd hc) st raw (by omega) fun h1 eb => ⟨rfl, I.turned (t' := s.toks) (fun b ob hb e => eb b ob hb e) f0 f1 f3 f4 f5⟩
  self := by
    rintro A i s Q E ⟨x, y, e⟩ h
    exact PySem.W.kcp_self e h
end
def iItemsT (td : TE) : TI := fun σ H R => td σ H fun x H1 => ∃ d ob ks, x = .ref d ∧ H1 d = some (.frz ob (.dT ks)) ∧ R (IteT d ob ks) H1
theorem pi_itemsT {X : Cx} {e : Expr} {td : TE} {p1 p2 : Pos} {elts : List Expr} {kk : Nat} {tpos : Pos} (he : PE X e td) (hb : attributeBase e "items" X.env (eval e X.env) = eval e X.env := by rfl) (hl : (p1.endLine == p2.line) = true := by rfl) :
    PI X (.Tuple elts kk tpos) (.Call (.Attribute e "items" p1) [] [] p2) (iItemsT td) := by
  refine ⟨fun pins s σ H R I h => ?_⟩
  refine wpAny_Call_method (T := "dict") (id := "dict.items") hb rfl hl PySem.F.plainAttrs_dict PySem.F.slot_dict_items PySem.F.type_dict_items (thn (he.run pins s σ H _ I h) fun u s1 ⟨x, H1, I1, rx, d, ob, ks, ex, hd, q⟩ => ?_)
  subst ex
  obtain rfl : u = Value.ref d := rx
  obtain ⟨ns, es, ep, raw, hdt, hz, ent⟩ := frz_dT I1 hd
  obtain ⟨o2, g1, g2, g3⟩ := id raw
  refine ⟨raw.typeIs, ?_, ?_⟩
  · intro b e
    injection e with e
    subst e
    exact ⟨o2, g1, g2.2.1⟩
  have I2 : Inv X pins σ H1 { s1 with heap := s1.heap.push { cls := .type "dict_items", data := .fields #[.ref d] } } := I1.kept (t' := s1.toks) fun b o z => Heap.get?_push_of_some _ z
  have fin : wpAny (model X.prog X.w) X.A (pyIter (.ref s1.heap.objs.size)) (PIE X pins σ (.Tuple elts kk tpos) R) X.xe { s1 with heap := s1.heap.push { cls := .type "dict_items", data := .fields #[.ref d] } } :=
    DT.iterI (d := d) ⟨_, Heap.get?_push_size _ rfl, rfl, rfl⟩ (raw.push _) (pi_one (tk := s1.toks) I2 _ (turn_itemsT _ hdt hz) ⟨_, _, Heap.get?_push_size _ rfl⟩ q)
  show wpAny _ _ (callWith p2 (.builtin "dict.items") [.ref d] [] []) _ X.xe s1
  exact method_meetsIn PySem.F.slot_dict_items PySem.F.entry_dict_items rfl (PySem.evalArgs_none ⟨rfl, raw.typeIs, PySem.F.args_dict_items_1 _, _, DT.meetsItems (es := es) (ep := ep) ns, ⟨raw, fin⟩⟩)
theorem walk_itemsT {d : Addr} {ob : Obj} {ks : List (List L2.Key × V)} : Walk (IteT d ob ks) ks.length (fun G => G d = some (.frz ob (.dT ks)))
    (fun j G x G' => ∃ t r k u, ks[j]? = some (k, u) ∧ G r = some (.tup (k.map kV)) ∧ x = .ref t ∧ G t = none ∧ G' = upd G t (.tup [.ref r, u])) :=
  ⟨fun _ _ h q => ⟨q, h⟩, fun _ q => ⟨q, Nat.le_refl _⟩, fun _ _ _ _ _ _ y => y⟩
end Sg

set_option Elab.async false
set_option linter.all false
set_option maxRecDepth 100000
set_option maxHeartbeats 4000000
namespace Sg
open PySem PySem.Spec PyProof.Rows L2
/-! ## min(xs, default=z), xs a list of data that are alike -/
theorem vals_back : ∀ {ys : List V} {us : List Value}, Vals ys us → ∀ {i : Nat} {v : Value}, us[i]? = some v → ∃ y, ys[i]? = some y ∧ RelV y v
  | _, _, .nil, i, v, e => nomatch e
  | _, _, .cons r t, 0, v, e => by
    cases e
    exact ⟨_, rfl, r⟩
  | _, _, .cons r t, i + 1, v, e => vals_back t (i := i) (by simpa using e)
theorem reads_back {h : Heap} : ∀ {us : List Value} {ds : List PyData} {as : List Addr}, ReadsAll h us ds as → ∀ {i : Nat} {v : Value}, us[i]? = some v → ∃ d bs, ds[i]? = some d ∧ Reads h v d bs
  | _, _, _, .nil, i, v, e => nomatch e
  | _, _, _, .cons r t, 0, v, e => by
    cases e
    exact ⟨_, _, rfl, r⟩
  | _, _, _, .cons r t, i + 1, v, e => reads_back t (i := i) (by simpa using e)
theorem cr_minD {X : Cx} (hc : X.calm = true) {j : Nat} (hr : Room j X.A) : CallRK X (.builtin "min") ["default"] (fun vs zs H Q => ∃ (a : Addr) (ys : List V) (ds : List PyData) (z : V), vs = [.ref a] ∧ zs = [z] ∧ SqL X.K H a ys ∧ DpAll X.K H ys ds ∧
    PySem.W.AlikeAll ds ∧ PyData.depthAll ds ≤ 10 ∧ (ds = [] → Q z H) ∧ (∀ (i : Nat) (y : V) (e : PyData) (es : List PyData), ds = e :: es → ys[i]? = some y → ds[i]? = some (PySem.W.minD e es) → Q y H)) := by
  intro pins s σ H xs zs us ws Q I r rz h
  obtain ⟨a, ys, ds, z, rfl, rfl, hs, dp, al, dep, q1, q2⟩ := h
  obtain ⟨u, rfl, rfl⟩ := vals1 r
  obtain ⟨dv, rfl, rd0⟩ := vals1 rz
  obtain ⟨its, rv, hl, hzz⟩ := I.list hs
  obtain ⟨as, rd⟩ := Dp.readsAll I ds _ its dp rv
  have hu := hr.units
  refine PySem.W.min_list_default (I.ok.hd hc) hl.isList (by simpa using rd) al (by omega) (fun e h' tk hk => ?_) (fun e es i v h' tk bs ee hv hrd hk => ?_)
  · exact ⟨z, H, I.kept hk, rd0, q1 e⟩
  · have hv' : its[i]? = some v := by simpa using hv
    obtain ⟨y, hy, ry⟩ := vals_back rv hv'
    obtain ⟨d, bs2, hd, rd2⟩ := reads_back rd hv'
    obtain ⟨e1, _⟩ := reads_det (fun b o g _ => hk b o g) rd2 hrd
    rw [← e1] at hd
    exact ⟨y, H, I.kept hk, ry, q2 i y e es ee hy hd⟩
end Sg

set_option Elab.async false
set_option linter.all false
set_option maxRecDepth 100000
set_option maxHeartbeats 4000000
namespace Sg
open PySem PySem.Spec PyProof.Rows L2
/-! ## the law's own call, where defs of it make lambdas: their tables of code objects are known to be empty -/
/-- the tables' places -/
abbrev Pl (cs : List (Addr × Addr)) : List Addr := cs.map (·.2)
section
variable {P : Program} {w : World} {K : PySem.W.Frag} {mg mb : Str → Option Value} {k : Nat} {fa a : Addr} {cs : List (Addr × Addr)}
variable {fd : FuncData} {x : Str} {sp : Sp} {s₁ : Shared} {vs : List Value} {ns : List Int}
/-- what stands in such a heap: the script, perhaps, and the tables -/
structure TabH (cs : List (Addr × Addr)) (a : Addr) (H : Hp) : Prop where
  tab : ∀ p ∈ cs, H p.2 = some (.tbl #[])
  only : ∀ b u, H b = some u → (b = a ∧ ∃ o xs, u = .frz o (.lst xs)) ∨ (b ∈ Pl cs ∧ u = .tbl #[])
theorem call_tabs {H : Hp} (KX : K.In s₁.heap) (hns : s₁.heap.Ns mainGlobals mg) (hb : s₁.heap.Ns builtinsNs mb)
    (hbb : ∀ x : Str, x ≠ "__name__" → mb x = bootBuiltins x) (hlim : s₁.heap.NoLimit) (hg : s₁.gens = #[])
    (hbm : ∃ (bm : Addr) (ob : Obj), mg "__builtins__" = some (.ref bm) ∧ bm ≠ builtinsNs ∧ s₁.heap.get? bm = some ob ∧ ob.cls = .type "module" ∧ ob.dict = some builtinsNs ∧ ob.data = .plain)
    (hT : ∀ p ∈ cs, PySem.W.CodeHd s₁.heap p.1 p.2 ∧ s₁.heap.get? p.2 = some { cls := .none, data := .fields #[] } ∧ K.lookup p.2 = none)
    (ha : s₁.heap.get? a = some { cls := .type "list", data := .seq vs.toArray }) (hr : Room k callerA)
    (F : ∀ base : Heap, K.In base → base.Ns mainGlobals mg → (∀ p ∈ cs, LamX.TabB base mg p.1 p.2) → FnG P w K mg base k fa fd [x] sp)
    (hbind : ∀ (s : Shared) (u : Value), BindsTo s fd ⟨[u], []⟩ [(x, u)])
    (hsp : sp [.ref a] H (fun v _ => v = .bl true) E0) (hok : HOk P w H s₁.heap) (hH : TabH cs a H) (hK : H a ≠ none → K.lookup a = none) :
    codeAny (model P w) callerA (.call (.ref fa) ⟨[.ref a], []⟩) (Ended s₁) s₁ := by
  have inT : ∀ {b : Addr}, b ∈ Pl cs → s₁.heap.get? b = some { cls := .none, data := .fields #[] } ∧ K.lookup b = none := fun {b} h => by
    obtain ⟨p, hp, e⟩ := List.mem_map.mp h
    rw [← e]
    exact (hT p hp).2
  -- what is neither a list nor an empty table is not tracked
  have free : ∀ {b : Addr} {o : Obj}, s₁.heap.get? b = some o → (∀ vs n, o.data ≠ .seq vs n) → o.data ≠ .fields #[] → H b = none := by
    intro b o e h1 h2
    rcases q : H b with _ | u
    · rfl
    · rcases hH.only b u q with ⟨z, _⟩ | ⟨z, _⟩
      · rw [z, ha] at e
        rw [← Option.some.inj e] at h1
        exact absurd rfl (h1 _ _)
      · rw [(inT z).1] at e
        rw [← Option.some.inj e] at h2
        exact absurd rfl h2
  have dic : ∀ {b : Addr} {o : Obj} {es : Array DictEntry} {ep : Nat}, s₁.heap.get? b = some o → o.data = .dict es ep → H b = none := fun e d =>
    free e (fun _ _ z => by rw [d] at z; exact nomatch z) (fun z => by rw [d] at z; exact nomatch z)
  have nsK : ∀ {b : Addr} {m : Str → Option Value}, s₁.heap.Ns b m → (hidT s₁.heap H).Ns b m := by
    rintro b m ⟨o, es, ep, e, d, r⟩
    exact ⟨o, es, ep, hidT_get e (dic e d), d, r⟩
  have hKb : K.In (hidT s₁.heap H) := by
    intro b o e
    refine hidT_get (KX b o e) ?_
    rcases q : H b with _ | u
    · rfl
    · rcases hH.only b u q with ⟨z, _⟩ | ⟨z, _⟩
      · rw [z] at e q
        rw [hK (by rw [q]; exact fun y => nomatch y)] at e
        exact nomatch e
      · rw [(inT z).2] at e
        exact nomatch e
  have hM : Mod K mg (hidT s₁.heap H) := by
    refine ⟨hKb, nsK hns, ⟨mb, nsK hb, hbb⟩, ?_⟩
    obtain ⟨mc, h1, h2⟩ := hlim
    exact ⟨mc, nsK h1, h2⟩
  have TB : ∀ p ∈ cs, LamX.TabB (hidT s₁.heap H) mg p.1 p.2 := fun p hp => by
    obtain ⟨hC, hP, _⟩ := hT p hp
    have nG : mainGlobals ≠ p.2 := fun z => by
      obtain ⟨o, es, ep, e, hd, _⟩ := hns
      rw [z, hP] at e
      rw [← Option.some.inj e] at hd
      exact nomatch hd
    refine ⟨?_, ?_, nG⟩
    · obtain ⟨o, us, file, tf, flags, tg, inF, text, tt, e1, r1, r2, r3, rest⟩ := hC
      refine ⟨o, us, file, tf, flags, tg, inF, text, tt, hidT_get e1 (free e1 (fun _ _ z => ?_) fun z => ?_), r1, r2, r3, rest⟩
      · rw [r2] at z; exact nomatch z
      · rw [r2] at z
        rw [Data.fields.inj z] at r3
        exact absurd r3 (by simp)
    · obtain ⟨bm, ob, b1, b2, b3, b4, b5, b6⟩ := hbm
      refine ⟨bm, ob, b1, b2, fun z => ?_, fun z => ?_, hidT_get b3 (free b3 (fun _ _ z => ?_) fun z => ?_), b4, b5, b6⟩
      · obtain ⟨o, es, ep, e, hd, _⟩ := hns
        rw [← z, b3] at e
        rw [← Option.some.inj e, b6] at hd
        exact nomatch hd
      · rw [z, hP] at b3
        rw [← Option.some.inj b3] at b6
        exact nomatch b6
      · rw [b6] at z; exact nomatch z
      · rw [b6] at z; exact nomatch z
  have e0 : Env0 P w K mg (hidT s₁.heap H) callerA [] s₁ H :=
    ⟨rfl, hM, fun b o e => of_hidT e, Nat.le_of_eq (hidT_size _ _), trivial, fun b hb => (nomatch (show b ∈ ([] : List Addr) from hb)), hok, .of_eq hg⟩
  have run := (F _ hKb (nsK hns) TB).go callerA [] s₁ H ⟨[.ref a], []⟩ [.ref a] [.ref a] _ rfl hr e0 (hbind s₁ (.ref a)) (.cons rfl .nil) hsp
  refine codeAny_mono run ?_
  intro r s' h
  match r, h with
  | .error _, h => exact h.elim
  | .ok .next, h => exact h.elim
  | .ok .brk, h => exact h.elim
  | .ok .cont, h => exact h.elim
  | .ok (.ret u), h =>
    obtain ⟨v, H', os, bare, un, hok', ru, q⟩ := h
    obtain rfl : v = .bl true := q
    obtain rfl : u = Value.bool true := ru
    have kept : ∀ b o, b ∉ Pl cs → s₁.heap.get? b = some o → s'.heap.get? b = some o := by
      intro b o nb e
      rcases q : H b with _ | u
      · exact un.keep b o e q (fun z => nomatch (show b ∈ ([] : List Addr) from z)) (fun z => nomatch z)
      · rcases hH.only b u q with ⟨_, ob, xs, z⟩ | ⟨z, _⟩
        · rw [z] at q
          obtain ⟨e1, _⟩ := hok b _ q
          obtain ⟨e2, _⟩ := hok' b _ (un.frzs b ob _ q)
          rw [e] at e1
          rw [e2, Option.some.inj e1]
        · exact absurd z nb
    have more : ∀ p ∈ cs, ∃ ps : Array Value, s'.heap.get? p.2 = some { cls := .none, data := .fields ps } := fun p hp => by
      obtain ⟨ps, z⟩ := un.tbls p.2 #[] (hH.tab p hp)
      exact ⟨_, hok' p.2 _ z⟩
    refine ⟨rfl, ⟨fun b o e => ?_, fun b o e => ?_⟩, os, bare⟩
    · by_cases hb : b ∈ Pl cs
      · obtain ⟨p, hp, e'⟩ := List.mem_map.mp hb
        obtain ⟨ps, hm⟩ := more p hp
        obtain ⟨hC, hP, _⟩ := hT p hp
        rw [← e'] at e ⊢
        rw [hP] at e
        obtain rfl := Option.some.inj e
        exact .inr (.inl ⟨(hC.tab hP).isCodeTable, rfl, #[], ps, rfl, by rw [Array.empty_append]; exact hm⟩)
      · exact .inl (kept b o hb e)
    · by_cases hb : b ∈ Pl cs
      · obtain ⟨p, hp, e'⟩ := List.mem_map.mp hb
        rw [← e']
        obtain ⟨ps, hm⟩ := more p hp
        exact ⟨_, hm⟩
      · exact ⟨o, kept b o hb e⟩
/-- a def x of the text that makes lambdas: its code object, its table -/
structure LamDef (p : Program) (K : PySem.W.Frag) (x : Str) (c P : Addr) : Prop where
  there : ∃ d, (recsOf p).find? (fun e => e.name == x) = some d
  tab : PySem.W.tabIn K x = some (c, P)
  out : K.lookup P = none
theorem call_lawT (KX : K.In s₁.heap) (hns : s₁.heap.Ns mainGlobals mg) (hb : s₁.heap.Ns builtinsNs mb)
    (hbb : ∀ x : Str, x ≠ "__name__" → mb x = bootBuiltins x) (hlim : s₁.heap.NoLimit) (hg : s₁.gens = #[])
    (hbm : ∃ (bm : Addr) (ob : Obj), mg "__builtins__" = some (.ref bm) ∧ bm ≠ builtinsNs ∧ s₁.heap.get? bm = some ob ∧ ob.cls = .type "module" ∧ ob.dict = some builtinsNs ∧ ob.data = .plain)
    (hT : ∀ p ∈ cs, PySem.W.CodeHd s₁.heap p.1 p.2 ∧ s₁.heap.get? p.2 = some { cls := .none, data := .fields #[] } ∧ K.lookup p.2 = none)
    (ha : s₁.heap.get? a = some { cls := .type "list", data := .seq vs.toArray }) (hi : IntsAre vs ns)
    (hl : ns.length ≤ sizeLine) (hr : Room k callerA)
    (F : ∀ base : Heap, K.In base → base.Ns mainGlobals mg → (∀ p ∈ cs, LamX.TabB base mg p.1 p.2) → FnG P w K mg base k fa fd [x] sp)
    (hbind : ∀ (s : Shared) (u : Value), BindsTo s fd ⟨[u], []⟩ [(x, u)])
    (hsp : ∀ H : Hp, (∀ p ∈ cs, H p.2 = some (.tbl #[])) → SqL K H a (ns.map V.int) → sp [.ref a] H (fun v _ => v = .bl true) E0) :
    codeAny (model P w) callerA (.call (.ref fa) ⟨[.ref a], []⟩) (Ended s₁) s₁ := by
  have rv := vals_ints hi
  have lenV := hi.length
  have naT : a ∉ Pl cs := fun z => by
    obtain ⟨p, hp, e⟩ := List.mem_map.mp z
    have h := (hT p hp).2.1
    rw [e, ha] at h
    have h' := congrArg Obj.data (Option.some.inj h)
    exact nomatch (show Data.seq vs.toArray _ = Data.fields #[] from h')
  have inT : ∀ {b : Addr}, b ∈ Pl cs → s₁.heap.get? b = some { cls := .none, data := .fields #[] } := fun {b} h => by
    obtain ⟨p, hp, e⟩ := List.mem_map.mp h
    rw [← e]
    exact (hT p hp).2.1
  have mem : ∀ p ∈ cs, p.2 ∈ Pl cs := fun p hp => List.mem_map.mpr ⟨p, hp, rfl⟩
  rcases hk : K.lookup a with _ | o
  · -- the script is tracked
    let H : Hp := fun b => if b = a then some (.frz { cls := .type "list", data := .seq vs.toArray } (.lst (ns.map V.int))) else if b ∈ Pl cs then some (.tbl #[]) else none
    have at_a : H a = some (.frz { cls := .type "list", data := .seq vs.toArray } (.lst (ns.map V.int))) := if_pos rfl
    have at_t : ∀ b, b ∈ Pl cs → H b = some (.tbl #[]) := fun b hb => by
      have nb : b ≠ a := fun z => naT (z ▸ hb)
      show (if b = a then _ else if b ∈ Pl cs then some (HO.tbl #[]) else none) = _
      rw [if_neg nb, if_pos hb]
    have off : ∀ b, b ≠ a → b ∉ Pl cs → H b = none := fun b h1 h2 => by
      show (if b = a then _ else if b ∈ Pl cs then some (HO.tbl #[]) else none) = _
      rw [if_neg h1, if_neg h2]
    have hH : TabH cs a H := ⟨fun p hp => at_t _ (mem p hp), fun b u z => by
      by_cases h1 : b = a
      · subst h1
        rw [at_a] at z
        exact .inl ⟨rfl, _, _, (Option.some.inj z).symm⟩
      · by_cases h2 : b ∈ Pl cs
        · rw [at_t b h2] at z
          exact .inr ⟨h2, (Option.some.inj z).symm⟩
        · rw [off b h1 h2] at z
          exact nomatch z⟩
    refine call_tabs (H := H) KX hns hb hbb hlim hg hbm hT ha hr F hbind (hsp H hH.tab (.inl (.inr ⟨_, at_a⟩))) ?_ hH (fun _ => hk)
    intro b u z
    by_cases h1 : b = a
    · subst h1
      rw [at_a] at z
      obtain rfl := Option.some.inj z
      exact ⟨ha, by rw [List.length_map]; exact hl, vs, _, rv, ha⟩
    · by_cases h2 : b ∈ Pl cs
      · rw [at_t b h2] at z
        obtain rfl := Option.some.inj z
        exact inT h2
      · rw [off b h1 h2] at z
        exact nomatch z
  · -- the script is of the written part
    have e := KX a o hk
    rw [ha] at e
    obtain rfl := Option.some.inj e
    let H : Hp := fun b => if b ∈ Pl cs then some (.tbl #[]) else none
    have at_t : ∀ b, b ∈ Pl cs → H b = some (.tbl #[]) := fun b hb => if_pos hb
    have off : ∀ b, b ∉ Pl cs → H b = none := fun b h2 => if_neg h2
    have hH : TabH cs a H := ⟨fun p hp => at_t _ (mem p hp), fun b u z => by
      by_cases h2 : b ∈ Pl cs
      · rw [at_t b h2] at z
        exact .inr ⟨h2, (Option.some.inj z).symm⟩
      · rw [off b h2] at z
        exact nomatch z⟩
    refine call_tabs (H := H) KX hns hb hbb hlim hg hbm hT ha hr F hbind (hsp H hH.tab (.inr ⟨_, vs.toArray, _, hk, rfl, rfl, rfl, by rw [List.size_toArray, lenV]; exact hl, rv⟩)) ?_ hH (fun z => absurd (off a naT) z)
    intro b u z
    by_cases h2 : b ∈ Pl cs
    · rw [at_t b h2] at z
      obtain rfl := Option.some.inj z
      exact inT h2
    · rw [off b h2] at z
      exact nomatch z
end
/-- the end of such a law's proof -/
theorem walk_lawT {l : PySem.W.OpenLaw} {k : Nat} {q : Program} {loose : List Str} {XP : (Str → Option Value) → Heap → Prop}
    {YP : World → Heap → Prop} {d : DefRec} {K : Params → PySem.W.Frag} {sp : List (Addr × Addr) → PySem.W.Frag → Sp} {x : Str}
    (hn : l.most = some 63) (hdf : d.params.defaults = []) (hr : Room k callerA)
    (hY : ∀ (w : World) (h : Heap), YP w h → (K w.params).In h)
    (F : ∀ (w : World) (mg : Str → Option Value) (fa : Addr) (h : Heap), (K w.params).In h → h.Ns mainGlobals mg →
      mg d.name = some (.ref fa) → ∃ (cs : List (Addr × Addr)) (fd : FuncData), (∀ p ∈ cs, ∃ y, LamDef q (K w.params) y p.1 p.2) ∧ (∀ (s : Shared) (u : Value), BindsTo s fd ⟨[u], []⟩ [(x, u)]) ∧
        ∀ base : Heap, (K w.params).In base → base.Ns mainGlobals mg → (∀ p ∈ cs, LamX.TabB base mg p.1 p.2) →
          FnG l.prog w (K w.params) mg base k fa fd [x] (sp cs (K w.params)))
    (hsp : ∀ (cs : List (Addr × Addr)) (K : PySem.W.Frag) (H : Hp) (a : Addr) (ns : List Int), ns.length ≤ 63 → (∀ p ∈ cs, H p.2 = some (.tbl #[])) → SqL K H a (ns.map V.int) →
      sp cs K [.ref a] H (fun v _ => v = .bl true) E0) :
    PySem.W.WalkO q loose XP YP l.row.toRowW d [] (fun f vs => PySem.call f vs) := by
  refine Att.attach_call hn hdf ?_
  intro w s₀ s₁ mg mb fa o pm cd doc a vs ns G Y ho hd hcd hmg hobj hints hlen hg
  obtain ⟨cs, fd, hL, hb, hF⟩ := F w mg fa _ (hY w _ Y) G.T.g hmg
  refine call_lawT (hY w _ Y) G.T.g G.T.b G.T.builtins G.T.nolimit hg G.T.bmain (fun p hp => ?_) hobj hints
    (Nat.le_trans hlen (by decide)) hr hF hb (fun H hO hS => hsp cs _ H a ns hlen hO hS)
  obtain ⟨y, ⟨d', hrec⟩, htab, hout⟩ := hL p hp
  obtain ⟨h1, h2⟩ := PySem.W.tab_of G.T (hY w _ Y) hrec htab
  exact ⟨h1, h2, hout⟩
end Sg

set_option Elab.async false
set_option linter.all false
set_option maxRecDepth 100000
set_option maxHeartbeats 4000000
namespace Sg
open PySem PySem.Spec PyProof.Rows L2
/-! ## heaps -/
/-- all but p is as it was -/
def But (p : Addr) (H H' : Hp) : Prop := ∀ q o, q ≠ p → H q = some o → H' q = some o
theorem But.refl (p : Addr) (H : Hp) : But p H H := fun _ _ _ h => h
theorem But.trans {p : Addr} {H H1 H2 : Hp} (a : But p H H1) (b : But p H1 H2) : But p H H2 := fun q o n h => b q o n (a q o n h)
theorem But.of {p : Addr} {H H' : Hp} (a : Same H H') : But p H H' := fun q o _ h => a q o h
theorem But.upd {p : Addr} {H : Hp} {o : HO} : But p H (upd H p o) := fun q u n h => by rw [upd_ne n]; exact h
theorem same_new {H : Hp} {p : Addr} {o : HO} (h : H p = none) : Same H (upd H p o) := fun b x e => by
  rw [upd_ne (ne_of_none e h)]
  exact e
/-- what is new behind a But is new ahead -/
theorem But.free {p q : Addr} {H H' : Hp} {u : HO} (e : But p H H') (hp : H p = some u) (hp' : ∃ v, H' p = some v) (h : H' q = none) : H q = none := by
  by_cases n : q = p
  · subst n
    obtain ⟨v, hv⟩ := hp'
    rw [hv] at h
    exact nomatch h
  · rcases z : H q with _ | o
    · rfl
    · rw [e q o n z] at h
      exact nomatch h
theorem But.tup {K : PySem.W.Frag} {p : Addr} {H H' : Hp} {a : Addr} {xs ys : List V} (e : But p H H') (hp : H p = some (.lst ys)) (h : SqT K H a xs) : SqT K H' a xs := by
  rcases h with (h | ⟨o, h⟩) | h
  · exact .inl (.inl (e _ _ (ne_of h hp (fun z => nomatch z)) h))
  · exact .inl (.inr ⟨o, e _ _ (ne_of h hp (fun z => nomatch z)) h⟩)
  · exact .inr h
theorem Same.tup {K : PySem.W.Frag} {H H' : Hp} {a : Addr} {xs : List V} (e : Same H H') (h : SqT K H a xs) : SqT K H' a xs := by
  rcases h with (h | ⟨o, h⟩) | h
  · exact .inl (.inl (e _ _ h))
  · exact .inl (.inr ⟨o, e _ _ h⟩)
  · exact .inr h
/-- a pen at p -/
def PenAt (H : Hp) (p : Addr) : Prop := ∃ a b c : Int, H p = some (.lst [.int a, .int b, .int c]) ∧ 0 ≤ b ∧ b < 2147483648
theorem PenAt.same {H H' : Hp} {p : Addr} (h : PenAt H p) (e : Same H H') : PenAt H' p := by
  obtain ⟨a, b, c, h1, h2⟩ := h
  exact ⟨a, b, c, e _ _ h1, h2⟩
theorem PenAt.tup {K : PySem.W.Frag} {p : Addr} {H H' : Hp} {a : Addr} {xs : List V} (h : PenAt H p) (e : But p H H') (q : SqT K H a xs) : SqT K H' a xs := by
  obtain ⟨_, _, _, h1, _⟩ := h
  exact e.tup h1 q
theorem PenAt.free {p q : Addr} {H H' : Hp} (h : PenAt H p) (h' : PenAt H' p) (e : But p H H') (n : H' q = none) : H q = none := by
  obtain ⟨_, _, _, h1, _⟩ := h
  obtain ⟨_, _, _, h2, _⟩ := h'
  exact e.free h1 ⟨_, h2⟩ n
theorem atI0 {x : V} {r : List V} : atI (x :: r) 0 = some x := atI_nat (j := 0) rfl
theorem atI1 {x y : V} {r : List V} : atI (x :: y :: r) 1 = some y := atI_nat (j := 1) rfl
theorem atI2 {x y z : V} {r : List V} : atI (x :: y :: z :: r) 2 = some z := atI_nat (j := 2) rfl

def atD (ns : List Int) (t : Int) : Int := if 0 ≤ t ∧ t < ns.length then ns.getD t.toNat 0 else -1
end Sg

set_option Elab.async false
set_option linter.all false
set_option maxRecDepth 100000
set_option maxHeartbeats 4000000
namespace Sg
open PySem PySem.Spec PyProof.Rows L2
/-! ## the mathematics of bars -/
/-- a work, as its items -/
structure IsWork (ns : List Int) : Prop where
  pos : 1 ≤ ns.length
  most : ns.length ≤ 60
  items : ∀ x ∈ ns, -1 ≤ x ∧ x ≤ 9
  head : ∀ x, ns[0]? = some x → x ≠ -1
  last : ∀ x, ns[ns.length - 1]? = some x → x ≠ -1
/-- a piece of other, d ticks behind one of one, clashes with it -/
def clashB (one other : List Int) (d : Nat) : Bool := ((one.drop d).zip other).any fun p => p.1 == p.2 && p.1 != -1
def barsN (one other : List Int) : List Nat := (List.range' 1 (one.length - 1)).filter (clashB one other)
/-- as the law looks: tick by tick of the first piece -/
def lawHit (one other : List Int) (d : Nat) (i : Nat) : Bool := match one[i]? with
  | some x => decide (x > -1) && decide (atD other ((i : Int) - d) = x)
  | none => false
def lawCount (one other : List Int) (d : Nat) (n : Nat) : Nat := ((List.range n).filter (lawHit one other d)).length
theorem lawCount_zero {one other : List Int} {d : Nat} : lawCount one other d 0 = 0 := rfl
theorem lawCount_succ {one other : List Int} {d n : Nat} : lawCount one other d (n + 1) = lawCount one other d n + (if lawHit one other d n = true then 1 else 0) := by
  unfold lawCount
  rw [List.range_succ, List.filter_append, List.length_append]
  congr 1
  by_cases h : lawHit one other d n = true
  · rw [if_pos h, List.filter_cons_of_pos h]; rfl
  · rw [if_neg h, List.filter_cons_of_neg h]; rfl
theorem atD_in {ns : List Int} {j : Nat} {x : Int} (h : ns[j]? = some x) : atD ns (j : Int) = x := by
  have hl := (List.getElem?_eq_some_iff.mp h).1
  unfold atD
  rw [if_pos ⟨by omega, by omega⟩, Int.toNat_natCast, List.getD_eq_getElem?_getD, h]; rfl
theorem atD_cases (ns : List Int) (t : Int) : (∃ j : Nat, t = j ∧ ns[j]? = some (atD ns t)) ∨ atD ns t = -1 := by
  by_cases h : 0 ≤ t ∧ t < ns.length
  · obtain ⟨j, rfl⟩ : ∃ j : Nat, t = j := ⟨t.toNat, by omega⟩
    have hj : j < ns.length := by omega
    exact .inl ⟨j, rfl, by rw [atD_in (List.getElem?_eq_getElem hj), List.getElem?_eq_getElem hj]⟩
  · refine .inr ?_
    unfold atD
    rw [if_neg h]
theorem clashB_iff {one other : List Int} {d : Nat} : clashB one other d = true ↔ ∃ j x, one[d + j]? = some x ∧ other[j]? = some x ∧ x ≠ -1 := by
  unfold clashB
  rw [List.any_eq_true]
  constructor
  · rintro ⟨⟨x, y⟩, hm, h⟩
    obtain ⟨j, hj⟩ := List.mem_iff_getElem?.mp hm
    obtain ⟨h1, h2⟩ := List.getElem?_zip_eq_some.mp hj
    simp only [Bool.and_eq_true, beq_iff_eq, bne_iff_ne, ne_eq] at h
    rw [List.getElem?_drop] at h1
    exact ⟨j, x, h1, h.1 ▸ h2, h.2⟩
  · rintro ⟨j, x, h1, h2, h3⟩
    refine ⟨(x, x), List.mem_iff_getElem?.mpr ⟨j, List.getElem?_zip_eq_some.mpr ⟨by rw [List.getElem?_drop]; exact h1, h2⟩⟩, ?_⟩
    simp [h3]
theorem lawCount_iff {one other : List Int} {d : Nat} (hw : IsWork one) : decide (lawCount one other d one.length ≠ 0) = clashB one other d := by
  have key : lawCount one other d one.length ≠ 0 ↔ clashB one other d = true := by
    rw [clashB_iff]
    unfold lawCount
    rw [ne_eq, List.length_eq_zero_iff, List.filter_eq_nil_iff]
    constructor
    · intro h
      have h' : ∃ i ∈ List.range one.length, lawHit one other d i = true := by
        refine Classical.byContradiction fun z => h fun i hi hh => z ⟨i, hi, hh⟩
      obtain ⟨i, hi, hh⟩ := h'
      have hi' : i < one.length := List.mem_range.mp hi
      unfold lawHit at hh
      rw [List.getElem?_eq_getElem hi'] at hh
      simp only [Bool.and_eq_true, decide_eq_true_eq] at hh
      rcases atD_cases other ((i : Int) - d) with ⟨j, ej, hj⟩ | e
      · refine ⟨j, one[i], ?_, ?_, by omega⟩
        · rw [show d + j = i by omega]; exact List.getElem?_eq_getElem hi'
        · rw [hj, hh.2]
      · omega
    · rintro ⟨j, x, h1, h2, h3⟩ z
      have hl := (List.getElem?_eq_some_iff.mp h1).1
      refine z (d + j) (List.mem_range.mpr hl) ?_
      unfold lawHit
      rw [h1]
      have hm : x ∈ one := List.mem_of_getElem? h1
      have := (hw.items x hm).1
      simp only [Bool.and_eq_true, decide_eq_true_eq]
      refine ⟨by omega, ?_⟩
      rw [show (((d + j : Nat) : Int) - d) = (j : Int) by omega]
      exact atD_in h2
  by_cases h : clashB one other d = true
  · rw [h]; exact decide_eq_true (key.mpr h)
  · rw [Bool.eq_false_iff.mpr h]
    exact decide_eq_false fun z => h (key.mp z)
/-! ### lists step by step -/
theorem filter_range'_succ (f : Nat → Bool) (a n : Nat) : (List.range' a (n + 1)).filter f = (List.range' a n).filter f ++ (if f (a + n) = true then [a + n] else []) := by
  rw [List.range'_concat, List.filter_append, Nat.one_mul]
  congr 1
  by_cases h : f (a + n) = true
  · rw [if_pos h, List.filter_cons_of_pos h]; rfl
  · rw [if_neg h, List.filter_cons_of_neg h]; rfl
/-- the bars found below 1 + n -/
def barsTo (one other : List Int) (n : Nat) : List Nat := (List.range' 1 n).filter (clashB one other)
theorem barsTo_len (one other : List Int) (n : Nat) : (barsTo one other n).length ≤ n := by
  unfold barsTo
  refine Nat.le_trans (List.length_filter_le _ _) ?_
  rw [List.length_range']
  exact Nat.le_refl _
abbrev nV (l : List Nat) : List V := l.map fun d => V.int (d : Nat)
theorem barsTo_yes {one other : List Int} {n : Nat} (h : clashB one other (1 + n) = true) : nV (barsTo one other (n + 1)) = nV (barsTo one other n) ++ [.int ((1 : Int) + n)] := by
  unfold nV barsTo
  rw [filter_range'_succ, if_pos h, List.map_append]
  have e : (((1 + n : Nat) : Int)) = (1 : Int) + n := by omega
  simp only [List.map_cons, List.map_nil, e]
theorem barsTo_no {one other : List Int} {n : Nat} (h : clashB one other (1 + n) = false) : barsTo one other (n + 1) = barsTo one other n := by
  unfold barsTo
  rw [filter_range'_succ, if_neg (by rw [h]; exact Bool.false_ne_true), List.append_nil]
/-- the pairs of a zip, looked at in turn -/
def hitsTo (one other : List Int) (d n : Nat) : List Bool := (((one.drop d).zip other).take n).map fun p => p.1 == p.2 && p.1 != -1
theorem hits_any (one other : List Int) (d : Nat) : (hitsTo one other d (min (one.drop d).length other.length)).any id = clashB one other d := by
  unfold hitsTo clashB
  rw [List.take_of_length_le (by rw [List.length_zip]; exact Nat.le_refl _), List.any_map]
  rfl
theorem hits_succ {one other : List Int} {d n : Nat} {x y : Int} (h1 : (one.drop d)[n]? = some x) (h2 : other[n]? = some y) : hitsTo one other d (n + 1) = hitsTo one other d n ++ [x == y && x != -1] := by
  unfold hitsTo
  rw [List.take_add_one, List.getElem?_zip_eq_some (z := (x, y)) |>.mpr ⟨h1, h2⟩, List.map_append]
  rfl
theorem hits_len (one other : List Int) (d n : Nat) : (hitsTo one other d n).length ≤ n := by
  unfold hitsTo
  rw [List.length_map, List.length_take]
  exact Nat.min_le_left _ _
end Sg

set_option Elab.async false
set_option linter.all false
set_option maxRecDepth 100000
set_option maxHeartbeats 4000000
namespace Sg
open PySem PySem.Spec PyProof.Rows L2
theorem walk_zipT {K : PySem.W.Frag} {a b : Addr} {xs ys : List V} {n : Nat} (hn : n = min xs.length ys.length) :
    Walk (RZ.ItzT K a b) n (fun H => SqT K H a xs ∧ SqT K H b ys) (YPair (fun i => xs[i]?) (fun i => ys[i]?)) := by
  subst hn
  constructor
  · intro i H hi q
    have h1 : i < xs.length := by omega
    have h2 : i < ys.length := by omega
    exact ⟨xs, ys, xs[i], ys[i], q.1, q.2, List.getElem?_eq_getElem h1, List.getElem?_eq_getElem h2⟩
  · intro H q
    exact ⟨xs, ys, q.1, q.2, by omega⟩
  · rintro i H v H' hi q ⟨T, x, z, h1, h2, h3, h4, h5⟩
    exact ⟨T, x, z, h1, h2, h3, h4 xs q.1, h5 ys q.2⟩
theorem walk_enumT {K : PySem.W.Frag} {a : Addr} {xs : List V} :
    Walk (ItE K a) xs.length (fun H => SqT K H a xs) (YPair (fun i => some (.int (i : Nat))) (fun i => xs[i]?)) := by
  constructor
  · intro i H hi q
    exact ⟨xs, xs[i], q, List.getElem?_eq_getElem hi⟩
  · intro H q
    exact ⟨xs, q, Nat.le_refl _⟩
  · rintro i H v H' hi q ⟨T, x, h1, h2, h3, h4⟩
    exact ⟨T, .int (i : Nat), x, h1, h2, h3, rfl, h4 xs q⟩
theorem cut_from (xs : List V) (d : Nat) : cutV xs (some (d : Int)) none = xs.drop d := by
  unfold cutV
  rw [HT.sIx_nat, HT.sIx_none]
  rcases Nat.le_total d xs.length with h | h
  · rw [Nat.min_eq_left h]
    exact List.take_of_length_le (by rw [List.length_drop]; exact Nat.le_refl _)
  · rw [Nat.min_eq_right h, List.drop_of_length_le (Nat.le_refl _), List.drop_of_length_le h]
    exact List.take_nil
section
variable {P : Program} {w : World} {K : PySem.W.Frag} {mg : Str → Option Value} {base : Heap}
theorem tyT {H : Hp} {a : Addr} {xs : List V} (h : SqT K H a xs) : TyX K H (.ref a) (.type "tuple") := by
  rcases h with (h | ⟨o, h⟩) | ⟨o, _, _, h, hc, _⟩
  · exact .base (.tup h)
  · exact .fTuple h
  · exact .kTuple h hc
/-- the module's numbers -/
structure Nums (mg : Str → Option Value) : Prop where
  nowhere : ∃ t, mg "NOWHERE" = some (.int (-1) t)
  stations : ∃ t, mg "STATIONS" = some (.int 10 t)
  most : ∃ t, mg "MOST_ITEMS" = some (.int 60 t)
def inR (x : Int) : Bool := decide (-1 ≤ x) && decide (x ≤ 9)
end
end Sg

set_option Elab.async false
set_option linter.all false
set_option maxRecDepth 100000
set_option maxHeartbeats 4000000
namespace Sg
open PySem PySem.Spec PyProof.Rows L2
/-! ## data that is shown -/
/-- data made of small ints, in lists and tuples, no deeper than n, of bulk b at most -/
structure Small (d : PyData) (n b : Nat) : Prop where
  sh : d.showable = true
  nd : d.hasDict = false
  dp : d.depth ≤ n
  lv : d.leavesShort 15 = true
  bk : d.bulk ≤ b
  ly : d.canLay0 = true
structure SmallAll (ds : List PyData) (n b : Nat) : Prop where
  sh : PyData.showableAll ds = true
  nd : PyData.hasDictAll ds = false
  dp : PyData.depthAll ds ≤ n
  lv : PyData.leavesShortAll 15 ds = true
  bk : PyData.bulkAll ds ≤ b
  ly : PyData.canLayAll0 ds = true
theorem Small.shows {d : PyData} {n b : Nat} (h : Small d n b) (hn : n ≤ 40) (hb : b ≤ 900000) : Shows d := by
  refine ⟨h.sh, h.nd, Nat.le_trans h.dp hn, ?_⟩
  have h1 := PyData.shown_le_bulk 15 (by decide) d h.lv
  have h2 := h.bk
  have h3 : (15 + 2) * d.bulk ≤ (15 + 2) * 900000 := Nat.mul_le_mul_left _ (Nat.le_trans h2 hb)
  have h4 : sizeLine = 16777216 := sizeLine_eq
  omega
theorem Small.shaped {d : PyData} {n b : Nat} (h : Small d n b) (hn : n ≤ 64) : SeqAt.shaped d = true := by
  unfold SeqAt.shaped
  rw [h.ly, decide_eq_true (Nat.le_trans h.dp hn)]
  rfl
theorem Small.list {ds : List PyData} {n b : Nat} (h : SmallAll ds n b) : Small (.list ds) (n + 1) b :=
  ⟨by simpa only [PyData.showable] using h.sh, by simpa only [PyData.hasDict] using h.nd, by simpa only [PyData.depth] using Nat.succ_le_succ h.dp,
    by simpa only [PyData.leavesShort] using h.lv, by simpa only [PyData.bulk] using h.bk, by simpa only [PyData.canLay0] using h.ly⟩
theorem Small.tuple {ds : List PyData} {n b : Nat} (h : SmallAll ds n b) : Small (.tuple ds) (n + 1) b :=
  ⟨by simpa only [PyData.showable] using h.sh, by simpa only [PyData.hasDict] using h.nd, by simpa only [PyData.depth] using Nat.succ_le_succ h.dp,
    by simpa only [PyData.leavesShort] using h.lv, by simpa only [PyData.bulk] using h.bk, by simpa only [PyData.canLay0] using h.ly⟩
theorem SmallAll.nil {n b : Nat} : SmallAll [] n b := ⟨by simp only [PyData.showableAll], by simp only [PyData.hasDictAll], by simp only [PyData.depthAll]; exact Nat.zero_le _,
  by simp only [PyData.leavesShortAll], by simp only [PyData.bulkAll]; exact Nat.zero_le _, by simp only [PyData.canLayAll0]⟩
theorem SmallAll.cons {d : PyData} {ds : List PyData} {n b c : Nat} (h : Small d n b) (r : SmallAll ds n c) : SmallAll (d :: ds) n (b + 1 + c) :=
  ⟨by simp only [PyData.showableAll, h.sh, r.sh, Bool.and_self], by simp only [PyData.hasDictAll, h.nd, r.nd, Bool.or_self], by simp only [PyData.depthAll]; exact Nat.max_le.mpr ⟨h.dp, r.dp⟩,
    by simp only [PyData.leavesShortAll, h.lv, r.lv, Bool.and_self], by simp only [PyData.bulkAll]; have h1 := h.bk; have h2 := r.bk; omega, by simp only [PyData.canLayAll0, h.ly, r.ly, Bool.and_self]⟩
theorem Small.int {i : Int} {n b : Nat} (h1 : -99999999999999 ≤ i) (h2 : i ≤ 99999999999999) : Small (.int i) n b := by
  refine ⟨?_, by simp only [PyData.hasDict], by simp only [PyData.depth]; exact Nat.zero_le _, ?_, by simp only [PyData.bulk]; exact Nat.zero_le _, by simp only [PyData.canLay0]⟩
  · simp only [PyData.showable, decide_eq_true_eq]
    have h3 : i.natAbs < 2 ^ 47 := by omega
    have h4 := PySem.Flt.log2_lt_of (show 0 < 47 by decide) h3
    omega
  · simp only [PyData.leavesShort, decide_eq_true_eq]
    have h6 : i.natAbs < 10 ^ 14 := by
      have e : (10 : Nat) ^ 14 = 100000000000000 := by decide
      rw [e]
      omega
    have h5 := int_text_length_le10 (k := 14) (by decide) h6
    show (Str.ofString (toString i)).length ≤ 15
    rw [PySem.ofString_length]
    exact h5
theorem Small.mono {d : PyData} {n m b c : Nat} (h : Small d n b) (hn : n ≤ m) (hb : b ≤ c) : Small d m c := ⟨h.sh, h.nd, Nat.le_trans h.dp hn, h.lv, Nat.le_trans h.bk hb, h.ly⟩
theorem SmallAll.mono {d : List PyData} {n m b c : Nat} (h : SmallAll d n b) (hn : n ≤ m) (hb : b ≤ c) : SmallAll d m c := ⟨h.sh, h.nd, Nat.le_trans h.dp hn, h.lv, Nat.le_trans h.bk hb, h.ly⟩
abbrev iD (ns : List Int) : List PyData := ns.map PyData.int
theorem SmallAll.ints {n : Nat} : ∀ (ns : List Int), (∀ x ∈ ns, -99999999999999 ≤ x ∧ x ≤ 99999999999999) → SmallAll (iD ns) n ns.length
  | [], _ => .nil
  | x :: r, h => by
    have h1 := h x List.mem_cons_self
    have h2 := SmallAll.cons (Small.int (n := n) (b := 0) h1.1 h1.2) (SmallAll.ints r fun y hy => h y (List.mem_cons_of_mem _ hy))
    exact h2.mono (Nat.le_refl _) (by show 0 + 1 + r.length ≤ r.length + 1; omega)
theorem dpInts {K : PySem.W.Frag} {H : Hp} : ∀ (ns : List Int), DpAll K H (ns.map V.int) (iD ns)
  | [] => .nil
  | x :: r => .cons (.int x) (dpInts r)
abbrev nI (l : List Nat) : List Int := l.map fun d => ((d : Nat) : Int)
theorem nV_eq (l : List Nat) : nV l = (nI l).map V.int := by rw [List.map_map]; rfl
theorem IsWork.small {ns : List Int} (h : IsWork ns) {n : Nat} : SmallAll (iD ns) n 60 :=
  (SmallAll.ints ns fun x hx => by have := h.items x hx; omega).mono (Nat.le_refl _) h.most
theorem bars_small {one other : List Int} (h : IsWork one) {n : Nat} : SmallAll (iD (nI (barsN one other))) n 60 := by
  refine (SmallAll.ints _ fun x hx => ?_).mono (Nat.le_refl _) ?_
  · obtain ⟨d, hd, rfl⟩ := List.mem_map.mp hx
    have h1 := (List.mem_filter.mp hd).1
    have h2 := List.mem_range'_1.mp h1
    have := h.most
    omega
  · rw [List.length_map]
    have := barsTo_len one other (one.length - 1)
    have := h.most
    exact Nat.le_trans (barsTo_len one other (one.length - 1)) (by omega)
section
variable {P : Program} {w : World} {K : PySem.W.Frag} {mg : Str → Option Value} {base : Heap}
/-! ### _law_same -/
def spSame (K : PySem.W.Frag) : Sp := fun vs H Q _ => ∃ (a b : Addr) (d : PyData), vs = [.ref a, .ref b] ∧ Dp K H (.ref a) d ∧ Dp K H (.ref b) d ∧ Shows d ∧ Q (.bl true) H
theorem PenAt.upd {H : Hp} {p q : Addr} {o : HO} (h : PenAt H p) (n : p ≠ q) : PenAt (upd H q o) p := by
  obtain ⟨a, b, c, h1, h2⟩ := h
  exact ⟨a, b, c, by rw [upd_ne n]; exact h1, h2⟩
theorem PenAt.ne {H : Hp} {p q : Addr} (h : PenAt H p) (n : H q = none) : p ≠ q := by
  obtain ⟨a, b, c, h1, _⟩ := h
  exact ne_of_none h1 n
end
end Sg

set_option Elab.async false
set_option linter.all false
set_option maxRecDepth 100000
set_option maxHeartbeats 4000000
namespace Sg
open PySem PySem.Spec PyProof.Rows L2
/-! ## data of ints and tuples alone -/
section
variable {K : PySem.W.Frag} {H H' : Hp}
mutual
inductive Tp (K : PySem.W.Frag) (H : Hp) : V → PyData → Prop
  | int (i : Int) : Tp K H (.int i) (.int i)
  | tu {a : Addr} {xs : List V} {ds : List PyData} : SqT K H a xs → TpAll K H xs ds → Tp K H (.ref a) (.tuple ds)
inductive TpAll (K : PySem.W.Frag) (H : Hp) : List V → List PyData → Prop
  | no : TpAll K H [] []
  | on {v : V} {vs : List V} {d : PyData} {ds : List PyData} : Tp K H v d → TpAll K H vs ds → TpAll K H (v :: vs) (d :: ds)
end
mutual
theorem Tp.dp : ∀ {v : V} {d : PyData}, Tp K H v d → Dp K H v d
  | _, _, .int i => .int i
  | _, _, .tu h r => .tup h (TpAll.dp r)
theorem TpAll.dp : ∀ {v : List V} {d : List PyData}, TpAll K H v d → DpAll K H v d
  | _, _, .no => .nil
  | _, _, .on a r => .cons (Tp.dp a) (TpAll.dp r)
end
/-- all tuples and all instances are as they were -/
structure St (K : PySem.W.Frag) (H H' : Hp) : Prop where
  tu : ∀ a xs, SqT K H a xs → SqT K H' a xs
  ob : ∀ a C dx fs, H a = some (.ins C dx fs) → H' a = some (.ins C dx fs)
theorem St.refl : St K H H := ⟨fun _ _ h => h, fun _ _ _ _ h => h⟩
theorem St.trans {H2 : Hp} (a : St K H H') (b : St K H' H2) : St K H H2 := ⟨fun _ _ h => b.tu _ _ (a.tu _ _ h), fun _ _ _ _ h => b.ob _ _ _ _ (a.ob _ _ _ _ h)⟩
theorem St.of (e : Same H H') : St K H H' := ⟨fun _ _ h => Same.tup e h, fun _ _ _ _ h => e _ _ h⟩
theorem St.but {p : Addr} {ys : List V} (e : But p H H') (hp : H p = some (.lst ys)) : St K H H' :=
  ⟨fun _ _ h => But.tup e hp h, fun a C dx fs h => e _ _ (fun z => by rw [z, hp] at h; exact nomatch h) h⟩
theorem St.pen {p : Addr} (e : But p H H') (hp : PenAt H p) : St K H H' := by
  obtain ⟨a, b, c, h, _⟩ := hp
  exact .but e h
mutual
theorem Tp.stayT (e : ∀ a xs, SqT K H a xs → SqT K H' a xs) : ∀ {v : V} {d : PyData}, Tp K H v d → Tp K H' v d
  | _, _, .int i => .int i
  | _, _, .tu h r => .tu (e _ _ h) (TpAll.stayT e r)
theorem TpAll.stayT (e : ∀ a xs, SqT K H a xs → SqT K H' a xs) : ∀ {v : List V} {d : List PyData}, TpAll K H v d → TpAll K H' v d
  | _, _, .no => .no
  | _, _, .on a r => .on (Tp.stayT e a) (TpAll.stayT e r)
end
theorem tu_ins {p C dx : Addr} {fs : List (Str × V)} {o : HO} (hp : H p = some (.ins C dx fs)) : ∀ a xs, SqT K H a xs → SqT K (upd H p o) a xs := by
  intro a xs h
  have ne : ∀ u, H a = some u → (∀ C dx fs, u ≠ .ins C dx fs) → a ≠ p := fun u hu n z => by
    rw [z, hp] at hu
    exact n _ _ _ (Option.some.inj hu).symm
  exact h.imp (fun z => z.imp (fun z => by rw [upd_ne (ne _ z (fun _ _ _ q => nomatch q))]; exact z) fun ⟨u, z⟩ => ⟨u, by rw [upd_ne (ne _ z (fun _ _ _ q => nomatch q))]; exact z⟩) id
mutual
theorem Tp.stay (e : St K H H') : ∀ {v : V} {d : PyData}, Tp K H v d → Tp K H' v d
  | _, _, .int i => .int i
  | _, _, .tu h r => .tu (e.tu _ _ h) (TpAll.stay e r)
theorem TpAll.stay (e : St K H H') : ∀ {v : List V} {d : List PyData}, TpAll K H v d → TpAll K H' v d
  | _, _, .no => .no
  | _, _, .on a r => .on (Tp.stay e a) (TpAll.stay e r)
end
theorem TpAll.len : ∀ {vs : List V} {ds : List PyData}, TpAll K H vs ds → vs.length = ds.length
  | _, _, .no => rfl
  | _, _, .on _ r => congrArg (· + 1) (TpAll.len r)
theorem TpAll.at : ∀ {vs : List V} {ds : List PyData} {i : Nat} {v : V}, TpAll K H vs ds → vs[i]? = some v → ∃ d, ds[i]? = some d ∧ Tp K H v d
  | _, _, 0, _, .on a _, e => by cases e; exact ⟨_, rfl, a⟩
  | _, _, i + 1, _, .on _ r, e => TpAll.at (i := i) r e
theorem TpAll.add : ∀ {vs us : List V} {ds es : List PyData}, TpAll K H vs ds → TpAll K H us es → TpAll K H (vs ++ us) (ds ++ es)
  | _, _, _, _, .no, b => b
  | _, _, _, _, .on a r, b => .on a (TpAll.add r b)
theorem TpAll.cut : ∀ {vs : List V} {ds : List PyData} (n : Nat), TpAll K H vs ds → TpAll K H (vs.take n) (ds.take n)
  | _, _, 0, _ => .no
  | _, _, _ + 1, .no => .no
  | _, _, n + 1, .on a r => .on a (TpAll.cut n r)
theorem TpAll.off : ∀ {vs : List V} {ds : List PyData} (n : Nat), TpAll K H vs ds → TpAll K H (vs.drop n) (ds.drop n)
  | _, _, 0, r => r
  | _, _, _ + 1, .no => .no
  | _, _, n + 1, .on _ r => TpAll.off n r
theorem TpAll.ints : ∀ (ns : List Int), TpAll K H (ns.map V.int) (iD ns)
  | [] => .no
  | x :: r => .on (.int x) (TpAll.ints r)
theorem TpAll.isInts : ∀ {vs : List V} {ns : List Int}, TpAll K H vs (iD ns) → vs = ns.map V.int
  | _, [], .no => rfl
  | _, _ :: _, .on (.int _) r => by rw [TpAll.isInts r]; rfl
theorem Tp.ofInts {a : Addr} {ns : List Int} (h : SqT K H a (ns.map V.int)) : Tp K H (.ref a) (.tuple (iD ns)) := .tu h (TpAll.ints ns)
theorem Tp.toInts {v : V} {ns : List Int} (h : Tp K H v (.tuple (iD ns))) : ∃ a, v = .ref a ∧ SqT K H a (ns.map V.int) := by
  cases h with
  | tu h r => exact ⟨_, rfl, by rw [← TpAll.isInts r]; exact h⟩
theorem Tp.toTup {v : V} {ds : List PyData} (h : Tp K H v (.tuple ds)) : ∃ a xs, v = .ref a ∧ SqT K H a xs ∧ TpAll K H xs ds := by
  cases h with
  | tu h r => exact ⟨_, _, rfl, h, r⟩
end
/-! ## lines -/
/-- one to three works -/
structure GoodL (ws : List (List Int)) : Prop where
  least : 1 ≤ ws.length
  few : ws.length ≤ 3
  work : ∀ w ∈ ws, IsWork w
abbrev tD (ns : List Int) : PyData := .tuple (iD ns)
abbrev tDs (ws : List (List Int)) : List PyData := ws.map tD
abbrev cellD (a b : List Int) : PyData := tD (nI (barsN a b))
abbrev rowD (a : List Int) (ws : List (List Int)) : PyData := .tuple (ws.map (cellD a))
abbrev barD (ws : List (List Int)) : List PyData := ws.map fun a => rowD a ws
/-- the bars of all, row by row -/
def rowB (a : List Int) (ws : List (List Int)) : List Int := ws.flatMap fun b => nI (barsN a b)
def allB (ws vs : List (List Int)) : List Int := ws.flatMap fun a => rowB a vs
/-- the greatest, or 0 -/
structure Top (l : List Int) (m : Int) : Prop where
  pos : 0 ≤ m
  le : ∀ x ∈ l, x ≤ m
  eq : m = 0 ∨ m ∈ l
theorem Top.uniq {l k : List Int} {m n : Int} (h : Top l m) (g : Top k n) (e : ∀ x, x ∈ l ↔ x ∈ k) : m = n := by
  have a : m ≤ n := by
    rcases h.eq with z | z
    · rw [z]; exact g.pos
    · exact g.le _ ((e _).mp z)
  have b : n ≤ m := by
    rcases g.eq with z | z
    · rw [z]; exact h.pos
    · exact h.le _ ((e _).mpr z)
  omega
/-! ### the object -/
def lf (t b : Addr) (r : Int) : List (Str × V) := putF "_reach" (.int r) (putF "_bars" (.ref b) (putF "_works" (.ref t) []))
theorem k1 : ¬ (("_works" : Str) = "_bars") := by decide +kernel
theorem k2 : ¬ (("_works" : Str) = "_reach") := by decide +kernel
theorem k3 : ¬ (("_bars" : Str) = "_reach") := by decide +kernel
theorem lf_works (t b : Addr) (r : Int) : (lf t b r).lookup ("_works" : Str) = some (.ref t) := by
  unfold lf
  rw [lookup_putF, if_neg k2, lookup_putF, if_neg k1, lookup_putF, if_pos rfl]
theorem lf_bars (t b : Addr) (r : Int) : (lf t b r).lookup ("_bars" : Str) = some (.ref b) := by
  unfold lf
  rw [lookup_putF, if_neg k3, lookup_putF, if_pos rfl]
theorem lf_reach (t b : Addr) (r : Int) : (lf t b r).lookup ("_reach" : Str) = some (.int r) := by
  unfold lf
  rw [lookup_putF, if_pos rfl]
/-- a Line of these works stands at a -/
def LineAt (K : PySem.W.Frag) (C : Addr) (H : Hp) (a : Addr) (ws : List (List Int)) : Prop :=
  ∃ (dx t b : Addr) (r : Int), H a = some (.ins C dx (lf t b r)) ∧ Tp K H (.ref t) (.tuple (tDs ws)) ∧ Tp K H (.ref b) (.tuple (barD ws)) ∧ Top (allB ws ws) r ∧ GoodL ws
theorem LineAt.ins {K : PySem.W.Frag} {C a : Addr} {H : Hp} {ws : List (List Int)} (h : LineAt K C H a ws) : InsAt H C a := by
  obtain ⟨dx, t, b, r, h1, _⟩ := h
  exact ⟨_, _, h1⟩
theorem LineAt.good {K : PySem.W.Frag} {C a : Addr} {H : Hp} {ws : List (List Int)} (h : LineAt K C H a ws) : GoodL ws := by
  obtain ⟨dx, t, b, r, _, _, _, _, g⟩ := h
  exact g
theorem LineAt.stay {K : PySem.W.Frag} {C a : Addr} {H H' : Hp} {ws : List (List Int)} (e : St K H H') (h : LineAt K C H a ws) : LineAt K C H' a ws := by
  obtain ⟨dx, t, b, r, h1, h2, h3, h4, h5⟩ := h
  exact ⟨dx, t, b, r, e.ob _ _ _ _ h1, h2.stay e, h3.stay e, h4, h5⟩
theorem TpAll.works {K : PySem.W.Frag} {H : Hp} {vs : List V} {ws : List (List Int)} {i : Nat} {v : V} (h : TpAll K H vs (tDs ws)) (e : vs[i]? = some v) : ∃ w a, ws[i]? = some w ∧ v = .ref a ∧ SqT K H a (w.map V.int) := by
  obtain ⟨d, hd, t⟩ := h.at e
  rw [List.getElem?_map] at hd
  obtain ⟨w, hw, rfl⟩ := Option.map_eq_some_iff.mp hd
  obtain ⟨a, rfl, hs⟩ := t.toInts
  exact ⟨w, a, hw, rfl, hs⟩
end Sg

set_option Elab.async false
set_option linter.all false
set_option maxRecDepth 100000
set_option maxHeartbeats 4000000
namespace Sg
open PySem PySem.Spec PyProof.Rows L2
theorem call_tuple_ofK {X : Cx} {K : PySem.W.Frag} (hK : X.K = K) : CallR X (.type "tuple") (fun xs H Q => ∃ p ys, xs = [.ref p] ∧ ((SqL K H p ys ∧ ∀ l, H l = none → Q (.ref l) (upd H l (.tup ys))) ∨ (SqT K H p ys ∧ Q (.ref p) H))) := by
  subst hK; exact call_tuple_of
theorem pi_tupK {X : Cx} {K : PySem.W.Frag} {tg l : Expr} {tl : TE} (hK : X.K = K) (hl : PE X l tl) : PI X tg l (iTup K tl) := by
  subst hK; exact pi_tup hl
/-! ## a list of tuple data that grows -/
def Grow (K : PySem.W.Frag) (H1 : Hp) (D : Addr) (ds : List PyData) (i : Nat) (H' : Hp) : Prop := Same H1 H' ∧ ∃ acc, H' D = some (.lst acc) ∧ TpAll K H' acc (ds.take i)
theorem Grow.zero {K : PySem.W.Frag} {H1 : Hp} {D : Addr} {ds : List PyData} (hD : H1 D = none) : Grow K H1 D ds 0 (upd H1 D (.lst [])) :=
  ⟨same_new hD, [], upd_same, .no⟩
theorem Grow.next {K : PySem.W.Frag} {H1 H' H'' : Hp} {D : Addr} {ds : List PyData} {i : Nat} {d : PyData} {v : V} (hD : H1 D = none) (hz : ds.length ≤ 1000) (h : Grow K H1 D ds i H') (e : Same H' H'') (hd : ds[i]? = some d) (t : Tp K H'' v d) :
    ∃ acc, H'' D = some (.lst acc) ∧ acc.length < sizeLine ∧ Grow K H1 D ds (i + 1) (upd H'' D (.lst (acc ++ [v]))) := by
  obtain ⟨s1, acc, h1, h2⟩ := h
  have hD2 := e _ _ h1
  have st : St K H'' (upd H'' D (.lst (acc ++ [v]))) := .but (.upd) hD2
  refine ⟨acc, hD2, ?_, fun b o q => ?_, _, upd_same, ?_⟩
  · have z := h2.len
    have z2 : i < ds.length := (List.getElem?_eq_some_iff.mp hd).1
    rw [List.length_take] at z
    exact small1000 (by omega)
  · rw [upd_ne (ne_of_none q hD)]
    exact e _ _ (s1 _ _ q)
  · rw [List.take_add_one, hd]
    exact ((h2.stay (.of e)).stay st).add (.on (t.stay st) .no)
theorem Grow.done {K : PySem.W.Frag} {H1 H' : Hp} {D : Addr} {ds : List PyData} {n : Nat} (h : Grow K H1 D ds n H') (hn : n = ds.length) : Same H1 H' ∧ ∃ acc, H' D = some (.lst acc) ∧ TpAll K H' acc ds := by
  obtain ⟨s1, acc, h1, h2⟩ := h
  rw [hn, List.take_length] at h2
  exact ⟨s1, acc, h1, h2⟩
theorem Tp.new {K : PySem.W.Frag} {H : Hp} {l : Addr} {acc : List V} {ds : List PyData} (nl : H l = none) (t : TpAll K H acc ds) : Tp K (upd H l (.tup acc)) (.ref l) (.tuple ds) :=
  .tu (.of upd_same) (t.stay (.of (same_new nl)))
theorem GoodL.mem {ws : List (List Int)} (h : GoodL ws) {i : Nat} {w : List Int} (e : ws[i]? = Option.some w) : IsWork w := h.work w (List.mem_of_getElem? e)
theorem GoodL.lt {ws : List (List Int)} (h : GoodL ws) : (barD ws).length ≤ 1000 := by
  have := h.few
  rw [List.length_map]
  omega
/-- what the class has -/
structure LC (K : PySem.W.Frag) (mg : Str → Option Value) (C : Addr) : Prop where
  cl : Cls K C
  nW : NoAttr K C "_works"
  nB : NoAttr K C "_bars"
  nR : NoAttr K C "_reach"
  mgC : mg "Line" = some (.ref C)
end Sg

set_option Elab.async false
set_option linter.all false
set_option maxRecDepth 100000
set_option maxHeartbeats 4000000
namespace Sg
open PySem PySem.Spec PyProof.Rows L2
/-! ## a tuple times 0, 1 or more -/
theorem tuple_mulOne (l : Addr) (items : Array Value) (n : Nat) (dd : Option Addr) (sl : Array (Option Value)) (u : Tok) :
    Meets (Builtin.«tuple.__mul__» ⟨[.ref l, .int 1 u], []⟩) (fun _ R s => s.heap.get? l = some { cls := .type "tuple", dict := dd, data := .seq items n, slots := sl } ∧ R (.ok (.ret (Value.ref l))) s) :=
  .of_wp fun prog w A R s h => by
    obtain ⟨hp, g, d, tk, os⟩ := s
    obtain ⟨hl, h⟩ := h
    have f1 := AutoSeq1.idx_int
    have ht : Shared.TypeIs ⟨hp, g, d, tk, os⟩ (.ref l) "tuple" := ⟨_, hl, rfl⟩
    wp_walk using wpAny_loadPart' hl, wpAny_typeOf ht
    repeat (first
      | (refine wpAny_ite_true (by rw [Bool.or_eq_true]; exact .inr rfl) ?_; wp_walk using wpAny_loadPart' hl, wpAny_typeOf ht)
      | (refine wpAny_ite_true rfl ?_; wp_walk using wpAny_loadPart' hl, wpAny_typeOf ht)
      | (refine wpAny_ite_false (by decide) ?_; wp_walk using wpAny_loadPart' hl, wpAny_typeOf ht))
    exact ⟨_, rfl, h⟩
theorem tuple_mulNone (l : Addr) (items : Array Value) (n : Nat) (dd : Option Addr) (sl : Array (Option Value)) (u : Tok) (c1 : items.isEmpty = false) :
    Meets (Builtin.«tuple.__mul__» ⟨[.ref l, .int 0 u], []⟩) (fun _ R s => s.heap.get? l = some { cls := .type "tuple", dict := dd, data := .seq items n, slots := sl } ∧
      R (.ok (.ret (Value.ref s.heap.objs.size))) { s with heap := s.heap.push { cls := Value.type "tuple", data := Data.seq #[] }, toks := s.toks }) :=
  .of_wp fun prog w A R s h => by
    obtain ⟨hp, g, d, tk, os⟩ := s
    obtain ⟨hl, h⟩ := h
    have f1 := AutoSeq1.idx_int
    have c2 : (items.isEmpty || (0 : Int) == 1) = false := by rw [c1]; rfl
    wp_walk using wpAny_loadPart' hl
    repeat (first
      | (refine wpAny_ite_false (by rw [c2]; exact Bool.false_ne_true) ?_; wp_walk using wpAny_loadPart' hl)
      | (refine wpAny_ite_true rfl ?_; wp_walk using wpAny_loadPart' hl)
      | (refine wpAny_ite_false (by decide) ?_; wp_walk using wpAny_loadPart' hl))
    exact ⟨_, rfl, h⟩
def rRepN (K : PySem.W.Frag) : R2 := fun x y H Q => ∃ (l : Addr) (k : Nat) (xs : List V), x = .ref l ∧ y = .int k ∧ SqT K H l xs ∧ xs ≠ [] ∧ k ≤ 1000 ∧ xs.length ≤ 1000 ∧
  (k = 1 → Q (.ref l) H) ∧ (k ≠ 1 → ∀ p, H p = none → Q (.ref p) (upd H p (.tup (List.replicate k xs).flatten)))
theorem op_repN {X : Cx} : OpR X (binaryOp .Mult) (rRepN X.K) := by
  intro pins s σ H x y v u Q I rx ry h
  obtain ⟨l, k, xs, rfl, rfl, hT, hne, h2, hz, q1, q2⟩ := h
  by_cases h1 : 2 ≤ k
  · refine op_repT pins s σ H _ _ v u Q I rx ry ⟨l, k, xs, rfl, rfl, hT, hne, by omega, by omega, hz, fun p np => ?_⟩
    rw [Int.toNat_natCast]
    exact q2 (by omega) p np
  cases rx
  obtain ⟨t, rfl⟩ := ry
  obtain ⟨its, r, ⟨⟨cls, dd, data, sl⟩, ho, hc, n, hd⟩, hs⟩ := I.tuple hT
  simp only at hc hd
  subst hc hd
  have hle : its.length = xs.length := r.length.symm
  have hn : its ≠ [] := fun e => hne (by
    rw [e] at hle
    exact List.eq_nil_of_length_eq_zero hle.symm)
  have hi : its.toArray.isEmpty = false := by
    cases its with
    | nil => exact absurd rfl hn
    | cons a b => rfl
  rcases (show k = 0 ∨ k = 1 by omega) with rfl | rfl
  · refine wpAny_binaryOp_repeat_ref (T := "tuple") (U := "int") (by decide) ⟨_, ho, rfl⟩ (fun s' => typeIs_int s' _ t) noFill_tuple_mul F.fills_int_mul F.slot_int_rmul repeat_tuple PySem.F.slot_int_index.lookup
      (call_meets F.slot_int_rmul (typeIs_int s _ t) F.entry_int_rmul (F.args_int_rmul_2 _ _) (int_rmul_tuple _ t l its.toArray n dd sl)
        ⟨ho, rfl, ⟨_, ho, rfl⟩, call_meets F.slot_tuple_mul ⟨_, ho, rfl⟩ F.entry_tuple_mul (F.args_tuple_mul_2 _ _) (tuple_mulNone l its.toArray n dd sl t hi) ⟨ho, ?_⟩⟩)
    refine ⟨.ref s.heap.objs.size, _, I.laid (t' := s.toks) (o := .tup (List.replicate 0 xs).flatten) (fun b ob q => Heap.get?_push_of_some _ q) (Nat.le_refl _) ?_, rfl, q2 (by decide) _ (I.hok.fresh (Nat.le_refl _))⟩
    exact ⟨Nat.zero_le _, [], .nil, IsTup.new _ _⟩
  · refine wpAny_binaryOp_repeat_ref (T := "tuple") (U := "int") (by decide) ⟨_, ho, rfl⟩ (fun s' => typeIs_int s' _ t) noFill_tuple_mul F.fills_int_mul F.slot_int_rmul repeat_tuple PySem.F.slot_int_index.lookup
      (call_meets F.slot_int_rmul (typeIs_int s _ t) F.entry_int_rmul (F.args_int_rmul_2 _ _) (int_rmul_tuple _ t l its.toArray n dd sl)
        ⟨ho, rfl, ⟨_, ho, rfl⟩, call_meets F.slot_tuple_mul ⟨_, ho, rfl⟩ F.entry_tuple_mul (F.args_tuple_mul_2 _ _) (tuple_mulOne l its.toArray n dd sl t) ⟨ho, ?_⟩⟩)
    exact ⟨.ref l, H, I, rfl, q1 rfl⟩
/-- .. asked once for all -/
def rRepS (K : PySem.W.Frag) : R2 := fun x y H Q => ∃ (l : Addr) (k : Nat) (xs : List V), x = .ref l ∧ y = .int k ∧ SqT K H l xs ∧ xs ≠ [] ∧ k ≤ 1000 ∧ xs.length ≤ 1000 ∧
  ∀ H' u, Same H H' → SqT K H' u (List.replicate k xs).flatten → Q (.ref u) H'
theorem op_repS {X : Cx} : OpR X (binaryOp .Mult) (rRepS X.K) := by
  intro pins s σ H x y v u Q I rx ry h
  obtain ⟨l, k, xs, rfl, rfl, hT, hne, h2, hz, q⟩ := h
  refine op_repN pins s σ H _ _ v u Q I rx ry ⟨l, k, xs, rfl, rfl, hT, hne, h2, hz, fun z => q H l (fun _ _ h => h) ?_, fun _ p np => q _ p (same_new np) (.of upd_same)⟩
  subst z
  rw [show (List.replicate 1 xs).flatten = xs from by simp]
  exact hT
/-! ## a part of a tuple, the whole of it too -/
section
variable {prog : Program} {w : World} {A : Around} {E : Value → Shared → Prop} {s : Shared}
theorem getItem_tuple_whole {t sl : Addr} {items : Array Value} {vl vu : Value} {lo hi : Option Int} {Q : Value → Shared → Prop} (ht : IsTup s.heap t items) (hs : s.heap.IsSliceOf sl vl vu .none) (pl : IsPart vl lo) (pu : IsPart vu hi)
    (hw : HT.sIx items.size 0 lo = 0 ∧ HT.sIx items.size items.size hi = items.size) (h : Q (.ref t) s) : wpAny (model prog w) A (getItem (.ref t) (.ref sl)) Q E s := by
  obtain ⟨os, hos, hcs, hds⟩ := id hs
  have hTs : s.TypeIs (.ref sl) "slice" := ⟨os, hos, hcs⟩
  unfold getItem
  try with_reducible refine wpAny_holding ?_
  first | refine wpAny_bind (wpAny_pure ?_) | skip
  refine wpAny_bind (wpAny_sequenceKey ht.typeIs (by decide) ?_)
  refine wpAny_bind (wpAny_callSpecial?_slot (name := Str.ofString "__getitem__") ht.typeIs PyProof.Rows.slot_tuple_getitem
    (wpAny_call_entry PyProof.Rows.slot_tuple_getitem ht.typeIs entry_tuple_getitem ?_ (args_tuple_getitem _ _)))
  show wpAny _ _ (Builtin.Tuple.tupleItemsOf (.ref t) >>= _) _ _ s
  refine wpAny_bind (PyProof.Rows.tupleItemsOf_ ht ?_)
  refine wpAny_bind (wpAny_typeOf hTs ?_)
  rw [if_pos (by decide)]
  refine wpAny_bind (HT.sliceApplied_gen hs pl pu ?_)
  have hyes : ((((HT.sIx items.size 0 lo : Nat) : Int) == 0 && (1 : Int) == 1 && (HT.sIx items.size items.size hi - HT.sIx items.size 0 lo) == items.size) = true) := by
    rw [hw.1, hw.2]
    simp
  show wpAny _ _ (if (((HT.sIx items.size 0 lo : Nat) : Int) == 0 && (1 : Int) == 1 && (HT.sIx items.size items.size hi - HT.sIx items.size 0 lo) == items.size) = true then _ else _) _ _ s
  rw [if_pos hyes]
  refine wpAny_bind (m := Builtin.Tuple.tupleIsExact _) ?_
  unfold Builtin.Tuple.tupleIsExact
  refine wpAny_bind (wpAny_typeOf ht.typeIs (wpAny_pure ?_))
  rw [if_pos (by decide)]
  exact wpAny_bind (wpAny_rule (wpAny_pure ⟨_, rfl, wpAny_pure h⟩))
end
def rSlN (K : PySem.W.Frag) : V → Option Int → Option Int → Hp → VK → Prop := fun x lo hi H Q => ∃ a xs, x = .ref a ∧ SqT K H a xs ∧
  ((HT.sIx xs.length 0 lo = 0 ∧ HT.sIx xs.length xs.length hi = xs.length) → cutV xs lo hi = xs → Q (.ref a) H) ∧ ∀ p, H p = none → Q (.ref p) (upd H p (.tup (cutV xs lo hi)))
theorem sl_tupN {X : Cx} : SlR X (rSlN X.K) := by
  intro pins s σ H x v vl vu lo hi sl Q I rx hs pl pu h
  obtain ⟨a, xs, rfl, hx, q1, q2⟩ := h
  by_cases hw : HT.sIx xs.length 0 lo = 0 ∧ HT.sIx xs.length xs.length hi = xs.length
  · cases rx
    obtain ⟨its, r, ht, hz⟩ := I.tuple hx
    have hlen : its.toArray.size = xs.length := by rw [List.size_toArray]; exact r.length.symm
    refine ⟨"tuple", _, PyProof.Rows.slot_tuple_getitem.lookup, ht.typeIs, ?_⟩
    refine getItem_tuple_whole ht hs pl pu (by rw [hlen]; exact hw) ⟨.ref a, H, I, rfl, q1 hw ?_⟩
    unfold cutV
    rw [hw.1, hw.2, List.drop_zero, Nat.sub_zero, List.take_length]
  · exact sl_tup pins s σ H _ v vl vu lo hi sl Q I rx hs pl pu ⟨a, xs, rfl, hx, hw, q2⟩
def rSlS (K : PySem.W.Frag) : V → Option Int → Option Int → Hp → VK → Prop := fun x lo hi H Q => ∃ a xs, x = .ref a ∧ SqT K H a xs ∧ ∀ H' u, Same H H' → SqT K H' u (cutV xs lo hi) → Q (.ref u) H'
theorem sl_tupS {X : Cx} : SlR X (rSlS X.K) := by
  intro pins s σ H x v vl vu lo hi sl Q I rx hs pl pu h
  obtain ⟨a, xs, rfl, hx, q⟩ := h
  exact sl_tupN pins s σ H _ v vl vu lo hi sl Q I rx hs pl pu ⟨a, xs, rfl, hx, fun _ e => q H a (fun _ _ h => h) (by rw [e]; exact hx), fun p np => q _ p (same_new np) (.of upd_same)⟩
end Sg

set_option Elab.async false
set_option linter.all false
set_option maxRecDepth 100000
set_option maxHeartbeats 4000000
namespace Sg
open PySem PySem.Spec PyProof.Rows L2
theorem tup_upd {K : PySem.W.Frag} {H : Hp} {p a : Addr} {xs : List V} {u o : HO} (hp : H p = some u) (hu : ∀ ys, HO.tup ys ≠ u) (hv : ∀ ob ys, HO.frz ob (.tup ys) ≠ u) (h : SqT K H a xs) : SqT K (upd H p o) a xs := by
  rcases h with (h | ⟨ob, h⟩) | h
  · exact .inl (.inl (by rw [upd_ne (ne_of h hp (hu _))]; exact h))
  · exact .inl (.inr ⟨ob, by rw [upd_ne (ne_of h hp (hv _ _))]; exact h⟩)
  · exact .inr h
theorem ixN_nat {n j : Nat} (h : j < n) : ixN n (j : Int) = some j := by
  unfold ixN
  rw [if_pos (by omega), if_pos (by omega), Int.toNat_natCast]
theorem ixN_end {n : Nat} (h : 0 < n) : ixN n (-1) = some (n - 1) := by
  unfold ixN
  rw [if_neg (by decide), if_pos (by omega)]
  congr 1
  omega
theorem mem_set {l : List Int} {i : Nat} {v x : Int} (h : x ∈ l.set i v) : x = v ∨ x ∈ l := by
  rcases List.mem_or_eq_of_mem_set h with z | z
  · exact .inr z
  · exact .inl z
theorem eraseIdx_map {f : Int → V} : ∀ (l : List Int) (j : Nat), (l.map f).eraseIdx j = (l.eraseIdx j).map f
  | [], _ => by simp
  | _ :: _, 0 => by simp
  | a :: r, j + 1 => by
    rw [List.map_cons, List.eraseIdx_cons_succ, List.eraseIdx_cons_succ, List.map_cons, eraseIdx_map r j]
theorem set_at {l : List Int} {i j : Nat} {v x : Int} (h : (l.set i v)[j]? = some x) : x = v ∨ (i ≠ j ∧ l[j]? = some x) := by
  by_cases e : i = j
  · have hm := List.mem_of_getElem? h
    subst e
    rw [List.getElem?_set_self'] at h
    left
    cases hl : l[i]? with
    | none =>
      rw [hl] at h
      exact nomatch h
    | some y =>
      rw [hl] at h
      exact (Option.some.inj h).symm
  · rw [List.getElem?_set_ne e] at h
    exact .inr ⟨e, h⟩
theorem PenAt.new {H : Hp} {p l : Addr} {o : HO} (h : PenAt H p) (n : H l = none) : PenAt (L2.upd H l o) p := h.upd (h.ne n)
theorem cut_to (xs : List V) (d : Nat) : cutV xs none (some (d : Int)) = xs.take d := by
  unfold cutV
  rw [HT.sIx_nat, HT.sIx_none]
  show (xs.drop 0).take (min d xs.length - 0) = _
  rw [List.drop_zero, Nat.sub_zero]
  rcases Nat.le_total d xs.length with h | h
  · rw [Nat.min_eq_left h]
  · rw [Nat.min_eq_right h, List.take_of_length_le h, List.take_of_length_le (Nat.le_refl _)]
theorem cut_one (xs : List V) (d : Nat) : cutV xs (some (d : Int)) (some ((d : Int) + 1)) = (xs.drop d).take 1 := by
  unfold cutV
  rw [HT.sIx_nat, show (d : Int) + 1 = ((d + 1 : Nat) : Int) from rfl, HT.sIx_nat]
  rcases Nat.lt_or_ge d xs.length with h | h
  · rw [Nat.min_eq_left (by omega), Nat.min_eq_left (by omega)]
    congr 1
    omega
  · rw [Nat.min_eq_right (by omega), Nat.min_eq_right (by omega), List.drop_of_length_le (Nat.le_refl _), List.drop_of_length_le h, List.take_nil, List.take_nil]
theorem freeS {H H' : Hp} {t : Addr} (e : Same H H') (n : H' t = none) : H t = none := by
  rcases z : H t with _ | o
  · rfl
  · rw [e _ _ z] at n
    exact nomatch n
theorem cr_sumT {X : Cx} (hc : X.calm = true) : CallR X (.builtin "sum") (fun vs H Q => ∃ (a : Addr) (ns : List Int), vs = [.ref a] ∧ SqT X.K H a (ns.map V.int) ∧ Q (.int ns.sum) H) := by
  intro pins s σ H vs us Q I r h
  obtain ⟨a, ns, rfl, hs, q⟩ := h
  obtain ⟨its, rv, ht, hz⟩ := I.tuple hs
  rw [Vals.ref1 r]
  obtain ⟨xs, e⟩ := rv.ints.allInts.items
  have hn : numsOf (intItems xs).toList = ns := by rw [← e]; exact rv.ints.numsOf
  rw [nums_intItems] at hn
  rw [e] at ht
  refine PySem.W.ktm_sumG (I.ok.hd hc) ht fun h' tk t' hk => ?_
  refine ⟨.int ns.sum, H, I.kept hk, ⟨t', ?_⟩, q⟩
  rw [preSum_eq, List.take_of_length_le (by simp), hn]
theorem rep_flat (n : Nat) (x : Int) : (List.replicate n [V.int x]).flatten = (List.replicate n x).map V.int := by
  rw [List.map_replicate]
  induction n with
  | zero => rfl
  | succ n ih => rw [List.replicate_succ, List.flatten_cons, ih, List.replicate_succ]; rfl
/-- a tuple is no pen -/
theorem PenAt.tupNe {H : Hp} {p u : Addr} {zs : List V} (h : PenAt H p) (hu : H u = some (.tup zs)) : u ≠ p := fun z => by
  subst z
  obtain ⟨_, _, _, e, _⟩ := h
  rw [hu] at e
  exact nomatch e
end Sg

set_option Elab.async false
set_option linter.all false
set_option maxRecDepth 100000
set_option maxHeartbeats 4000000
namespace Sg
open PySem PySem.Spec PyProof.Rows L2
/-! ## how many different tuples of ints a list has -/
theorem nodup_len_le {α : Type} [DecidableEq α] : ∀ (l D : List α), l.Nodup → (∀ x ∈ l, x ∈ D) → l.length ≤ D.length
  | [], _, _, _ => Nat.zero_le _
  | x :: r, D, h, s => by
    obtain ⟨h1, h2⟩ := List.nodup_cons.mp h
    have hx := s x List.mem_cons_self
    have := nodup_len_le r (D.erase x) h2 fun y hy => (List.mem_erase_of_ne (fun e => h1 (by rw [← e]; exact hy))).mpr (s y (List.mem_cons_of_mem _ hy))
    rw [List.length_erase_of_mem hx] at this
    have := List.length_pos_of_mem hx
    rw [List.length_cons]
    omega
theorem shorter {α : Type} [DecidableEq α] : ∀ (l : List α), ¬ l.Nodup → ∃ m : List α, m.length < l.length ∧ ∀ x ∈ l, x ∈ m
  | [], h => absurd List.nodup_nil h
  | x :: r, h => by
    by_cases hx : x ∈ r
    · refine ⟨r, Nat.lt_succ_self _, fun y hy => ?_⟩
      rcases List.mem_cons.mp hy with rfl | hy
      · exact hx
      · exact hy
    · obtain ⟨m, h1, h2⟩ := shorter r fun z => h (List.nodup_cons.mpr ⟨hx, z⟩)
      refine ⟨x :: m, Nat.succ_lt_succ h1, fun y hy => ?_⟩
      rcases List.mem_cons.mp hy with rfl | hy
      · exact List.mem_cons_self
      · exact List.mem_cons_of_mem _ (h2 y hy)
theorem met_nodup {α : Type} [DecidableEq α] {M V : List α} (h : M.Nodup) (h1 : ∀ x ∈ M, x ∈ V) (h2 : ∀ x ∈ V, x ∈ M) : M.length = V.length ↔ V.Nodup := by
  constructor
  · intro e
    by_cases z : V.Nodup
    · exact z
    · obtain ⟨m, l1, l2⟩ := shorter V z
      have := nodup_len_le M m h fun x hx => l2 x (h1 x hx)
      omega
  · intro z
    exact Nat.le_antisymm (nodup_len_le M V h h1) (nodup_len_le V M z h2)
def tLenSetT (K : PySem.W.Frag) (ta : TE) : TE := fun σ H Q => ta σ H fun x H1 => ∃ (l : Addr) (ks : List (Addr × List Int)), x = .ref l ∧ SqL K H1 l (ks.map fun p => V.ref p.1) ∧ (∀ p ∈ ks, SqT K H1 p.1 (p.2.map V.int)) ∧ ks.length < 64 ∧
  ∀ n : Nat, (n = ks.length ↔ (ks.map (·.2)).Nodup) → Q (.int n) H1
theorem pe_lenSetT {X : Cx} {K : PySem.W.Frag} {a : Expr} {ta : TE} {p p2 q pos : Pos} (hK : X.K = K) (hu : X.A.units + 3 < cLine) (g1 : Gl X "len") (m1 : X.mg "len" = none) (g2 : Gl X "set") (m2 : X.mg "set" = none) (ha : PE X a ta) (hc : X.calm = true := by rfl)
    (na : starEach [a] X.env = (false, eval a X.env) :: starEach [] X.env := by rfl) : PE X (.Call (.Name "len" p) [.Call (.Name "set" p2) [a] [] q] [] pos) (tLenSetT K ta) := by
  subst hK
  constructor
  intro pins s σ H Q I h
  refine Call_ ?_
  apply ld_blt I g1 m1 boot_len
  apply callWith_builtin1 _ rfl rfl
  apply args_cons _ rfl
  refine Call_ ?_
  apply ld_blt I g2 m2 boot_set
  apply callWith_type1 _ na rfl
  apply args_cons _ na
  refine thn (ha.run pins s σ H _ I h) ?_
  rintro v s1 ⟨x, H1, I1, r1, l, ks, rfl, hq, hk, hl, q1⟩
  cases r1
  apply args_nil
  obtain ⟨its, rv, pl, hz⟩ := I1.list hq
  refine call_set_tups (P := X.prog) (w := X.w) ks (I1.ok.hd hc) pl.isList (by simpa using refs_of_vals rv) (fun p hp => I1.isT (hk p hp)) hl hu fun h' tk L es ep t R g k => ?_
  apply args_nil
  have I2 : Inv X pins σ H1 { s1 with heap := h', toks := tk } := I1.kept k
  obtain ⟨o, ho, hex, hd⟩ := R.ob
  have sz := SetTR.size (s := { s1 with heap := h', toks := tk }) R
  refine call_len_set ho hex hd (SetTR.fits (s := { s1 with heap := h', toks := tk }) R) (by rw [sz]; have := R.few; omega) ⟨.int (L.length : Nat), H1, I2.tok _, ⟨_, by rw [sz]⟩, q1 L.length ?_⟩
  have mn := met_nodup (M := L.map (·.2)) (V := ks.map (·.2)) R.nd (fun x hx => ?_) (fun x hx => ?_)
  · rw [List.length_map, List.length_map] at mn
    exact mn
  · obtain ⟨p, hp, rfl⟩ := List.mem_map.mp hx
    exact List.mem_map.mpr ⟨p, List.mem_of_mem_take (g.sub p hp), rfl⟩
  · obtain ⟨p, hp, rfl⟩ := List.mem_map.mp hx
    exact g.all p (by rw [List.take_length]; exact hp)
end Sg

set_option Elab.async false
set_option linter.all false
set_option maxRecDepth 100000
set_option maxHeartbeats 4000000
namespace Sg
open PySem PySem.Spec PyProof.Rows L2 StX
/-! ## data compared -/
theorem eqv_ints : ∀ (xs ys : List Int), PyData.eqvAll (iD xs) (iD ys) = decide (xs = ys)
  | [], [] => by simp [PyData.eqvAll]
  | [], _ :: _ => by simp [PyData.eqvAll]
  | _ :: _, [] => by simp [PyData.eqvAll]
  | x :: xs, y :: ys => by
    show PyData.eqvAll (.int x :: iD xs) (.int y :: iD ys) = _
    rw [PyData.eqvAll, eqv_ints xs ys, PyData.eqv]
    by_cases h : x = y
    · subst h; simp
    · simp [h]
theorem eqv_tD (xs ys : List Int) : PyData.eqv (tD xs) (tD ys) = decide (xs = ys) := by
  show PyData.eqv (.tuple (iD xs)) (.tuple (iD ys)) = _
  rw [PyData.eqv, eqv_ints]
theorem eqv_tDs : ∀ (xs ys : List (List Int)), PyData.eqvAll (tDs xs) (tDs ys) = decide (xs = ys)
  | [], [] => by simp [PyData.eqvAll]
  | [], _ :: _ => by simp [PyData.eqvAll]
  | _ :: _, [] => by simp [PyData.eqvAll]
  | x :: xs, y :: ys => by
    show PyData.eqvAll (tD x :: tDs xs) (tD y :: tDs ys) = _
    rw [PyData.eqvAll, eqv_tDs xs ys, eqv_tD]
    by_cases h : x = y
    · subst h; simp
    · simp [h]
theorem lay_iD : ∀ (xs : List Int), PyData.canLayAll0 (iD xs) = true
  | [] => by simp [PyData.canLayAll0]
  | x :: r => by
    show PyData.canLayAll0 (.int x :: iD r) = true
    rw [PyData.canLayAll0, lay_iD r, PyData.canLay0]; rfl
theorem dep_iD : ∀ (xs : List Int), PyData.depthAll (iD xs) = 0
  | [] => by simp [PyData.depthAll]
  | x :: r => by
    show PyData.depthAll (.int x :: iD r) = 0
    rw [PyData.depthAll, dep_iD r, PyData.depth]; rfl
theorem shaped_tD (xs : List Int) : SeqAt.shaped (tD xs) = true := by
  unfold SeqAt.shaped
  have a : (tD xs).canLay0 = true := by show PyData.canLay0 (.tuple (iD xs)) = true; rw [PyData.canLay0, lay_iD]
  have b : (tD xs).depth ≤ 64 := by show PyData.depth (.tuple (iD xs)) ≤ 64; rw [PyData.depth, dep_iD]; decide
  rw [a, decide_eq_true b]; rfl
theorem lay_tDs : ∀ (xs : List (List Int)), PyData.canLayAll0 (tDs xs) = true
  | [] => by simp [PyData.canLayAll0]
  | x :: r => by
    show PyData.canLayAll0 (.tuple (iD x) :: tDs r) = true
    rw [PyData.canLayAll0, lay_tDs r, PyData.canLay0, lay_iD]; rfl
theorem dep_tDs : ∀ (xs : List (List Int)), PyData.depthAll (tDs xs) ≤ 1
  | [] => by simp [PyData.depthAll]
  | x :: r => by
    show PyData.depthAll (.tuple (iD x) :: tDs r) ≤ 1
    rw [PyData.depthAll, PyData.depth, dep_iD]
    exact Nat.max_le.mpr ⟨Nat.le_refl _, dep_tDs r⟩
theorem shaped_tDs (xs : List (List Int)) : SeqAt.shaped (.tuple (tDs xs)) = true := by
  unfold SeqAt.shaped
  have a : (PyData.tuple (tDs xs)).canLay0 = true := by rw [PyData.canLay0, lay_tDs]
  have b : (PyData.tuple (tDs xs)).depth ≤ 64 := by rw [PyData.depth]; have := dep_tDs xs; omega
  rw [a, decide_eq_true b]; rfl
end Sg
namespace Sg
open PySem PySem.Spec PyProof.Rows L2 StX
/-- a call of a def by names alone, in their order -/
def kwI {α : Type} : List α → List α → List α
  | [], ws => ws
  | _ :: _, _ => []
theorem kwI_rel {vs : List V} {us : List Value} {zs : List V} {ws : List Value} (r : Vals vs us) (rz : Vals zs ws) : Vals (kwI vs zs) (kwI us ws) := by
  cases r with
  | nil => exact rz
  | cons a r1 => exact .nil
/-- .. two names, the second one first -/
def kwG {α : Type} : List α → List α → List α
  | [], [a, b] => [b, a]
  | _, _ => []
theorem kw_rel {vs : List V} {us : List Value} {zs : List V} {ws : List Value} (r : Vals vs us) (rz : Vals zs ws) : Vals (kwG vs zs) (kwG us ws) := by
  cases r with
  | nil =>
    cases rz with
    | nil => exact .nil
    | cons a r1 =>
      cases r1 with
      | nil => exact .nil
      | cons b r2 =>
        cases r2 with
        | nil => exact .cons b (.cons a .nil)
        | cons c r3 => exact .nil
  | cons a r1 => exact .nil
section
variable {X : Cx} {CX : CXT} {k : Nat} {f : Addr} {fd : FuncData} {ps ks : List Str} {sp : Sp} {E : XK} {x : Str} {p pos : Pos} {kws : List Keyword} {tk : TA} {g : List Value → List Value → List Value} {gV : List V → List V → List V}
theorem pe_callK0 (F : FnOk X.prog X.w X.K X.mg X.base CX k f fd ps sp) (hr : Room k X.A) (hg : Gl X x) (hm : X.mg x = some (.ref f)) (hk : PySem.W.keepIn X.K (.ref f) = true) (hb : KBinds X.K fd ps ks g gV) (hx : Passes CX X E) (hkw : PK X kws tk)
    (ha : (backToKw pos (keywordEach kws X.env)).all (·.1.isSome) = true := by rfl) (hs : (backToKw pos (keywordEach kws X.env)).filterMap (·.1) = ks := by rfl) (hd : (x == ("__debug__" : Str)) = false := by decide)
    (hp : ((backTo pos (starEach [] X.env)).any (·.1) || (backToKw pos (keywordEach kws X.env)).any (·.1.isNone)) = false := by rfl) : PE X (.Call (.Name x p) [] kws pos) (tCallK sp gV E tNil tk) := by
  refine ⟨fun pins s σ H Q I h => wpAny_Call_Name_kw (ld_glob I hg hm ?_ hd)⟩
  refine PySem.W.callWith_KW0 (h₀ := X.base) I.ok.mod.kin hk ha ?_ hp
  refine thn (hkw.run pos pins s σ H _ I h) fun ws s2 ⟨zs, H2, I2, rz, q2⟩ => ⟨I2.kIn, ?_⟩
  rw [hs]
  exact run_fnk (us := []) (vs := []) F hr hb hx I2 .nil rz q2
end
end Sg

set_option Elab.async false
set_option linter.all false
set_option maxRecDepth 100000
set_option maxHeartbeats 4000000
namespace Sg
open PySem PySem.Spec PyProof.Rows L2
/-! ## set(list of ints), and sorted(..) of it -/
section
variable {P : Program} {w : World} {A : Around} {E : Value → Shared → Prop} {s : Shared}
/-- a set just made -/
abbrev noneIn (w : World) : Obj := ⟨.type "set", none, .set #[] 0 (.fresh 0 0 (!w.params.followText "set-order")), #[]⟩
/-- what is there once the list has been gone through -/
def Filled (w : World) (s : Shared) (ns : List Int) (s2 : Shared) : Prop :=
  ∃ (g : Heap) (u m : Nat), s2 = { s with heap := g, toks := u } ∧ m ≤ ns.length ∧ SetR w g s.heap.objs.size (fun j => decide (j ∈ ns)) m ∧ ∀ b o, s.heap.get? b = some o → g.get? b = some o
theorem fill_list {l : Addr} {its : Array Value} {ns : List Int} (hh : A.handled = none) (hl : s.heap.IsList l its) (hi : IntsAre its.toList ns) (hb : ns.length + 1 < scanBound) :
    wpAny (model P w) A (Builtin.«set.__init__» ⟨[.ref s.heap.objs.size, .ref l], []⟩) (fun r s2 => r = Fin.done (.ret .none) ∧ Filled w s ns s2) E { s with heap := s.heap.push (noneIn w) } := by
  have size : its.size = ns.length := by rw [← Array.length_toList]; exact hi.length
  obtain ⟨⟨c0, d0, q0, z0⟩, ho, e1, m0, e2⟩ := hl
  cases e1
  cases e2
  have at1 := Heap.get?_push_of_some (noneIn w) ho
  have atS : (s.heap.push (noneIn w)).get? s.heap.objs.size = some (noneIn w) := Heap.get?_push_size _ rfl
  have more : l < s.heap.objs.size := Heap.lt_size ho
  have k1 := F.sub_list_set
  have k2 := F.sub_list_frozenset
  have k3 : (Value.type "list" == Value.type "dict") = false := by decide
  have isL : (s.heap.push (noneIn w)).IsList l its := ⟨_, at1, rfl, m0, rfl⟩
  have long : (s.heap.push (noneIn w)).objs.size = s.heap.objs.size + 1 := Heap.size_push ..
  unfold Builtin.«set.__init__» noKeywords Builtin.Frozenset.updateFrom
  generalize gI : pyIter = PI
  wp_walk
  subst gI
  refine wpAny_pyIter_list isL (wpAny_bind (wpAny_runValue ?_))
  have apart : l ≠ (s.heap.push (noneIn w)).objs.size := by
    rw [long]
    exact fun z => Nat.ne_of_lt (Nat.lt_succ_of_lt more) z
  have off : s.heap.objs.size ∉ [(s.heap.push (noneIn w)).objs.size, l] := by
    rw [long]
    intro z
    rcases List.mem_cons.mp z with z | z
    · exact Nat.ne_of_lt (Nat.lt_succ_self _) z
    · exact Nat.ne_of_gt more (List.mem_singleton.mp z)
  have each : ∀ (i : Nat) (v : Value), its[i]? = some v → ∃ k t, ns[i]? = some k ∧ v = .int k t := fun i v hv => by
    have lt : i < ns.length := size ▸ (Array.getElem?_eq_some_iff.mp hv).1
    obtain ⟨t, e⟩ := hi.int_at i v (by rw [Array.getElem?_toList]; exact hv)
    refine ⟨ns[i], t, List.getElem?_eq_getElem lt, ?_⟩
    rw [e, List.getD_eq_getElem?_getD, List.getElem?_eq_getElem lt]; rfl
  refine set_update_ints ((Walks.list (by simp [hh]) _ l apart its).toS) s.heap.objs.size off ns size hb each its.size 0 _ (Nat.sub_zero _) (Nat.zero_le _)
    ⟨⟨_, Heap.get?_push_size _ rfl, rfl, rfl⟩, isL.push _⟩ ⟨0, Nat.le_refl 0, setR_new_at (Heap.get?_push_of_some _ atS)⟩ ?_
  rintro ⟨g, g2, d2, u2, o2⟩ m mv hm R
  obtain rfl : g2 = s.gens := mv.gens
  obtain rfl : d2 = s.drawn := mv.drawn
  obtain rfl : o2 = s.os := mv.os
  refine wpAny_pure (wpAny_pure ⟨rfl, g, u2, m, rfl, size ▸ hm, R, fun b o e => ?_⟩)
  have lt := Heap.lt_size e
  refine mv.heap b o (fun z => ?_) (Heap.get?_push_of_some _ (Heap.get?_push_of_some _ e))
  rcases List.mem_cons.mp z with z | z
  · exact Nat.ne_of_lt lt z
  · have y := List.mem_singleton.mp z
    rw [long] at y
    exact Nat.ne_of_lt (Nat.lt_succ_of_lt lt) y
theorem call_set_ints {l : Addr} {its : Array Value} {ns : List Int} {Q : Value → Shared → Prop} (hh : A.handled = none) (hl : s.heap.IsList l its) (hi : IntsAre its.toList ns) (hb : ns.length + 1 < scanBound)
    (q : ∀ s2, Filled w s ns s2 → Q (.ref s.heap.objs.size) s2) : wpAny (model P w) A (call (.type "set") [.ref l]) Q E s := by
  obtain ⟨top, rest, line⟩ := F.called_set.mro
  have c1 := F.called_set.made
  have c2 := F.called_set.sub
  have c3 := F.called_set.notType
  have c4 := F.called_set.canCreate
  have c5 := F.typeCall_set_1 (.ref l)
  have c6 := F.called_set.init.lookup
  refine wpAny_call (codeAny_of_tree (wpAny_pure ⟨Code.quiet_builtin _ (by decide +kernel), codeAny_builtin F.entry_type_call ?_⟩))
  rw [Around.under_plain (weight_type_call_type "set" [.ref l] []) rfl]
  repeat any_goals first | assumption | wp_step
  have made : (s.heap.push (noneIn w)).get? s.heap.objs.size = some (noneIn w) := Heap.get?_push_size _ rfl
  refine codeAny_mono (code_set_led1 (.ref l) (E := E) (Q₁ := fun v s1 => v = .ref s.heap.objs.size ∧ s1 = { s with heap := s.heap.push (noneIn w) }) ⟨rfl, rfl⟩) fun r s1 hr => ?_
  rcases r with e | fl
  · exact hr
  cases fl
  case ret v =>
    obtain ⟨rfl, rfl⟩ := hr
    have c7 := F.called_set.init.bind (.ref s.heap.objs.size)
    have isS : Shared.TypeIs { s with heap := s.heap.push (noneIn w) } (.ref s.heap.objs.size) "set" := ⟨_, made, rfl⟩
    repeat any_goals first | assumption | wp_step
    refine codeAny_mono (codeAny_call_builtin (R := wants (fun r s2 => r = .none ∧ Filled w s ns s2) E) F.called_set.init.plain F.entry_set_init (check_set_init_1 isS ?_)) fun r s2 hr => ?_
    · refine thn (fill_list (by simp [hh]) hl hi hb) ?_
      rintro v s3 ⟨rfl, f⟩
      exact ⟨rfl, f⟩
    rcases r with e | fl
    · exact hr
    cases fl
    case ret v =>
      obtain ⟨rfl, f⟩ := hr
      repeat any_goals first | assumption | wp_step
      exact q _ f
    all_goals exact hr.elim
  all_goals exact hr.elim
end
section
variable {X : Cx}
/-- no more members than any list that has them all -/
theorem setR_most {w : World} {h : Heap} {a : Addr} {S : Int → Bool} {n : Nat} (R : SetR w h a S n) (D : List Int) (hD : ∀ k, S k = true → k ∈ D) : n ≤ D.length := by
  obtain ⟨o, es, ep, t, _, _, _, _, nd, mem, _, _, rfl, _⟩ := R
  have := nodup_len_le (es.toList.map keyOf) D nd fun k hk => hD k ((mem k).mpr hk)
  rwa [List.length_map, Array.length_toList] at this
def rSetL (K : PySem.W.Frag) (w : World) : List V → Hp → VK → Prop := fun xs H Q => ∃ (l : Addr) (ns : List Int), xs = [V.ref l] ∧ SqL K H l (ns.map V.int) ∧ ns.length ≤ 4000 ∧
  ∀ (p : Addr) (n : Nat), H p = none → (∀ D : List Int, (∀ k ∈ ns, k ∈ D) → n ≤ D.length) → Q (.ref p) (upd H p (SetO w p (fun j => decide (j ∈ ns)) n))
theorem cr_setL (hc : X.calm = true) : CallR X (.type "set") (rSetL X.K X.w) := by
  intro pins s σ H xs us Q I r h
  obtain ⟨l, ns, rfl, hl, lt, q⟩ := h
  rw [Vals.ref1 r]
  obtain ⟨its, rv, pl, hz⟩ := I.list hl
  refine call_set_ints (P := X.prog) (w := X.w) (ns := ns) (I.ok.hd hc) pl.isList (by simpa using ints_of_vals rv) (by unfold scanBound; omega) ?_
  rintro _ ⟨g, u, m, rfl, hm, R, k⟩
  exact ⟨.ref _, _, I.laid (t' := u) k (Nat.le_refl _) (setO_new R), rfl, q _ m (I.hok.fresh (Nat.le_refl _)) fun D hD => setR_most R D fun j hj => hD j (of_decide_eq_true hj)⟩
end
end Sg

set_option Elab.async false
set_option linter.all false
set_option maxRecDepth 100000
set_option maxHeartbeats 4000000
namespace Sg
open PySem PySem.Spec PyProof.Rows L2
/-! ## keys that are tuples of tuples -/
mutual
/-- the value v is the key k: an int, or a tuple of keys -/
inductive KeyAt (H : Hp) : NestedKey → V → Prop
  | int (i : Int) : KeyAt H (.num i) (.int i)
  | tup {a : Addr} {us : List V} {ks : List NestedKey} : H a = some (.tup us) → KeyAll H ks us → KeyAt H (.tup ks) (.ref a)
inductive KeyAll (H : Hp) : List NestedKey → List V → Prop
  | no : KeyAll H [] []
  | on {k : NestedKey} {v : V} {ks : List NestedKey} {us : List V} : KeyAt H k v → KeyAll H ks us → KeyAll H (k :: ks) (v :: us)
end
mutual
theorem KeyAt.keep {H H' : Hp} (e : ∀ a us, H a = some (.tup us) → H' a = some (.tup us)) : ∀ {k : NestedKey} {v : V}, KeyAt H k v → KeyAt H' k v
  | _, _, .int i => .int i
  | _, _, .tup h r => .tup (e _ _ h) (KeyAll.keep e r)
theorem KeyAll.keep {H H' : Hp} (e : ∀ a us, H a = some (.tup us) → H' a = some (.tup us)) : ∀ {ks : List NestedKey} {us : List V}, KeyAll H ks us → KeyAll H' ks us
  | _, _, .no => .no
  | _, _, .on a r => .on (KeyAt.keep e a) (KeyAll.keep e r)
end
mutual
theorem KeyAt.is {P : Program} {w : World} {H : Hp} {h : Heap} (ok : HOk P w H h) : ∀ {k : NestedKey} {v : V} {u : Value}, KeyAt H k v → RelV v u → NestedIs h k u
  | _, _, u, .int i, r => by
    obtain ⟨t, rfl⟩ := r
    exact .int i t
  | _, _, u, .tup (a := a) h' q, r => by
    obtain rfl : u = Value.ref a := r
    obtain ⟨_, its, rv, o, h1, h2, n, h3⟩ := (show ObjOk P w H h a (.tup _) from ok a _ h')
    exact .tup h1 h2 h3 (by rw [List.toList_toArray]; exact KeyAll.is ok q rv)
theorem KeyAll.is {P : Program} {w : World} {H : Hp} {h : Heap} (ok : HOk P w H h) : ∀ {ks : List NestedKey} {us : List V} {its : List Value}, KeyAll H ks us → Vals us its → NestedAll h ks its
  | _, _, _, .no, .nil => .nil
  | _, _, _, .on a r, .cons b q => .cons (KeyAt.is ok a b) (KeyAll.is ok r q)
end
/-! ## a dict with such keys: its rows (key, where the key stands, value) -/
abbrev Row := NestedKey × Addr × V
def DN (P : Program) (w : World) (a : Addr) (rs : List Row) : HO := .ext fun h => rs.length ≤ sizeLine ∧ (a == sysModules) = false ∧
  ∃ ys : List (NestedKey × Addr × Value), Paired (fun r y => r.1 = y.1 ∧ r.2.1 = y.2.1 ∧ RelV r.2.2 y.2.2) rs ys ∧
    ∃ o es ep, h.get? a = some o ∧ o.ExactDict ∧ o.data = .dict es ep ∧ es.toList = ys.map (entryOfKey (nestedKind P w)) ∧ (ys.map (·.1)).Nodup
def KeysIn (H : Hp) (rs : List Row) : Prop := ∀ r ∈ rs, KeyAt H r.1 (.ref r.2.1) ∧ r.1.depth ≤ 8
theorem KeysIn.keep {H H' : Hp} {rs : List Row} (h : KeysIn H rs) (e : ∀ a us, H a = some (.tup us) → H' a = some (.tup us)) : KeysIn H' rs := fun r hr => ⟨(h r hr).1.keep e, (h r hr).2⟩
def atN (rs : List Row) (k : NestedKey) : Option V := (rs.find? fun r => decide (r.1 = k)).map (·.2.2)
def storeN (rs : List Row) (k : NestedKey) (b : Addr) (v : V) : List Row := if (atN rs k).isSome then rs.map fun r => if r.1 = k then (r.1, r.2.1, v) else r else rs ++ [(k, b, v)]
abbrev RowRel : Row → NestedKey × Addr × Value → Prop := fun r y => r.1 = y.1 ∧ r.2.1 = y.2.1 ∧ RelV r.2.2 y.2.2
theorem atN_rel {rs : List Row} {ys : List (NestedKey × Addr × Value)} (r : Paired RowRel rs ys) (k : NestedKey) : RelO (atN rs k) ((atKey ys k).map (·.2)) := by
  induction r with
  | nil => exact True.intro
  | @cons p q ps qs h t ih =>
    by_cases e : p.1 = k
    · have e' : q.1 = k := h.1.symm.trans e
      have a : atN (p :: ps) k = some p.2.2 := by simp [atN, List.find?_cons, e]
      have b : atKey (q :: qs) k = some q.2 := by simp [atKey, List.find?_cons, e']
      rw [a, b]; exact h.2.2
    · have e' : ¬ q.1 = k := fun z => e (h.1.trans z)
      have a : atN (p :: ps) k = atN ps k := by simp [atN, List.find?_cons, e]
      have b : atKey (q :: qs) k = atKey qs k := by simp [atKey, List.find?_cons, e']
      rw [a, b]; exact ih
theorem storeN_rel {rs : List Row} {ys : List (NestedKey × Addr × Value)} (r : Paired RowRel rs ys) (k : NestedKey) (b : Addr) {v : V} {u : Value} (rv : RelV v u) : Paired RowRel (storeN rs k b v) (storedH ys k b u) := by
  have e : (atN rs k).isSome = (atKey ys k).isSome := by
    rw [(atN_rel r k).isSome_eq, Option.isSome_map]
  unfold storeN storedH
  rw [e]
  by_cases q : (atKey ys k).isSome = true
  · rw [if_pos q, if_pos q]
    clear e q
    induction r with
    | nil => exact .nil
    | @cons p z ps zs h t ih =>
      rw [List.map_cons, List.map_cons]
      refine .cons ?_ ih
      unfold putAt
      by_cases c : p.1 = k
      · rw [if_pos c, if_pos (h.1.symm.trans c)]; exact ⟨h.1, h.2.1, rv⟩
      · rw [if_neg c, if_neg (fun y => c (h.1.trans y))]; exact h
  · rw [if_neg q, if_neg q]
    exact Paired.snoc r ⟨rfl, rfl, rv⟩
theorem storeN_len (rs : List Row) (k : NestedKey) (b : Addr) (v : V) : (storeN rs k b v).length ≤ rs.length + 1 := by
  unfold storeN
  split
  · rw [List.length_map]; omega
  · rw [List.length_append]; exact Nat.le_refl _
theorem storeN_new {rs : List Row} {k : NestedKey} (h : atN rs k = none) (b : Addr) (v : V) : storeN rs k b v = rs ++ [(k, b, v)] := by
  unfold storeN
  rw [h]; rfl
section
variable {P : Program} {w : World} {H : Hp} {h : Heap} {a : Addr} {rs : List Row}
theorem dn_of (ok : HOk P w H h) (e : H a = some (DN P w a rs)) (ks : KeysIn H rs) : rs.length ≤ sizeLine ∧ (a == sysModules) = false ∧ ∃ ys, Paired RowRel rs ys ∧ h.DictOfH (nestedKind P w) a ys := by
  obtain ⟨z, y, ys, r, o, es, ep, h1, h2, h3, h4, h5⟩ := (ok a _ e).1
  refine ⟨z, y, ys, r, o, es, ep, h1, h2, h3, h4, ?_, h5⟩
  have all : ∀ {l : List Row} {m : List (NestedKey × Addr × Value)}, Paired RowRel l m → KeysIn H l → ∀ x ∈ m, (nestedKind P w).is h x.1 x.2.1 := by
    intro l m q
    induction q with
    | nil => intro _ x hx; exact nomatch hx
    | @cons p q ps qs hq t ih =>
      intro hk x hx
      rcases List.mem_cons.mp hx with e | hx
      · subst e
        obtain ⟨k1, k2⟩ := hk p List.mem_cons_self
        have := k1.is ok (u := .ref p.2.1) rfl
        rw [hq.1, hq.2.1] at this
        exact ⟨this, by rw [← hq.1]; exact k2⟩
      · exact ih (fun r hr => hk r (List.mem_cons_of_mem _ hr)) x hx
  exact all r ks
theorem dn_ok {h' : Heap} {H' : Hp} {ys : List (NestedKey × Addr × Value)} (z : rs.length ≤ sizeLine) (hd : (a == sysModules) = false) (r : Paired RowRel rs ys) (dd : h'.DictOfH (nestedKind P w) a ys) : ObjOk P w H' h' a (DN P w a rs) := by
  obtain ⟨o, es, ep, h1, h2, h3, h4, _, h5⟩ := dd
  exact ⟨⟨z, hd, ys, r, o, es, ep, h1, h2, h3, h4, h5⟩, ⟨o, h1⟩, fun g1 g2 ⟨z, hd, ys, r, o, es, ep, q1, q2⟩ k => ⟨z, hd, ys, r, o, es, ep, k o q1, q2⟩⟩
end
section
variable {X : Cx} {pins : List (Addr × Obj)} {σ : L2.St} {H : Hp} {s : Shared} {a b : Addr} {k : NestedKey} {rs : List Row} {v : V} {r : Value} {A : Around} {E : Value → Shared → Prop}
/-- the key at b is looked for in the dict at a -/
structure NAt (P : Program) (w : World) (H : Hp) (a b : Addr) (k : NestedKey) (rs : List Row) : Prop where
  at_ : H a = some (DN P w a rs)
  keys : KeysIn H rs
  key : KeyAt H k (.ref b)
  deep : k.depth ≤ 8
theorem NAt.is {P : Program} {w : World} {h : Heap} (n : NAt P w H a b k rs) (ok : HOk P w H h) : (nestedKind P w).is h k b := ⟨n.key.is ok rfl, n.deep⟩
theorem roomN (hu : A.units + 64 < cLine) (P : Program) (w : World) : (nestedKind P w).room A.in1 := by
  show A.units + 1 + 8 < cLine
  omega
theorem n_get {Q : Value → Shared → Prop} (hu : A.units + 64 < cLine) (I : Inv X pins σ H s) (n : NAt X.prog X.w H a b k rs) (l : atN rs k = some v) (h : ∀ u s', Inv X pins σ H s' → RelV v u → Q u s') : wpAny (model X.prog X.w) A (getItem (.ref a) (.ref b)) Q E s := by
  obtain ⟨_, _, ys, rel, dd⟩ := dn_of I.hok n.at_ n.keys
  obtain ⟨u, hu', ru⟩ := RelO.some_of (v := v) (o := (atKey ys k).map (·.2)) (by rw [← l]; exact atN_rel rel k)
  obtain ⟨p, hp, hp2⟩ := Option.map_eq_some_iff.mp hu'
  refine wpAny_getItem_heap (roomN hu _ _) (n.is I.hok) dd hp ?_
  rw [hp2]
  exact h u _ (I.tok _) ru
theorem n_in {Q : Value → Shared → Prop} (hu : A.units + 64 < cLine) (I : Inv X pins σ H s) (n : NAt X.prog X.w H a b k rs) (h : ∀ s', Inv X pins σ H s' → Q (.bool (atN rs k).isSome) s') : wpAny (model X.prog X.w) A (compareOp .In (.ref b) (.ref a)) Q E s := by
  obtain ⟨_, hd, ys, rel, dd⟩ := dn_of I.hok n.at_ n.keys
  refine wpAny_in_heap (roomN hu _ _) (n.is I.hok) hd dd ?_
  have q := (atN_rel rel k).isSome_eq
  rw [Option.isSome_map] at q
  rw [← q]
  exact h _ (I.tok _)
theorem n_notIn {Q : Value → Shared → Prop} (hu : A.units + 64 < cLine) (I : Inv X pins σ H s) (n : NAt X.prog X.w H a b k rs) (h : ∀ s', Inv X pins σ H s' → Q (.bool (!(atN rs k).isSome)) s') : wpAny (model X.prog X.w) A (compareOp .NotIn (.ref b) (.ref a)) Q E s := by
  obtain ⟨_, hd, ys, rel, dd⟩ := dn_of I.hok n.at_ n.keys
  refine wpAny_notIn_heap (roomN hu _ _) (n.is I.hok) hd dd ?_
  have q := (atN_rel rel k).isSome_eq
  rw [Option.isSome_map] at q
  rw [← q]
  exact h _ (I.tok _)
theorem n_set {Q : Unit → Shared → Prop} (hu : A.units + 64 < cLine) (I : Inv X pins σ H s) (n : NAt X.prog X.w H a b k rs) (hl : rs.length < sizeLine) (rv : RelV v r) (h : ∀ s', Inv X pins σ (upd H a (DN X.prog X.w a (storeN rs k b v))) s' → Q () s') :
    wpAny (model X.prog X.w) A (setItem (.ref a) (.ref b) r) Q E s := by
  obtain ⟨z, hd, ys, rel, dd⟩ := dn_of I.hok n.at_ n.keys
  have hz : ys.length ≤ sizeLine := by rw [← Paired.length rel]; exact z
  refine wpAny_setItem_heap (hsz := hz) (roomN hu _ _) (n.is I.hok) dd fun h' dd' hs => h _ ?_
  have he : ∃ q, h'.get? a = some q := let ⟨q, _, _, hq, _⟩ := dd'; ⟨q, hq⟩
  exact d_write I (by rw [n.at_]; exact True.intro) hs he (dn_ok (by have := storeN_len rs k b v; omega) hd (storeN_rel rel k b rv) dd')
end
/-! ### as rules -/
def tNGet (P : Program) (w : World) (td ty : TE) : TE := fun σ H Q => td σ H fun x H1 => ty σ H1 fun y H2 => ∃ a b k rs v, x = .ref a ∧ y = .ref b ∧ NAt P w H2 a b k rs ∧ atN rs k = some v ∧ Q v H2
def tNNotIn (P : Program) (w : World) (ty td : TE) : TE := fun σ H Q => ty σ H fun y H1 => td σ H1 fun x H2 => ∃ a b k rs, x = .ref a ∧ y = .ref b ∧ NAt P w H2 a b k rs ∧ Q (.bl (!(atN rs k).isSome)) H2
def tNIn (P : Program) (w : World) (ty td : TE) : TE := fun σ H Q => ty σ H fun y H1 => td σ H1 fun x H2 => ∃ a b k rs, x = .ref a ∧ y = .ref b ∧ NAt P w H2 a b k rs ∧ Q (.bl (atN rs k).isSome) H2
def sNPut (P : Program) (w : World) (td ty tv : TE) : TS := fun D σ H => tv σ H fun v H1 => td σ H1 fun x H2 => ty σ H2 fun y H3 => ∃ a b k rs, x = .ref a ∧ y = .ref b ∧ NAt P w H3 a b k rs ∧ rs.length < sizeLine ∧
  D.nx σ (upd H3 a (DN P w a (storeN rs k b v)))
section
variable {X : Cx} {o i e value : Expr} {pos pos' : Pos} {td ty tv : TE}
theorem NAt.typeIs {pins : List (Addr × Obj)} {σ : L2.St} {H : Hp} {s : Shared} {a b : Addr} {k : NestedKey} {rs : List Row} (n : NAt X.prog X.w H a b k rs) (I : Inv X pins σ H s) : s.TypeIs (.ref a) "dict" := by
  obtain ⟨_, _, ys, _, dd⟩ := dn_of I.hok n.at_ n.keys
  exact dd.typeIs
theorem pe_nget (hu : X.A.units + 64 < cLine) (ho : PE X o td) (hi : PE X i ty) (hs : NoSl i) : PE X (.Subscript o i pos) (tNGet X.prog X.w td ty) := by
  refine ⟨fun pins s σ H Q I h => ?_⟩
  refine subD_of PySem.F.slot_dict_getitem.lookup hs (thn (ho.run pins s σ H _ I h) fun u s1 ⟨x, H1, I1, rx, q1⟩ => thn (hi.run pins s1 σ H1 _ I1 q1) fun iv s2 ⟨y, H2, I2, ry, a, b, k, rs, v, ex, ey, n, l, q2⟩ => ?_)
  subst ex ey
  obtain rfl : u = Value.ref a := rx
  obtain rfl : iv = Value.ref b := ry
  exact ⟨n.typeIs I2, n_get hu I2 n l fun u s3 I3 ru => ⟨v, H2, I3, ru, q2⟩⟩
theorem pc_nnotin (hu : X.A.units + 64 < cLine) (hi : PE X i ty) (ho : PE X o td) : PC X .NotIn i o (tNNotIn X.prog X.w ty td) := by
  refine ⟨fun pins s σ H Q I h => ?_⟩
  refine thn (hi.run pins s σ H _ I h) fun iv s1 ⟨y, H1, I1, ry, q1⟩ => thn (ho.run pins s1 σ H1 _ I1 q1) fun u s2 ⟨x, H2, I2, rx, a, b, k, rs, ex, ey, n, q2⟩ => ?_
  subst ex ey
  obtain rfl : u = Value.ref a := rx
  obtain rfl : iv = Value.ref b := ry
  exact n_notIn hu I2 n fun s3 I3 => ⟨.bl _, H2, I3, rfl, q2⟩
theorem pc_nin (hu : X.A.units + 64 < cLine) (hi : PE X i ty) (ho : PE X o td) : PC X .In i o (tNIn X.prog X.w ty td) := by
  refine ⟨fun pins s σ H Q I h => ?_⟩
  refine thn (hi.run pins s σ H _ I h) fun iv s1 ⟨y, H1, I1, ry, q1⟩ => thn (ho.run pins s1 σ H1 _ I1 q1) fun u s2 ⟨x, H2, I2, rx, a, b, k, rs, ex, ey, n, q2⟩ => ?_
  subst ex ey
  obtain rfl : u = Value.ref a := rx
  obtain rfl : iv = Value.ref b := ry
  exact n_in hu I2 n fun s3 I3 => ⟨.bl _, H2, I3, rfl, q2⟩
theorem ps_nput (hu : X.A.units + 64 < cLine) (ho : PE X o td) (hi : PE X i ty) (hv : PE X value tv) (hs : swapsWith value (some (.Subscript o i pos')) pos.line X.env = pure false) :
    PS X (.Assign [.Subscript o i pos'] value pos) (sNPut X.prog X.w td ty tv) := by
  refine ⟨fun pins s σ H D I h => ?_⟩
  refine wpAny_Assign_Subscript (thn (hv.run pins s σ H _ I h) fun r s1 ⟨v, H1, I1, rv, q1⟩ => thn (ho.run pins s1 σ H1 _ I1 q1) fun u s2 ⟨x, H2, I2, rx, q2⟩ => thn (hi.run pins s2 σ H2 _ I2 q2) fun iv s3 ⟨y, H3, I3, ry, a, b, k, rs, ex, ey, n, hl, q3⟩ => ?_) hs
  subst ex ey
  obtain rfl : u = Value.ref a := rx
  obtain rfl : iv = Value.ref b := ry
  exact n_set hu I3 n hl rv fun s4 I4 => ⟨σ, _, I4, q3⟩
/-- {} -/
def tNNew (P : Program) (w : World) : TE := fun _ H Q => ∀ p, H p = none → Q (.ref p) (upd H p (DN P w p []))
theorem dn_empty {P : Program} {w : World} {H : Hp} (h : Heap) (hb : sysModules < h.objs.size) : ObjOk P w H (h.push { cls := .type "dict", data := .dict #[] }) h.objs.size (DN P w h.objs.size []) :=
  dn_ok (Nat.zero_le _) (beq_eq_false_iff_ne.mpr (Nat.ne_of_gt hb)) .nil (Heap.DictOfH.new h)
end
section
variable {X : Cx} {pos : Pos}
theorem pe_nnew : PE X (.Dict [] [] pos) (tNNew X.prog X.w) := ⟨fun pins s σ H Q I h =>
  wpAny_Dict_empty ⟨.ref s.heap.objs.size, _, I.laid (a := s.heap.objs.size) (o := DN X.prog X.w s.heap.objs.size []) (t' := s.toks) (fun _ _ q => Heap.get?_push_of_some _ q) (Nat.le_refl _) (dn_empty s.heap I.big), rfl, h _ (I.hok.fresh (Nat.le_refl _))⟩⟩
/-- list(d): where its keys stand -/
def rListN (P : Program) (w : World) : List V → Hp → VK → Prop := fun xs H Q => ∃ (a : Addr) (rs : List Row), xs = [.ref a] ∧ H a = some (DN P w a rs) ∧ KeysIn H rs ∧ ∀ p, H p = none → Q (.ref p) (upd H p (.lst (rs.map fun r => V.ref r.2.1)))
theorem cr_listN (hc : X.calm = true) : CallR X (.type "list") (rListN X.prog X.w) := by
  intro pins s σ H xs us Q I r q
  obtain ⟨a, rs, rfl, ha, hk, q⟩ := q
  rw [Vals.ref1 r]
  obtain ⟨z, hd, ys, rel, dd⟩ := dn_of I.hok ha hk
  obtain ⟨es, ep, hraw, hes⟩ := (show ∃ es ep, s.heap.DictRaw a es ep ∧ es.toList = ys.map (entryOfKey (nestedKind X.prog X.w)) from by
    obtain ⟨o, es, ep, h1, h2, h3, h4, _, _⟩ := dd
    exact ⟨es, ep, ⟨o, h1, h2, h3⟩, h4⟩)
  have hsz : es.size = ys.length := size_of_entries hes
  have hlen := Paired.length rel
  refine PySem.W.kdl_call (KdlSrc.rawDict (es := es) (ep := ep) hd) (I.ok.hd hc) hraw (by rw [hsz, ← hlen]; exact z) fun h' tk acc c' hk2 hD hacc => ?_
  have hv : Vals (rs.map fun r => V.ref r.2.1) acc.toList := by
    have key : ∀ (j : Nat) (u : Value), acc.toList[j]? = some u → ∃ y, ys[j]? = some y ∧ u = .ref y.2.1 := fun j u e => by
      obtain ⟨hi, e2⟩ := hacc.2 j u (by rw [← Array.getElem?_toList]; exact e)
      have h3 := entry_at hes j
      rw [Array.getElem?_eq_getElem hi] at h3
      obtain ⟨y, hy, h4⟩ := Option.map_eq_some_iff.mp h3.symm
      refine ⟨y, hy, ?_⟩
      rw [e2, ← h4]; rfl
    have hl : acc.toList.length = rs.length := by rw [Array.length_toList, hacc.1, hsz, hlen]
    clear hraw hes dd hacc hD hk2 hk ha q
    have gen : ∀ (rs : List Row) (ys : List (NestedKey × Addr × Value)) (us : List Value), Paired RowRel rs ys → us.length = rs.length → (∀ (j : Nat) (u : Value), us[j]? = some u → ∃ y, ys[j]? = some y ∧ u = .ref y.2.1) → Vals (rs.map fun r => V.ref r.2.1) us := by
      intro rs ys us r
      induction r generalizing us with
      | nil =>
        intro hl _
        rw [List.eq_nil_of_length_eq_zero hl]
        exact .nil
      | @cons p q ps qs hpq t ih =>
        intro hl hk
        cases us with
        | nil => exact nomatch hl
        | cons u us =>
          obtain ⟨y, hy, e⟩ := hk 0 u rfl
          obtain rfl : q = y := Option.some.inj hy
          refine .cons ?_ (ih us (Nat.succ.inj hl) fun j u' e' => hk (j + 1) u' e')
          rw [e, ← hpq.2.1]; rfl
    exact gen rs ys _ rel hl key
  exact ⟨.ref s.heap.objs.size, _, I.laid (t' := tk) hk2 (Nat.le_refl _)
    (show ObjOk X.prog X.w _ _ _ (.lst (rs.map fun r => V.ref r.2.1)) from ⟨by rw [List.length_map]; exact z, acc.toList, c', hv, by rw [Array.toArray_toList]; exact hD⟩), rfl, q _ (I.hok.fresh (Nat.le_refl _))⟩
/-! ## sorted(list of data that are alike) -/
theorem each_vals {pins : List (Addr × Obj)} {σ : L2.St} {H : Hp} {s : Shared} (I : Inv X pins σ H s) : ∀ {ys : List V} {ds : List PyData} {its : List Value}, DpAll X.K H ys ds → Vals ys its →
    PySem.W.EachIs (fun u (b : V × PyData) => RelV b.1 u) its (ys.zip ds) ∧ PySem.W.EachIs (fun u (b : V × PyData) => ∃ as, Reads s.heap u b.2 as) its (ys.zip ds)
  | _, _, _, .nil, .nil => ⟨.nil, .nil⟩
  | _, _, _, .cons a r, .cons b q => by
    obtain ⟨h1, h2⟩ := each_vals I r q
    exact ⟨.cons b h1, .cons (Dp.reads I _ _ _ a b) h2⟩
theorem vals_each {its : List Value} {bs : List (V × PyData)} (h : PySem.W.EachIs (fun u (b : V × PyData) => RelV b.1 u) its bs) : Vals (bs.map (·.1)) its := by
  induction h with
  | nil => exact .nil
  | cons a r ih => exact .cons a ih
def rSortedD (K : PySem.W.Frag) : List V → Hp → VK → Prop := fun xs H Q => ∃ (a : Addr) (ys : List V) (ds : List PyData), xs = [.ref a] ∧ SqL K H a ys ∧ DpAll K H ys ds ∧ PySem.W.AllAlike ds ∧ PySem.W.Sortable ds ∧ (∀ d ∈ ds, d.depth ≤ 40) ∧
  ∀ (bs : List (V × PyData)) (p : Addr), bs = (ys.zip ds).mergeSort (PySem.W.dataLe false (·.2)) → H p = none → Q (.ref p) (upd H p (.lst (bs.map (·.1))))
theorem dpAll_len {K : PySem.W.Frag} {H : Hp} : ∀ {ys : List V} {ds : List PyData}, DpAll K H ys ds → ys.length = ds.length
  | _, _, .nil => rfl
  | _, _, .cons _ r => congrArg (· + 1) (dpAll_len r)
theorem zip_snd {α β : Type} : ∀ {xs : List α} {ys : List β}, xs.length = ys.length → (xs.zip ys).map (·.2) = ys
  | [], [], _ => rfl
  | x :: xs, y :: ys, h => by
    show y :: (xs.zip ys).map (·.2) = y :: ys
    rw [zip_snd (Nat.succ.inj h)]
theorem zip_fst {α β : Type} : ∀ {xs : List α} {ys : List β}, xs.length = ys.length → (xs.zip ys).map (·.1) = xs
  | [], [], _ => rfl
  | x :: xs, y :: ys, h => by
    show x :: (xs.zip ys).map (·.1) = x :: xs
    rw [zip_fst (Nat.succ.inj h)]
theorem cr_sortedD {j : Nat} (hr : Room j X.A) : CallR X (.builtin "sorted") (rSortedD X.K) := by
  intro pins s σ H xs us Q I r h
  obtain ⟨a, ys, ds, rfl, hs, hd, hal, hso, hdp, q⟩ := h
  rw [Vals.ref1 r]
  obtain ⟨its, rv, hl, hz⟩ := I.list hs
  obtain ⟨h1, h2⟩ := each_vals I hd rv
  have ln := dpAll_len hd
  have e2 := zip_snd ln
  have hu := hr.units
  refine PySem.W.sorted_data (enc := fun b : V × PyData => b.2) hl.isList h1 h2 (by rw [e2]; exact hal) (by rw [e2]; exact hso) (by rw [List.length_zip, ← ln, Nat.min_self]; exact hz) (fun b hb => ?_) fun out lo eo => ?_
  · have := hdp b.2 (by rw [← e2]; exact List.mem_map.mpr ⟨b, hb, rfl⟩)
    omega
  obtain ⟨c, hc⟩ := sortedAll_at s.heap its out.toArray
  have hv := vals_each eo
  have hlen : (((ys.zip ds).mergeSort (PySem.W.dataLe false fun b : V × PyData => b.2)).map (·.1)).length ≤ sizeLine := by
    rw [List.length_map, List.length_mergeSort, List.length_zip, ← ln, Nat.min_self]; exact hz
  exact ⟨.ref (s.heap.objs.size + 1), _, I.laid (t' := s.toks) (fun _ _ e => sortedAll_old e) (Nat.le_succ _) (show ObjOk X.prog X.w _ _ _ (.lst _) from ⟨hlen, out, c, hv, hc⟩), rfl, q _ _ rfl (I.hok.fresh (Nat.le_succ _))⟩
/-! ## in, not in a tuple of data -/
def rInTD (K : PySem.W.Frag) (neg : Bool) : R2 := fun x y H Q => ∃ d ds, Dp K H x d ∧ Dp K H y (.tuple ds) ∧ SeqAt.shaped d = true ∧ SeqAt.shaped (.tuple ds) = true ∧ Q (.bl (if neg then !(ds.any fun z => PyData.eqv z d) else ds.any fun z => PyData.eqv z d)) H
theorem in_tuple_eq {pins : List (Addr × Obj)} {σ : L2.St} {H : Hp} {s : Shared} {A : Around} {x y : V} {v u : Value} {d : PyData} {ds : List PyData} (hu : A.units + 65 < cLine) (I : Inv X pins σ H s) (rx : RelV x v) (ry : RelV y u) (hd : Dp X.K H x d) (he : Dp X.K H y (.tuple ds)) (sd : SeqAt.shaped d = true) (se : SeqAt.shaped (.tuple ds) = true) :
    ∃ (c : Addr) (vs : Array Value) (f : Value → Bool), u = .ref c ∧ s.heap.IsTuple c vs ∧ (∀ z, z ∈ vs → SeqAt.EqAt A.in1 s z v (f z)) ∧ vs.any f = ds.any fun z => PyData.eqv z d := by
  obtain ⟨as, r1⟩ := Dp.reads I d x v hd rx
  obtain ⟨bs, r2⟩ := Dp.reads I (.tuple ds) y u he ry
  have c1 : PyData.canLayAll0 ds = true := by have := SeqAt.canLay_of_shaped se; rwa [PyData.canLay0] at this
  cases r2 with
  | tuple h1 h2 h3 h4 =>
    have hh := SeqAt.depth_of_shaped sd
    exact ⟨_, _, fun y => PyData.eqv (SeqAt.readOf s.heap y) d, rfl, ⟨_, h1, h2, _, h3⟩, SeqAt.items_eqAt h4 r1 c1 (SeqAt.canLay_of_shaped sd) (by omega), SeqAt.any_by_data h4 c1⟩
theorem op_inTD (hu : X.A.units + 65 < cLine) : OpR X (compareOp .In) (rInTD X.K false) := by
  intro pins s σ H x y v u Q I rx ry h
  obtain ⟨d, ds, hd, he, sd, se, q⟩ := h
  obtain ⟨c, vs, f, rfl, ht, hf, e⟩ := in_tuple_eq hu I rx ry hd he sd se
  exact SeqAt.in_tupleAt f ht hf (by rw [e]; exact ⟨.bl _, H, I, rfl, q⟩)
theorem op_notInTD (hu : X.A.units + 65 < cLine) : OpR X (compareOp .NotIn) (rInTD X.K true) := by
  intro pins s σ H x y v u Q I rx ry h
  obtain ⟨d, ds, hd, he, sd, se, q⟩ := h
  obtain ⟨c, vs, f, rfl, ht, hf, e⟩ := in_tuple_eq hu I rx ry hd he sd se
  exact SeqAt.notIn_tupleAt f ht hf (by rw [e]; exact ⟨.bl _, H, I, rfl, q⟩)
end
section
variable {X : Cx} {P : Program} {w : World} {o i e value : Expr} {pos pos' : Pos} {td ty tv : TE}
/-! the same, with program and world named -/
theorem pe_nnewK (hP : X.prog = P) (hw : X.w = w) : PE X (.Dict [] [] pos) (tNNew P w) := by subst hP hw; exact pe_nnew
theorem pe_ngetK (hP : X.prog = P) (hw : X.w = w) (hu : X.A.units + 64 < cLine) (ho : PE X o td) (hi : PE X i ty) (hs : NoSl i) : PE X (.Subscript o i pos) (tNGet P w td ty) := by subst hP hw; exact pe_nget hu ho hi hs
theorem pc_nnotinK (hP : X.prog = P) (hw : X.w = w) (hu : X.A.units + 64 < cLine) (hi : PE X i ty) (ho : PE X o td) : PC X .NotIn i o (tNNotIn P w ty td) := by subst hP hw; exact pc_nnotin hu hi ho
theorem pc_ninK (hP : X.prog = P) (hw : X.w = w) (hu : X.A.units + 64 < cLine) (hi : PE X i ty) (ho : PE X o td) : PC X .In i o (tNIn P w ty td) := by subst hP hw; exact pc_nin hu hi ho
theorem ps_nputK (hP : X.prog = P) (hw : X.w = w) (hu : X.A.units + 64 < cLine) (ho : PE X o td) (hi : PE X i ty) (hv : PE X value tv) (hs : swapsWith value (some (.Subscript o i pos')) pos.line X.env = pure false) :
    PS X (.Assign [.Subscript o i pos'] value pos) (sNPut P w td ty tv) := by subst hP hw; exact ps_nput hu ho hi hv hs
theorem cr_listNK (hP : X.prog = P) (hw : X.w = w) (hc : X.calm = true) : CallR X (.type "list") (rListN P w) := by subst hP hw; exact cr_listN hc
end
end Sg

set_option Elab.async false
set_option linter.all false
set_option maxRecDepth 100000
set_option maxHeartbeats 4000000
namespace Sg
open PySem PySem.Spec PyProof.Rows L2
/-! ## any data -/
mutual
theorem Dp.same {K : PySem.W.Frag} {H H' : Hp} (e : Same H H') : ∀ {v : V} {d : PyData}, Dp K H v d → Dp K H' v d
  | _, _, .non => .non
  | _, _, .bl b => .bl b
  | _, _, .int i => .int i
  | _, _, .str x => .str x
  | _, _, .lst h r => .lst (e.seq h) (DpAll.same e r)
  | _, _, .tup h r => .tup (Same.tup e h) (DpAll.same e r)
theorem DpAll.same {K : PySem.W.Frag} {H H' : Hp} (e : Same H H') : ∀ {vs : List V} {ds : List PyData}, DpAll K H vs ds → DpAll K H' vs ds
  | _, _, .nil => .nil
  | _, _, .cons a r => .cons (Dp.same e a) (DpAll.same e r)
end
theorem DpAll.app {K : PySem.W.Frag} {H : Hp} : ∀ {vs us : List V} {ds es : List PyData}, DpAll K H vs ds → DpAll K H us es → DpAll K H (vs ++ us) (ds ++ es)
  | _, _, _, _, .nil, g => g
  | _, _, _, _, .cons a r, g => .cons a (DpAll.app r g)
theorem DpAll.len {K : PySem.W.Frag} {H : Hp} : ∀ {vs : List V} {ds : List PyData}, DpAll K H vs ds → vs.length = ds.length
  | _, _, .nil => rfl
  | _, _, .cons _ r => congrArg (· + 1) (DpAll.len r)
theorem DpAll.at {K : PySem.W.Frag} {H : Hp} : ∀ {vs : List V} {ds : List PyData} {i : Nat} {v : V}, DpAll K H vs ds → vs[i]? = some v → ∃ d, ds[i]? = some d ∧ Dp K H v d
  | _, _, _, _, .nil, h => nomatch h
  | _, _, 0, _, .cons a _, h => by cases h; exact ⟨_, rfl, a⟩
  | _, _, i + 1, _, .cons _ r, h => DpAll.at (i := i) r h
theorem DpAll.mem {K : PySem.W.Frag} {H : Hp} {vs : List V} {ds : List PyData} (h : DpAll K H vs ds) {v : V} (hv : v ∈ vs) : ∃ d ∈ ds, Dp K H v d := by
  obtain ⟨i, hi⟩ := List.mem_iff_getElem?.mp hv
  obtain ⟨d, h1, h2⟩ := DpAll.at h hi
  exact ⟨d, List.mem_of_getElem? h1, h2⟩
/-! ints and tuples of them: nothing that changes is read -/
mutual
theorem Tp.reads0 {X : Cx} {pins : List (Addr × Obj)} {σ : L2.St} {H : Hp} {s : Shared} (I : Inv X pins σ H s) : ∀ (d : PyData) (v : V) (u : Value), Tp X.K H v d → RelV v u → Reads s.heap u d []
  | .int i, _, _, h, r => by
    cases h
    obtain ⟨t, rfl⟩ := r
    exact .int i t
  | .tuple ds, _, _, h, r => by
    cases h with
    | tu hs ha =>
      cases r
      obtain ⟨its, rv, ⟨o, ho, hc, n, hd⟩, _⟩ := I.tuple hs
      exact .tuple ho hc hd (TpAll.reads0 I ds _ its ha rv)
  | .none, _, _, h, _ => by cases h
  | .bool _, _, _, h, _ => by cases h
  | .str _, _, _, h, _ => by cases h
  | .list _, _, _, h, _ => by cases h
  | .dict _, _, _, h, _ => by cases h
theorem TpAll.reads0 {X : Cx} {pins : List (Addr × Obj)} {σ : L2.St} {H : Hp} {s : Shared} (I : Inv X pins σ H s) : ∀ (ds : List PyData) (vs : List V) (us : List Value), TpAll X.K H vs ds → Vals vs us → ReadsAll s.heap us ds []
  | [], _, _, h, r => by
    cases h
    cases r
    exact .nil
  | d :: ds, _, _, h, r => by
    cases h with
    | on h1 h2 =>
      cases r with
      | cons r1 r2 => exact ReadsAll.cons (as := []) (bs := []) (Tp.reads0 I d _ _ h1 r1) (TpAll.reads0 I ds _ _ h2 r2)
end
mutual
theorem Dp.noDict {K : PySem.W.Frag} {H : Hp} : ∀ {v : V} {d : PyData}, Dp K H v d → d.hasDict = false
  | _, _, .non => by simp only [PyData.hasDict]
  | _, _, .bl _ => by simp only [PyData.hasDict]
  | _, _, .int _ => by simp only [PyData.hasDict]
  | _, _, .str _ => by simp only [PyData.hasDict]
  | _, _, .lst _ r => by simp only [PyData.hasDict]; exact DpAll.noDict r
  | _, _, .tup _ r => by simp only [PyData.hasDict]; exact DpAll.noDict r
theorem DpAll.noDict {K : PySem.W.Frag} {H : Hp} : ∀ {vs : List V} {ds : List PyData}, DpAll K H vs ds → PyData.hasDictAll ds = false
  | _, _, .nil => by simp only [PyData.hasDictAll]
  | _, _, .cons a r => by simp only [PyData.hasDictAll, Dp.noDict a, DpAll.noDict r, Bool.or_self]
end
/-- a dict: empty, or one int for one value of ints and tuples -/
inductive DicD (K : PySem.W.Frag) (H : Hp) : List (L2.Key × V) → List (PyData × PyData) → Prop
  | no : DicD K H [] []
  | one {i : Int} {v : V} {d : PyData} : Tp K H v d → DicD K H [(.inl i, v)] [(.int i, d)]
/-- any data: a dict at most on top -/
inductive Aq (K : PySem.W.Frag) (H : Hp) : V → PyData → Prop
  | data {v : V} {d : PyData} : Dp K H v d → Aq K H v d
  | dic {a : Addr} {kvs : List (L2.Key × V)} {ds : List (PyData × PyData)} : H a = some (.dK kvs) → DicD K H kvs ds → Aq K H (.ref a) (.dict ds)
theorem Aq.same {K : PySem.W.Frag} {H H' : Hp} (e : Same H H') {v : V} {d : PyData} (h : Aq K H v d) : Aq K H' v d := by
  cases h with
  | data h => exact .data (Dp.same e h)
  | dic h g =>
    refine .dic (e _ _ h) ?_
    cases g with
    | no => exact .no
    | one t => exact .one (t.stay (.of e))
/-- what may be shown -/
structure GoodD (d : PyData) : Prop where
  sh : d.showable = true
  dp : d.depth ≤ 40
  lv : d.leavesShort 24 = true
  bk : d.bulk ≤ 400000
theorem GoodD.short {d : PyData} (h : GoodD d) : d.shown.length ≤ sizeLine := by
  have h1 := PyData.shown_le_bulk 24 (by decide) d h.lv
  have h2 := h.bk
  have h4 : sizeLine = 16777216 := sizeLine_eq
  omega
def goodB (d : PyData) : Bool := d.showable && decide (d.depth ≤ 40) && d.leavesShort 24 && decide (d.bulk ≤ 400000)
theorem good_by {d : PyData} (h : goodB d = true) : GoodD d := by
  unfold goodB at h
  simp only [Bool.and_eq_true, decide_eq_true_eq] at h
  exact ⟨h.1.1.1, h.1.1.2, h.1.2, h.2⟩
/-- some data that may be shown -/
def AnyV (K : PySem.W.Frag) (H : Hp) (v : V) : Prop := ∃ d, Aq K H v d ∧ GoodD d
theorem AnyV.same {K : PySem.W.Frag} {H H' : Hp} (e : Same H H') {v : V} (h : AnyV K H v) : AnyV K H' v := by
  obtain ⟨d, h1, h2⟩ := h
  exact ⟨d, h1.same e, h2⟩
def AllAny (K : PySem.W.Frag) (H : Hp) (vs : List V) : Prop := ∀ v ∈ vs, AnyV K H v
theorem AllAny.same {K : PySem.W.Frag} {H H' : Hp} (e : Same H H') {vs : List V} (h : AllAny K H vs) : AllAny K H' vs := fun v hv => (h v hv).same e
theorem AllAny.app {K : PySem.W.Frag} {H : Hp} {vs us : List V} (h : AllAny K H vs) (g : AllAny K H us) : AllAny K H (vs ++ us) := fun v hv => (List.mem_append.mp hv).elim (h v) (g v)
theorem AllAny.nil {K : PySem.W.Frag} {H : Hp} : AllAny K H [] := fun _ h => nomatch h
theorem AllAny.cons {K : PySem.W.Frag} {H : Hp} {v : V} {vs : List V} (h : AnyV K H v) (g : AllAny K H vs) : AllAny K H (v :: vs) := fun u hu => (List.mem_cons.mp hu).elim (fun e => e ▸ h) (g u)
section
variable {X : Cx}
/-! ### repr(x) -/
theorem call_reprA {j : Nat} (hgd : X.A.guards = some []) (hr : Room j X.A) :
    CallR X (.builtin "repr") (fun xs H Q => ∃ v d, xs = [v] ∧ Aq X.K H v d ∧ GoodD d ∧ Q (.str d.shown) H) := by
  intro pins s σ H xs us Q I r h
  obtain ⟨v, d, rfl, hd, hg, q⟩ := h
  obtain ⟨u, rfl, rx⟩ := vals1 r
  have hu := hr.units
  have hdp := hg.dp
  have fin : ∀ t : Nat, EP X pins σ Q (.str d.shown t) { s with toks := t + 1 } := fun t => ⟨.str d.shown, H, I.tok _, ⟨_, rfl⟩, q⟩
  have ref : ∀ a : Addr, u = .ref a → ∀ as, Reads s.heap (.ref a) d as → (d.hasDict = true → sysModules ∉ as) → wpAny (model X.prog X.w) X.A (call (.builtin "repr") [u]) (EP X pins σ Q) X.xe s := fun a e as rd hs => by
    subst e
    exact repr_of_reads' (h₀ := s.heap) rd hg.sh hs hgd (by omega) (fun _ _ z => z) (fun h' u tk hk => ⟨.str d.shown, H, I.kept hk, ⟨u, rfl⟩, q⟩) hg.short
  cases hd with
  | dic ha hD =>
    cases rx
    obtain ⟨z, hm, xs, rel, o, es, ep, ho, hx, hdat, hes, hp, hnd⟩ := dk_rd I.hok (.inl ha)
    cases hD with
    | no =>
      cases rel
      have he : es.toList = [] := by
        generalize es.toList = l at hp
        cases hp; rfl
      refine ref _ rfl _ (.dict (as := []) (bs := []) ho hx.1 hdat (by rw [he]; exact .nil) (by rw [he]; exact .nil)) fun _ y => ?_
      have y' := List.mem_singleton.mp (show sysModules ∈ [_] from y)
      rw [← y'] at hm
      exact absurd hm (by simp)
    | one t =>
      cases rel with
      | cons r1 r2 =>
        cases r2
        rename_i b
        obtain ⟨k, y⟩ := b
        obtain ⟨ek, ry⟩ := r1
        have he : ∃ e : DictEntry, es.toList = [e] ∧ keyIs k e.key = true ∧ e.val = y := by
          generalize es.toList = l at hp
          cases hp with
          | cons h1 h2 h3 =>
            cases h3
            exact ⟨_, rfl, h1, h2⟩
        obtain ⟨e, he, hk, hv⟩ := he
        have ek' : (Sum.inl _ : L2.Key) = k := ek
        rw [← ek'] at hk
        obtain ⟨t0, e0⟩ := Value.isInt_shape hk
        refine ref _ rfl _ (.dict (as := []) (bs := []) ho hx.1 hdat ?_ ?_) fun _ y => ?_
        · rw [he]
          show ReadsAll s.heap [e.key] _ []
          rw [e0]
          exact ReadsAll.cons (as := []) (bs := []) (.int _ _) .nil
        · rw [he]
          show ReadsAll s.heap [e.val] _ []
          rw [hv]
          exact ReadsAll.cons (as := []) (bs := []) (Tp.reads0 I _ _ _ t ry) .nil
        · have y' := List.mem_singleton.mp (show sysModules ∈ [_] from y)
          rw [← y'] at hm
          exact absurd hm (by simp)
  | data hd =>
    cases hd with
    | non => cases rx; exact PySem.P.repr_of_none (fin _)
    | bl b => cases rx; exact PySem.P.repr_of_bool (by have := fin s.toks; cases b <;> exact this)
    | int i =>
      obtain ⟨t, rfl⟩ := rx
      have hs := hg.sh
      simp only [PyData.showable, decide_eq_true_eq] at hs
      exact PySem.P.repr_of_int hs (fin _)
    | str x =>
      obtain ⟨t, rfl⟩ := rx
      exact PySem.P.repr_of_str (fin _) hg.short
    | lst hs ha =>
      cases rx
      obtain ⟨as, rd⟩ := Dp.reads I _ _ _ (.lst hs ha) rfl
      exact ref _ rfl as rd fun z => by
        rw [Dp.noDict (Dp.lst hs ha)] at z; exact nomatch z
    | tup hs ha =>
      cases rx
      obtain ⟨as, rd⟩ := Dp.reads I _ _ _ (.tup hs ha) rfl
      exact ref _ rfl as rd fun z => by
        rw [Dp.noDict (Dp.tup hs ha)] at z; exact nomatch z
end
end Sg

set_option Elab.async false
set_option linter.all false
set_option maxRecDepth 100000
set_option maxHeartbeats 4000000
namespace Sg
open PySem PySem.Spec PyProof.Rows L2
/-! ## isinstance of any data -/
def tyN : PyData → String
  | .none => "NoneType"
  | .bool _ => "bool"
  | .int _ => "int"
  | .str _ => "str"
  | .list _ => "list"
  | .tuple _ => "tuple"
  | .dict _ => "dict"
theorem tyL {K : PySem.W.Frag} {H : Hp} {a : Addr} {xs : List V} (h : SqL K H a xs) : TyX K H (.ref a) (.type "list") := by
  rcases h with (h | ⟨o, h⟩) | ⟨o, _, _, h, hc, _⟩
  · exact .base (.lst h)
  · exact .base (.frz h)
  · exact .kList h hc
theorem aq_ty {K : PySem.W.Frag} {H : Hp} {v : V} {d : PyData} (h : Aq K H v d) : TyX K H v (.type (tyN d)) := by
  cases h with
  | dic h _ => exact .base (.dK h)
  | data h =>
    cases h with
    | non => exact .base .non
    | bl b => exact .base (.bl b)
    | int i => exact .base (.int i)
    | str x => exact .base (.str x)
    | lst h _ => exact tyL h
    | tup h _ => exact tyT h
def isS (u t : String) : Bool := decide (t = u) || (decide (u = "int") && decide (t = "bool"))
def isB (u : String) (d : PyData) : Bool := isS u (tyN d)
theorem tyN_mem (d : PyData) : tyN d ∈ ["NoneType", "bool", "int", "str", "list", "tuple", "dict"] := by
  cases d <;> simp [tyN]
theorem kit_table : ∀ t ∈ ["NoneType", "bool", "int", "str", "list", "tuple", "dict"], ∀ u ∈ ["tuple", "int", "bool", "str", "list"], kitB t u = some (isS u t) := by decide +kernel
theorem isB_kit {u : String} (hu : u = "tuple" ∨ u = "int" ∨ u = "bool" ∨ u = "str" ∨ u = "list") (d : PyData) : kitB (tyN d) u = some (isB u d) :=
  kit_table _ (tyN_mem d) u (by rcases hu with rfl | rfl | rfl | rfl | rfl <;> simp)
section
variable {X : Cx}
theorem call_isiA : CallR X (.builtin "isinstance") (fun xs H Q => ∃ v d u, xs = [v, .ty u] ∧ Aq X.K H v d ∧ (u = "tuple" ∨ u = "int" ∨ u = "bool" ∨ u = "str" ∨ u = "list") ∧ Q (.bl (isB u d)) H) := by
  intro pins s σ H xs us Q I r h
  obtain ⟨v, d, u, rfl, hd, hu, q⟩ := h
  exact call_isi pins s σ H _ us Q I r ⟨v, .ty u, _, _, _, rfl, .ty _, aq_ty hd, kit_ty (isB_kit hu d), q⟩
theorem call_isiAK {K : PySem.W.Frag} (hK : X.K = K) : CallR X (.builtin "isinstance") (fun xs H Q => ∃ v d u, xs = [v, .ty u] ∧ Aq K H v d ∧ (u = "tuple" ∨ u = "int" ∨ u = "bool" ∨ u = "str" ∨ u = "list") ∧ Q (.bl (isB u d)) H) := by
  subst hK; exact call_isiA
/-- no data is an instance of this class -/
def NoInst (K : PySem.W.Frag) (C : Addr) : Prop := ∀ d : PyData, PySem.W.kitOne K (.type (tyN d)) (.ref C) = some false
theorem noInst_by {K : PySem.W.Frag} {C : Addr} (h1 : PySem.W.kitOne K (.type "NoneType") (.ref C) = some false) (h2 : PySem.W.kitOne K (.type "bool") (.ref C) = some false) (h3 : PySem.W.kitOne K (.type "int") (.ref C) = some false)
    (h4 : PySem.W.kitOne K (.type "str") (.ref C) = some false) (h5 : PySem.W.kitOne K (.type "list") (.ref C) = some false) (h6 : PySem.W.kitOne K (.type "tuple") (.ref C) = some false) (h7 : PySem.W.kitOne K (.type "dict") (.ref C) = some false) : NoInst K C := fun d => by
  cases d <;> assumption
theorem call_isiN {K : PySem.W.Frag} {C : Addr} (hK : X.K = K) (hC : NoInst K C) : CallR X (.builtin "isinstance") (fun xs H Q => ∃ v d, xs = [v, .ref C] ∧ Aq K H v d ∧ Q (.bl false) H) := by
  subst hK
  intro pins s σ H xs us Q I r h
  obtain ⟨v, d, rfl, hd, q⟩ := h
  exact call_isi pins s σ H _ us Q I r ⟨v, .ref C, _, _, _, rfl, .own C, aq_ty hd, hC d, q⟩
end
theorem isB_tup {d : PyData} : isB "tuple" d = true ↔ ∃ ds, d = .tuple ds := by
  cases d <;> simp [isB, isS, tyN]
theorem isB_int {d : PyData} : isB "int" d = true ↔ (∃ i, d = .int i) ∨ ∃ b, d = .bool b := by
  cases d <;> simp [isB, isS, tyN]
theorem isB_bool {d : PyData} : isB "bool" d = true ↔ ∃ b, d = .bool b := by
  cases d <;> simp [isB, isS, tyN]
/-- an int that is no bool -/
def isIntD : PyData → Bool
  | .int _ => true
  | _ => false
def betD (d : PyData) (l m : Int) : Bool := match d with
  | .int i => decide (l ≤ i) && decide (i ≤ m)
  | _ => false
/-! ## displays of constants -/
def mapO (f : Expr → Option PyData) : List Expr → Option (List PyData)
  | [] => some []
  | e :: es => match f e, mapO f es with
    | some d, some ds => some (d :: ds)
    | _, _ => none
def constE : Nat → Expr → Option PyData
  | 0, _ => none
  | _ + 1, .Constant .none _ _ => some .none
  | _ + 1, .Constant (.bool b) _ _ => some (.bool b)
  | _ + 1, .Constant (.int i) _ _ => some (.int i)
  | _ + 1, .Constant (.str x) _ _ => some (.str x)
  | _ + 1, .UnaryOp .USub (.Constant (.int i) _ _) _ => some (.int (-i))
  | _ + 1, .BinOp (.Constant (.int a) _ _) .Pow (.Constant (.int b) _ _) _ => if 0 ≤ b ∧ b ≤ 18 ∧ a = 10 then some (.int (a ^ b.toNat)) else none
  | n + 1, .Tuple es _ _ => if es.length ≤ 1000 then (mapO (constE n) es).map .tuple else none
  | n + 1, .List es _ => if es.length ≤ 1000 then (mapO (constE n) es).map .list else none
  | _, _ => none
def constD (n : Nat) : Expr → Option PyData
  | .Dict [] [] _ => some (.dict [])
  | .Dict [some (.Constant (.int k) _ _)] [.Constant (.int v) _ _] _ => some (.dict [(.int k, .int v)])
  | e => constE n e
theorem PE.imp {X : Cx} {e : Expr} {t t' : TE} (h : PE X e t) (i : ∀ σ H Q, t' σ H Q → t σ H Q) : PE X e t' := ⟨fun pins s σ H Q I q => h.run pins s σ H Q I (i _ _ _ q)⟩
theorem same_refl (H : Hp) : Same H H := fun _ _ h => h
/-- what is new since H -/
def nw (H H' : Hp) : Hp := fun b => match H b with
  | none => H' b
  | some _ => none
/-- all but what stands at p -/
def wo (p : Addr) (H : Hp) : Hp := fun b => if b = p then none else H b
theorem nw_none {H H' : Hp} {b : Addr} (h : H b = none) : nw H H' b = H' b := by unfold nw; rw [h]
theorem nw_some {H H' : Hp} {b : Addr} {o : HO} (h : nw H H' b = some o) : H b = none ∧ H' b = some o := by
  unfold nw at h
  rcases z : H b with _ | u
  · rw [z] at h; exact ⟨rfl, h⟩
  · rw [z] at h; exact nomatch h
theorem nw_same {H H1 H2 : Hp} (e : Same H1 H2) : Same (nw H H1) (nw H H2) := fun b o h => by
  obtain ⟨h1, h2⟩ := nw_some h
  rw [nw_none h1]; exact e _ _ h2
theorem nw_left {H H1 H2 : Hp} (e : Same H H1) : Same (nw H1 H2) (nw H H2) := fun b o h => by
  obtain ⟨h1, h2⟩ := nw_some h
  have : H b = none := by
    rcases z : H b with _ | u
    · rfl
    · rw [e _ _ z] at h1; exact nomatch h1
  rw [nw_none this]; exact h2
theorem nw_sub {H H' : Hp} : Same (nw H H') H' := fun b o h => (nw_some h).2
theorem wo_some {p b : Addr} {H : Hp} {o : HO} (h : wo p H b = some o) : b ≠ p ∧ H b = some o := by
  unfold wo at h
  by_cases z : b = p
  · rw [if_pos z] at h; exact nomatch h
  · rw [if_neg z] at h; exact ⟨z, h⟩
theorem wo_ne {p b : Addr} {H : Hp} (h : b ≠ p) : wo p H b = H b := by unfold wo; rw [if_neg h]
theorem wo_sub {p : Addr} {H : Hp} : Same (wo p H) H := fun b o h => (wo_some h).2
theorem wo_but {p : Addr} {H H' : Hp} (e : But p H H') : Same (wo p H) (wo p H') := fun b o h => by
  obtain ⟨h1, h2⟩ := wo_some h
  rw [wo_ne h1]; exact e _ _ h1 h2
theorem wo_same {p : Addr} {H H' : Hp} (e : Same H H') : Same (wo p H) (wo p H') := fun b o h => by
  obtain ⟨h1, h2⟩ := wo_some h
  rw [wo_ne h1]; exact e _ _ h2
theorem nw_wo {p : Addr} {H H' : Hp} {o : HO} (h : H p = some o) : Same (nw H H') (wo p H') := fun b u g => by
  obtain ⟨h1, h2⟩ := nw_some g
  rw [wo_ne (fun z => by rw [z, h] at h1; exact nomatch h1)]; exact h2
theorem same_none {H H' : Hp} (e : Same H H') {b : Addr} (h : H' b = none) : H b = none := by
  rcases z : H b with _ | u
  · rfl
  · rw [e _ _ z] at h; exact nomatch h
def tData (K : PySem.W.Frag) (d : PyData) : TE := fun _ H Q => ∀ H' v, Same H H' → Dp K (nw H H') v d → Q v H'
def tDatas (K : PySem.W.Frag) (ds : List PyData) : TA := fun _ H Q => ∀ H' vs, Same H H' → DpAll K (nw H H') vs ds → Q vs H'
theorem constE_star {n : Nat} {e : Expr} {d : PyData} (h : constE n e = some d) : ∀ (es : List Expr) (env : Env), starEach (e :: es) env = (false, eval e env) :: starEach es env := by
  intro es env
  cases e with
  | Starred v p => cases n <;> simp [constE] at h
  | _ => rfl
theorem constE_ok {X : Cx} : ∀ (n : Nat) (e : Expr) (d : PyData), constE n e = some d → PE X e (tData X.K d) := by
  intro n
  induction n with
  | zero => intro e d h; exact nomatch h
  | succ n ih =>
    have big : 1000 ≤ sizeLine := by rw [sizeLine_eq]; decide
    have all : ∀ (es : List Expr) (ds : List PyData), mapO (constE n) es = some ds → PA X es (tDatas X.K ds) ∧ ds.length = es.length := by
      intro es
      induction es with
      | nil =>
        intro ds h
        cases h
        exact ⟨⟨fun pos pins s σ H Q I h => pa_nil.run pos pins s σ H Q I (h H [] (same_refl H) .nil)⟩, rfl⟩
      | cons e es ihe =>
        intro ds h
        unfold mapO at h
        split at h
        · rename_i d ds' h1 h2
          cases h
          obtain ⟨g1, g2⟩ := ihe ds' h2
          refine ⟨⟨fun pos pins s σ H Q I h => (pa_cons (ih e d h1) g1 (constE_star h1 _ _)).run pos pins s σ H Q I ?_⟩, by rw [List.length_cons, List.length_cons, g2]⟩
          exact fun H1 v e1 hv => fun H2 vs e2 hvs => h H2 (v :: vs) (e1.trans e2) (.cons (Dp.same (nw_same e2) hv) (DpAll.same (nw_left e1) hvs))
        · exact nomatch h
    intro e d h
    unfold constE at h
    split at h
    · exact absurd ‹_› (by simp)
    · cases h; exact PE.imp pe_non fun σ H Q q => q H _ (same_refl H) .non
    · cases h; exact PE.imp pe_bl fun σ H Q q => q H _ (same_refl H) (.bl _)
    · cases h; exact PE.imp pe_int fun σ H Q q => q H _ (same_refl H) (.int _)
    · cases h; exact PE.imp pe_str fun σ H Q q => q H _ (same_refl H) (.str _)
    · cases h; exact PE.imp (pe_un un_neg pe_int) fun σ H Q q => ⟨_, rfl, q H _ (same_refl H) (.int _)⟩
    · rename_i a j1 p1 b j2 p2 p3 m hm
      split at h
      · rename_i hc
        cases h
        obtain ⟨h1, h2, rfl⟩ := hc
        exact PE.imp (pe_op op_pow pe_int pe_int) fun σ H Q q => ⟨_, _, rfl, rfl, ⟨h1, by omega, by decide⟩, q H _ (same_refl H) (.int _)⟩
      · exact nomatch h
    · rename_i n' es k p hn
      cases hn
      split at h
      · rename_i hl
        obtain ⟨ds, h1, rfl⟩ := Option.map_eq_some_iff.mp h
        obtain ⟨g1, g2⟩ := all es ds h1
        refine PE.imp (pe_tup g1) fun σ H Q q => ?_
        intro H1 vs e1 hvs
        refine ⟨by have := DpAll.len hvs; omega, fun t nt => q _ _ (e1.trans (same_new nt)) (.tup (.of ((nw_none (same_none e1 nt)).trans upd_same)) (DpAll.same (nw_same (same_new nt)) hvs))⟩
      · exact nomatch h
    · rename_i n' es p hn
      cases hn
      split at h
      · rename_i hl
        obtain ⟨ds, h1, rfl⟩ := Option.map_eq_some_iff.mp h
        obtain ⟨g1, g2⟩ := all es ds h1
        refine PE.imp (pe_lst g1) fun σ H Q q => ?_
        intro H1 vs e1 hvs
        refine ⟨by have := DpAll.len hvs; omega, fun t nt => q _ _ (e1.trans (same_new nt)) (.lst (.of ((nw_none (same_none e1 nt)).trans upd_same)) (DpAll.same (nw_same (same_new nt)) hvs))⟩
      · exact nomatch h
    · exact nomatch h
/-! ### any constant, a list of them -/
def tAny (K : PySem.W.Frag) : TE := fun _ H Q => ∀ H' v, Same H H' → AnyV K (nw H H') v → Q v H'
def tAnys (K : PySem.W.Frag) (n : Nat) : TA := fun _ H Q => ∀ H' vs, Same H H' → AllAny K (nw H H') vs → vs.length = n → Q vs H'
def okC (e : Expr) : Bool := match constD 12 e with
  | some d => goodB d
  | none => false
theorem okC_star {e : Expr} (h : okC e = true) : ∀ (es : List Expr) (env : Env), starEach (e :: es) env = (false, eval e env) :: starEach es env := by
  intro es env
  cases e with
  | Starred v p => simp [okC, constD, constE] at h
  | _ => rfl
theorem pe_any {X : Cx} {e : Expr} (h : okC e = true) : PE X e (tAny X.K) := by
  unfold okC at h
  split at h
  · rename_i d hd
    have hg := good_by h
    unfold constD at hd
    split at hd
    · cases hd
      refine PE.imp pe_dnewK fun σ H Q q => ?_
      exact fun p np => q _ _ (same_new np) ⟨_, .dic ((nw_none np).trans upd_same) .no, hg⟩
    · rename_i ki j1 p1 vi j2 p2 p3
      cases hd
      refine PE.imp (pe_disp (pps_cons pe_int pe_int pps_nil) rfl rfl (fun z => nomatch z) (by show 1 ≤ 15; decide)) fun σ H Q q => ?_
      intro p np
      refine ⟨upd_same, [(.inl ki, .int vi)], rfl, by show 1 ≤ 15; decide, ?_⟩
      have e2 : Same H (L2.upd (L2.upd H p (.dK [])) p (.dK (mergeK [] [(.inl ki, .int vi)]))) := fun b o z => by
        rw [upd_ne (ne_of_none z np), upd_ne (ne_of_none z np)]; exact z
      exact q _ _ e2 ⟨_, .dic ((nw_none np).trans upd_same) (.one (.int _)), hg⟩
    · exact PE.imp (constE_ok 12 e d hd) fun σ H Q q => fun H' v e' hv => q H' v e' ⟨d, .data hv, hg⟩
  · exact nomatch h
theorem pa_consts {X : Cx} : ∀ (es : List Expr), es.all okC = true → PA X es (tAnys X.K es.length)
  | [], _ => ⟨fun pos pins s σ H Q I h => pa_nil.run pos pins s σ H Q I (h H [] (same_refl H) .nil rfl)⟩
  | e :: es, h => by
    rw [List.all_cons, Bool.and_eq_true] at h
    refine ⟨fun pos pins s σ H Q I q => (pa_cons (pe_any h.1) (pa_consts es h.2) (okC_star h.1 _ _)).run pos pins s σ H Q I ?_⟩
    exact fun H1 v e1 hv => fun H2 vs e2 hvs hl => q H2 (v :: vs) (e1.trans e2) (.cons (hv.same (nw_same e2)) (hvs.same (nw_left e1))) (congrArg (· + 1) hl)
/-- a list of constants -/
def tAnyL (K : PySem.W.Frag) (n : Nat) : TE := fun _ H Q => ∀ H' l vs, Same H H' → H l = none → H' l = some (.lst vs) → AllAny K (nw H H') vs → vs.length = n → Q (.ref l) H'
theorem pe_anyL {X : Cx} {es : List Expr} {p : Pos} {n : Nat} (h : es.all okC = true) (hn : es.length = n) (hs : n ≤ 1000) : PE X (.List es p) (tAnyL X.K n) := by
  refine PE.imp (pe_lst (pa_consts es h)) fun σ H Q q => ?_
  intro H1 vs e1 hvs hl
  have big : 1000 ≤ sizeLine := by rw [sizeLine_eq]; decide
  exact ⟨by omega, fun l nl => q _ l vs (e1.trans (same_new nl)) (same_none e1 nl) upd_same (hvs.same (nw_same (same_new nl))) (by omega)⟩
end Sg

set_option Elab.async false
set_option linter.all false
set_option maxRecDepth 100000
set_option maxHeartbeats 4000000
namespace Sg
open PySem PySem.Spec PyProof.Rows L2
/-! ## defs that are handed an exception, in an except suite -/
/-- p: the exception's place and object -/
structure FnE (P : Program) (w : World) (K : PySem.W.Frag) (mg : Str → Option Value) (base : Heap) (k : Nat) (f : Addr) (fd : FuncData) (ps : List Str) (sp : Addr × Obj → Sp) : Prop where
  arity : ∀ p vs H Q, sp p vs H Q E0 → vs.length = ps.length
  go : ∀ (A : Around) (outer : List Env) (s : Shared) (H : Hp) (args : Args) (us : List Value) (vs : List V) (Q : VK) (p : Addr × Obj),
    L2H.RoomH k A → L2H.PinOk outer H s p → Env0 P w K mg base A outer s H → BindsTo s fd args (ps.zip us) → Vals vs us → sp p vs H Q E0 →
    codeAny (model P w) A (.call (.ref f) args) (CR CX0 outer P w H s Q E0) s
section
variable {P : Program} {w : World} {K : PySem.W.Frag} {mg : Str → Option Value} {base : Heap} {k : Nat} {f : Addr}
variable {fd : FuncData} {ps : List Str} {sp : Addr × Obj → Sp}
theorem FnE.mono {j : Nat} (F : FnE P w K mg base j f fd ps sp) (h : j ≤ k) : FnE P w K mg base k f fd ps sp :=
  ⟨F.arity, fun A outer s H args us vs Q p hr => F.go A outer s H args us vs Q p (hr.mono h)⟩
theorem fnE_mk {x qual : Str} {st : Stmt} {N : List Str} (F : Fun K x qual st f fd)
    (S : FnScope N ps (defScope st)) (arity : ∀ p vs H Q, sp p vs H Q E0 → vs.length = ps.length)
    (hbody : ∀ (cdv : Value) (A : Around) (outer : List Env) (s : Shared) (H : Hp) (vs : List V) (Q : VK) (p : Addr × Obj),
      L2H.RoomH k (A.deeper (envOfC qual (defScope st) s.heap.objs.size f cdv)) → sp p vs H Q E0 →
      ∃ t, PSs (L2H.cxH CX0 P w K mg base N qual (defScope st) f cdv A outer s H E0 p) (defBody st) t ∧
        t { nx := fun _ H' => Q .non H', rt := Q } (start N vs) H) :
    FnE P w K mg base (k + 1) f fd ps sp := by
  obtain ⟨oc, od, kV, doc, pm, an, cdv, ct, osl, rfl, lk, hcd⟩ := F.ex
  refine ⟨arity, ?_⟩
  intro A outer s H args us vs Q p hr hpin e0 hb r hsp
  have hl := arity _ _ _ _ hsp
  have hk0 : ∀ b o, base.get? b = some o → s.heap.get? b = some o := fun b o e => (e0.bs b o e).1
  have KX : K.In s.heap := e0.mod.kin.keeps hk0
  have lim : s.heap.NoLimit := e0.mod.nolimit.keeps hk0
  refine codeAny_call_function hr.depth (KX _ _ lk) rfl S.co S.gen rfl (PySem.W.codeRec_of KX hcd) ?_
  refine hb _ _ _ _ (wpAny_newFunctionEnv_cells S.kind ?_ ?_)
  · rintro ⟨n, v⟩ hy
    have hn := S.par n (List.of_mem_zip hy).1
    cases hn with
    | inl q => exact .inl q
    | inr q => exact .inr ⟨q, PySem.W.cellsFrom_some _ _ _ (.inl q)⟩
  · intro env he s1 x
    subst he
    refine ⟨lim.keeps x.toInCall.keep, ?_⟩
    apply codeAny_func
    obtain ⟨t, ht, hq⟩ := hbody cdv A outer s H vs Q p (hr.deeper _) hsp
    have I := L2H.inv_startH (CX := CX0) (E := E0) (cd := cdv) (qual := qual) (f := f) S hpin e0 hl r x
    refine wpAny_mono (ht.run [] s1 (start N vs) H _ I hq) ?_ (fun e s' hs => hs)
    intro fl s' hs
    cases fl with
    | ret u =>
      obtain ⟨v, σ', H', J, rv, q⟩ := hs
      exact ⟨v, H', J.os, J.bare, J.base, J.hok, rv, q⟩
    | next =>
      obtain ⟨σ', H', J, q⟩ := hs
      exact ⟨V.non, H', J.os, J.bare, J.base, J.hok, rfl, q⟩
    | brk => obtain ⟨_, _, _, q⟩ := hs; exact q.elim
    | cont => obtain ⟨_, _, _, q⟩ := hs; exact q.elim
end
section
variable {X : Cx} {k : Nat} {f : Addr} {fd : FuncData} {ps : List Str} {sp : Addr × Obj → Sp}
variable {x : Str} {q pos : Pos} {e : Expr} {es : List Expr} {t : TA} {p : Addr × Obj}
/-- f(e, ..) of such a def, p the exception that is handed over -/
theorem pe_callE (F : FnE X.prog X.w X.K X.mg X.base k f fd ps sp) (hp : p ∈ X.pn) (hr : L2H.RoomH k X.A)
    (hg : Gl X x) (hm : X.mg x = some (.ref f)) (hk : PySem.W.keepIn X.K (.ref f) = true) (hb : Binds X.K fd ps [])
    (ha : PA X (e :: es) t) (hdb : (x == ("__debug__" : Str)) = false := by decide)
    (he : starEach (e :: es) X.env = (false, eval e X.env) :: starEach es X.env := by rfl)
    (hpl : (backTo pos (starEach es X.env)).any (·.1) = false := by rfl) :
    PE X (.Call (.Name x q) (e :: es) [] pos) (tCall (sp p) [] E0 t) := by
  constructor
  intro pins s σ H Q I h
  refine wpAny_Call_Name_kw (ld_glob I hg hm (PySem.W.callWith_K (h₀ := X.base) I.ok.mod.kin hk ?_ he hpl) hdb)
  refine thn (ha.run pos pins s σ H _ I h) ?_
  rintro us s1 ⟨vs, H1, I1, r, q⟩
  refine ⟨I1.kIn, ?_⟩
  rw [List.append_nil] at q
  have hl : (us ++ []).length = ps.length := by rw [List.append_nil, ← r.length]; exact F.arity _ _ _ _ q
  have hbb := hb s1 us I1.kIn hl
  rw [List.append_nil] at hbb
  obtain ⟨p1, p2, p3, p4, p5⟩ := I1.pin p (List.mem_append_left _ hp)
  have hpin : L2H.PinOk X.stack H1 s1 p := ⟨p1, p2, fun hm => (List.mem_cons.mp (I1.stkSub p.1 hm)).elim p3 p4, p5⟩
  refine wpAny_call (codeAny_mono (F.go X.A X.stack s1 H1 ⟨us, []⟩ us vs Q p hr hpin I1.env0 hbb r q) ?_)
  intro r' s' hq
  match r', hq with
  | .error _, hq => exact hq.elim
  | .ok (.ret _), hq => exact I1.after hq
  | .ok .next, hq => exact hq.elim
  | .ok .brk, hq => exact hq.elim
  | .ok .cont, hq => exact hq.elim
/-- isinstance(e, c), e an exception that is known to stand there -/
theorem call_isP {K : PySem.W.Frag} {D : Addr} (hK : X.K = K) (hp : p ∈ X.pn) (C : ExcC K D) (hz : Zc (.ref D) none p.2) (hf : ∃ vs, p.2.data = .fields vs) : CallR X (.builtin "isinstance") (rIsE K D p.1) := by
  subst hK
  intro pins s σ H xs us Q I r h
  obtain ⟨c, cv, b, rfl, hcv, e, q⟩ := h
  obtain ⟨u1, u2, rfl, r1, r2⟩ := vals2 r
  cases r1
  obtain rfl := hcv _ r2
  have hget := (I.pin p (List.mem_append_left _ hp)).1
  obtain ⟨vs, hv⟩ := hf
  have J : PySem.W.InstAt s.heap p.1 p.2 D none := by
    obtain ⟨pa, ⟨oc, od, oda, osl⟩⟩ := p
    obtain ⟨h1, h2⟩ := hz
    dsimp only at h1 h2 hv
    subst h1 h2 hv
    exact ⟨hget, rfl, rfl, trivial⟩
  exact PySem.W.kia_one (PySem.W.handS_kitx_exc C.hg C.hk C.hs C.hd C.ha C.hn C.ht C.hm) I.kIn J e (fun z => nomatch z) fun tk => ⟨.bl b, H, I.tok tk, rfl, q⟩
/-- l.count(True), l a list of truths -/
theorem mt_lcountB : MtR X "list.count" (fun x xs H Q => ∃ (p : Addr) (bs : List Bool), x = .ref p ∧ xs = [.bl true] ∧ SqL X.K H p (bs.map V.bl) ∧ Q (.int (bs.count true : Nat)) H) := by
  intro pins s σ H x xs v us Q I rx rxs h
  obtain ⟨p, bs, rfl, rfl, hs, q⟩ := h
  cases rx
  obtain ⟨u, rfl, ru⟩ := rxs.one
  obtain rfl : u = Value.bool true := ru
  obtain ⟨its, rv, ⟨⟨cls, dd, data, sl⟩, n, ho, hc, hdn, hd⟩, hlen⟩ := I.list hs
  simp only at hc hd
  subst hc hd
  have fl : (bs.map V.bl).all flatV = true := by
    rw [List.all_eq_true]
    intro y hy
    obtain ⟨b, _, rfl⟩ := List.mem_map.mp hy
    rfl
  have ei : its = bs.map Value.bool := by
    clear ho hlen fl hs q hdn
    induction bs generalizing its with
    | nil => cases rv; rfl
    | cons b r ih =>
      cases rv with
      | cons a t =>
        rw [List.map_cons, ← ih _ t]
        cases a; rfl
  have ec : its.toArray.toList.countP (eqU (V.bl true)) = bs.count true := by
    rw [ei]
    show (bs.map Value.bool).countP _ = _
    rw [List.countP_map, List.count_eq_countP]
    refine List.countP_congr fun b _ => ?_
    cases b <;> simp [eqU, eqV]
  refine call_meets PySem.F.slot_list_count ⟨_, ho, rfl⟩ PySem.F.entry_list_count (PySem.F.args_list_count_2 _ _)
    (SeqAt.list_countAt p its.toArray n dd sl (.bool true) (eqU (V.bl true))) ⟨ho, fun y hy => mem_eqAt (x := V.bl true) rfl rfl rv fl y (by simpa using hy), ?_⟩
  refine ⟨.int (bs.count true : Nat), H, I.tok _, ⟨s.toks, ?_⟩, q⟩
  rw [← ec]
end
end Sg

set_option Elab.async false
set_option linter.all false
set_option maxRecDepth 100000
set_option maxHeartbeats 4000000
namespace Sg
open PySem PySem.Spec PyProof.Rows L2
/-! ## tuples whose object is told: their methods -/
def FrzT (H : Hp) (a : Addr) (xs : List V) : Prop := ∃ ob, H a = some (.frz ob (.tup xs)) ∧ ob.cls = .type "tuple" ∧ ob.dict = none
theorem FrzT.sq {K : PySem.W.Frag} {H : Hp} {a : Addr} {xs : List V} (h : FrzT H a xs) : SqT K H a xs := by
  obtain ⟨ob, h1, _⟩ := h
  exact .inl (.inr ⟨ob, h1⟩)
theorem FrzT.same {H H' : Hp} (e : Same H H') {a : Addr} {xs : List V} (h : FrzT H a xs) : FrzT H' a xs := by
  obtain ⟨ob, h1, h2⟩ := h
  exact ⟨ob, e _ _ h1, h2⟩
theorem FrzT.but {p : Addr} {H H' : Hp} (e : But p H H') {a : Addr} {xs : List V} (h : FrzT H a xs) (n : a ≠ p) : FrzT H' a xs := by
  obtain ⟨ob, h1, h2⟩ := h
  exact ⟨ob, e _ _ n h1, h2⟩
theorem call_tupleF {X : Cx} : CallR X (.type "tuple") (fun xs H Q => ∃ p ys, xs = [.ref p] ∧ SqL X.K H p ys ∧ ∀ l ob, H l = none → ob.cls = .type "tuple" → ob.dict = none → Q (.ref l) (upd H l (.frz ob (.tup ys)))) := by
  intro pins s σ H xs us Q I r h
  obtain ⟨p, ys, e, hq, q⟩ := h
  subst e
  obtain ⟨u, eu, rx⟩ := vals1 r
  subst eu
  cases rx
  obtain ⟨its, rv, pl, hz⟩ := I.list hq
  have lv := rv.length
  refine call_tuple_list pl.isList (fun h1 kp => ?_) (by rw [List.size_toArray, ← lv]; exact hz)
  have J : Inv X pins σ H { s with heap := h1 } := I.kept (t' := s.toks) kp
  have hn : (h1.push { cls := .type "tuple", data := .seq its.toArray }).get? h1.objs.size = some { cls := .type "tuple", data := .seq its.toArray } := Heap.get?_push_size _ rfl
  have hnew : ObjOk X.prog X.w (upd H h1.objs.size (.frz { cls := .type "tuple", data := .seq its.toArray } (.tup ys))) (h1.push { cls := .type "tuple", data := .seq its.toArray }) h1.objs.size (.frz { cls := .type "tuple", data := .seq its.toArray } (.tup ys)) :=
    ⟨hn, hz, its, rv, IsTup.new _ _⟩
  exact ⟨.ref h1.objs.size, _, J.laid (t' := s.toks) (fun b o z => Heap.get?_push_of_some _ z) (Nat.le_refl _) hnew, rfl, q _ _ (J.hok.fresh (Nat.le_refl _)) rfl rfl⟩
section
variable {X : Cx} {o e : Expr} {es : List Expr} {to : TE} {t : TA} {name : Str} {apos cpos : Pos} {id : String} {r : V → List V → Hp → VK → Prop}
def tBMF (r : V → List V → Hp → VK → Prop) (to : TE) (t : TA) : TE := fun σ H Q => to σ H fun x H1 => (∃ a xs, x = .ref a ∧ FrzT H1 a xs) ∧ t σ H1 fun xs H2 => r x xs H2 Q
theorem pe_bmF (pa : PlainAttrs "tuple") (slot : Slot "tuple" name id) (hty : typeOf (.builtin id) = pure (.type "method_descriptor")) (hm : MtR X id r) (ho : PE X o to) (ha : PA X (e :: es) t)
    (hbase : attributeBase o name X.env (eval o X.env) = eval o X.env := by rfl)
    (hfew : ((backTo cpos (starEach (e :: es) X.env)).all (fun x => !x.1) && (backToKw cpos (keywordEach [] X.env)).all (fun x => x.1.isSome)
      && decide ((e :: es).length + ([] : List Keyword).length + (if ([] : List Keyword).isEmpty then 0 else 1) < 30)) = true := by rfl)
    (hline : (apos.endLine == cpos.line) = true := by rfl) (hs : starEach (e :: es) X.env = (false, eval e X.env) :: starEach es X.env := by rfl) (hplain : (backTo cpos (starEach es X.env)).any (·.1) = false := by rfl) :
    PE X (.Call (.Attribute o name apos) (e :: es) [] cpos) (tBMF r to t) := by
  constructor
  intro pins s σ H Q I h
  refine wpAny_Call_method_late hbase hfew hline rfl (thn (ho.run pins s σ H _ I h) ?_)
  rintro v s1 ⟨x, H1, I1, r1, ⟨a, xs, rfl, ob, g1, g2, g3⟩, q1⟩
  cases r1
  have hget : s1.heap.get? a = some ob := (I1.hok a _ g1).1
  refine ⟨"tuple", id, pa, slot, hty, ⟨ob, hget, g2⟩, fun b eb => ?_, ?_⟩
  · cases eb
    exact ⟨ob, hget, g3⟩
  have hA := ha.run cpos pins s1 σ H1 _ I1 q1
  rw [hs] at hA ⊢
  refine Calls.callWith_builtin (by show (false || (backTo cpos (starEach es X.env)).any (·.1)) = false; rw [hplain] <;> rfl) (Calls.evalArgs_plain (thn hA ?_))
  rintro us s2 ⟨vs, H2, I2, r2, q2⟩
  exact hm pins s2 σ H2 (.ref a) vs (.ref a) us Q I2 rfl r2 q2
/-- t.count(k), of ints -/
theorem mt_tcount : MtR X "tuple.count" (fun x xs H Q => ∃ (p : Addr) (ns : List Int) (k : Int), x = .ref p ∧ xs = [.int k] ∧ SqT X.K H p (ns.map V.int) ∧ Q (.int (ns.count k : Nat)) H) := by
  intro pins s σ H x xs v us Q I rx rxs h
  obtain ⟨p, ns, k, e1, e2, hs, q⟩ := h
  subst e1 e2
  cases rx
  obtain ⟨u, eu, ru⟩ := rxs.one
  subst eu
  obtain ⟨t, et⟩ := ru
  subst et
  obtain ⟨its, rv, ⟨⟨cls, dd, data, sl⟩, ho, hc, n, hd⟩, hlen⟩ := I.tuple hs
  simp only at hc hd
  subst hc hd
  have hi := ints_of_vals rv
  have ec : its.toArray.toList.countP (eqk k) = ns.count k := eqk_count hi
  refine call_meets PySem.F.slot_tuple_count ⟨_, ho, rfl⟩ PySem.F.entry_tuple_count (PySem.F.args_tuple_count_2 _ _)
    (SeqAt.tuple_countAt p its.toArray n dd sl (.int k t) (eqk k)) ⟨ho, fun y hy => (eqk_gives hi y (by simpa using hy)).at _ _, .int (ns.count k : Nat), H, I.tok _, ⟨s.toks, ?_⟩, q⟩
  rw [← ec]
/-! ## a tuple times a number, up to 100,000 items -/
def rRepB (K : PySem.W.Frag) : R2 := fun x y H Q => ∃ l, ∃ k : Nat, ∃ xs, x = .ref l ∧ y = .int k ∧ SqT K H l xs ∧ xs ≠ [] ∧ 2 ≤ k ∧ k * xs.length ≤ 100000 ∧ ∀ p, H p = none → Q (.ref p) (upd H p (.tup (List.replicate k xs).flatten))
theorem op_repB : OpR X (binaryOp .Mult) (rRepB X.K) := by
  intro pins s σ H x y v u Q I rx ry h
  obtain ⟨l, k, xs, e1, e2, hT, hne, h1, hz, q⟩ := h
  subst e1 e2
  cases rx
  obtain ⟨t, et⟩ := ry
  subst et
  obtain ⟨its, r, ⟨⟨cls, dd, data, sl⟩, ho, hc, n, hd⟩, hs⟩ := I.tuple hT
  simp only at hc hd
  subst hc hd
  have lx : its.length = xs.length := r.length.symm
  have pos : 0 < xs.length := List.length_pos_iff.mpr hne
  have ne : its.toArray.isEmpty = false := by
    cases its with
    | nil => rw [← lx] at pos; exact absurd pos (by decide)
    | cons a b => rfl
  have sz : its.toArray.size = xs.length := by rw [List.size_toArray, lx]
  have prod : ((its.toArray.size : Nat) : Int) * (k : Nat) ≤ 100000 := by
    rw [sz, ← Int.natCast_mul, Nat.mul_comm]
    exact Int.ofNat_le.mpr hz
  have kle : k ≤ 100000 := Nat.le_trans (Nat.le_mul_of_pos_right k pos) hz
  have lim : (100000 : Nat) ≤ sizeLine := by rw [sizeLine_eq]; decide
  have flat : (List.replicate k its).flatten.length ≤ sizeLine := by
    rw [PyProof.Rows.lm_len_rep_flat, lx]
    exact Nat.le_trans hz lim
  have c0 : (decide (((k : Nat) : Int) < -(2 ^ 63)) || decide (((k : Nat) : Int) ≥ 2 ^ 63)) = false := by
    rw [decide_eq_false (by omega), decide_eq_false (by omega)]; rfl
  have c1 : (its.toArray.isEmpty || ((k : Nat) : Int) == 1) = false := by
    rw [ne, Bool.false_or]
    exact beq_eq_false_iff_ne.mpr (by omega)
  have c2 : (decide (((k : Nat) : Int) ≤ 0) || its.toArray.isEmpty) = false := by
    rw [ne, Bool.or_false]
    exact decide_eq_false (by omega)
  have c4 : Builtin.Tuple.tupleTooMany (((its.toArray.size : Nat) : Int) * (k : Nat)) = false := by
    unfold Builtin.Tuple.tupleTooMany
    refine decide_eq_false ?_
    have : ((100000 : Nat) : Int) ≤ (sizeLine : Int) := Int.ofNat_le.mpr lim
    omega
  have hmul := tuple_mulW l its.toArray n dd sl ((k : Nat) : Int) t c0 c1 c2 (by omega) c4 (by rw [size_rep, List.size_toArray]; exact flat)
  refine wpAny_binaryOp_repeat_ref (T := "tuple") (U := "int") (by decide) ⟨_, ho, rfl⟩ (fun s' => typeIs_int s' k t) noFill_tuple_mul PySem.F.fills_int_mul PySem.F.slot_int_rmul repeat_tuple PySem.F.slot_int_index.lookup
    (call_meets PySem.F.slot_int_rmul (typeIs_int s k t) PySem.F.entry_int_rmul (PySem.F.args_int_rmul_2 _ _) (int_rmul_tuple k t l its.toArray n dd sl)
      ⟨ho, rfl, ⟨_, ho, rfl⟩, call_meets PySem.F.slot_tuple_mul ⟨_, ho, rfl⟩ PySem.F.entry_tuple_mul (PySem.F.args_tuple_mul_2 _ _) hmul ⟨ho, ?_⟩⟩)
  rw [size_rep]
  have hnew : ObjOk X.prog X.w (upd H s.heap.objs.size (.tup (List.replicate k xs).flatten)) (s.heap.push { cls := .type "tuple", data := .seq (List.replicate ((k : Nat) : Int).toNat its).flatten.toArray }) s.heap.objs.size (.tup (List.replicate k xs).flatten) :=
    ⟨by rw [PyProof.Rows.lm_len_rep_flat]; exact Nat.le_trans hz lim, _, r.rep k, IsTup.new _ _⟩
  exact ⟨.ref s.heap.objs.size, _, I.laid (t' := s.toks) (fun b ob z => Heap.get?_push_of_some _ z) (Nat.le_refl _) hnew, rfl, q _ (I.hok.fresh (Nat.le_refl _))⟩
/-! ## a text times a number -/
def repS (z : Str) (n : Nat) : Str := ⟨(List.replicate n z.cps).foldl (· ++ ·) #[]⟩
theorem op_mulS : OpR X (binaryOp .Mult) (fun x y H Q => ∃ z, ∃ n : Nat, x = .str z ∧ y = .int n ∧ 2 ≤ n ∧ 2 ≤ z.length ∧ z.length * n ≤ 100000 ∧ Q (.str (repS z n)) H) := by
  intro pins s σ H x y v u Q I rx ry h
  obtain ⟨z, n, e1, e2, h1, h2, h3, q⟩ := h
  subst e1 e2
  obtain ⟨t, et⟩ := rx
  obtain ⟨t', et'⟩ := ry
  subst et et'
  have lim : (100000 : Nat) ≤ sizeLine := by rw [sizeLine_eq]; decide
  have nle : n ≤ 100000 := Nat.le_trans (Nat.le_mul_of_pos_left n (by omega)) h3
  have zle : z.length ≤ 100000 := Nat.le_trans (Nat.le_mul_of_pos_right z.length (by omega)) h3
  have ne1 : ¬ ((n : Nat) : Int) < 1 := by omega
  have no : (((n : Nat) : Int) == 1 || z.length == 0) = false := by
    rw [beq_eq_false_iff_ne.mpr (by omega), beq_eq_false_iff_ne.mpr (by omega)]; rfl
  refine SB.mul ⟨?_, fun _ _ => ?_, fun _ _ => ?_⟩ fun t' k => ?_
  · rw [decide_eq_false (by omega), decide_eq_false (by omega)]; rfl
  · have : ((z.length : Nat) : Int) ≤ (2 ^ 63 - 1) / ((n : Nat) : Int) := by
      rw [Int.le_ediv_iff_mul_le (by omega), ← Int.natCast_mul]
      exact Int.le_trans (Int.ofNat_le.mpr h3) (by decide)
    omega
  · unfold Builtin.Str.tooLong
    refine decide_eq_false ?_
    rw [Int.toNat_natCast]
    omega
  · have e : Txt.mul z ((n : Nat) : Int) = repS z n := by
      unfold Txt.mul
      rw [if_neg ne1, no, Int.toNat_natCast]; rfl
    rw [e]
    exact ⟨.str (repS z n), H, I.tok _, ⟨_, rfl⟩, q⟩
end
end Sg

set_option Elab.async false
set_option linter.all false
set_option maxRecDepth 100000
set_option maxHeartbeats 4000000
namespace Sg
open PySem PySem.Spec PyProof.Rows L2
/-! ## rows of data that may be shown -/
structure SmL (k : Nat) (ds : List PyData) : Prop where
  sh : PyData.showableAll ds = true
  dp : PyData.depthAll ds ≤ 38
  lv : PyData.leavesShortAll 24 ds = true
  bk : PyData.bulkAll ds ≤ k
def smB (k : Nat) (ds : List PyData) : Bool := PyData.showableAll ds && decide (PyData.depthAll ds ≤ 38) && PyData.leavesShortAll 24 ds && decide (PyData.bulkAll ds ≤ k)
theorem smL_by {k : Nat} {ds : List PyData} (h : smB k ds = true) : SmL k ds := by
  unfold smB at h
  simp only [Bool.and_eq_true, decide_eq_true_eq] at h
  exact ⟨h.1.1.1, h.1.1.2, h.1.2, h.2⟩
theorem SmL.le {k m : Nat} {ds : List PyData} (h : SmL k ds) (e : k ≤ m) : SmL m ds := ⟨h.sh, h.dp, h.lv, Nat.le_trans h.bk e⟩
theorem SmL.nil : SmL 0 [] := smL_by (by decide +kernel)
theorem SmL.cons {k m : Nat} {d : PyData} {ds : List PyData} (h : SmL k [d]) (g : SmL m ds) : SmL (k + m) (d :: ds) := by
  have h1 := h.sh; have h2 := h.dp; have h3 := h.lv; have h4 := h.bk
  simp only [PyData.showableAll, PyData.depthAll, PyData.leavesShortAll, PyData.bulkAll, Bool.and_true] at h1 h2 h3 h4
  refine ⟨?_, ?_, ?_, ?_⟩
  · simp only [PyData.showableAll, h1, g.sh, Bool.and_self]
  · simp only [PyData.depthAll]; have := g.dp; omega
  · simp only [PyData.leavesShortAll, h3, g.lv, Bool.and_self]
  · simp only [PyData.bulkAll]; have := g.bk; omega
theorem SmL.uncons {k : Nat} {d : PyData} {ds : List PyData} (h : SmL k (d :: ds)) : SmL k [d] ∧ SmL k ds := by
  have h1 := h.sh; have h2 := h.dp; have h3 := h.lv; have h4 := h.bk
  simp only [PyData.showableAll, PyData.depthAll, PyData.leavesShortAll, PyData.bulkAll, Bool.and_eq_true] at h1 h2 h3 h4
  refine ⟨⟨?_, ?_, ?_, ?_⟩, h1.2, by omega, h3.2, by omega⟩
  · simp only [PyData.showableAll, h1.1, Bool.and_self]
  · simp only [PyData.depthAll]; omega
  · simp only [PyData.leavesShortAll, h3.1, Bool.and_self]
  · simp only [PyData.bulkAll]; omega
theorem SmL.app {k m : Nat} : ∀ {ds es : List PyData}, SmL k ds → SmL m es → SmL (k + m) (ds ++ es)
  | [], _, _, g => g.le (Nat.le_add_left _ _)
  | d :: ds, es, h, g => by
    have h1 := h.sh; have h2 := h.dp; have h3 := h.lv; have h4 := h.bk
    simp only [PyData.showableAll, PyData.depthAll, PyData.leavesShortAll, PyData.bulkAll, Bool.and_eq_true] at h1 h2 h3 h4
    have i := SmL.app (k := PyData.bulkAll ds) ⟨h1.2, by omega, h3.2, Nat.le_refl _⟩ g
    have j := SmL.cons h.uncons.1 i
    refine ⟨j.sh, j.dp, j.lv, ?_⟩
    show PyData.bulkAll (d :: (ds ++ es)) ≤ _
    simp only [PyData.bulkAll]
    have := i.bk
    omega
theorem SmL.drop {k : Nat} : ∀ {ds : List PyData} (i : Nat), SmL k ds → SmL k (ds.drop i)
  | _, 0, h => h
  | [], _ + 1, h => h
  | _ :: _, i + 1, h => SmL.drop i h.uncons.2
theorem SmL.take {k : Nat} : ∀ {ds : List PyData} (i : Nat), SmL k ds → SmL k (ds.take i)
  | _, 0, h => by rw [List.take_zero]; exact SmL.nil.le (Nat.zero_le _)
  | [], _ + 1, h => h
  | d :: ds, i + 1, h => by
    have h4 := h.bk
    simp only [PyData.bulkAll] at h4
    have u := h.uncons
    have t := SmL.take (k := PyData.bulkAll ds) i ⟨u.2.sh, u.2.dp, u.2.lv, Nat.le_refl _⟩
    have j := SmL.cons (k := PyData.bulk d + 1) ⟨u.1.sh, u.1.dp, u.1.lv, by simp only [PyData.bulkAll]; omega⟩ t
    exact j.le h4
theorem SmL.rep {k : Nat} {ds : List PyData} (h : SmL k ds) : ∀ n : Nat, SmL (n * k) (List.replicate n ds).flatten
  | 0 => SmL.nil.le (Nat.zero_le _)
  | n + 1 => by
    rw [List.replicate_succ, List.flatten_cons]
    exact (SmL.app h (SmL.rep h n)).le (by rw [Nat.add_mul, Nat.one_mul]; omega)
theorem SmL.tup {k : Nat} {ds : List PyData} (h : SmL k ds) (e : k ≤ 400000) : GoodD (.tuple ds) :=
  ⟨by simp only [PyData.showable, h.sh], by simp only [PyData.depth]; have := h.dp; omega, by simp only [PyData.leavesShort, h.lv], by simp only [PyData.bulk]; exact Nat.le_trans h.bk e⟩
theorem SmL.lst {k : Nat} {ds : List PyData} (h : SmL k ds) (e : k ≤ 400000) : GoodD (.list ds) :=
  ⟨by simp only [PyData.showable, h.sh], by simp only [PyData.depth]; have := h.dp; omega, by simp only [PyData.leavesShort, h.lv], by simp only [PyData.bulk]; exact Nat.le_trans h.bk e⟩
theorem SmL.one {d : PyData} {k : Nat} (h : GoodD d) (e : d.depth ≤ 38) (b : d.bulk + 1 ≤ k) : SmL k [d] :=
  ⟨by simp only [PyData.showableAll, h.sh, Bool.and_self], by simp only [PyData.depthAll]; omega, by simp only [PyData.leavesShortAll, h.lv, Bool.and_self], by simp only [PyData.bulkAll]; omega⟩
theorem SmL.all {ds : List PyData} (h : ∀ d ∈ ds, SmL 100 [d]) : SmL (ds.length * 100) ds := by
  induction ds with
  | nil => exact SmL.nil.le (Nat.zero_le _)
  | cons d ds ih =>
    refine (SmL.cons (h d List.mem_cons_self) (ih fun x hx => h x (List.mem_cons_of_mem _ hx))).le ?_
    rw [List.length_cons, Nat.add_mul, Nat.one_mul]; omega
def smallI : List Int := [-1, 0, 1, 2, 3, 4, 5, 6, 7, 8, 9]
theorem small_table : ∀ i ∈ smallI, smB 1 [.int i] = true := by decide +kernel
theorem mem_smallI {i : Int} (h : -1 ≤ i ∧ i ≤ 9) : i ∈ smallI := by
  have : i = -1 ∨ i = 0 ∨ i = 1 ∨ i = 2 ∨ i = 3 ∨ i = 4 ∨ i = 5 ∨ i = 6 ∨ i = 7 ∨ i = 8 ∨ i = 9 := by omega
  unfold smallI
  rcases this with rfl | rfl | rfl | rfl | rfl | rfl | rfl | rfl | rfl | rfl | rfl <;> simp
theorem smL_ints {ns : List Int} (h : ∀ x ∈ ns, -1 ≤ x ∧ x ≤ 9) : SmL ns.length (iD ns) := by
  induction ns with
  | nil => exact SmL.nil
  | cons n ns ih =>
    refine (SmL.cons (smL_by (small_table n (mem_smallI (h n List.mem_cons_self)))) (ih fun x hx => h x (List.mem_cons_of_mem _ hx))).le ?_
    rw [List.length_cons]; omega
theorem DpAll.drop {K : PySem.W.Frag} {H : Hp} : ∀ {vs : List V} {ds : List PyData} (i : Nat), DpAll K H vs ds → DpAll K H (vs.drop i) (ds.drop i)
  | _, _, 0, h => h
  | _, _, _ + 1, .nil => .nil
  | _, _, i + 1, .cons _ r => DpAll.drop i r
theorem DpAll.take {K : PySem.W.Frag} {H : Hp} : ∀ {vs : List V} {ds : List PyData} (i : Nat), DpAll K H vs ds → DpAll K H (vs.take i) (ds.take i)
  | _, _, 0, h => by rw [List.take_zero, List.take_zero]; exact .nil
  | _, _, _ + 1, .nil => .nil
  | _, _, i + 1, .cons a r => .cons a (DpAll.take i r)
theorem DpAll.rep {K : PySem.W.Frag} {H : Hp} {vs : List V} {ds : List PyData} (h : DpAll K H vs ds) : ∀ n, DpAll K H (List.replicate n vs).flatten (List.replicate n ds).flatten
  | 0 => .nil
  | n + 1 => by
    rw [List.replicate_succ, List.replicate_succ, List.flatten_cons, List.flatten_cons]
    exact DpAll.app h (DpAll.rep h n)
theorem DpAll.cut {K : PySem.W.Frag} {H : Hp} {vs : List V} {ds : List PyData} (h : DpAll K H vs ds) {k : Nat} (g : SmL k ds) (lo hi : Option Int) : ∃ es, DpAll K H (cutV vs lo hi) es ∧ SmL k es := by
  unfold cutV
  exact ⟨_, DpAll.take _ (DpAll.drop _ h), SmL.take _ (SmL.drop _ g)⟩
/-- a text, again and again -/
theorem repS_list (z : Str) (n : Nat) : (repS z n).cps.toList = (List.replicate n z.cps.toList).flatten := by
  unfold repS
  have : ∀ (l : List (Array Nat)) (acc : Array Nat), (l.foldl (· ++ ·) acc).toList = acc.toList ++ (l.map (·.toList)).flatten := by
    intro l
    induction l with
    | nil => intro acc; simp
    | cons a l ih => intro acc; rw [List.foldl_cons, ih]; simp
  rw [this]
  simp
theorem smL_rep {z : Str} {n : Nat} (h : z.cps.toList.all (fun c => decide (c < 16 ^ 8)) = true) : SmL (n * z.length + 1) [.str (repS z n)] := by
  have e := repS_list z n
  refine ⟨by simp only [PyData.showableAll, PyData.showable, Bool.and_self], by simp only [PyData.depthAll, PyData.depth]; omega, ?_, ?_⟩
  · simp only [PyData.leavesShortAll, PyData.leavesShort, Bool.and_true]
    rw [e, List.all_eq_true]
    intro c hc
    obtain ⟨l, hl, hcl⟩ := List.mem_flatten.mp hc
    rw [List.eq_of_mem_replicate hl] at hcl
    exact List.all_eq_true.mp h c hcl
  · simp only [PyData.bulkAll, PyData.bulk]
    have : (repS z n).cps.size = n * z.length := by
      rw [← Array.length_toList, e, List.length_flatten]
      simp [Str.length]
    omega
theorem mt_tcountK {X : Cx} {K : PySem.W.Frag} (hK : X.K = K) : MtR X "tuple.count" (fun x xs H Q => ∃ (p : Addr) (ns : List Int) (k : Int), x = .ref p ∧ xs = [.int k] ∧ SqT K H p (ns.map V.int) ∧ Q (.int (ns.count k : Nat)) H) := by
  subst hK; exact mt_tcount
/-! ## l != [] -/
theorem op_neNil {X : Cx} (hu : X.A.units < cLine) : OpR X (compareOp .NotEq) (fun x y H Q => ∃ a b xs, x = .ref a ∧ y = .ref b ∧ SqL X.K H a xs ∧ SqL X.K H b [] ∧ Q (.bl (!xs.isEmpty)) H) := by
  intro pins s σ H x y v u Q I rx ry h
  obtain ⟨a, b, xs, rfl, rfl, h1, h2, q⟩ := h
  cases rx
  cases ry
  obtain ⟨its, rv, pl, hz⟩ := I.list h1
  obtain ⟨its2, rv2, pl2, hz2⟩ := I.list h2
  obtain rfl : its2 = [] := by cases rv2; rfl
  cases xs with
  | nil =>
    obtain rfl : its = [] := by cases rv; rfl
    exact SeqAt.RcNeAt.lists (e := fun _ => true) pl.isList pl2.isList rfl hu (fun j h1 _ => absurd h1 (by simp)) _ _ _ _ ⟨.bl _, H, I, rfl, q⟩
  | cons x xs =>
    obtain ⟨y, its', rfl⟩ : ∃ y its', its = y :: its' := by cases rv with | cons a b => exact ⟨_, _, rfl⟩
    exact SeqAt.RcNeAt.lists_lengths pl.isList pl2.isList (by simp) hu _ _ _ _ ⟨.bl _, H, I, rfl, q⟩
end Sg

set_option Elab.async false
set_option linter.all false
set_option maxRecDepth 100000
set_option maxHeartbeats 4000000
namespace Sg
open PySem PySem.Spec PyProof.Rows L2
/-! ## rows of expressions, each of its own making -/
def tE (S : L2.St → Hp → Prop) (R : Hp → V → Prop) : TE := fun σ H Q => S σ H ∧ ∀ H' v, Same H H' → R H' v → Q v H'
def tEs (S : L2.St → Hp → Prop) (R : Hp → V → Prop) (n : Nat) : TA := fun σ H Q => S σ H ∧ ∀ H' vs, Same H H' → (∀ v ∈ vs, R H' v) → vs.length = n → Q vs H'
section
variable {X : Cx} {S : L2.St → Hp → Prop} {R : Hp → V → Prop}
theorem pa_e0 : PA X [] (tEs S R 0) := ⟨fun pos pins s σ H Q I h => pa_nil.run pos pins s σ H Q I (h.2 H [] (same_refl H) (fun v hv => nomatch hv) rfl)⟩
theorem pa_e {e : Expr} {es : List Expr} {n : Nat} (stS : ∀ σ H H', Same H H' → S σ H → S σ H') (stR : ∀ H H' v, Same H H' → R H v → R H' v) (h : PE X e (tE S R)) (g : PA X es (tEs S R n))
    (he : starEach (e :: es) X.env = (false, eval e X.env) :: starEach es X.env := by rfl) : PA X (e :: es) (tEs S R (n + 1)) := by
  refine ⟨fun pos pins s σ H Q I q => (pa_cons h g he).run pos pins s σ H Q I ?_⟩
  refine ⟨q.1, fun H1 v e1 hv => ⟨stS _ _ _ e1 q.1, fun H2 vs e2 hvs hl => q.2 H2 (v :: vs) (e1.trans e2) (fun u hu => ?_) (congrArg (· + 1) hl)⟩⟩
  rcases List.mem_cons.mp hu with z | z
  · rw [z]; exact stR _ _ _ e2 hv
  · exact hvs u z
theorem PE.e {e : Expr} {t : TE} (h : PE X e t) (i : ∀ σ H Q, S σ H → (∀ H' v, Same H H' → R H' v → Q v H') → t σ H Q) : PE X e (tE S R) := PE.imp h fun σ H Q q => i σ H Q q.1 q.2
/-! ## tuples: + and slices, any of them -/
theorem op_catB {K : PySem.W.Frag} (hK : X.K = K) : OpR X (binaryOp .Add) (fun x y H Q => ∃ a b xs ys, x = .ref a ∧ y = .ref b ∧ SqT K H a xs ∧ SqT K H b ys ∧ xs.length + ys.length ≤ sizeLine ∧ ∀ H' c, Same H H' → SqT K H' c (xs ++ ys) → Q (.ref c) H') := by
  subst hK
  intro pins s σ H x y v u Q I rx ry h
  obtain ⟨a, b, xs, ys, rfl, rfl, ha, hb, hz, q⟩ := h
  refine op_catA pins s σ H _ _ v u Q I rx ry ⟨a, b, xs, ys, rfl, rfl, ha, hb, hz, fun e => q H b (same_refl H) (by rw [e]; exact hb), fun _ e => q H a (same_refl H) (by rw [e, List.append_nil]; exact ha), fun _ _ p np => q _ p (same_new np) (.of upd_same)⟩
theorem cutV_whole {xs : List V} {lo hi : Option Int} (h : HT.sIx xs.length 0 lo = 0 ∧ HT.sIx xs.length xs.length hi = xs.length) : cutV xs lo hi = xs := by
  unfold cutV
  rw [h.1, h.2, List.drop_zero, Nat.sub_zero, List.take_length]
theorem sl_tupB {K : PySem.W.Frag} (hK : X.K = K) : SlR X (fun x lo hi H Q => ∃ a xs, x = .ref a ∧ SqT K H a xs ∧ ∀ H' b, Same H H' → SqT K H' b (cutV xs lo hi) → Q (.ref b) H') := by
  subst hK
  intro pins s σ H x v vl vu lo hi sl Q I rx hs pl pu h
  obtain ⟨a, xs, rfl, hx, q⟩ := h
  exact sl_tupA pins s σ H _ v vl vu lo hi sl Q I rx hs pl pu ⟨a, xs, rfl, hx, fun hw => q H a (same_refl H) (by rw [cutV_whole hw]; exact hx), fun _ p np => q _ p (same_new np) (.of upd_same)⟩
end
theorem sq_wo {K : PySem.W.Frag} {H : Hp} {p a : Addr} {ys xs : List V} (hp : H p = some (.lst ys)) (h : SqT K H a xs) : SqT K (wo p H) a xs := by
  rcases h with (h | ⟨o, h⟩) | h
  · exact .inl (.inl (by rw [wo_ne (ne_of h hp fun z => nomatch z)]; exact h))
  · exact .inl (.inr ⟨o, by rw [wo_ne (ne_of h hp fun z => nomatch z)]; exact h⟩)
  · exact .inr h
theorem PenAt.wo {K : PySem.W.Frag} {H : Hp} {p a : Addr} {xs : List V} (hp : PenAt H p) (h : SqT K H a xs) : SqT K (wo p H) a xs := by
  obtain ⟨_, _, _, h1, _⟩ := hp
  exact sq_wo h1 h
/-- all but the lists of H0 -/
def wl (H0 H : Hp) : Hp := fun b => match H0 b with
  | some (.lst _) => none
  | _ => H b
theorem wl_some {H0 H : Hp} {b : Addr} {o : HO} (h : wl H0 H b = some o) : (∀ xs, H0 b ≠ some (.lst xs)) ∧ H b = some o := by
  unfold wl at h
  split at h
  · exact nomatch h
  · rename_i n
    exact ⟨fun xs z => n xs z, h⟩
theorem wl_ne {H0 H : Hp} {b : Addr} (h : ∀ xs, H0 b ≠ some (.lst xs)) : wl H0 H b = H b := by
  unfold wl
  split
  · rename_i xs z
    exact absurd z (h xs)
  · rfl
theorem wl_same {H0 H H' : Hp} (e : Same H H') : Same (wl H0 H) (wl H0 H') := fun b o h => by
  obtain ⟨h1, h2⟩ := wl_some h
  rw [wl_ne h1]; exact e _ _ h2
theorem wl_but {p : Addr} {H0 H H' : Hp} (hp : PenAt H0 p) (e : But p H H') : Same (wl H0 H) (wl H0 H') := fun b o h => by
  obtain ⟨h1, h2⟩ := wl_some h
  obtain ⟨_, _, _, hp, _⟩ := hp
  rw [wl_ne h1]; exact e _ _ (fun z => h1 _ (by rw [z]; exact hp)) h2
theorem nw_wl {H0 H : Hp} : Same (nw H0 H) (wl H0 H) := fun b o h => by
  obtain ⟨h1, h2⟩ := nw_some h
  rw [wl_ne (fun xs z => by rw [h1] at z; exact nomatch z)]; exact h2
theorem wl_wo {H0 H : Hp} {p : Addr} {xs : List V} (hp : H0 p = some (.lst xs)) : Same (wl H0 H) (wo p H) := fun b o h => by
  obtain ⟨h1, h2⟩ := wl_some h
  rw [wo_ne (fun z => h1 _ (by rw [z]; exact hp))]; exact h2
theorem wl_wo2 {H0 H : Hp} {p q : Addr} {xs ys : List V} (hp : H0 p = some (.lst xs)) (hq : H0 q = some (.lst ys)) : Same (wl H0 H) (wo q (wo p H)) := fun b o h => by
  have h1 := wl_wo hp _ _ h
  obtain ⟨h3, _⟩ := wl_some h
  rw [wo_ne (fun z => h3 _ (by rw [z]; exact hq))]; exact h1
theorem PenAt.wl {K : PySem.W.Frag} {H0 H : Hp} {p a : Addr} {xs : List V} (hp : PenAt H p) (e : But p H0 H) (h : SqT K H a xs) : SqT K (wl H0 H) a xs := by
  obtain ⟨_, _, _, hp, _⟩ := hp
  have key : ∀ {o : HO}, H a = some o → (∀ ys, o ≠ .lst ys) → ∀ ys, H0 a ≠ some (.lst ys) := fun {o} h n ys z => by
    by_cases q : a = p
    · rw [q, hp] at h; exact n _ (Option.some.inj h).symm
    · rw [e _ _ q z] at h; exact n _ (Option.some.inj h).symm
  rcases h with (h | ⟨o, h⟩) | h
  · exact .inl (.inl (by rw [wl_ne (key h fun _ z => nomatch z)]; exact h))
  · exact .inl (.inr ⟨o, by rw [wl_ne (key h fun _ z => nomatch z)]; exact h⟩)
  · exact .inr h
/-! ## short data -/
def SmV (K : PySem.W.Frag) (H : Hp) (v : V) : Prop := ∃ d, Dp K H v d ∧ SmL 100 [d]
theorem SmV.same {K : PySem.W.Frag} {H H' : Hp} (e : Same H H') {v : V} (h : SmV K H v) : SmV K H' v := by
  obtain ⟨d, h1, h2⟩ := h
  exact ⟨d, Dp.same e h1, h2⟩
def okS (e : Expr) : Bool := match constE 12 e with
  | some d => smB 100 [d]
  | none => false
theorem okS_star {e : Expr} (h : okS e = true) : ∀ (es : List Expr) (env : Env), starEach (e :: es) env = (false, eval e env) :: starEach es env := by
  intro es env
  cases e with
  | Starred v p => simp [okS, constE] at h
  | _ => rfl
theorem pe_sm {X : Cx} {e : Expr} (h : okS e = true) : PE X e (fun _ H Q => ∀ H' v, Same H H' → SmV X.K (nw H H') v → Q v H') := by
  unfold okS at h
  split at h
  · rename_i d hd
    exact PE.imp (constE_ok 12 e d hd) fun σ H Q q => fun H' v e' hv => q H' v e' ⟨d, hv, smL_by h⟩
  · exact nomatch h
def tSms (K : PySem.W.Frag) (n : Nat) : TA := fun _ H Q => ∀ H' vs, Same H H' → (∀ v ∈ vs, SmV K (nw H H') v) → vs.length = n → Q vs H'
theorem pa_sms {X : Cx} : ∀ (es : List Expr), es.all okS = true → PA X es (tSms X.K es.length)
  | [], _ => ⟨fun pos pins s σ H Q I h => pa_nil.run pos pins s σ H Q I (h H [] (same_refl H) (fun _ z => nomatch z) rfl)⟩
  | e :: es, h => by
    rw [List.all_cons, Bool.and_eq_true] at h
    refine ⟨fun pos pins s σ H Q I q => (pa_cons (pe_sm h.1) (pa_sms es h.2) (okS_star h.1 _ _)).run pos pins s σ H Q I ?_⟩
    refine fun H1 v e1 hv => fun H2 vs e2 hvs hl => q H2 (v :: vs) (e1.trans e2) (fun u hu => ?_) (congrArg (· + 1) hl)
    rcases List.mem_cons.mp hu with z | z
    · rw [z]; exact hv.same (nw_same e2)
    · exact (hvs u z).same (nw_left e1)
theorem pe_smL {X : Cx} {es : List Expr} {p : Pos} {n : Nat} (h : es.all okS = true) (hn : es.length = n) (hs : n ≤ 1000) :
    PE X (.List es p) (fun _ H Q => ∀ H' l vs, Same H H' → H l = none → H' l = some (.lst vs) → (∀ v ∈ vs, SmV X.K (nw H H') v) → vs.length = n → Q (.ref l) H') := by
  refine PE.imp (pe_lst (pa_sms es h)) fun σ H Q q => ?_
  intro H1 vs e1 hvs hl
  have big : 1000 ≤ sizeLine := by rw [sizeLine_eq]; decide
  exact ⟨by omega, fun l nl => q _ l vs (e1.trans (same_new nl)) (same_none e1 nl) upd_same (fun v hv => (hvs v hv).same (nw_same (same_new nl))) (by omega)⟩
end Sg

set_option Elab.async false
set_option linter.all false
set_option maxRecDepth 100000
set_option maxHeartbeats 4000000
namespace Sg
open PySem PySem.Spec PyProof.Rows L2
/-! ## data is kept where only tables change -/
abbrev ExtN := @LamX.ExtN
theorem ext_of {H H' : Hp} (e : Same H H') : LamX.ExtN H H' := fun b o h _ => e b o h
theorem ext_tup {K : PySem.W.Frag} {H H' : Hp} {a : Addr} {xs : List V} (e : LamX.ExtN H H') (h : SqT K H a xs) : SqT K H' a xs := by
  rcases h with (h | ⟨o, h⟩) | h
  · exact .inl (.inl (e _ _ h fun ps z => nomatch z))
  · exact .inl (.inr ⟨o, e _ _ h fun ps z => nomatch z⟩)
  · exact .inr h
theorem ext_lst {K : PySem.W.Frag} {H H' : Hp} {a : Addr} {xs : List V} (e : LamX.ExtN H H') (h : SqL K H a xs) : SqL K H' a xs := by
  rcases h with (h | ⟨o, h⟩) | h
  · exact .inl (.inl (e _ _ h fun ps z => nomatch z))
  · exact .inl (.inr ⟨o, e _ _ h fun ps z => nomatch z⟩)
  · exact .inr h
mutual
theorem Dp.ext {K : PySem.W.Frag} {H H' : Hp} (e : LamX.ExtN H H') : ∀ {v : V} {d : PyData}, Dp K H v d → Dp K H' v d
  | _, _, .non => .non
  | _, _, .bl b => .bl b
  | _, _, .int i => .int i
  | _, _, .str x => .str x
  | _, _, .lst h r => .lst (ext_lst e h) (DpAll.ext e r)
  | _, _, .tup h r => .tup (ext_tup e h) (DpAll.ext e r)
theorem DpAll.ext {K : PySem.W.Frag} {H H' : Hp} (e : LamX.ExtN H H') : ∀ {vs : List V} {ds : List PyData}, DpAll K H vs ds → DpAll K H' vs ds
  | _, _, .nil => .nil
  | _, _, .cons a r => .cons (Dp.ext e a) (DpAll.ext e r)
end
mutual
theorem Tp.ext {K : PySem.W.Frag} {H H' : Hp} (e : LamX.ExtN H H') : ∀ {v : V} {d : PyData}, Tp K H v d → Tp K H' v d
  | _, _, .int i => .int i
  | _, _, .tu h r => .tu (ext_tup e h) (TpAll.ext e r)
theorem TpAll.ext {K : PySem.W.Frag} {H H' : Hp} (e : LamX.ExtN H H') : ∀ {vs : List V} {ds : List PyData}, TpAll K H vs ds → TpAll K H' vs ds
  | _, _, .no => .no
  | _, _, .on a r => .on (Tp.ext e a) (TpAll.ext e r)
end
theorem Aq.ext {K : PySem.W.Frag} {H H' : Hp} (e : LamX.ExtN H H') {v : V} {d : PyData} (h : Aq K H v d) : Aq K H' v d := by
  cases h with
  | data h => exact .data (Dp.ext e h)
  | dic h g =>
    refine .dic (e _ _ h fun ps z => nomatch z) ?_
    cases g with
    | no => exact .no
    | one t => exact .one (Tp.ext e t)
theorem AnyV.ext {K : PySem.W.Frag} {H H' : Hp} (e : LamX.ExtN H H') {v : V} (h : AnyV K H v) : AnyV K H' v := by
  obtain ⟨d, h1, h2⟩ := h
  exact ⟨d, h1.ext e, h2⟩
theorem ext_wo {p : Addr} {H H' : Hp} (e : LamX.ExtN H H') : LamX.ExtN (wo p H) (wo p H') := fun b o h n => by
  obtain ⟨h1, h2⟩ := wo_some h
  rw [wo_ne h1]; exact e _ _ h2 n
theorem PenAt.ext {H H' : Hp} {p : Addr} (e : LamX.ExtN H H') (h : PenAt H p) : PenAt H' p := by
  obtain ⟨a, b, c, h1, h2⟩ := h
  exact ⟨a, b, c, e _ _ h1 (fun ps z => nomatch z), h2⟩
theorem FrzT.ext {H H' : Hp} (e : LamX.ExtN H H') {a : Addr} {xs : List V} (h : FrzT H a xs) : FrzT H' a xs := by
  obtain ⟨ob, h1, h2⟩ := h
  exact ⟨ob, e _ _ h1 (fun ps z => nomatch z), h2⟩
theorem ext_free {H H' : Hp} {b : Addr} (e : LamX.ExtN H H') (h : H' b = none) {o : HO} (g : H b = some o) : ∃ ps, o = .tbl ps := by
  by_cases z : ∀ ps, o ≠ .tbl ps
  · rw [e _ _ g z] at h; exact nomatch h
  · exact Classical.not_forall_not.mp fun q => z fun ps y => q ps y
theorem tabs_but {T : List (Addr × Str)} {p : Addr} {H H' : Hp} (hp : PenAt H p) (e : But p H H') (t : LamX.Tabs T H) : LamX.Tabs T H' := fun x hx => by
  obtain ⟨_, _, _, hp, _⟩ := hp
  obtain ⟨ps, h1, h2, h3⟩ := t x hx
  refine ⟨ps, e _ _ (ne_of h1 hp fun z => nomatch z) h1, h2, fun pos cv hc => ?_⟩
  obtain ⟨c, e1, e2⟩ := h3 pos cv hc
  exact ⟨c, e1, e _ _ (ne_of e2 hp fun z => by unfold LamX.CodeO at z; exact nomatch z) e2⟩
theorem tabs_same {T : List (Addr × Str)} {H H' : Hp} (e : Same H H') (t : LamX.Tabs T H) : LamX.Tabs T H' := t.ext e
/-! ## the code object of a def that makes lambdas -/
theorem tab_code {K : PySem.W.Frag} {x : Str} {f c P : Addr} {fd : FuncData} {oc : Value} {od : Option Addr} {sl : Array (Option Value)} (h1 : PySem.W.nsIn K mainGlobals x = some (some (.ref f)))
    (h2 : K.lookup f = some ⟨oc, od, .func fd, sl⟩) (h3 : PySem.W.tabIn K x = some (c, P)) : fd.code = .ref c := by
  unfold PySem.W.tabIn at h3
  rw [h1] at h3
  simp only [h2] at h3
  split at h3
  · split at h3
    · split at h3
      · have := Option.some.inj h3
        rw [Prod.mk.injEq] at this
        rw [‹fd.code = _›, this.1]
      · exact nomatch h3
    · exact nomatch h3
  · exact nomatch h3
section
variable {P : Program} {w : World} {K : PySem.W.Frag} {mg : Str → Option Value} {base : Heap} {k : Nat} {f : Addr}
variable {fd : FuncData} {ps : List Str} {sp : Sp}
theorem fnG_mkC {x qual : Str} {st : Stmt} {N : List Str} {c : Addr} (F : Fun K x qual st f fd) (hc : fd.code = .ref c)
    (S : FnScope N ps (defScope st)) (arity : ∀ vs H Q, sp vs H Q E0 → vs.length = ps.length)
    (hbody : ∀ (A : Around) (outer : List Env) (s : Shared) (H : Hp) (vs : List V) (Q : VK),
      (A.deeper (envOfC qual (defScope st) s.heap.objs.size f (.ref c))).guards = some [] →
      Room k (A.deeper (envOfC qual (defScope st) s.heap.objs.size f (.ref c))) → sp vs H Q E0 →
      ∃ t, PSs (cxOf CX0 P w K mg base N qual (defScope st) f (.ref c) A outer s H E0).nox (defBody st) t ∧
        t { nx := fun _ H' => Q .non H', rt := Q } (start N vs) H) :
    FnG P w K mg base (k + 1) f fd ps sp := by
  obtain ⟨oc, od, kV, doc, pm, an, cdv, ct, osl, rfl, lk, hcd⟩ := F.ex
  obtain rfl : cdv = .ref c := hc
  refine ⟨arity, ?_⟩
  intro A outer s H args us vs Q hg hr e0 hb r hsp
  have hl := arity _ _ _ hsp
  have hk0 : ∀ b o, base.get? b = some o → s.heap.get? b = some o := fun b o e => (e0.bs b o e).1
  have KX : K.In s.heap := e0.mod.kin.keeps hk0
  have lim : s.heap.NoLimit := e0.mod.nolimit.keeps hk0
  refine codeAny_call_function hr.depth (KX _ _ lk) rfl S.co S.gen rfl (PySem.W.codeRec_of KX hcd) ?_
  refine hb _ _ _ _ (wpAny_newFunctionEnv_cells S.kind ?_ ?_)
  · rintro ⟨n, v⟩ hy
    have hn := S.par n (List.of_mem_zip hy).1
    cases hn with
    | inl q => exact .inl q
    | inr q => exact .inr ⟨q, PySem.W.cellsFrom_some _ _ _ (.inl q)⟩
  · intro env he s1 x
    subst he
    refine ⟨lim.keeps x.toInCall.keep, ?_⟩
    apply codeAny_func
    obtain ⟨t, ht, hq⟩ := hbody A outer s H vs Q hg (hr.deeper _) hsp
    have ht' := ht.nox
    have I := inv_start (CX := CX0) (E := E0) (cd := .ref c) (qual := qual) (f := f) S hr.hd e0 hl r x
    refine wpAny_mono (ht'.run [] s1 (start N vs) H _ I hq) ?_ (fun e s' hs => hs)
    intro fl s' hs
    cases fl with
    | ret u =>
      obtain ⟨v, σ', H', J, rv, q⟩ := hs
      exact ⟨v, H', J.os, J.bare, J.base, J.hok, rv, q⟩
    | next =>
      obtain ⟨σ', H', J, q⟩ := hs
      exact ⟨V.non, H', J.os, J.bare, J.base, J.hok, rfl, q⟩
    | brk => obtain ⟨_, _, _, q⟩ := hs; exact q.elim
    | cont => obtain ⟨_, _, _, q⟩ := hs; exact q.elim
end
end Sg

set_option Elab.async false
set_option linter.all false
set_option maxRecDepth 100000
set_option maxHeartbeats 4000000
namespace Sg
open PySem PySem.Spec PyProof.Rows L2
section
variable {K : PySem.W.Frag} {D C : Addr}
theorem kit_no (h0 : PySem.W.subIn K (.ref D) (.ref D) = some true) (i : PySem.W.isClsIn K C = true) (t : PySem.W.typeIn K (.ref C) = some (.type "type")) (s : PySem.W.subIn K (.ref D) (.ref C) = some false) : PySem.W.kitOne K (.ref D) (.ref C) = some false := by
  have ne : ¬ ((Value.ref D == Value.ref C) = true) := fun z => by
    have e : Value.ref D = Value.ref C := by simpa using z
    rw [← e, h0] at s
    exact nomatch s
  unfold PySem.W.kitOne
  rw [if_neg ne]
  have i' : (PySem.W.clsIn K C).isSome = true := i
  show (if ((PySem.W.clsIn K C).isSome && PySem.W.typeIn K (.ref C) == some (.type "type")) = true then PySem.W.subIn K (.ref D) (.ref C) else none) = some false
  rw [i', t]
  exact s
theorem kit_self : PySem.W.kitOne K (.ref D) (.ref D) = some true := by unfold PySem.W.kitOne; simp
theorem kit_val (s : PySem.W.subIn K (.ref D) (.type "ValueError") = some true) : PySem.W.kitOne K (.ref D) (.type "ValueError") = some true := by
  unfold PySem.W.kitOne
  rw [if_neg (by simp)]
  show (if PySem.W.kitMeta "ValueError" = true then PySem.W.subIn K (.ref D) (.type "ValueError") else none) = some true
  rw [if_pos (by decide +kernel)]
  exact s
theorem exm_sub (h1 : PySem.W.subIn K (.ref C) (.type "BaseException") = some true) (h2 : PySem.W.isClsIn K C = true) (h3 : PySem.W.typeIn K (.ref C) = some (.type "type")) (h4 : PySem.W.subIn K (.ref D) (.ref C) = some true) :
    PySem.W.exmOne K (.ref D) (.ref C) = some true := by
  have e1 : (PySem.W.subIn K (.ref C) (.type "BaseException") == some true) = true := by rw [h1] <;> rfl
  have h2' : (PySem.W.clsIn K C).isSome = true := h2
  have e2 : ((PySem.W.clsIn K C).isSome && PySem.W.typeIn K (.ref C) == some (.type "type")) = true := by rw [h2', h3] <;> rfl
  show (if (PySem.W.subIn K (.ref C) (.type "BaseException") == some true) = true then (if ((PySem.W.clsIn K C).isSome && PySem.W.typeIn K (.ref C) == some (.type "type")) = true then PySem.W.subIn K (.ref D) (.ref C) else none) else none) = some true
  rw [if_pos e1, if_pos e2]
  exact h4
end
end Sg

set_option Elab.async false
set_option linter.all false
set_option maxRecDepth 100000
set_option maxHeartbeats 4000000
namespace Sg
open PySem PySem.Spec PyProof.Rows L2
/-! the places of the text -/
def topS (i : Nat) : Stmt := PySem.Challenge.pw_startgaps_k03_visits_and_refusals_of_wor.main.body.getD i (.Pass ⟨0, 0, 0, 0⟩)
abbrev s_TooMany_init : Stmt := inClass (topS 25) 0
theorem sc_TooMany_init : FnScope ["self", "amount", "limit"] ["self", "amount", "limit"] (defScope s_TooMany_init) := ⟨rfl, rfl, rfl, by decide +kernel, rfl, by decide +kernel, by decide +kernel⟩
abbrev s_TooMany_str : Stmt := inClass (topS 25) 1
theorem sc_TooMany_str : FnScope ["self"] ["self"] (defScope s_TooMany_str) := ⟨rfl, rfl, rfl, by decide +kernel, rfl, by decide +kernel, by decide +kernel⟩
abbrev s_TooFar_init : Stmt := inClass (topS 26) 0
theorem sc_TooFar_init : FnScope ["self", "bar", "limit"] ["self", "bar", "limit"] (defScope s_TooFar_init) := ⟨rfl, rfl, rfl, by decide +kernel, rfl, by decide +kernel, by decide +kernel⟩
abbrev s_TooFar_str : Stmt := inClass (topS 26) 1
theorem sc_TooFar_str : FnScope ["self"] ["self"] (defScope s_TooFar_str) := ⟨rfl, rfl, rfl, by decide +kernel, rfl, by decide +kernel, by decide +kernel⟩
abbrev s_TooLong_init : Stmt := inClass (topS 27) 0
theorem sc_TooLong_init : FnScope ["self", "ticks", "limit"] ["self", "ticks", "limit"] (defScope s_TooLong_init) := ⟨rfl, rfl, rfl, by decide +kernel, rfl, by decide +kernel, by decide +kernel⟩
abbrev s_TooLong_str : Stmt := inClass (topS 27) 1
theorem sc_TooLong_str : FnScope ["self"] ["self"] (defScope s_TooLong_str) := ⟨rfl, rfl, rfl, by decide +kernel, rfl, by decide +kernel, by decide +kernel⟩
abbrev s_Clash_init : Stmt := inClass (topS 28) 0
theorem sc_Clash_init : FnScope ["self", "tick", "station"] ["self", "tick", "station"] (defScope s_Clash_init) := ⟨rfl, rfl, rfl, by decide +kernel, rfl, by decide +kernel, by decide +kernel⟩
abbrev s_Clash_str : Stmt := inClass (topS 28) 1
theorem sc_Clash_str : FnScope ["self"] ["self"] (defScope s_Clash_str) := ⟨rfl, rfl, rfl, by decide +kernel, rfl, by decide +kernel, by decide +kernel⟩
abbrev s_TooSoon_init : Stmt := inClass (topS 29) 0
theorem sc_TooSoon_init : FnScope ["self", "ticks"] ["self", "ticks"] (defScope s_TooSoon_init) := ⟨rfl, rfl, rfl, by decide +kernel, rfl, by decide +kernel, by decide +kernel⟩
abbrev s_TooSoon_str : Stmt := inClass (topS 29) 1
theorem sc_TooSoon_str : FnScope ["self"] ["self"] (defScope s_TooSoon_str) := ⟨rfl, rfl, rfl, by decide +kernel, rfl, by decide +kernel, by decide +kernel⟩
abbrev s_is_int : Stmt := topS 31
theorem sc_is_int : FnScope ["thing"] ["thing"] (defScope s_is_int) := ⟨rfl, rfl, rfl, by decide +kernel, rfl, by decide +kernel, by decide +kernel⟩
abbrev s_is_between : Stmt := topS 32
theorem sc_is_between : FnScope ["thing", "least", "most"] ["thing", "least", "most"] (defScope s_is_between) := ⟨rfl, rfl, rfl, by decide +kernel, rfl, by decide +kernel, by decide +kernel⟩
abbrev s_is_work : Stmt := topS 37
theorem sc_is_work : FnScope ["thing", "item"] ["thing"] (defScope s_is_work) := ⟨rfl, rfl, rfl, by decide +kernel, rfl, by decide +kernel, by decide +kernel⟩
abbrev s_bars : Stmt := topS 38
theorem sc_bars : FnScope ["one", "other", "distance"] ["one", "other"] (defScope s_bars) := ⟨rfl, rfl, rfl, by decide +kernel, rfl, by decide +kernel, by decide +kernel⟩
abbrev s_most_visits : Stmt := topS 39
theorem sc_most_visits : FnScope ["work", "station"] ["work"] (defScope s_most_visits) := ⟨rfl, rfl, rfl, by decide +kernel, rfl, by decide +kernel, by decide +kernel⟩
abbrev s_require_work : Stmt := topS 40
theorem sc_require_work : FnScope ["thing"] ["thing"] (defScope s_require_work) := ⟨rfl, rfl, rfl, by decide +kernel, rfl, by decide +kernel, by decide +kernel⟩
abbrev s_clashes_behind : Stmt := topS 41
theorem sc_clashes_behind : FnScope ["one", "other", "distance", "here", "there"] ["one", "other", "distance"] (defScope s_clashes_behind) := ⟨rfl, rfl, rfl, by decide +kernel, rfl, by decide +kernel, by decide +kernel⟩
abbrev s_l_cell : Stmt := topS 43
theorem sc_l_cell : FnScope ["_law_script", "_law_k"] ["_law_script", "_law_k"] (defScope s_l_cell) := ⟨rfl, rfl, rfl, by decide +kernel, rfl, by decide +kernel, by decide +kernel⟩
abbrev s_l_pen : Stmt := topS 44
theorem sc_l_pen : FnScope ["_law_cell_here"] ["_law_cell_here"] (defScope s_l_pen) := ⟨rfl, rfl, rfl, by decide +kernel, rfl, by decide +kernel, by decide +kernel⟩
abbrev s_l_draw : Stmt := topS 45
theorem sc_l_draw : FnScope ["_law_pen_here", "_law_many", "_law_found", "_law_stirred"] ["_law_pen_here", "_law_many"] (defScope s_l_draw) := ⟨rfl, rfl, rfl, by decide +kernel, rfl, by decide +kernel, by decide +kernel⟩
abbrev s_l_pick : Stmt := topS 46
theorem sc_l_pick : FnScope ["_law_pen_here", "_law_some"] ["_law_pen_here", "_law_some"] (defScope s_l_pick) := ⟨rfl, rfl, rfl, by decide +kernel, rfl, by decide +kernel, by decide +kernel⟩
abbrev s_l_same : Stmt := topS 47
theorem sc_l_same : FnScope ["_law_found", "_law_due"] ["_law_found", "_law_due"] (defScope s_l_same) := ⟨rfl, rfl, rfl, by decide +kernel, rfl, by decide +kernel, by decide +kernel⟩
abbrev s_l_is_whole : Stmt := topS 48
theorem sc_l_is_whole : FnScope ["_law_thing", "_law_low", "_law_high"] ["_law_thing", "_law_low", "_law_high"] (defScope s_l_is_whole) := ⟨rfl, rfl, rfl, by decide +kernel, rfl, by decide +kernel, by decide +kernel⟩
abbrev s_l_is_work : Stmt := topS 49
theorem sc_l_is_work : FnScope ["_law_thing", "_law_one"] ["_law_thing"] (defScope s_l_is_work) := ⟨rfl, rfl, rfl, by decide +kernel, rfl, by decide +kernel, by decide +kernel⟩
abbrev s_l_work : Stmt := topS 50
theorem sc_l_work : FnScope ["_law_pen_here", "_law_most", "_law_stations", "_law_way", "_law_long", "_law_items", "_law_turn"] ["_law_pen_here", "_law_most", "_law_stations"] (defScope s_l_work) := ⟨rfl, rfl, rfl, by decide +kernel, rfl, by decide +kernel, by decide +kernel⟩
abbrev s_l_odds : Stmt := topS 51
theorem sc_l_odds : FnScope ["_law_found"] [] (defScope s_l_odds) := ⟨rfl, rfl, rfl, by decide +kernel, rfl, by decide +kernel, by decide +kernel⟩
abbrev s_l_great : Stmt := topS 52
theorem sc_l_great : FnScope ["_law_deep", "_law_turn"] [] (defScope s_l_great) := ⟨rfl, rfl, rfl, by decide +kernel, rfl, by decide +kernel, by decide +kernel⟩
abbrev s_l_bend : Stmt := topS 53
theorem sc_l_bend : FnScope ["_law_pen_here", "_law_row", "_law_one", "_law_spot", "_law_found", "_law_other"] ["_law_pen_here", "_law_row"] (defScope s_l_bend) := ⟨rfl, rfl, rfl, by decide +kernel, rfl, by decide +kernel, by decide +kernel⟩
abbrev s_l_kind : Stmt := topS 54
theorem sc_l_kind : FnScope ["_law_e", "_law_marks", "_law_words"] ["_law_e"] (defScope s_l_kind) := ⟨rfl, rfl, rfl, by decide +kernel, rfl, by decide +kernel, by decide +kernel⟩
abbrev s_l_said : Stmt := topS 55
theorem sc_l_said : FnScope ["_law_call", "_law_e", "_law_word"] ["_law_call"] (defScope s_l_said) := ⟨rfl, rfl, rfl, by decide +kernel, rfl, by decide +kernel, by decide +kernel⟩
abbrev s_l_refused : Stmt := topS 56
theorem sc_l_refused : FnScope ["_law_work_here", "_law_bad", "_law_kept", "_law_words"] ["_law_work_here", "_law_bad"] (defScope s_l_refused) := ⟨rfl, rfl, rfl, by decide +kernel, rfl, by decide +kernel, by decide +kernel⟩
abbrev s_law : Stmt := topS 57
theorem sc_law : FnScope ["_law_script", "_law_cell_here", "_law_pen_here", "_law_work_here", "_law_thing", "_law_turn", "_law_lap", "_law_due", "_law_station"] ["_law_script"] (defScope s_law) := ⟨rfl, rfl, rfl, by decide +kernel, rfl, by decide +kernel, by decide +kernel⟩
end Sg

set_option Elab.async false
set_option linter.all false
set_option maxRecDepth 100000
set_option maxHeartbeats 4000000
namespace Sg
open PySem PySem.Spec PyProof.Rows L2 StX
section
variable {P : Program} {w : World} {K : PySem.W.Frag} {mg : Str → Option Value} {base : Heap}
/-! ### is_int, is_between: of any data -/
theorem isInt_eq (d : PyData) : (isB "int" d && !isB "bool" d) = isIntD d := by
  cases d <;> rfl
def spIsIntA (K : PySem.W.Frag) : Sp := fun vs H Q _ => ∃ v d, vs = [v] ∧ Aq K H v d ∧ Q (.bl (isIntD d)) H
theorem ok_is_intA {f : Addr} {fd : FuncData} {k : Nat} (F : Fun K "is_int" "is_int" s_is_int f fd) (m1 : mg "isinstance" = none) (m2 : mg "int" = none) (m3 : mg "bool" = none) :
    FnOk P w K mg base CX0 (k + 1) f fd ["thing"] (spIsIntA K) := by
  refine F.ok sc_is_int (fun vs H Q E h => ?_) (fun cdv A outer s H vs Q E hr h => ?_)
  · obtain ⟨v, d, rfl, _⟩ := h; rfl
  · obtain ⟨v, d, rfl, hd, q⟩ := h
    refine ⟨_, pss_one (ps_ret (pe_and
      (pe_callB call_isiA (by rfl) m1 (by decide +kernel) (pa_cons (pv 0) (pa_cons (pe_bltn (v := .ty "int") (by rfl) m2 (by decide +kernel) rfl) pa_nil)))
      (pe_one (pe_not (pe_callB call_isiA (by rfl) m1 (by decide +kernel) (pa_cons (pv 0) (pa_cons (pe_bltn (v := .ty "bool") (by rfl) m3 (by decide +kernel) rfl) pa_nil))))))), ?_⟩
    refine ⟨v, rfl, v, d, "int", rfl, hd, .inr (.inl rfl), isB "int" d, rfl, ?_⟩
    have e := isInt_eq d
    cases h1 : isB "int" d with
    | false => rw [h1] at e; rw [← e] at q; exact iteF q
    | true =>
      refine iteT ⟨v, rfl, v, d, "bool", rfl, hd, .inr (.inr (.inl rfl)), isB "bool" d, rfl, ?_⟩
      rw [h1, Bool.true_and] at e
      rw [← e] at q
      exact q
def spBetA (K : PySem.W.Frag) : Sp := fun vs H Q _ => ∃ v d, ∃ l m : Int, vs = [v, .int l, .int m] ∧ Aq K H v d ∧ Q (.bl (betD d l m)) H
theorem ok_is_betweenA {f f1 : Addr} {fd fd1 : FuncData} {k : Nat} (F : Fun K "is_between" "is_between" s_is_between f fd)
    (G1 : FnOk P w K mg base CX0 k f1 fd1 ["thing"] (spIsIntA K)) (kp1 : PySem.W.keepIn K (.ref f1) = true) (b1 : Binds K fd1 ["thing"] []) (g1 : mg "is_int" = some (.ref f1)) :
    FnOk P w K mg base CX0 (k + 1) f fd ["thing", "least", "most"] (spBetA K) := by
  refine F.ok sc_is_between (fun vs H Q E h => ?_) (fun cdv A outer s H vs Q E hr h => ?_)
  · obtain ⟨v, d, l, m, rfl, _⟩ := h; rfl
  · obtain ⟨v, d, l, m, rfl, hd, q⟩ := h
    refine ⟨_, pss_one (ps_ret (pe_and (pe_call G1 hr (by rfl) g1 kp1 b1 .nil pass0 (pa_cons (pv 0) pa_nil)) (pe_one (pe_chain op_le op_le (pv 1) (pv 0) (pv 2))))), ?_⟩
    refine ⟨v, rfl, v, d, rfl, hd, isIntD d, rfl, ?_⟩
    cases hi : isIntD d with
    | false =>
      have e : betD d l m = false := by cases d <;> first | rfl | exact nomatch hi
      rw [e] at q
      exact iteF q
    | true =>
      obtain ⟨i, rfl⟩ : ∃ i, d = .int i := by cases d <;> first | exact ⟨_, rfl⟩ | exact nomatch hi
      obtain rfl : v = .int i := by
        cases hd with
        | data hd => cases hd; rfl
      refine iteT ⟨.int l, rfl, .int i, rfl, l, i, rfl, rfl, decide (l ≤ i), rfl, ?_⟩
      have e : betD (.int i) l m = (decide (l ≤ i) && decide (i ≤ m)) := rfl
      rw [e] at q
      by_cases h1 : l ≤ i
      · rw [decide_eq_true h1] at q ⊢
        exact iteT ⟨.int m, rfl, i, m, rfl, rfl, q⟩
      · rw [decide_eq_false h1] at q ⊢
        exact iteF q
/-! ### _law_is_whole -/
theorem ok_is_whole {f : Addr} {fd : FuncData} {k : Nat} (F : Fun K "_law_is_whole" "_law_is_whole" s_l_is_whole f fd) (m1 : mg "isinstance" = none) (m2 : mg "int" = none) (m3 : mg "bool" = none) :
    FnOk P w K mg base CX0 (k + 1) f fd ["_law_thing", "_law_low", "_law_high"] (spBetA K) := by
  refine F.ok sc_l_is_whole (fun vs H Q E h => ?_) (fun cdv A outer s H vs Q E hr h => ?_)
  · obtain ⟨v, d, l, m, rfl, _⟩ := h; rfl
  · obtain ⟨v, d, l, m, rfl, hd, q⟩ := h
    refine ⟨_, pss_one (ps_ret (pe_and
      (pe_callB call_isiA (by rfl) m1 (by decide +kernel) (pa_cons (pv 0) (pa_cons (pe_bltn (v := .ty "int") (by rfl) m2 (by decide +kernel) rfl) pa_nil)))
      (pe_and (pe_not (pe_callB call_isiA (by rfl) m1 (by decide +kernel) (pa_cons (pv 0) (pa_cons (pe_bltn (v := .ty "bool") (by rfl) m3 (by decide +kernel) rfl) pa_nil))))
        (pe_one (pe_chain op_le op_le (pv 1) (pv 0) (pv 2)))))), ?_⟩
    refine ⟨v, rfl, v, d, "int", rfl, hd, .inr (.inl rfl), isB "int" d, rfl, ?_⟩
    have e := isInt_eq d
    have no : isIntD d = false → betD d l m = false := fun z => by cases d <;> first | rfl | exact nomatch z
    cases h1 : isB "int" d with
    | false =>
      rw [h1] at e
      rw [no e.symm] at q
      exact iteF q
    | true =>
      rw [h1, Bool.true_and] at e
      refine iteT ⟨v, rfl, v, d, "bool", rfl, hd, .inr (.inr (.inl rfl)), isB "bool" d, rfl, !isB "bool" d, rfl, ?_⟩
      rw [e]
      cases hi : isIntD d with
      | false => rw [no hi] at q; exact iteF q
      | true =>
        obtain ⟨i, rfl⟩ : ∃ i, d = .int i := by cases d <;> first | exact ⟨_, rfl⟩ | exact nomatch hi
        obtain rfl : v = .int i := by
          cases hd with
          | data hd => cases hd; rfl
        refine iteT ⟨.int l, rfl, .int i, rfl, l, i, rfl, rfl, decide (l ≤ i), rfl, ?_⟩
        have e : betD (.int i) l m = (decide (l ≤ i) && decide (i ≤ m)) := rfl
        rw [e] at q
        by_cases h1 : l ≤ i
        · rw [decide_eq_true h1] at q ⊢
          exact iteT ⟨.int m, rfl, i, m, rfl, rfl, q⟩
        · rw [decide_eq_false h1] at q ⊢
          exact iteF q
/-! ### the script's cells, the pen -/
def spCell (K : PySem.W.Frag) : Sp := fun vs H Q _ => ∃ (a : Addr) (ns : List Int) (k : Nat), vs = [.ref a, .int k] ∧ SqL K H a (ns.map V.int) ∧ ∀ r : Int, Q (.int r) H
theorem ok_l_cell {f : Addr} {fd : FuncData} {k : Nat} (F : Fun K "_law_cell" "_law_cell" s_l_cell f fd) (m1 : mg "len" = none) :
    FnOk P w K mg base CX0 (k + 1) f fd ["_law_script", "_law_k"] (spCell K) := by
  refine F.ok sc_l_cell (fun vs H Q E h => ?_) (fun cdv A outer s H vs Q E hr h => ?_)
  · obtain ⟨a, ns, j, rfl, _⟩ := h; rfl
  · obtain ⟨a, ns, j, rfl, hS, q⟩ := h
    refine ⟨_, pss_one (ps_ret (pe_ifExp (pt_cmpR op_lt (pv 1) (pe_callB call_len_seq (by rfl) m1 PySem.boot_len (pa_cons (pv 0) pa_nil)) (nomark _))
      (pe_ix ix_list (pv 0) (pv 1) (fun _ _ => rfl)) pe_int)), ?_⟩
    refine ⟨.int j, rfl, .ref a, rfl, a, ns.map V.int, rfl, .inl hS, _, _, rfl, rfl, _, rfl, ite2 (fun e => ?_) (fun e => ?_)⟩
    · have e1 : (j : Int) < ((ns.map V.int).length : Nat) := of_decide_eq_true e
      have e2 : j < ns.length := by rw [List.length_map] at e1; omega
      refine ⟨.ref a, rfl, .int j, rfl, a, ns.map V.int, (j : Int), .int ns[j], rfl, rfl, hS, atI_nat ?_, q _⟩
      rw [List.getElem?_map, List.getElem?_eq_getElem e2]; rfl
    · exact q 0
def spPen : Sp := fun vs H Q _ => ∃ c : Int, vs = [.int c] ∧ ∀ H' p, H p = none → Same H H' → PenAt H' p → Q (.ref p) H'
theorem ok_l_pen {f : Addr} {fd : FuncData} {k : Nat} (F : Fun K "_law_pen" "_law_pen" s_l_pen f fd) (m1 : mg "max" = none) :
    FnOk P w K mg base CX0 (k + 1) f fd ["_law_cell_here"] spPen := by
  refine F.ok sc_l_pen (fun vs H Q E h => ?_) (fun cdv A outer s H vs Q E hr h => ?_)
  · obtain ⟨c, rfl, _⟩ := h; rfl
  · obtain ⟨c, rfl, q⟩ := h
    refine ⟨_, pss_one (ps_ret (pe_lst (pa_cons (pe_callB (call_max2 rfl) (by rfl) m1 (by decide +kernel) (pa_cons pe_int (pa_cons (pe_op op_sub (pv 0) (pe_op op_pow pe_int pe_int)) pa_nil)))
      (pa_cons (pe_op op_add (pe_op op_mod (pv 0) pe_int) pe_int) (pa_cons pe_int pa_nil))))), ?_⟩
    refine ⟨.int c, rfl, 10, 18, rfl, rfl, (by show (0 : Int) ≤ 18 ∧ (18 : Int) ≤ 1000000 ∧ _; decide), c, _, rfl, rfl, _, _, rfl, ?_⟩
    refine ⟨.int c, rfl, c, 2147483629, rfl, rfl, (by show (0 : Int) < 2147483629; decide), _, _, rfl, rfl, ?_⟩
    refine ⟨by show 3 ≤ sizeLine; decide, fun p hp => q _ p hp (same_new hp) ⟨_, _, _, upd_same, ?_⟩⟩
    have h1 := Int.emod_nonneg c (show (2147483629 : Int) ≠ 0 by decide)
    have h2 := Int.emod_lt_of_pos c (show (0 : Int) < 2147483629 by decide)
    constructor <;> omega
/-! ### a draw -/
def spDraw : Sp := fun vs H Q _ => ∃ (p : Addr) (m : Int), vs = [.ref p, .int m] ∧ PenAt H p ∧ 0 < m ∧ m < 1000000 ∧
  ∀ H' (r : Int), 0 ≤ r → r < m → PenAt H' p → But p H H' → Q (.int r) H'
theorem ok_l_draw {f : Addr} {fd : FuncData} {k : Nat} (F : Fun K "_law_draw" "_law_draw" s_l_draw f fd) :
    FnOk P w K mg base CX0 (k + 1) f fd ["_law_pen_here", "_law_many"] spDraw := by
  refine F.ok sc_l_draw (fun vs H Q E h => ?_) (fun cdv A outer s H vs Q E hr h => ?_)
  · obtain ⟨p, m, rfl, _⟩ := h; rfl
  · obtain ⟨p, m, rfl, ⟨a, b, c, hp, hb0, hb1⟩, hm0, hm1, q⟩ := h
    refine ⟨_, pss_cons (ps_if (pt_cmpR op_gt (pe_ix ix_list (pv 0) pe_int (fun _ _ => rfl)) pe_int (nomark _))
        (pss_cons (ps_set (i := 2) sc_l_draw.nd rfl (.inl rfl) (pe_op op_mod (pe_ix ix_list (pv 0) pe_int (fun _ _ => rfl)) (pv 1)))
        (pss_cons (ps_asg (pe_op op_fdiv (pe_ix ix_list (pv 0) pe_int (fun _ _ => rfl)) (pv 1)) (pg_sub (pv 0) pe_int set_list))
        (pss_one (ps_ret (pv 2))))) pss_nil)
      (pss_cons (ps_asg (pe_op op_add (pe_ix ix_list (pv 0) pe_int (fun _ _ => rfl)) pe_int) (pg_sub (pv 0) pe_int set_list))
      (pss_cons (ps_asg (pe_op op_mod (pe_op op_add (pe_op op_add (pe_op op_mul (pe_ix ix_list (pv 0) pe_int (fun _ _ => rfl)) pe_int)
            (pe_op op_mul pe_int (pe_ix ix_list (pv 0) pe_int (fun _ _ => rfl)))) pe_int) pe_int) (pg_sub (pv 0) pe_int set_list))
      (pss_cons (ps_set (i := 3) sc_l_draw.nd rfl (.inl rfl) (pe_op op_mod (pe_op op_add (pe_op op_add (pe_op op_mul (pe_ix ix_list (pv 0) pe_int (fun _ _ => rfl)) (pe_ix ix_list (pv 0) pe_int (fun _ _ => rfl)))
            (pe_op op_mul pe_int (pe_ix ix_list (pv 0) pe_int (fun _ _ => rfl)))) pe_int) pe_int))
      (pss_cons (ps_set (i := 3) sc_l_draw.nd rfl (.inl rfl) (pe_op op_mod (pe_op op_add (pe_op op_mul (pv 3) (pv 3)) (pe_op op_mul pe_int (pv 3))) pe_int))
      (pss_one (ps_ret (pe_op op_mod (pe_op op_fdiv (pv 3) pe_int) (pv 1)))))))), ?_⟩
    refine ⟨.ref p, rfl, p, _, 0, .int a, rfl, rfl, .of hp, atI0, a, 0, rfl, rfl, _, rfl, ite2 (fun e => ?_) (fun e => ?_)⟩
    · have ha : 0 < a := of_decide_eq_true e
      refine ⟨.ref p, rfl, p, _, 0, .int a, rfl, rfl, .of hp, atI0, .int m, rfl, a, m, rfl, rfl, hm0, ?_⟩
      refine ⟨.ref p, rfl, p, _, 0, .int a, rfl, rfl, .of hp, atI0, .int m, rfl, a, m, rfl, rfl, ⟨hm0, (by omega)⟩, ?_⟩
      refine ⟨.ref p, rfl, p, _, 0, 0, rfl, rfl, hp, rfl, ?_⟩
      refine ⟨.int (a % m), rfl, q _ _ (Int.emod_nonneg a (by omega)) (Int.emod_lt_of_pos a hm0) ⟨a / m, b, c, upd_same, hb0, hb1⟩ But.upd⟩
    · refine ⟨.ref p, rfl, p, _, 2, .int c, rfl, rfl, .of hp, atI2, c, 1, rfl, rfl, ?_⟩
      refine ⟨.ref p, rfl, p, _, 2, 2, rfl, rfl, hp, rfl, ?_⟩
      have hp1 : (upd H p (.lst [.int a, .int b, .int (c + 1)])) p = some (.lst [.int a, .int b, .int (c + 1)]) := upd_same
      refine ⟨.ref p, rfl, p, _, 1, .int b, rfl, rfl, .of hp1, atI1, b, 48271, rfl, rfl, .inl ⟨by omega, by omega⟩, ?_⟩
      refine ⟨.ref p, rfl, p, _, 2, .int (c + 1), rfl, rfl, .of hp1, atI2, 1009, c + 1, rfl, rfl, .inl (by decide), ?_⟩
      refine ⟨_, _, rfl, rfl, _, _, rfl, rfl, _, 2147483647, rfl, rfl, (by show (0 : Int) < 2147483647; decide), ?_⟩
      refine ⟨.ref p, rfl, p, _, 1, 1, rfl, rfl, hp1, rfl, ?_⟩
      dsimp only [List.set]
      generalize hb' : (b * 48271 + 1009 * (c + 1) + 7) % 2147483647 = b'
      have g1 : 0 ≤ b' := by rw [← hb']; exact Int.emod_nonneg _ (by decide)
      have g2 : b' < 2147483647 := by rw [← hb']; exact Int.emod_lt_of_pos _ (by decide)
      have hp2 : (upd (upd H p (.lst [.int a, .int b, .int (c + 1)])) p (.lst [.int a, .int b', .int (c + 1)])) p = some (.lst [.int a, .int b', .int (c + 1)]) := upd_same
      refine ⟨.ref p, rfl, p, _, 1, .int b', rfl, rfl, .of hp2, atI1, .ref p, rfl, p, _, 1, .int b', rfl, rfl, .of hp2, atI1, b', b', rfl, rfl, .inl ⟨by omega, by omega⟩, ?_⟩
      refine ⟨.ref p, rfl, p, _, 1, .int b', rfl, rfl, .of hp2, atI1, 69621, b', rfl, rfl, .inl (by decide), ?_⟩
      refine ⟨_, _, rfl, rfl, _, _, rfl, rfl, _, 2147483629, rfl, rfl, (by show (0 : Int) < 2147483629; decide), ?_⟩
      dsimp only
      generalize ht : (b' * b' + 69621 * b' + 11) % 2147483629 = t
      have t1 : 0 ≤ t := by rw [← ht]; exact Int.emod_nonneg _ (by decide)
      have t2 : t < 2147483629 := by rw [← ht]; exact Int.emod_lt_of_pos _ (by decide)
      refine ⟨.int t, rfl, .int t, rfl, t, t, rfl, rfl, .inl ⟨by omega, by omega⟩, .int t, rfl, 40014, t, rfl, rfl, .inl (by decide), _, _, rfl, rfl, _, 2147483587, rfl, rfl, (by show (0 : Int) < 2147483587; decide), ?_⟩
      refine ⟨_, rfl, _, 16, rfl, rfl, ⟨by decide, by decide⟩, .int m, rfl, _, m, rfl, rfl, hm0, ?_⟩
      refine q _ _ (Int.emod_nonneg _ (by omega)) (Int.emod_lt_of_pos _ hm0) ⟨a, b', c + 1, upd_same, by omega, by omega⟩ ?_
      exact But.upd.trans But.upd
end
end Sg

set_option Elab.async false
set_option linter.all false
set_option maxRecDepth 100000
set_option maxHeartbeats 4000000
namespace Sg
open PySem PySem.Spec PyProof.Rows L2 StX
/-- data that is a work -/
def WorkD (d : PyData) : Prop := ∃ ns, d = tD ns ∧ IsWork ns
theorem all_ints : ∀ {ds : List PyData} {l m : Int}, (∀ d ∈ ds, betD d l m = true) → ∃ ns : List Int, ds = iD ns ∧ ∀ x ∈ ns, l ≤ x ∧ x ≤ m
  | [], _, _, _ => ⟨[], rfl, fun _ h => nomatch h⟩
  | d :: ds, l, m, h => by
    obtain ⟨ns, rfl, hn⟩ := all_ints (ds := ds) (l := l) (m := m) fun x hx => h x (List.mem_cons_of_mem _ hx)
    have h1 := h d List.mem_cons_self
    obtain ⟨i, rfl⟩ : ∃ i, d = .int i := by cases d <;> first | exact ⟨_, rfl⟩ | exact nomatch h1
    have h2 : (decide (l ≤ i) && decide (i ≤ m)) = true := h1
    rw [Bool.and_eq_true, decide_eq_true_eq, decide_eq_true_eq] at h2
    exact ⟨i :: ns, rfl, fun x hx => (List.mem_cons.mp hx).elim (fun e => e ▸ h2) (hn x)⟩
theorem ints_bet {ns : List Int} {l m : Int} (h : ∀ x ∈ ns, l ≤ x ∧ x ≤ m) : ∀ d ∈ iD ns, betD d l m = true := fun d hd => by
  obtain ⟨x, hx, rfl⟩ := List.mem_map.mp hd
  show (decide (l ≤ x) && decide (x ≤ m)) = true
  rw [decide_eq_true (h x hx).1, decide_eq_true (h x hx).2]; rfl
theorem dpInts_v {K : PySem.W.Frag} {H : Hp} : ∀ {xs : List V} {ns : List Int}, DpAll K H xs (iD ns) → xs = ns.map V.int
  | [], [], _ => rfl
  | _ :: _, [], h => by cases h
  | [], _ :: _, h => by cases h
  | x :: xs, n :: ns, h => by
    cases h with
    | cons a r =>
      cases a
      rw [dpInts_v (ns := ns) r]; rfl
/-- an exception's class that is raised with a text -/
structure Err (K : PySem.W.Frag) (mg : Str → Option Value) (n : Str) (C : Addr) : Prop where
  g : mg n = some (.ref C)
  x : PySem.W.excIn K C [.type "ValueError", .type "Exception", .type "BaseException", .type "object"] "ValueError.__new__" = true
  k : PySem.W.keepIn K (.ref C) = true
  b : PySem.W.subIn K (.ref C) (.type "BaseException") = some true
  t : PySem.W.typeIn K (.ref C) = some (.type "type")
section
variable {P : Program} {w : World} {K : PySem.W.Frag} {mg : Str → Option Value} {base : Heap}
/-! ### is_work, of any data -/
def spIsWorkA (K : PySem.W.Frag) : Sp := fun vs H Q _ => ∃ v d, vs = [v] ∧ Aq K H v d ∧ ∀ H' b, Same H H' → (b = true ↔ WorkD d) → Q (.bl b) H'
theorem ok_is_workA {f f1 : Addr} {fd fd1 : FuncData} {k : Nat} (F : Fun K "is_work" "is_work" s_is_work f fd) (N : Nums mg)
    (G1 : FnOk P w K mg base CX0 k f1 fd1 ["thing", "least", "most"] (spBetA K)) (kp1 : PySem.W.keepIn K (.ref f1) = true) (b1 : Binds K fd1 ["thing", "least", "most"] []) (g1 : mg "is_between" = some (.ref f1))
    (m1 : mg "isinstance" = none) (m2 : mg "tuple" = none) (m3 : mg "len" = none) (m4 : mg "all" = none) :
    FnOk P w K mg base CX0 (k + 1) f fd ["thing"] (spIsWorkA K) := by
  obtain ⟨t1, n1⟩ := N.nowhere
  obtain ⟨t2, n2⟩ := N.stations
  obtain ⟨t3, n3⟩ := N.most
  refine F.ok sc_is_work (fun vs H Q E h => ?_) (fun cdv A outer s H vs Q E hr h => ?_)
  · obtain ⟨v, d, rfl, _⟩ := h; rfl
  · obtain ⟨v, d, rfl, hd, q⟩ := h
    refine ⟨_, pss_cons (ps_if (PW.pt (pw_or (pt_not (pt_val (pe_callB call_isiA (by rfl) m1 (by decide +kernel) (pa_cons (pv 0) (pa_cons (pe_bltn (v := .ty "tuple") (by rfl) m2 (by decide +kernel) rfl) pa_nil)))))
          (pw_or1 (pt_not (pt_chain op_le op_le pe_int (pe_callB call_len_seq (by rfl) m3 PySem.boot_len (pa_cons (pv 0) pa_nil)) (pe_glob (v := .int 60) (by rfl) n3 ⟨_, rfl⟩))))))
        (pss_one (ps_ret pe_bl)) pss_nil)
      (pss_cons (ps_if (pt_not (pt_val (pe_callB (cr_all rfl) (by rfl) m4 (by decide +kernel) (pa_cons
          (pe_lc (own := [("item", 1)]) (g := gName 1) (tt := tYes) rfl sc_is_work.nd (pi_tup (pv 0)) (blkOk_by (N := ["thing", "item"]) (sc := defScope s_is_work) (by decide +kernel))
            (fun _ _ _ _ _ => pg_name (i := 1) sc_is_work.nd rfl (Or.inl rfl)) (fun _ _ _ _ _ => pts_nil)
            (fun _ _ _ _ _ => pe_call G1 hr (by rfl) g1 kp1 b1 .nil pass0 (pa_cons (pv 1) (pa_cons (pe_glob (v := .int (-1)) (by rfl) n1 ⟨_, rfl⟩) (pa_cons (pe_op op_sub (pe_glob (v := .int 10) (by rfl) n2 ⟨_, rfl⟩) pe_int) pa_nil))))) pa_nil))))
        (pss_one (ps_ret pe_bl)) pss_nil)
      (pss_one (ps_ret (pe_and (pe_cmpR op_ne (pe_ix ix_tup (pv 0) pe_int (fun _ _ => rfl)) (pe_glob (v := .int (-1)) (by rfl) n1 ⟨_, rfl⟩) (nomark _))
        (pe_one (pe_cmpR op_ne (pe_ix ix_tup (pv 0) (pe_un un_neg pe_int) (fun _ _ => rfl)) (pe_glob (v := .int (-1)) (by rfl) n1 ⟨_, rfl⟩) (nomark _))))))), ?_⟩
    refine ⟨v, rfl, v, d, "tuple", rfl, hd, .inl rfl, isB "tuple" d, rfl, ?_⟩
    cases ht : isB "tuple" d with
    | false =>
      refine iteT ?_
      refine q H false (same_refl H) ⟨(fun z => nomatch z), fun ⟨ns, z, _⟩ => ?_⟩
      rw [z] at ht
      exact nomatch ht
    | true =>
      obtain ⟨ds, rfl⟩ := isB_tup.mp ht
      obtain ⟨a, xs, rfl, hS, hA⟩ : ∃ a xs, v = .ref a ∧ SqT K H a xs ∧ DpAll K H xs ds := by
        cases hd with
        | data hd => cases hd with
          | tup h1 h2 => exact ⟨_, _, rfl, h1, h2⟩
      have lx := DpAll.len hA
      have nowork : ∀ {H'}, Same H H' → (∀ ns, ds = iD ns → ¬ IsWork ns) → Q (.bl false) H' := fun {H'} e no => q H' false e ⟨(fun z => nomatch z), fun ⟨ns, z, hw⟩ => absurd hw (no ns (PyData.tuple.inj z))⟩
      refine iteF ?_
      refine ⟨.ref a, rfl, a, xs, rfl, .inr hS, 1, _, rfl, rfl, decide ((1 : Int) ≤ ((xs.length : Nat) : Int)), rfl, ?_⟩
      by_cases c1 : (1 : Int) ≤ ((xs.length : Nat) : Int)
      case neg =>
        rw [decide_eq_false c1]
        refine iteF ⟨false, rfl, iteT (nowork (same_refl H) fun ns e hw => ?_)⟩
        have := hw.pos
        rw [e, List.length_map] at lx
        omega
      rw [decide_eq_true c1]
      refine iteT ⟨_, 60, rfl, rfl, decide (((xs.length : Nat) : Int) ≤ 60), rfl, ?_⟩
      by_cases c2 : ((xs.length : Nat) : Int) ≤ 60
      case neg =>
        rw [decide_eq_false c2]
        refine iteT (nowork (same_refl H) fun ns e hw => ?_)
        have := hw.most
        rw [e, List.length_map] at lx
        omega
      rw [decide_eq_true c2]
      refine iteF ?_
      refine ⟨.ref a, rfl, a, rfl, ⟨_, hS⟩, fun D hD => ?_⟩
      refine lc_tup (xs := xs) (fun i H' => Same H H' ∧ H' D = some (.lst ((((ds.take i).map fun z => betD z (-1) 9)).map V.bl))) ⟨same_new hD, upd_same⟩ (fun i H' _ h => Same.tup h.1 hS) (fun i x H' hx h => ?_) (fun H' h => ?_)
      · obtain ⟨dd, hdd, hxd⟩ := DpAll.at hA hx
        have hil := (List.getElem?_eq_some_iff.mp hdd).1
        refine ⟨rfl, x, rfl, 10, 1, rfl, rfl, x, dd, -1, _, rfl, .data (Dp.same h.1 hxd), ?_⟩
        refine ⟨_, h.2, ?_, fun b o e => ?_, ?_⟩
        · rw [List.length_map, List.length_map, List.length_take]
          exact small1000 (by omega)
        · rw [upd_ne (ne_of_none e hD)]
          exact h.1 _ _ e
        · rw [upd_same, List.take_add_one, hdd, List.map_append, List.map_append]
          rfl
      · have h2 := h.2
        rw [lx, List.take_length] at h2
        refine ⟨D, _, rfl, .of h2, ((ds.map fun z => betD z (-1) 9)).all id, rfl, ?_⟩
        cases hall : ((ds.map fun z => betD z (-1) 9)).all id with
        | false =>
          refine iteT (nowork h.1 fun ns e hw => ?_)
          have : ((ds.map fun z => betD z (-1) 9)).all id = true := by
            rw [List.all_map, List.all_eq_true]
            intro z hz
            rw [e] at hz
            exact ints_bet (fun x hx => hw.items x hx) z hz
          rw [this] at hall
          exact nomatch hall
        | true =>
          rw [List.all_map, List.all_eq_true] at hall
          obtain ⟨ns, rfl, hns⟩ := all_ints hall
          obtain rfl := dpInts_v hA
          have ln : (ns.map V.int).length = ns.length := List.length_map _
          rw [ln] at c1 c2
          refine iteF ?_
          have hS' : SqT K H' a (ns.map V.int) := Same.tup h.1 hS
          obtain ⟨x, hx⟩ : ∃ x, ns[0]? = some x := ⟨ns[0]'(by omega), List.getElem?_eq_getElem _⟩
          obtain ⟨y, hy⟩ : ∃ y, ns[ns.length - 1]? = some y := ⟨ns[ns.length - 1]'(by omega), List.getElem?_eq_getElem _⟩
          have gx : (ns.map V.int)[0]? = some (.int x) := by rw [List.getElem?_map, hx]; rfl
          have gy : atI (ns.map V.int) (-1) = some (.int y) := by
            have hne : ns ≠ [] := fun z => by rw [z] at c1; exact absurd c1 (by decide)
            have e1 : ns = ns.dropLast ++ [y] := by
              have e2 : ns.getLast hne = y := by
                have := List.getLast_eq_getElem hne
                rw [this]
                exact (List.getElem?_eq_some_iff.mp hy).2
              rw [← e2, List.dropLast_concat_getLast]
            rw [e1, List.map_append]
            exact atI_last _ _
          have fin : ∀ b : Bool, (b = true ↔ x ≠ -1 ∧ y ≠ -1) → Q (.bl b) H' := fun b hb => q H' b h.1 (hb.trans ⟨fun ⟨g1, g2⟩ => ⟨ns, rfl, ⟨by omega, by omega, hns, fun z hz => by rw [hx] at hz; rw [← Option.some.inj hz]; exact g1, fun z hz => by rw [hy] at hz; rw [← Option.some.inj hz]; exact g2⟩⟩,
            fun ⟨ms, e, hw⟩ => by
              have e' : ns = ms := by
                have := congrArg (fun l : List PyData => l.map fun d => match d with | .int i => i | _ => 0) (PyData.tuple.inj e)
                simpa [List.map_map, Function.comp_def] using this
              subst e'
              exact ⟨hw.head x hx, hw.last y hy⟩⟩)
          refine ⟨.ref a, rfl, a, _, 0, .int x, rfl, rfl, hS', atI_nat (j := 0) gx, rfl, _, rfl, ?_⟩
          by_cases ex : x = -1
          · have d1 : (!decide (V.int x = V.int (-1))) = false := by rw [ex]; rfl
            rw [d1]
            exact iteF (fin false ⟨(fun z => nomatch z), fun z => absurd ex z.1⟩)
          · have d1 : (!decide (V.int x = V.int (-1))) = true := by rw [decide_eq_false fun z => ex (V.int.inj z)]; rfl
            rw [d1]
            refine iteT ⟨.ref a, rfl, 1, rfl, a, _, -1, .int y, rfl, rfl, hS', gy, rfl, ?_⟩
            refine fin _ ⟨fun z => ⟨ex, fun e => ?_⟩, fun z => ?_⟩
            · rw [e] at z; exact nomatch z
            · rw [decide_eq_false fun e => z.2 (V.int.inj e)]; rfl
/-! ### require_work, of any data -/
def spReqA (K : PySem.W.Frag) (C : Addr) : Sp := fun vs H Q E => ∃ v d, vs = [v] ∧ Aq K H v d ∧ ∀ H', Same H H' → (WorkD d → Q .non H') ∧ (¬ WorkD d → E (.ref C) none H')
theorem ok_require_workA {f f1 C : Addr} {fd fd1 : FuncData} {k : Nat} (F : Fun K "require_work" "require_work" s_require_work f fd) (R : Err K mg "NoWork" C)
    (G1 : FnOk P w K mg base CX0 k f1 fd1 ["thing"] (spIsWorkA K)) (kp1 : PySem.W.keepIn K (.ref f1) = true) (b1 : Binds K fd1 ["thing"] []) (g1 : mg "is_work" = some (.ref f1)) :
    FnOk P w K mg base (L2.CX P w) (k + 1) f fd ["thing"] (spReqA K C) := by
  refine F.okX sc_require_work (fun vs H Q E h => ?_) (fun cdv A outer s H vs Q E hr h => ?_)
  · obtain ⟨v, d, rfl, _⟩ := h; rfl
  · obtain ⟨v, d, rfl, hd, q⟩ := h
    refine ⟨_, pss_one (ps_if (pt_not (pt_val (pe_call G1 hr (by rfl) g1 kp1 b1 .nil pass0 (pa_cons (pv 0) pa_nil))))
      (pss_one (ps_raise rfl (takes_of rfl rfl rfl rfl) (pmk_own PySem.F.excBase_ValueError R.x R.g R.k (raises_own R.b R.t) rfl))) pss_nil), ?_⟩
    refine ⟨v, rfl, v, d, rfl, hd, fun H' b sm hb => ⟨b, rfl, ?_⟩⟩
    cases b with
    | true => exact iteF ((q H' sm).1 (hb.mp rfl))
    | false => exact iteT ((q H' sm).2 fun z => nomatch hb.mpr z)
end
end Sg

set_option Elab.async false
set_option linter.all false
set_option maxRecDepth 100000
set_option maxHeartbeats 4000000
namespace Sg
open PySem PySem.Spec PyProof.Rows L2 StX
section
variable {P : Program} {w : World} {K : PySem.W.Frag} {mg : Str → Option Value} {base : Heap}
/-! ### _law_is_work -/
theorem ok_l_is_work {f f1 : Addr} {fd fd1 : FuncData} {k : Nat} (F : Fun K "_law_is_work" "_law_is_work" s_l_is_work f fd)
    (G1 : FnOk P w K mg base CX0 k f1 fd1 ["_law_thing", "_law_low", "_law_high"] (spBetA K)) (kp1 : PySem.W.keepIn K (.ref f1) = true) (b1 : Binds K fd1 ["_law_thing", "_law_low", "_law_high"] []) (g1 : mg "_law_is_whole" = some (.ref f1))
    (m1 : mg "isinstance" = none) (m2 : mg "tuple" = none) (m3 : mg "len" = none) :
    FnOk P w K mg base CX0 (k + 1) f fd ["_law_thing"] (spIsWorkA K) := by
  refine F.ok sc_l_is_work (fun vs H Q E h => ?_) (fun cdv A outer s H vs Q E hr h => ?_)
  · obtain ⟨v, d, rfl, _⟩ := h; rfl
  · obtain ⟨v, d, rfl, hd, q⟩ := h
    refine ⟨_, pss_cons (ps_if (PW.pt (pw_or (pt_not (pt_val (pe_callB call_isiA (by rfl) m1 (by decide +kernel) (pa_cons (pv 0) (pa_cons (pe_bltn (v := .ty "tuple") (by rfl) m2 (by decide +kernel) rfl) pa_nil)))))
          (pw_or1 (pt_not (pt_chain op_le op_le pe_int (pe_callB call_len_seq (by rfl) m3 PySem.boot_len (pa_cons (pv 0) pa_nil)) pe_int)))))
        (pss_one (ps_ret pe_bl)) pss_nil)
      (pss_cons (ps_if (pt_cmpR (op_neNil hr.units0) (pe_lc (own := [("_law_one", 1)]) (g := gName 1) rfl sc_l_is_work.nd (pi_tup (pv 0)) (blkOk_by (N := ["_law_thing", "_law_one"]) (sc := defScope s_l_is_work) (by decide +kernel))
            (fun _ _ _ _ _ => pg_name (i := 1) sc_l_is_work.nd rfl (Or.inl rfl))
            (fun _ _ _ _ _ => pts_one (pt_not (pt_val (pe_call G1 hr (by rfl) g1 kp1 b1 .nil pass0 (pa_cons (pv 1) (pa_cons (pe_un un_neg pe_int) (pa_cons pe_int pa_nil)))))))
            (fun _ _ _ _ _ => pv 1)) (pe_lst pa_nil) (nomark _))
        (pss_one (ps_ret pe_bl)) pss_nil)
      (pss_one (ps_ret (pe_and (pe_cmpR op_gt (pe_ix ix_tup (pv 0) pe_int (fun _ _ => rfl)) (pe_un un_neg pe_int) (nomark _))
        (pe_one (pe_cmpR op_gt (pe_ix ix_tup (pv 0) (pe_un un_neg pe_int) (fun _ _ => rfl)) (pe_un un_neg pe_int) (nomark _))))))), ?_⟩
    refine ⟨v, rfl, v, d, "tuple", rfl, hd, .inl rfl, isB "tuple" d, rfl, ?_⟩
    cases ht : isB "tuple" d with
    | false =>
      refine iteT ?_
      refine q H false (same_refl H) ⟨(fun z => nomatch z), fun ⟨ns, z, _⟩ => ?_⟩
      rw [z] at ht
      exact nomatch ht
    | true =>
      obtain ⟨ds, rfl⟩ := isB_tup.mp ht
      obtain ⟨a, xs, rfl, hS, hA⟩ : ∃ a xs, v = .ref a ∧ SqT K H a xs ∧ DpAll K H xs ds := by
        cases hd with
        | data hd => cases hd with
          | tup h1 h2 => exact ⟨_, _, rfl, h1, h2⟩
      have lx := DpAll.len hA
      have nowork : ∀ {H'}, Same H H' → (∀ ns, ds = iD ns → ¬ IsWork ns) → Q (.bl false) H' := fun {H'} e no => q H' false e ⟨(fun z => nomatch z), fun ⟨ns, z, hw⟩ => absurd hw (no ns (PyData.tuple.inj z))⟩
      refine iteF ?_
      refine ⟨.ref a, rfl, a, xs, rfl, .inr hS, 1, _, rfl, rfl, decide ((1 : Int) ≤ ((xs.length : Nat) : Int)), rfl, ?_⟩
      by_cases c1 : (1 : Int) ≤ ((xs.length : Nat) : Int)
      case neg =>
        rw [decide_eq_false c1]
        refine iteF ⟨false, rfl, iteT (nowork (same_refl H) fun ns e hw => ?_)⟩
        have := hw.pos
        rw [e, List.length_map] at lx
        omega
      rw [decide_eq_true c1]
      refine iteT ⟨_, 60, rfl, rfl, decide (((xs.length : Nat) : Int) ≤ 60), rfl, ?_⟩
      by_cases c2 : ((xs.length : Nat) : Int) ≤ 60
      case neg =>
        rw [decide_eq_false c2]
        refine iteT (nowork (same_refl H) fun ns e hw => ?_)
        have := hw.most
        rw [e, List.length_map] at lx
        omega
      rw [decide_eq_true c2]
      refine iteF ?_
      refine ⟨.ref a, rfl, a, rfl, ⟨_, hS⟩, fun D hD => ?_⟩
      refine lc_tup (xs := xs) (fun i H' => Same H H' ∧ ∃ acc, H' D = some (.lst acc) ∧ acc.length ≤ i ∧ (acc = [] ↔ ∀ z ∈ ds.take i, betD z (-1) 9 = true)) ⟨same_new hD, [], upd_same, Nat.le_refl _, by simp⟩ (fun i H' _ h => Same.tup h.1 hS) (fun i x H' hx h => ?_) (fun H' h => ?_)
      · obtain ⟨sm, acc, hac, hal, hall⟩ := h
        obtain ⟨dd, hdd, hxd⟩ := DpAll.at hA hx
        have hil := (List.getElem?_eq_some_iff.mp hdd).1
        have htk : ds.take (i + 1) = ds.take i ++ [dd] := by rw [List.take_add_one, hdd]; rfl
        refine ⟨rfl, x, rfl, 1, rfl, x, dd, -1, 9, rfl, .data (Dp.same sm hxd), betD dd (-1) 9, rfl, ?_⟩
        cases hb : betD dd (-1) 9 with
        | true =>
          refine iteF ⟨sm, acc, hac, by omega, hall.trans ⟨fun h z hz => ?_, fun h z hz => h z (by rw [htk]; exact List.mem_append_left _ hz)⟩⟩
          rw [htk] at hz
          rcases List.mem_append.mp hz with hz | hz
          · exact h z hz
          · rw [List.mem_singleton.mp hz]; exact hb
        | false =>
          refine iteT ⟨x, rfl, acc, hac, small1000 (by omega), ?_⟩
          refine ⟨fun b o e => ?_, _, upd_same, by rw [List.length_append]; show acc.length + 1 ≤ i + 1; omega, ⟨fun z => absurd z (by simp), fun h => ?_⟩⟩
          · rw [upd_ne (ne_of_none e hD)]; exact sm _ _ e
          · have := h dd (by rw [htk]; exact List.mem_append_right _ List.mem_cons_self)
            rw [hb] at this
            exact nomatch this
      · obtain ⟨sm, acc, hac, hal, hall⟩ := h
        refine ⟨by show 0 ≤ sizeLine; omega, fun p hp => ?_⟩
        have nDp : D ≠ p := ne_of_none hac hp
        have sm' : Same H (upd H' p (.lst [])) := sm.trans (same_new hp)
        refine ⟨D, p, acc, rfl, rfl, .of (by rw [upd_ne nDp]; exact hac), .of upd_same, _, rfl, ?_⟩
        rw [lx, List.take_length] at hall
        cases hacc : acc with
        | cons y acc' =>
          refine iteT (nowork sm' fun ns e hw => ?_)
          have : acc = [] := hall.mpr fun z hz => by
            rw [e] at hz
            exact ints_bet (fun x hx => hw.items x hx) z hz
          rw [hacc] at this
          exact nomatch this
        | nil =>
          have hall := hall.mp hacc
          obtain ⟨ns, rfl, hns⟩ := all_ints hall
          obtain rfl := dpInts_v hA
          have ln : (ns.map V.int).length = ns.length := List.length_map _
          rw [ln] at c1 c2
          refine iteF ?_
          have hS' : SqT K (upd H' p (.lst [])) a (ns.map V.int) := Same.tup sm' hS
          obtain ⟨x, hx⟩ : ∃ x, ns[0]? = some x := ⟨ns[0]'(by omega), List.getElem?_eq_getElem _⟩
          obtain ⟨y, hy⟩ : ∃ y, ns[ns.length - 1]? = some y := ⟨ns[ns.length - 1]'(by omega), List.getElem?_eq_getElem _⟩
          have gx : (ns.map V.int)[0]? = some (.int x) := by rw [List.getElem?_map, hx]; rfl
          have gy : atI (ns.map V.int) (-1) = some (.int y) := by
            have hne : ns ≠ [] := fun z => by rw [z] at c1; exact absurd c1 (by decide)
            have e1 : ns = ns.dropLast ++ [y] := by
              have e2 : ns.getLast hne = y := by
                have := List.getLast_eq_getElem hne
                rw [this]
                exact (List.getElem?_eq_some_iff.mp hy).2
              rw [← e2, List.dropLast_concat_getLast]
            rw [e1, List.map_append]
            exact atI_last _ _
          have bx := hns x (List.mem_of_getElem? hx)
          have byy := hns y (List.mem_of_getElem? hy)
          have fin : ∀ b : Bool, (b = true ↔ x ≠ -1 ∧ y ≠ -1) → Q (.bl b) (upd H' p (.lst [])) := fun b hb => q _ b sm' (hb.trans ⟨fun ⟨g1, g2⟩ => ⟨ns, rfl, ⟨by omega, by omega, hns, fun z hz => by rw [hx] at hz; rw [← Option.some.inj hz]; exact g1, fun z hz => by rw [hy] at hz; rw [← Option.some.inj hz]; exact g2⟩⟩,
            fun ⟨ms, e, hw⟩ => by
              have e' : ns = ms := by
                have := congrArg (fun l : List PyData => l.map fun d => match d with | .int i => i | _ => 0) (PyData.tuple.inj e)
                simpa [List.map_map, Function.comp_def] using this
              subst e'
              exact ⟨hw.head x hx, hw.last y hy⟩⟩)
          refine ⟨.ref a, rfl, a, _, 0, .int x, rfl, rfl, hS', atI_nat (j := 0) gx, 1, rfl, x, -1, rfl, rfl, _, rfl, ?_⟩
          by_cases ex : x = -1
          · rw [decide_eq_false (by omega)]
            exact iteF (fin false ⟨(fun z => nomatch z), fun z => absurd ex z.1⟩)
          · rw [decide_eq_true (by omega)]
            refine iteT ⟨.ref a, rfl, 1, rfl, a, _, -1, .int y, rfl, rfl, hS', gy, 1, rfl, y, -1, rfl, rfl, ?_⟩
            refine fin _ ⟨fun z => ⟨ex, fun e => ?_⟩, fun z => decide_eq_true (by omega)⟩
            have := of_decide_eq_true z
            omega
end
end Sg

set_option Elab.async false
set_option linter.all false
set_option maxRecDepth 100000
set_option maxHeartbeats 4000000
namespace Sg
open PySem PySem.Spec PyProof.Rows L2 StX
/-- m is the most visits -/
def cnts (ns : List Int) : List Int := (List.range 10).map fun k => ((ns.count ((k : Nat) : Int) : Nat) : Int)
def Mv (ns : List Int) (m : Int) : Prop := m ∈ cnts ns ∧ ∀ y ∈ cnts ns, y ≤ m
theorem Mv.uniq {ns : List Int} {m m' : Int} (h : Mv ns m) (h' : Mv ns m') : m = m' := by
  have h1 := h.2 _ h'.1
  have h2 := h'.2 _ h.1
  omega
theorem cnts_at {ns : List Int} {i : Nat} : (List.range i).map (fun k => ((ns.count ((k : Nat) : Int) : Nat) : Int)) ++ [((ns.count (0 + (i : Nat) : Int) : Nat) : Int)] = (List.range (i + 1)).map (fun k => ((ns.count ((k : Nat) : Int) : Nat) : Int)) := by
  rw [List.range_succ, List.map_append, Int.zero_add]; rfl
section
variable {P : Program} {w : World} {K : PySem.W.Frag} {mg : Str → Option Value} {base : Heap}
/-! ### bars, refused -/
def spBarsBad (K : PySem.W.Frag) (C : Addr) : Sp := fun vs H _ E => ∃ v d u e, vs = [v, u] ∧ Aq K H v d ∧ Aq K H u e ∧ ¬ (WorkD d ∧ WorkD e) ∧ ∀ H', Same H H' → E (.ref C) none H'
theorem ok_barsBad {f f1 C : Addr} {fd fd1 : FuncData} {k : Nat} (F : Fun K "bars" "bars" s_bars f fd)
    (G1 : FnOk P w K mg base (L2.CX P w) k f1 fd1 ["thing"] (spReqA K C)) (kp1 : PySem.W.keepIn K (.ref f1) = true) (b1 : Binds K fd1 ["thing"] []) (g1 : mg "require_work" = some (.ref f1)) :
    FnOk P w K mg base (L2.CX P w) (k + 1) f fd ["one", "other"] (spBarsBad K C) := by
  refine F.okX sc_bars (fun vs H Q E h => ?_) (fun cdv A outer s H vs Q E hr h => ?_)
  · obtain ⟨v, d, u, e, rfl, _⟩ := h; rfl
  · obtain ⟨v, d, u, e, rfl, hd, he, no, q⟩ := h
    refine ⟨_, pss_cons (ps_expr (pe_callS G1 hr (by rfl) g1 kp1 b1 (fun σ => passAt (takes_of rfl rfl rfl rfl) σ) (pa_cons (pv 0) pa_nil)))
      (pss_cons (ps_expr (pe_callS G1 hr (by rfl) g1 kp1 b1 (fun σ => passAt (takes_of rfl rfl rfl rfl) σ) (pa_cons (pv 1) pa_nil))) pss_never), ?_⟩
    refine ⟨v, rfl, v, d, rfl, hd, fun H' sm => ⟨fun hw => ?_, fun _ => q H' sm⟩⟩
    exact ⟨u, rfl, u, e, rfl, he.same sm, fun H'' sm2 => ⟨fun hw2 => absurd ⟨hw, hw2⟩ no, fun _ => q _ (sm.trans sm2)⟩⟩
/-! ### most_visits -/
def spVisits (K : PySem.W.Frag) (C : Addr) : Sp := fun vs H Q E => ∃ v d, vs = [v] ∧ Aq K H v d ∧ (¬ WorkD d → ∀ H', Same H H' → E (.ref C) none H') ∧
  (WorkD d → ∃ a ns, v = .ref a ∧ FrzT H a (ns.map V.int) ∧ ∀ H' m, Same H H' → Mv ns m → Q (.int m) H')
theorem ok_most_visits {f f1 C : Addr} {fd fd1 : FuncData} {k : Nat} (F : Fun K "most_visits" "most_visits" s_most_visits f fd) (N : Nums mg)
    (G1 : FnOk P w K mg base (L2.CX P w) k f1 fd1 ["thing"] (spReqA K C)) (kp1 : PySem.W.keepIn K (.ref f1) = true) (b1 : Binds K fd1 ["thing"] []) (g1 : mg "require_work" = some (.ref f1))
    (m1 : mg "max" = none) (m2 : mg "range" = none) :
    FnOk P w K mg base (L2.CX P w) (k + 1) f fd ["work"] (spVisits K C) := by
  obtain ⟨t2, n2⟩ := N.stations
  refine F.okX sc_most_visits (fun vs H Q E h => ?_) (fun cdv A outer s H vs Q E hr h => ?_)
  · obtain ⟨v, d, rfl, _⟩ := h; rfl
  · obtain ⟨v, d, rfl, hd, qe, qw⟩ := h
    refine ⟨_, pss_cons (ps_expr (pe_callS G1 hr (by rfl) g1 kp1 b1 (fun σ => passAt (takes_of rfl rfl rfl rfl) σ) (pa_cons (pv 0) pa_nil)))
      (pss_one (ps_ret (pe_callB (cr_max rfl) (by rfl) m1 (by decide +kernel) (pa_cons
          (pe_lc (own := [("station", 1)]) (g := gName 1) (tt := tYes) rfl sc_most_visits.nd (pi_range1 (by rfl) m2 (pa_cons (pe_glob (v := .int 10) (by rfl) n2 ⟨_, rfl⟩) pa_nil)) (blkOk_by (N := ["work", "station"]) (sc := defScope s_most_visits) (by decide +kernel))
            (fun _ _ _ _ _ => pg_name (i := 1) sc_most_visits.nd rfl (Or.inl rfl)) (fun _ _ _ _ _ => pts_nil)
            (fun _ _ _ _ _ => pe_bmF PySem.F.plainAttrs_tuple PySem.F.slot_tuple_count PySem.F.type_tuple_count (mt_tcountK (K := K) rfl) (pv 0) (pa_cons (pv 1) pa_nil))) pa_nil)))), ?_⟩
    refine ⟨v, rfl, v, d, rfl, hd, fun H' sm => ⟨fun hw => ?_, fun hn => qe hn H' sm⟩⟩
    obtain ⟨a, ns, rfl, hF, q⟩ := qw hw
    refine ⟨10, rfl, (by decide), (by decide), fun D hD => ?_⟩
    refine lc_range (lo := 0) (n := 10) (fun i H'' => Same H' H'' ∧ H'' D = some (.lst (((List.range i).map (fun k => ((ns.count ((k : Nat) : Int) : Nat) : Int))).map V.int))) ⟨same_new hD, upd_same⟩ (fun i H2 hi h => ?_) (fun H2 h => ?_)
    · obtain ⟨sm2, hDl⟩ := h
      have hF2 := (hF.same sm).same sm2
      refine ⟨rfl, .ref a, rfl, ⟨a, _, rfl, hF2⟩, .int (0 + (i : Nat)), rfl, a, ns, _, rfl, rfl, hF2.sq, ?_⟩
      refine ⟨_, hDl, ?_, fun b o e => ?_, ?_⟩
      · rw [List.length_map, List.length_map, List.length_range]
        exact small1000 (by omega)
      · rw [upd_ne (ne_of_none e hD)]
        exact sm2 _ _ e
      · rw [upd_same, ← cnts_at, List.map_append]; rfl
    · obtain ⟨sm2, hDl⟩ := h
      refine ⟨D, cnts ns, rfl, .of hDl, by unfold cnts; rw [List.length_map, List.length_range]; decide, fun m h1 h2 => q _ m (sm.trans sm2) ⟨h1, h2⟩⟩
end
end Sg

set_option Elab.async false
set_option linter.all false
set_option maxRecDepth 100000
set_option maxHeartbeats 4000000
namespace Sg
open PySem PySem.Spec PyProof.Rows L2 StX
section
variable {P : Program} {w : World} {K : PySem.W.Frag} {mg : Str → Option Value} {base : Heap}
/-! ### _law_work -/
def spWork : Sp := fun vs H Q _ => ∃ (p : Addr) (m st : Int), vs = [.ref p, .int m, .int st] ∧ PenAt H p ∧ 1 ≤ m ∧ m ≤ 60 ∧ 1 ≤ st ∧ st ≤ 10 ∧
  ∀ H' t (ns : List Int), PenAt H' p → But p H H' → H t = none → FrzT H' t (ns.map V.int) → IsWork ns → (ns.length : Int) ≤ m → (∀ x ∈ ns, x < st) → Q (.ref t) H'
theorem ok_l_work {f f1 : Addr} {fd fd1 : FuncData} {k : Nat} (F : Fun K "_law_work" "_law_work" s_l_work f fd)
    (G1 : FnOk P w K mg base CX0 k f1 fd1 ["_law_pen_here", "_law_many"] spDraw) (kp1 : PySem.W.keepIn K (.ref f1) = true) (b1 : Binds K fd1 ["_law_pen_here", "_law_many"] []) (g1 : mg "_law_draw" = some (.ref f1))
    (m1 : mg "range" = none) (m2 : mg "tuple" = none) :
    FnOk P w K mg base CX0 (k + 1) f fd ["_law_pen_here", "_law_most", "_law_stations"] spWork := by
  refine F.ok sc_l_work (fun vs H Q E h => ?_) (fun cdv A outer s H vs Q E hr h => ?_)
  · obtain ⟨p, m, st, rfl, _⟩ := h; rfl
  · obtain ⟨p, m, st, rfl, hp, hm1, hm2, hs1, hs2, q⟩ := h
    refine ⟨_, pss_cons (ps_asg (pe_tup (pa_cons (pe_call G1 hr (by rfl) g1 kp1 b1 .nil pass0 (pa_cons (pv 0) (pa_cons pe_int pa_nil)))
        (pa_cons (pe_op op_add pe_int (pe_call G1 hr (by rfl) g1 kp1 b1 .nil pass0 (pa_cons (pv 0) (pa_cons (pv 1) pa_nil)))) pa_nil)))
        (pg_tup rfl (pgs_cons (pg_name (i := 3) sc_l_work.nd rfl (.inr rfl)) (pgs_cons (pg_name (i := 4) sc_l_work.nd rfl (.inl rfl)) pgs_nil))))
      (pss_cons (ps_setLc (i := 5) (own := [("_law_turn", 6)]) (g := gName 6) (tt := tYes) rfl sc_l_work.nd rfl rfl (sw_true rfl rfl rfl (by decide +kernel)) (pi_range1 (by rfl) m1 (pa_cons (pv 4) pa_nil))
          (blkOk_by (N := ["_law_pen_here", "_law_most", "_law_stations", "_law_way", "_law_long", "_law_items", "_law_turn"]) (sc := defScope s_l_work) (by decide +kernel))
          (fun _ _ _ _ _ => pg_name (i := 6) sc_l_work.nd rfl (Or.inl rfl)) (fun _ _ _ _ _ => pts_nil)
          (fun _ _ _ _ _ => pe_ifExp (pt_cmpR op_ge (pe_call G1 hr (by rfl) g1 kp1 b1 .nil pass0 (pa_cons (pv 0) (pa_cons pe_int pa_nil))) (pv 3) (nomark _))
            (pe_call G1 hr (by rfl) g1 kp1 b1 .nil pass0 (pa_cons (pv 0) (pa_cons (pv 2) pa_nil))) (pe_un un_neg pe_int)))
      (pss_cons (ps_asg (pe_tup (pa_cons (pe_call G1 hr (by rfl) g1 kp1 b1 .nil pass0 (pa_cons (pv 0) (pa_cons (pv 2) pa_nil))) (pa_cons (pe_call G1 hr (by rfl) g1 kp1 b1 .nil pass0 (pa_cons (pv 0) (pa_cons (pv 2) pa_nil))) pa_nil)))
        (pg_tup rfl (pgs_cons (pg_sub (pv 5) pe_int set_list) (pgs_cons (pg_sub (pv 5) (pe_un un_neg pe_int) set_list) pgs_nil))))
      (pss_one (ps_ret (pe_callTy call_tupleF (by rfl) m2 (by decide +kernel) (pa_cons (pv 5) pa_nil)))))), ?_⟩
    refine ⟨.ref p, rfl, p, 3, rfl, hp, by decide, by decide, fun H1 way a1 a2 p1 e1 => ?_⟩
    refine ⟨.ref p, rfl, .int m, rfl, p, m, rfl, p1, by omega, by omega, fun H2 l0 a3 a4 p2 e2 => ?_⟩
    refine ⟨1, l0, rfl, rfl, by show 2 ≤ sizeLine; decide, fun T nT => ?_⟩
    have e12 := e1.trans e2
    have p3 : PenAt (upd H2 T (.tup [.int way, .int (1 + l0)])) p := p2.upd (p2.ne nT)
    have e3 : But p H (upd H2 T (.tup [.int way, .int (1 + l0)])) := e12.trans (.of (same_new nT))
    refine ⟨T, _, rfl, .of upd_same, rfl, _, _, rfl, _, _, rfl, rfl, ?_⟩
    generalize hH3 : upd H2 T (.tup [.int way, .int (1 + l0)]) = H3 at p3 e3 ⊢
    refine ⟨.int (1 + l0), rfl, 1 + l0, rfl, by omega, by omega, fun D hD => ?_⟩
    have n3 : p ≠ D := p3.ne hD
    refine lc_range (lo := 0) (n := (1 + l0).toNat) (fun i H' => PenAt H' p ∧ But p H3 H' ∧ ∃ ns : List Int, ns.length = i ∧ (∀ x ∈ ns, -1 ≤ x ∧ x < st) ∧ H' D = some (.lst (ns.map V.int)))
      ⟨p3.upd n3, .of (same_new hD), [], rfl, (fun x hx => nomatch hx), upd_same⟩ (fun i H' hi h => ?_) (fun H' h => ?_)
    · obtain ⟨p4, e4, ns, hlen, hall, hDl⟩ := h
      refine ⟨rfl, ?_⟩
      have fin : ∀ (H'' : Hp) (r : Int), PenAt H'' p → But p H' H'' → -1 ≤ r → r < st → ∃ acc, H'' D = some (.lst acc) ∧ acc.length < sizeLine ∧
          (PenAt (upd H'' D (.lst (acc ++ [V.int r]))) p ∧ But p H3 (upd H'' D (.lst (acc ++ [V.int r]))) ∧ ∃ ns : List Int, ns.length = i + 1 ∧ (∀ x ∈ ns, -1 ≤ x ∧ x < st) ∧ (upd H'' D (.lst (acc ++ [V.int r]))) D = some (.lst (ns.map V.int))) := by
        intro H'' r p5 e5 r1 r2
        have hD5 := e5 _ _ (Ne.symm n3) hDl
        refine ⟨_, hD5, ?_, p5.upd n3, fun b o n e => ?_, ns ++ [r], ?_, fun x hx => ?_, ?_⟩
        · rw [List.length_map]
          exact small1000 (by omega)
        · rw [upd_ne (ne_of_none e hD)]
          exact e5 _ _ n (e4 _ _ n e)
        · rw [List.length_append]; show ns.length + 1 = i + 1; omega
        · rcases List.mem_append.mp hx with z | z
          · exact hall x z
          · rw [List.mem_singleton.mp z]; exact ⟨r1, r2⟩
        · rw [upd_same, List.map_append]; rfl
      refine ⟨.ref p, rfl, p, 3, rfl, p4, by decide, by decide, fun H5 r b1 b2 p5 e5 => ?_⟩
      refine ⟨.int way, rfl, r, way, rfl, rfl, _, rfl, ite2 (fun _ => ?_) (fun _ => ?_)⟩
      · exact ⟨.ref p, rfl, .int st, rfl, p, st, rfl, p5, by omega, by omega, fun H6 r' c1 c2 p6 e6 => fin H6 r' p6 (e5.trans e6) (by omega) c2⟩
      · exact ⟨1, rfl, fin H5 (-1) p5 e5 (by omega) (by omega)⟩
    · obtain ⟨p4, e4, ns, hlen, hall, hDl⟩ := h
      refine ⟨.ref p, rfl, .int st, rfl, p, st, rfl, p4, by omega, by omega, fun H5 r c1 c2 p5 e5 => ?_⟩
      refine ⟨.ref p, rfl, .int st, rfl, p, st, rfl, p5, by omega, by omega, fun H6 r' c3 c4 p6 e6 => ?_⟩
      refine ⟨by show 2 ≤ sizeLine; decide, fun U nU => ?_⟩
      have hD6 := (e5.trans e6) _ _ (Ne.symm n3) hDl
      have nDU : D ≠ U := ne_of_none hD6 nU
      have hl0 : 0 < ns.length := by omega
      have hpos : ((ns.map V.int).length : Nat) = ns.length := by rw [List.length_map]
      refine ⟨U, _, rfl, .of upd_same, rfl, _, _, rfl, ?_⟩
      have hD7 : (upd H6 U (.tup [.int r, .int r'])) D = some (.lst (ns.map V.int)) := by rw [upd_ne nDU]; exact hD6
      have ix0 : ixN (ns.map V.int).length 0 = some 0 := by
        unfold ixN
        rw [if_pos (by decide), if_pos (by rw [hpos]; omega)]; rfl
      refine ⟨.ref D, rfl, D, _, 0, 0, rfl, rfl, hD7, ix0, ?_⟩
      have hD8 : (upd (upd H6 U (.tup [.int r, .int r'])) D (.lst ((ns.map V.int).set 0 (.int r)))) D = some (.lst ((ns.map V.int).set 0 (.int r))) := upd_same
      have ix1 : ixN ((ns.map V.int).set 0 (.int r)).length (-1) = some (ns.length - 1) := by
        unfold ixN
        rw [List.length_set, hpos, if_neg (by decide), if_pos (by omega)]
        congr 1
        omega
      refine ⟨_, _, rfl, .ref D, rfl, 1, rfl, D, _, -1, ns.length - 1, rfl, rfl, hD8, ix1, rfl, ?_⟩
      have eL : (((ns.map V.int).set 0 (.int r)).set (ns.length - 1) (.int r')) = (((ns.set 0 r).set (ns.length - 1) r').map V.int) := by rw [List.map_set, List.map_set]
      rw [eL]
      have hD9 : (upd (upd (upd H6 U (.tup [.int r, .int r'])) D (.lst ((ns.map V.int).set 0 (.int r)))) D (.lst (((ns.set 0 r).set (ns.length - 1) r').map V.int))) D = some (.lst (((ns.set 0 r).set (ns.length - 1) r').map V.int)) := upd_same
      have mem : ∀ x ∈ ((ns.set 0 r).set (ns.length - 1) r'), -1 ≤ x ∧ x < st := by
        intro x hx
        rcases List.mem_or_eq_of_mem_set hx with z | z
        · rcases List.mem_or_eq_of_mem_set z with z | z
          · exact hall x z
          · rw [z]; exact ⟨by omega, c2⟩
        · rw [z]; exact ⟨by omega, c4⟩
      have len' : ((ns.set 0 r).set (ns.length - 1) r').length = ns.length := by rw [List.length_set, List.length_set]
      refine ⟨.ref D, rfl, D, _, rfl, .of hD9, fun t ob nt c1 d1 => ?_⟩
      refine q _ t ((ns.set 0 r).set (ns.length - 1) r') ?_ ?_ ?_ ⟨ob, upd_same, c1, d1⟩ ⟨by omega, by omega, fun x hx => ?_, fun x hx => ?_, fun x hx => ?_⟩ (by omega) (fun x hx => (mem x hx).2)
      · refine PenAt.upd (PenAt.upd (PenAt.upd (p6.upd (p6.ne nU)) n3) n3) (PenAt.ne (PenAt.upd (PenAt.upd (p6.upd (p6.ne nU)) n3) n3) nt)
      · refine fun b o n e => ?_
        have z := (e5.trans e6) _ _ n (e4 _ _ n (e3 _ _ n e))
        have nbD : b ≠ D := ne_of_none (e3 _ _ n e) hD
        have nbU : b ≠ U := ne_of_none z nU
        rw [upd_ne (ne_of_none (show (upd (upd (upd H6 U (.tup [.int r, .int r'])) D (.lst ((ns.map V.int).set 0 (.int r)))) D (.lst (((ns.set 0 r).set (ns.length - 1) r').map V.int))) b = some o by rw [upd_ne nbD, upd_ne nbD, upd_ne nbU]; exact z) nt), upd_ne nbD, upd_ne nbD, upd_ne nbU]
        exact z
      · -- t is new
        have nt6 : H6 t = none := by
          have z := nt
          have htD : t ≠ D := fun z' => by rw [z', hD9] at z; exact nomatch z
          rw [upd_ne htD, upd_ne htD] at z
          by_cases htU : t = U
          · rw [htU]; exact nU
          · rwa [upd_ne htU] at z
        exact hp.free p6 (e3.trans (e4.trans (e5.trans e6))) nt6
      · exact ⟨(mem x hx).1, by have := (mem x hx).2; omega⟩
      · have : x = r ∨ x = r' := by
          rw [List.getElem?_set] at hx
          split at hx
          · rw [if_pos (by rw [List.length_set]; omega)] at hx
            exact .inr (Option.some.inj hx).symm
          · rw [List.getElem?_set, if_pos rfl, if_pos hl0] at hx
            exact .inl (Option.some.inj hx).symm
        omega
      · rw [len', List.getElem?_set, if_pos rfl, if_pos (by rw [List.length_set]; omega)] at hx
        have := Option.some.inj hx
        omega
end
end Sg

set_option Elab.async false
set_option linter.all false
set_option maxRecDepth 100000
set_option maxHeartbeats 4000000
namespace Sg
open PySem PySem.Spec PyProof.Rows L2 StX
section
variable {P : Program} {w : World} {K : PySem.W.Frag} {mg : Str → Option Value} {base : Heap}
/-! ### _law_odds -/
/-- a list of some data, made of what is new -/
def spAnys (K : PySem.W.Frag) : Sp := fun vs H Q _ => vs = [] ∧ ∀ H' l xs, Same H H' → H l = none → H' l = some (.lst xs) → AllAny K (nw H H') xs → xs.length ≤ 100 → Q (.ref l) H'
/-- from H0 on: a list of some data at l -/
def AnyL (K : PySem.W.Frag) (H0 H : Hp) (n : Nat) (l : Addr) : Prop := ∃ xs, Same H0 H ∧ H0 l = none ∧ H l = some (.lst xs) ∧ AllAny K (nw H0 H) xs ∧ xs.length = n
theorem AnyL.cat {H0 H H' : Hp} {n m : Nat} {l l' : Addr} (h : AnyL K H0 H n l) (g : AnyL K H H' m l') (e : n + m ≤ 1000) {Q : VK} (q : ∀ H'' p, AnyL K H0 H'' (n + m) p → Q (.ref p) H'') : rCat (.ref l) (.ref l') H' Q := by
  obtain ⟨xs, a1, a2, a3, a4, a5⟩ := h
  obtain ⟨ys, b1, b2, b3, b4, b5⟩ := g
  have big : 1000 ≤ sizeLine := by rw [sizeLine_eq]; decide
  refine ⟨l, l', xs, ys, rfl, rfl, b1 _ _ a3, b3, by omega, fun p np => q _ p ⟨xs ++ ys, a1.trans (b1.trans (same_new np)), same_none (a1.trans b1) np, upd_same, ?_, by rw [List.length_append]; omega⟩⟩
  refine AllAny.app (a4.same (nw_same (b1.trans (same_new np)))) ((b4.same (nw_left a1)).same (nw_same (same_new np)))
theorem tAnyL.at {n : Nat} {σ : L2.St} {H : Hp} {Q : VK} (q : ∀ H' l, AnyL K H H' n l → Q (.ref l) H') : tAnyL K n σ H Q := fun H' l vs e1 e2 e3 e4 e5 => q H' l ⟨vs, e1, e2, e3, e4, e5⟩
theorem ok_l_odds {f : Addr} {fd : FuncData} {k : Nat} (F : Fun K "_law_odds" "_law_odds" s_l_odds f fd) : FnOk P w K mg base CX0 (k + 1) f fd [] (spAnys K) := by
  refine F.ok sc_l_odds (fun vs H Q E h => ?_) (fun cdv A outer s H vs Q E hr h => ?_)
  · rw [h.1]; rfl
  · obtain ⟨rfl, q⟩ := h
    refine ⟨_, pss_cons (ps_set (i := 0) sc_l_odds.nd rfl (.inl rfl) (pe_anyL (n := 20) (by decide +kernel) rfl (by decide)))
      (pss_cons (ps_set (i := 0) sc_l_odds.nd rfl (.inl rfl) (pe_op op_cat (pv 0) (pe_anyL (n := 11) (by decide +kernel) rfl (by decide))))
      (pss_cons (ps_set (i := 0) sc_l_odds.nd rfl (.inl rfl) (pe_op op_cat (pv 0) (pe_anyL (n := 9) (by decide +kernel) rfl (by decide))))
      (pss_cons (ps_set (i := 0) sc_l_odds.nd rfl (.inl rfl) (pe_op op_cat (pv 0) (pe_anyL (n := 9) (by decide +kernel) rfl (by decide))))
      (pss_one (ps_ret (pe_op op_cat (pv 0) (pe_anyL (n := 9) (by decide +kernel) rfl (by decide)))))))), ?_⟩
    refine fun H1 l1 x1 a1 a2 a3 a4 a5 => ⟨.ref l1, rfl, fun H2 l2 x2 b1 b2 b3 b4 b5 => AnyL.cat (K := K) ⟨x1, a1, a2, a3, a4, a5⟩ ⟨x2, b1, b2, b3, b4, b5⟩ (by decide) fun H3 p3 A3 => ?_⟩
    refine ⟨.ref p3, rfl, fun H2 l2 x2 b1 b2 b3 b4 b5 => A3.cat ⟨x2, b1, b2, b3, b4, b5⟩ (by decide) fun H5 p5 A5 => ?_⟩
    refine ⟨.ref p5, rfl, fun H2 l2 x2 b1 b2 b3 b4 b5 => A5.cat ⟨x2, b1, b2, b3, b4, b5⟩ (by decide) fun H7 p7 A7 => ?_⟩
    refine ⟨.ref p7, rfl, fun H2 l2 x2 b1 b2 b3 b4 b5 => A7.cat ⟨x2, b1, b2, b3, b4, b5⟩ (by decide) fun H9 p9 A9 => ?_⟩
    obtain ⟨xs, a1, a2, a3, a4, a5⟩ := A9
    exact q H9 p9 xs a1 a2 a3 a4 (by omega)
/-! ### _law_great -/
def deepD : Nat → PyData
  | 0 => .int 0
  | n + 1 => .tuple [deepD n]
theorem rep_any {H0 H : Hp} {p : Addr} {i : Int} {n : Nat} (h0 : H0 p = none) (hi : i = 0 ∨ i = -1) (hn : n ≤ 4000) : AnyV K (nw H0 (upd H p (.tup (List.replicate n [V.int i]).flatten))) (.ref p) := by
  have sm : SmL 1 [PyData.int i] := by rcases hi with rfl | rfl <;> exact smL_by (by decide +kernel)
  exact ⟨.tuple (List.replicate n [.int i]).flatten, .data (.tup (.of ((nw_none h0).trans upd_same)) (DpAll.rep (.cons (.int i) .nil) n)), (sm.rep n).tup (by omega)⟩
theorem repl_any {H0 H : Hp} {p : Addr} {i : Int} {n : Nat} (h0 : H0 p = none) (hi : i = 0 ∨ i = -1) (hn : n ≤ 4000) : AnyV K (nw H0 (upd H p (.lst (List.replicate n [V.int i]).flatten))) (.ref p) := by
  have sm : SmL 1 [PyData.int i] := by rcases hi with rfl | rfl <;> exact smL_by (by decide +kernel)
  exact ⟨.list (List.replicate n [.int i]).flatten, .data (.lst (.of ((nw_none h0).trans upd_same)) (DpAll.rep (.cons (.int i) .nil) n)), (sm.rep n).lst (by omega)⟩
/-- the state of _law_great at its end -/
def GreatS (K : PySem.W.Frag) (H0 : Hp) (σ : L2.St) (H : Hp) : Prop := ∃ v x, σ = [some v, x] ∧ Same H0 H ∧ Tp K (nw H0 H) v (deepD 18)
def GreatR (K : PySem.W.Frag) (H0 : Hp) (H : Hp) (v : V) : Prop := Same H0 H → AnyV K (nw H0 H) v
theorem ok_l_great {f : Addr} {fd : FuncData} {k : Nat} (F : Fun K "_law_great" "_law_great" s_l_great f fd) (m1 : mg "range" = none) : FnOk P w K mg base CX0 (k + 1) f fd [] (spAnys K) := by
  refine F.ok sc_l_great (fun vs H Q E h => ?_) (fun cdv A outer s H vs Q E hr h => ?_)
  · rw [h.1]; rfl
  · obtain ⟨rfl, q⟩ := h
    have stS : ∀ σ H1 H2, Same H1 H2 → GreatS K H σ H1 → GreatS K H σ H2 := fun σ H1 H2 e ⟨v, x, e1, e2, e3⟩ => ⟨v, x, e1, e2.trans e, e3.stay (.of (nw_same e))⟩
    have stR : ∀ (H1 H2 : Hp) v, Same H1 H2 → AnyV K (nw H H1) v → AnyV K (nw H H2) v := fun H1 H2 v e h => h.same (nw_same e)
    have pos : ∀ {m : Nat}, m ≤ 100000 → m ≤ sizeLine := fun h => Nat.le_trans h (by rw [sizeLine_eq]; decide)
    refine ⟨_, pss_cons (ps_set (i := 0) sc_l_great.nd rfl (.inl rfl) pe_int)
      (pss_cons (ps_for PassesOwn.never rfl (pi_range1 (by rfl) m1 (pa_cons pe_int pa_nil)) (pg_name (i := 1) sc_l_great.nd rfl (.inl rfl))
        (pss_one (ps_set (i := 0) sc_l_great.nd rfl (.inl rfl) (pe_tup (pa_cons (pv 0) pa_nil)))))
      (pss_one (ps_ret (pe_lst (pa_e (S := GreatS K H) (R := fun H' v => AnyV K (nw H H') v) stS stR (PE.e (pv 0) fun σ H1 Q1 hS q1 => ?_)
        (pa_e stS stR (PE.e (pe_op op_repB (pe_tup (pa_cons pe_int pa_nil)) pe_int) fun σ H1 Q1 hS q1 => ?_)
        (pa_e stS stR (PE.e (pe_op op_rep (pe_lst (pa_cons pe_int pa_nil)) pe_int) fun σ H1 Q1 hS q1 => ?_)
        (pa_e stS stR (PE.e (pe_op op_repB (pe_tup (pa_cons (pe_un un_neg pe_int) pa_nil)) pe_int) fun σ H1 Q1 hS q1 => ?_)
        (pa_e stS stR (PE.e (pe_disp (pps_cons pe_int (pv 0) pps_nil) rfl rfl (fun z => nomatch z) (by show 1 ≤ 15; decide)) fun σ H1 Q1 hS q1 => ?_)
        (pa_e stS stR (PE.e (pe_tup (pa_cons (pe_op op_repB (pe_tup (pa_cons pe_int pa_nil)) pe_int) (pa_cons (pv 0) pa_nil))) fun σ H1 Q1 hS q1 => ?_)
        (pa_e stS stR (PE.e (pe_tup (pa_cons (pe_op op_mulS pe_str pe_int) pa_nil)) fun σ H1 Q1 hS q1 => ?_) pa_e0))))))))))), ?_⟩
    · obtain ⟨v, x, rfl, sm, hT⟩ := hS
      exact ⟨v, rfl, q1 H1 v (same_refl H1) ⟨_, .data (Tp.dp hT), good_by (by decide +kernel)⟩⟩
    · obtain ⟨v, x, rfl, sm, hT⟩ := hS
      refine ⟨pos (by decide), fun t nt => ⟨t, 3000, _, rfl, rfl, .of upd_same, (fun z => nomatch z), by decide, by decide, fun p np => ?_⟩⟩
      have e1 := (same_new (o := .tup [V.int 0]) nt).trans (same_new (o := .tup (List.replicate 3000 [V.int 0]).flatten) np)
      exact q1 _ _ e1 (rep_any (same_none (sm.trans (same_new nt)) np) (.inl rfl) (by decide))
    · obtain ⟨v, x, rfl, sm, hT⟩ := hS
      refine ⟨pos (by decide), fun t nt => ⟨t, 3000, _, rfl, rfl, upd_same, by decide, by decide, pos (by decide), fun p np => ?_⟩⟩
      have e1 := (same_new (o := .lst [V.int 0]) nt).trans (same_new (o := .lst (List.replicate 3000 [V.int 0]).flatten) np)
      exact q1 _ _ e1 (repl_any (same_none (sm.trans (same_new nt)) np) (.inl rfl) (by decide))
    · obtain ⟨v, x, rfl, sm, hT⟩ := hS
      refine ⟨1, rfl, pos (by decide), fun t nt => ⟨t, 2000, _, rfl, rfl, .of upd_same, (fun z => nomatch z), by decide, by decide, fun p np => ?_⟩⟩
      have e1 := (same_new (o := .tup [V.int (-1)]) nt).trans (same_new (o := .tup (List.replicate 2000 [V.int (-1)]).flatten) np)
      exact q1 _ _ e1 (rep_any (same_none (sm.trans (same_new nt)) np) (.inr rfl) (by decide))
    · obtain ⟨v, x, rfl, sm, hT⟩ := hS
      intro p np
      refine ⟨v, rfl, upd_same, [(.inl 0, v)], rfl, by show 1 ≤ 15; decide, ?_⟩
      have e2 : Same H1 (L2.upd (L2.upd H1 p (.dK [])) p (.dK (mergeK [] [(.inl 0, v)]))) := fun b o z => by
        rw [upd_ne (ne_of_none z np), upd_ne (ne_of_none z np)]; exact z
      exact q1 _ _ e2 ⟨.dict [(.int 0, deepD 18)], .dic ((nw_none (same_none sm np)).trans upd_same) (.one (hT.stay (.of (nw_same e2)))), good_by (by decide +kernel)⟩
    · obtain ⟨v, x, rfl, sm, hT⟩ := hS
      refine ⟨pos (by decide), fun t nt => ⟨t, 900, _, rfl, rfl, .of upd_same, (fun z => nomatch z), by decide, by decide, fun p np => ?_⟩⟩
      have e1 := (same_new (o := .tup [V.int 0]) nt).trans (same_new (o := .tup (List.replicate 900 [V.int 0]).flatten) np)
      have hp0 := same_none (sm.trans (same_new nt)) np
      have hp1 : (upd (upd H1 t (.tup [V.int 0])) p (.tup (List.replicate 900 [V.int 0]).flatten)) p = some (.tup (List.replicate 900 [V.int 0]).flatten) := upd_same
      generalize upd (upd H1 t (.tup [V.int 0])) p (.tup (List.replicate 900 [V.int 0]).flatten) = H2 at e1 hp1 ⊢
      refine ⟨v, rfl, pos (by show 2 ≤ 100000; decide), fun r nr => ?_⟩
      have sm2 := sm.trans e1
      refine q1 _ _ (e1.trans (same_new nr)) ⟨.tuple [.tuple (List.replicate 900 [PyData.int 0]).flatten, deepD 18], .data (.tup (.of ((nw_none (same_none sm2 nr)).trans upd_same)) (.cons (.tup (.of ?_) (DpAll.rep (.cons (.int 0) .nil) 900)) (.cons (Tp.dp (hT.stay (.of (nw_same (e1.trans (same_new nr)))))) .nil))), ?_⟩
      · rw [nw_none hp0]; exact same_new nr _ _ hp1
      · have s1 : SmL 1 [PyData.int 0] := smL_by (by decide +kernel)
        have s2 : SmL 2000 [PyData.tuple (List.replicate 900 [PyData.int 0]).flatten] := SmL.one ((s1.rep 900).tup (by decide)) (by decide +kernel) (by have := (s1.rep 900).bk; simp only [PyData.bulk]; omega)
        have s3 : SmL 2000 [deepD 18] := smL_by (by decide +kernel)
        exact (SmL.cons s2 s3).tup (by decide)
    · obtain ⟨v, x, rfl, sm, hT⟩ := hS
      refine ⟨_, 900, rfl, rfl, by decide, by decide, by decide, pos (by decide), fun t nt => ?_⟩
      refine q1 _ _ (same_new nt) ⟨.tuple [.str (repS _ 900)], .data (.tup (.of ((nw_none (same_none sm nt)).trans upd_same)) (.cons (.str _) .nil)), (smL_rep (by decide +kernel)).tup (by decide)⟩
    · refine ⟨18, rfl, by decide, by decide, ?_⟩
      refine for_range (lo := 0) (n := 18) (fun i σ H' => ∃ v x, σ = [some v, x] ∧ Same H H' ∧ Tp K (nw H H') v (deepD i)) ⟨.int 0, _, rfl, same_refl H, .int 0⟩ ?_ ?_
      · rintro i σ H5 hi ⟨v, x, rfl, sm, hT⟩
        refine ⟨v, rfl, pos (by show 1 ≤ 100000; decide), fun t nt => ⟨.ref t, _, rfl, sm.trans (same_new nt), ?_⟩⟩
        exact .tu (.of ((nw_none (same_none sm nt)).trans upd_same)) (.on (hT.stay (.of (nw_same (same_new nt)))) .no)
      · rintro σ H5 ⟨v, x, rfl, sm, hT⟩
        refine ⟨⟨v, x, rfl, sm, hT⟩, fun H6 vs e6 hvs hl => ⟨pos (by omega), fun l nl => ?_⟩⟩
        exact q _ l vs ((sm.trans e6).trans (same_new nl)) (same_none (sm.trans e6) nl) upd_same (AllAny.same (nw_same (same_new nl)) hvs) (by omega)
end
end Sg

set_option Elab.async false
set_option linter.all false
set_option maxRecDepth 100000
set_option maxHeartbeats 4000000
namespace Sg
open PySem PySem.Spec PyProof.Rows L2 StX
theorem call_str_intK {X : Cx} : CallR X (.type "str") (fun xs H Q => ∃ i, xs = [.int i] ∧ i.natAbs.log2 < 1920 ∧ Q (.str (toString i)) H) := call_str_int
theorem str_table : ∀ i ∈ smallI, smB 10 [.str (toString i : String)] = true ∧ i.natAbs.log2 < 1920 := by decide +kernel
section
variable {P : Program} {w : World} {K : PySem.W.Frag} {mg : Str → Option Value} {base : Heap}
/-! ### _law_pick -/
def spPickA : Sp := fun vs H Q _ => ∃ (p l : Addr) (xs : List V), vs = [.ref p, .ref l] ∧ PenAt H p ∧ H l = some (.lst xs) ∧ l ≠ p ∧ xs ≠ [] ∧ xs.length ≤ 1000 ∧ ∀ H' x, x ∈ xs → PenAt H' p → But p H H' → Q x H'
theorem ok_l_pickA {f f1 : Addr} {fd fd1 : FuncData} {k : Nat} (F : Fun K "_law_pick" "_law_pick" s_l_pick f fd)
    (G1 : FnOk P w K mg base CX0 k f1 fd1 ["_law_pen_here", "_law_many"] spDraw) (kp1 : PySem.W.keepIn K (.ref f1) = true) (b1 : Binds K fd1 ["_law_pen_here", "_law_many"] []) (g1 : mg "_law_draw" = some (.ref f1)) (m1 : mg "len" = none) :
    FnOk P w K mg base CX0 (k + 1) f fd ["_law_pen_here", "_law_some"] spPickA := by
  refine F.ok sc_l_pick (fun vs H Q E h => ?_) (fun cdv A outer s H vs Q E hr h => ?_)
  · obtain ⟨p, l, xs, rfl, _⟩ := h; rfl
  · obtain ⟨p, l, xs, rfl, hp, hl, nlp, hne, hz, q⟩ := h
    refine ⟨_, pss_one (ps_ret (pe_ix ix_list (pv 1) (pe_call G1 hr (by rfl) g1 kp1 b1 .nil pass0 (pa_cons (pv 0) (pa_cons (pe_callB call_len_seq (by rfl) m1 PySem.boot_len (pa_cons (pv 1) pa_nil)) pa_nil))) (fun _ _ => rfl))), ?_⟩
    have h0 := List.length_pos_iff.mpr hne
    refine ⟨.ref l, rfl, .ref p, rfl, .ref l, rfl, l, xs, rfl, .inl (.of hl), p, _, rfl, hp, by omega, by omega, fun H' r r0 r1 p' e' => ?_⟩
    obtain ⟨i, rfl⟩ : ∃ i : Nat, r = i := ⟨r.toNat, by omega⟩
    have hi : i < xs.length := by omega
    exact ⟨l, xs, (i : Nat), xs[i], rfl, rfl, .of (e' _ _ nlp hl), atI_nat (List.getElem?_eq_getElem hi), q H' _ (List.getElem_mem hi) p' e'⟩
/-! ### _law_bend -/
/-- the state of _law_bend, behind its draws; H0: the heap it is called at -/
structure BendH (K : PySem.W.Frag) (H0 : Hp) (p a : Addr) (ns : List Int) (v1 : V) (H : Hp) : Prop where
  pen : PenAt H p
  row : SqT K H a (ns.map V.int)
  one : SmV K (wl H0 H) v1
  bt : But p H0 H
theorem BendH.same {H0 : Hp} {p a : Addr} {ns : List Int} {v1 : V} {H H' : Hp} (h : BendH K H0 p a ns v1 H) (e : Same H H') : BendH K H0 p a ns v1 H' := ⟨h.pen.same e, Same.tup e h.row, h.one.same (wl_same e), h.bt.trans (.of e)⟩
def BendS (K : PySem.W.Frag) (H0 : Hp) (p a : Addr) (ns : List Int) (v1 : V) (sp : Nat) (x4 : Option V) (σ : L2.St) (H : Hp) : Prop := σ = [some (.ref p), some (.ref a), some v1, some (.int sp), x4, none] ∧ BendH K H0 p a ns v1 H
def BendR (K : PySem.W.Frag) (H0 : Hp) (H : Hp) (v : V) : Prop := AnyV K (wl H0 H) v
/-- a tuple of what may be shown -/
theorem tup_anyW {H0 : Hp} {p b : Addr} {H : Hp} {xs : List V} {ds : List PyData} {k : Nat} (hp : PenAt H p) (bt : But p H0 H) (h : SqT K H b xs) (hd : DpAll K (wl H0 H) xs ds) (g : SmL k ds) (e : k ≤ 400000) : AnyV K (wl H0 H) (.ref b) :=
  ⟨_, .data (.tup (hp.wl bt h) hd), g.tup e⟩
theorem tup_ints {H0 : Hp} {p b : Addr} {H : Hp} {ns : List Int} (hp : PenAt H p) (bt : But p H0 H) (h : SqT K H b (ns.map V.int)) (hn : ∀ x ∈ ns, -1 ≤ x ∧ x ≤ 9) (hl : ns.length ≤ 1000) : AnyV K (wl H0 H) (.ref b) :=
  tup_anyW hp bt h (dpInts ns) (smL_ints hn) (by omega)
theorem cut_ints (ns : List Int) (lo hi : Option Int) : cutV (ns.map V.int) lo hi = (cutV (ns.map V.int) lo hi) := rfl
theorem cut_len {xs : List V} {lo hi : Option Int} : (cutV xs lo hi).length ≤ xs.length := by
  unfold cutV
  rw [List.length_take, List.length_drop]; omega
variable {H0 : Hp} {p a : Addr} {ns : List Int} {v1 : V} {sp : Nat} {x4 : Option V}
def tMid (K : PySem.W.Frag) (tl : TO) : TE :=
    tOp (fun x y H Q => ∃ a b xs ys, x = .ref a ∧ y = .ref b ∧ SqT K H a xs ∧ SqT K H b ys ∧ xs.length + ys.length ≤ sizeLine ∧ ∀ H' c, Same H H' → SqT K H' c (xs ++ ys) → Q (.ref c) H')
      (tOp (fun x y H Q => ∃ a b xs ys, x = .ref a ∧ y = .ref b ∧ SqT K H a xs ∧ SqT K H b ys ∧ xs.length + ys.length ≤ sizeLine ∧ ∀ H' c, Same H H' → SqT K H' c (xs ++ ys) → Q (.ref c) H')
        (tSl (fun x lo hi H Q => ∃ a xs, x = .ref a ∧ SqT K H a xs ∧ ∀ H' b, Same H H' → SqT K H' b (cutV xs lo hi) → Q (.ref b) H') (tVar 1) tNoPart (tPart (tVar 3)))
        (tTup (tCons (tVar 2) tNil)))
      (tSl (fun x lo hi H Q => ∃ a xs, x = .ref a ∧ SqT K H a xs ∧ ∀ H' b, Same H H' → SqT K H' b (cutV xs lo hi) → Q (.ref b) H') (tVar 1) tl tNoPart)
/-- row[:spot] + (one,) + row[lo:] -/
theorem bend_mid {tl : TO} {σ : L2.St} {H : Hp} {Q : VK} (hn : ∀ x ∈ ns, -1 ≤ x ∧ x ≤ 9) (hl : ns.length ≤ 60) (hS : BendS K H0 p a ns v1 sp x4 σ H) (q : ∀ H' v, Same H H' → BendR K H0 H' v → Q v H')
    (hth : ∀ H' (Q' : Option Int → Hp → Prop), BendH K H0 p a ns v1 H' → (∀ o, Q' o H') → tl σ H' Q') : tMid K tl σ H Q := by
  obtain ⟨rfl, hB⟩ := hS
  have big : 1000 ≤ sizeLine := by rw [sizeLine_eq]; decide
  have lm : (ns.map V.int).length = ns.length := List.length_map _
  refine ⟨.ref a, rfl, .int sp, rfl, _, rfl, a, _, rfl, hB.row, fun H1 b1 e1 h1 => ?_⟩
  refine ⟨v1, rfl, by show 1 ≤ sizeLine; omega, fun t nt => ?_⟩
  have ht : (upd H1 t (.tup [v1])) t = some (.tup [v1]) := upd_same
  have e2 : Same H (upd H1 t (.tup [v1])) := e1.trans (same_new nt)
  have h2 := Same.tup (same_new (o := .tup [v1]) nt) h1
  generalize upd H1 t (.tup [v1]) = H2 at ht e2 h2 ⊢
  have c1 := cut_len (xs := ns.map V.int) (lo := none) (hi := some (sp : Int))
  refine ⟨b1, t, _, _, rfl, rfl, h2, .of ht, by show _ + 1 ≤ _; omega, fun H3 b3 e3 h3 => ?_⟩
  refine ⟨.ref a, rfl, hth H3 _ (hB.same (e2.trans e3)) fun o => ?_⟩
  refine ⟨a, _, rfl, Same.tup (e2.trans e3) hB.row, fun H4 b4 e4 h4 => ?_⟩
  have c2 := cut_len (xs := ns.map V.int) (lo := o) (hi := none)
  refine ⟨b3, b4, _, _, rfl, rfl, Same.tup e4 h3, h4, by rw [List.length_append]; show _ + 1 + _ ≤ _; omega, fun H5 b5 e5 h5 => ?_⟩
  have eA := ((e2.trans e3).trans e4).trans e5
  have hB5 := hB.same eA
  obtain ⟨d, hd, gd⟩ := hB5.one
  obtain ⟨es1, k1, k2⟩ := DpAll.cut (dpInts (K := K) (H := wl H0 H5) ns) (smL_ints hn) none (some (sp : Int))
  obtain ⟨es2, k3, k4⟩ := DpAll.cut (dpInts (K := K) (H := wl H0 H5) ns) (smL_ints hn) o none
  exact q H5 _ eA (tup_anyW hB5.pen hB5.bt h5 (DpAll.app (DpAll.app k1 (.cons hd .nil)) k3) ((k2.app gd).app k4) (by omega))
end
end Sg

set_option Elab.async false
set_option linter.all false
set_option maxRecDepth 100000
set_option maxHeartbeats 4000000
namespace Sg
open PySem PySem.Spec PyProof.Rows L2 StX
theorem depth_ints : ∀ ns : List Int, PyData.depthAll (iD ns) = 0
  | [] => rfl
  | n :: ns => by
    show max (PyData.depth (.int n)) (PyData.depthAll (iD ns)) = 0
    rw [depth_ints ns]; rfl
theorem bulk_ints : ∀ ns : List Int, PyData.bulkAll (iD ns) = ns.length
  | [] => rfl
  | n :: ns => by
    show PyData.bulk (.int n) + 1 + PyData.bulkAll (iD ns) = ns.length + 1
    rw [bulk_ints ns]
    simp only [PyData.bulk]; omega
theorem smL_map {g : Int → PyData} (hg : ∀ x ∈ smallI, smB 10 [g x] = true) : ∀ {ns : List Int}, (∀ x ∈ ns, -1 ≤ x ∧ x ≤ 9) → SmL (ns.length * 10) (ns.map g)
  | [], _ => SmL.nil
  | n :: ns, h => by
    refine (SmL.cons (smL_by (hg n (mem_smallI (h n List.mem_cons_self)))) (smL_map hg fun x hx => h x (List.mem_cons_of_mem _ hx))).le ?_
    rw [List.length_cons]; omega
theorem dp_map {K : PySem.W.Frag} {H : Hp} {f : Int → V} {g : Int → PyData} (hf : ∀ x, Dp K H (f x) (g x)) : ∀ ns : List Int, DpAll K H (ns.map f) (ns.map g)
  | [] => .nil
  | n :: ns => .cons (hf n) (dp_map hf ns)
theorem bl_table : ∀ x ∈ smallI, smB 10 [.bool (decide (V.int x = V.int 1))] = true := by decide +kernel
section
variable {P : Program} {w : World} {K : PySem.W.Frag} {mg : Str → Option Value} {base : Heap}
def spBend (K : PySem.W.Frag) : Sp := fun vs H Q _ => ∃ (p a : Addr) (ns : List Int), vs = [.ref p, .ref a] ∧ PenAt H p ∧ SqT K H a (ns.map V.int) ∧ (∀ x ∈ ns, -1 ≤ x ∧ x ≤ 9) ∧ ns.length ≤ 60 ∧
  ∀ H' v, PenAt H' p → But p H H' → AnyV K (wl H H') v → Q v H'
theorem ok_l_bend {f f1 f2 : Addr} {fd fd1 fd2 : FuncData} {k : Nat} (F : Fun K "_law_bend" "_law_bend" s_l_bend f fd)
    (G1 : FnOk P w K mg base CX0 k f1 fd1 ["_law_pen_here", "_law_many"] spDraw) (kp1 : PySem.W.keepIn K (.ref f1) = true) (b1 : Binds K fd1 ["_law_pen_here", "_law_many"] []) (g1 : mg "_law_draw" = some (.ref f1))
    (G2 : FnOk P w K mg base CX0 k f2 fd2 ["_law_pen_here", "_law_some"] spPickA) (kp2 : PySem.W.keepIn K (.ref f2) = true) (b2 : Binds K fd2 ["_law_pen_here", "_law_some"] []) (g2 : mg "_law_pick" = some (.ref f2))
    (m1 : mg "len" = none) (m2 : mg "list" = none) (m3 : mg "tuple" = none) (m4 : mg "str" = none) :
    FnOk P w K mg base CX0 (k + 1) f fd ["_law_pen_here", "_law_row"] (spBend K) := by
  refine F.ok sc_l_bend (fun vs H Q E h => ?_) (fun cdv A outer s H vs Q E hr h => ?_)
  · obtain ⟨p, a, ns, rfl, _⟩ := h; rfl
  · obtain ⟨p, a, ns, rfl, hp, hrow, hn, hl, q⟩ := h
    have big : 1000 ≤ sizeLine := by rw [sizeLine_eq]; decide
    have stR : ∀ (H1 H2 : Hp) v, Same H1 H2 → AnyV K (wl H H1) v → AnyV K (wl H H2) v := fun H1 H2 v e h => h.same (wl_same e)
    let S : L2.St → Hp → Prop := fun σ H' => ∃ v1 sp x4, BendS K H p a ns v1 sp x4 σ H'
    have stS : ∀ σ H1 H2, Same H1 H2 → S σ H1 → S σ H2 := fun σ H1 H2 e ⟨v1, sp, x4, h⟩ => ⟨v1, sp, x4, h.1, h.2.same e⟩
    have lm : (ns.map V.int).length = ns.length := List.length_map _
    have mid : ∀ {σ : L2.St} {Hm : Hp} {Q : VK}, S σ Hm → (∀ H' v, Same Hm H' → AnyV K (wl H H') v → Q v H') → tMid K (tPart (tVar 3)) σ Hm Q := @fun σ Hm Q hS q => by
      obtain ⟨v1, sp, x4, hS⟩ := hS
      exact bend_mid hn hl hS q (fun H' Q' hB h => ⟨.int sp, by rw [hS.1]; rfl, _, rfl, h _⟩)
    have mid1 : ∀ {σ : L2.St} {Hm : Hp} {Q : VK}, S σ Hm → (∀ H' v, Same Hm H' → AnyV K (wl H H') v → Q v H') → tMid K (tPart (tOp rAdd (tVar 3) (tC (.int 1)))) σ Hm Q := @fun σ Hm Q hS q => by
      obtain ⟨v1, sp, x4, hS⟩ := hS
      exact bend_mid hn hl hS q (fun H' Q' hB h => ⟨.int sp, by rw [hS.1]; rfl, sp, 1, rfl, rfl, _, rfl, h _⟩)
    have cuts : ∀ (H1 : Hp) lo hi, ∃ es, DpAll K (wl H H1) (cutV (ns.map V.int) lo hi) es ∧ SmL ns.length es := fun H1 lo hi => DpAll.cut (dpInts ns) (smL_ints hn) lo hi
    have clen : ∀ lo hi, (cutV (ns.map V.int) lo hi).length ≤ ns.length := fun lo hi => by have := cut_len (xs := ns.map V.int) (lo := lo) (hi := hi); omega
    refine ⟨_, pss_cons (ps_set (i := 2) sc_l_bend.nd rfl (.inl rfl) (pe_call G2 hr (by rfl) g2 kp2 b2 .nil pass0 (pa_cons (pv 0) (pa_cons (pe_smL (n := 13) (by decide +kernel) rfl (by decide)) pa_nil))))
      (pss_cons (ps_set (i := 3) sc_l_bend.nd rfl (.inl rfl) (pe_call G1 hr (by rfl) g1 kp1 b1 .nil pass0 (pa_cons (pv 0) (pa_cons (pe_op op_add (pe_callB call_len_seq (by rfl) m1 PySem.boot_len (pa_cons (pv 1) pa_nil)) pe_int) pa_nil))))
      (pss_cons (ps_set (i := 4) sc_l_bend.nd rfl (.inl rfl) (pe_lst
        (pa_e (S := S) (R := fun H' v => AnyV K (wl H H') v) stS stR
          (PE.e (pe_op (op_catB (K := K) rfl) (pe_op (op_catB (K := K) rfl) (pe_slice (sl_tupB (K := K) rfl) (pv 1) po_none (po_some (pv 3))) (pe_tup (pa_cons (pv 2) pa_nil))) (pe_slice (sl_tupB (K := K) rfl) (pv 1) (po_some (pv 3)) po_none)) fun σ H1 Q1 hS q1 => mid hS q1)
        (pa_e stS stR (PE.e (pe_revT (K := K) rfl (pv 1)) fun σ H1 Q1 hS q1 => ?_)
        (pa_e stS stR (PE.e (pe_callTy call_list_of (by rfl) m2 (by decide +kernel) (pa_cons (pv 1) pa_nil)) fun σ H1 Q1 hS q1 => ?_)
        (pa_e stS stR (PE.e (pe_tup (pa_cons (pv 1) pa_nil)) fun σ H1 Q1 hS q1 => ?_)
        (pa_e stS stR (PE.e (pe_op (op_catB (K := K) rfl) (pv 1) (pe_slice (sl_tupB (K := K) rfl) (pv 1) (po_some (pe_un un_neg pe_int)) po_none)) fun σ H1 Q1 hS q1 => ?_)
        (pa_e stS stR (PE.e (pe_slice (sl_tupB (K := K) rfl) (pv 1) (po_some pe_int) po_none) fun σ H1 Q1 hS q1 => ?_)
        (pa_e stS stR (PE.e (pe_slice (sl_tupB (K := K) rfl) (pv 1) po_none (po_some (pe_un un_neg pe_int))) fun σ H1 Q1 hS q1 => ?_) pa_e0)))))))))
      (pss_cons (ps_set (i := 4) sc_l_bend.nd rfl (.inl rfl) (pe_op op_cat (pv 4) (pe_lst
        (pa_e (S := S) (R := fun H' v => AnyV K (wl H H') v) stS stR
          (PE.e (pe_op (op_catB (K := K) rfl) (pe_op (op_catB (K := K) rfl) (pe_slice (sl_tupB (K := K) rfl) (pv 1) po_none (po_some (pv 3))) (pe_tup (pa_cons (pv 2) pa_nil))) (pe_slice (sl_tupB (K := K) rfl) (pv 1) (po_some (pe_op op_add (pv 3) pe_int)) po_none)) fun σ H1 Q1 hS q1 => mid1 hS q1)
        (pa_e stS stR (PE.e (pe_callTy call_tuple_of (by rfl) m3 (by decide +kernel) (pa_cons
            (pe_lc (own := [("_law_other", 5)]) (g := gName 5) (tt := tYes) rfl sc_l_bend.nd (pi_tup (pv 1)) (blkOk_by (N := ["_law_pen_here", "_law_row", "_law_one", "_law_spot", "_law_found", "_law_other"]) (sc := defScope s_l_bend) (by decide +kernel))
              (fun _ _ _ _ _ => pg_name (i := 5) sc_l_bend.nd rfl (Or.inl rfl)) (fun _ _ _ _ _ => pts_nil) (fun _ _ _ _ _ => pe_cmpR op_eq (pv 5) pe_int (nomark _))) pa_nil)) fun σ H1 Q1 hS q1 => ?_) pa_e0)))))
      (pss_one (ps_ret (pe_call G2 hr (by rfl) g2 kp2 b2 .nil pass0 (pa_cons (pv 0) (pa_cons (pe_op op_cat (pv 4) (pe_lst
        (pa_e (S := S) (R := fun H' v => AnyV K (wl H H') v) stS stR
          (PE.e (pe_op (op_catB (K := K) rfl) (pe_op (op_catB (K := K) rfl) (pe_slice (sl_tupB (K := K) rfl) (pv 1) po_none (po_some (pv 3))) (pe_tup (pa_cons (pv 2) pa_nil))) (pe_slice (sl_tupB (K := K) rfl) (pv 1) (po_some (pe_op op_add (pv 3) pe_int)) po_none)) fun σ H1 Q1 hS q1 => mid1 hS q1)
        (pa_e stS stR (PE.e (pe_callTy call_tuple_of (by rfl) m3 (by decide +kernel) (pa_cons
            (pe_lc (own := [("_law_other", 5)]) (g := gName 5) (tt := tYes) rfl sc_l_bend.nd (pi_tup (pv 1)) (blkOk_by (N := ["_law_pen_here", "_law_row", "_law_one", "_law_spot", "_law_found", "_law_other"]) (sc := defScope s_l_bend) (by decide +kernel))
              (fun _ _ _ _ _ => pg_name (i := 5) sc_l_bend.nd rfl (Or.inl rfl)) (fun _ _ _ _ _ => pts_nil) (fun _ _ _ _ _ => pe_callTy call_str_int (by rfl) m4 (by decide +kernel) (pa_cons (pv 5) pa_nil))) pa_nil)) fun σ H1 Q1 hS q1 => ?_) pa_e0)))) pa_nil)))))))), ?_⟩
    · obtain ⟨v1, sp, x4, rfl, hB⟩ := hS
      refine ⟨.ref a, rfl, a, _, rfl, hB.row, fun t nt => q1 _ _ (same_new nt) ?_⟩
      refine tup_ints (ns := ns.reverse) (hB.pen.new nt) (hB.bt.trans (.of (same_new nt))) (.of ?_) (fun x hx => hn x (List.mem_reverse.mp hx)) (by rw [List.length_reverse]; omega)
      rw [List.map_reverse]; exact upd_same
    · obtain ⟨v1, sp, x4, rfl, hB⟩ := hS
      exact ⟨.ref a, rfl, a, _, rfl, .inr hB.row, fun l nl => q1 _ _ (same_new nl) ⟨.list (iD ns), .data (.lst (.of ((wl_ne (fun xs z => by rw [hp.free hB.pen hB.bt nl] at z; exact nomatch z)).trans upd_same)) (dpInts ns)), (smL_ints hn).lst (by omega)⟩⟩
    · obtain ⟨v1, sp, x4, rfl, hB⟩ := hS
      refine ⟨.ref a, rfl, by show 1 ≤ sizeLine; omega, fun t nt => q1 _ _ (same_new nt) (tup_anyW (k := 100) (ds := [.tuple (iD ns)]) (hB.pen.new nt) (hB.bt.trans (.of (same_new nt))) (.of upd_same) (.cons (.tup ((hB.pen.new nt).wl (hB.bt.trans (.of (same_new nt))) (Same.tup (same_new nt) hB.row)) (dpInts ns)) .nil) (SmL.one ((smL_ints hn).tup (by omega)) ?_ ?_) (by decide))⟩
      · simp only [PyData.depth, depth_ints]; decide
      · simp only [PyData.bulk, bulk_ints]; omega
    · obtain ⟨v1, sp, x4, rfl, hB⟩ := hS
      refine ⟨.ref a, rfl, .ref a, rfl, 1, rfl, _, rfl, a, _, rfl, hB.row, fun H2 b2 e2 h2 => ?_⟩
      refine ⟨a, b2, _, _, rfl, rfl, Same.tup e2 hB.row, h2, by have := clen (some (-1)) none; omega, fun H3 b3 e3 h3 => q1 _ _ (e2.trans e3) ?_⟩
      obtain ⟨es, k1, k2⟩ := cuts H3 (some (-1)) none
      exact tup_anyW (hB.pen.same (e2.trans e3)) (hB.bt.trans (.of (e2.trans e3))) h3 (DpAll.app (dpInts ns) k1) ((smL_ints hn).app k2) (by omega)
    · obtain ⟨v1, sp, x4, rfl, hB⟩ := hS
      refine ⟨.ref a, rfl, _, rfl, a, _, rfl, hB.row, fun H2 b2 e2 h2 => q1 _ _ e2 ?_⟩
      obtain ⟨es, k1, k2⟩ := cuts H2 (some 1) none
      exact tup_anyW (hB.pen.same e2) (hB.bt.trans (.of e2)) h2 k1 k2 (by omega)
    · obtain ⟨v1, sp, x4, rfl, hB⟩ := hS
      refine ⟨.ref a, rfl, 1, rfl, _, rfl, a, _, rfl, hB.row, fun H2 b2 e2 h2 => q1 _ _ e2 ?_⟩
      obtain ⟨es, k1, k2⟩ := cuts H2 none (some (-1))
      exact tup_anyW (hB.pen.same e2) (hB.bt.trans (.of e2)) h2 k1 k2 (by omega)
    · obtain ⟨v1, sp, x4, rfl, hB⟩ := hS
      refine ⟨.ref a, rfl, a, rfl, ⟨_, hB.row⟩, fun D hD => ?_⟩
      refine lc_tup (xs := ns.map V.int) (fun i H' => Same H1 H' ∧ H' D = some (.lst ((ns.take i).map fun x => V.bl (decide (V.int x = V.int 1))))) ⟨same_new hD, upd_same⟩ (fun i H' _ h => Same.tup h.1 hB.row) (fun i x H' hx h => ?_) (fun H' h => ?_)
      · obtain ⟨sm, hDl⟩ := h
        rw [List.getElem?_map] at hx
        obtain ⟨y, hy, rfl⟩ := Option.map_eq_some_iff.mp hx
        refine ⟨rfl, .int y, rfl, rfl, _, hDl, ?_, fun b o e => ?_, ?_⟩
        · rw [List.length_map, List.length_take]; omega
        · rw [upd_ne (ne_of_none e hD)]; exact sm _ _ e
        · rw [upd_same, List.take_add_one, hy, List.map_append]; rfl
      · obtain ⟨sm, hDl⟩ := h
        rw [lm, List.take_length] at hDl
        refine ⟨D, _, rfl, .inl ⟨.of hDl, fun t nt => q1 _ _ (sm.trans (same_new nt)) ?_⟩⟩
        exact tup_anyW (hB.pen.same (sm.trans (same_new nt))) (hB.bt.trans (.of (sm.trans (same_new nt)))) (.of upd_same) (dp_map (g := fun x => .bool (decide (V.int x = V.int 1))) (fun x => .bl _) ns) (smL_map bl_table hn) (by omega)
    · obtain ⟨v1, sp, x4, rfl, hB⟩ := hS
      refine ⟨.ref a, rfl, a, rfl, ⟨_, hB.row⟩, fun D hD => ?_⟩
      refine lc_tup (xs := ns.map V.int) (fun i H' => Same H1 H' ∧ H' D = some (.lst ((ns.take i).map fun x => V.str (toString x : String)))) ⟨same_new hD, upd_same⟩ (fun i H' _ h => Same.tup h.1 hB.row) (fun i x H' hx h => ?_) (fun H' h => ?_)
      · obtain ⟨sm, hDl⟩ := h
        rw [List.getElem?_map] at hx
        obtain ⟨y, hy, rfl⟩ := Option.map_eq_some_iff.mp hx
        refine ⟨rfl, .int y, rfl, y, rfl, (str_table y (mem_smallI (hn y (List.mem_of_getElem? hy)))).2, _, hDl, ?_, fun b o e => ?_, ?_⟩
        · rw [List.length_map, List.length_take]; omega
        · rw [upd_ne (ne_of_none e hD)]; exact sm _ _ e
        · rw [upd_same, List.take_add_one, hy, List.map_append]; rfl
      · obtain ⟨sm, hDl⟩ := h
        rw [lm, List.take_length] at hDl
        refine ⟨D, _, rfl, .inl ⟨.of hDl, fun t nt => q1 _ _ (sm.trans (same_new nt)) ?_⟩⟩
        exact tup_anyW (hB.pen.same (sm.trans (same_new nt))) (hB.bt.trans (.of (sm.trans (same_new nt)))) (.of upd_same) (dp_map (g := fun x => .str (toString x : String)) (fun x => .str _) ns) (smL_map (fun x hx => (str_table x hx).1) hn) (by omega)
    · refine ⟨.ref p, rfl, fun H1 l xs e1 nl hl1 hxs lx => ?_⟩
      have p1 := hp.same e1
      refine ⟨p, l, xs, rfl, p1, hl1, Ne.symm (hp.ne nl), (fun z => by rw [z] at lx; exact absurd lx (by decide)), by omega, fun H2 v1 hv1 p2 b2 => ?_⟩
      have hB2 : BendH K H p a ns v1 H2 := ⟨p2, p1.tup b2 (Same.tup e1 hrow), ((hxs v1 hv1).same nw_wl).same (wl_but hp b2), (But.of e1).trans b2⟩
      refine ⟨.ref p, rfl, .ref a, rfl, a, _, rfl, .inr hB2.row, _, 1, rfl, rfl, p, _, rfl, p2, by omega, by omega, fun H3 r r0 r1 p3 b3 => ?_⟩
      have hB3 : BendH K H p a ns v1 H3 := ⟨p3, p2.tup b3 hB2.row, hB2.one.same (wl_but hp b3), hB2.bt.trans b3⟩
      obtain ⟨sp, rfl⟩ : ∃ sp : Nat, r = sp := ⟨r.toNat, by omega⟩
      have c3 : But p H H3 := ((But.of e1).trans b2).trans b3
      refine ⟨⟨v1, sp, none, rfl, hB3⟩, fun H4 vs4 e4 hv4 hl4 => ⟨by omega, fun l4 nl4 => ?_⟩⟩
      have n4 : l4 ≠ p := Ne.symm ((p3.same e4).ne nl4)
      have hB4 := (hB3.same e4).same (same_new (o := .lst vs4) nl4)
      have hl4' : (upd H4 l4 (.lst vs4)) l4 = some (.lst vs4) := upd_same
      have e4' := e4.trans (same_new (o := .lst vs4) nl4)
      have hv4' : ∀ v ∈ vs4, AnyV K (wl H (upd H4 l4 (.lst vs4))) v := fun v hv => stR _ _ _ (same_new nl4) (hv4 v hv)
      generalize upd H4 l4 (.lst vs4) = H4' at hB4 hl4' e4' hv4' ⊢
      refine ⟨.ref l4, rfl, ⟨v1, sp, some (.ref l4), rfl, hB4⟩, fun H5 vs5 e5 hv5 hl5 => ⟨by omega, fun l5 nl5 => ?_⟩⟩
      refine ⟨l4, l5, _, _, rfl, rfl, same_new nl5 _ _ (e5 _ _ hl4'), upd_same, by omega, fun l6 nl6 => ?_⟩
      have e6 := (e5.trans (same_new (o := .lst vs5) nl5)).trans (same_new (o := .lst (vs4 ++ vs5)) nl6)
      have hB6 := hB4.same e6
      have hl6 : (upd (upd H5 l5 (.lst vs5)) l6 (.lst (vs4 ++ vs5))) l6 = some (.lst (vs4 ++ vs5)) := upd_same
      have hv6 : ∀ v ∈ vs4 ++ vs5, AnyV K (wl H (upd (upd H5 l5 (.lst vs5)) l6 (.lst (vs4 ++ vs5)))) v := fun v hv => (List.mem_append.mp hv).elim (fun z => stR _ _ _ e6 (hv4' v z)) fun z => stR _ _ _ ((same_new (o := .lst vs5) nl5).trans (same_new nl6)) (hv5 v z)
      have hl6' : (vs4 ++ vs5).length = 9 := by rw [List.length_append]; omega
      generalize upd (upd H5 l5 (.lst vs5)) l6 (.lst (vs4 ++ vs5)) = H6 at e6 hB6 hl6 hv6 ⊢
      generalize vs4 ++ vs5 = vs6 at hl6 hv6 hl6' ⊢
      refine ⟨.ref p, rfl, .ref l6, rfl, ⟨v1, sp, some (.ref l6), rfl, hB6⟩, fun H7 vs7 e7 hv7 hl7 => ⟨by omega, fun l7 nl7 => ?_⟩⟩
      refine ⟨l6, l7, _, _, rfl, rfl, same_new nl7 _ _ (e7 _ _ hl6), upd_same, by omega, fun l8 nl8 => ?_⟩
      have e8 := (e7.trans (same_new (o := .lst vs7) nl7)).trans (same_new (o := .lst (vs6 ++ vs7)) nl8)
      have hB8 := hB6.same e8
      have p8n := Ne.symm (((hB6.pen.same e7).same (same_new (o := .lst vs7) nl7)).ne nl8)
      have hv8 : ∀ v ∈ vs6 ++ vs7, AnyV K (wl H (upd (upd H7 l7 (.lst vs7)) l8 (.lst (vs6 ++ vs7)))) v := fun v hv => (List.mem_append.mp hv).elim (fun z => stR _ _ _ e8 (hv6 v z)) fun z => stR _ _ _ ((same_new (o := .lst vs7) nl7).trans (same_new nl8)) (hv7 v z)
      have hl8 : (vs6 ++ vs7).length = 11 := by rw [List.length_append]; omega
      refine ⟨p, l8, _, rfl, hB8.pen, upd_same, p8n, (fun z => by rw [z] at hl8; exact absurd hl8 (by decide)), by omega, fun H9 x hx p9 b9 => ?_⟩
      exact q H9 x p9 (((c3.trans (.of e4')).trans (.of (e6.trans e8))).trans b9) ((hv8 x hx).same (wl_but hp b9))
end
end Sg

set_option Elab.async false
set_option linter.all false
set_option maxRecDepth 100000
set_option maxHeartbeats 4000000
namespace Sg
open PySem PySem.Spec PyProof.Rows L2 StX
def kNames : List Str := ["NoWork", "NoLine", "NoKind", "OnlyOne", "NoPlan", "NoKinds", "NoCounts", "NoState", "NoChoice", "NoTick", "NoLap", "NotFitting", "NoWorths", "NoWaits", "NoDistance", "NotTwo", "NoRate", "NoBars", "NoTicks", "NoStation", "NoPace", "NoText", "NothingDone", "TooMany", "TooFar", "TooLong", "Clash", "TooSoon"]
def kWords : List Str := ["work", "line", "kind", "one", "plan", "kinds", "counts", "state", "choice", "tick", "lap", "fitting", "worths", "waits", "distance", "two", "rate", "bars", "ticks", "station", "pace", "text", "nothing", "many", "far", "long", "clash", "soon"]
/-- the marks from i on, n of them: the one at j is set -/
def mk (j i n : Nat) : List V := (List.range' i n).map fun m => V.bl (decide (m = j))
theorem mk_app (j i n : Nat) : mk j 0 i ++ mk j i n = mk j 0 (i + n) := by
  unfold mk
  rw [← List.map_append]
  congr 1
  have := List.range'_append_1 (s := 0) (m := i) (n := n)
  rw [Nat.zero_add] at this
  exact this
def tMks (p : Addr × Obj) (j i n : Nat) : TA := fun σ H Q => σ[0]? = some (some (.ref p.1)) ∧ Q (mk j i n) H
def tMkL (p : Addr × Obj) (j i n : Nat) : TE := fun σ H Q => σ[0]? = some (some (.ref p.1)) ∧ ∀ H' l, Same H H' → H' l = some (.lst (mk j i n)) → Q (.ref l) H'
section
variable {X : Cx} {p : Addr × Obj} {j i n : Nat}
theorem pa_m0 : PA X [] (tMks p j i 0) := ⟨fun pos pins s σ H Q I h => pa_nil.run pos pins s σ H Q I h.2⟩
theorem pa_m {e : Expr} {es : List Expr} (h : PE X e fun σ H Q => σ[0]? = some (some (.ref p.1)) ∧ Q (.bl (decide (i = j))) H) (g : PA X es (tMks p j (i + 1) n))
    (he : starEach (e :: es) X.env = (false, eval e X.env) :: starEach es X.env := by rfl) : PA X (e :: es) (tMks p j i (n + 1)) := by
  refine ⟨fun pos pins s σ H Q I q => (pa_cons h g he).run pos pins s σ H Q I ?_⟩
  exact ⟨q.1, q.1, q.2⟩
theorem pe_mkL {es : List Expr} {pos : Pos} (h : PA X es (tMks p j i n)) (hn : n ≤ 1000) : PE X (.List es pos) (tMkL p j i n) := by
  refine PE.imp (pe_lst h) fun σ H Q q => ⟨q.1, ?_, fun l nl => q.2 _ l (same_new nl) upd_same⟩
  have big : 1000 ≤ sizeLine := by rw [sizeLine_eq]; decide
  unfold mk
  rw [List.length_map, List.length_range']; omega
end
/-- the class D is the one at j -/
structure KindOk (K : PySem.W.Frag) (C : Nat → Addr) (D : Addr) (j : Nat) : Prop where
  lt : j < 28
  ec : ExcC K D
  kit : ∀ i, i < 28 → PySem.W.kitOne K (.ref D) (.ref (C i)) = some (decide (i = j))
  val : PySem.W.kitOne K (.ref D) (.type "ValueError") = some true
theorem pe_isE {X : Cx} {K : PySem.W.Frag} {C : Nat → Addr} {p : Addr × Obj} {D : Addr} {j : Nat} {x : Str} {q1 q2 q3 pos : Pos} (hK : X.K = K) (hp : p ∈ X.pn) (KO : KindOk K C D j) (hz : Zc (.ref D) none p.2) (hf : ∃ vs, p.2.data = .fields vs)
    (gi : Gl X "isinstance") (m1 : X.mg "isinstance" = none) (i : Nat) (hi : i < 28) (gx : Gl X x) (hx : X.mg x = some (.ref (C i))) (hN : X.N[0]? = some ("_law_e" : Str)) (hv : Vis X.env.scope "_law_e") (hd : (x == ("__debug__" : Str)) = false := by decide) :
    PE X (.Call (.Name "isinstance" q1) [.Name "_law_e" q3, .Name x q2] [] pos) (fun σ H Q => σ[0]? = some (some (.ref p.1)) ∧ Q (.bl (decide (i = j))) H) :=
  PE.imp (pe_callB (call_isP hK hp KO.ec hz hf) gi m1 (by decide +kernel) (pa_cons (pe_var hN hv) (pa_cons (pe_glob (v := .ref (C i)) gx hx rfl hd) pa_nil))) fun σ H Q q =>
    ⟨.ref p.1, q.1, .ref (C i), .ref (C i), _, rfl, (fun u r => r), KO.kit i hi, q.2⟩
theorem mk_count : ∀ j, j < 28 → ((List.range' 0 28).map fun m => decide (m = j)).count true = 1 := by decide +kernel
theorem mk_at {j : Nat} (h : j < 28) : (mk j 0 28)[j]? = some (.bl true) := by
  unfold mk
  rw [List.getElem?_map, List.getElem?_range' h]
  simp
theorem mk_no {j m : Nat} (h : j < 28) (hm : m < j) : (mk j 0 28)[m]? = some (.bl false) := by
  unfold mk
  rw [List.getElem?_map, List.getElem?_range' (by omega)]
  simp only [Option.map_some, Option.some.injEq, V.bl.injEq, decide_eq_false_iff_not]
  omega
section
variable {P : Program} {w : World} {K : PySem.W.Frag} {mg : Str → Option Value} {base : Heap}
def spKind (K : PySem.W.Frag) (C : Nat → Addr) (p : Addr × Obj) : Sp := fun vs H Q _ => ∃ D j wd, KindOk K C D j ∧ kWords[j]? = some wd ∧ vs = [.ref p.1] ∧ Zc (.ref D) none p.2 ∧ (∃ vs, p.2.data = .fields vs) ∧ ∀ H', Same H H' → Q (.str wd) H'
theorem ok_l_kind {f : Addr} {fd : FuncData} {k : Nat} {C : Nat → Addr} (F : Fun K "_law_kind" "_law_kind" s_l_kind f fd) (hg : ∀ i, i < 28 → mg (kNames.getD i "") = some (.ref (C i)))
    (m1 : mg "isinstance" = none) (m2 : mg "ValueError" = none) : FnE P w K mg base (k + 1) f fd ["_law_e"] (spKind K C) := by
  refine fnE_mk F sc_l_kind (fun p vs H Q h => ?_) (fun cdv A outer s H vs Q p hr h => ?_)
  · obtain ⟨D, j, wd, _, _, rfl, _⟩ := h; rfl
  · obtain ⟨D, j, wd, KO, hw, rfl, hz, hf, q⟩ := h
    have EC := KO.ec
    refine ⟨_, pss_cons (ps_set (i := 1) sc_l_kind.nd rfl (.inl rfl) (pe_mkL (pa_m (pe_isE (K := K) (C := C) rfl (List.mem_singleton.mpr rfl) KO hz hf (by rfl) m1 0 (by decide) (by rfl) (hg 0 (by decide)) rfl (Or.inl rfl)) (pa_m (pe_isE (K := K) (C := C) rfl (List.mem_singleton.mpr rfl) KO hz hf (by rfl) m1 1 (by decide) (by rfl) (hg 1 (by decide)) rfl (Or.inl rfl)) (pa_m (pe_isE (K := K) (C := C) rfl (List.mem_singleton.mpr rfl) KO hz hf (by rfl) m1 2 (by decide) (by rfl) (hg 2 (by decide)) rfl (Or.inl rfl)) (pa_m (pe_isE (K := K) (C := C) rfl (List.mem_singleton.mpr rfl) KO hz hf (by rfl) m1 3 (by decide) (by rfl) (hg 3 (by decide)) rfl (Or.inl rfl)) pa_m0)))) (by decide)))
      (pss_cons (ps_set (i := 1) sc_l_kind.nd rfl (.inl rfl) (pe_op op_cat (pv 1) (pe_mkL (pa_m (pe_isE (K := K) (C := C) rfl (List.mem_singleton.mpr rfl) KO hz hf (by rfl) m1 4 (by decide) (by rfl) (hg 4 (by decide)) rfl (Or.inl rfl)) (pa_m (pe_isE (K := K) (C := C) rfl (List.mem_singleton.mpr rfl) KO hz hf (by rfl) m1 5 (by decide) (by rfl) (hg 5 (by decide)) rfl (Or.inl rfl)) (pa_m (pe_isE (K := K) (C := C) rfl (List.mem_singleton.mpr rfl) KO hz hf (by rfl) m1 6 (by decide) (by rfl) (hg 6 (by decide)) rfl (Or.inl rfl)) (pa_m (pe_isE (K := K) (C := C) rfl (List.mem_singleton.mpr rfl) KO hz hf (by rfl) m1 7 (by decide) (by rfl) (hg 7 (by decide)) rfl (Or.inl rfl)) pa_m0)))) (by decide))))
      (pss_cons (ps_set (i := 1) sc_l_kind.nd rfl (.inl rfl) (pe_op op_cat (pv 1) (pe_mkL (pa_m (pe_isE (K := K) (C := C) rfl (List.mem_singleton.mpr rfl) KO hz hf (by rfl) m1 8 (by decide) (by rfl) (hg 8 (by decide)) rfl (Or.inl rfl)) (pa_m (pe_isE (K := K) (C := C) rfl (List.mem_singleton.mpr rfl) KO hz hf (by rfl) m1 9 (by decide) (by rfl) (hg 9 (by decide)) rfl (Or.inl rfl)) (pa_m (pe_isE (K := K) (C := C) rfl (List.mem_singleton.mpr rfl) KO hz hf (by rfl) m1 10 (by decide) (by rfl) (hg 10 (by decide)) rfl (Or.inl rfl)) (pa_m (pe_isE (K := K) (C := C) rfl (List.mem_singleton.mpr rfl) KO hz hf (by rfl) m1 11 (by decide) (by rfl) (hg 11 (by decide)) rfl (Or.inl rfl)) pa_m0)))) (by decide))))
      (pss_cons (ps_set (i := 1) sc_l_kind.nd rfl (.inl rfl) (pe_op op_cat (pv 1) (pe_mkL (pa_m (pe_isE (K := K) (C := C) rfl (List.mem_singleton.mpr rfl) KO hz hf (by rfl) m1 12 (by decide) (by rfl) (hg 12 (by decide)) rfl (Or.inl rfl)) (pa_m (pe_isE (K := K) (C := C) rfl (List.mem_singleton.mpr rfl) KO hz hf (by rfl) m1 13 (by decide) (by rfl) (hg 13 (by decide)) rfl (Or.inl rfl)) (pa_m (pe_isE (K := K) (C := C) rfl (List.mem_singleton.mpr rfl) KO hz hf (by rfl) m1 14 (by decide) (by rfl) (hg 14 (by decide)) rfl (Or.inl rfl)) (pa_m (pe_isE (K := K) (C := C) rfl (List.mem_singleton.mpr rfl) KO hz hf (by rfl) m1 15 (by decide) (by rfl) (hg 15 (by decide)) rfl (Or.inl rfl)) pa_m0)))) (by decide))))
      (pss_cons (ps_set (i := 1) sc_l_kind.nd rfl (.inl rfl) (pe_op op_cat (pv 1) (pe_mkL (pa_m (pe_isE (K := K) (C := C) rfl (List.mem_singleton.mpr rfl) KO hz hf (by rfl) m1 16 (by decide) (by rfl) (hg 16 (by decide)) rfl (Or.inl rfl)) (pa_m (pe_isE (K := K) (C := C) rfl (List.mem_singleton.mpr rfl) KO hz hf (by rfl) m1 17 (by decide) (by rfl) (hg 17 (by decide)) rfl (Or.inl rfl)) (pa_m (pe_isE (K := K) (C := C) rfl (List.mem_singleton.mpr rfl) KO hz hf (by rfl) m1 18 (by decide) (by rfl) (hg 18 (by decide)) rfl (Or.inl rfl)) (pa_m (pe_isE (K := K) (C := C) rfl (List.mem_singleton.mpr rfl) KO hz hf (by rfl) m1 19 (by decide) (by rfl) (hg 19 (by decide)) rfl (Or.inl rfl)) pa_m0)))) (by decide))))
      (pss_cons (ps_set (i := 1) sc_l_kind.nd rfl (.inl rfl) (pe_op op_cat (pv 1) (pe_mkL (pa_m (pe_isE (K := K) (C := C) rfl (List.mem_singleton.mpr rfl) KO hz hf (by rfl) m1 20 (by decide) (by rfl) (hg 20 (by decide)) rfl (Or.inl rfl)) (pa_m (pe_isE (K := K) (C := C) rfl (List.mem_singleton.mpr rfl) KO hz hf (by rfl) m1 21 (by decide) (by rfl) (hg 21 (by decide)) rfl (Or.inl rfl)) (pa_m (pe_isE (K := K) (C := C) rfl (List.mem_singleton.mpr rfl) KO hz hf (by rfl) m1 22 (by decide) (by rfl) (hg 22 (by decide)) rfl (Or.inl rfl)) (pa_m (pe_isE (K := K) (C := C) rfl (List.mem_singleton.mpr rfl) KO hz hf (by rfl) m1 23 (by decide) (by rfl) (hg 23 (by decide)) rfl (Or.inl rfl)) pa_m0)))) (by decide))))
      (pss_cons (ps_set (i := 1) sc_l_kind.nd rfl (.inl rfl) (pe_op op_cat (pv 1) (pe_mkL (pa_m (pe_isE (K := K) (C := C) rfl (List.mem_singleton.mpr rfl) KO hz hf (by rfl) m1 24 (by decide) (by rfl) (hg 24 (by decide)) rfl (Or.inl rfl)) (pa_m (pe_isE (K := K) (C := C) rfl (List.mem_singleton.mpr rfl) KO hz hf (by rfl) m1 25 (by decide) (by rfl) (hg 25 (by decide)) rfl (Or.inl rfl)) (pa_m (pe_isE (K := K) (C := C) rfl (List.mem_singleton.mpr rfl) KO hz hf (by rfl) m1 26 (by decide) (by rfl) (hg 26 (by decide)) rfl (Or.inl rfl)) (pa_m (pe_isE (K := K) (C := C) rfl (List.mem_singleton.mpr rfl) KO hz hf (by rfl) m1 27 (by decide) (by rfl) (hg 27 (by decide)) rfl (Or.inl rfl)) pa_m0)))) (by decide))))
      (pss_cons (ps_set (i := 2) sc_l_kind.nd rfl (.inl rfl) (pe_lst (pa_cons pe_str (pa_cons pe_str (pa_cons pe_str (pa_cons pe_str (pa_cons pe_str (pa_cons pe_str (pa_cons pe_str (pa_cons pe_str (pa_cons pe_str (pa_cons pe_str (pa_cons pe_str (pa_cons pe_str pa_nil))))))))))))))
      (pss_cons (ps_set (i := 2) sc_l_kind.nd rfl (.inl rfl) (pe_op op_cat (pv 2) (pe_lst (pa_cons pe_str (pa_cons pe_str (pa_cons pe_str (pa_cons pe_str (pa_cons pe_str (pa_cons pe_str (pa_cons pe_str (pa_cons pe_str (pa_cons pe_str (pa_cons pe_str pa_nil)))))))))))))
      (pss_cons (ps_set (i := 2) sc_l_kind.nd rfl (.inl rfl) (pe_op op_cat (pv 2) (pe_lst (pa_cons pe_str (pa_cons pe_str (pa_cons pe_str (pa_cons pe_str (pa_cons pe_str (pa_cons pe_str pa_nil)))))))))
      (pss_cons (ps_if (PW.pt (pw_or (pt_cmpR op_ne (pe_bm PySem.F.plainAttrs_list PySem.F.slot_list_count PySem.F.type_list_count mt_lcountB (pv 1) (pa_cons pe_bl pa_nil)) pe_int (nomark _)) (pw_or1 (pt_not (pt_val (pe_callB (call_isP (K := K) rfl (List.mem_singleton.mpr rfl) EC hz hf) (by rfl) m1 (by decide +kernel) (pa_cons (pv 0) (pa_cons (pe_bltn (v := .ty "ValueError") (by rfl) m2 (by decide +kernel) rfl) pa_nil)))))))) (pss_one ps_never) pss_nil)
      (pss_one (ps_ret (pe_ix ix_list (pv 2) (pe_bm PySem.F.plainAttrs_list PySem.F.slot_list_index PySem.F.type_list_index mt_index (pv 1) (pa_cons pe_bl pa_nil)) (fun _ _ => rfl)))))))))))))), ?_⟩
    have big : 1000 ≤ sizeLine := by rw [sizeLine_eq]; decide
    have cat : ∀ {H1 H2 : Hp} {l1 l2 : Addr} {n m : Nat} {Q : VK}, H1 l1 = some (.lst (mk j 0 n)) → Same H1 H2 → H2 l2 = some (.lst (mk j n m)) → n + m ≤ 1000 →
        (∀ H3 l3, Same H2 H3 → H3 l3 = some (.lst (mk j 0 (n + m))) → Q (.ref l3) H3) → rCat (.ref l1) (.ref l2) H2 Q := @fun H1 H2 l1 l2 n m Q h1 e h2 hs q => by
      refine ⟨l1, l2, _, _, rfl, rfl, e _ _ h1, h2, ?_, fun l3 n3 => q _ l3 (same_new n3) (by rw [mk_app]; exact upd_same)⟩
      unfold mk
      rw [List.length_map, List.length_map, List.length_range', List.length_range']; omega
    refine ⟨rfl, fun H1 l1 e1 h1 => ?_⟩
    refine ⟨.ref l1, rfl, rfl, fun H2 l2 e2 h2 => cat h1 e2 h2 (by decide) fun H3 l3 e3 h3 => ?_⟩
    have s1 := (e1.trans e2).trans e3
    refine ⟨.ref l3, rfl, rfl, fun H2 l2 e2 h2 => cat h3 e2 h2 (by decide) fun H4 l4 e4 h4 => ?_⟩
    have s1 := (s1.trans e2).trans e4
    refine ⟨.ref l4, rfl, rfl, fun H2 l2 e2 h2 => cat h4 e2 h2 (by decide) fun H5 l5 e5 h5 => ?_⟩
    have s1 := (s1.trans e2).trans e5
    refine ⟨.ref l5, rfl, rfl, fun H2 l2 e2 h2 => cat h5 e2 h2 (by decide) fun H6 l6 e6 h6 => ?_⟩
    have s1 := (s1.trans e2).trans e6
    refine ⟨.ref l6, rfl, rfl, fun H2 l2 e2 h2 => cat h6 e2 h2 (by decide) fun H7 l7 e7 h7 => ?_⟩
    have s1 := (s1.trans e2).trans e7
    refine ⟨.ref l7, rfl, rfl, fun H2 l2 e2 h2 => cat h7 e2 h2 (by decide) fun H8 l8 e8 h8 => ?_⟩
    have s1 := (s1.trans e2).trans e8
    refine ⟨by show 12 ≤ sizeLine; omega, fun w1 nw1 => ?_⟩
    have s2 := same_new (o := .lst [V.str "work", V.str "line", V.str "kind", V.str "one", V.str "plan", V.str "kinds", V.str "counts", V.str "state", V.str "choice", V.str "tick", V.str "lap", V.str "fitting"]) nw1
    have u1 : (upd H8 w1 (.lst [V.str "work", V.str "line", V.str "kind", V.str "one", V.str "plan", V.str "kinds", V.str "counts", V.str "state", V.str "choice", V.str "tick", V.str "lap", V.str "fitting"])) w1 = some (.lst [V.str "work", V.str "line", V.str "kind", V.str "one", V.str "plan", V.str "kinds", V.str "counts", V.str "state", V.str "choice", V.str "tick", V.str "lap", V.str "fitting"]) := upd_same
    refine ⟨.ref w1, rfl, by show 10 ≤ sizeLine; omega, fun w2 nw2 => ?_⟩
    refine ⟨w1, w2, _, _, rfl, rfl, same_new nw2 _ _ u1, upd_same, by show 12 + 10 ≤ sizeLine; omega, fun w3 nw3 => ?_⟩
    refine ⟨.ref w3, rfl, by show 6 ≤ sizeLine; omega, fun w4 nw4 => ?_⟩
    refine ⟨w3, w4, _, _, rfl, rfl, same_new nw4 _ _ upd_same, upd_same, by show 22 + 6 ≤ sizeLine; omega, fun w5 nw5 => ?_⟩
    have s3 := (((s2.trans (same_new (o := .lst [V.str "worths", V.str "waits", V.str "distance", V.str "two", V.str "rate", V.str "bars", V.str "ticks", V.str "station", V.str "pace", V.str "text"]) nw2)).trans (same_new (o := .lst ([V.str "work", V.str "line", V.str "kind", V.str "one", V.str "plan", V.str "kinds", V.str "counts", V.str "state", V.str "choice", V.str "tick", V.str "lap", V.str "fitting"] ++ [V.str "worths", V.str "waits", V.str "distance", V.str "two", V.str "rate", V.str "bars", V.str "ticks", V.str "station", V.str "pace", V.str "text"])) nw3)).trans (same_new (o := .lst [V.str "nothing", V.str "many", V.str "far", V.str "long", V.str "clash", V.str "soon"]) nw4)).trans (same_new (o := .lst (([V.str "work", V.str "line", V.str "kind", V.str "one", V.str "plan", V.str "kinds", V.str "counts", V.str "state", V.str "choice", V.str "tick", V.str "lap", V.str "fitting"] ++ [V.str "worths", V.str "waits", V.str "distance", V.str "two", V.str "rate", V.str "bars", V.str "ticks", V.str "station", V.str "pace", V.str "text"]) ++ [V.str "nothing", V.str "many", V.str "far", V.str "long", V.str "clash", V.str "soon"])) nw5)
    have h9 := s3 _ _ h8
    have s4 := s1.trans s3
    have hb : mk j 0 (24 + 4) = ((List.range' 0 28).map fun m => decide (m = j)).map V.bl := by
      unfold mk; rw [List.map_map]; rfl
    refine ⟨.ref l8, rfl, .inl ⟨rfl, _, .of h9⟩, l8, _, rfl, rfl, .of (hb ▸ h9), ?_⟩
    rw [mk_count j KO.lt]
    refine ⟨rfl, _, rfl, iteF ?_⟩
    refine ⟨.ref p.1, rfl, .ty "ValueError", .type "ValueError", true, rfl, (fun u r => r), KO.val, true, rfl, iteF ?_⟩
    refine ⟨.ref w5, rfl, .ref l8, rfl, .inl ⟨rfl, _, .of h9⟩, l8, _, .bl true, j, .bl true, rfl, rfl, .of h9, rfl, ?_, mk_at KO.lt, rfl, fun m z' hm hz' => ?_, ?_⟩
    · unfold mk
      rw [List.all_map, List.all_eq_true]
      exact fun _ _ => rfl
    · rw [mk_no KO.lt hm] at hz'
      rw [← Option.some.inj hz']; rfl
    · refine ⟨w5, _, (j : Nat), .str wd, rfl, rfl, .of upd_same, atI_nat ?_, q _ s4⟩
      show (kWords.map V.str)[j]? = _
      rw [List.getElem?_map, hw]; rfl
end
end Sg

set_option Elab.async false
set_option linter.all false
set_option maxRecDepth 100000
set_option maxHeartbeats 4000000
namespace Sg
open PySem PySem.Spec PyProof.Rows L2 StX
theorem PSs.imp {X : Cx} {sts : List Stmt} {t t' : TS} (h : PSs X sts t) (i : ∀ D σ H, t' D σ H → t D σ H) : PSs X sts t' := ⟨fun pins s σ H D I q => h.run pins s σ H D I (i _ _ _ q)⟩
theorem takes_len {X : Cx} {W : WX} (t : Takes X W) : Takes X (fun cls d σ H => σ.length = X.N.length → W cls d σ H) := fun u s' ⟨a, B, sI, pins, σ, H, cls, d, e, I, nb, up, sky, na, os, ag, w⟩ =>
  t u s' ⟨a, B, sI, pins, σ, H, cls, d, e, I, nb, up, sky, na, os, ag, w I.len⟩
theorem words_short : ∀ w ∈ kWords, w.length ≤ 20 := by decide +kernel
/-- what the told def wishes of an exception -/
def SaidE (K : PySem.W.Frag) (C : Nat → Addr) (Gap : Addr) (Q : VK) : XK := fun cls d H => ∃ Dc j wd, cls = .ref Dc ∧ d = none ∧ KindOk K C Dc j ∧ kWords[j]? = some wd ∧ wd ≠ ("many" : Str) ∧ wd ≠ ("far" : Str) ∧ PySem.W.exmOne K (.ref Dc) (.ref Gap) = some true ∧
  ∀ H', Same H H' → Q (.str ("! " ++ wd)) H'
def TSaid (K : PySem.W.Frag) (C : Nat → Addr) (Gap : Addr) : (XK → Hp → VK → Prop) → Hp → VK → Prop := fun tl H Q =>
  tl (SaidE K C Gap Q) H (fun v H' => ∃ v' d, [v] = [v'] ∧ Aq K H' v' d ∧ GoodD d ∧ Q (.str d.shown) H')
theorem said_gives {X : Cx} {q : Str} {g f1 Gap : Addr} {fd1 : FuncData} {cdg : Value} {k : Nat} {C : Nat → Addr} (hgd : X.A.guards = some []) (hr : Room (k + 1) X.A)
    (G1 : FnE X.prog X.w X.K X.mg X.base k f1 fd1 ["_law_e"] (spKind X.K C)) (kp1 : PySem.W.keepIn X.K (.ref f1) = true) (b1 : Binds X.K fd1 ["_law_e"] []) (g1 : X.mg "_law_kind" = some (.ref f1))
    (hme : X.mg "GapError" = some (.ref Gap)) (m1 : X.mg "repr" = none) :
    LamX.GivesTo X ["_law_call", "_law_e", "_law_word"] "_law_said" (defScope s_l_said) g cdg (defBody s_l_said) "_law_call" q (TSaid X.K C Gap) := by
  intro f c' s H Q tl act hc h
  have big : 1000 ≤ sizeLine := by rw [sizeLine_eq]; decide
  have hr' := hr.deeper (envOfC "_law_said" (defScope s_l_said) s.heap.objs.size g cdg)
  refine ⟨_, pss_one (ps_try_as (X := (cxOf C8.CX0 X.prog X.w X.K X.mg X.base ["_law_call", "_law_e", "_law_word"] "_law_said" (defScope s_l_said) g cdg X.A X.stack s H C8.E0).nox) (c := .ref Gap) (i := 1)
      (tb := fun W D σ H => ∃ Ech : XK, (∀ cls d σ' H', Ech cls d H' → σ'.length = 3 → W cls d σ' H') ∧ σ[0]? = some (some (.ref f)) ∧ H c' = some (LamX.CodeO c' q) ∧ tl Ech H (fun v H' => ∃ v' d, [v] = [v'] ∧ Aq X.K H' v' d ∧ GoodD d ∧ D.rt (.str d.shown) H'))
      (ts := fun a cls d D σ H => (∃ x y z, σ = [x, y, z]) ∧ σ[1]? = some (some (.ref a)) ∧ ∃ Dc j wd, cls = .ref Dc ∧ d = none ∧ KindOk X.K C Dc j ∧ kWords[j]? = some wd ∧ wd ≠ ("many" : Str) ∧ wd ≠ ("far" : Str) ∧ ∀ H', Same H H' → D.rt (.str ("! " ++ wd)) H')
      rfl rfl sc_l_said.nd rfl rfl ⟨by rfl, by decide, .inl hme⟩ LamX.takes0 (fun W pn xe tk _ => ?_) (fun a oe cls d pn hz hf => ?_)), ?_⟩
  · refine ⟨fun pins s' σ H' D I h' => ?_⟩
    obtain ⟨Ech, hW, h1, h2, h3⟩ := h'
    have hp := fun p1 p2 => act _ pn xe Ech p1 p2 (takes_len tk) hW
    refine PSs.run (pss_one (ps_ret (pe_callB (call_reprA (X := ((cxOf C8.CX0 X.prog X.w X.K X.mg X.base ["_law_call", "_law_e", "_law_word"] "_law_said" (defScope s_l_said) g cdg X.A X.stack s H C8.E0).nox).tr pn xe) hgd (j := k) ⟨hr'.hd, hr'.dp, hr'.un⟩) (by rfl) m1 (by decide +kernel) (pa_cons (hp _ _) pa_nil)))) pins s' σ H' D I ⟨h1, h2, h3⟩
  · refine PSs.imp (pss_cons (ps_set (i := 2) sc_l_said.nd rfl (.inl rfl) (pe_callE G1 List.mem_cons_self ⟨hr'.dp, hr'.un⟩ (by rfl) g1 kp1 b1 (pa_cons (pv 1) pa_nil)))
      (pss_cons (ps_if (pt_cmpR op_eq (pv 2) pe_str (nomark _)) (pss_one ps_never) pss_nil)
      (pss_cons (ps_if (pt_cmpR op_eq (pv 2) pe_str (nomark _)) (pss_one ps_never) pss_nil)
      (pss_one (ps_ret (pe_op op_add_str pe_str (pv 2))))))) fun D σ H h => ?_
    obtain ⟨⟨x, y, z, rfl⟩, hy, Dc, j, wd, rfl, rfl, KO, hw, n1, n2, qq⟩ := h
    refine ⟨.ref a, hy, Dc, j, wd, KO, hw, rfl, hz, hf, fun H' e => ?_⟩
    have d1 : decide (V.str wd = V.str "many") = false := decide_eq_false fun z => n1 (V.str.inj z)
    have d2 : decide (V.str wd = V.str "far") = false := decide_eq_false fun z => n2 (V.str.inj z)
    have ls := words_short wd (List.mem_of_getElem? hw)
    refine ⟨.str wd, rfl, rfl, _, rfl, ?_⟩
    rw [d1]
    refine iteF ⟨.str wd, rfl, rfl, _, rfl, ?_⟩
    rw [d2]
    refine iteF ⟨.str wd, rfl, _, _, rfl, rfl, ?_, qq _ e⟩
    show 2 + wd.length ≤ _
    omega
  · refine ⟨SaidE X.K C Gap Q, fun cls d σ' H' ⟨Dc, j, wd, e1, e2, KO, hw, n1, n2, ex, qq⟩ hl => ?_, rfl, hc, h⟩
    obtain ⟨x, y, z, rfl⟩ : ∃ x y z, σ' = [x, y, z] := by
      match σ', hl with
      | [x, y, z], _ => exact ⟨x, y, z, rfl⟩
    rw [e1]
    exact ⟨true, ex, fun _ a ha => ⟨⟨_, _, _, rfl⟩, rfl, Dc, j, wd, rfl, e2, KO, hw, n1, n2, qq⟩, fun z => nomatch z⟩
end Sg

set_option Elab.async false
set_option linter.all false
set_option maxRecDepth 100000
set_option maxHeartbeats 400000
namespace Sg
open PySem PySem.Spec PyProof.Rows L2 StX
def lamQ (x : Str) : Str := (x ++ (".<locals>." : Str)) ++ ("<lambda>" : Str)
theorem ext_upd {H H' : Hp} {l : Addr} {u : HO} (e : LamX.ExtN H H') (h : ∀ o, H l = some o → ∃ ps, o = .tbl ps) : LamX.ExtN H (upd H' l u) := fun b o g n => by
  by_cases z : b = l
  · subst z
    obtain ⟨ps, rfl⟩ := h o g
    exact absurd rfl (n ps)
  · rw [upd_ne z]; exact e _ _ g n
theorem tabs_upd {T : List (Addr × Str)} {H : Hp} {l : Addr} {xs : List V} {o : HO} (h : H l = some (.lst xs)) (t : LamX.Tabs T H) : LamX.Tabs T (upd H l o) := fun x hx => by
  obtain ⟨ps, h1, h2, h3⟩ := t x hx
  refine ⟨ps, by rw [upd_ne (ne_of h1 h fun z => nomatch z)]; exact h1, h2, fun pos cv hc => ?_⟩
  obtain ⟨c, e1, e2⟩ := h3 pos cv hc
  exact ⟨c, e1, by rw [upd_ne (ne_of e2 h fun z => by unfold LamX.CodeO at z; exact nomatch z)]; exact e2⟩
def wW : Str := "! " ++ "work"
structure SaidOk (K : PySem.W.Frag) (C : Nat → Addr) (Gap Cw : Addr) : Prop where
  ko : KindOk K C Cw 0
  ex : PySem.W.exmOne K (.ref Cw) (.ref Gap) = some true
theorem SaidOk.said {K : PySem.W.Frag} {C : Nat → Addr} {Gap Cw : Addr} (h : SaidOk K C Gap Cw) {Q : VK} {H : Hp} (q : ∀ H', Same H H' → Q (.str wW) H') : SaidE K C Gap Q (.ref Cw) none H :=
  ⟨Cw, 0, "work", rfl, rfl, h.ko, rfl, by decide, by decide, h.ex, q⟩
section
variable {P : Program} {w : World} {K : PySem.W.Frag} {mg : Str → Option Value} {base : Heap}
def spRefused (K : PySem.W.Frag) (T : List (Addr × Str)) : Sp := fun vs H Q _ => ∃ a ns v d, vs = [.ref a, v] ∧ SqT K H a (ns.map V.int) ∧ IsWork ns ∧ Aq K H v d ∧ GoodD d ∧ ¬ WorkD d ∧ LamX.Tabs T H ∧
  ∀ H', LamX.ExtN H H' → LamX.Tabs T H' → Q (.bl true) H'
theorem ok_l_refused {f fs fb fv f1 Gap Cw c P' : Addr} {fd fds fdb fdv fd1 : FuncData} {k : Nat} {C : Nat → Addr} (F : Fun K "_law_refused" "_law_refused" s_l_refused f fd) (hc : fd.code = .ref c) (TB : LamX.TabB base mg c P')
    (Fs : Fun K "_law_said" "_law_said" s_l_said fs fds) (kps : PySem.W.keepIn K (.ref fs) = true) (bs : Binds K fds ["_law_call"] []) (gs : mg "_law_said" = some (.ref fs))
    (G1 : FnE P w K mg base k f1 fd1 ["_law_e"] (spKind K C)) (kp1 : PySem.W.keepIn K (.ref f1) = true) (b1 : Binds K fd1 ["_law_e"] []) (g1 : mg "_law_kind" = some (.ref f1))
    (Gb : FnOk P w K mg base (L2.CX P w) k fb fdb ["one", "other"] (spBarsBad K Cw)) (kpb : PySem.W.keepIn K (.ref fb) = true) (bb : Binds K fdb ["one", "other"] []) (gb : mg "bars" = some (.ref fb))
    (Gv : FnOk P w K mg base (L2.CX P w) k fv fdv ["work"] (spVisits K Cw)) (kpv : PySem.W.keepIn K (.ref fv) = true) (bv : Binds K fdv ["work"] []) (gv : mg "most_visits" = some (.ref fv))
    (KO : KindOk K C Cw 0) (hx : PySem.W.exmOne K (.ref Cw) (.ref Gap) = some true) (hme : mg "GapError" = some (.ref Gap)) (m1 : mg "repr" = none) :
    FnG P w K mg base (k + 3) f fd ["_law_work_here", "_law_bad"] (spRefused K [(P', lamQ "_law_refused")]) := by
  obtain ⟨ocs, ods, kVs, docs, pms, ans, cdvs, cts, osls, rfl, lks, hcds⟩ := Fs.ex
  refine fnG_mkC F hc sc_l_refused (fun vs H Q h => ?_) (fun A outer s H vs Q hgd hr h => ?_)
  · obtain ⟨a, ns, v, d, rfl, _⟩ := h; rfl
  · obtain ⟨a, ns, v, d, rfl, hS, hw, hd, hG, hno, hT, q⟩ := h
    have big : 1000 ≤ sizeLine := by rw [sizeLine_eq]; decide
    let T : List (Addr × Str) := [(P', lamQ "_law_refused")]
    let X0 : Cx := (cxOf CX0 P w K mg base ["_law_work_here", "_law_bad", "_law_kept", "_law_words"] "_law_refused" (defScope s_l_refused) f (.ref c) A outer s H E0).nox
    have eq0 : X0.env.qual ++ ("<lambda>" : Str) = lamQ "_law_refused" := rfl
    have hmT : (P', X0.env.qual ++ ("<lambda>" : Str)) ∈ T := by rw [eq0]; exact List.mem_singleton.mpr rfl
    have hu : ∀ p ∈ T, p.1 = P' → p.2 = X0.env.qual ++ ("<lambda>" : Str) := fun p hp _ => by rw [eq0, List.mem_singleton.mp hp]
    have sg := fun (q : Str) => said_gives (X := X0) (q := q) (g := fs) (cdg := cdvs) (C := C) hgd (hr.mono (show k + 1 ≤ k + 2 by omega)) G1 kp1 b1 g1 hme m1
    have hu64 : X0.A.units + 64 < cLine := by
      have h := hr.un
      have e : X0.A.units = (A.deeper (envOfC "_law_refused" (defScope s_l_refused) s.heap.objs.size f (.ref c))).units := rfl
      omega
    refine ⟨_, pss_cons (ps_par (i := 2) (j := 3) (by rfl) sc_l_refused.nd rfl rfl (by decide) rfl rfl (pa_cons (pe_callB (call_reprA hgd hr) (by rfl) m1 (by decide +kernel) (pa_cons (pv 1) pa_nil))
        (pa_cons (pe_lst (pa_cons (LamX.pe_lamcall (T := T) (by rfl) gs kps lks hcds bs sc_l_said rfl (.inl rfl) (sg _) TB rfl hmT hu hr (LamX.lamS_by (by show LamX.lamSB (defScope s_l_refused) _ = true; decide +kernel)) rfl (fun _ _ _ _ _ => rfl)
          (fun A2 outer2 s2 H2 E2 f2 c2 hr2 => pe_callS Gb hr2 (by rfl) gb kpb bb (fun σ => passAt (takes_of rfl rfl rfl rfl) σ) (pa_cons (pv 1) (pa_cons (pv 0) pa_nil)))) pa_nil)) pa_nil)) (by rfl))
      (pss_cons (ps_expr (pe_bm PySem.F.plainAttrs_list PySem.F.slot_list_append PySem.F.type_list_append mt_append (pv 3) (pa_cons (LamX.pe_lamcall (T := T) (by rfl) gs kps lks hcds bs sc_l_said rfl (.inl rfl) (sg _) TB rfl hmT hu hr (LamX.lamS_by (by show LamX.lamSB (defScope s_l_refused) _ = true; decide +kernel)) rfl (fun _ _ _ _ _ => rfl)
          (fun A2 outer2 s2 H2 E2 f2 c2 hr2 => pe_callS Gb hr2 (by rfl) gb kpb bb (fun σ => passAt (takes_of rfl rfl rfl rfl) σ) (pa_cons (pv 0) (pa_cons (pv 1) pa_nil)))) pa_nil)))
      (pss_cons (ps_expr (pe_bm PySem.F.plainAttrs_list PySem.F.slot_list_append PySem.F.type_list_append mt_append (pv 3) (pa_cons (LamX.pe_lamcall (T := T) (by rfl) gs kps lks hcds bs sc_l_said rfl (.inl rfl) (sg _) TB rfl hmT hu hr (LamX.lamS_by (by show LamX.lamSB (defScope s_l_refused) _ = true; decide +kernel)) rfl (fun _ _ _ _ _ => rfl)
          (fun A2 outer2 s2 H2 E2 f2 c2 hr2 => pe_callS Gb hr2 (by rfl) gb kpb bb (fun σ => passAt (takes_of rfl rfl rfl rfl) σ) (pa_cons (pv 1) (pa_cons (pv 1) pa_nil)))) pa_nil)))
      (pss_cons (ps_expr (pe_bm PySem.F.plainAttrs_list PySem.F.slot_list_append PySem.F.type_list_append mt_append (pv 3) (pa_cons (LamX.pe_lamcall (T := T) (by rfl) gs kps lks hcds bs sc_l_said rfl (.inl rfl) (sg _) TB rfl hmT hu hr (LamX.lamS_by (by show LamX.lamSB (defScope s_l_refused) _ = true; decide +kernel)) rfl (fun _ _ _ _ _ => rfl)
          (fun A2 outer2 s2 H2 E2 f2 c2 hr2 => pe_callS Gv hr2 (by rfl) gv kpv bv (fun σ => passAt (takes_of rfl rfl rfl rfl) σ) (pa_cons (pv 1) pa_nil))) pa_nil)))
      (pss_one (ps_ret (pe_and (pe_cmpR (op_eqD hu64) (pv 3) (pe_op op_rep (pe_lst (pa_cons pe_str pa_nil)) pe_int) (nomark _)) (pe_one (pe_cmpR op_eq (pe_callB (call_reprA hgd hr) (by rfl) m1 (by decide +kernel) (pa_cons (pv 1) pa_nil)) (pv 2) (nomark _))))))))), ?_⟩
    have hwq : Aq K H (.ref a) (tD ns) := .data (.tup hS (dpInts ns))
    have ok : SaidOk K C Gap Cw := ⟨KO, hx⟩
    refine ⟨v, rfl, v, d, rfl, hd, hG, hT, fun H1 e1 T1 => ⟨v, rfl, .ref a, rfl, v, d, .ref a, tD ns, rfl, hd.ext e1, hwq.ext e1, fun z => hno z.1, fun H2 s2 => ok.said fun H3 s3 => ?_⟩⟩
    have x3 := e1.trans (ext_of (s2.trans s3))
    have T3 := tabs_same (s2.trans s3) T1
    refine ⟨by show 1 ≤ sizeLine; omega, fun l nl => ⟨_, _, rfl, ?_⟩⟩
    have x4 := x3.trans (ext_of (same_new (o := .lst [V.str wW]) nl))
    have T4 := tabs_same (same_new (o := .lst [V.str wW]) nl) T3
    have h4 : (upd H3 l (.lst [V.str wW])) l = some (.lst [V.str wW]) := upd_same
    have nl0 : ∀ o, H l = some o → ∃ ps, o = .tbl ps := fun o z => ext_free x3 nl z
    generalize upd H3 l (.lst [V.str wW]) = H4 at x4 T4 h4 ⊢
    refine ⟨.ref l, rfl, .inl ⟨rfl, _, .of h4⟩, T4, fun J5 e5 T5 => ⟨.ref a, rfl, v, rfl, .ref a, tD ns, v, d, rfl, hwq.ext (x4.trans e5), hd.ext (x4.trans e5), fun z => hno z.2, fun J6 s6 => ok.said fun J7 s7 => ?_⟩⟩
    have h5 := (s6.trans s7) _ _ (e5 _ _ h4 fun ps z => nomatch z)
    refine ⟨l, _, _, rfl, rfl, h5, by show 1 < sizeLine; omega, ?_⟩
    have x5 := ext_upd (u := .lst ([V.str wW] ++ [V.str wW])) ((x4.trans e5).trans (ext_of (s6.trans s7))) nl0
    have T6 := tabs_upd (o := .lst ([V.str wW] ++ [V.str wW])) h5 (tabs_same (s6.trans s7) T5)
    have h6 : (upd J7 l (.lst ([V.str wW] ++ [V.str wW]))) l = some (.lst ([V.str wW] ++ [V.str wW])) := upd_same
    generalize upd J7 l (.lst ([V.str wW] ++ [V.str wW])) = H6 at x5 T6 h6 ⊢
    refine ⟨.ref l, rfl, .inl ⟨rfl, _, .of h6⟩, T6, fun K5 f5 U5 => ⟨v, rfl, v, rfl, v, d, v, d, rfl, hd.ext (x5.trans f5), hd.ext (x5.trans f5), fun z => hno z.2, fun K6 t6 => ok.said fun K7 t7 => ?_⟩⟩
    have h7 := (t6.trans t7) _ _ (f5 _ _ h6 fun ps z => nomatch z)
    refine ⟨l, _, _, rfl, rfl, h7, by show 2 < sizeLine; omega, ?_⟩
    have x7 := ext_upd (u := .lst (([V.str wW] ++ [V.str wW]) ++ [V.str wW])) ((x5.trans f5).trans (ext_of (t6.trans t7))) nl0
    have T8 := tabs_upd (o := .lst (([V.str wW] ++ [V.str wW]) ++ [V.str wW])) h7 (tabs_same (t6.trans t7) U5)
    have h8 : (upd K7 l (.lst (([V.str wW] ++ [V.str wW]) ++ [V.str wW]))) l = some (.lst (([V.str wW] ++ [V.str wW]) ++ [V.str wW])) := upd_same
    generalize upd K7 l (.lst (([V.str wW] ++ [V.str wW]) ++ [V.str wW])) = H8 at x7 T8 h8 ⊢
    refine ⟨.ref l, rfl, .inl ⟨rfl, _, .of h8⟩, T8, fun M5 g5 V5 => ⟨v, rfl, v, d, rfl, hd.ext (x7.trans g5), (fun _ M6 t6 => ok.said fun M7 t7 => ?_), fun z => absurd z hno⟩⟩
    have h9 := (t6.trans t7) _ _ (g5 _ _ h8 fun ps z => nomatch z)
    refine ⟨l, _, _, rfl, rfl, h9, by show 3 < sizeLine; omega, ?_⟩
    have x9 := ext_upd (u := .lst ((([V.str wW] ++ [V.str wW]) ++ [V.str wW]) ++ [V.str wW])) ((x7.trans g5).trans (ext_of (t6.trans t7))) nl0
    have T10 := tabs_upd (o := .lst ((([V.str wW] ++ [V.str wW]) ++ [V.str wW]) ++ [V.str wW])) h9 (tabs_same (t6.trans t7) V5)
    have h10 : (upd M7 l (.lst ((([V.str wW] ++ [V.str wW]) ++ [V.str wW]) ++ [V.str wW]))) l = some (.lst [V.str wW, V.str wW, V.str wW, V.str wW]) := upd_same
    generalize upd M7 l (.lst ((([V.str wW] ++ [V.str wW]) ++ [V.str wW]) ++ [V.str wW])) = H10 at x9 T10 h10 ⊢
    refine ⟨.ref l, rfl, by show 1 ≤ sizeLine; omega, fun r nr => ⟨r, 4, _, rfl, rfl, upd_same, by decide, by decide, by show 1 * 4 ≤ sizeLine; omega, fun r2 nr2 => ?_⟩⟩
    have y1 := (same_new (o := .lst [V.str "! work"]) nr).trans (same_new (o := .lst (List.replicate (4 : Int).toNat [V.str "! work"]).flatten) nr2)
    have h11 := y1 _ _ h10
    have hr2 : (upd (upd H10 r (.lst [V.str "! work"])) r2 (.lst (List.replicate (4 : Int).toNat [V.str "! work"]).flatten)) r2 = some (.lst [V.str "! work", V.str "! work", V.str "! work", V.str "! work"]) := upd_same
    have x11 := x9.trans (ext_of y1)
    have T11 := tabs_same y1 T10
    generalize upd (upd H10 r (.lst [V.str "! work"])) r2 (.lst (List.replicate (4 : Int).toNat [V.str "! work"]).flatten) = H11 at x11 T11 h11 hr2 ⊢
    refine ⟨.list [.str wW, .str wW, .str wW, .str wW], .list [.str "! work", .str "! work", .str "! work", .str "! work"], .lst (.of h11) (.cons (.str _) (.cons (.str _) (.cons (.str _) (.cons (.str _) .nil)))), .lst (.of hr2) (.cons (.str _) (.cons (.str _) (.cons (.str _) (.cons (.str _) .nil)))), by decide +kernel, by decide +kernel, _, rfl, ?_⟩
    rw [show PyData.eqv (.list [.str wW, .str wW, .str wW, .str wW]) (.list [.str "! work", .str "! work", .str "! work", .str "! work"]) = true from by decide +kernel]
    refine iteT ⟨v, rfl, v, d, rfl, hd.ext x11, hG, .str d.shown, rfl, rfl, ?_⟩
    rw [decide_eq_true rfl]
    exact q H11 x11 T11
end
end Sg

set_option Elab.async false
set_option linter.all false
set_option maxRecDepth 100000
set_option maxHeartbeats 4000000
namespace Sg
open PySem PySem.Spec PyProof.Rows L2 StX
theorem cut_map (xs : List Int) (lo hi : Option Int) : ∃ ys : List Int, cutV (xs.map V.int) lo hi = ys.map V.int ∧ ys.length ≤ xs.length := by
  unfold cutV
  refine ⟨(xs.drop (HT.sIx (xs.map V.int).length 0 lo)).take (HT.sIx (xs.map V.int).length (xs.map V.int).length hi - HT.sIx (xs.map V.int).length 0 lo), ?_, ?_⟩
  · rw [List.map_take, List.map_drop]
  · rw [List.length_take, List.length_drop]
    exact Nat.le_trans (Nat.min_le_right _ _) (Nat.sub_le _ _)
theorem good_table : ∀ m ∈ List.range 61, goodB (.list [.int ((m : Nat) : Int), .int ((m : Nat) : Int)]) = true := by decide +kernel
theorem Mv.good {ns : List Int} {m : Int} (h : Mv ns m) (hw : IsWork ns) : GoodD (.list [.int m, .int m]) := by
  obtain ⟨k, _, rfl⟩ := List.mem_map.mp h.1
  have h1 := List.count_le_length (a := ((k : Nat) : Int)) (l := ns)
  have h2 := hw.most
  exact good_by (good_table _ (List.mem_range.mpr (by omega)))
section
variable {P : Program} {w : World} {K : PySem.W.Frag} {mg : Str → Option Value} {base : Heap}
/-! ### _law_same -/
def spSameA (K : PySem.W.Frag) : Sp := fun vs H Q _ => ∃ v u d, vs = [v, u] ∧ Aq K H v d ∧ Aq K H u d ∧ GoodD d ∧ Q (.bl true) H
theorem ok_l_sameA {f : Addr} {fd : FuncData} {k : Nat} (F : Fun K "_law_same" "_law_same" s_l_same f fd) (m1 : mg "repr" = none) : FnG P w K mg base (k + 1) f fd ["_law_found", "_law_due"] (spSameA K) := by
  refine fnG_mk F sc_l_same (fun vs H Q h => ?_) (fun cdv A outer s H vs Q hgd hr h => ?_)
  · obtain ⟨v, u, d, rfl, _⟩ := h; rfl
  · obtain ⟨v, u, d, rfl, hv, hu, hg, q⟩ := h
    refine ⟨_, pss_one (ps_ret (pe_cmpR op_eq (pe_callB (call_reprA hgd hr) (by rfl) m1 (by decide +kernel) (pa_cons (pv 0) pa_nil)) (pe_callB (call_reprA hgd hr) (by rfl) m1 (by decide +kernel) (pa_cons (pv 1) pa_nil)) (nomark _))), ?_⟩
    refine ⟨v, rfl, v, d, rfl, hv, hg, u, rfl, u, d, rfl, hu, hg, rfl, ?_⟩
    rw [decide_eq_true rfl]
    exact q
/-! ### the law -/
def spLaw (K : PySem.W.Frag) (T : List (Addr × Str)) : Sp := fun vs H Q _ => ∃ (a : Addr) (ns : List Int), vs = [.ref a] ∧ SqL K H a (ns.map V.int) ∧ ns.length ≤ 63 ∧ LamX.Tabs T H ∧ ∀ H', Q (.bl true) H'
/-- what stands throughout -/
structure LawH (K : PySem.W.Frag) (T : List (Addr × Str)) (L p t : Addr) (cs ns : List Int) (H : Hp) : Prop where
  lst : H L = some (.lst (cs.map V.int))
  pen : PenAt H p
  wk : FrzT H t (ns.map V.int)
  tab : LamX.Tabs T H
theorem LawH.ext {T : List (Addr × Str)} {L p t : Addr} {cs ns : List Int} {H H' : Hp} (h : LawH K T L p t cs ns H) (e : LamX.ExtN H H') (T' : LamX.Tabs T H') : LawH K T L p t cs ns H' :=
  ⟨e _ _ h.lst (fun ps z => nomatch z), h.pen.ext e, h.wk.ext e, T'⟩
theorem LawH.same {T : List (Addr × Str)} {L p t : Addr} {cs ns : List Int} {H H' : Hp} (h : LawH K T L p t cs ns H) (e : Same H H') : LawH K T L p t cs ns H' := h.ext (ext_of e) (tabs_same e h.tab)
theorem LawH.but {T : List (Addr × Str)} {L p t : Addr} {cs ns : List Int} {H H' : Hp} (h : LawH K T L p t cs ns H) (n : L ≠ p) (e : But p H H') (p' : PenAt H' p) : LawH K T L p t cs ns H' := by
  refine ⟨e _ _ n h.lst, p', ?_, tabs_but h.pen e h.tab⟩
  obtain ⟨ob, h1, h2⟩ := h.wk
  obtain ⟨_, _, _, hp, _⟩ := h.pen
  exact ⟨ob, e _ _ (ne_of h1 hp fun z => nomatch z) h1, h2⟩
theorem lap3 (j : Nat) : ∃ z : Int, atI [V.int 4, V.int 12, V.int 60] ((0 + (j : Nat) : Int) % 3) = some (.int z) ∧ 1 ≤ z ∧ z ≤ 60 := by
  have h0 : (0 + (j : Nat) : Int) % 3 = ((j % 3 : Nat) : Int) := by omega
  rw [h0]
  have : j % 3 = 0 ∨ j % 3 = 1 ∨ j % 3 = 2 := by omega
  rcases this with e | e | e <;> rw [e]
  · exact ⟨4, atI_nat rfl, by decide, by decide⟩
  · exact ⟨12, atI_nat rfl, by decide, by decide⟩
  · exact ⟨60, atI_nat rfl, by decide, by decide⟩
theorem ok_law {f f1 f2 f3 f4 f5 f6 f7 f8 f9 f10 f11 Cw P' : Addr} {fd fd1 fd2 fd3 fd4 fd5 fd6 fd7 fd8 fd9 fd10 fd11 : FuncData} {k : Nat} (F : Fun K "law" "law" s_law f fd)
    (G1 : FnOk P w K mg base CX0 k f1 fd1 ["_law_script", "_law_k"] (spCell K)) (kp1 : PySem.W.keepIn K (.ref f1) = true) (b1 : Binds K fd1 ["_law_script", "_law_k"] []) (g1 : mg "_law_cell" = some (.ref f1))
    (G2 : FnOk P w K mg base CX0 k f2 fd2 ["_law_cell_here"] spPen) (kp2 : PySem.W.keepIn K (.ref f2) = true) (b2 : Binds K fd2 ["_law_cell_here"] []) (g2 : mg "_law_pen" = some (.ref f2))
    (G3 : FnOk P w K mg base CX0 k f3 fd3 ["_law_pen_here", "_law_most", "_law_stations"] spWork) (kp3 : PySem.W.keepIn K (.ref f3) = true) (b3 : Binds K fd3 ["_law_pen_here", "_law_most", "_law_stations"] []) (g3 : mg "_law_work" = some (.ref f3))
    (G4 : FnOk P w K mg base CX0 k f4 fd4 [] (spAnys K)) (kp4 : PySem.W.keepIn K (.ref f4) = true) (b4 : Binds K fd4 [] []) (g4 : mg "_law_odds" = some (.ref f4))
    (G5 : FnOk P w K mg base CX0 k f5 fd5 [] (spAnys K)) (kp5 : PySem.W.keepIn K (.ref f5) = true) (b5 : Binds K fd5 [] []) (g5 : mg "_law_great" = some (.ref f5))
    (G6 : FnOk P w K mg base CX0 k f6 fd6 ["_law_pen_here", "_law_row"] (spBend K)) (kp6 : PySem.W.keepIn K (.ref f6) = true) (b6 : Binds K fd6 ["_law_pen_here", "_law_row"] []) (g6 : mg "_law_bend" = some (.ref f6))
    (G7 : FnOk P w K mg base CX0 k f7 fd7 ["_law_thing"] (spIsWorkA K)) (kp7 : PySem.W.keepIn K (.ref f7) = true) (b7 : Binds K fd7 ["_law_thing"] []) (g7 : mg "_law_is_work" = some (.ref f7))
    (G8 : FnG P w K mg base k f8 fd8 ["_law_work_here", "_law_bad"] (spRefused K [(P', lamQ "_law_refused")])) (kp8 : PySem.W.keepIn K (.ref f8) = true) (b8 : Binds K fd8 ["_law_work_here", "_law_bad"] []) (g8 : mg "_law_refused" = some (.ref f8))
    (G9 : FnOk P w K mg base CX0 k f9 fd9 ["_law_pen_here", "_law_many"] spDraw) (kp9 : PySem.W.keepIn K (.ref f9) = true) (b9 : Binds K fd9 ["_law_pen_here", "_law_many"] []) (g9 : mg "_law_draw" = some (.ref f9))
    (G10 : FnOk P w K mg base (L2.CX P w) k f10 fd10 ["work"] (spVisits K Cw)) (kp10 : PySem.W.keepIn K (.ref f10) = true) (b10 : Binds K fd10 ["work"] []) (g10 : mg "most_visits" = some (.ref f10))
    (G11 : FnG P w K mg base k f11 fd11 ["_law_found", "_law_due"] (spSameA K)) (kp11 : PySem.W.keepIn K (.ref f11) = true) (b11 : Binds K fd11 ["_law_found", "_law_due"] []) (g11 : mg "_law_same" = some (.ref f11))
    (m1 : mg "range" = none) (m2 : mg "max" = none) : FnG P w K mg base (k + 1) f fd ["_law_script"] (spLaw K [(P', lamQ "_law_refused")]) := by
  refine fnG_mk F sc_law (fun vs H Q h => ?_) (fun cdv A outer s H vs Q hgd hr h => ?_)
  · obtain ⟨a, ns, rfl, _⟩ := h; rfl
  · obtain ⟨a, ns, rfl, hS, hlen, hT, q⟩ := h
    have big : 1000 ≤ sizeLine := by rw [sizeLine_eq]; decide
    refine ⟨_, pss_cons (ps_for PassesOwn.never rfl (pi_list (pe_op op_cat (pe_lst (pa_cons (pe_call G1 hr (by rfl) g1 kp1 b1 .nil pass0 (pa_cons (pv 0) (pa_cons pe_int pa_nil))) pa_nil)) (pe_slice sl_list (pv 0) (po_some pe_int) (po_some pe_int)))) (pg_name (i := 1) sc_law.nd rfl (.inl rfl))
        (pss_cons (ps_set (i := 2) sc_law.nd rfl (.inr rfl) (pe_call G2 hr (by rfl) g2 kp2 b2 .nil pass0 (pa_cons (pv 1) pa_nil)))
        (pss_cons (ps_set (i := 3) sc_law.nd rfl (.inr rfl) (pe_call G3 hr (by rfl) g3 kp3 b3 .nil pass0 (pa_cons (pv 2) (pa_cons pe_int (pa_cons pe_int pa_nil)))))
        (pss_cons (ps_for PassesOwn.never rfl (pi_list (pe_op op_cat (pe_op op_cat (pe_op op_cat (pe_anyL (n := 1) (by decide +kernel) rfl (by decide)) (pe_call0 G4 hr (by rfl) g4 kp4 b4 .nil pass0)) (pe_call0 G5 hr (by rfl) g5 kp5 b5 .nil pass0))
              (pe_lc (own := [("_law_turn", 5)]) (g := gName 5) (tt := tYes) rfl sc_law.nd (pi_range1 (by rfl) m1 (pa_cons pe_int pa_nil)) (blkOk_by (N := ["_law_script", "_law_cell_here", "_law_pen_here", "_law_work_here", "_law_thing", "_law_turn", "_law_lap", "_law_due", "_law_station"]) (sc := defScope s_law) (by decide +kernel))
                (fun _ _ _ _ _ => pg_name (i := 5) sc_law.nd rfl (Or.inl rfl)) (fun _ _ _ _ _ => pts_nil) (fun _ _ _ _ _ => pe_call G6 hr (by rfl) g6 kp6 b6 .nil pass0 (pa_cons (pv 2) (pa_cons (pv 3) pa_nil)))))) (pg_name (i := 4) sc_law.nd rfl (.inl rfl))
            (pss_one (ps_if (PW.pt (pw_and (pt_not (pt_val (pe_call G7 hr (by rfl) g7 kp7 b7 .nil pass0 (pa_cons (pv 4) pa_nil)))) (pw_and1 (pt_not (pt_val (pe_callG G8 hgd hr (by rfl) g8 kp8 b8 (pa_cons (pv 3) (pa_cons (pv 4) pa_nil)))))))) (pss_one (ps_ret pe_bl)) pss_nil)))
        (pss_one (ps_for PassesOwn.never rfl (pi_range1 (by rfl) m1 (pa_cons pe_int pa_nil)) (pg_name (i := 6) sc_law.nd rfl (.inl rfl))
          (pss_cons (ps_set (i := 3) sc_law.nd rfl (.inr rfl) (pe_call G3 hr (by rfl) g3 kp3 b3 .nil pass0 (pa_cons (pv 2) (pa_cons (pe_ix ix_list (pe_lst (pa_cons pe_int (pa_cons pe_int (pa_cons pe_int pa_nil)))) (pe_op op_mod (pv 6) pe_int) (fun _ _ => rfl)) (pa_cons (pe_op op_add pe_int (pe_call G9 hr (by rfl) g9 kp9 b9 .nil pass0 (pa_cons (pv 2) (pa_cons pe_int pa_nil)))) pa_nil)))))
          (pss_cons (ps_set (i := 7) sc_law.nd rfl (.inl rfl) (pe_callB (cr_max rfl) (by rfl) m2 (by decide +kernel) (pa_cons
              (pe_lc (own := [("_law_station", 8)]) (g := gName 8) (tt := tYes) rfl sc_law.nd (pi_range1 (by rfl) m1 (pa_cons pe_int pa_nil)) (blkOk_by (N := ["_law_script", "_law_cell_here", "_law_pen_here", "_law_work_here", "_law_thing", "_law_turn", "_law_lap", "_law_due", "_law_station"]) (sc := defScope s_law) (by decide +kernel))
                (fun _ _ _ _ _ => pg_name (i := 8) sc_law.nd rfl (Or.inl rfl)) (fun _ _ _ _ _ => pts_nil) (fun _ _ _ _ _ => pe_bmF PySem.F.plainAttrs_tuple PySem.F.slot_tuple_count PySem.F.type_tuple_count (mt_tcountK (K := K) rfl) (pv 3) (pa_cons (pv 8) pa_nil))) pa_nil)))
          (pss_one (ps_if (pt_not (pt_val (pe_callG G11 hgd hr (by rfl) g11 kp11 b11 (pa_cons (pe_lst (pa_cons (pe_callS G10 hr (by rfl) g10 kp10 b10 (fun σ => passAt LamX.takes0 σ) (pa_cons (pv 3) pa_nil)) (pa_cons (pe_callS G10 hr (by rfl) g10 kp10 b10 (fun σ => passAt LamX.takes0 σ) (pa_cons (pv 3) pa_nil)) pa_nil)))
              (pa_cons (pe_lst (pa_cons (pv 7) (pa_cons (pv 7) pa_nil))) pa_nil))))) (pss_one (ps_ret pe_bl)) pss_nil))))))))))
      (pss_one (ps_ret pe_bl)), ?_⟩
    refine ⟨.ref a, rfl, a, ns, 0, rfl, hS, fun r => ?_⟩
    refine ⟨by show 1 ≤ sizeLine; omega, fun L1 n1 => ?_⟩
    have hSb : SqL K (L2.upd H L1 (.lst [V.int r])) a (ns.map V.int) := (same_new n1).seq hS
    refine ⟨.ref a, rfl, 1, rfl, 3, rfl, a, ns.map V.int, rfl, hSb, fun La n2 => ?_⟩
    obtain ⟨ys, ey, ly⟩ := cut_map ns (some 1) (some 3)
    rw [ey]
    have h1 : (L2.upd (L2.upd H L1 (.lst [V.int r])) La (.lst (ys.map V.int))) L1 = some (.lst [V.int r]) := by rw [upd_ne (ne_of_none upd_same n2)]; exact upd_same
    refine ⟨L1, La, [V.int r], ys.map V.int, rfl, rfl, h1, upd_same, by rw [List.length_map, List.length_singleton]; omega, fun L n => ?_⟩
    have eL : [V.int r] ++ ys.map V.int = (r :: ys).map V.int := rfl
    rw [eL]
    have hL0 : (L2.upd (L2.upd (L2.upd H L1 (.lst [V.int r])) La (.lst (ys.map V.int))) L (.lst ((r :: ys).map V.int))) L = some (.lst ((r :: ys).map V.int)) := upd_same
    have T0 := tabs_same (((same_new (o := .lst [V.int r]) n1).trans (same_new (o := .lst (ys.map V.int)) n2)).trans (same_new (o := .lst ((r :: ys).map V.int)) n)) hT
    generalize L2.upd (L2.upd (L2.upd H L1 (.lst [V.int r])) La (.lst (ys.map V.int))) L (.lst ((r :: ys).map V.int)) = H0 at hL0 T0 ⊢
    generalize r :: ys = cs at hL0 ⊢
    generalize hTe : [(P', lamQ "_law_refused")] = T at T0 ⊢
    refine ⟨L, rfl, ⟨_, .of hL0⟩, ?_⟩
    refine for_list (xs := cs.map V.int) (fun i σ H' => ∃ v1 v2 v3 v4 v5 v6 v7 v8, σ = [some (.ref a), v1, v2, v3, v4, v5, v6, v7, v8] ∧ H' L = some (.lst (cs.map V.int)) ∧ LamX.Tabs T H')
      ⟨_, _, _, _, _, _, _, _, rfl, hL0, T0⟩ (fun i σ H' _ h => ?_) ?_ ?_
    · obtain ⟨_, _, _, _, _, _, _, _, _, h, _⟩ := h
      exact .of h
    · rintro i x σ H1 hx ⟨v1, v2, v3, v4, v5, v6, v7, v8, rfl, hL1, T1⟩
      rw [List.getElem?_map] at hx
      obtain ⟨z, hz, rfl⟩ := Option.map_eq_some_iff.mp hx
      refine ⟨.int z, rfl, z, rfl, fun H2 p np s2 hp => ?_⟩
      have nLp : L ≠ p := ne_of_none hL1 np
      have hL2 := s2 _ _ hL1
      have T2 := tabs_same s2 T1
      refine ⟨.ref p, rfl, p, 9, 4, rfl, hp, by decide, by decide, by decide, by decide, fun H3 t wns p3 e3 nt hF hw hm hst => ?_⟩
      have LH3 : LawH K T L p t cs wns H3 := ⟨e3 _ _ nLp hL2, p3, hF, tabs_but hp e3 T2⟩
      refine fun H4 l4 x4 a1 a2 a3 a4 a5 => ⟨rfl, fun H5 l5 x5 b1 b2 b3 b4 b5 => AnyL.cat (K := K) (n := 1) (m := x5.length) ⟨x4, a1, a2, a3, a4, a5⟩ ⟨x5, b1, b2, b3, b4, rfl⟩ (by omega) fun H6 l6 A6 => ?_⟩
      refine ⟨rfl, fun H5 l5 y5 b1 b2 b3 b4 b5 => A6.cat (m := y5.length) ⟨y5, b1, b2, b3, b4, rfl⟩ (by omega) fun H7 l7 A7 => ?_⟩
      obtain ⟨xs7, c1, c2, c3, c4, c5⟩ := A7
      have LH7 := LH3.same c1
      have n7p : l7 ≠ p := fun z => by
        obtain ⟨_, _, _, hp3, _⟩ := p3
        rw [z, hp3] at c2; exact nomatch c2
      have A7 : ∀ v ∈ xs7, AnyV K (wo p H7) v := fun v hv => by
        obtain ⟨_, _, _, hp3, _⟩ := p3
        exact (c4 v hv).same (nw_wo hp3)
      have len7 : xs7.length ≤ 201 := by omega
      refine ⟨12, rfl, by decide, by decide, fun D hD => ?_⟩
      have nDp : D ≠ p := Ne.symm (LH7.pen.ne hD)
      refine lc_range (lo := 0) (n := 12) (fun i H' => PenAt H' p ∧ But p H7 H' ∧ ∃ acc, H' D = some (.lst acc) ∧ acc.length = i ∧ ∀ v ∈ acc, AnyV K (wo D (wo p H')) v)
        ⟨LH7.pen.new hD, .of (same_new hD), [], upd_same, rfl, fun v hv => nomatch hv⟩ (fun i H' hi h => ?_) (fun H' h => ?_)
      · obtain ⟨p8, e8, acc, hac, hal, hall⟩ := h
        have LH8 := LH7.but nLp e8 p8
        refine ⟨rfl, .ref p, rfl, .ref t, rfl, p, t, wns, rfl, p8, LH8.wk.sq, (fun x hx => hw.items x hx), by have := hw.most; omega, fun H9 v p9 e9 hv => ?_⟩
        have hD9 := e9 _ _ nDp hac
        have up9 : Same (wo D (wo p H9)) (wo D (wo p (upd H9 D (.lst (acc ++ [v]))))) := fun b o h => by
          obtain ⟨h1, h2⟩ := wo_some h
          obtain ⟨h3, h4⟩ := wo_some h2
          rw [wo_ne h1, wo_ne h3, upd_ne h1]; exact h4
        refine ⟨acc, hD9, by omega, p9.upd (Ne.symm nDp), fun b o n e => ?_, acc ++ [v], upd_same, by rw [List.length_append]; show acc.length + 1 = i + 1; omega, fun u hu => ?_⟩
        · rw [upd_ne (ne_of_none e hD)]; exact e9 _ _ n (e8 _ _ n e)
        · rcases List.mem_append.mp hu with hu | hu
          · exact ((hall u hu).same (wo_same (wo_but e9))).same up9
          · rw [List.mem_singleton.mp hu]
            obtain ⟨_, _, _, hp8, _⟩ := p8
            exact (hv.same (wl_wo2 hp8 hac)).same up9
      · obtain ⟨p8, e8, acc, hac, hal, hall⟩ := h
        have LH8 := LH7.but nLp e8 p8
        refine ⟨l7, D, xs7, acc, rfl, rfl, e8 _ _ n7p c3, hac, by omega, fun Lt nLt => ?_⟩
        have sLt := same_new (o := .lst (xs7 ++ acc)) nLt
        have LH9 := LH8.same sLt
        have hLt : (upd H' Lt (.lst (xs7 ++ acc))) Lt = some (.lst (xs7 ++ acc)) := upd_same
        have A9 : ∀ v ∈ xs7 ++ acc, AnyV K (wo p (upd H' Lt (.lst (xs7 ++ acc)))) v := fun v hv => by
          rcases List.mem_append.mp hv with hv | hv
          · exact ((A7 v hv).same (wo_but e8)).same (wo_same sLt)
          · exact ((hall v hv).same wo_sub).same (wo_same sLt)
        generalize upd H' Lt (.lst (xs7 ++ acc)) = H9 at LH9 hLt A9 ⊢
        generalize xs7 ++ acc = xs9 at hLt A9 ⊢
        refine ⟨Lt, rfl, ⟨_, .of hLt⟩, ?_⟩
        refine for_list (xs := xs9) (fun i σ H' => ∃ v4 v5 v6 v7 v8, σ = [some (.ref a), some (.int z), some (.ref p), some (.ref t), v4, v5, v6, v7, v8] ∧ LawH K T L p t cs wns H' ∧ H' Lt = some (.lst xs9) ∧ ∀ v ∈ xs9, AnyV K (wo p H') v)
          ⟨_, _, _, _, _, rfl, LH9, hLt, A9⟩ (fun i σ H' _ h => ?_) ?_ ?_
        · obtain ⟨_, _, _, _, _, _, _, h, _⟩ := h
          exact .of h
        · rintro i x σ H10 hx ⟨v4, v5, v6, v7, v8, rfl, LH10, hLt10, A10⟩
          obtain ⟨d, hd, hg⟩ := (A10 x (List.mem_of_getElem? hx)).same wo_sub
          refine ⟨x, rfl, x, d, rfl, hd, fun H11 b sm hb => ⟨b, rfl, ?_⟩⟩
          have LH11 := LH10.same sm
          have A11 : ∀ v ∈ xs9, AnyV K (wo p H11) v := fun v hv => (A10 v hv).same (wo_same sm)
          have hLt11 := sm _ _ hLt10
          cases b with
          | true => exact iteF ⟨_, _, _, _, _, rfl, LH11, hLt11, A11⟩
          | false =>
            refine iteT ⟨.ref t, rfl, x, rfl, t, wns, x, d, rfl, LH11.wk.sq, hw, hd.same sm, hg, (fun z => nomatch hb.mpr z), hTe ▸ LH11.tab, fun H12 x12 T12 => ⟨true, rfl, iteF ?_⟩⟩
            exact ⟨_, _, _, _, _, rfl, LH11.ext x12 (hTe ▸ T12), x12 _ _ hLt11 (fun ps z => nomatch z), fun v hv => (A11 v hv).ext (ext_wo x12)⟩
        · rintro σ H10 ⟨v4, v5, v6, v7, v8, rfl, LH10, _, _⟩
          refine ⟨12, rfl, by decide, by decide, ?_⟩
          refine for_range (lo := 0) (n := (12 : Int).toNat) (fun i σ H' => ∃ v1 v3 v4 v5 v6 v7 v8, σ = [some (.ref a), v1, some (.ref p), v3, v4, v5, v6, v7, v8] ∧ H' L = some (.lst (cs.map V.int)) ∧ PenAt H' p ∧ LamX.Tabs T H')
            ⟨_, _, _, _, _, _, _, rfl, LH10.lst, LH10.pen, LH10.tab⟩ ?_ ?_
          · rintro j σ H11 hj ⟨v1, v3, v4, v5, v6, v7, v8, rfl, hL11, p11, T11⟩
            obtain ⟨m, hm1, hm2, hm3⟩ := lap3 j
            refine ⟨.ref p, rfl, by show 3 ≤ sizeLine; omega, fun l nl => ?_⟩
            have sl := same_new (o := .lst [V.int 4, V.int 12, V.int 60]) nl
            refine ⟨.int (0 + (j : Nat)), rfl, _, 3, rfl, rfl, by show (0 : Int) < 3; decide, l, _, _, .int m, rfl, rfl, .of upd_same, hm1, ?_⟩
            refine ⟨.ref p, rfl, p, 10, rfl, p11.same sl, by decide, by decide, fun H12 r0 r1 r2 p12 e12 => ?_⟩
            have nLp' := nLp
            have c12 : But p H11 H12 := (But.of sl).trans e12
            refine ⟨1, r0, rfl, rfl, p, m, 1 + r0, rfl, p12, hm2, hm3, by omega, by omega, fun H13 t2 ns2 p13 e13 nt2 hF2 hw2 _ _ => ?_⟩
            have c13 := c12.trans e13
            have LH13 : LawH K T L p t2 cs ns2 H13 := ⟨c13 _ _ nLp hL11, p13, hF2, tabs_but p11 c13 T11⟩
            refine ⟨10, rfl, by decide, by decide, fun D hD => ?_⟩
            refine lc_range (lo := 0) (n := 10) (fun i H'' => Same H13 H'' ∧ H'' D = some (.lst (((List.range i).map (fun k => ((ns2.count ((k : Nat) : Int) : Nat) : Int))).map V.int))) ⟨same_new hD, upd_same⟩ (fun i H2 hi h => ?_) (fun H2 h => ?_)
            · obtain ⟨sm2, hDl⟩ := h
              have hF3 := hF2.same sm2
              refine ⟨rfl, .ref t2, rfl, ⟨t2, _, rfl, hF3⟩, .int (0 + (i : Nat)), rfl, t2, ns2, _, rfl, rfl, hF3.sq, ?_⟩
              refine ⟨_, hDl, ?_, fun b o e => ?_, ?_⟩
              · rw [List.length_map, List.length_map, List.length_range]; omega
              · rw [upd_ne (ne_of_none e hD)]; exact sm2 _ _ e
              · rw [upd_same, ← cnts_at, List.map_append]; rfl
            · obtain ⟨sm2, hDl⟩ := h
              refine ⟨D, cnts ns2, rfl, .of hDl, by unfold cnts; rw [List.length_map, List.length_range]; decide, fun due hd1 hd2 => ?_⟩
              have MV : Mv ns2 due := ⟨hd1, hd2⟩
              have LH14 := LH13.same sm2
              have W : WorkD (tD ns2) := ⟨ns2, rfl, hw2⟩
              refine ⟨.ref t2, rfl, .ref t2, tD ns2, rfl, .data (.tup LH14.wk.sq (dpInts ns2)), (fun z => absurd W z), fun _ => ⟨t2, ns2, rfl, LH14.wk, fun H15 m1 s15 M1 => ?_⟩⟩
              have LH15 := LH14.same s15
              refine ⟨.ref t2, rfl, .ref t2, tD ns2, rfl, .data (.tup LH15.wk.sq (dpInts ns2)), (fun z => absurd W z), fun _ => ⟨t2, ns2, rfl, LH15.wk, fun H16 m2 s16 M2 => ?_⟩⟩
              have LH16 := LH15.same s16
              obtain rfl := M1.uniq MV
              obtain rfl := M2.uniq MV
              refine ⟨by show 2 ≤ sizeLine; omega, fun q1 nq1 => ⟨.int m2, rfl, .int m2, rfl, by show 2 ≤ sizeLine; omega, fun q2 nq2 => ?_⟩⟩
              have s17 := same_new (o := .lst [V.int m2, V.int m2]) nq1
              have s18 := same_new (o := .lst [V.int m2, V.int m2]) nq2
              have LH18 := (LH16.same s17).same s18
              refine ⟨.ref q1, .ref q2, .list [.int m2, .int m2], rfl, .data (.lst (.of (s18 _ _ upd_same)) (dpInts [m2, m2])), .data (.lst (.of upd_same) (dpInts [m2, m2])), MV.good hw2, true, rfl, iteF ?_⟩
              exact ⟨_, _, _, _, _, _, _, rfl, LH18.lst, LH18.pen, LH18.tab⟩
          · rintro σ H11 ⟨v1, v3, v4, v5, v6, v7, v8, rfl, hL11, p11, T11⟩
            exact ⟨_, _, _, _, _, _, _, _, rfl, hL11, T11⟩
    · rintro σ H3 _
      exact q H3
end
end Sg

set_option Elab.async false
set_option linter.all false
set_option maxRecDepth 100000
set_option maxHeartbeats 4000000
namespace Sg
open PySem PySem.Spec PyProof.Rows L2 StX
def spT (cs : List (Addr × Addr)) (K : PySem.W.Frag) : Sp := spLaw K (cs.map fun p => (p.2, lamQ "_law_refused"))
theorem spT_end (cs : List (Addr × Addr)) (K : PySem.W.Frag) (H : Hp) (a : Addr) (ns : List Int) (hl : ns.length ≤ 63) (hO : ∀ p ∈ cs, H p.2 = some (.tbl #[])) (hS : SqL K H a (ns.map V.int)) : spT cs K [.ref a] H (fun v _ => v = .bl true) E0 :=
  ⟨a, ns, rfl, hS, hl, fun x hx => by obtain ⟨p, hp, rfl⟩ := List.mem_map.mp hx; exact LamX.TabS.nil (hO p hp), fun _ => rfl⟩
theorem all_mk {l : PySem.W.OpenLaw} {w : World} {q : Program} {K : PySem.W.Frag} {h : Heap} {mg : Str → Option Value} {fa fd0 fd1 fd2 fd3 fd4 fd5 fd6 fd7 fd8 fd9 fd10 fd11 fd12 fd13 fd14 fd15 fd16 fd17 fd18 fd19 fd20 fd21 C0 C1 C2 C3 C4 C5 C6 C7 C8 C9 C10 C11 C12 C13 C14 C15 C16 C17 C18 C19 C20 C21 C22 C23 C24 C25 C26 C27 Gp cL0 PL0 : Addr} {tu_NOWHERE tu_STATIONS tu_MOST_ITEMS : Tok} {odd0 and0 odd1 and1 odd2 and2 odd3 and3 odd4 and4 odd5 and5 odd6 and6 odd7 and7 odd8 and8 odd9 and9 odd10 and10 odd11 and11 odd12 and12 odd13 and13 odd14 and14 odd15 and15 odd16 and16 odd17 and17 odd18 and18 odd19 and19 odd20 and20 odd21 and21 : Option Addr} {sld0 sld1 sld2 sld3 sld4 sld5 sld6 sld7 sld8 sld9 sld10 sld11 sld12 sld13 sld14 sld15 sld16 sld17 sld18 sld19 sld20 sld21 : Array (Option Value)} {ocd0 kVd0 dcd0 pmd0 cdd0 ctd0 ocd1 kVd1 dcd1 pmd1 cdd1 ctd1 ocd2 kVd2 dcd2 pmd2 cdd2 ctd2 ocd3 kVd3 dcd3 pmd3 cdd3 ctd3 ocd4 kVd4 dcd4 pmd4 cdd4 ctd4 ocd5 kVd5 dcd5 pmd5 cdd5 ctd5 ocd6 kVd6 dcd6 pmd6 cdd6 ctd6 ocd7 kVd7 dcd7 pmd7 cdd7 ctd7 ocd8 kVd8 dcd8 pmd8 cdd8 ctd8 ocd9 kVd9 dcd9 pmd9 cdd9 ctd9 ocd10 kVd10 dcd10 pmd10 cdd10 ctd10 ocd11 kVd11 dcd11 pmd11 cdd11 ctd11 ocd12 kVd12 dcd12 pmd12 cdd12 ctd12 ocd13 kVd13 dcd13 pmd13 cdd13 ctd13 ocd14 kVd14 dcd14 pmd14 cdd14 ctd14 ocd15 kVd15 dcd15 pmd15 cdd15 ctd15 ocd16 kVd16 dcd16 pmd16 cdd16 ctd16 ocd17 kVd17 dcd17 pmd17 cdd17 ctd17 ocd18 kVd18 dcd18 pmd18 cdd18 ctd18 ocd19 kVd19 dcd19 pmd19 cdd19 ctd19 ocd20 kVd20 dcd20 pmd20 cdd20 ctd20 ocd21 kVd21 dcd21 pmd21 cdd21 ctd21 : Value} {ocL0 : Value} {odL0 : Option Addr} {vsL0 : Array Value} {slL0 : Array (Option Value)} (X : K.In h) (G : h.Ns mainGlobals mg) (hfa : mg "law" = some (.ref fa))
    (ad0 : PySem.W.nsIn K mainGlobals "is_int" = some (some (.ref fd0)))
    (ld0 : K.lookup fd0 = some ⟨ocd0, odd0, .func (PySem.W.fnOf "is_int" "is_int" (defArgs s_is_int) (defBody s_is_int) (defScope s_is_int) .none kVd0 dcd0 pmd0 and0 cdd0 ctd0), sld0⟩)
    (cd0 : PySem.W.codeIn K cdd0 "is_int" = true)
    (kd0 : PySem.W.keepIn K (.ref fd0) = true)
    (ad1 : PySem.W.nsIn K mainGlobals "is_between" = some (some (.ref fd1)))
    (ld1 : K.lookup fd1 = some ⟨ocd1, odd1, .func (PySem.W.fnOf "is_between" "is_between" (defArgs s_is_between) (defBody s_is_between) (defScope s_is_between) .none kVd1 dcd1 pmd1 and1 cdd1 ctd1), sld1⟩)
    (cd1 : PySem.W.codeIn K cdd1 "is_between" = true)
    (kd1 : PySem.W.keepIn K (.ref fd1) = true)
    (ad2 : PySem.W.nsIn K mainGlobals "is_work" = some (some (.ref fd2)))
    (ld2 : K.lookup fd2 = some ⟨ocd2, odd2, .func (PySem.W.fnOf "is_work" "is_work" (defArgs s_is_work) (defBody s_is_work) (defScope s_is_work) .none kVd2 dcd2 pmd2 and2 cdd2 ctd2), sld2⟩)
    (cd2 : PySem.W.codeIn K cdd2 "is_work" = true)
    (kd2 : PySem.W.keepIn K (.ref fd2) = true)
    (ad3 : PySem.W.nsIn K mainGlobals "bars" = some (some (.ref fd3)))
    (ld3 : K.lookup fd3 = some ⟨ocd3, odd3, .func (PySem.W.fnOf "bars" "bars" (defArgs s_bars) (defBody s_bars) (defScope s_bars) .none kVd3 dcd3 pmd3 and3 cdd3 ctd3), sld3⟩)
    (cd3 : PySem.W.codeIn K cdd3 "bars" = true)
    (kd3 : PySem.W.keepIn K (.ref fd3) = true)
    (ad4 : PySem.W.nsIn K mainGlobals "most_visits" = some (some (.ref fd4)))
    (ld4 : K.lookup fd4 = some ⟨ocd4, odd4, .func (PySem.W.fnOf "most_visits" "most_visits" (defArgs s_most_visits) (defBody s_most_visits) (defScope s_most_visits) .none kVd4 dcd4 pmd4 and4 cdd4 ctd4), sld4⟩)
    (cd4 : PySem.W.codeIn K cdd4 "most_visits" = true)
    (kd4 : PySem.W.keepIn K (.ref fd4) = true)
    (ad5 : PySem.W.nsIn K mainGlobals "require_work" = some (some (.ref fd5)))
    (ld5 : K.lookup fd5 = some ⟨ocd5, odd5, .func (PySem.W.fnOf "require_work" "require_work" (defArgs s_require_work) (defBody s_require_work) (defScope s_require_work) .none kVd5 dcd5 pmd5 and5 cdd5 ctd5), sld5⟩)
    (cd5 : PySem.W.codeIn K cdd5 "require_work" = true)
    (kd5 : PySem.W.keepIn K (.ref fd5) = true)
    (ad6 : PySem.W.nsIn K mainGlobals "_clashes_behind" = some (some (.ref fd6)))
    (ld6 : K.lookup fd6 = some ⟨ocd6, odd6, .func (PySem.W.fnOf "_clashes_behind" "_clashes_behind" (defArgs s_clashes_behind) (defBody s_clashes_behind) (defScope s_clashes_behind) .none kVd6 dcd6 pmd6 and6 cdd6 ctd6), sld6⟩)
    (cd6 : PySem.W.codeIn K cdd6 "_clashes_behind" = true)
    (kd6 : PySem.W.keepIn K (.ref fd6) = true)
    (ad7 : PySem.W.nsIn K mainGlobals "_law_cell" = some (some (.ref fd7)))
    (ld7 : K.lookup fd7 = some ⟨ocd7, odd7, .func (PySem.W.fnOf "_law_cell" "_law_cell" (defArgs s_l_cell) (defBody s_l_cell) (defScope s_l_cell) .none kVd7 dcd7 pmd7 and7 cdd7 ctd7), sld7⟩)
    (cd7 : PySem.W.codeIn K cdd7 "_law_cell" = true)
    (kd7 : PySem.W.keepIn K (.ref fd7) = true)
    (ad8 : PySem.W.nsIn K mainGlobals "_law_pen" = some (some (.ref fd8)))
    (ld8 : K.lookup fd8 = some ⟨ocd8, odd8, .func (PySem.W.fnOf "_law_pen" "_law_pen" (defArgs s_l_pen) (defBody s_l_pen) (defScope s_l_pen) .none kVd8 dcd8 pmd8 and8 cdd8 ctd8), sld8⟩)
    (cd8 : PySem.W.codeIn K cdd8 "_law_pen" = true)
    (kd8 : PySem.W.keepIn K (.ref fd8) = true)
    (ad9 : PySem.W.nsIn K mainGlobals "_law_draw" = some (some (.ref fd9)))
    (ld9 : K.lookup fd9 = some ⟨ocd9, odd9, .func (PySem.W.fnOf "_law_draw" "_law_draw" (defArgs s_l_draw) (defBody s_l_draw) (defScope s_l_draw) .none kVd9 dcd9 pmd9 and9 cdd9 ctd9), sld9⟩)
    (cd9 : PySem.W.codeIn K cdd9 "_law_draw" = true)
    (kd9 : PySem.W.keepIn K (.ref fd9) = true)
    (ad10 : PySem.W.nsIn K mainGlobals "_law_pick" = some (some (.ref fd10)))
    (ld10 : K.lookup fd10 = some ⟨ocd10, odd10, .func (PySem.W.fnOf "_law_pick" "_law_pick" (defArgs s_l_pick) (defBody s_l_pick) (defScope s_l_pick) .none kVd10 dcd10 pmd10 and10 cdd10 ctd10), sld10⟩)
    (cd10 : PySem.W.codeIn K cdd10 "_law_pick" = true)
    (kd10 : PySem.W.keepIn K (.ref fd10) = true)
    (ad11 : PySem.W.nsIn K mainGlobals "_law_same" = some (some (.ref fd11)))
    (ld11 : K.lookup fd11 = some ⟨ocd11, odd11, .func (PySem.W.fnOf "_law_same" "_law_same" (defArgs s_l_same) (defBody s_l_same) (defScope s_l_same) .none kVd11 dcd11 pmd11 and11 cdd11 ctd11), sld11⟩)
    (cd11 : PySem.W.codeIn K cdd11 "_law_same" = true)
    (kd11 : PySem.W.keepIn K (.ref fd11) = true)
    (ad12 : PySem.W.nsIn K mainGlobals "_law_is_whole" = some (some (.ref fd12)))
    (ld12 : K.lookup fd12 = some ⟨ocd12, odd12, .func (PySem.W.fnOf "_law_is_whole" "_law_is_whole" (defArgs s_l_is_whole) (defBody s_l_is_whole) (defScope s_l_is_whole) .none kVd12 dcd12 pmd12 and12 cdd12 ctd12), sld12⟩)
    (cd12 : PySem.W.codeIn K cdd12 "_law_is_whole" = true)
    (kd12 : PySem.W.keepIn K (.ref fd12) = true)
    (ad13 : PySem.W.nsIn K mainGlobals "_law_is_work" = some (some (.ref fd13)))
    (ld13 : K.lookup fd13 = some ⟨ocd13, odd13, .func (PySem.W.fnOf "_law_is_work" "_law_is_work" (defArgs s_l_is_work) (defBody s_l_is_work) (defScope s_l_is_work) .none kVd13 dcd13 pmd13 and13 cdd13 ctd13), sld13⟩)
    (cd13 : PySem.W.codeIn K cdd13 "_law_is_work" = true)
    (kd13 : PySem.W.keepIn K (.ref fd13) = true)
    (ad14 : PySem.W.nsIn K mainGlobals "_law_work" = some (some (.ref fd14)))
    (ld14 : K.lookup fd14 = some ⟨ocd14, odd14, .func (PySem.W.fnOf "_law_work" "_law_work" (defArgs s_l_work) (defBody s_l_work) (defScope s_l_work) .none kVd14 dcd14 pmd14 and14 cdd14 ctd14), sld14⟩)
    (cd14 : PySem.W.codeIn K cdd14 "_law_work" = true)
    (kd14 : PySem.W.keepIn K (.ref fd14) = true)
    (ad15 : PySem.W.nsIn K mainGlobals "_law_odds" = some (some (.ref fd15)))
    (ld15 : K.lookup fd15 = some ⟨ocd15, odd15, .func (PySem.W.fnOf "_law_odds" "_law_odds" (defArgs s_l_odds) (defBody s_l_odds) (defScope s_l_odds) .none kVd15 dcd15 pmd15 and15 cdd15 ctd15), sld15⟩)
    (cd15 : PySem.W.codeIn K cdd15 "_law_odds" = true)
    (kd15 : PySem.W.keepIn K (.ref fd15) = true)
    (ad16 : PySem.W.nsIn K mainGlobals "_law_great" = some (some (.ref fd16)))
    (ld16 : K.lookup fd16 = some ⟨ocd16, odd16, .func (PySem.W.fnOf "_law_great" "_law_great" (defArgs s_l_great) (defBody s_l_great) (defScope s_l_great) .none kVd16 dcd16 pmd16 and16 cdd16 ctd16), sld16⟩)
    (cd16 : PySem.W.codeIn K cdd16 "_law_great" = true)
    (kd16 : PySem.W.keepIn K (.ref fd16) = true)
    (ad17 : PySem.W.nsIn K mainGlobals "_law_bend" = some (some (.ref fd17)))
    (ld17 : K.lookup fd17 = some ⟨ocd17, odd17, .func (PySem.W.fnOf "_law_bend" "_law_bend" (defArgs s_l_bend) (defBody s_l_bend) (defScope s_l_bend) .none kVd17 dcd17 pmd17 and17 cdd17 ctd17), sld17⟩)
    (cd17 : PySem.W.codeIn K cdd17 "_law_bend" = true)
    (kd17 : PySem.W.keepIn K (.ref fd17) = true)
    (ad18 : PySem.W.nsIn K mainGlobals "_law_kind" = some (some (.ref fd18)))
    (ld18 : K.lookup fd18 = some ⟨ocd18, odd18, .func (PySem.W.fnOf "_law_kind" "_law_kind" (defArgs s_l_kind) (defBody s_l_kind) (defScope s_l_kind) .none kVd18 dcd18 pmd18 and18 cdd18 ctd18), sld18⟩)
    (cd18 : PySem.W.codeIn K cdd18 "_law_kind" = true)
    (kd18 : PySem.W.keepIn K (.ref fd18) = true)
    (ad19 : PySem.W.nsIn K mainGlobals "_law_said" = some (some (.ref fd19)))
    (ld19 : K.lookup fd19 = some ⟨ocd19, odd19, .func (PySem.W.fnOf "_law_said" "_law_said" (defArgs s_l_said) (defBody s_l_said) (defScope s_l_said) .none kVd19 dcd19 pmd19 and19 cdd19 ctd19), sld19⟩)
    (cd19 : PySem.W.codeIn K cdd19 "_law_said" = true)
    (kd19 : PySem.W.keepIn K (.ref fd19) = true)
    (ad20 : PySem.W.nsIn K mainGlobals "_law_refused" = some (some (.ref fd20)))
    (ld20 : K.lookup fd20 = some ⟨ocd20, odd20, .func (PySem.W.fnOf "_law_refused" "_law_refused" (defArgs s_l_refused) (defBody s_l_refused) (defScope s_l_refused) .none kVd20 dcd20 pmd20 and20 cdd20 ctd20), sld20⟩)
    (cd20 : PySem.W.codeIn K cdd20 "_law_refused" = true)
    (kd20 : PySem.W.keepIn K (.ref fd20) = true)
    (ad21 : PySem.W.nsIn K mainGlobals "law" = some (some (.ref fd21)))
    (ld21 : K.lookup fd21 = some ⟨ocd21, odd21, .func (PySem.W.fnOf "law" "law" (defArgs s_law) (defBody s_law) (defScope s_law) .none kVd21 dcd21 pmd21 and21 cdd21 ctd21), sld21⟩)
    (cd21 : PySem.W.codeIn K cdd21 "law" = true)
    (kd21 : PySem.W.keepIn K (.ref fd21) = true)
    (z_isinstance : PySem.W.nsIn K mainGlobals "isinstance" = some none)
    (z_int : PySem.W.nsIn K mainGlobals "int" = some none)
    (z_bool : PySem.W.nsIn K mainGlobals "bool" = some none)
    (z_tuple : PySem.W.nsIn K mainGlobals "tuple" = some none)
    (z_len : PySem.W.nsIn K mainGlobals "len" = some none)
    (z_all : PySem.W.nsIn K mainGlobals "all" = some none)
    (z_max : PySem.W.nsIn K mainGlobals "max" = some none)
    (z_range : PySem.W.nsIn K mainGlobals "range" = some none)
    (z_repr : PySem.W.nsIn K mainGlobals "repr" = some none)
    (z_ValueError : PySem.W.nsIn K mainGlobals "ValueError" = some none)
    (z_list : PySem.W.nsIn K mainGlobals "list" = some none)
    (z_str : PySem.W.nsIn K mainGlobals "str" = some none)
    (u_NOWHERE : PySem.W.nsIn K mainGlobals "NOWHERE" = some (some (.int (-1) tu_NOWHERE)))
    (u_STATIONS : PySem.W.nsIn K mainGlobals "STATIONS" = some (some (.int (10) tu_STATIONS)))
    (u_MOST_ITEMS : PySem.W.nsIn K mainGlobals "MOST_ITEMS" = some (some (.int (60) tu_MOST_ITEMS)))
    (aC0 : PySem.W.nsIn K mainGlobals "NoWork" = some (some (.ref C0)))
    (iC0 : PySem.W.isClsIn K C0 = true)
    (tC0 : PySem.W.typeIn K (.ref C0) = some (.type "type"))
    (aC1 : PySem.W.nsIn K mainGlobals "NoLine" = some (some (.ref C1)))
    (iC1 : PySem.W.isClsIn K C1 = true)
    (tC1 : PySem.W.typeIn K (.ref C1) = some (.type "type"))
    (aC2 : PySem.W.nsIn K mainGlobals "NoKind" = some (some (.ref C2)))
    (iC2 : PySem.W.isClsIn K C2 = true)
    (tC2 : PySem.W.typeIn K (.ref C2) = some (.type "type"))
    (aC3 : PySem.W.nsIn K mainGlobals "OnlyOne" = some (some (.ref C3)))
    (iC3 : PySem.W.isClsIn K C3 = true)
    (tC3 : PySem.W.typeIn K (.ref C3) = some (.type "type"))
    (aC4 : PySem.W.nsIn K mainGlobals "NoPlan" = some (some (.ref C4)))
    (iC4 : PySem.W.isClsIn K C4 = true)
    (tC4 : PySem.W.typeIn K (.ref C4) = some (.type "type"))
    (aC5 : PySem.W.nsIn K mainGlobals "NoKinds" = some (some (.ref C5)))
    (iC5 : PySem.W.isClsIn K C5 = true)
    (tC5 : PySem.W.typeIn K (.ref C5) = some (.type "type"))
    (aC6 : PySem.W.nsIn K mainGlobals "NoCounts" = some (some (.ref C6)))
    (iC6 : PySem.W.isClsIn K C6 = true)
    (tC6 : PySem.W.typeIn K (.ref C6) = some (.type "type"))
    (aC7 : PySem.W.nsIn K mainGlobals "NoState" = some (some (.ref C7)))
    (iC7 : PySem.W.isClsIn K C7 = true)
    (tC7 : PySem.W.typeIn K (.ref C7) = some (.type "type"))
    (aC8 : PySem.W.nsIn K mainGlobals "NoChoice" = some (some (.ref C8)))
    (iC8 : PySem.W.isClsIn K C8 = true)
    (tC8 : PySem.W.typeIn K (.ref C8) = some (.type "type"))
    (aC9 : PySem.W.nsIn K mainGlobals "NoTick" = some (some (.ref C9)))
    (iC9 : PySem.W.isClsIn K C9 = true)
    (tC9 : PySem.W.typeIn K (.ref C9) = some (.type "type"))
    (aC10 : PySem.W.nsIn K mainGlobals "NoLap" = some (some (.ref C10)))
    (iC10 : PySem.W.isClsIn K C10 = true)
    (tC10 : PySem.W.typeIn K (.ref C10) = some (.type "type"))
    (aC11 : PySem.W.nsIn K mainGlobals "NotFitting" = some (some (.ref C11)))
    (iC11 : PySem.W.isClsIn K C11 = true)
    (tC11 : PySem.W.typeIn K (.ref C11) = some (.type "type"))
    (aC12 : PySem.W.nsIn K mainGlobals "NoWorths" = some (some (.ref C12)))
    (iC12 : PySem.W.isClsIn K C12 = true)
    (tC12 : PySem.W.typeIn K (.ref C12) = some (.type "type"))
    (aC13 : PySem.W.nsIn K mainGlobals "NoWaits" = some (some (.ref C13)))
    (iC13 : PySem.W.isClsIn K C13 = true)
    (tC13 : PySem.W.typeIn K (.ref C13) = some (.type "type"))
    (aC14 : PySem.W.nsIn K mainGlobals "NoDistance" = some (some (.ref C14)))
    (iC14 : PySem.W.isClsIn K C14 = true)
    (tC14 : PySem.W.typeIn K (.ref C14) = some (.type "type"))
    (aC15 : PySem.W.nsIn K mainGlobals "NotTwo" = some (some (.ref C15)))
    (iC15 : PySem.W.isClsIn K C15 = true)
    (tC15 : PySem.W.typeIn K (.ref C15) = some (.type "type"))
    (aC16 : PySem.W.nsIn K mainGlobals "NoRate" = some (some (.ref C16)))
    (iC16 : PySem.W.isClsIn K C16 = true)
    (tC16 : PySem.W.typeIn K (.ref C16) = some (.type "type"))
    (aC17 : PySem.W.nsIn K mainGlobals "NoBars" = some (some (.ref C17)))
    (iC17 : PySem.W.isClsIn K C17 = true)
    (tC17 : PySem.W.typeIn K (.ref C17) = some (.type "type"))
    (aC18 : PySem.W.nsIn K mainGlobals "NoTicks" = some (some (.ref C18)))
    (iC18 : PySem.W.isClsIn K C18 = true)
    (tC18 : PySem.W.typeIn K (.ref C18) = some (.type "type"))
    (aC19 : PySem.W.nsIn K mainGlobals "NoStation" = some (some (.ref C19)))
    (iC19 : PySem.W.isClsIn K C19 = true)
    (tC19 : PySem.W.typeIn K (.ref C19) = some (.type "type"))
    (aC20 : PySem.W.nsIn K mainGlobals "NoPace" = some (some (.ref C20)))
    (iC20 : PySem.W.isClsIn K C20 = true)
    (tC20 : PySem.W.typeIn K (.ref C20) = some (.type "type"))
    (aC21 : PySem.W.nsIn K mainGlobals "NoText" = some (some (.ref C21)))
    (iC21 : PySem.W.isClsIn K C21 = true)
    (tC21 : PySem.W.typeIn K (.ref C21) = some (.type "type"))
    (aC22 : PySem.W.nsIn K mainGlobals "NothingDone" = some (some (.ref C22)))
    (iC22 : PySem.W.isClsIn K C22 = true)
    (tC22 : PySem.W.typeIn K (.ref C22) = some (.type "type"))
    (aC23 : PySem.W.nsIn K mainGlobals "TooMany" = some (some (.ref C23)))
    (iC23 : PySem.W.isClsIn K C23 = true)
    (tC23 : PySem.W.typeIn K (.ref C23) = some (.type "type"))
    (aC24 : PySem.W.nsIn K mainGlobals "TooFar" = some (some (.ref C24)))
    (iC24 : PySem.W.isClsIn K C24 = true)
    (tC24 : PySem.W.typeIn K (.ref C24) = some (.type "type"))
    (aC25 : PySem.W.nsIn K mainGlobals "TooLong" = some (some (.ref C25)))
    (iC25 : PySem.W.isClsIn K C25 = true)
    (tC25 : PySem.W.typeIn K (.ref C25) = some (.type "type"))
    (aC26 : PySem.W.nsIn K mainGlobals "Clash" = some (some (.ref C26)))
    (iC26 : PySem.W.isClsIn K C26 = true)
    (tC26 : PySem.W.typeIn K (.ref C26) = some (.type "type"))
    (aC27 : PySem.W.nsIn K mainGlobals "TooSoon" = some (some (.ref C27)))
    (iC27 : PySem.W.isClsIn K C27 = true)
    (tC27 : PySem.W.typeIn K (.ref C27) = some (.type "type"))
    (aGp : PySem.W.nsIn K mainGlobals "GapError" = some (some (.ref Gp)))
    (iGp : PySem.W.isClsIn K Gp = true)
    (tGp : PySem.W.typeIn K (.ref Gp) = some (.type "type"))
    (bGp : PySem.W.subIn K (.ref Gp) (.type "BaseException") = some true)
    (er_x0 : PySem.W.excIn K C0 [.type "ValueError", .type "Exception", .type "BaseException", .type "object"] "ValueError.__new__" = true)
    (er_k0 : PySem.W.keepIn K (.ref C0) = true)
    (er_b0 : PySem.W.subIn K (.ref C0) (.type "BaseException") = some true)
    (er_v0 : PySem.W.subIn K (.ref C0) (.type "ValueError") = some true)
    (er_g0 : PySem.W.subIn K (.ref C0) (.ref Gp) = some true)
    (er_s0 : PySem.W.subIn K (.ref C0) (.ref C0) = some true)
    (er_n0_1 : PySem.W.subIn K (.ref C0) (.ref C1) = some false)
    (er_n0_2 : PySem.W.subIn K (.ref C0) (.ref C2) = some false)
    (er_n0_3 : PySem.W.subIn K (.ref C0) (.ref C3) = some false)
    (er_n0_4 : PySem.W.subIn K (.ref C0) (.ref C4) = some false)
    (er_n0_5 : PySem.W.subIn K (.ref C0) (.ref C5) = some false)
    (er_n0_6 : PySem.W.subIn K (.ref C0) (.ref C6) = some false)
    (er_n0_7 : PySem.W.subIn K (.ref C0) (.ref C7) = some false)
    (er_n0_8 : PySem.W.subIn K (.ref C0) (.ref C8) = some false)
    (er_n0_9 : PySem.W.subIn K (.ref C0) (.ref C9) = some false)
    (er_n0_10 : PySem.W.subIn K (.ref C0) (.ref C10) = some false)
    (er_n0_11 : PySem.W.subIn K (.ref C0) (.ref C11) = some false)
    (er_n0_12 : PySem.W.subIn K (.ref C0) (.ref C12) = some false)
    (er_n0_13 : PySem.W.subIn K (.ref C0) (.ref C13) = some false)
    (er_n0_14 : PySem.W.subIn K (.ref C0) (.ref C14) = some false)
    (er_n0_15 : PySem.W.subIn K (.ref C0) (.ref C15) = some false)
    (er_n0_16 : PySem.W.subIn K (.ref C0) (.ref C16) = some false)
    (er_n0_17 : PySem.W.subIn K (.ref C0) (.ref C17) = some false)
    (er_n0_18 : PySem.W.subIn K (.ref C0) (.ref C18) = some false)
    (er_n0_19 : PySem.W.subIn K (.ref C0) (.ref C19) = some false)
    (er_n0_20 : PySem.W.subIn K (.ref C0) (.ref C20) = some false)
    (er_n0_21 : PySem.W.subIn K (.ref C0) (.ref C21) = some false)
    (er_n0_22 : PySem.W.subIn K (.ref C0) (.ref C22) = some false)
    (er_n0_23 : PySem.W.subIn K (.ref C0) (.ref C23) = some false)
    (er_n0_24 : PySem.W.subIn K (.ref C0) (.ref C24) = some false)
    (er_n0_25 : PySem.W.subIn K (.ref C0) (.ref C25) = some false)
    (er_n0_26 : PySem.W.subIn K (.ref C0) (.ref C26) = some false)
    (er_n0_27 : PySem.W.subIn K (.ref C0) (.ref C27) = some false)
    (er_hg0 : PySem.W.findIn K (.ref C0) "__getattribute__" = some (some (.builtin "BaseException.__getattribute__")))
    (er_hk0 : PySem.W.findIn K (.ref C0) "__getattr__" = some none)
    (er_hd0 : PySem.W.hasDictIn K C0 = true)
    (er_ha0 : PySem.W.findIn K (.ref C0) "__class__" = some (some (.builtin "object.__class__")))
    (er_hm0 : PySem.W.mroIn K C0 (.type "object") = some true)
    (hnX : PySem.W.specialIn K (.builtin "object.__class__") "__get__" = some (some (.builtin "getset_descriptor.__get__")))
    (htX : PySem.W.takesIn K (.builtin "object.__class__") = some true)
    (eL0 : cdd20 = .ref cL0)
    (lL0 : K.lookup cL0 = some ⟨ocL0, odL0, .fields vsL0, slL0⟩)
    (pL0 : (vsL0[11]? : Option Value) = some (.ref PL0))
    (tL0 : PySem.W.tabIn K "_law_refused" = some (cL0, PL0))
    (oL0 : K.lookup PL0 = none)
    (rL0 : ∃ d, (recsOf q).find? (fun e => e.name == ("_law_refused" : Str)) = some d) :
    ∃ (cs : List (Addr × Addr)) (fd : FuncData), (∀ p ∈ cs, ∃ y, LamDef q K y p.1 p.2) ∧ (∀ (s : Shared) (v : Value), BindsTo s fd ⟨[v], []⟩ [("_law_script", v)]) ∧ ∀ base : Heap, K.In base → base.Ns mainGlobals mg → (∀ p ∈ cs, LamX.TabB base mg p.1 p.2) → FnG l.prog w K mg base 11 fa fd ["_law_script"] (spT cs K) := by
  have e := hfa.symm.trans (PySem.W.mg_of X G ad21)
  cases e
  have y_isinstance := PySem.W.mg_none_of X G z_isinstance
  have y_int := PySem.W.mg_none_of X G z_int
  have y_bool := PySem.W.mg_none_of X G z_bool
  have y_tuple := PySem.W.mg_none_of X G z_tuple
  have y_len := PySem.W.mg_none_of X G z_len
  have y_all := PySem.W.mg_none_of X G z_all
  have y_max := PySem.W.mg_none_of X G z_max
  have y_range := PySem.W.mg_none_of X G z_range
  have y_repr := PySem.W.mg_none_of X G z_repr
  have y_ValueError := PySem.W.mg_none_of X G z_ValueError
  have y_list := PySem.W.mg_none_of X G z_list
  have y_str := PySem.W.mg_none_of X G z_str
  have Fd0 := fun_mk (st := s_is_int) ld0 cd0 kd0
  have bd0 := Fd0.binds (ps := ["thing"]) fun _ _ _ _ _ _ us hl => match us, hl with | [_], _ => rfl
  have vd0 := PySem.W.mg_of X G ad0
  have Fd1 := fun_mk (st := s_is_between) ld1 cd1 kd1
  have bd1 := Fd1.binds (ps := ["thing", "least", "most"]) fun _ _ _ _ _ _ us hl => match us, hl with | [_, _, _], _ => rfl
  have vd1 := PySem.W.mg_of X G ad1
  have Fd2 := fun_mk (st := s_is_work) ld2 cd2 kd2
  have bd2 := Fd2.binds (ps := ["thing"]) fun _ _ _ _ _ _ us hl => match us, hl with | [_], _ => rfl
  have vd2 := PySem.W.mg_of X G ad2
  have Fd3 := fun_mk (st := s_bars) ld3 cd3 kd3
  have bd3 := Fd3.binds (ps := ["one", "other"]) fun _ _ _ _ _ _ us hl => match us, hl with | [_, _], _ => rfl
  have vd3 := PySem.W.mg_of X G ad3
  have Fd4 := fun_mk (st := s_most_visits) ld4 cd4 kd4
  have bd4 := Fd4.binds (ps := ["work"]) fun _ _ _ _ _ _ us hl => match us, hl with | [_], _ => rfl
  have vd4 := PySem.W.mg_of X G ad4
  have Fd5 := fun_mk (st := s_require_work) ld5 cd5 kd5
  have bd5 := Fd5.binds (ps := ["thing"]) fun _ _ _ _ _ _ us hl => match us, hl with | [_], _ => rfl
  have vd5 := PySem.W.mg_of X G ad5
  have Fd6 := fun_mk (st := s_clashes_behind) ld6 cd6 kd6
  have bd6 := Fd6.binds (ps := ["one", "other", "distance"]) fun _ _ _ _ _ _ us hl => match us, hl with | [_, _, _], _ => rfl
  have vd6 := PySem.W.mg_of X G ad6
  have Fd7 := fun_mk (st := s_l_cell) ld7 cd7 kd7
  have bd7 := Fd7.binds (ps := ["_law_script", "_law_k"]) fun _ _ _ _ _ _ us hl => match us, hl with | [_, _], _ => rfl
  have vd7 := PySem.W.mg_of X G ad7
  have Fd8 := fun_mk (st := s_l_pen) ld8 cd8 kd8
  have bd8 := Fd8.binds (ps := ["_law_cell_here"]) fun _ _ _ _ _ _ us hl => match us, hl with | [_], _ => rfl
  have vd8 := PySem.W.mg_of X G ad8
  have Fd9 := fun_mk (st := s_l_draw) ld9 cd9 kd9
  have bd9 := Fd9.binds (ps := ["_law_pen_here", "_law_many"]) fun _ _ _ _ _ _ us hl => match us, hl with | [_, _], _ => rfl
  have vd9 := PySem.W.mg_of X G ad9
  have Fd10 := fun_mk (st := s_l_pick) ld10 cd10 kd10
  have bd10 := Fd10.binds (ps := ["_law_pen_here", "_law_some"]) fun _ _ _ _ _ _ us hl => match us, hl with | [_, _], _ => rfl
  have vd10 := PySem.W.mg_of X G ad10
  have Fd11 := fun_mk (st := s_l_same) ld11 cd11 kd11
  have bd11 := Fd11.binds (ps := ["_law_found", "_law_due"]) fun _ _ _ _ _ _ us hl => match us, hl with | [_, _], _ => rfl
  have vd11 := PySem.W.mg_of X G ad11
  have Fd12 := fun_mk (st := s_l_is_whole) ld12 cd12 kd12
  have bd12 := Fd12.binds (ps := ["_law_thing", "_law_low", "_law_high"]) fun _ _ _ _ _ _ us hl => match us, hl with | [_, _, _], _ => rfl
  have vd12 := PySem.W.mg_of X G ad12
  have Fd13 := fun_mk (st := s_l_is_work) ld13 cd13 kd13
  have bd13 := Fd13.binds (ps := ["_law_thing"]) fun _ _ _ _ _ _ us hl => match us, hl with | [_], _ => rfl
  have vd13 := PySem.W.mg_of X G ad13
  have Fd14 := fun_mk (st := s_l_work) ld14 cd14 kd14
  have bd14 := Fd14.binds (ps := ["_law_pen_here", "_law_most", "_law_stations"]) fun _ _ _ _ _ _ us hl => match us, hl with | [_, _, _], _ => rfl
  have vd14 := PySem.W.mg_of X G ad14
  have Fd15 := fun_mk (st := s_l_odds) ld15 cd15 kd15
  have bd15 := Fd15.binds (ps := []) fun _ _ _ _ _ _ us hl => match us, hl with | [], _ => rfl
  have vd15 := PySem.W.mg_of X G ad15
  have Fd16 := fun_mk (st := s_l_great) ld16 cd16 kd16
  have bd16 := Fd16.binds (ps := []) fun _ _ _ _ _ _ us hl => match us, hl with | [], _ => rfl
  have vd16 := PySem.W.mg_of X G ad16
  have Fd17 := fun_mk (st := s_l_bend) ld17 cd17 kd17
  have bd17 := Fd17.binds (ps := ["_law_pen_here", "_law_row"]) fun _ _ _ _ _ _ us hl => match us, hl with | [_, _], _ => rfl
  have vd17 := PySem.W.mg_of X G ad17
  have Fd18 := fun_mk (st := s_l_kind) ld18 cd18 kd18
  have bd18 := Fd18.binds (ps := ["_law_e"]) fun _ _ _ _ _ _ us hl => match us, hl with | [_], _ => rfl
  have vd18 := PySem.W.mg_of X G ad18
  have Fd19 := fun_mk (st := s_l_said) ld19 cd19 kd19
  have bd19 := Fd19.binds (ps := ["_law_call"]) fun _ _ _ _ _ _ us hl => match us, hl with | [_], _ => rfl
  have vd19 := PySem.W.mg_of X G ad19
  have Fd20 := fun_mk (st := s_l_refused) ld20 cd20 kd20
  have bd20 := Fd20.binds (ps := ["_law_work_here", "_law_bad"]) fun _ _ _ _ _ _ us hl => match us, hl with | [_, _], _ => rfl
  have vd20 := PySem.W.mg_of X G ad20
  have Fd21 := fun_mk (st := s_law) ld21 cd21 kd21
  have bd21 := Fd21.binds (ps := ["_law_script"]) fun _ _ _ _ _ _ us hl => match us, hl with | [_], _ => rfl
  have vd21 := PySem.W.mg_of X G ad21
  have N_NOWHERE : ∃ t, mg "NOWHERE" = some (.int (-1) t) := ⟨_, PySem.W.mg_of X G u_NOWHERE⟩
  have N_STATIONS : ∃ t, mg "STATIONS" = some (.int (10) t) := ⟨_, PySem.W.mg_of X G u_STATIONS⟩
  have N_MOST_ITEMS : ∃ t, mg "MOST_ITEMS" = some (.int (60) t) := ⟨_, PySem.W.mg_of X G u_MOST_ITEMS⟩
  let Cf : Nat → Addr := fun i => [C0, C1, C2, C3, C4, C5, C6, C7, C8, C9, C10, C11, C12, C13, C14, C15, C16, C17, C18, C19, C20, C21, C22, C23, C24, C25, C26, C27].getD i 0
  have kn : ∀ i, i < 28 → mg (kNames.getD i "") = some (.ref (Cf i)) := fun i hi => by
    match i, hi with
    | 0, _ => exact PySem.W.mg_of X G aC0
    | 1, _ => exact PySem.W.mg_of X G aC1
    | 2, _ => exact PySem.W.mg_of X G aC2
    | 3, _ => exact PySem.W.mg_of X G aC3
    | 4, _ => exact PySem.W.mg_of X G aC4
    | 5, _ => exact PySem.W.mg_of X G aC5
    | 6, _ => exact PySem.W.mg_of X G aC6
    | 7, _ => exact PySem.W.mg_of X G aC7
    | 8, _ => exact PySem.W.mg_of X G aC8
    | 9, _ => exact PySem.W.mg_of X G aC9
    | 10, _ => exact PySem.W.mg_of X G aC10
    | 11, _ => exact PySem.W.mg_of X G aC11
    | 12, _ => exact PySem.W.mg_of X G aC12
    | 13, _ => exact PySem.W.mg_of X G aC13
    | 14, _ => exact PySem.W.mg_of X G aC14
    | 15, _ => exact PySem.W.mg_of X G aC15
    | 16, _ => exact PySem.W.mg_of X G aC16
    | 17, _ => exact PySem.W.mg_of X G aC17
    | 18, _ => exact PySem.W.mg_of X G aC18
    | 19, _ => exact PySem.W.mg_of X G aC19
    | 20, _ => exact PySem.W.mg_of X G aC20
    | 21, _ => exact PySem.W.mg_of X G aC21
    | 22, _ => exact PySem.W.mg_of X G aC22
    | 23, _ => exact PySem.W.mg_of X G aC23
    | 24, _ => exact PySem.W.mg_of X G aC24
    | 25, _ => exact PySem.W.mg_of X G aC25
    | 26, _ => exact PySem.W.mg_of X G aC26
    | 27, _ => exact PySem.W.mg_of X G aC27
    | n + 28, z => exact absurd z (by omega)
  have Er0 : Err K mg "NoWork" C0 := ⟨PySem.W.mg_of X G aC0, er_x0, er_k0, er_b0, tC0⟩
  have KO0 : KindOk K Cf C0 0 := ⟨by decide, ⟨er_hg0, er_hk0, er_b0, er_hd0, er_ha0, hnX, htX, er_hm0⟩, fun i hi => by
    match i, hi with
    | 0, _ => exact kit_self
    | 1, _ => exact kit_no er_s0 iC1 tC1 er_n0_1
    | 2, _ => exact kit_no er_s0 iC2 tC2 er_n0_2
    | 3, _ => exact kit_no er_s0 iC3 tC3 er_n0_3
    | 4, _ => exact kit_no er_s0 iC4 tC4 er_n0_4
    | 5, _ => exact kit_no er_s0 iC5 tC5 er_n0_5
    | 6, _ => exact kit_no er_s0 iC6 tC6 er_n0_6
    | 7, _ => exact kit_no er_s0 iC7 tC7 er_n0_7
    | 8, _ => exact kit_no er_s0 iC8 tC8 er_n0_8
    | 9, _ => exact kit_no er_s0 iC9 tC9 er_n0_9
    | 10, _ => exact kit_no er_s0 iC10 tC10 er_n0_10
    | 11, _ => exact kit_no er_s0 iC11 tC11 er_n0_11
    | 12, _ => exact kit_no er_s0 iC12 tC12 er_n0_12
    | 13, _ => exact kit_no er_s0 iC13 tC13 er_n0_13
    | 14, _ => exact kit_no er_s0 iC14 tC14 er_n0_14
    | 15, _ => exact kit_no er_s0 iC15 tC15 er_n0_15
    | 16, _ => exact kit_no er_s0 iC16 tC16 er_n0_16
    | 17, _ => exact kit_no er_s0 iC17 tC17 er_n0_17
    | 18, _ => exact kit_no er_s0 iC18 tC18 er_n0_18
    | 19, _ => exact kit_no er_s0 iC19 tC19 er_n0_19
    | 20, _ => exact kit_no er_s0 iC20 tC20 er_n0_20
    | 21, _ => exact kit_no er_s0 iC21 tC21 er_n0_21
    | 22, _ => exact kit_no er_s0 iC22 tC22 er_n0_22
    | 23, _ => exact kit_no er_s0 iC23 tC23 er_n0_23
    | 24, _ => exact kit_no er_s0 iC24 tC24 er_n0_24
    | 25, _ => exact kit_no er_s0 iC25 tC25 er_n0_25
    | 26, _ => exact kit_no er_s0 iC26 tC26 er_n0_26
    | 27, _ => exact kit_no er_s0 iC27 tC27 er_n0_27
    | n + 28, z => exact absurd z (by omega), kit_val er_v0⟩
  have ex0 : PySem.W.exmOne K (.ref C0) (.ref Gp) = some true := exm_sub bGp iGp tGp er_g0
  have vGp := PySem.W.mg_of X G aGp
  have LD0 : LamDef q K "_law_refused" cL0 PL0 := ⟨rL0, tL0, oL0⟩
  have mem : ∀ p ∈ [(cL0, PL0)], ∃ y, LamDef q K y p.1 p.2 := fun p hp => by
    rcases List.mem_cons.mp hp with rfl | hp
    · exact ⟨_, LD0⟩
    exact nomatch hp
  refine ⟨[(cL0, PL0)], PySem.W.fnOf "law" "law" (defArgs s_law) (defBody s_law) (defScope s_law) .none kVd21 dcd21 pmd21 and21 cdd21 ctd21, mem, fun s v => .of_eq rfl, fun base _ _ TBs => ?_⟩
  have TB0 : LamX.TabB base mg cL0 PL0 := TBs (cL0, PL0) (by simp)
  have N : Nums mg := ⟨N_NOWHERE, N_STATIONS, N_MOST_ITEMS⟩
  have Gd0 := ok_is_intA (P := l.prog) (w := w) (mg := mg) (base := base) (k := 0) Fd0 y_isinstance y_int y_bool
  have Gd1 := ok_is_betweenA (P := l.prog) (w := w) (mg := mg) (base := base) (k := 1) Fd1 (Gd0.mono (by decide)) kd0 bd0 vd0
  have Gd2 := ok_is_workA (P := l.prog) (w := w) (mg := mg) (base := base) (k := 2) Fd2 N (Gd1.mono (by decide)) kd1 bd1 vd1 y_isinstance y_tuple y_len y_all
  have Gd5 := ok_require_workA (P := l.prog) (w := w) (mg := mg) (base := base) (k := 3) Fd5 Er0 (Gd2.mono (by decide)) kd2 bd2 vd2
  have Gd3 := ok_barsBad (P := l.prog) (w := w) (mg := mg) (base := base) (k := 4) Fd3 (Gd5.mono (by decide)) kd5 bd5 vd5
  have Gd4 := ok_most_visits (P := l.prog) (w := w) (mg := mg) (base := base) (k := 4) Fd4 N (Gd5.mono (by decide)) kd5 bd5 vd5 y_max y_range
  have Gd7 := ok_l_cell (P := l.prog) (w := w) (mg := mg) (base := base) (k := 0) Fd7 y_len
  have Gd8 := ok_l_pen (P := l.prog) (w := w) (mg := mg) (base := base) (k := 0) Fd8 y_max
  have Gd9 := ok_l_draw (P := l.prog) (w := w) (mg := mg) (base := base) (k := 0) Fd9
  have Gd10 := ok_l_pickA (P := l.prog) (w := w) (mg := mg) (base := base) (k := 1) Fd10 (Gd9.mono (by decide)) kd9 bd9 vd9 y_len
  have Gd11 := ok_l_sameA (P := l.prog) (w := w) (mg := mg) (base := base) (k := 0) Fd11 y_repr
  have Gd12 := ok_is_whole (P := l.prog) (w := w) (mg := mg) (base := base) (k := 0) Fd12 y_isinstance y_int y_bool
  have Gd13 := ok_l_is_work (P := l.prog) (w := w) (mg := mg) (base := base) (k := 1) Fd13 (Gd12.mono (by decide)) kd12 bd12 vd12 y_isinstance y_tuple y_len
  have Gd14 := ok_l_work (P := l.prog) (w := w) (mg := mg) (base := base) (k := 1) Fd14 (Gd9.mono (by decide)) kd9 bd9 vd9 y_range y_tuple
  have Gd15 := ok_l_odds (P := l.prog) (w := w) (mg := mg) (base := base) (k := 0) Fd15
  have Gd16 := ok_l_great (P := l.prog) (w := w) (mg := mg) (base := base) (k := 0) Fd16 y_range
  have Gd17 := ok_l_bend (P := l.prog) (w := w) (mg := mg) (base := base) (k := 2) Fd17 (Gd9.mono (by decide)) kd9 bd9 vd9 (Gd10.mono (by decide)) kd10 bd10 vd10 y_len y_list y_tuple y_str
  have Gd18 := ok_l_kind (P := l.prog) (w := w) (mg := mg) (base := base) (k := 0) Fd18 kn y_isinstance y_ValueError
  have Gd20 := ok_l_refused (P := l.prog) (w := w) (mg := mg) (base := base) (k := 6) (C := Cf) Fd20 (tab_code ad20 ld20 tL0) TB0 Fd19 kd19 bd19 vd19 (Gd18.mono (by decide)) kd18 bd18 vd18 (Gd3.mono (by decide)) kd3 bd3 vd3 (Gd4.mono (by decide)) kd4 bd4 vd4 KO0 ex0 vGp y_repr
  exact ok_law (P := l.prog) (w := w) (mg := mg) (base := base) (k := 10) Fd21 (Gd7.mono (by decide)) kd7 bd7 vd7 (Gd8.mono (by decide)) kd8 bd8 vd8 (Gd14.mono (by decide)) kd14 bd14 vd14 (Gd15.mono (by decide)) kd15 bd15 vd15 (Gd16.mono (by decide)) kd16 bd16 vd16 (Gd17.mono (by decide)) kd17 bd17 vd17 (Gd13.mono (by decide)) kd13 bd13 vd13 (Gd20.mono (by decide)) kd20 bd20 vd20 (Gd9.mono (by decide)) kd9 bd9 vd9 (Gd4.mono (by decide)) kd4 bd4 vd4 (Gd11.mono (by decide)) kd11 bd11 vd11 y_range y_max
end Sg

set_option Elab.async false
set_option linter.all false
open PySem PySem.W PyProof.Rows
set_option maxRecDepth 100000 in
set_option maxHeartbeats 0 in
theorem PySem.Challenge.cw_startgaps_k03_visits_and_refusals_of_wor_holds : PySem.Challenge.rw_startgaps_k03_visits_and_refusals_of_wor.Holds := by
  w_on; o_law; k_head; (case hw => w_witness2)
  k_fill
  refine Sg.walk_lawT (l := PySem.Challenge.rw_startgaps_k03_visits_and_refusals_of_wor) (k := 11) (x := "_law_script") (sp := Sg.spT) rfl rfl ⟨rfl, by decide, by decide⟩ (fun w h Y => PySem.W.km_in_of Y) ?F Sg.spT_end
  case F =>
    intro w mg fa h KX G hmg
    refine' Sg.all_mk KX G hmg ?ad0 ?ld0 ?cd0 ?kd0 ?ad1 ?ld1 ?cd1 ?kd1 ?ad2 ?ld2 ?cd2 ?kd2 ?ad3 ?ld3 ?cd3 ?kd3 ?ad4 ?ld4 ?cd4 ?kd4 ?ad5 ?ld5 ?cd5 ?kd5 ?ad6 ?ld6 ?cd6 ?kd6 ?ad7 ?ld7 ?cd7 ?kd7 ?ad8 ?ld8 ?cd8 ?kd8 ?ad9 ?ld9 ?cd9 ?kd9 ?ad10 ?ld10 ?cd10 ?kd10 ?ad11 ?ld11 ?cd11 ?kd11 ?ad12 ?ld12 ?cd12 ?kd12 ?ad13 ?ld13 ?cd13 ?kd13 ?ad14 ?ld14 ?cd14 ?kd14 ?ad15 ?ld15 ?cd15 ?kd15 ?ad16 ?ld16 ?cd16 ?kd16 ?ad17 ?ld17 ?cd17 ?kd17 ?ad18 ?ld18 ?cd18 ?kd18 ?ad19 ?ld19 ?cd19 ?kd19 ?ad20 ?ld20 ?cd20 ?kd20 ?ad21 ?ld21 ?cd21 ?kd21 ?z_isinstance ?z_int ?z_bool ?z_tuple ?z_len ?z_all ?z_max ?z_range ?z_repr ?z_ValueError ?z_list ?z_str ?u_NOWHERE ?u_STATIONS ?u_MOST_ITEMS ?aC0 ?iC0 ?tC0 ?aC1 ?iC1 ?tC1 ?aC2 ?iC2 ?tC2 ?aC3 ?iC3 ?tC3 ?aC4 ?iC4 ?tC4 ?aC5 ?iC5 ?tC5 ?aC6 ?iC6 ?tC6 ?aC7 ?iC7 ?tC7 ?aC8 ?iC8 ?tC8 ?aC9 ?iC9 ?tC9 ?aC10 ?iC10 ?tC10 ?aC11 ?iC11 ?tC11 ?aC12 ?iC12 ?tC12 ?aC13 ?iC13 ?tC13 ?aC14 ?iC14 ?tC14 ?aC15 ?iC15 ?tC15 ?aC16 ?iC16 ?tC16 ?aC17 ?iC17 ?tC17 ?aC18 ?iC18 ?tC18 ?aC19 ?iC19 ?tC19 ?aC20 ?iC20 ?tC20 ?aC21 ?iC21 ?tC21 ?aC22 ?iC22 ?tC22 ?aC23 ?iC23 ?tC23 ?aC24 ?iC24 ?tC24 ?aC25 ?iC25 ?tC25 ?aC26 ?iC26 ?tC26 ?aC27 ?iC27 ?tC27 ?aGp ?iGp ?tGp ?bGp ?er_x0 ?er_k0 ?er_b0 ?er_v0 ?er_g0 ?er_s0 ?er_n0_1 ?er_n0_2 ?er_n0_3 ?er_n0_4 ?er_n0_5 ?er_n0_6 ?er_n0_7 ?er_n0_8 ?er_n0_9 ?er_n0_10 ?er_n0_11 ?er_n0_12 ?er_n0_13 ?er_n0_14 ?er_n0_15 ?er_n0_16 ?er_n0_17 ?er_n0_18 ?er_n0_19 ?er_n0_20 ?er_n0_21 ?er_n0_22 ?er_n0_23 ?er_n0_24 ?er_n0_25 ?er_n0_26 ?er_n0_27 ?er_hg0 ?er_hk0 ?er_hd0 ?er_ha0 ?er_hm0 ?hnX ?htX ?eL0 ?lL0 ?pL0 ?tL0 ?oL0 ?rL0
    (case ad0 => k_is)
    (case ld0 => k_is)
    (case cd0 => k_is)
    (case kd0 => k_is)
    (case ad1 => k_is)
    (case ld1 => k_is)
    (case cd1 => k_is)
    (case kd1 => k_is)
    (case ad2 => k_is)
    (case ld2 => k_is)
    (case cd2 => k_is)
    (case kd2 => k_is)
    (case ad3 => k_is)
    (case ld3 => k_is)
    (case cd3 => k_is)
    (case kd3 => k_is)
    (case ad4 => k_is)
    (case ld4 => k_is)
    (case cd4 => k_is)
    (case kd4 => k_is)
    (case ad5 => k_is)
    (case ld5 => k_is)
    (case cd5 => k_is)
    (case kd5 => k_is)
    (case ad6 => k_is)
    (case ld6 => k_is)
    (case cd6 => k_is)
    (case kd6 => k_is)
    (case ad7 => k_is)
    (case ld7 => k_is)
    (case cd7 => k_is)
    (case kd7 => k_is)
    (case ad8 => k_is)
    (case ld8 => k_is)
    (case cd8 => k_is)
    (case kd8 => k_is)
    (case ad9 => k_is)
    (case ld9 => k_is)
    (case cd9 => k_is)
    (case kd9 => k_is)
    (case ad10 => k_is)
    (case ld10 => k_is)
    (case cd10 => k_is)
    (case kd10 => k_is)
    (case ad11 => k_is)
    (case ld11 => k_is)
    (case cd11 => k_is)
    (case kd11 => k_is)
    (case ad12 => k_is)
    (case ld12 => k_is)
    (case cd12 => k_is)
    (case kd12 => k_is)
    (case ad13 => k_is)
    (case ld13 => k_is)
    (case cd13 => k_is)
    (case kd13 => k_is)
    (case ad14 => k_is)
    (case ld14 => k_is)
    (case cd14 => k_is)
    (case kd14 => k_is)
    (case ad15 => k_is)
    (case ld15 => k_is)
    (case cd15 => k_is)
    (case kd15 => k_is)
    (case ad16 => k_is)
    (case ld16 => k_is)
    (case cd16 => k_is)
    (case kd16 => k_is)
    (case ad17 => k_is)
    (case ld17 => k_is)
    (case cd17 => k_is)
    (case kd17 => k_is)
    (case ad18 => k_is)
    (case ld18 => k_is)
    (case cd18 => k_is)
    (case kd18 => k_is)
    (case ad19 => k_is)
    (case ld19 => k_is)
    (case cd19 => k_is)
    (case kd19 => k_is)
    (case ad20 => k_is)
    (case ld20 => k_is)
    (case cd20 => k_is)
    (case kd20 => k_is)
    (case ad21 => k_is)
    (case ld21 => k_is)
    (case cd21 => k_is)
    (case kd21 => k_is)
    (case z_isinstance => k_is)
    (case z_int => k_is)
    (case z_bool => k_is)
    (case z_tuple => k_is)
    (case z_len => k_is)
    (case z_all => k_is)
    (case z_max => k_is)
    (case z_range => k_is)
    (case z_repr => k_is)
    (case z_ValueError => k_is)
    (case z_list => k_is)
    (case z_str => k_is)
    (case u_NOWHERE => k_is)
    (case u_STATIONS => k_is)
    (case u_MOST_ITEMS => k_is)
    (case aC0 => k_is)
    (case iC0 => k_is)
    (case tC0 => k_is)
    (case aC1 => k_is)
    (case iC1 => k_is)
    (case tC1 => k_is)
    (case aC2 => k_is)
    (case iC2 => k_is)
    (case tC2 => k_is)
    (case aC3 => k_is)
    (case iC3 => k_is)
    (case tC3 => k_is)
    (case aC4 => k_is)
    (case iC4 => k_is)
    (case tC4 => k_is)
    (case aC5 => k_is)
    (case iC5 => k_is)
    (case tC5 => k_is)
    (case aC6 => k_is)
    (case iC6 => k_is)
    (case tC6 => k_is)
    (case aC7 => k_is)
    (case iC7 => k_is)
    (case tC7 => k_is)
    (case aC8 => k_is)
    (case iC8 => k_is)
    (case tC8 => k_is)
    (case aC9 => k_is)
    (case iC9 => k_is)
    (case tC9 => k_is)
    (case aC10 => k_is)
    (case iC10 => k_is)
    (case tC10 => k_is)
    (case aC11 => k_is)
    (case iC11 => k_is)
    (case tC11 => k_is)
    (case aC12 => k_is)
    (case iC12 => k_is)
    (case tC12 => k_is)
    (case aC13 => k_is)
    (case iC13 => k_is)
    (case tC13 => k_is)
    (case aC14 => k_is)
    (case iC14 => k_is)
    (case tC14 => k_is)
    (case aC15 => k_is)
    (case iC15 => k_is)
    (case tC15 => k_is)
    (case aC16 => k_is)
    (case iC16 => k_is)
    (case tC16 => k_is)
    (case aC17 => k_is)
    (case iC17 => k_is)
    (case tC17 => k_is)
    (case aC18 => k_is)
    (case iC18 => k_is)
    (case tC18 => k_is)
    (case aC19 => k_is)
    (case iC19 => k_is)
    (case tC19 => k_is)
    (case aC20 => k_is)
    (case iC20 => k_is)
    (case tC20 => k_is)
    (case aC21 => k_is)
    (case iC21 => k_is)
    (case tC21 => k_is)
    (case aC22 => k_is)
    (case iC22 => k_is)
    (case tC22 => k_is)
    (case aC23 => k_is)
    (case iC23 => k_is)
    (case tC23 => k_is)
    (case aC24 => k_is)
    (case iC24 => k_is)
    (case tC24 => k_is)
    (case aC25 => k_is)
    (case iC25 => k_is)
    (case tC25 => k_is)
    (case aC26 => k_is)
    (case iC26 => k_is)
    (case tC26 => k_is)
    (case aC27 => k_is)
    (case iC27 => k_is)
    (case tC27 => k_is)
    (case aGp => k_is)
    (case iGp => k_is)
    (case tGp => k_is)
    (case bGp => k_is)
    (case er_x0 => k_exc)
    (case er_k0 => k_is)
    (case er_b0 => k_is)
    (case er_v0 => k_is)
    (case er_g0 => k_is)
    (case er_s0 => first | rfl | k_is)
    (case er_n0_1 => k_is)
    (case er_n0_2 => k_is)
    (case er_n0_3 => k_is)
    (case er_n0_4 => k_is)
    (case er_n0_5 => k_is)
    (case er_n0_6 => k_is)
    (case er_n0_7 => k_is)
    (case er_n0_8 => k_is)
    (case er_n0_9 => k_is)
    (case er_n0_10 => k_is)
    (case er_n0_11 => k_is)
    (case er_n0_12 => k_is)
    (case er_n0_13 => k_is)
    (case er_n0_14 => k_is)
    (case er_n0_15 => k_is)
    (case er_n0_16 => k_is)
    (case er_n0_17 => k_is)
    (case er_n0_18 => k_is)
    (case er_n0_19 => k_is)
    (case er_n0_20 => k_is)
    (case er_n0_21 => k_is)
    (case er_n0_22 => k_is)
    (case er_n0_23 => k_is)
    (case er_n0_24 => k_is)
    (case er_n0_25 => k_is)
    (case er_n0_26 => k_is)
    (case er_n0_27 => k_is)
    (case er_hg0 => k_is)
    (case er_hk0 => k_is)
    (case er_hd0 => k_is)
    (case er_ha0 => k_is)
    (case er_hm0 => k_is)
    (case hnX => k_is)
    (case htX => k_is)
    (case eL0 => rfl)
    (case lL0 => k_is)
    (case pL0 => rfl)
    (case tL0 => kernel_rfl)
    (case oL0 => kernel_rfl)
    (case rL0 => exact ⟨_, rfl⟩)

