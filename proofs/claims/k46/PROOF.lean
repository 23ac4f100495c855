import PyProof.Rows.All
import HandS.ForMost
import HandS.IsInst
import HandS.TupMul
import HandS.TupAny
import HandS.Walk
import HandS.Zip
import PyProof.ReprRoads
import PyProof.ReprBulk
import KE.GoesMore
import PyProof.EnumMake
import HandS.Star
import HandS.Property
import HandS.SortKw
import KE.KOpsOwn
import KE.DataMinMax
import PyProof.InstNe
import HandS.Style
import HandS.DictTup
import PyProof.DictMoreH
import HandS.Iter
import PyProof.Rows.RowBridgeK
import HandS.Wide
import PyProof.Rows.ReprShort
import PyProof.ReprLen
import HandS.Conv
import HandS.TupSets
import PyProof.P3Statements
import HandS.SetFor
import HandS.Strs
import HandS.Dict
import HandS.More
import HandS.Deep
import KE.KDictKeyed
import KE.SortKeyHeap
import HandS.EndTab
import KE.KNest
import PyProof.CallFns
import PyProof.StrOps2
import HandS.HotCalls
import HandS.ExcIs
import HandS.ExcOwn
import HandS.WordsExc
import KE.KTryMore
import HandS.Comp
import HandS.Exc
import KE.GoesComp
import KE.GoesRaise
import PySem.Builtin._heapq.W4All
import HandS.Gcd
import PySem.Challenge.RW_startgaps_k46_waits_by_hand
import HandS.NoneIn
set_option Elab.async false
set_option linter.all false
set_option maxRecDepth 100000
set_option maxHeartbeats 4000000
namespace Sg
open PySem PySem.Spec PyProof.Rows L2
/-! ## defs that may ask for a text of data: they run outside of every such text -/
/-- a promise that holds where no text of data is being made -/
structure FnG (P : Program) (w : World) (K : PySem.W.Frag) (mg : Str → Option Value) (base : Heap) (k : Nat) (f : Addr)
    (fd : FuncData) (ps : List Str) (sp : Sp) : Prop where
  arity : ∀ vs H Q, sp vs H Q E0 → vs.length = ps.length
  go : ∀ (A : Around) (outer : List Env) (s : Shared) (H : Hp) (args : Args) (us : List Value) (vs : List V) (Q : VK),
    A.guards = some [] → Room k A → Env0 P w K mg base A outer s H → BindsTo s fd args (ps.zip us) → Vals vs us →
    sp vs H Q E0 → codeAny (model P w) A (.call (.ref f) args) (CR CX0 outer P w H s Q E0) s
section
variable {P : Program} {w : World} {K : PySem.W.Frag} {mg : Str → Option Value} {base : Heap} {k : Nat} {f : Addr}
variable {fd : FuncData} {ps : List Str} {sp : Sp}
theorem FnG.of (F : FnOk P w K mg base CX0 k f fd ps sp) : FnG P w K mg base k f fd ps sp :=
  ⟨fun vs H Q h => F.len vs H Q E0 h, fun A outer s H args us vs Q _ hr e0 hb hv h =>
    F.run A outer s H args us vs Q E0 hr e0 hb hv h⟩
theorem FnG.mono {j : Nat} (F : FnG P w K mg base j f fd ps sp) (h : j ≤ k) : FnG P w K mg base k f fd ps sp :=
  ⟨F.arity, fun A outer s H args us vs Q hg hr => F.go A outer s H args us vs Q hg (hr.mono h)⟩
/-- a def's body, where no text of data is being made -/
theorem fnG_mk {x qual : Str} {st : Stmt} {N : List Str} (F : Fun K x qual st f fd)
    (S : FnScope N ps (defScope st)) (arity : ∀ vs H Q, sp vs H Q E0 → vs.length = ps.length)
    (hbody : ∀ (cdv : Value) (A : Around) (outer : List Env) (s : Shared) (H : Hp) (vs : List V) (Q : VK),
      (A.deeper (envOfC qual (defScope st) s.heap.objs.size f cdv)).guards = some [] →
      Room k (A.deeper (envOfC qual (defScope st) s.heap.objs.size f cdv)) → sp vs H Q E0 →
      ∃ t, PSs (cxOf CX0 P w K mg base N qual (defScope st) f cdv A outer s H E0).nox (defBody st) t ∧
        t { nx := fun _ H' => Q .non H', rt := Q } (start N vs) H) :
    FnG P w K mg base (k + 1) f fd ps sp := by
  obtain ⟨oc, od, kV, doc, pm, an, cdv, ct, osl, rfl, lk, hcd⟩ := F.ex
  refine ⟨arity, ?_⟩
  intro A outer s H args us vs Q hg hr e0 hb r hsp
  have hl := arity _ _ _ hsp
  have hk0 : ∀ b o, base.get? b = some o → s.heap.get? b = some o := fun b o e => (e0.bs b o e).1
  have KX : K.In s.heap := e0.mod.kin.keeps hk0
  have lim : s.heap.NoLimit := e0.mod.nolimit.keeps hk0
  refine codeAny_call_function hr.depth (KX _ _ lk) rfl S.co S.gen rfl (PySem.W.codeRec_of KX hcd) ?_
  refine hb _ _ _ _ (wpAny_newFunctionEnv_cells S.kind ?_ ?_)
  · rintro ⟨n, v⟩ hy
    have hn := S.par n (List.of_mem_zip hy).1
    cases hn with
    | inl q => exact .inl q
    | inr q => exact .inr ⟨q, PySem.W.cellsFrom_some _ _ _ (.inl q)⟩
  · intro env he s1 x
    subst he
    refine ⟨lim.keeps x.toInCall.keep, ?_⟩
    apply codeAny_func
    obtain ⟨t, ht, hq⟩ := hbody cdv A outer s H vs Q hg (hr.deeper _) hsp
    have ht' := ht.nox
    have I := inv_start (CX := CX0) (E := E0) (cd := cdv) (qual := qual) (f := f) S hr.hd e0 hl r x
    refine wpAny_mono (ht'.run [] s1 (start N vs) H _ I hq) ?_ (fun e s' hs => hs)
    intro fl s' hs
    cases fl with
    | ret u =>
      obtain ⟨v, σ', H', J, rv, q⟩ := hs
      exact ⟨v, H', J.os, J.bare, J.base, J.hok, rv, q⟩
    | next =>
      obtain ⟨σ', H', J, q⟩ := hs
      exact ⟨V.non, H', J.os, J.bare, J.base, J.hok, rfl, q⟩
    | brk => obtain ⟨_, _, _, q⟩ := hs; exact q.elim
    | cont => obtain ⟨_, _, _, q⟩ := hs; exact q.elim
end
section
variable {X : Cx} {k : Nat} {f : Addr} {fd : FuncData} {ps : List Str} {sp : Sp} {dvs : List V} {ds : List Value}
variable {x : Str} {p pos : Pos} {e : Expr} {es : List Expr} {t : TA}
/-- f(a, ..) of such a def -/
theorem pe_callG (F : FnG X.prog X.w X.K X.mg X.base k f fd ps sp) (hgd : X.A.guards = some []) (hr : Room k X.A)
    (hg : Gl X x) (hm : X.mg x = some (.ref f)) (hk : PySem.W.keepIn X.K (.ref f) = true) (hb : Binds X.K fd ps [])
    (ha : PA X (e :: es) t) (hdb : (x == ("__debug__" : Str)) = false := by decide)
    (he : starEach (e :: es) X.env = (false, eval e X.env) :: starEach es X.env := by rfl)
    (hpl : (backTo pos (starEach es X.env)).any (·.1) = false := by rfl) :
    PE X (.Call (.Name x p) (e :: es) [] pos) (tCall sp [] E0 t) := by
  constructor
  intro pins s σ H Q I h
  refine wpAny_Call_Name_kw (ld_glob I hg hm (PySem.W.callWith_K (h₀ := X.base) I.ok.mod.kin hk ?_ he hpl) hdb)
  refine thn (ha.run pos pins s σ H _ I h) ?_
  rintro us s1 ⟨vs, H1, I1, r, q⟩
  refine ⟨I1.kIn, ?_⟩
  rw [List.append_nil] at q
  have hl : (us ++ []).length = ps.length := by rw [List.append_nil, ← r.length]; exact F.arity _ _ _ q
  have hbb := hb s1 us I1.kIn hl
  rw [List.append_nil] at hbb
  refine wpAny_call (codeAny_mono (F.go X.A X.stack s1 H1 ⟨us, []⟩ us vs Q hgd hr I1.env0 hbb r q) ?_)
  intro r' s' hq
  match r', hq with
  | .error _, hq => exact hq.elim
  | .ok (.ret _), hq => exact I1.after hq
  | .ok .next, hq => exact hq.elim
  | .ok .brk, hq => exact hq.elim
  | .ok .cont, hq => exact hq.elim
/-! ## repr of data -/
/-- what may be shown: its ints are not too great, and the text is not too long -/
def Shows (d : PyData) : Prop := d.showable = true ∧ d.hasDict = false ∧ d.depth ≤ 40 ∧ d.shown.length ≤ sizeLine
theorem call_reprD {j : Nat} (hgd : X.A.guards = some []) (hr : Room j X.A) :
    CallR X (.builtin "repr") (fun xs H Q => ∃ a d, xs = [.ref a] ∧ Dp X.K H (.ref a) d ∧ Shows d ∧ Q (.str d.shown) H) := by
  intro pins s σ H xs us Q I r h
  obtain ⟨a, d, rfl, hd, ⟨h1, h2, h3, h4⟩, q⟩ := h
  obtain ⟨u, rfl, rfl⟩ := vals1 r
  obtain ⟨as, rd⟩ := Dp.reads I d (.ref a) (.ref a) hd rfl
  have hu := hr.units
  refine repr_of_reads' (h₀ := s.heap) rd h1 (fun z => ?_) hgd (by omega) (fun _ _ z => z) (fun h' u tk hk => ?_) h4
  · rw [h2] at z; cases z
  · exact ⟨.str d.shown, H, I.kept hk, ⟨u, rfl⟩, q⟩
end
end Sg
set_option Elab.async false
set_option linter.all false
set_option maxRecDepth 100000
set_option maxHeartbeats 4000000
namespace Sg
open PySem PySem.Spec PyProof.Rows L2
/-! ## the law's own call -/
section
variable {P : Program} {w : World} {K : PySem.W.Frag} {mg mb : Str → Option Value} {k : Nat} {fa a : Addr}
variable {fd : FuncData} {x : Str} {sp : Sp} {s₁ : Shared} {vs : List Value} {ns : List Int}
/-- what is asked of the law's call -/
abbrev Ended (s₁ : Shared) : Result → Shared → Prop := fun r s' =>
  r = .ok (.ret (.bool true)) ∧ OldK s₁.heap s'.heap ∧ s'.os = s₁.os ∧ AllBare s'.gens
theorem call_from {H : Hp} (KX : K.In s₁.heap) (hns : s₁.heap.Ns mainGlobals mg) (hb : s₁.heap.Ns builtinsNs mb)
    (hbb : ∀ x : Str, x ≠ "__name__" → mb x = bootBuiltins x) (hlim : s₁.heap.NoLimit) (hg : s₁.gens = #[])
    (ha : s₁.heap.get? a = some { cls := .type "list", data := .seq vs.toArray }) (hr : Room k callerA)
    (F : ∀ base : Heap, K.In base → base.Ns mainGlobals mg → FnG P w K mg base k fa fd [x] sp)
    (hbind : ∀ (s : Shared) (u : Value), BindsTo s fd ⟨[u], []⟩ [(x, u)])
    (hsp : sp [.ref a] H (fun v _ => v = .bl true) E0) (hO : Only H) (hok : HOk P w H s₁.heap)
    (hA : ∀ b, H b ≠ none → b = a) (hK : H a ≠ none → K.lookup a = none) :
    codeAny (model P w) callerA (.call (.ref fa) ⟨[.ref a], []⟩) (Ended s₁) s₁ := by
  have only : ∀ {b : Addr} {u : HO}, H b = some u → b = a := fun z => hA _ (by rw [z]; exact fun q => nomatch q)
  have free : ∀ {b : Addr} {o : Obj} {es : Array DictEntry} {ep : Nat},
      s₁.heap.get? b = some o → o.data = .dict es ep → H b = none := by
    intro b o es ep e d
    rcases q : H b with _ | u
    · rfl
    · rw [only q, ha] at e
      have e' := Option.some.inj e
      rw [← e'] at d
      exact nomatch d
  have nsK : ∀ {b : Addr} {m : Str → Option Value}, s₁.heap.Ns b m → (hidT s₁.heap H).Ns b m := by
    rintro b m ⟨o, es, ep, e, d, r⟩
    exact ⟨o, es, ep, hidT_get e (free e d), d, r⟩
  have hKb : K.In (hidT s₁.heap H) := by
    intro b o e
    refine hidT_get (KX b o e) ?_
    rcases q : H b with _ | u
    · rfl
    · have e' := only q
      subst e'
      have z := hK (by rw [q]; exact fun q => nomatch q)
      rw [z] at e
      exact nomatch e
  have hM : Mod K mg (hidT s₁.heap H) := by
    refine ⟨hKb, nsK hns, ⟨mb, nsK hb, hbb⟩, ?_⟩
    obtain ⟨mc, h1, h2⟩ := hlim
    exact ⟨mc, nsK h1, h2⟩
  have e0 : Env0 P w K mg (hidT s₁.heap H) callerA [] s₁ H := by
    refine ⟨rfl, hM, fun b o e => of_hidT e, Nat.le_of_eq (hidT_size _ _), trivial, ?_, hok, .of_eq hg⟩
    intro b hb
    have hb' : b ∈ ([] : List Addr) := hb
    exact nomatch hb'
  have run := (F _ hKb (nsK hns)).go callerA [] s₁ H ⟨[.ref a], []⟩ [.ref a] [.ref a] _ rfl hr e0
    (hbind s₁ (.ref a)) (.cons rfl .nil) hsp
  refine codeAny_mono run ?_
  intro r s' h
  match r, h with
  | .error _, h => exact h.elim
  | .ok .next, h => exact h.elim
  | .ok .brk, h => exact h.elim
  | .ok .cont, h => exact h.elim
  | .ok (.ret u), h =>
    obtain ⟨v, H', os, bare, un, hok', r', q⟩ := h
    have q' : v = .bl true := q
    subst q'
    have eu : u = Value.bool true := r'
    subst eu
    refine ⟨rfl, OldK.of_keep ?_, os, bare⟩
    intro b o e
    rcases q : H b with _ | u
    · refine un.keep b o e q (fun z => ?_) (fun z => nomatch z)
      have z' : b ∈ ([] : List Addr) := z
      exact nomatch z'
    · rcases hO b with z | ⟨ob, xs, z⟩
      · rw [q] at z; exact nomatch z
      · obtain ⟨e1, _⟩ := hok b _ z
        obtain ⟨e2, _⟩ := hok' b _ (un.frzs b ob _ z)
        rw [e] at e1
        rw [e2, Option.some.inj e1]
theorem call_law (KX : K.In s₁.heap) (hns : s₁.heap.Ns mainGlobals mg) (hb : s₁.heap.Ns builtinsNs mb)
    (hbb : ∀ x : Str, x ≠ "__name__" → mb x = bootBuiltins x) (hlim : s₁.heap.NoLimit) (hg : s₁.gens = #[])
    (ha : s₁.heap.get? a = some { cls := .type "list", data := .seq vs.toArray }) (hi : IntsAre vs ns)
    (hl : ns.length ≤ sizeLine) (hr : Room k callerA)
    (F : ∀ base : Heap, K.In base → base.Ns mainGlobals mg → FnG P w K mg base k fa fd [x] sp)
    (hbind : ∀ (s : Shared) (u : Value), BindsTo s fd ⟨[u], []⟩ [(x, u)])
    (hsp : ∀ H : Hp, Only H → SqL K H a (ns.map V.int) → sp [.ref a] H (fun v _ => v = .bl true) E0) :
    codeAny (model P w) callerA (.call (.ref fa) ⟨[.ref a], []⟩) (Ended s₁) s₁ := by
  have rv := vals_ints hi
  have lenV := hi.length
  rcases hk : K.lookup a with _ | o
  · let H : Hp := fun b => if b = a then some (.frz { cls := .type "list", data := .seq vs.toArray } (.lst (ns.map V.int))) else none
    have at_a : H a = some (.frz { cls := .type "list", data := .seq vs.toArray } (.lst (ns.map V.int))) := if_pos rfl
    have off : ∀ b, b ≠ a → H b = none := fun b hb => if_neg hb
    have onlyH : Only H := by
      intro b
      by_cases hb : b = a
      · exact .inr ⟨_, _, if_pos hb⟩
      · exact .inl (off b hb)
    refine call_from (H := H) KX hns hb hbb hlim hg ha hr F hbind (hsp H onlyH (.inl (.inr ⟨_, at_a⟩))) onlyH ?_ ?_ (fun _ => hk)
    · intro b u z
      by_cases hb : b = a
      · subst hb
        rw [at_a] at z
        obtain rfl := Option.some.inj z
        exact ⟨ha, by rw [List.length_map]; exact hl, vs, _, rv, ha⟩
      · rw [off b hb] at z; exact nomatch z
    · intro b z
      by_cases hb : b = a
      · exact hb
      · exact absurd (off b hb) z
  · have e := KX a o hk
    rw [ha] at e
    obtain rfl := Option.some.inj e
    refine call_from (H := fun _ => none) KX hns hb hbb hlim hg ha hr F hbind (hsp _ (fun _ => .inl rfl) (.inr ?_)) (fun _ => .inl rfl)
      (fun b u z => nomatch z) (fun b z => absurd rfl z) (fun z => absurd rfl z)
    exact ⟨_, vs.toArray, _, hk, rfl, rfl, rfl, by rw [List.size_toArray, lenV]; exact hl, rv⟩
end
/-- the end of a law's proof -/
theorem walk_law {l : PySem.W.OpenLaw} {k : Nat} {q : Program} {loose : List Str} {XP : (Str → Option Value) → Heap → Prop}
    {YP : World → Heap → Prop} {d : DefRec} {K : Params → PySem.W.Frag} {sp : PySem.W.Frag → Sp} {x : Str}
    (hn : l.most = some 63) (hdf : d.params.defaults = []) (hr : Room k callerA)
    (hY : ∀ (w : World) (h : Heap), YP w h → (K w.params).In h)
    (F : ∀ (w : World) (mg : Str → Option Value) (fa : Addr) (h : Heap), (K w.params).In h → h.Ns mainGlobals mg →
      mg d.name = some (.ref fa) → ∃ fd : FuncData, (∀ (s : Shared) (u : Value), BindsTo s fd ⟨[u], []⟩ [(x, u)]) ∧
        ∀ base : Heap, (K w.params).In base → base.Ns mainGlobals mg →
          FnG l.prog w (K w.params) mg base k fa fd [x] (sp (K w.params)))
    (hsp : ∀ (K : PySem.W.Frag) (H : Hp) (a : Addr) (ns : List Int), ns.length ≤ 63 → Only H → SqL K H a (ns.map V.int) →
      sp K [.ref a] H (fun v _ => v = .bl true) E0) :
    PySem.W.WalkO q loose XP YP l.row.toRowW d [] (fun f vs => PySem.call f vs) := by
  refine Att.attach_call hn hdf ?_
  intro w s₀ s₁ mg mb fa o pm cd doc a vs ns G Y ho hd hcd hmg hobj hints hlen hg
  obtain ⟨fd, hb, hF⟩ := F w mg fa _ (hY w _ Y) G.T.g hmg
  exact call_law (hY w _ Y) G.T.g G.T.b G.T.builtins G.T.nolimit hg hobj hints
    (Nat.le_trans hlen (by decide)) hr hF hb (fun H hO hS => hsp _ H a ns hlen hO hS)
end Sg
set_option Elab.async false
set_option linter.all false
set_option maxRecDepth 100000
set_option maxHeartbeats 4000000
namespace PySem
open Sem (wp)
open AutoSeq1 (wpAny_loadPart')
/-- enumerate(t), t a tuple: its two new cells -/
theorem sg_enum_new (l : Addr) (items : Array Value) :
    Meets (Builtin.«enumerate.__new__» ⟨[.type "enumerate", .ref l], []⟩) (fun _ R s => s.heap.IsTuple l items ∧
      R (.ok (.ret (.ref (s.heap.push { cls := .type "tuple_iterator", data := .fields #[.ref l, .int 0 0] }).objs.size)))
        { s with heap := ((s.heap.push { cls := .type "tuple_iterator", data := .fields #[.ref l, .int 0 0] }).push { cls := .type "enumerate", data := .fields #[.none, .bool false, .ref s.heap.objs.size, rawInt 0, .none, .none] }) }) := by
  refine .of_wp ?_
  intro prog w A R s h
  obtain ⟨hp, g, d, tk, os⟩ := s
  obtain ⟨hT, h⟩ := h
  obtain ⟨o, hl, hc, n, hd⟩ := id hT
  have hsub := sub_enumerate
  wp_walk using wpAny_loadPart' hl
  refine wpAny_stack_any fun st => wpAny_pure ?_
  split
  · rename_i c _ _ _ _ _
    rcases hcc : (c == Value.type "enumerate") with _ | _ <;>
    · wp_walk using wpAny_loadPart' hl, wpAny_pyIter_tuple hT
      exact ⟨_, rfl, h⟩
  · wp_walk using wpAny_loadPart' hl, wpAny_pyIter_tuple hT
    exact ⟨_, rfl, h⟩
section
variable {prog : Program} {w : World} {A : Around} {E : Value → Shared → Prop} {s : Shared}
theorem sg_call_enum {l : Addr} {items : Array Value} {Q : Value → Shared → Prop} (hL : s.heap.IsTuple l items)
    (h : ∀ h', IsEnum h' (s.heap.objs.size + 1) s.heap.objs.size 0 .none → h'.IsTupleIter s.heap.objs.size l 0 →
      (∀ b o, s.heap.get? b = some o → h'.get? b = some o) → Q (.ref (s.heap.objs.size + 1)) { s with heap := h' }) :
    wpAny (model prog w) A (call (.type "enumerate") [.ref l]) Q E s := by
  refine callType_new F.called_enumerate (by decide) (F.typeCall_enumerate_1 _) (F.newCall_enumerate_1 _)
    (fun obj => F.args_object_init_2 obj _) F.entry_enumerate_new (sg_enum_new l items) ⟨hL, ?_⟩
  let o1 : Obj := { cls := .type "tuple_iterator", data := .fields #[.ref l, .int 0 0] }
  have hz : (s.heap.push o1).objs.size = s.heap.objs.size + 1 := Heap.size_push ..
  show _ ∧ _
  rw [hz]
  have he : IsEnum ((s.heap.push o1).push { cls := .type "enumerate", data := .fields #[.none, .bool false, .ref s.heap.objs.size, rawInt 0, .none, .none] })
      (s.heap.objs.size + 1) s.heap.objs.size 0 .none := by
    have z := Heap.get?_push_size (s.heap.push o1)
      (o := { cls := .type "enumerate", data := .fields #[.none, .bool false, .ref s.heap.objs.size, rawInt 0, .none, .none] }) rfl
    rw [hz] at z
    exact z
  refine ⟨⟨_, he, rfl⟩, h _ he ⟨_, Heap.get?_push_of_some _ (Heap.get?_push_size _ rfl), rfl, rfl⟩ ?_⟩
  intro b o x
  exact Heap.get?_push_of_some _ (Heap.get?_push_of_some _ x)
end
end PySem
namespace Sg
open PySem PySem.Spec PyProof.Rows L2
/-- the tuple at a, item by item, each in a new pair with its place -/
def ItE (K : PySem.W.Frag) (a : Addr) : It :=
  ⟨fun i H => ∃ (xs : List V) (x : V), SqT K H a xs ∧ xs[i]? = some x,
   fun i H v H' => ∃ T x, v = .ref T ∧ H T = none ∧ H' = upd H T (.tup [.int (i : Nat), x]) ∧ ∀ xs, SqT K H a xs → xs[i]? = some x,
   fun i H => ∃ xs : List V, SqT K H a xs ∧ xs.length ≤ i⟩
theorem turn_enumT {P : Program} {w : World} {K : PySem.W.Frag} {elts : List Expr} {kk : Nat} {tpos : Pos} (a e it : Addr) :
    Turn P w K (.Tuple elts kk tpos) (ItE K a) [e, it] e
      (fun i h => (∃ old, IsEnum h e it ((i : Nat) : Int) old) ∧ h.IsTupleIter it a i ∧ e ≠ it) := by
  have two : ∀ {b : Addr}, b ∈ [e, it] → b = e ∨ b = it := fun {b} hb => by simpa using hb
  refine ⟨by simp, ?_, ?_, ?_, ?_, ?_⟩
  · rintro i h ⟨⟨old, he⟩, ⟨o, ho, hc, hd⟩, _⟩ b hb
    rcases two hb with rfl | rfl
    · exact ⟨_, he, fun v q => nomatch q⟩
    · refine ⟨o, ho, fun v q => ?_⟩
      rw [hd] at q
      exact nomatch q
  · rintro i h h' ⟨⟨old, he⟩, hi, hne⟩ k
    exact ⟨⟨old, k e (by simp) _ he⟩, hi.at fun o q => k it (by simp) o q, hne⟩
  · intro X hP hw hK hc i pins s σ H E I hf st hg
    subst hP hw hK
    obtain ⟨⟨old, he⟩, hit, hne⟩ := st
    obtain ⟨xs, x, hq, hx⟩ := hg
    obtain ⟨its, rv, p, hz⟩ := I.tuple hq
    obtain ⟨u, hu, ru⟩ := rv.get hx
    have hel : e < s.heap.objs.size := Heap.lt_size he
    have hil : it < s.heap.objs.size := by obtain ⟨_, q, _⟩ := hit; exact Heap.lt_size q
    have hai : a ≠ it := by
      rintro rfl
      obtain ⟨o, ho, hcl, _⟩ := p
      obtain ⟨o', ho', hcl', _⟩ := hit
      rw [ho] at ho'
      obtain rfl := Option.some.inj ho'
      rw [hcl] at hcl'
      exact absurd hcl' (by decide)
    have hae : e ≠ a := by
      rintro rfl
      obtain ⟨o, ho, hcl, _⟩ := p
      have he' : s.heap.get? e = _ := he
      rw [ho] at he'
      obtain rfl := Option.some.inj he'
      have z : ("enumerate" : String) = "tuple" := Value.type.inj hcl
      exact absurd z (by decide)
    have hlt : i < its.length := (List.getElem?_eq_some_iff.mp hu).1
    refine wpAny_pyNext_enum_itemD (Draws.tuple (A := X.A.in1) (I.ok.hd hc) it a hai its.toArray) he ⟨hit, p⟩
      (by simpa using hlt) hne (by simp [hne, hae]) ?_
    intro x' h' tk hP ho hs' hT hsz hk
    have hxu : x' = u := by
      have z : its[i]? = some x' := by simpa using hP
      rw [hu] at z
      exact (Option.some.inj z).symm
    subst hxu
    refine ⟨_, rfl, wpAny_letOwnedTupleGo_enum (s := { s with heap := h', toks := tk + 1 }) ho ?_⟩
    intro h'' he' sb
    have hT2 : h''.get? s.heap.objs.size = some { cls := .type "tuple", data := .seq #[.int i tk, x'] } :=
      (sb.2 _ (Nat.ne_of_gt hel)).trans hT
    have new : ObjOk X.prog X.w (upd H s.heap.objs.size (.tup [.int (i : Nat), x])) h'' s.heap.objs.size (.tup [.int (i : Nat), x]) := by
      refine ⟨by show 2 ≤ sizeLine; decide, [.int i tk, x'], .cons ⟨_, rfl⟩ (.cons ru .nil), ⟨_, hT2, rfl, _, rfl⟩⟩
    have I1 : Inv X pins σ (upd H s.heap.objs.size (.tup [.int (i : Nat), x])) { s with heap := h'', toks := tk + 1 } := by
      refine I.turnedNew (ch := [e, it]) ?_ hf (Nat.le_refl _) new
      intro b ob hb q
      have n1 : b ≠ e := fun z => hb (by simp [z])
      have n2 : b ≠ it := fun z => hb (by simp [z])
      exact (sb.2 b n1).trans (hk b ob n1 n2 q)
    refine ⟨.ref s.heap.objs.size, _, I1, rfl, ⟨_, x, rfl, I.hok.fresh (Nat.le_refl _), rfl, ?_⟩, ⟨⟨x', ?_⟩, ?_, hne⟩, ?_⟩
    · intro ys hy
      rw [I.tuple_inj hy hq]
      exact hx
    · have e1 : ((i + 1 : Nat) : Int) = (i : Int) + 1 := by omega
      rw [e1]
      exact he'
    · exact hs'.1.at fun o q => (sb.2 it (Ne.symm hne)).trans q
    · intro b hb
      have hb' : b < s.heap.objs.size := by
        rcases two hb with rfl | rfl
        · exact hel
        · exact hil
      rw [upd_ne (Nat.ne_of_lt hb')]
      exact (hf b hb).1
  · intro X hP hw hK hc i pins s σ H E I hf st hg
    subst hP hw hK
    obtain ⟨⟨old, he⟩, hit, hne⟩ := st
    obtain ⟨xs, hq, hx⟩ := hg
    obtain ⟨its, rv, p, hz⟩ := I.tuple hq
    obtain ⟨f0, f1, f2, f3, f4, f5⟩ := hf it (by simp)
    have hl := rv.length
    have hh : X.A.in1.in1.handled = none := I.ok.hd hc
    have hai : a ≠ it := by
      rintro rfl
      obtain ⟨o, ho, hcl, _⟩ := p
      obtain ⟨o', ho', hcl', _⟩ := hit
      rw [ho] at ho'
      obtain rfl := Option.some.inj ho'
      rw [hcl] at hcl'
      exact absurd hcl' (by decide)
    unfold pyNext
    have hTy : s.TypeIs (.ref e) "enumerate" := ⟨_, he, rfl⟩
    refine wpAny_bind (wpAny_attempt (wpAny_callSpecial?_slot (name := Str.ofString "__next__") hTy F.slot_enumerate_next
      (wpAny_call_entry F.slot_enumerate_next hTy F.entry_enumerate_next ?_ (F.args_enumerate_next_1 _))))
    show wpAny _ _ (field (.ref e) 2 >>= _) _ _ _
    refine wpAny_bind (wpAny_field he rfl (x := .ref it) rfl ?_)
    refine wpAny_bind (wpAny_nextOf_tuple_end hh hit p (by simp; omega) ?_)
    rintro h' x he' ⟨o, ho, hcl⟩
    refine wpAny_bind (wpAny_isInstance (T := "StopIteration") (b := true) ⟨o, ho, hcl⟩ isSubtype_stop (wpAny_pure ?_))
    exact ⟨rfl, I.turned (t' := s.toks) (fun b o hb q => he' b o hb q) f0 f1 f3 f4 f5⟩
  · intro A i s Q E st h
    obtain ⟨⟨_, he⟩, _⟩ := st
    exact wpAny_pyIter_enum he h
def iEnT (K : PySem.W.Frag) (ta : TA) : TI := fun σ H R => ta σ H fun vs H1 => ∃ a xs, vs = [.ref a] ∧ SqT K H1 a xs ∧ R (ItE K a) H1
theorem pi_enumT {X : Cx} {e : Expr} {ta : TA} {p pos tpos : Pos} {elts : List Expr} {kk : Nat} (hg : Gl X "enumerate")
    (hm : X.mg "enumerate" = none) (ha : PA X [e] ta) (hs : starEach [e] X.env = [(false, eval e X.env)] := by rfl) :
    PI X (.Tuple elts kk tpos) (.Call (.Name "enumerate" p) [e] [] pos) (iEnT X.K ta) := by
  constructor
  intro pins s σ H R I h
  refine Call_ (ld_blt I hg hm boot_enumerate (PyProof.Rows.callWith_type1 (thn (ha.run pos pins s σ H _ I h) ?_) hs rfl))
  rintro us s1 ⟨vs, H1, I1, r1, a, xs, rfl, hq, q⟩
  obtain ⟨u, rfl, rfl⟩ := vals1 r1
  obtain ⟨its, rv, p', hz⟩ := I1.tuple hq
  refine sg_call_enum p' ?_
  intro h' he hit hk
  refine wpAny_pyIter_enum he ?_
  have I2 : Inv X pins σ H1 { s1 with heap := h' } := I1.kept (t' := s1.toks) hk
  refine ⟨s1.heap.objs.size + 1, [s1.heap.objs.size + 1, s1.heap.objs.size], _, _, H1, rfl, I2,
    turn_enumT a (s1.heap.objs.size + 1) s1.heap.objs.size, ⟨⟨.none, he⟩, hit, Nat.succ_ne_self _⟩, ?_, q⟩
  intro b hb
  have hle : s1.heap.objs.size ≤ b := by
    have e' : b = s1.heap.objs.size + 1 ∨ b = s1.heap.objs.size := by simpa using hb
    rcases e' with rfl | rfl
    · exact Nat.le_succ _
    · exact Nat.le_refl _
  exact I1.fpOk hle (I1.hok.fresh hle)
end Sg
set_option Elab.async false
set_option linter.all false
set_option maxRecDepth 100000
set_option maxHeartbeats 4000000
namespace Sg
open PySem PySem.Spec PyProof.Rows L2
/-! ## [c for a in t for b in a for c in b], tuples all the way down -/
/-- slots that agree but for those of ws -/
def Ag (ws : List Nat) (σ σ' : L2.St) : Prop := σ'.length = σ.length ∧ ∀ j, j ∉ ws → σ'[j]? = σ[j]?
theorem Ag.refl (ws : List Nat) (σ : L2.St) : Ag ws σ σ := ⟨rfl, fun _ _ => rfl⟩
theorem Ag.trans {ws : List Nat} {a b c : L2.St} (h : Ag ws a b) (k : Ag ws b c) : Ag ws a c := ⟨k.1.trans h.1, fun j hj => (k.2 j hj).trans (h.2 j hj)⟩
theorem Ag.set {ws : List Nat} {σ : L2.St} {k : Nat} {v : Option V} (hk : k ∈ ws) : Ag ws σ (σ.set k v) := ⟨List.length_set, fun j hj => by
  rw [List.getElem?_set_ne]
  rintro rfl
  exact hj hk⟩
theorem Ag.mono {ws us : List Nat} {σ σ' : L2.St} (h : Ag ws σ σ') (k : ∀ j ∈ ws, j ∈ us) : Ag us σ σ' := ⟨h.1, fun j hj => h.2 j fun z => hj (k j z)⟩
/-! ### the three clauses -/
end Sg
set_option Elab.async false
set_option linter.all false
set_option maxRecDepth 100000
set_option maxHeartbeats 4000000
namespace Sg
open PySem PySem.Spec PyProof.Rows L2
/-- cells are tuples; xs are all their items -/
inductive FlatL (K : PySem.W.Frag) (H : Hp) : List V → List V → Prop
  | nil : FlatL K H [] []
  | cons {a : Addr} {ys cells xs : List V} : SqT K H a ys → FlatL K H cells xs → FlatL K H (.ref a :: cells) (ys ++ xs)
/-- rows are tuples of tuples; xs are all the items of these -/
inductive FlatR (K : PySem.W.Frag) (H : Hp) : List V → List V → Prop
  | nil : FlatR K H [] []
  | cons {a : Addr} {cells ys rows xs : List V} : SqT K H a cells → FlatL K H cells ys → FlatR K H rows xs → FlatR K H (.ref a :: rows) (ys ++ xs)
section
variable {K : PySem.W.Frag} {H : Hp}
theorem FlatL.snoc {a : Addr} {ys : List V} (h : SqT K H a ys) : ∀ {cells xs : List V}, FlatL K H cells xs → FlatL K H (cells ++ [.ref a]) (xs ++ ys)
  | _, _, .nil => by have z := FlatL.cons h .nil; rwa [List.append_nil] at z
  | _, _, .cons h1 r => by rw [List.append_assoc]; exact .cons h1 (FlatL.snoc h r)
theorem FlatR.snoc {a : Addr} {cells ys : List V} (h : SqT K H a cells) (hl : FlatL K H cells ys) : ∀ {rows xs : List V}, FlatR K H rows xs → FlatR K H (rows ++ [.ref a]) (xs ++ ys)
  | _, _, .nil => by have z := FlatR.cons h hl .nil; rwa [List.append_nil] at z
  | _, _, .cons h1 h2 r => by rw [List.append_assoc]; exact .cons h1 h2 (FlatR.snoc h hl r)
theorem FlatL.same {H' : Hp} (e : Same H H') : ∀ {cells xs : List V}, FlatL K H cells xs → FlatL K H' cells xs
  | _, _, .nil => .nil
  | _, _, .cons h r => .cons (h.imp (fun z => z.imp (e _ _) fun ⟨o, z⟩ => ⟨o, e _ _ z⟩) id) (FlatL.same e r)
theorem FlatR.same {H' : Hp} (e : Same H H') : ∀ {rows xs : List V}, FlatR K H rows xs → FlatR K H' rows xs
  | _, _, .nil => .nil
  | _, _, .cons h l r => .cons (h.imp (fun z => z.imp (e _ _) fun ⟨o, z⟩ => ⟨o, e _ _ z⟩) id) (FlatL.same e l) (FlatR.same e r)
end
end Sg
set_option Elab.async false
set_option linter.all false
set_option maxRecDepth 100000
set_option maxHeartbeats 4000000
set_option Elab.async false
set_option linter.all false
set_option maxRecDepth 100000
set_option maxHeartbeats 4000000
namespace Sg
open PySem PySem.Spec PyProof.Rows L2
/-! ## max with a default -/
/-! ## operators of one's own -/
section
variable {X : Cx} {k : Nat} {C g : Addr} {fd : FuncData} {ps : List Str} {sp : Sp}
/-- an instance of C -/
def InsAt (H : Hp) (C a : Addr) : Prop := ∃ dx fs, H a = some (.ins C dx fs)
end
end Sg
set_option Elab.async false
set_option linter.all false
set_option maxRecDepth 100000
set_option maxHeartbeats 4000000
set_option Elab.async false
set_option linter.all false
set_option maxRecDepth 100000
set_option maxHeartbeats 4000000
set_option Elab.async false
set_option linter.all false
set_option maxRecDepth 100000
set_option maxHeartbeats 4000000
set_option Elab.async false
set_option linter.all false
set_option maxRecDepth 100000
set_option maxHeartbeats 4000000
set_option Elab.async false
set_option linter.all false
set_option maxRecDepth 100000
set_option maxHeartbeats 4000000
set_option Elab.async false
set_option linter.all false
set_option maxRecDepth 100000
set_option maxHeartbeats 4000000
namespace Sg
open PySem PySem.Spec PyProof.Rows L2
/-! ## heaps -/
/-- all but p is as it was -/
def But (p : Addr) (H H' : Hp) : Prop := ∀ q o, q ≠ p → H q = some o → H' q = some o
theorem But.refl (p : Addr) (H : Hp) : But p H H := fun _ _ _ h => h
theorem But.trans {p : Addr} {H H1 H2 : Hp} (a : But p H H1) (b : But p H1 H2) : But p H H2 := fun q o n h => b q o n (a q o n h)
theorem But.of {p : Addr} {H H' : Hp} (a : Same H H') : But p H H' := fun q o _ h => a q o h
theorem But.upd {p : Addr} {H : Hp} {o : HO} : But p H (upd H p o) := fun q u n h => by rw [upd_ne n]; exact h
theorem same_new {H : Hp} {p : Addr} {o : HO} (h : H p = none) : Same H (upd H p o) := fun b x e => by
  rw [upd_ne (ne_of_none e h)]
  exact e
/-- what is new behind a But is new ahead -/
theorem But.free {p q : Addr} {H H' : Hp} {u : HO} (e : But p H H') (hp : H p = some u) (hp' : ∃ v, H' p = some v) (h : H' q = none) : H q = none := by
  by_cases n : q = p
  · subst n
    obtain ⟨v, hv⟩ := hp'
    rw [hv] at h
    exact nomatch h
  · rcases z : H q with _ | o
    · rfl
    · rw [e q o n z] at h
      exact nomatch h
theorem But.tup {K : PySem.W.Frag} {p : Addr} {H H' : Hp} {a : Addr} {xs ys : List V} (e : But p H H') (hp : H p = some (.lst ys)) (h : SqT K H a xs) : SqT K H' a xs := by
  rcases h with (h | ⟨o, h⟩) | h
  · exact .inl (.inl (e _ _ (ne_of h hp (fun z => nomatch z)) h))
  · exact .inl (.inr ⟨o, e _ _ (ne_of h hp (fun z => nomatch z)) h⟩)
  · exact .inr h
theorem Same.tup {K : PySem.W.Frag} {H H' : Hp} {a : Addr} {xs : List V} (e : Same H H') (h : SqT K H a xs) : SqT K H' a xs := by
  rcases h with (h | ⟨o, h⟩) | h
  · exact .inl (.inl (e _ _ h))
  · exact .inl (.inr ⟨o, e _ _ h⟩)
  · exact .inr h
/-- a pen at p -/
def PenAt (H : Hp) (p : Addr) : Prop := ∃ a b c : Int, H p = some (.lst [.int a, .int b, .int c]) ∧ 0 ≤ b ∧ b < 2147483648
theorem PenAt.same {H H' : Hp} {p : Addr} (h : PenAt H p) (e : Same H H') : PenAt H' p := by
  obtain ⟨a, b, c, h1, h2⟩ := h
  exact ⟨a, b, c, e _ _ h1, h2⟩
theorem PenAt.tup {K : PySem.W.Frag} {p : Addr} {H H' : Hp} {a : Addr} {xs : List V} (h : PenAt H p) (e : But p H H') (q : SqT K H a xs) : SqT K H' a xs := by
  obtain ⟨_, _, _, h1, _⟩ := h
  exact e.tup h1 q
theorem PenAt.free {p q : Addr} {H H' : Hp} (h : PenAt H p) (h' : PenAt H' p) (e : But p H H') (n : H' q = none) : H q = none := by
  obtain ⟨_, _, _, h1, _⟩ := h
  obtain ⟨_, _, _, h2, _⟩ := h'
  exact e.free h1 ⟨_, h2⟩ n
theorem atI0 {x : V} {r : List V} : atI (x :: r) 0 = some x := atI_nat (j := 0) rfl
theorem atI1 {x y : V} {r : List V} : atI (x :: y :: r) 1 = some y := atI_nat (j := 1) rfl
theorem atI2 {x y z : V} {r : List V} : atI (x :: y :: z :: r) 2 = some z := atI_nat (j := 2) rfl
end Sg
set_option Elab.async false
set_option linter.all false
set_option maxRecDepth 100000
set_option maxHeartbeats 4000000
namespace Sg
open PySem PySem.Spec PyProof.Rows L2
/-! ## the mathematics of bars -/
/-- a work, as its items -/
structure IsWork (ns : List Int) : Prop where
  pos : 1 ≤ ns.length
  most : ns.length ≤ 60
  items : ∀ x ∈ ns, -1 ≤ x ∧ x ≤ 9
  head : ∀ x, ns[0]? = some x → x ≠ -1
  last : ∀ x, ns[ns.length - 1]? = some x → x ≠ -1
/-- a piece of other, d ticks behind one of one, clashes with it -/
def clashB (one other : List Int) (d : Nat) : Bool := ((one.drop d).zip other).any fun p => p.1 == p.2 && p.1 != -1
def barsN (one other : List Int) : List Nat := (List.range' 1 (one.length - 1)).filter (clashB one other)
/-! ### lists step by step -/
end Sg
set_option Elab.async false
set_option linter.all false
set_option maxRecDepth 100000
set_option maxHeartbeats 4000000
namespace Sg
open PySem PySem.Spec PyProof.Rows L2
theorem walk_zipT {K : PySem.W.Frag} {a b : Addr} {xs ys : List V} {n : Nat} (hn : n = min xs.length ys.length) :
    Walk (RZ.ItzT K a b) n (fun H => SqT K H a xs ∧ SqT K H b ys) (YPair (fun i => xs[i]?) (fun i => ys[i]?)) := by
  subst hn
  constructor
  · intro i H hi q
    have h1 : i < xs.length := by omega
    have h2 : i < ys.length := by omega
    exact ⟨xs, ys, xs[i], ys[i], q.1, q.2, List.getElem?_eq_getElem h1, List.getElem?_eq_getElem h2⟩
  · intro H q
    exact ⟨xs, ys, q.1, q.2, by omega⟩
  · rintro i H v H' hi q ⟨T, x, z, h1, h2, h3, h4, h5⟩
    exact ⟨T, x, z, h1, h2, h3, h4 xs q.1, h5 ys q.2⟩
theorem walk_enumT {K : PySem.W.Frag} {a : Addr} {xs : List V} :
    Walk (ItE K a) xs.length (fun H => SqT K H a xs) (YPair (fun i => some (.int (i : Nat))) (fun i => xs[i]?)) := by
  constructor
  · intro i H hi q
    exact ⟨xs, xs[i], q, List.getElem?_eq_getElem hi⟩
  · intro H q
    exact ⟨xs, q, Nat.le_refl _⟩
  · rintro i H v H' hi q ⟨T, x, h1, h2, h3, h4⟩
    exact ⟨T, .int (i : Nat), x, h1, h2, h3, rfl, h4 xs q⟩
theorem cut_from (xs : List V) (d : Nat) : cutV xs (some (d : Int)) none = xs.drop d := by
  unfold cutV
  rw [HT.sIx_nat, HT.sIx_none]
  rcases Nat.le_total d xs.length with h | h
  · rw [Nat.min_eq_left h]
    exact List.take_of_length_le (by rw [List.length_drop]; exact Nat.le_refl _)
  · rw [Nat.min_eq_right h, List.drop_of_length_le (Nat.le_refl _), List.drop_of_length_le h]
    exact List.take_nil
section
variable {P : Program} {w : World} {K : PySem.W.Frag} {mg : Str → Option Value} {base : Heap}
theorem tyT {H : Hp} {a : Addr} {xs : List V} (h : SqT K H a xs) : TyX K H (.ref a) (.type "tuple") := by
  rcases h with (h | ⟨o, h⟩) | ⟨o, _, _, h, hc, _⟩
  · exact .base (.tup h)
  · exact .fTuple h
  · exact .kTuple h hc
/-- the module's numbers -/
structure Nums (mg : Str → Option Value) : Prop where
  nowhere : ∃ t, mg "NOWHERE" = some (.int (-1) t)
  stations : ∃ t, mg "STATIONS" = some (.int 10 t)
  most : ∃ t, mg "MOST_ITEMS" = some (.int 60 t)
def inR (x : Int) : Bool := decide (-1 ≤ x) && decide (x ≤ 9)
end
end Sg
set_option Elab.async false
set_option linter.all false
set_option maxRecDepth 100000
set_option maxHeartbeats 4000000
namespace Sg
open PySem PySem.Spec PyProof.Rows L2
/-! ## data that is shown -/
/-- data made of small ints, in lists and tuples, no deeper than n, of bulk b at most -/
structure Small (d : PyData) (n b : Nat) : Prop where
  sh : d.showable = true
  nd : d.hasDict = false
  dp : d.depth ≤ n
  lv : d.leavesShort 15 = true
  bk : d.bulk ≤ b
  ly : d.canLay0 = true
structure SmallAll (ds : List PyData) (n b : Nat) : Prop where
  sh : PyData.showableAll ds = true
  nd : PyData.hasDictAll ds = false
  dp : PyData.depthAll ds ≤ n
  lv : PyData.leavesShortAll 15 ds = true
  bk : PyData.bulkAll ds ≤ b
  ly : PyData.canLayAll0 ds = true
theorem Small.shaped {d : PyData} {n b : Nat} (h : Small d n b) (hn : n ≤ 64) : SeqAt.shaped d = true := by
  unfold SeqAt.shaped
  rw [h.ly, decide_eq_true (Nat.le_trans h.dp hn)]
  rfl
theorem Small.list {ds : List PyData} {n b : Nat} (h : SmallAll ds n b) : Small (.list ds) (n + 1) b :=
  ⟨by simpa only [PyData.showable] using h.sh, by simpa only [PyData.hasDict] using h.nd, by simpa only [PyData.depth] using Nat.succ_le_succ h.dp,
    by simpa only [PyData.leavesShort] using h.lv, by simpa only [PyData.bulk] using h.bk, by simpa only [PyData.canLay0] using h.ly⟩
theorem Small.tuple {ds : List PyData} {n b : Nat} (h : SmallAll ds n b) : Small (.tuple ds) (n + 1) b :=
  ⟨by simpa only [PyData.showable] using h.sh, by simpa only [PyData.hasDict] using h.nd, by simpa only [PyData.depth] using Nat.succ_le_succ h.dp,
    by simpa only [PyData.leavesShort] using h.lv, by simpa only [PyData.bulk] using h.bk, by simpa only [PyData.canLay0] using h.ly⟩
theorem SmallAll.nil {n b : Nat} : SmallAll [] n b := ⟨by simp only [PyData.showableAll], by simp only [PyData.hasDictAll], by simp only [PyData.depthAll]; exact Nat.zero_le _,
  by simp only [PyData.leavesShortAll], by simp only [PyData.bulkAll]; exact Nat.zero_le _, by simp only [PyData.canLayAll0]⟩
theorem SmallAll.cons {d : PyData} {ds : List PyData} {n b c : Nat} (h : Small d n b) (r : SmallAll ds n c) : SmallAll (d :: ds) n (b + 1 + c) :=
  ⟨by simp only [PyData.showableAll, h.sh, r.sh, Bool.and_self], by simp only [PyData.hasDictAll, h.nd, r.nd, Bool.or_self], by simp only [PyData.depthAll]; exact Nat.max_le.mpr ⟨h.dp, r.dp⟩,
    by simp only [PyData.leavesShortAll, h.lv, r.lv, Bool.and_self], by simp only [PyData.bulkAll]; have h1 := h.bk; have h2 := r.bk; omega, by simp only [PyData.canLayAll0, h.ly, r.ly, Bool.and_self]⟩
theorem Small.int {i : Int} {n b : Nat} (h1 : -99999999999999 ≤ i) (h2 : i ≤ 99999999999999) : Small (.int i) n b := by
  refine ⟨?_, by simp only [PyData.hasDict], by simp only [PyData.depth]; exact Nat.zero_le _, ?_, by simp only [PyData.bulk]; exact Nat.zero_le _, by simp only [PyData.canLay0]⟩
  · simp only [PyData.showable, decide_eq_true_eq]
    have h3 : i.natAbs < 2 ^ 47 := by omega
    have h4 := PySem.Flt.log2_lt_of (show 0 < 47 by decide) h3
    omega
  · simp only [PyData.leavesShort, decide_eq_true_eq]
    have h6 : i.natAbs < 10 ^ 14 := by
      have e : (10 : Nat) ^ 14 = 100000000000000 := by decide
      rw [e]
      omega
    have h5 := int_text_length_le10 (k := 14) (by decide) h6
    show (Str.ofString (toString i)).length ≤ 15
    rw [PySem.ofString_length]
    exact h5
theorem Small.mono {d : PyData} {n m b c : Nat} (h : Small d n b) (hn : n ≤ m) (hb : b ≤ c) : Small d m c := ⟨h.sh, h.nd, Nat.le_trans h.dp hn, h.lv, Nat.le_trans h.bk hb, h.ly⟩
theorem SmallAll.mono {d : List PyData} {n m b c : Nat} (h : SmallAll d n b) (hn : n ≤ m) (hb : b ≤ c) : SmallAll d m c := ⟨h.sh, h.nd, Nat.le_trans h.dp hn, h.lv, Nat.le_trans h.bk hb, h.ly⟩
abbrev iD (ns : List Int) : List PyData := ns.map PyData.int
theorem SmallAll.ints {n : Nat} : ∀ (ns : List Int), (∀ x ∈ ns, -99999999999999 ≤ x ∧ x ≤ 99999999999999) → SmallAll (iD ns) n ns.length
  | [], _ => .nil
  | x :: r, h => by
    have h1 := h x List.mem_cons_self
    have h2 := SmallAll.cons (Small.int (n := n) (b := 0) h1.1 h1.2) (SmallAll.ints r fun y hy => h y (List.mem_cons_of_mem _ hy))
    exact h2.mono (Nat.le_refl _) (by show 0 + 1 + r.length ≤ r.length + 1; omega)
abbrev nI (l : List Nat) : List Int := l.map fun d => ((d : Nat) : Int)
section
variable {P : Program} {w : World} {K : PySem.W.Frag} {mg : Str → Option Value} {base : Heap}
/-! ### _law_same -/
def spSame (K : PySem.W.Frag) : Sp := fun vs H Q _ => ∃ (a b : Addr) (d : PyData), vs = [.ref a, .ref b] ∧ Dp K H (.ref a) d ∧ Dp K H (.ref b) d ∧ Shows d ∧ Q (.bl true) H
theorem PenAt.upd {H : Hp} {p q : Addr} {o : HO} (h : PenAt H p) (n : p ≠ q) : PenAt (upd H q o) p := by
  obtain ⟨a, b, c, h1, h2⟩ := h
  exact ⟨a, b, c, by rw [upd_ne n]; exact h1, h2⟩
theorem PenAt.ne {H : Hp} {p q : Addr} (h : PenAt H p) (n : H q = none) : p ≠ q := by
  obtain ⟨a, b, c, h1, _⟩ := h
  exact ne_of_none h1 n
end
end Sg
set_option Elab.async false
set_option linter.all false
set_option maxRecDepth 100000
set_option maxHeartbeats 4000000
namespace Sg
open PySem PySem.Spec PyProof.Rows L2
/-! ## data of ints and tuples alone -/
section
variable {K : PySem.W.Frag} {H H' : Hp}
mutual
inductive Tp (K : PySem.W.Frag) (H : Hp) : V → PyData → Prop
  | int (i : Int) : Tp K H (.int i) (.int i)
  | tu {a : Addr} {xs : List V} {ds : List PyData} : SqT K H a xs → TpAll K H xs ds → Tp K H (.ref a) (.tuple ds)
inductive TpAll (K : PySem.W.Frag) (H : Hp) : List V → List PyData → Prop
  | no : TpAll K H [] []
  | on {v : V} {vs : List V} {d : PyData} {ds : List PyData} : Tp K H v d → TpAll K H vs ds → TpAll K H (v :: vs) (d :: ds)
end
mutual
theorem Tp.dp : ∀ {v : V} {d : PyData}, Tp K H v d → Dp K H v d
  | _, _, .int i => .int i
  | _, _, .tu h r => .tup h (TpAll.dp r)
theorem TpAll.dp : ∀ {v : List V} {d : List PyData}, TpAll K H v d → DpAll K H v d
  | _, _, .no => .nil
  | _, _, .on a r => .cons (Tp.dp a) (TpAll.dp r)
end
/-- all tuples and all instances are as they were -/
structure St (K : PySem.W.Frag) (H H' : Hp) : Prop where
  tu : ∀ a xs, SqT K H a xs → SqT K H' a xs
  ob : ∀ a C dx fs, H a = some (.ins C dx fs) → H' a = some (.ins C dx fs)
theorem St.refl : St K H H := ⟨fun _ _ h => h, fun _ _ _ _ h => h⟩
theorem St.trans {H2 : Hp} (a : St K H H') (b : St K H' H2) : St K H H2 := ⟨fun _ _ h => b.tu _ _ (a.tu _ _ h), fun _ _ _ _ h => b.ob _ _ _ _ (a.ob _ _ _ _ h)⟩
theorem St.of (e : Same H H') : St K H H' := ⟨fun _ _ h => Same.tup e h, fun _ _ _ _ h => e _ _ h⟩
theorem St.but {p : Addr} {ys : List V} (e : But p H H') (hp : H p = some (.lst ys)) : St K H H' :=
  ⟨fun _ _ h => But.tup e hp h, fun a C dx fs h => e _ _ (fun z => by rw [z, hp] at h; exact nomatch h) h⟩
mutual
theorem Tp.stay (e : St K H H') : ∀ {v : V} {d : PyData}, Tp K H v d → Tp K H' v d
  | _, _, .int i => .int i
  | _, _, .tu h r => .tu (e.tu _ _ h) (TpAll.stay e r)
theorem TpAll.stay (e : St K H H') : ∀ {v : List V} {d : List PyData}, TpAll K H v d → TpAll K H' v d
  | _, _, .no => .no
  | _, _, .on a r => .on (Tp.stay e a) (TpAll.stay e r)
end
theorem TpAll.len : ∀ {vs : List V} {ds : List PyData}, TpAll K H vs ds → vs.length = ds.length
  | _, _, .no => rfl
  | _, _, .on _ r => congrArg (· + 1) (TpAll.len r)
theorem TpAll.at : ∀ {vs : List V} {ds : List PyData} {i : Nat} {v : V}, TpAll K H vs ds → vs[i]? = some v → ∃ d, ds[i]? = some d ∧ Tp K H v d
  | _, _, 0, _, .on a _, e => by cases e; exact ⟨_, rfl, a⟩
  | _, _, i + 1, _, .on _ r, e => TpAll.at (i := i) r e
theorem TpAll.add : ∀ {vs us : List V} {ds es : List PyData}, TpAll K H vs ds → TpAll K H us es → TpAll K H (vs ++ us) (ds ++ es)
  | _, _, _, _, .no, b => b
  | _, _, _, _, .on a r, b => .on a (TpAll.add r b)
theorem TpAll.ints : ∀ (ns : List Int), TpAll K H (ns.map V.int) (iD ns)
  | [] => .no
  | x :: r => .on (.int x) (TpAll.ints r)
theorem Tp.ofInts {a : Addr} {ns : List Int} (h : SqT K H a (ns.map V.int)) : Tp K H (.ref a) (.tuple (iD ns)) := .tu h (TpAll.ints ns)
end
/-! ## lines -/
/-- one to three works -/
structure GoodL (ws : List (List Int)) : Prop where
  least : 1 ≤ ws.length
  few : ws.length ≤ 3
  work : ∀ w ∈ ws, IsWork w
abbrev tD (ns : List Int) : PyData := .tuple (iD ns)
abbrev tDs (ws : List (List Int)) : List PyData := ws.map tD
abbrev cellD (a b : List Int) : PyData := tD (nI (barsN a b))
abbrev rowD (a : List Int) (ws : List (List Int)) : PyData := .tuple (ws.map (cellD a))
abbrev barD (ws : List (List Int)) : List PyData := ws.map fun a => rowD a ws
/-- the bars of all, row by row -/
def rowB (a : List Int) (ws : List (List Int)) : List Int := ws.flatMap fun b => nI (barsN a b)
def allB (ws vs : List (List Int)) : List Int := ws.flatMap fun a => rowB a vs
/-- the greatest, or 0 -/
structure Top (l : List Int) (m : Int) : Prop where
  pos : 0 ≤ m
  le : ∀ x ∈ l, x ≤ m
  eq : m = 0 ∨ m ∈ l
/-! ### the object -/
def lf (t b : Addr) (r : Int) : List (Str × V) := putF "_reach" (.int r) (putF "_bars" (.ref b) (putF "_works" (.ref t) []))
theorem k1 : ¬ (("_works" : Str) = "_bars") := by decide +kernel
theorem k2 : ¬ (("_works" : Str) = "_reach") := by decide +kernel
theorem k3 : ¬ (("_bars" : Str) = "_reach") := by decide +kernel
/-- a Line of these works stands at a -/
def LineAt (K : PySem.W.Frag) (C : Addr) (H : Hp) (a : Addr) (ws : List (List Int)) : Prop :=
  ∃ (dx t b : Addr) (r : Int), H a = some (.ins C dx (lf t b r)) ∧ Tp K H (.ref t) (.tuple (tDs ws)) ∧ Tp K H (.ref b) (.tuple (barD ws)) ∧ Top (allB ws ws) r ∧ GoodL ws
theorem LineAt.ins {K : PySem.W.Frag} {C a : Addr} {H : Hp} {ws : List (List Int)} (h : LineAt K C H a ws) : InsAt H C a := by
  obtain ⟨dx, t, b, r, h1, _⟩ := h
  exact ⟨_, _, h1⟩
theorem LineAt.stay {K : PySem.W.Frag} {C a : Addr} {H H' : Hp} {ws : List (List Int)} (e : St K H H') (h : LineAt K C H a ws) : LineAt K C H' a ws := by
  obtain ⟨dx, t, b, r, h1, h2, h3, h4, h5⟩ := h
  exact ⟨dx, t, b, r, e.ob _ _ _ _ h1, h2.stay e, h3.stay e, h4, h5⟩
end Sg
set_option Elab.async false
set_option linter.all false
set_option maxRecDepth 100000
set_option maxHeartbeats 4000000
namespace Sg
open PySem PySem.Spec PyProof.Rows L2
theorem call_tuple_ofK {X : Cx} {K : PySem.W.Frag} (hK : X.K = K) : CallR X (.type "tuple") (fun xs H Q => ∃ p ys, xs = [.ref p] ∧ ((SqL K H p ys ∧ ∀ l, H l = none → Q (.ref l) (upd H l (.tup ys))) ∨ (SqT K H p ys ∧ Q (.ref p) H))) := by
  subst hK; exact call_tuple_of
/-! ## a list of tuple data that grows -/
def Grow (K : PySem.W.Frag) (H1 : Hp) (D : Addr) (ds : List PyData) (i : Nat) (H' : Hp) : Prop := Same H1 H' ∧ ∃ acc, H' D = some (.lst acc) ∧ TpAll K H' acc (ds.take i)
theorem Grow.next {K : PySem.W.Frag} {H1 H' H'' : Hp} {D : Addr} {ds : List PyData} {i : Nat} {d : PyData} {v : V} (hD : H1 D = none) (hz : ds.length ≤ 1000) (h : Grow K H1 D ds i H') (e : Same H' H'') (hd : ds[i]? = some d) (t : Tp K H'' v d) :
    ∃ acc, H'' D = some (.lst acc) ∧ acc.length < sizeLine ∧ Grow K H1 D ds (i + 1) (upd H'' D (.lst (acc ++ [v]))) := by
  obtain ⟨s1, acc, h1, h2⟩ := h
  have hD2 := e _ _ h1
  have st : St K H'' (upd H'' D (.lst (acc ++ [v]))) := .but (.upd) hD2
  refine ⟨acc, hD2, ?_, fun b o q => ?_, _, upd_same, ?_⟩
  · have z := h2.len
    have z2 : i < ds.length := (List.getElem?_eq_some_iff.mp hd).1
    rw [List.length_take] at z
    exact small1000 (by omega)
  · rw [upd_ne (ne_of_none q hD)]
    exact e _ _ (s1 _ _ q)
  · rw [List.take_add_one, hd]
    exact ((h2.stay (.of e)).stay st).add (.on (t.stay st) .no)
theorem Tp.new {K : PySem.W.Frag} {H : Hp} {l : Addr} {acc : List V} {ds : List PyData} (nl : H l = none) (t : TpAll K H acc ds) : Tp K (upd H l (.tup acc)) (.ref l) (.tuple ds) :=
  .tu (.of upd_same) (t.stay (.of (same_new nl)))
theorem GoodL.mem {ws : List (List Int)} (h : GoodL ws) {i : Nat} {w : List Int} (e : ws[i]? = Option.some w) : IsWork w := h.work w (List.mem_of_getElem? e)
end Sg
set_option Elab.async false
set_option linter.all false
set_option maxRecDepth 100000
set_option maxHeartbeats 4000000
set_option Elab.async false
set_option linter.all false
set_option maxRecDepth 100000
set_option maxHeartbeats 4000000
namespace Sg
open PySem PySem.Spec PyProof.Rows L2
theorem tup_upd {K : PySem.W.Frag} {H : Hp} {p a : Addr} {xs : List V} {u o : HO} (hp : H p = some u) (hu : ∀ ys, HO.tup ys ≠ u) (hv : ∀ ob ys, HO.frz ob (.tup ys) ≠ u) (h : SqT K H a xs) : SqT K (upd H p o) a xs := by
  rcases h with (h | ⟨ob, h⟩) | h
  · exact .inl (.inl (by rw [upd_ne (ne_of h hp (hu _))]; exact h))
  · exact .inl (.inr ⟨ob, by rw [upd_ne (ne_of h hp (hv _ _))]; exact h⟩)
  · exact .inr h
theorem ixN_nat {n j : Nat} (h : j < n) : ixN n (j : Int) = some j := by
  unfold ixN
  rw [if_pos (by omega), if_pos (by omega), Int.toNat_natCast]
theorem eraseIdx_map {f : Int → V} : ∀ (l : List Int) (j : Nat), (l.map f).eraseIdx j = (l.eraseIdx j).map f
  | [], _ => by simp
  | _ :: _, 0 => by simp
  | a :: r, j + 1 => by
    rw [List.map_cons, List.eraseIdx_cons_succ, List.eraseIdx_cons_succ, List.map_cons, eraseIdx_map r j]
theorem PenAt.new {H : Hp} {p l : Addr} {o : HO} (h : PenAt H p) (n : H l = none) : PenAt (L2.upd H l o) p := h.upd (h.ne n)
theorem cut_to (xs : List V) (d : Nat) : cutV xs none (some (d : Int)) = xs.take d := by
  unfold cutV
  rw [HT.sIx_nat, HT.sIx_none]
  show (xs.drop 0).take (min d xs.length - 0) = _
  rw [List.drop_zero, Nat.sub_zero]
  rcases Nat.le_total d xs.length with h | h
  · rw [Nat.min_eq_left h]
  · rw [Nat.min_eq_right h, List.take_of_length_le h, List.take_of_length_le (Nat.le_refl _)]
theorem freeS {H H' : Hp} {t : Addr} (e : Same H H') (n : H' t = none) : H t = none := by
  rcases z : H t with _ | o
  · rfl
  · rw [e _ _ z] at n
    exact nomatch n
theorem cr_sumT {X : Cx} (hc : X.calm = true) : CallR X (.builtin "sum") (fun vs H Q => ∃ (a : Addr) (ns : List Int), vs = [.ref a] ∧ SqT X.K H a (ns.map V.int) ∧ Q (.int ns.sum) H) := by
  intro pins s σ H vs us Q I r h
  obtain ⟨a, ns, rfl, hs, q⟩ := h
  obtain ⟨its, rv, ht, hz⟩ := I.tuple hs
  rw [Vals.ref1 r]
  obtain ⟨xs, e⟩ := rv.ints.allInts.items
  have hn : numsOf (intItems xs).toList = ns := by rw [← e]; exact rv.ints.numsOf
  rw [nums_intItems] at hn
  rw [e] at ht
  refine PySem.W.ktm_sumG (I.ok.hd hc) ht fun h' tk t' hk => ?_
  refine ⟨.int ns.sum, H, I.kept hk, ⟨t', ?_⟩, q⟩
  rw [preSum_eq, List.take_of_length_le (by simp), hn]
end Sg
set_option Elab.async false
set_option linter.all false
set_option maxRecDepth 100000
set_option maxHeartbeats 4000000
namespace Sg
open PySem PySem.Spec PyProof.Rows L2
/-! ## how many different tuples of ints a list has -/
theorem nodup_len_le {α : Type} [DecidableEq α] : ∀ (l D : List α), l.Nodup → (∀ x ∈ l, x ∈ D) → l.length ≤ D.length
  | [], _, _, _ => Nat.zero_le _
  | x :: r, D, h, s => by
    obtain ⟨h1, h2⟩ := List.nodup_cons.mp h
    have hx := s x List.mem_cons_self
    have := nodup_len_le r (D.erase x) h2 fun y hy => (List.mem_erase_of_ne (fun e => h1 (by rw [← e]; exact hy))).mpr (s y (List.mem_cons_of_mem _ hy))
    rw [List.length_erase_of_mem hx] at this
    have := List.length_pos_of_mem hx
    rw [List.length_cons]
    omega
theorem shorter {α : Type} [DecidableEq α] : ∀ (l : List α), ¬ l.Nodup → ∃ m : List α, m.length < l.length ∧ ∀ x ∈ l, x ∈ m
  | [], h => absurd List.nodup_nil h
  | x :: r, h => by
    by_cases hx : x ∈ r
    · refine ⟨r, Nat.lt_succ_self _, fun y hy => ?_⟩
      rcases List.mem_cons.mp hy with rfl | hy
      · exact hx
      · exact hy
    · obtain ⟨m, h1, h2⟩ := shorter r fun z => h (List.nodup_cons.mpr ⟨hx, z⟩)
      refine ⟨x :: m, Nat.succ_lt_succ h1, fun y hy => ?_⟩
      rcases List.mem_cons.mp hy with rfl | hy
      · exact List.mem_cons_self
      · exact List.mem_cons_of_mem _ (h2 y hy)
theorem met_nodup {α : Type} [DecidableEq α] {M V : List α} (h : M.Nodup) (h1 : ∀ x ∈ M, x ∈ V) (h2 : ∀ x ∈ V, x ∈ M) : M.length = V.length ↔ V.Nodup := by
  constructor
  · intro e
    by_cases z : V.Nodup
    · exact z
    · obtain ⟨m, l1, l2⟩ := shorter V z
      have := nodup_len_le M m h fun x hx => l2 x (h1 x hx)
      omega
  · intro z
    exact Nat.le_antisymm (nodup_len_le M V h h1) (nodup_len_le V M z h2)
def tLenSetT (K : PySem.W.Frag) (ta : TE) : TE := fun σ H Q => ta σ H fun x H1 => ∃ (l : Addr) (ks : List (Addr × List Int)), x = .ref l ∧ SqL K H1 l (ks.map fun p => V.ref p.1) ∧ (∀ p ∈ ks, SqT K H1 p.1 (p.2.map V.int)) ∧ ks.length < 64 ∧
  ∀ n : Nat, (n = ks.length ↔ (ks.map (·.2)).Nodup) → Q (.int n) H1
theorem pe_lenSetT {X : Cx} {K : PySem.W.Frag} {a : Expr} {ta : TE} {p p2 q pos : Pos} (hK : X.K = K) (hu : X.A.units + 3 < cLine) (g1 : Gl X "len") (m1 : X.mg "len" = none) (g2 : Gl X "set") (m2 : X.mg "set" = none) (ha : PE X a ta) (hc : X.calm = true := by rfl)
    (na : starEach [a] X.env = (false, eval a X.env) :: starEach [] X.env := by rfl) : PE X (.Call (.Name "len" p) [.Call (.Name "set" p2) [a] [] q] [] pos) (tLenSetT K ta) := by
  subst hK
  constructor
  intro pins s σ H Q I h
  refine Call_ ?_
  apply ld_blt I g1 m1 boot_len
  apply callWith_builtin1 _ rfl rfl
  apply args_cons _ rfl
  refine Call_ ?_
  apply ld_blt I g2 m2 boot_set
  apply callWith_type1 _ na rfl
  apply args_cons _ na
  refine thn (ha.run pins s σ H _ I h) ?_
  rintro v s1 ⟨x, H1, I1, r1, l, ks, rfl, hq, hk, hl, q1⟩
  cases r1
  apply args_nil
  obtain ⟨its, rv, pl, hz⟩ := I1.list hq
  refine call_set_tups (P := X.prog) (w := X.w) ks (I1.ok.hd hc) pl.isList (by simpa using refs_of_vals rv) (fun p hp => I1.isT (hk p hp)) hl hu fun h' tk L es ep t R g k => ?_
  apply args_nil
  have I2 : Inv X pins σ H1 { s1 with heap := h', toks := tk } := I1.kept k
  obtain ⟨o, ho, hex, hd⟩ := R.ob
  have sz := SetTR.size (s := { s1 with heap := h', toks := tk }) R
  refine call_len_set ho hex hd (SetTR.fits (s := { s1 with heap := h', toks := tk }) R) (by rw [sz]; have := R.few; omega) ⟨.int (L.length : Nat), H1, I2.tok _, ⟨_, by rw [sz]⟩, q1 L.length ?_⟩
  have mn := met_nodup (M := L.map (·.2)) (V := ks.map (·.2)) R.nd (fun x hx => ?_) (fun x hx => ?_)
  · rw [List.length_map, List.length_map] at mn
    exact mn
  · obtain ⟨p, hp, rfl⟩ := List.mem_map.mp hx
    exact List.mem_map.mpr ⟨p, List.mem_of_mem_take (g.sub p hp), rfl⟩
  · obtain ⟨p, hp, rfl⟩ := List.mem_map.mp hx
    exact g.all p (by rw [List.take_length]; exact hp)
end Sg
set_option Elab.async false
set_option linter.all false
set_option maxRecDepth 100000
set_option maxHeartbeats 4000000
namespace Sg
open PySem PySem.Spec PyProof.Rows L2 StX
/-! ## data compared -/
theorem eqv_ints : ∀ (xs ys : List Int), PyData.eqvAll (iD xs) (iD ys) = decide (xs = ys)
  | [], [] => by simp [PyData.eqvAll]
  | [], _ :: _ => by simp [PyData.eqvAll]
  | _ :: _, [] => by simp [PyData.eqvAll]
  | x :: xs, y :: ys => by
    show PyData.eqvAll (.int x :: iD xs) (.int y :: iD ys) = _
    rw [PyData.eqvAll, eqv_ints xs ys, PyData.eqv]
    by_cases h : x = y
    · subst h; simp
    · simp [h]
theorem eqv_tD (xs ys : List Int) : PyData.eqv (tD xs) (tD ys) = decide (xs = ys) := by
  show PyData.eqv (.tuple (iD xs)) (.tuple (iD ys)) = _
  rw [PyData.eqv, eqv_ints]
theorem lay_iD : ∀ (xs : List Int), PyData.canLayAll0 (iD xs) = true
  | [] => by simp [PyData.canLayAll0]
  | x :: r => by
    show PyData.canLayAll0 (.int x :: iD r) = true
    rw [PyData.canLayAll0, lay_iD r, PyData.canLay0]; rfl
theorem dep_iD : ∀ (xs : List Int), PyData.depthAll (iD xs) = 0
  | [] => by simp [PyData.depthAll]
  | x :: r => by
    show PyData.depthAll (.int x :: iD r) = 0
    rw [PyData.depthAll, dep_iD r, PyData.depth]; rfl
theorem shaped_tD (xs : List Int) : SeqAt.shaped (tD xs) = true := by
  unfold SeqAt.shaped
  have a : (tD xs).canLay0 = true := by show PyData.canLay0 (.tuple (iD xs)) = true; rw [PyData.canLay0, lay_iD]
  have b : (tD xs).depth ≤ 64 := by show PyData.depth (.tuple (iD xs)) ≤ 64; rw [PyData.depth, dep_iD]; decide
  rw [a, decide_eq_true b]; rfl
end Sg
set_option Elab.async false
set_option linter.all false
set_option maxRecDepth 100000
set_option maxHeartbeats 4000000
set_option Elab.async false
set_option linter.all false
set_option maxRecDepth 100000
set_option maxHeartbeats 4000000
namespace Sg
open PySem PySem.Spec PyProof.Rows L2
/-! ## keys that are tuples of tuples -/
mutual
/-- the value v is the key k: an int, or a tuple of keys -/
inductive KeyAt (H : Hp) : NestedKey → V → Prop
  | int (i : Int) : KeyAt H (.num i) (.int i)
  | tup {a : Addr} {us : List V} {ks : List NestedKey} : H a = some (.tup us) → KeyAll H ks us → KeyAt H (.tup ks) (.ref a)
inductive KeyAll (H : Hp) : List NestedKey → List V → Prop
  | no : KeyAll H [] []
  | on {k : NestedKey} {v : V} {ks : List NestedKey} {us : List V} : KeyAt H k v → KeyAll H ks us → KeyAll H (k :: ks) (v :: us)
end
mutual
theorem KeyAt.keep {H H' : Hp} (e : ∀ a us, H a = some (.tup us) → H' a = some (.tup us)) : ∀ {k : NestedKey} {v : V}, KeyAt H k v → KeyAt H' k v
  | _, _, .int i => .int i
  | _, _, .tup h r => .tup (e _ _ h) (KeyAll.keep e r)
theorem KeyAll.keep {H H' : Hp} (e : ∀ a us, H a = some (.tup us) → H' a = some (.tup us)) : ∀ {ks : List NestedKey} {us : List V}, KeyAll H ks us → KeyAll H' ks us
  | _, _, .no => .no
  | _, _, .on a r => .on (KeyAt.keep e a) (KeyAll.keep e r)
end
mutual
theorem KeyAt.is {P : Program} {w : World} {H : Hp} {h : Heap} (ok : HOk P w H h) : ∀ {k : NestedKey} {v : V} {u : Value}, KeyAt H k v → RelV v u → NestedIs h k u
  | _, _, u, .int i, r => by
    obtain ⟨t, rfl⟩ := r
    exact .int i t
  | _, _, u, .tup (a := a) h' q, r => by
    obtain rfl : u = Value.ref a := r
    obtain ⟨_, its, rv, o, h1, h2, n, h3⟩ := (show ObjOk P w H h a (.tup _) from ok a _ h')
    exact .tup h1 h2 h3 (by rw [List.toList_toArray]; exact KeyAll.is ok q rv)
theorem KeyAll.is {P : Program} {w : World} {H : Hp} {h : Heap} (ok : HOk P w H h) : ∀ {ks : List NestedKey} {us : List V} {its : List Value}, KeyAll H ks us → Vals us its → NestedAll h ks its
  | _, _, _, .no, .nil => .nil
  | _, _, _, .on a r, .cons b q => .cons (KeyAt.is ok a b) (KeyAll.is ok r q)
end
/-! ## a dict with such keys: its rows (key, where the key stands, value) -/
abbrev Row := NestedKey × Addr × V
def DN (P : Program) (w : World) (a : Addr) (rs : List Row) : HO := .ext fun h => rs.length ≤ sizeLine ∧ (a == sysModules) = false ∧
  ∃ ys : List (NestedKey × Addr × Value), Paired (fun r y => r.1 = y.1 ∧ r.2.1 = y.2.1 ∧ RelV r.2.2 y.2.2) rs ys ∧
    ∃ o es ep, h.get? a = some o ∧ o.ExactDict ∧ o.data = .dict es ep ∧ es.toList = ys.map (entryOfKey (nestedKind P w)) ∧ (ys.map (·.1)).Nodup
def KeysIn (H : Hp) (rs : List Row) : Prop := ∀ r ∈ rs, KeyAt H r.1 (.ref r.2.1) ∧ r.1.depth ≤ 8
theorem KeysIn.keep {H H' : Hp} {rs : List Row} (h : KeysIn H rs) (e : ∀ a us, H a = some (.tup us) → H' a = some (.tup us)) : KeysIn H' rs := fun r hr => ⟨(h r hr).1.keep e, (h r hr).2⟩
def atN (rs : List Row) (k : NestedKey) : Option V := (rs.find? fun r => decide (r.1 = k)).map (·.2.2)
def storeN (rs : List Row) (k : NestedKey) (b : Addr) (v : V) : List Row := if (atN rs k).isSome then rs.map fun r => if r.1 = k then (r.1, r.2.1, v) else r else rs ++ [(k, b, v)]
abbrev RowRel : Row → NestedKey × Addr × Value → Prop := fun r y => r.1 = y.1 ∧ r.2.1 = y.2.1 ∧ RelV r.2.2 y.2.2
theorem atN_rel {rs : List Row} {ys : List (NestedKey × Addr × Value)} (r : Paired RowRel rs ys) (k : NestedKey) : RelO (atN rs k) ((atKey ys k).map (·.2)) := by
  induction r with
  | nil => exact True.intro
  | @cons p q ps qs h t ih =>
    by_cases e : p.1 = k
    · have e' : q.1 = k := h.1.symm.trans e
      have a : atN (p :: ps) k = some p.2.2 := by simp [atN, List.find?_cons, e]
      have b : atKey (q :: qs) k = some q.2 := by simp [atKey, List.find?_cons, e']
      rw [a, b]; exact h.2.2
    · have e' : ¬ q.1 = k := fun z => e (h.1.trans z)
      have a : atN (p :: ps) k = atN ps k := by simp [atN, List.find?_cons, e]
      have b : atKey (q :: qs) k = atKey qs k := by simp [atKey, List.find?_cons, e']
      rw [a, b]; exact ih
theorem storeN_rel {rs : List Row} {ys : List (NestedKey × Addr × Value)} (r : Paired RowRel rs ys) (k : NestedKey) (b : Addr) {v : V} {u : Value} (rv : RelV v u) : Paired RowRel (storeN rs k b v) (storedH ys k b u) := by
  have e : (atN rs k).isSome = (atKey ys k).isSome := by
    rw [(atN_rel r k).isSome_eq, Option.isSome_map]
  unfold storeN storedH
  rw [e]
  by_cases q : (atKey ys k).isSome = true
  · rw [if_pos q, if_pos q]
    clear e q
    induction r with
    | nil => exact .nil
    | @cons p z ps zs h t ih =>
      rw [List.map_cons, List.map_cons]
      refine .cons ?_ ih
      unfold putAt
      by_cases c : p.1 = k
      · rw [if_pos c, if_pos (h.1.symm.trans c)]; exact ⟨h.1, h.2.1, rv⟩
      · rw [if_neg c, if_neg (fun y => c (h.1.trans y))]; exact h
  · rw [if_neg q, if_neg q]
    exact Paired.snoc r ⟨rfl, rfl, rv⟩
theorem storeN_len (rs : List Row) (k : NestedKey) (b : Addr) (v : V) : (storeN rs k b v).length ≤ rs.length + 1 := by
  unfold storeN
  split
  · rw [List.length_map]; omega
  · rw [List.length_append]; exact Nat.le_refl _
theorem storeN_new {rs : List Row} {k : NestedKey} (h : atN rs k = none) (b : Addr) (v : V) : storeN rs k b v = rs ++ [(k, b, v)] := by
  unfold storeN
  rw [h]; rfl
section
variable {P : Program} {w : World} {H : Hp} {h : Heap} {a : Addr} {rs : List Row}
theorem dn_of (ok : HOk P w H h) (e : H a = some (DN P w a rs)) (ks : KeysIn H rs) : rs.length ≤ sizeLine ∧ (a == sysModules) = false ∧ ∃ ys, Paired RowRel rs ys ∧ h.DictOfH (nestedKind P w) a ys := by
  obtain ⟨z, y, ys, r, o, es, ep, h1, h2, h3, h4, h5⟩ := (ok a _ e).1
  refine ⟨z, y, ys, r, o, es, ep, h1, h2, h3, h4, ?_, h5⟩
  have all : ∀ {l : List Row} {m : List (NestedKey × Addr × Value)}, Paired RowRel l m → KeysIn H l → ∀ x ∈ m, (nestedKind P w).is h x.1 x.2.1 := by
    intro l m q
    induction q with
    | nil => intro _ x hx; exact nomatch hx
    | @cons p q ps qs hq t ih =>
      intro hk x hx
      rcases List.mem_cons.mp hx with e | hx
      · subst e
        obtain ⟨k1, k2⟩ := hk p List.mem_cons_self
        have := k1.is ok (u := .ref p.2.1) rfl
        rw [hq.1, hq.2.1] at this
        exact ⟨this, by rw [← hq.1]; exact k2⟩
      · exact ih (fun r hr => hk r (List.mem_cons_of_mem _ hr)) x hx
  exact all r ks
theorem dn_ok {h' : Heap} {H' : Hp} {ys : List (NestedKey × Addr × Value)} (z : rs.length ≤ sizeLine) (hd : (a == sysModules) = false) (r : Paired RowRel rs ys) (dd : h'.DictOfH (nestedKind P w) a ys) : ObjOk P w H' h' a (DN P w a rs) := by
  obtain ⟨o, es, ep, h1, h2, h3, h4, _, h5⟩ := dd
  exact ⟨⟨z, hd, ys, r, o, es, ep, h1, h2, h3, h4, h5⟩, ⟨o, h1⟩, fun g1 g2 ⟨z, hd, ys, r, o, es, ep, q1, q2⟩ k => ⟨z, hd, ys, r, o, es, ep, k o q1, q2⟩⟩
end
section
variable {X : Cx} {pins : List (Addr × Obj)} {σ : L2.St} {H : Hp} {s : Shared} {a b : Addr} {k : NestedKey} {rs : List Row} {v : V} {r : Value} {A : Around} {E : Value → Shared → Prop}
/-- the key at b is looked for in the dict at a -/
structure NAt (P : Program) (w : World) (H : Hp) (a b : Addr) (k : NestedKey) (rs : List Row) : Prop where
  at_ : H a = some (DN P w a rs)
  keys : KeysIn H rs
  key : KeyAt H k (.ref b)
  deep : k.depth ≤ 8
theorem NAt.is {P : Program} {w : World} {h : Heap} (n : NAt P w H a b k rs) (ok : HOk P w H h) : (nestedKind P w).is h k b := ⟨n.key.is ok rfl, n.deep⟩
theorem roomN (hu : A.units + 64 < cLine) (P : Program) (w : World) : (nestedKind P w).room A.in1 := by
  show A.units + 1 + 8 < cLine
  omega
theorem n_notIn {Q : Value → Shared → Prop} (hu : A.units + 64 < cLine) (I : Inv X pins σ H s) (n : NAt X.prog X.w H a b k rs) (h : ∀ s', Inv X pins σ H s' → Q (.bool (!(atN rs k).isSome)) s') : wpAny (model X.prog X.w) A (compareOp .NotIn (.ref b) (.ref a)) Q E s := by
  obtain ⟨_, hd, ys, rel, dd⟩ := dn_of I.hok n.at_ n.keys
  refine wpAny_notIn_heap (roomN hu _ _) (n.is I.hok) hd dd ?_
  have q := (atN_rel rel k).isSome_eq
  rw [Option.isSome_map] at q
  rw [← q]
  exact h _ (I.tok _)
theorem n_set {Q : Unit → Shared → Prop} (hu : A.units + 64 < cLine) (I : Inv X pins σ H s) (n : NAt X.prog X.w H a b k rs) (hl : rs.length < sizeLine) (rv : RelV v r) (h : ∀ s', Inv X pins σ (upd H a (DN X.prog X.w a (storeN rs k b v))) s' → Q () s') :
    wpAny (model X.prog X.w) A (setItem (.ref a) (.ref b) r) Q E s := by
  obtain ⟨z, hd, ys, rel, dd⟩ := dn_of I.hok n.at_ n.keys
  have hz : ys.length ≤ sizeLine := by rw [← Paired.length rel]; exact z
  refine wpAny_setItem_heap (hsz := hz) (roomN hu _ _) (n.is I.hok) dd fun h' dd' hs => h _ ?_
  have he : ∃ q, h'.get? a = some q := let ⟨q, _, _, hq, _⟩ := dd'; ⟨q, hq⟩
  exact d_write I (by rw [n.at_]; exact True.intro) hs he (dn_ok (by have := storeN_len rs k b v; omega) hd (storeN_rel rel k b rv) dd')
end
/-! ### as rules -/
def tNNotIn (P : Program) (w : World) (ty td : TE) : TE := fun σ H Q => ty σ H fun y H1 => td σ H1 fun x H2 => ∃ a b k rs, x = .ref a ∧ y = .ref b ∧ NAt P w H2 a b k rs ∧ Q (.bl (!(atN rs k).isSome)) H2
def sNPut (P : Program) (w : World) (td ty tv : TE) : TS := fun D σ H => tv σ H fun v H1 => td σ H1 fun x H2 => ty σ H2 fun y H3 => ∃ a b k rs, x = .ref a ∧ y = .ref b ∧ NAt P w H3 a b k rs ∧ rs.length < sizeLine ∧
  D.nx σ (upd H3 a (DN P w a (storeN rs k b v)))
section
variable {X : Cx} {o i e value : Expr} {pos pos' : Pos} {td ty tv : TE}
theorem pc_nnotin (hu : X.A.units + 64 < cLine) (hi : PE X i ty) (ho : PE X o td) : PC X .NotIn i o (tNNotIn X.prog X.w ty td) := by
  refine ⟨fun pins s σ H Q I h => ?_⟩
  refine thn (hi.run pins s σ H _ I h) fun iv s1 ⟨y, H1, I1, ry, q1⟩ => thn (ho.run pins s1 σ H1 _ I1 q1) fun u s2 ⟨x, H2, I2, rx, a, b, k, rs, ex, ey, n, q2⟩ => ?_
  subst ex ey
  obtain rfl : u = Value.ref a := rx
  obtain rfl : iv = Value.ref b := ry
  exact n_notIn hu I2 n fun s3 I3 => ⟨.bl _, H2, I3, rfl, q2⟩
theorem ps_nput (hu : X.A.units + 64 < cLine) (ho : PE X o td) (hi : PE X i ty) (hv : PE X value tv) (hs : swapsWith value (some (.Subscript o i pos')) pos.line X.env = pure false) :
    PS X (.Assign [.Subscript o i pos'] value pos) (sNPut X.prog X.w td ty tv) := by
  refine ⟨fun pins s σ H D I h => ?_⟩
  refine wpAny_Assign_Subscript (thn (hv.run pins s σ H _ I h) fun r s1 ⟨v, H1, I1, rv, q1⟩ => thn (ho.run pins s1 σ H1 _ I1 q1) fun u s2 ⟨x, H2, I2, rx, q2⟩ => thn (hi.run pins s2 σ H2 _ I2 q2) fun iv s3 ⟨y, H3, I3, ry, a, b, k, rs, ex, ey, n, hl, q3⟩ => ?_) hs
  subst ex ey
  obtain rfl : u = Value.ref a := rx
  obtain rfl : iv = Value.ref b := ry
  exact n_set hu I3 n hl rv fun s4 I4 => ⟨σ, _, I4, q3⟩
/-- {} -/
def tNNew (P : Program) (w : World) : TE := fun _ H Q => ∀ p, H p = none → Q (.ref p) (upd H p (DN P w p []))
theorem dn_empty {P : Program} {w : World} {H : Hp} (h : Heap) (hb : sysModules < h.objs.size) : ObjOk P w H (h.push { cls := .type "dict", data := .dict #[] }) h.objs.size (DN P w h.objs.size []) :=
  dn_ok (Nat.zero_le _) (beq_eq_false_iff_ne.mpr (Nat.ne_of_gt hb)) .nil (Heap.DictOfH.new h)
end
section
variable {X : Cx} {pos : Pos}
theorem pe_nnew : PE X (.Dict [] [] pos) (tNNew X.prog X.w) := ⟨fun pins s σ H Q I h =>
  wpAny_Dict_empty ⟨.ref s.heap.objs.size, _, I.laid (a := s.heap.objs.size) (o := DN X.prog X.w s.heap.objs.size []) (t' := s.toks) (fun _ _ q => Heap.get?_push_of_some _ q) (Nat.le_refl _) (dn_empty s.heap I.big), rfl, h _ (I.hok.fresh (Nat.le_refl _))⟩⟩
/-! ## sorted(list of data that are alike) -/
theorem each_vals {pins : List (Addr × Obj)} {σ : L2.St} {H : Hp} {s : Shared} (I : Inv X pins σ H s) : ∀ {ys : List V} {ds : List PyData} {its : List Value}, DpAll X.K H ys ds → Vals ys its →
    PySem.W.EachIs (fun u (b : V × PyData) => RelV b.1 u) its (ys.zip ds) ∧ PySem.W.EachIs (fun u (b : V × PyData) => ∃ as, Reads s.heap u b.2 as) its (ys.zip ds)
  | _, _, _, .nil, .nil => ⟨.nil, .nil⟩
  | _, _, _, .cons a r, .cons b q => by
    obtain ⟨h1, h2⟩ := each_vals I r q
    exact ⟨.cons b h1, .cons (Dp.reads I _ _ _ a b) h2⟩
theorem vals_each {its : List Value} {bs : List (V × PyData)} (h : PySem.W.EachIs (fun u (b : V × PyData) => RelV b.1 u) its bs) : Vals (bs.map (·.1)) its := by
  induction h with
  | nil => exact .nil
  | cons a r ih => exact .cons a ih
def rSortedD (K : PySem.W.Frag) : List V → Hp → VK → Prop := fun xs H Q => ∃ (a : Addr) (ys : List V) (ds : List PyData), xs = [.ref a] ∧ SqL K H a ys ∧ DpAll K H ys ds ∧ PySem.W.AllAlike ds ∧ PySem.W.Sortable ds ∧ (∀ d ∈ ds, d.depth ≤ 40) ∧
  ∀ (bs : List (V × PyData)) (p : Addr), bs = (ys.zip ds).mergeSort (PySem.W.dataLe false (·.2)) → H p = none → Q (.ref p) (upd H p (.lst (bs.map (·.1))))
theorem dpAll_len {K : PySem.W.Frag} {H : Hp} : ∀ {ys : List V} {ds : List PyData}, DpAll K H ys ds → ys.length = ds.length
  | _, _, .nil => rfl
  | _, _, .cons _ r => congrArg (· + 1) (dpAll_len r)
theorem zip_snd {α β : Type} : ∀ {xs : List α} {ys : List β}, xs.length = ys.length → (xs.zip ys).map (·.2) = ys
  | [], [], _ => rfl
  | x :: xs, y :: ys, h => by
    show y :: (xs.zip ys).map (·.2) = y :: ys
    rw [zip_snd (Nat.succ.inj h)]
theorem cr_sortedD {j : Nat} (hr : Room j X.A) : CallR X (.builtin "sorted") (rSortedD X.K) := by
  intro pins s σ H xs us Q I r h
  obtain ⟨a, ys, ds, rfl, hs, hd, hal, hso, hdp, q⟩ := h
  rw [Vals.ref1 r]
  obtain ⟨its, rv, hl, hz⟩ := I.list hs
  obtain ⟨h1, h2⟩ := each_vals I hd rv
  have ln := dpAll_len hd
  have e2 := zip_snd ln
  have hu := hr.units
  refine PySem.W.sorted_data (enc := fun b : V × PyData => b.2) hl.isList h1 h2 (by rw [e2]; exact hal) (by rw [e2]; exact hso) (by rw [List.length_zip, ← ln, Nat.min_self]; exact hz) (fun b hb => ?_) fun out lo eo => ?_
  · have := hdp b.2 (by rw [← e2]; exact List.mem_map.mpr ⟨b, hb, rfl⟩)
    omega
  obtain ⟨c, hc⟩ := sortedAll_at s.heap its out.toArray
  have hv := vals_each eo
  have hlen : (((ys.zip ds).mergeSort (PySem.W.dataLe false fun b : V × PyData => b.2)).map (·.1)).length ≤ sizeLine := by
    rw [List.length_map, List.length_mergeSort, List.length_zip, ← ln, Nat.min_self]; exact hz
  exact ⟨.ref (s.heap.objs.size + 1), _, I.laid (t' := s.toks) (fun _ _ e => sortedAll_old e) (Nat.le_succ _) (show ObjOk X.prog X.w _ _ _ (.lst _) from ⟨hlen, out, c, hv, hc⟩), rfl, q _ _ rfl (I.hok.fresh (Nat.le_succ _))⟩
/-! ## in, not in a tuple of data -/
end
section
variable {X : Cx} {P : Program} {w : World} {o i e value : Expr} {pos pos' : Pos} {td ty tv : TE}
/-! the same, with program and world named -/
theorem pe_nnewK (hP : X.prog = P) (hw : X.w = w) : PE X (.Dict [] [] pos) (tNNew P w) := by subst hP hw; exact pe_nnew
theorem pc_nnotinK (hP : X.prog = P) (hw : X.w = w) (hu : X.A.units + 64 < cLine) (hi : PE X i ty) (ho : PE X o td) : PC X .NotIn i o (tNNotIn P w ty td) := by subst hP hw; exact pc_nnotin hu hi ho
theorem ps_nputK (hP : X.prog = P) (hw : X.w = w) (hu : X.A.units + 64 < cLine) (ho : PE X o td) (hi : PE X i ty) (hv : PE X value tv) (hs : swapsWith value (some (.Subscript o i pos')) pos.line X.env = pure false) :
    PS X (.Assign [.Subscript o i pos'] value pos) (sNPut P w td ty tv) := by subst hP hw; exact ps_nput hu ho hi hv hs
end
end Sg
set_option Elab.async false
set_option linter.all false
set_option maxRecDepth 100000
set_option maxHeartbeats 4000000
set_option Elab.async false
set_option linter.all false
set_option maxRecDepth 100000
set_option maxHeartbeats 4000000
namespace Sg
open PySem PySem.Spec PyProof.Rows L2
/-! ## any data -/
mutual
theorem Dp.same {K : PySem.W.Frag} {H H' : Hp} (e : Same H H') : ∀ {v : V} {d : PyData}, Dp K H v d → Dp K H' v d
  | _, _, .non => .non
  | _, _, .bl b => .bl b
  | _, _, .int i => .int i
  | _, _, .str x => .str x
  | _, _, .lst h r => .lst (e.seq h) (DpAll.same e r)
  | _, _, .tup h r => .tup (Same.tup e h) (DpAll.same e r)
theorem DpAll.same {K : PySem.W.Frag} {H H' : Hp} (e : Same H H') : ∀ {vs : List V} {ds : List PyData}, DpAll K H vs ds → DpAll K H' vs ds
  | _, _, .nil => .nil
  | _, _, .cons a r => .cons (Dp.same e a) (DpAll.same e r)
end
theorem DpAll.app {K : PySem.W.Frag} {H : Hp} : ∀ {vs us : List V} {ds es : List PyData}, DpAll K H vs ds → DpAll K H us es → DpAll K H (vs ++ us) (ds ++ es)
  | _, _, _, _, .nil, g => g
  | _, _, _, _, .cons a r, g => .cons a (DpAll.app r g)
theorem DpAll.len {K : PySem.W.Frag} {H : Hp} : ∀ {vs : List V} {ds : List PyData}, DpAll K H vs ds → vs.length = ds.length
  | _, _, .nil => rfl
  | _, _, .cons _ r => congrArg (· + 1) (DpAll.len r)
theorem DpAll.at {K : PySem.W.Frag} {H : Hp} : ∀ {vs : List V} {ds : List PyData} {i : Nat} {v : V}, DpAll K H vs ds → vs[i]? = some v → ∃ d, ds[i]? = some d ∧ Dp K H v d
  | _, _, _, _, .nil, h => nomatch h
  | _, _, 0, _, .cons a _, h => by cases h; exact ⟨_, rfl, a⟩
  | _, _, i + 1, _, .cons _ r, h => DpAll.at (i := i) r h
theorem DpAll.mem {K : PySem.W.Frag} {H : Hp} {vs : List V} {ds : List PyData} (h : DpAll K H vs ds) {v : V} (hv : v ∈ vs) : ∃ d ∈ ds, Dp K H v d := by
  obtain ⟨i, hi⟩ := List.mem_iff_getElem?.mp hv
  obtain ⟨d, h1, h2⟩ := DpAll.at h hi
  exact ⟨d, List.mem_of_getElem? h1, h2⟩
/-! ints and tuples of them: nothing that changes is read -/
/-- a dict: empty, or one int for one value of ints and tuples -/
inductive DicD (K : PySem.W.Frag) (H : Hp) : List (L2.Key × V) → List (PyData × PyData) → Prop
  | no : DicD K H [] []
  | one {i : Int} {v : V} {d : PyData} : Tp K H v d → DicD K H [(.inl i, v)] [(.int i, d)]
/-- any data: a dict at most on top -/
inductive Aq (K : PySem.W.Frag) (H : Hp) : V → PyData → Prop
  | data {v : V} {d : PyData} : Dp K H v d → Aq K H v d
  | dic {a : Addr} {kvs : List (L2.Key × V)} {ds : List (PyData × PyData)} : H a = some (.dK kvs) → DicD K H kvs ds → Aq K H (.ref a) (.dict ds)
theorem Aq.same {K : PySem.W.Frag} {H H' : Hp} (e : Same H H') {v : V} {d : PyData} (h : Aq K H v d) : Aq K H' v d := by
  cases h with
  | data h => exact .data (Dp.same e h)
  | dic h g =>
    refine .dic (e _ _ h) ?_
    cases g with
    | no => exact .no
    | one t => exact .one (t.stay (.of e))
/-- what may be shown -/
structure GoodD (d : PyData) : Prop where
  sh : d.showable = true
  dp : d.depth ≤ 40
  lv : d.leavesShort 24 = true
  bk : d.bulk ≤ 400000
theorem GoodD.short {d : PyData} (h : GoodD d) : d.shown.length ≤ sizeLine := by
  have h1 := PyData.shown_le_bulk 24 (by decide) d h.lv
  have h2 := h.bk
  have h4 : sizeLine = 16777216 := sizeLine_eq
  omega
def goodB (d : PyData) : Bool := d.showable && decide (d.depth ≤ 40) && d.leavesShort 24 && decide (d.bulk ≤ 400000)
theorem good_by {d : PyData} (h : goodB d = true) : GoodD d := by
  unfold goodB at h
  simp only [Bool.and_eq_true, decide_eq_true_eq] at h
  exact ⟨h.1.1.1, h.1.1.2, h.1.2, h.2⟩
/-- some data that may be shown -/
def AnyV (K : PySem.W.Frag) (H : Hp) (v : V) : Prop := ∃ d, Aq K H v d ∧ GoodD d
theorem AnyV.same {K : PySem.W.Frag} {H H' : Hp} (e : Same H H') {v : V} (h : AnyV K H v) : AnyV K H' v := by
  obtain ⟨d, h1, h2⟩ := h
  exact ⟨d, h1.same e, h2⟩
def AllAny (K : PySem.W.Frag) (H : Hp) (vs : List V) : Prop := ∀ v ∈ vs, AnyV K H v
theorem AllAny.same {K : PySem.W.Frag} {H H' : Hp} (e : Same H H') {vs : List V} (h : AllAny K H vs) : AllAny K H' vs := fun v hv => (h v hv).same e
theorem AllAny.app {K : PySem.W.Frag} {H : Hp} {vs us : List V} (h : AllAny K H vs) (g : AllAny K H us) : AllAny K H (vs ++ us) := fun v hv => (List.mem_append.mp hv).elim (h v) (g v)
theorem AllAny.nil {K : PySem.W.Frag} {H : Hp} : AllAny K H [] := fun _ h => nomatch h
theorem AllAny.cons {K : PySem.W.Frag} {H : Hp} {v : V} {vs : List V} (h : AnyV K H v) (g : AllAny K H vs) : AllAny K H (v :: vs) := fun u hu => (List.mem_cons.mp hu).elim (fun e => e ▸ h) (g u)
end Sg
set_option Elab.async false
set_option linter.all false
set_option maxRecDepth 100000
set_option maxHeartbeats 4000000
namespace Sg
open PySem PySem.Spec PyProof.Rows L2
/-! ## isinstance of any data -/
def tyN : PyData → String
  | .none => "NoneType"
  | .bool _ => "bool"
  | .int _ => "int"
  | .str _ => "str"
  | .list _ => "list"
  | .tuple _ => "tuple"
  | .dict _ => "dict"
theorem tyL {K : PySem.W.Frag} {H : Hp} {a : Addr} {xs : List V} (h : SqL K H a xs) : TyX K H (.ref a) (.type "list") := by
  rcases h with (h | ⟨o, h⟩) | ⟨o, _, _, h, hc, _⟩
  · exact .base (.lst h)
  · exact .base (.frz h)
  · exact .kList h hc
theorem aq_ty {K : PySem.W.Frag} {H : Hp} {v : V} {d : PyData} (h : Aq K H v d) : TyX K H v (.type (tyN d)) := by
  cases h with
  | dic h _ => exact .base (.dK h)
  | data h =>
    cases h with
    | non => exact .base .non
    | bl b => exact .base (.bl b)
    | int i => exact .base (.int i)
    | str x => exact .base (.str x)
    | lst h _ => exact tyL h
    | tup h _ => exact tyT h
def isS (u t : String) : Bool := decide (t = u) || (decide (u = "int") && decide (t = "bool"))
def isB (u : String) (d : PyData) : Bool := isS u (tyN d)
theorem tyN_mem (d : PyData) : tyN d ∈ ["NoneType", "bool", "int", "str", "list", "tuple", "dict"] := by
  cases d <;> simp [tyN]
theorem kit_table : ∀ t ∈ ["NoneType", "bool", "int", "str", "list", "tuple", "dict"], ∀ u ∈ ["tuple", "int", "bool", "str", "list"], kitB t u = some (isS u t) := by decide +kernel
theorem isB_kit {u : String} (hu : u = "tuple" ∨ u = "int" ∨ u = "bool" ∨ u = "str" ∨ u = "list") (d : PyData) : kitB (tyN d) u = some (isB u d) :=
  kit_table _ (tyN_mem d) u (by rcases hu with rfl | rfl | rfl | rfl | rfl <;> simp)
section
variable {X : Cx}
theorem call_isiA : CallR X (.builtin "isinstance") (fun xs H Q => ∃ v d u, xs = [v, .ty u] ∧ Aq X.K H v d ∧ (u = "tuple" ∨ u = "int" ∨ u = "bool" ∨ u = "str" ∨ u = "list") ∧ Q (.bl (isB u d)) H) := by
  intro pins s σ H xs us Q I r h
  obtain ⟨v, d, u, rfl, hd, hu, q⟩ := h
  exact call_isi pins s σ H _ us Q I r ⟨v, .ty u, _, _, _, rfl, .ty _, aq_ty hd, kit_ty (isB_kit hu d), q⟩
end
theorem isB_tup {d : PyData} : isB "tuple" d = true ↔ ∃ ds, d = .tuple ds := by
  cases d <;> simp [isB, isS, tyN]
/-- an int that is no bool -/
def isIntD : PyData → Bool
  | .int _ => true
  | _ => false
def betD (d : PyData) (l m : Int) : Bool := match d with
  | .int i => decide (l ≤ i) && decide (i ≤ m)
  | _ => false
/-! ## displays of constants -/
def mapO (f : Expr → Option PyData) : List Expr → Option (List PyData)
  | [] => some []
  | e :: es => match f e, mapO f es with
    | some d, some ds => some (d :: ds)
    | _, _ => none
theorem PE.imp {X : Cx} {e : Expr} {t t' : TE} (h : PE X e t) (i : ∀ σ H Q, t' σ H Q → t σ H Q) : PE X e t' := ⟨fun pins s σ H Q I q => h.run pins s σ H Q I (i _ _ _ q)⟩
theorem same_refl (H : Hp) : Same H H := fun _ _ h => h
/-! ### any constant, a list of them -/
end Sg
set_option Elab.async false
set_option linter.all false
set_option maxRecDepth 100000
set_option maxHeartbeats 4000000
namespace Sg
open PySem PySem.Spec PyProof.Rows L2
/-! ## defs that are handed an exception, in an except suite -/
/-- p: the exception's place and object -/
structure FnE (P : Program) (w : World) (K : PySem.W.Frag) (mg : Str → Option Value) (base : Heap) (k : Nat) (f : Addr) (fd : FuncData) (ps : List Str) (sp : Addr × Obj → Sp) : Prop where
  arity : ∀ p vs H Q, sp p vs H Q E0 → vs.length = ps.length
  go : ∀ (A : Around) (outer : List Env) (s : Shared) (H : Hp) (args : Args) (us : List Value) (vs : List V) (Q : VK) (p : Addr × Obj),
    L2H.RoomH k A → L2H.PinOk outer H s p → Env0 P w K mg base A outer s H → BindsTo s fd args (ps.zip us) → Vals vs us → sp p vs H Q E0 →
    codeAny (model P w) A (.call (.ref f) args) (CR CX0 outer P w H s Q E0) s
section
variable {P : Program} {w : World} {K : PySem.W.Frag} {mg : Str → Option Value} {base : Heap} {k : Nat} {f : Addr}
variable {fd : FuncData} {ps : List Str} {sp : Addr × Obj → Sp}
theorem FnE.mono {j : Nat} (F : FnE P w K mg base j f fd ps sp) (h : j ≤ k) : FnE P w K mg base k f fd ps sp :=
  ⟨F.arity, fun A outer s H args us vs Q p hr => F.go A outer s H args us vs Q p (hr.mono h)⟩
end
end Sg
set_option Elab.async false
set_option linter.all false
set_option maxRecDepth 100000
set_option maxHeartbeats 4000000
namespace Sg
open PySem PySem.Spec PyProof.Rows L2
/-! ## tuples whose object is told: their methods -/
def FrzT (H : Hp) (a : Addr) (xs : List V) : Prop := ∃ ob, H a = some (.frz ob (.tup xs)) ∧ ob.cls = .type "tuple" ∧ ob.dict = none
theorem FrzT.sq {K : PySem.W.Frag} {H : Hp} {a : Addr} {xs : List V} (h : FrzT H a xs) : SqT K H a xs := by
  obtain ⟨ob, h1, _⟩ := h
  exact .inl (.inr ⟨ob, h1⟩)
theorem FrzT.same {H H' : Hp} (e : Same H H') {a : Addr} {xs : List V} (h : FrzT H a xs) : FrzT H' a xs := by
  obtain ⟨ob, h1, h2⟩ := h
  exact ⟨ob, e _ _ h1, h2⟩
theorem FrzT.but {p : Addr} {H H' : Hp} (e : But p H H') {a : Addr} {xs : List V} (h : FrzT H a xs) (n : a ≠ p) : FrzT H' a xs := by
  obtain ⟨ob, h1, h2⟩ := h
  exact ⟨ob, e _ _ n h1, h2⟩
section
variable {X : Cx} {o e : Expr} {es : List Expr} {to : TE} {t : TA} {name : Str} {apos cpos : Pos} {id : String} {r : V → List V → Hp → VK → Prop}
def tBMF (r : V → List V → Hp → VK → Prop) (to : TE) (t : TA) : TE := fun σ H Q => to σ H fun x H1 => (∃ a xs, x = .ref a ∧ FrzT H1 a xs) ∧ t σ H1 fun xs H2 => r x xs H2 Q
theorem pe_bmF (pa : PlainAttrs "tuple") (slot : Slot "tuple" name id) (hty : typeOf (.builtin id) = pure (.type "method_descriptor")) (hm : MtR X id r) (ho : PE X o to) (ha : PA X (e :: es) t)
    (hbase : attributeBase o name X.env (eval o X.env) = eval o X.env := by rfl)
    (hfew : ((backTo cpos (starEach (e :: es) X.env)).all (fun x => !x.1) && (backToKw cpos (keywordEach [] X.env)).all (fun x => x.1.isSome)
      && decide ((e :: es).length + ([] : List Keyword).length + (if ([] : List Keyword).isEmpty then 0 else 1) < 30)) = true := by rfl)
    (hline : (apos.endLine == cpos.line) = true := by rfl) (hs : starEach (e :: es) X.env = (false, eval e X.env) :: starEach es X.env := by rfl) (hplain : (backTo cpos (starEach es X.env)).any (·.1) = false := by rfl) :
    PE X (.Call (.Attribute o name apos) (e :: es) [] cpos) (tBMF r to t) := by
  constructor
  intro pins s σ H Q I h
  refine wpAny_Call_method_late hbase hfew hline rfl (thn (ho.run pins s σ H _ I h) ?_)
  rintro v s1 ⟨x, H1, I1, r1, ⟨a, xs, rfl, ob, g1, g2, g3⟩, q1⟩
  cases r1
  have hget : s1.heap.get? a = some ob := (I1.hok a _ g1).1
  refine ⟨"tuple", id, pa, slot, hty, ⟨ob, hget, g2⟩, fun b eb => ?_, ?_⟩
  · cases eb
    exact ⟨ob, hget, g3⟩
  have hA := ha.run cpos pins s1 σ H1 _ I1 q1
  rw [hs] at hA ⊢
  refine Calls.callWith_builtin (by show (false || (backTo cpos (starEach es X.env)).any (·.1)) = false; rw [hplain] <;> rfl) (Calls.evalArgs_plain (thn hA ?_))
  rintro us s2 ⟨vs, H2, I2, r2, q2⟩
  exact hm pins s2 σ H2 (.ref a) vs (.ref a) us Q I2 rfl r2 q2
/-- t.count(k), of ints -/
theorem mt_tcount : MtR X "tuple.count" (fun x xs H Q => ∃ (p : Addr) (ns : List Int) (k : Int), x = .ref p ∧ xs = [.int k] ∧ SqT X.K H p (ns.map V.int) ∧ Q (.int (ns.count k : Nat)) H) := by
  intro pins s σ H x xs v us Q I rx rxs h
  obtain ⟨p, ns, k, e1, e2, hs, q⟩ := h
  subst e1 e2
  cases rx
  obtain ⟨u, eu, ru⟩ := rxs.one
  subst eu
  obtain ⟨t, et⟩ := ru
  subst et
  obtain ⟨its, rv, ⟨⟨cls, dd, data, sl⟩, ho, hc, n, hd⟩, hlen⟩ := I.tuple hs
  simp only at hc hd
  subst hc hd
  have hi := ints_of_vals rv
  have ec : its.toArray.toList.countP (eqk k) = ns.count k := eqk_count hi
  refine call_meets PySem.F.slot_tuple_count ⟨_, ho, rfl⟩ PySem.F.entry_tuple_count (PySem.F.args_tuple_count_2 _ _)
    (SeqAt.tuple_countAt p its.toArray n dd sl (.int k t) (eqk k)) ⟨ho, fun y hy => (eqk_gives hi y (by simpa using hy)).at _ _, .int (ns.count k : Nat), H, I.tok _, ⟨s.toks, ?_⟩, q⟩
  rw [← ec]
/-! ## a tuple times a number, up to 100,000 items -/
/-! ## a text times a number -/
end
end Sg
set_option Elab.async false
set_option linter.all false
set_option maxRecDepth 100000
set_option maxHeartbeats 4000000
namespace Sg
open PySem PySem.Spec PyProof.Rows L2
/-! ## rows of data that may be shown -/
structure SmL (k : Nat) (ds : List PyData) : Prop where
  sh : PyData.showableAll ds = true
  dp : PyData.depthAll ds ≤ 38
  lv : PyData.leavesShortAll 24 ds = true
  bk : PyData.bulkAll ds ≤ k
def smB (k : Nat) (ds : List PyData) : Bool := PyData.showableAll ds && decide (PyData.depthAll ds ≤ 38) && PyData.leavesShortAll 24 ds && decide (PyData.bulkAll ds ≤ k)
theorem smL_by {k : Nat} {ds : List PyData} (h : smB k ds = true) : SmL k ds := by
  unfold smB at h
  simp only [Bool.and_eq_true, decide_eq_true_eq] at h
  exact ⟨h.1.1.1, h.1.1.2, h.1.2, h.2⟩
theorem SmL.le {k m : Nat} {ds : List PyData} (h : SmL k ds) (e : k ≤ m) : SmL m ds := ⟨h.sh, h.dp, h.lv, Nat.le_trans h.bk e⟩
theorem SmL.nil : SmL 0 [] := smL_by (by decide +kernel)
theorem SmL.cons {k m : Nat} {d : PyData} {ds : List PyData} (h : SmL k [d]) (g : SmL m ds) : SmL (k + m) (d :: ds) := by
  have h1 := h.sh; have h2 := h.dp; have h3 := h.lv; have h4 := h.bk
  simp only [PyData.showableAll, PyData.depthAll, PyData.leavesShortAll, PyData.bulkAll, Bool.and_true] at h1 h2 h3 h4
  refine ⟨?_, ?_, ?_, ?_⟩
  · simp only [PyData.showableAll, h1, g.sh, Bool.and_self]
  · simp only [PyData.depthAll]; have := g.dp; omega
  · simp only [PyData.leavesShortAll, h3, g.lv, Bool.and_self]
  · simp only [PyData.bulkAll]; have := g.bk; omega
theorem SmL.uncons {k : Nat} {d : PyData} {ds : List PyData} (h : SmL k (d :: ds)) : SmL k [d] ∧ SmL k ds := by
  have h1 := h.sh; have h2 := h.dp; have h3 := h.lv; have h4 := h.bk
  simp only [PyData.showableAll, PyData.depthAll, PyData.leavesShortAll, PyData.bulkAll, Bool.and_eq_true] at h1 h2 h3 h4
  refine ⟨⟨?_, ?_, ?_, ?_⟩, h1.2, by omega, h3.2, by omega⟩
  · simp only [PyData.showableAll, h1.1, Bool.and_self]
  · simp only [PyData.depthAll]; omega
  · simp only [PyData.leavesShortAll, h3.1, Bool.and_self]
  · simp only [PyData.bulkAll]; omega
theorem SmL.app {k m : Nat} : ∀ {ds es : List PyData}, SmL k ds → SmL m es → SmL (k + m) (ds ++ es)
  | [], _, _, g => g.le (Nat.le_add_left _ _)
  | d :: ds, es, h, g => by
    have h1 := h.sh; have h2 := h.dp; have h3 := h.lv; have h4 := h.bk
    simp only [PyData.showableAll, PyData.depthAll, PyData.leavesShortAll, PyData.bulkAll, Bool.and_eq_true] at h1 h2 h3 h4
    have i := SmL.app (k := PyData.bulkAll ds) ⟨h1.2, by omega, h3.2, Nat.le_refl _⟩ g
    have j := SmL.cons h.uncons.1 i
    refine ⟨j.sh, j.dp, j.lv, ?_⟩
    show PyData.bulkAll (d :: (ds ++ es)) ≤ _
    simp only [PyData.bulkAll]
    have := i.bk
    omega
theorem SmL.drop {k : Nat} : ∀ {ds : List PyData} (i : Nat), SmL k ds → SmL k (ds.drop i)
  | _, 0, h => h
  | [], _ + 1, h => h
  | _ :: _, i + 1, h => SmL.drop i h.uncons.2
theorem SmL.take {k : Nat} : ∀ {ds : List PyData} (i : Nat), SmL k ds → SmL k (ds.take i)
  | _, 0, h => by rw [List.take_zero]; exact SmL.nil.le (Nat.zero_le _)
  | [], _ + 1, h => h
  | d :: ds, i + 1, h => by
    have h4 := h.bk
    simp only [PyData.bulkAll] at h4
    have u := h.uncons
    have t := SmL.take (k := PyData.bulkAll ds) i ⟨u.2.sh, u.2.dp, u.2.lv, Nat.le_refl _⟩
    have j := SmL.cons (k := PyData.bulk d + 1) ⟨u.1.sh, u.1.dp, u.1.lv, by simp only [PyData.bulkAll]; omega⟩ t
    exact j.le h4
theorem SmL.rep {k : Nat} {ds : List PyData} (h : SmL k ds) : ∀ n : Nat, SmL (n * k) (List.replicate n ds).flatten
  | 0 => SmL.nil.le (Nat.zero_le _)
  | n + 1 => by
    rw [List.replicate_succ, List.flatten_cons]
    exact (SmL.app h (SmL.rep h n)).le (by rw [Nat.add_mul, Nat.one_mul]; omega)
theorem SmL.tup {k : Nat} {ds : List PyData} (h : SmL k ds) (e : k ≤ 400000) : GoodD (.tuple ds) :=
  ⟨by simp only [PyData.showable, h.sh], by simp only [PyData.depth]; have := h.dp; omega, by simp only [PyData.leavesShort, h.lv], by simp only [PyData.bulk]; exact Nat.le_trans h.bk e⟩
theorem SmL.lst {k : Nat} {ds : List PyData} (h : SmL k ds) (e : k ≤ 400000) : GoodD (.list ds) :=
  ⟨by simp only [PyData.showable, h.sh], by simp only [PyData.depth]; have := h.dp; omega, by simp only [PyData.leavesShort, h.lv], by simp only [PyData.bulk]; exact Nat.le_trans h.bk e⟩
theorem SmL.one {d : PyData} {k : Nat} (h : GoodD d) (e : d.depth ≤ 38) (b : d.bulk + 1 ≤ k) : SmL k [d] :=
  ⟨by simp only [PyData.showableAll, h.sh, Bool.and_self], by simp only [PyData.depthAll]; omega, by simp only [PyData.leavesShortAll, h.lv, Bool.and_self], by simp only [PyData.bulkAll]; omega⟩
theorem SmL.all {ds : List PyData} (h : ∀ d ∈ ds, SmL 100 [d]) : SmL (ds.length * 100) ds := by
  induction ds with
  | nil => exact SmL.nil.le (Nat.zero_le _)
  | cons d ds ih =>
    refine (SmL.cons (h d List.mem_cons_self) (ih fun x hx => h x (List.mem_cons_of_mem _ hx))).le ?_
    rw [List.length_cons, Nat.add_mul, Nat.one_mul]; omega
theorem DpAll.drop {K : PySem.W.Frag} {H : Hp} : ∀ {vs : List V} {ds : List PyData} (i : Nat), DpAll K H vs ds → DpAll K H (vs.drop i) (ds.drop i)
  | _, _, 0, h => h
  | _, _, _ + 1, .nil => .nil
  | _, _, i + 1, .cons _ r => DpAll.drop i r
theorem DpAll.take {K : PySem.W.Frag} {H : Hp} : ∀ {vs : List V} {ds : List PyData} (i : Nat), DpAll K H vs ds → DpAll K H (vs.take i) (ds.take i)
  | _, _, 0, h => by rw [List.take_zero, List.take_zero]; exact .nil
  | _, _, _ + 1, .nil => .nil
  | _, _, i + 1, .cons a r => .cons a (DpAll.take i r)
theorem DpAll.rep {K : PySem.W.Frag} {H : Hp} {vs : List V} {ds : List PyData} (h : DpAll K H vs ds) : ∀ n, DpAll K H (List.replicate n vs).flatten (List.replicate n ds).flatten
  | 0 => .nil
  | n + 1 => by
    rw [List.replicate_succ, List.replicate_succ, List.flatten_cons, List.flatten_cons]
    exact DpAll.app h (DpAll.rep h n)
theorem mt_tcountK {X : Cx} {K : PySem.W.Frag} (hK : X.K = K) : MtR X "tuple.count" (fun x xs H Q => ∃ (p : Addr) (ns : List Int) (k : Int), x = .ref p ∧ xs = [.int k] ∧ SqT K H p (ns.map V.int) ∧ Q (.int (ns.count k : Nat)) H) := by
  subst hK; exact mt_tcount
/-! ## l != [] -/
end Sg
set_option Elab.async false
set_option linter.all false
set_option maxRecDepth 100000
set_option maxHeartbeats 4000000
namespace Sg
open PySem PySem.Spec PyProof.Rows L2
/-! ## rows of expressions, each of its own making -/
def tE (S : L2.St → Hp → Prop) (R : Hp → V → Prop) : TE := fun σ H Q => S σ H ∧ ∀ H' v, Same H H' → R H' v → Q v H'
section
variable {X : Cx} {S : L2.St → Hp → Prop} {R : Hp → V → Prop}
theorem PE.e {e : Expr} {t : TE} (h : PE X e t) (i : ∀ σ H Q, S σ H → (∀ H' v, Same H H' → R H' v → Q v H') → t σ H Q) : PE X e (tE S R) := PE.imp h fun σ H Q q => i σ H Q q.1 q.2
/-! ## tuples: + and slices, any of them -/
theorem cutV_whole {xs : List V} {lo hi : Option Int} (h : HT.sIx xs.length 0 lo = 0 ∧ HT.sIx xs.length xs.length hi = xs.length) : cutV xs lo hi = xs := by
  unfold cutV
  rw [h.1, h.2, List.drop_zero, Nat.sub_zero, List.take_length]
theorem sl_tupB {K : PySem.W.Frag} (hK : X.K = K) : SlR X (fun x lo hi H Q => ∃ a xs, x = .ref a ∧ SqT K H a xs ∧ ∀ H' b, Same H H' → SqT K H' b (cutV xs lo hi) → Q (.ref b) H') := by
  subst hK
  intro pins s σ H x v vl vu lo hi sl Q I rx hs pl pu h
  obtain ⟨a, xs, rfl, hx, q⟩ := h
  exact sl_tupA pins s σ H _ v vl vu lo hi sl Q I rx hs pl pu ⟨a, xs, rfl, hx, fun hw => q H a (same_refl H) (by rw [cutV_whole hw]; exact hx), fun _ p np => q _ p (same_new np) (.of upd_same)⟩
end
/-- all but the lists of H0 -/
def wl (H0 H : Hp) : Hp := fun b => match H0 b with
  | some (.lst _) => none
  | _ => H b
/-! ## short data -/
def SmV (K : PySem.W.Frag) (H : Hp) (v : V) : Prop := ∃ d, Dp K H v d ∧ SmL 100 [d]
theorem SmV.same {K : PySem.W.Frag} {H H' : Hp} (e : Same H H') {v : V} (h : SmV K H v) : SmV K H' v := by
  obtain ⟨d, h1, h2⟩ := h
  exact ⟨d, Dp.same e h1, h2⟩
end Sg
set_option Elab.async false
set_option linter.all false
set_option maxRecDepth 100000
set_option maxHeartbeats 4000000
namespace Sg
open PySem PySem.Spec PyProof.Rows L2
/-! ## data is kept where only tables change -/
abbrev ExtN := @LamX.ExtN
theorem ext_of {H H' : Hp} (e : Same H H') : LamX.ExtN H H' := fun b o h _ => e b o h
theorem ext_tup {K : PySem.W.Frag} {H H' : Hp} {a : Addr} {xs : List V} (e : LamX.ExtN H H') (h : SqT K H a xs) : SqT K H' a xs := by
  rcases h with (h | ⟨o, h⟩) | h
  · exact .inl (.inl (e _ _ h fun ps z => nomatch z))
  · exact .inl (.inr ⟨o, e _ _ h fun ps z => nomatch z⟩)
  · exact .inr h
theorem ext_lst {K : PySem.W.Frag} {H H' : Hp} {a : Addr} {xs : List V} (e : LamX.ExtN H H') (h : SqL K H a xs) : SqL K H' a xs := by
  rcases h with (h | ⟨o, h⟩) | h
  · exact .inl (.inl (e _ _ h fun ps z => nomatch z))
  · exact .inl (.inr ⟨o, e _ _ h fun ps z => nomatch z⟩)
  · exact .inr h
mutual
theorem Dp.ext {K : PySem.W.Frag} {H H' : Hp} (e : LamX.ExtN H H') : ∀ {v : V} {d : PyData}, Dp K H v d → Dp K H' v d
  | _, _, .non => .non
  | _, _, .bl b => .bl b
  | _, _, .int i => .int i
  | _, _, .str x => .str x
  | _, _, .lst h r => .lst (ext_lst e h) (DpAll.ext e r)
  | _, _, .tup h r => .tup (ext_tup e h) (DpAll.ext e r)
theorem DpAll.ext {K : PySem.W.Frag} {H H' : Hp} (e : LamX.ExtN H H') : ∀ {vs : List V} {ds : List PyData}, DpAll K H vs ds → DpAll K H' vs ds
  | _, _, .nil => .nil
  | _, _, .cons a r => .cons (Dp.ext e a) (DpAll.ext e r)
end
mutual
theorem Tp.ext {K : PySem.W.Frag} {H H' : Hp} (e : LamX.ExtN H H') : ∀ {v : V} {d : PyData}, Tp K H v d → Tp K H' v d
  | _, _, .int i => .int i
  | _, _, .tu h r => .tu (ext_tup e h) (TpAll.ext e r)
theorem TpAll.ext {K : PySem.W.Frag} {H H' : Hp} (e : LamX.ExtN H H') : ∀ {vs : List V} {ds : List PyData}, TpAll K H vs ds → TpAll K H' vs ds
  | _, _, .no => .no
  | _, _, .on a r => .on (Tp.ext e a) (TpAll.ext e r)
end
theorem Aq.ext {K : PySem.W.Frag} {H H' : Hp} (e : LamX.ExtN H H') {v : V} {d : PyData} (h : Aq K H v d) : Aq K H' v d := by
  cases h with
  | data h => exact .data (Dp.ext e h)
  | dic h g =>
    refine .dic (e _ _ h fun ps z => nomatch z) ?_
    cases g with
    | no => exact .no
    | one t => exact .one (Tp.ext e t)
theorem AnyV.ext {K : PySem.W.Frag} {H H' : Hp} (e : LamX.ExtN H H') {v : V} (h : AnyV K H v) : AnyV K H' v := by
  obtain ⟨d, h1, h2⟩ := h
  exact ⟨d, h1.ext e, h2⟩
theorem PenAt.ext {H H' : Hp} {p : Addr} (e : LamX.ExtN H H') (h : PenAt H p) : PenAt H' p := by
  obtain ⟨a, b, c, h1, h2⟩ := h
  exact ⟨a, b, c, e _ _ h1 (fun ps z => nomatch z), h2⟩
theorem FrzT.ext {H H' : Hp} (e : LamX.ExtN H H') {a : Addr} {xs : List V} (h : FrzT H a xs) : FrzT H' a xs := by
  obtain ⟨ob, h1, h2⟩ := h
  exact ⟨ob, e _ _ h1 (fun ps z => nomatch z), h2⟩
/-! ## the code object of a def that makes lambdas -/
end Sg
set_option Elab.async false
set_option linter.all false
set_option maxRecDepth 100000
set_option maxHeartbeats 4000000
set_option Elab.async false
set_option linter.all false
set_option maxRecDepth 100000
set_option maxHeartbeats 4000000
namespace Sg
open PySem PySem.Spec PyProof.Rows L2
/-! ## short data, a dict at most on top -/
def AnyS (K : PySem.W.Frag) (H : Hp) (v : V) : Prop := ∃ d, Aq K H v d ∧ GoodD d ∧ d.bulk ≤ 900
theorem AnyS.same {K : PySem.W.Frag} {H H' : Hp} (e : Same H H') {v : V} (h : AnyS K H v) : AnyS K H' v := by
  obtain ⟨d, h1, h2⟩ := h
  exact ⟨d, h1.same e, h2⟩
theorem AnyS.ext {K : PySem.W.Frag} {H H' : Hp} (e : LamX.ExtN H H') {v : V} (h : AnyS K H v) : AnyS K H' v := by
  obtain ⟨d, h1, h2⟩ := h
  exact ⟨d, h1.ext e, h2⟩
theorem AnyS.any {K : PySem.W.Frag} {H : Hp} {v : V} (h : AnyS K H v) : AnyV K H v := by
  obtain ⟨d, h1, h2, _⟩ := h
  exact ⟨d, h1, h2⟩
def AllS (K : PySem.W.Frag) (H : Hp) (vs : List V) : Prop := ∀ v ∈ vs, AnyS K H v
theorem AllS.same {K : PySem.W.Frag} {H H' : Hp} (e : Same H H') {vs : List V} (h : AllS K H vs) : AllS K H' vs := fun v hv => (h v hv).same e
theorem AllS.app {K : PySem.W.Frag} {H : Hp} {vs us : List V} (h : AllS K H vs) (g : AllS K H us) : AllS K H (vs ++ us) := fun v hv => (List.mem_append.mp hv).elim (h v) (g v)
/-! ## what is no instance of an own class -/
/-! ## laps, worths: of any data -/
end Sg
set_option Elab.async false
set_option linter.all false
set_option maxRecDepth 100000
set_option maxHeartbeats 4000000
set_option Elab.async false
set_option linter.all false
set_option maxRecDepth 100000
set_option maxHeartbeats 4000000
namespace Sg
open PySem PySem.Spec PyProof.Rows L2
/-! ## data that may hold a Line: to the built-in types a Line looks as None does -/
mutual
inductive Lp (K : PySem.W.Frag) (C : Addr) (H : Hp) : V → PyData → Prop
  | non : Lp K C H .non .none
  | bl (b : Bool) : Lp K C H (.bl b) (.bool b)
  | int (i : Int) : Lp K C H (.int i) (.int i)
  | str (x : Str) : Lp K C H (.str x) (.str x)
  | lst {a : Addr} {xs : List V} {ds : List PyData} : SqL K H a xs → LpAll K C H xs ds → Lp K C H (.ref a) (.list ds)
  | tup {a : Addr} {xs : List V} {ds : List PyData} : SqT K H a xs → LpAll K C H xs ds → Lp K C H (.ref a) (.tuple ds)
  | line {a : Addr} {ws : List (List Int)} : LineAt K C H a ws → Lp K C H (.ref a) .none
  | dic {a : Addr} {kvs : List (L2.Key × V)} : H a = some (.dK kvs) → Lp K C H (.ref a) (.dict [])
inductive LpAll (K : PySem.W.Frag) (C : Addr) (H : Hp) : List V → List PyData → Prop
  | nil : LpAll K C H [] []
  | cons {v : V} {vs : List V} {d : PyData} {ds : List PyData} : Lp K C H v d → LpAll K C H vs ds → LpAll K C H (v :: vs) (d :: ds)
end
mutual
theorem Lp.ext {K : PySem.W.Frag} {C : Addr} {H H' : Hp} (e : LamX.ExtN H H') : ∀ {v : V} {d : PyData}, Lp K C H v d → Lp K C H' v d
  | _, _, .non => .non
  | _, _, .bl b => .bl b
  | _, _, .int i => .int i
  | _, _, .str x => .str x
  | _, _, .lst h r => .lst (ext_lst e h) (LpAll.ext e r)
  | _, _, .tup h r => .tup (ext_tup e h) (LpAll.ext e r)
  | _, _, .line h => .line (h.stay ⟨fun _ _ z => ext_tup e z, fun _ _ _ _ z => e _ _ z fun ps y => nomatch y⟩)
  | _, _, .dic h => .dic (e _ _ h fun ps y => nomatch y)
theorem LpAll.ext {K : PySem.W.Frag} {C : Addr} {H H' : Hp} (e : LamX.ExtN H H') : ∀ {vs : List V} {ds : List PyData}, LpAll K C H vs ds → LpAll K C H' vs ds
  | _, _, .nil => .nil
  | _, _, .cons a r => .cons (Lp.ext e a) (LpAll.ext e r)
end
theorem Lp.same {K : PySem.W.Frag} {C : Addr} {H H' : Hp} (e : Same H H') {v : V} {d : PyData} (h : Lp K C H v d) : Lp K C H' v d := h.ext (ext_of e)
theorem LpAll.same {K : PySem.W.Frag} {C : Addr} {H H' : Hp} (e : Same H H') {vs : List V} {ds : List PyData} (h : LpAll K C H vs ds) : LpAll K C H' vs ds := h.ext (ext_of e)
theorem LpAll.len {K : PySem.W.Frag} {C : Addr} {H : Hp} : ∀ {vs : List V} {ds : List PyData}, LpAll K C H vs ds → vs.length = ds.length
  | _, _, .nil => rfl
  | _, _, .cons _ r => congrArg (· + 1) (LpAll.len r)
theorem LpAll.at {K : PySem.W.Frag} {C : Addr} {H : Hp} : ∀ {vs : List V} {ds : List PyData} {i : Nat} {v : V}, LpAll K C H vs ds → vs[i]? = some v → ∃ d, ds[i]? = some d ∧ Lp K C H v d
  | _, _, _, _, .nil, h => nomatch h
  | _, _, 0, _, .cons a _, h => by cases h; exact ⟨_, rfl, a⟩
  | _, _, i + 1, _, .cons _ r, h => LpAll.at (i := i) r h
end Sg
set_option Elab.async false
set_option linter.all false
set_option maxRecDepth 100000
set_option maxHeartbeats 4000000
set_option Elab.async false
set_option linter.all false
set_option maxRecDepth 100000
set_option maxHeartbeats 4000000
set_option Elab.async false
set_option linter.all false
set_option maxRecDepth 100000
set_option maxHeartbeats 4000000
namespace Sg
open PySem PySem.Spec PyProof.Rows L2
/-! ## repr of rows with numbers of more digits -/
/-- what may be shown, its numbers up to 700 digits -/
structure GoodW (d : PyData) : Prop where
  sh : d.showable = true
  dp : d.depth ≤ 40
  lv : d.leavesShort 700 = true
  bk : d.bulk ≤ 1000
theorem GoodW.short {d : PyData} (h : GoodW d) : d.shown.length ≤ sizeLine := by
  have h1 := PyData.shown_le_bulk 700 (by decide) d h.lv
  have h2 := h.bk
  have h4 : sizeLine = 16777216 := sizeLine_eq
  omega
end Sg
set_option Elab.async false
set_option linter.all false
set_option maxRecDepth 100000
set_option maxHeartbeats 4000000
namespace Sg
open PySem PySem.Spec PyProof.Rows L2
/-! ## heaps in lists (heapq), as the interpreter does it -/
section
variable {α : Type} (lt : α → α → Bool)
def swapH (zs : List α) (i j : Nat) : List α := match zs[i]?, zs[j]? with
  | some x, some y => (zs.set i y).set j x
  | _, _ => zs
def childH (zs : List α) (pos : Nat) : Nat := match zs[2 * pos + 1]?, zs[2 * pos + 2]? with
  | some l, some r => if lt l r then 2 * pos + 1 else 2 * pos + 2
  | _, _ => 2 * pos + 1
def downH : Nat → List α → Nat → List α × Nat
  | 0, zs, pos => (zs, pos)
  | f + 1, zs, pos => if pos < zs.length / 2 then downH f (swapH zs (childH lt zs pos) pos) (childH lt zs pos) else (zs, pos)
def upH : Nat → List α → Nat → List α
  | 0, zs, _ => zs
  | f + 1, zs, pos => if 0 < pos then (match zs[pos]?, zs[(pos - 1) / 2]? with
    | some x, some y => if lt x y then upH f (swapH zs ((pos - 1) / 2) pos) ((pos - 1) / 2) else zs
    | _, _ => zs) else zs
def pushH (zs : List α) (z : α) : List α := upH lt (zs.length + 1) (zs ++ [z]) zs.length
/-- what is left when the first is taken -/
def restH (zs : List α) : List α := match zs.getLast? with
  | none => []
  | some z => if zs.length = 1 then [] else upH lt (zs.length - 1) (downH lt zs.length (zs.dropLast.set 0 z) 0).1 (downH lt zs.length (zs.dropLast.set 0 z) 0).2
end
theorem swapH_length {α : Type} (zs : List α) (i j : Nat) : (swapH zs i j).length = zs.length := by
  unfold swapH
  split
  · rw [List.length_set, List.length_set]
  · rfl
theorem entry_hsift : entryFor table "_heapq.heapify.sift" = some PySem.Builtin.«_heapq.heapify.sift» := by kernel_rfl
theorem entry_hpush : entryFor table "_heapq.heappush" = some PySem.Builtin.«_heapq.heappush» := by kernel_rfl
theorem entry_hpop : entryFor table "_heapq.heappop" = some PySem.Builtin.«_heapq.heappop» := by kernel_rfl
theorem plain_hsift : plainId "_heapq.heapify.sift" = true := by decide +kernel
theorem plain_hpush : plainId "_heapq.heappush" = true := by decide +kernel
theorem plain_hpop : plainId "_heapq.heappop" = true := by decide +kernel
end Sg
set_option Elab.async false
set_option linter.all false
set_option maxRecDepth 100000
set_option maxHeartbeats 4000000
namespace Sg
open PySem PySem.Spec PyProof.Rows L2
section
variable {β : Type} {prog : Program} {w : World} {A : Around} {R : Result → Shared → Prop}
abbrev fstA (zs : List (Value × β)) : Array Value := (zs.map Prod.fst).toArray
/-- the list at a, in this heap -/
def LstAt (h : Heap) (a : Addr) (zs : List (Value × β)) : Prop := ∃ n, h.get? a = some { cls := .type "list", data := .seq (fstA zs) n }
/-- all but a stays -/
def StayB (a : Addr) (h h' : Heap) : Prop := (∀ b o, b ≠ a → h.get? b = some o → h'.get? b = some o) ∧ h'.objs.size = h.objs.size
theorem StayB.refl (a : Addr) (h : Heap) : StayB a h h := ⟨fun _ _ _ e => e, rfl⟩
theorem StayB.trans {a : Addr} {h h1 h2 : Heap} (x : StayB a h h1) (y : StayB a h1 h2) : StayB a h h2 := ⟨fun b o n e => y.1 b o n (x.1 b o n e), y.2.trans x.2⟩
theorem StayB.upd {a : Addr} {h : Heap} {f : Obj → Obj} : StayB a h (h.update a f) := ⟨fun b o n e => (Heap.get?_update_other _ _ (Ne.symm n)).trans e, by simp [Heap.update]⟩
/-- the items compared, while all but a stays as in h0 -/
def CmpB (prog : Program) (w : World) (A : Around) (a : Addr) (h0 : Heap) (lt : Value × β → Value × β → Bool) (S : Value × β → Prop) : Prop :=
  ∀ x y, S x → S y → ∀ (s : Shared) (Q : Value → Shared → Prop) (E : Value → Shared → Prop), StayB a h0 s.heap → Q (.bool (lt x y)) s → wpAny (model prog w) A (richCompare .Lt x.1 y.1) Q E s
theorem get_fst {zs : List (Value × β)} {i : Nat} {z : Value × β} (h : zs[i]? = some z) : (fstA zs)[i]? = some z.1 := by
  rw [List.getElem?_toArray, List.getElem?_map, h]; rfl
theorem swap_fst {zs : List (Value × β)} {i j : Nat} {x y : Value × β} (hi : zs[i]? = some x) (hj : zs[j]? = some y) : ((fstA zs).setIfInBounds i y.1).setIfInBounds j x.1 = fstA (swapH zs i j) := by
  unfold swapH
  rw [hi, hj]
  simp only [fstA, List.setIfInBounds_toArray, List.map_set]
theorem swapH_mem {γ : Type} {zs : List γ} {i j : Nat} {z : γ} (h : z ∈ swapH zs i j) : z ∈ zs := by
  unfold swapH at h
  split at h
  · rename_i x y hx hy
    rcases List.mem_or_eq_of_mem_set h with h | rfl
    · rcases List.mem_or_eq_of_mem_set h with h | rfl
      · exact h
      · exact List.mem_of_getElem? hy
    · exact List.mem_of_getElem? hx
  · exact h
/-- what the sifting is called with -/
abbrev sArgs (a : Addr) (down : Bool) (pos : Nat) (v0 : Value) : Args := ⟨[.ref a, .bool false, .bool down, rawInt ((pos : Nat) : Int), rawInt ((0 : Nat) : Int), v0, rawInt (-1)], []⟩
theorem sift_up {lt : Value × β → Value × β → Bool} {S : Value × β → Prop} {a : Addr} {h0 : Heap} {v0 : Value} (cmp : CmpB prog w A.in1 a h0 lt S) :
    ∀ (f : Nat) (zs : List (Value × β)) (pos : Nat) (s : Shared), pos < f → pos < zs.length → zs.length ≤ sizeLine → (∀ z ∈ zs, S z) → LstAt s.heap a zs → StayB a h0 s.heap →
      (∀ h', LstAt h' a (upH lt f zs pos) → StayB a h0 h' → R (.ok (.ret v0)) { s with heap := h' }) →
      codeAny (model prog w) A (.builtin "_heapq.heapify.sift" (sArgs a false pos v0)) R s
  | 0, _, _, _, hf, _, _, _, _, _, _ => absurd hf (Nat.not_lt_zero _)
  | f + 1, zs, pos, s, hf, hp, hz, hS, hl, hb, hR => by
    obtain ⟨n, ho⟩ := hl
    refine codeAny_builtin entry_hsift ?_
    rw [Around.under_plainId plain_hsift _]
    show wpAny _ A.in1 (_ >>= _) _ _ s
    refine wpAny_bind ?_
    show wpAny _ A.in1 (seqItems? (.ref a) >>= _) _ _ s
    refine wpAny_bind (wpAny_seqItems ho rfl (wpAny_pure ?_))
    have tp : ((pos : Nat) : Int).toNat = pos := Int.toNat_natCast pos
    show wpAny _ A.in1 (if ((pos : Nat) : Int).toNat > (0 : Int).toNat then _ else _) _ _ s
    rw [tp]
    by_cases h0' : 0 < pos
    · rw [if_pos (show pos > (0 : Int).toNat from h0')]
      obtain ⟨x, hx⟩ : ∃ x, zs[pos]? = some x := ⟨_, List.getElem?_eq_getElem hp⟩
      have hpp : (pos - 1) / 2 < zs.length := by omega
      obtain ⟨y, hy⟩ : ∃ y, zs[(pos - 1) / 2]? = some y := ⟨_, List.getElem?_eq_getElem hpp⟩
      have sx := hS x (List.mem_of_getElem? hx)
      have sy := hS y (List.mem_of_getElem? hy)
      show wpAny _ A.in1 (_ >>= _) _ _ s
      refine wpAny_bind ?_
      show wpAny _ A.in1 (match (fstA zs)[pos]? with | some v => pure v | none => unsupported "internal:_heapq.index") _ _ s
      rw [get_fst hx]
      refine wpAny_pure ?_
      show wpAny _ A.in1 (_ >>= _) _ _ s
      refine wpAny_bind ?_
      show wpAny _ A.in1 (match (fstA zs)[(pos - 1) / 2]? with | some v => pure v | none => unsupported "internal:_heapq.index") _ _ s
      rw [get_fst hy]
      refine wpAny_pure ?_
      show wpAny _ A.in1 (_ >>= _) _ _ s
      refine wpAny_bind ?_
      show wpAny _ A.in1 (_ >>= _) _ _ s
      refine wpAny_bind (wpAny_holding (wpAny_bind (cmp x y sx sy _ _ _ hb ?_)))
      refine wpAny_truthy_bool ?_
      refine wpAny_bind ?_
      show wpAny _ A.in1 (seqItems? (.ref a) >>= _) _ _ s
      refine wpAny_bind (wpAny_seqItems ho rfl (wpAny_pure ?_))
      show wpAny _ A.in1 (if ((fstA zs).size != (fstA zs).size) = true then _ else pure (lt x y)) _ _ s
      rw [if_neg (by simp)]
      refine wpAny_pure ?_
      show wpAny _ A.in1 (if lt x y = true then _ else _) _ _ s
      cases hlt : lt x y with
      | false =>
        rw [if_neg (by decide)]
        show wpAny _ A.in1 (ret v0) _ _ s
        refine wpAny_pure ?_
        have := hR s.heap ⟨n, by rw [show upH lt (f + 1) zs pos = zs from by unfold upH; rw [if_pos h0', hx, hy]; show (if lt x y = true then _ else zs) = zs; rw [hlt]; rfl]; exact ho⟩ hb
        exact this
      | true =>
        rw [if_pos rfl]
        show wpAny _ A.in1 (_ >>= _) _ _ s
        refine wpAny_bind ?_
        show wpAny _ A.in1 (_ >>= _) _ _ s
        refine wpAny_bind ?_
        show wpAny _ A.in1 (seqItems? (.ref a) >>= _) _ _ s
        refine wpAny_bind (wpAny_seqItems ho rfl (wpAny_pure ?_))
        show wpAny _ A.in1 (_ >>= _) _ _ s
        refine wpAny_bind ?_
        show wpAny _ A.in1 (match (fstA zs)[(pos - 1) / 2]? with | some v => pure v | none => unsupported "internal:_heapq.index") _ _ s
        rw [get_fst hy]
        refine wpAny_pure ?_
        show wpAny _ A.in1 (_ >>= _) _ _ s
        refine wpAny_bind ?_
        show wpAny _ A.in1 (match (fstA zs)[pos]? with | some v => pure v | none => unsupported "internal:_heapq.index") _ _ s
        rw [get_fst hx]
        refine wpAny_pure ?_
        have lf : (fstA zs).size = zs.length := by simp [fstA]
        refine wpAny_updateSeq ho rfl ?_ (by rw [lf]; exact hz) (by rw [Array.size_setIfInBounds, Array.size_setIfInBounds, lf]; omega)
        refine wpAny_pure ⟨plainId_quiet plain_hsift _, ?_⟩
        have hq := PySem.IsL.update ho (fun xs => (xs.setIfInBounds ((pos - 1) / 2) x.1).setIfInBounds pos y.1)
        rw [swap_fst hy hx] at hq
        have ih := sift_up (v0 := v0) cmp f (swapH zs ((pos - 1) / 2) pos) ((pos - 1) / 2) { s with heap := s.heap.update a (Obj.mapSeq fun xs => (xs.setIfInBounds ((pos - 1) / 2) x.1).setIfInBounds pos y.1) } (by omega) (by rw [swapH_length]; exact hpp) (by rw [swapH_length]; exact hz)
          (fun z hz' => hS z (swapH_mem hz')) ⟨_, hq⟩ (hb.trans .upd) (fun h' hl' hb' => ?_)
        · exact ih
        · have := hR h' (by rw [show upH lt (f + 1) zs pos = upH lt f (swapH zs ((pos - 1) / 2) pos) ((pos - 1) / 2) from by
            conv => lhs; unfold upH
            rw [if_pos h0', hx, hy]
            show (if lt x y = true then _ else _) = _
            rw [if_pos hlt]]; exact hl') hb'
          exact this
    · rw [if_neg (show ¬ pos > (0 : Int).toNat from h0')]
      show wpAny _ A.in1 (ret v0) _ _ s
      refine wpAny_pure ?_
      have := hR s.heap ⟨n, by rw [show upH lt (f + 1) zs pos = zs from by unfold upH; rw [if_neg h0']]; exact ho⟩ hb
      exact this
theorem childH_cases (lt : Value × β → Value × β → Bool) {zs : List (Value × β)} {pos : Nat} (h : pos < zs.length / 2) : childH lt zs pos < zs.length ∧ pos < childH lt zs pos := by
  unfold childH
  split
  · rename_i l r hl hr
    have := (List.getElem?_eq_some_iff.mp hr).1
    split <;> omega
  · omega
theorem sift_down {lt : Value × β → Value × β → Bool} {S : Value × β → Prop} {a : Addr} {h0 : Heap} {v0 : Value} (cmp : CmpB prog w A.in1 a h0 lt S) :
    ∀ (f : Nat) (zs : List (Value × β)) (pos : Nat) (s : Shared), zs.length < f + pos → pos < zs.length → zs.length ≤ sizeLine → (∀ z ∈ zs, S z) → LstAt s.heap a zs → StayB a h0 s.heap →
      (∀ h', LstAt h' a (upH lt zs.length (downH lt f zs pos).1 (downH lt f zs pos).2) → StayB a h0 h' → R (.ok (.ret v0)) { s with heap := h' }) →
      codeAny (model prog w) A (.builtin "_heapq.heapify.sift" (sArgs a true pos v0)) R s
  | 0, zs, pos, _, hf, hp, _, _, _, _, _ => by omega
  | f + 1, zs, pos, s, hf, hp, hz, hS, hl, hb, hR => by
    obtain ⟨n, ho⟩ := hl
    have lf : (fstA zs).size = zs.length := by simp [fstA]
    refine codeAny_builtin entry_hsift ?_
    rw [Around.under_plainId plain_hsift _]
    show wpAny _ A.in1 (_ >>= _) _ _ s
    refine wpAny_bind ?_
    show wpAny _ A.in1 (seqItems? (.ref a) >>= _) _ _ s
    refine wpAny_bind (wpAny_seqItems ho rfl (wpAny_pure ?_))
    have tp : ((pos : Nat) : Int).toNat = pos := Int.toNat_natCast pos
    show wpAny _ A.in1 (if ((pos : Nat) : Int).toNat < (fstA zs).size / 2 then _ else _) _ _ s
    rw [tp, lf]
    by_cases hh : pos < zs.length / 2
    · rw [if_pos hh]
      obtain ⟨c1, c2⟩ := childH_cases lt hh
      obtain ⟨y, hy⟩ : ∃ y, zs[pos]? = some y := ⟨_, List.getElem?_eq_getElem hp⟩
      have ed : downH lt (f + 1) zs pos = downH lt f (swapH zs (childH lt zs pos) pos) (childH lt zs pos) := by
        conv => lhs; unfold downH
        rw [if_pos hh]
      have hl1 : 2 * pos + 1 < zs.length := by omega
      obtain ⟨l, hl⟩ : ∃ l, zs[2 * pos + 1]? = some l := ⟨_, List.getElem?_eq_getElem hl1⟩
      have sl := hS l (List.mem_of_getElem? hl)
      show wpAny _ A.in1 (if 2 * pos + 1 + 1 < zs.length then _ else _) _ _ s
      by_cases h2 : 2 * pos + 1 + 1 < zs.length
      · rw [if_pos h2]
        obtain ⟨r, hr⟩ : ∃ r, zs[2 * pos + 1 + 1]? = some r := ⟨_, List.getElem?_eq_getElem h2⟩
        have sr := hS r (List.mem_of_getElem? hr)
        show wpAny _ A.in1 (_ >>= _) _ _ s
        refine wpAny_bind ?_
        show wpAny _ A.in1 (match (fstA zs)[2 * pos + 1]? with | some v => pure v | none => unsupported "internal:_heapq.index") _ _ s
        rw [get_fst hl]
        refine wpAny_pure ?_
        show wpAny _ A.in1 (_ >>= _) _ _ s
        refine wpAny_bind ?_
        show wpAny _ A.in1 (match (fstA zs)[2 * pos + 1 + 1]? with | some v => pure v | none => unsupported "internal:_heapq.index") _ _ s
        rw [get_fst hr]
        refine wpAny_pure ?_
        show wpAny _ A.in1 (_ >>= _) _ _ s
        refine wpAny_bind ?_
        show wpAny _ A.in1 (_ >>= _) _ _ s
        refine wpAny_bind (wpAny_holding (wpAny_bind (cmp l r sl sr _ _ _ hb ?_)))
        refine wpAny_truthy_bool ?_
        refine wpAny_bind ?_
        show wpAny _ A.in1 (seqItems? (.ref a) >>= _) _ _ s
        refine wpAny_bind (wpAny_seqItems ho rfl (wpAny_pure ?_))
        show wpAny _ A.in1 (if ((fstA zs).size != zs.length) = true then _ else pure (lt l r)) _ _ s
        rw [if_neg (by rw [lf]; simp)]
        refine wpAny_pure ?_
        show wpAny _ A.in1 (if (!lt l r) = true then _ else _) _ _ s
        cases hlt : lt l r with
        | false =>
          rw [if_pos (by decide)]
          have ec : childH lt zs pos = 2 * pos + 1 + 1 := by unfold childH; rw [hl, hr]; show (if lt l r = true then _ else _) = _; rw [hlt]; rfl
          show wpAny _ A.in1 (_ >>= _) _ _ s
          refine wpAny_bind ?_
          show wpAny _ A.in1 (_ >>= _) _ _ s
          refine wpAny_bind ?_
          show wpAny _ A.in1 (seqItems? (.ref a) >>= _) _ _ s
          refine wpAny_bind (wpAny_seqItems ho rfl (wpAny_pure ?_))
          show wpAny _ A.in1 (_ >>= _) _ _ s
          refine wpAny_bind ?_
          show wpAny _ A.in1 (match (fstA zs)[2 * pos + 1 + 1]? with | some v => pure v | none => unsupported "internal:_heapq.index") _ _ s
          rw [get_fst hr]
          refine wpAny_pure ?_
          show wpAny _ A.in1 (_ >>= _) _ _ s
          refine wpAny_bind ?_
          show wpAny _ A.in1 (match (fstA zs)[pos]? with | some v => pure v | none => unsupported "internal:_heapq.index") _ _ s
          rw [get_fst hy]
          refine wpAny_pure ?_
          refine wpAny_updateSeq ho rfl ?_ (by rw [lf]; exact hz) (by rw [Array.size_setIfInBounds, Array.size_setIfInBounds, lf]; omega)
          refine wpAny_pure ⟨plainId_quiet plain_hsift _, ?_⟩
          have hq := PySem.IsL.update ho (fun xs => (xs.setIfInBounds (2 * pos + 1 + 1) y.1).setIfInBounds pos r.1)
          rw [swap_fst hr hy] at hq
          have ih := sift_down (v0 := v0) cmp f (swapH zs (2 * pos + 1 + 1) pos) (2 * pos + 1 + 1) { s with heap := s.heap.update a (Obj.mapSeq fun xs => (xs.setIfInBounds (2 * pos + 1 + 1) y.1).setIfInBounds pos r.1) } (by rw [swapH_length]; omega) (by rw [swapH_length]; omega) (by rw [swapH_length]; exact hz)
            (fun z hz' => hS z (swapH_mem hz')) ⟨_, hq⟩ (hb.trans .upd) (fun h' hl' hb' => ?_)
          · exact ih
          · rw [swapH_length] at hl'
            have := hR h' (by rw [ed, ec]; exact hl') hb'
            exact this
        | true =>
          rw [if_neg (by decide)]
          have ec : childH lt zs pos = 2 * pos + 1 := by unfold childH; rw [hl, hr]; show (if lt l r = true then _ else _) = _; rw [hlt]; rfl
          show wpAny _ A.in1 (_ >>= _) _ _ s
          refine wpAny_bind ?_
          show wpAny _ A.in1 (_ >>= _) _ _ s
          refine wpAny_bind ?_
          show wpAny _ A.in1 (seqItems? (.ref a) >>= _) _ _ s
          refine wpAny_bind (wpAny_seqItems ho rfl (wpAny_pure ?_))
          show wpAny _ A.in1 (_ >>= _) _ _ s
          refine wpAny_bind ?_
          show wpAny _ A.in1 (match (fstA zs)[2 * pos + 1]? with | some v => pure v | none => unsupported "internal:_heapq.index") _ _ s
          rw [get_fst hl]
          refine wpAny_pure ?_
          show wpAny _ A.in1 (_ >>= _) _ _ s
          refine wpAny_bind ?_
          show wpAny _ A.in1 (match (fstA zs)[pos]? with | some v => pure v | none => unsupported "internal:_heapq.index") _ _ s
          rw [get_fst hy]
          refine wpAny_pure ?_
          refine wpAny_updateSeq ho rfl ?_ (by rw [lf]; exact hz) (by rw [Array.size_setIfInBounds, Array.size_setIfInBounds, lf]; omega)
          refine wpAny_pure ⟨plainId_quiet plain_hsift _, ?_⟩
          have hq := PySem.IsL.update ho (fun xs => (xs.setIfInBounds (2 * pos + 1) y.1).setIfInBounds pos l.1)
          rw [swap_fst hl hy] at hq
          have ih := sift_down (v0 := v0) cmp f (swapH zs (2 * pos + 1) pos) (2 * pos + 1) { s with heap := s.heap.update a (Obj.mapSeq fun xs => (xs.setIfInBounds (2 * pos + 1) y.1).setIfInBounds pos l.1) } (by rw [swapH_length]; omega) (by rw [swapH_length]; omega) (by rw [swapH_length]; exact hz)
            (fun z hz' => hS z (swapH_mem hz')) ⟨_, hq⟩ (hb.trans .upd) (fun h' hl' hb' => ?_)
          · exact ih
          · rw [swapH_length] at hl'
            have := hR h' (by rw [ed, ec]; exact hl') hb'
            exact this
      · rw [if_neg h2]
        have ec : childH lt zs pos = 2 * pos + 1 := by unfold childH; rw [hl, show zs[2 * pos + 2]? = none from List.getElem?_eq_none (by omega)]
        show wpAny _ A.in1 (_ >>= _) _ _ s
        refine wpAny_bind ?_
        show wpAny _ A.in1 (_ >>= _) _ _ s
        refine wpAny_bind ?_
        show wpAny _ A.in1 (seqItems? (.ref a) >>= _) _ _ s
        refine wpAny_bind (wpAny_seqItems ho rfl (wpAny_pure ?_))
        show wpAny _ A.in1 (_ >>= _) _ _ s
        refine wpAny_bind ?_
        show wpAny _ A.in1 (match (fstA zs)[2 * pos + 1]? with | some v => pure v | none => unsupported "internal:_heapq.index") _ _ s
        rw [get_fst hl]
        refine wpAny_pure ?_
        show wpAny _ A.in1 (_ >>= _) _ _ s
        refine wpAny_bind ?_
        show wpAny _ A.in1 (match (fstA zs)[pos]? with | some v => pure v | none => unsupported "internal:_heapq.index") _ _ s
        rw [get_fst hy]
        refine wpAny_pure ?_
        refine wpAny_updateSeq ho rfl ?_ (by rw [lf]; exact hz) (by rw [Array.size_setIfInBounds, Array.size_setIfInBounds, lf]; omega)
        refine wpAny_pure ⟨plainId_quiet plain_hsift _, ?_⟩
        have hq := PySem.IsL.update ho (fun xs => (xs.setIfInBounds (2 * pos + 1) y.1).setIfInBounds pos l.1)
        rw [swap_fst hl hy] at hq
        have ih := sift_down (v0 := v0) cmp f (swapH zs (2 * pos + 1) pos) (2 * pos + 1) { s with heap := s.heap.update a (Obj.mapSeq fun xs => (xs.setIfInBounds (2 * pos + 1) y.1).setIfInBounds pos l.1) } (by rw [swapH_length]; omega) (by rw [swapH_length]; omega) (by rw [swapH_length]; exact hz)
          (fun z hz' => hS z (swapH_mem hz')) ⟨_, hq⟩ (hb.trans .upd) (fun h' hl' hb' => ?_)
        · exact ih
        · rw [swapH_length] at hl'
          have := hR h' (by rw [ed, ec]; exact hl') hb'
          exact this
    · rw [if_neg hh]
      refine wpAny_pure ⟨plainId_quiet plain_hsift _, ?_⟩
      have e : downH lt (f + 1) zs pos = (zs, pos) := by unfold downH; rw [if_neg hh]
      rw [e] at hR
      have up := sift_up (v0 := v0) cmp zs.length zs pos s hp hp hz hS ⟨n, ho⟩ hb hR
      exact up
end
end Sg
set_option Elab.async false
set_option linter.all false
set_option maxRecDepth 100000
set_option maxHeartbeats 4000000
namespace Sg
open PySem PySem.Spec PyProof.Rows L2
/-! ## heappush, heappop of data -/
section
variable {α γ : Type} {lt : α → α → Bool} {lt' : γ → γ → Bool} {f : α → γ}
theorem swapH_map (zs : List α) (i j : Nat) : (swapH zs i j).map f = swapH (zs.map f) i j := by
  unfold swapH
  rw [List.getElem?_map, List.getElem?_map]
  cases zs[i]? with
  | none => rfl
  | some x =>
    cases zs[j]? with
    | none => rfl
    | some y => show ((zs.set i y).set j x).map f = _; rw [List.map_set, List.map_set]; rfl
theorem childH_map (h : ∀ x y, lt' (f x) (f y) = lt x y) (zs : List α) (p : Nat) : childH lt' (zs.map f) p = childH lt zs p := by
  unfold childH
  rw [List.getElem?_map, List.getElem?_map]
  cases zs[2 * p + 1]? with
  | none => rfl
  | some x =>
    cases zs[2 * p + 2]? with
    | none => rfl
    | some y => show (if lt' (f x) (f y) = true then _ else _) = _; rw [h]
theorem upH_map (h : ∀ x y, lt' (f x) (f y) = lt x y) : ∀ (n : Nat) (zs : List α) (p : Nat), (upH lt n zs p).map f = upH lt' n (zs.map f) p
  | 0, _, _ => rfl
  | n + 1, zs, p => by
    unfold upH
    by_cases h0 : 0 < p
    · rw [if_pos h0, if_pos h0, List.getElem?_map, List.getElem?_map]
      cases zs[p]? with
      | none => rfl
      | some x =>
        cases zs[(p - 1) / 2]? with
        | none => rfl
        | some y =>
          show List.map f (if lt x y = true then _ else _) = if lt' (f x) (f y) = true then _ else _
          rw [h]
          cases lt x y with
          | true => rw [if_pos rfl, if_pos rfl, ← swapH_map]; exact upH_map h n _ _
          | false => rfl
    · rw [if_neg h0, if_neg h0]
theorem downH_map (h : ∀ x y, lt' (f x) (f y) = lt x y) : ∀ (n : Nat) (zs : List α) (p : Nat), (downH lt n zs p).1.map f = (downH lt' n (zs.map f) p).1 ∧ (downH lt n zs p).2 = (downH lt' n (zs.map f) p).2
  | 0, _, _ => ⟨rfl, rfl⟩
  | n + 1, zs, p => by
    unfold downH
    rw [List.length_map, childH_map h]
    by_cases h0 : p < zs.length / 2
    · rw [if_pos h0, if_pos h0, ← swapH_map]
      exact downH_map h n _ _
    · rw [if_neg h0, if_neg h0]
      exact ⟨rfl, rfl⟩
theorem pushH_map (h : ∀ x y, lt' (f x) (f y) = lt x y) (zs : List α) (z : α) : (pushH lt zs z).map f = pushH lt' (zs.map f) (f z) := by
  unfold pushH
  rw [upH_map h, List.map_append, List.length_map]
  rfl
theorem restH_map (h : ∀ x y, lt' (f x) (f y) = lt x y) (zs : List α) : (restH lt zs).map f = restH lt' (zs.map f) := by
  unfold restH
  rw [List.getLast?_map]
  cases zs.getLast? with
  | none => rfl
  | some z =>
    show List.map f (if zs.length = 1 then [] else _) = if (zs.map f).length = 1 then [] else _
    rw [List.length_map]
    by_cases h1 : zs.length = 1
    · rw [if_pos h1, if_pos h1]; rfl
    · rw [if_neg h1, if_neg h1, upH_map h, (downH_map h _ _ _).1, (downH_map h _ _ _).2, List.map_set, List.map_dropLast]
theorem upH_mem : ∀ (n : Nat) (zs : List α) (p : Nat) {z : α}, z ∈ upH lt n zs p → z ∈ zs
  | 0, _, _, _, h => h
  | n + 1, zs, p, z, h => by
    unfold upH at h
    split at h
    · split at h
      · split at h
        · exact swapH_mem (upH_mem n _ _ h)
        · exact h
      · exact h
    · exact h
theorem downH_mem : ∀ (n : Nat) (zs : List α) (p : Nat) {z : α}, z ∈ (downH lt n zs p).1 → z ∈ zs
  | 0, _, _, _, h => h
  | n + 1, zs, p, z, h => by
    unfold downH at h
    split at h
    · exact swapH_mem (downH_mem n _ _ h)
    · exact h
theorem upH_len : ∀ (n : Nat) (zs : List α) (p : Nat), (upH lt n zs p).length = zs.length
  | 0, _, _ => rfl
  | n + 1, zs, p => by
    unfold upH
    split
    · split
      · split
        · rw [upH_len n, swapH_length]
        · rfl
      · rfl
    · rfl
theorem downH_len : ∀ (n : Nat) (zs : List α) (p : Nat), (downH lt n zs p).1.length = zs.length
  | 0, _, _ => rfl
  | n + 1, zs, p => by
    unfold downH
    split
    · rw [downH_len n, swapH_length]
    · rfl
theorem pushH_len (zs : List α) (z : α) : (pushH lt zs z).length = zs.length + 1 := by unfold pushH; rw [upH_len, List.length_append]; rfl
theorem pushH_mem {zs : List α} {z x : α} (h : x ∈ pushH lt zs z) : x ∈ zs ∨ x = z := by
  have := upH_mem _ _ _ h
  rcases List.mem_append.mp this with h | h
  · exact .inl h
  · exact .inr (List.mem_singleton.mp h)
theorem restH_len (zs : List α) : (restH lt zs).length = zs.length - 1 := by
  unfold restH
  cases e : zs.getLast? with
  | none => rw [List.getLast?_eq_none_iff.mp e]; rfl
  | some z =>
    show (if zs.length = 1 then [] else _ : List α).length = _
    by_cases h1 : zs.length = 1
    · rw [if_pos h1, h1]; rfl
    · rw [if_neg h1, upH_len, downH_len, List.length_set, List.length_dropLast]
theorem restH_mem {zs : List α} {x : α} (h : x ∈ restH lt zs) : x ∈ zs := by
  unfold restH at h
  cases e : zs.getLast? with
  | none => rw [e] at h; exact nomatch h
  | some z =>
    rw [e] at h
    have h : x ∈ (if zs.length = 1 then [] else upH lt (zs.length - 1) (downH lt zs.length (zs.dropLast.set 0 z) 0).1 (downH lt zs.length (zs.dropLast.set 0 z) 0).2) := h
    split at h
    · exact nomatch h
    · have := downH_mem _ _ _ (upH_mem _ _ _ h)
      rcases List.mem_or_eq_of_mem_set this with h | h
      · exact (List.dropLast_sublist zs).subset h
      · rw [h]; exact List.mem_of_getLast? e
end
/-! ### data of tuples and ints -/
mutual
def tB : PyData → Bool
  | .int _ => true
  | .tuple ds => tBs ds
  | _ => false
def tBs : List PyData → Bool
  | [] => true
  | d :: ds => tB d && tBs ds
end
mutual
theorem reads_tB {h : Heap} : ∀ (d : PyData) (v : Value) (as : List Addr), Reads h v d as → tB d = true → as = []
  | .int _, _, _, .int _ _, _ => rfl
  | .tuple xs, _, _, .tuple _ _ _ r, e => reads_tBs xs _ _ r (by unfold tB at e; exact e)
theorem reads_tBs {h : Heap} : ∀ (ds : List PyData) (vs : List Value) (as : List Addr), ReadsAll h vs ds as → tBs ds = true → as = []
  | [], _, _, .nil, _ => rfl
  | d :: ds, _, _, .cons r q, e => by
    unfold tBs at e
    obtain ⟨e1, e2⟩ := Bool.and_eq_true_iff.mp e
    rw [reads_tB d _ _ r e1, reads_tBs ds _ _ q e2]; rfl
end
theorem kind_hpush : builtinKind "_heapq.heappush" = none := by decide +kernel
theorem kind_hpop : builtinKind "_heapq.heappop" = none := by decide +kernel
theorem args_hpush (a b : Value) : argsOk "_heapq.heappush" ⟨[a, b], []⟩ := by unfold argsOk; kernel_rfl
theorem args_hpop (a : Value) : argsOk "_heapq.heappop" ⟨[a], []⟩ := by unfold argsOk; kernel_rfl
/-- data that heapq may compare -/
structure Alk (ds : List PyData) : Prop where
  al : ∀ x ∈ ds, ∀ y ∈ ds, PySem.W.alike x y = true
  tb : ∀ x ∈ ds, tB x = true
  dp : ∀ x ∈ ds, x.depth ≤ 10
theorem tB_ne {d : PyData} (h : tB d = true) : d ≠ .none := by
  rintro rfl
  unfold tB at h
  exact nomatch h
/-- the values, the model's and ours, with their data -/
abbrev Z3 := Value × V × PyData
def ltZ (x y : Z3) : Bool := PySem.W.dataLt x.2.2 y.2.2
def ltV (x y : V × PyData) : Bool := PySem.W.dataLt x.2 y.2
section
variable {X : Cx} {pins : List (Addr × Obj)} {σ : L2.St} {H : Hp} {s : Shared}
structure ZOk (h : Heap) (all : List Z3) (z : Z3) : Prop where
  mem : z ∈ all
  rel : RelV z.2.1 z.1
  rd : Reads h z.1 z.2.2 []
theorem cmp_ok {prog : Program} {w : World} {A : Around} {a : Addr} {h0 : Heap} {all : List Z3} (k : Alk (all.map fun z => z.2.2)) (hu : A.units + 10 < cLine) (ha : ∀ o, h0.get? a = some o → o.cls = .type "list") :
    CmpB prog w A a h0 ltZ (ZOk h0 all) := fun x y hx hy s Q E hs hq => by
  have mx : x.2.2 ∈ all.map fun z => z.2.2 := List.mem_map_of_mem hx.mem
  have my : y.2.2 ∈ all.map fun z => z.2.2 := List.mem_map_of_mem hy.mem
  have rx := PySem.W.Reads.keepBut (a := a) hs.1 ha _ _ _ (k.al _ mx _ mx) hx.rd (by simp)
  have ry := PySem.W.Reads.keepBut (a := a) hs.1 ha _ _ _ (k.al _ my _ my) hy.rd (by simp)
  have := k.dp _ mx
  have := Nat.min_le_left x.2.2.depth y.2.2.depth
  exact PySem.W.rcLt_alike _ _ A s _ _ _ _ rx ry (k.al _ mx _ my) (tB_ne (k.tb _ mx)) (by omega) _ _ _ _ hq
end
end Sg
set_option Elab.async false
set_option linter.all false
set_option maxRecDepth 100000
set_option maxHeartbeats 4000000
namespace Sg
open PySem PySem.Spec PyProof.Rows L2
section
variable {X : Cx} {pins : List (Addr × Obj)} {σ : L2.St} {H : Hp} {s : Shared}
theorem zip_rel : ∀ {zs : List (V × PyData)} {its : List Value}, Vals (zs.map Prod.fst) its → ∀ z ∈ its.zip zs, RelV z.2.1 z.1 ∧ z.2 ∈ zs
  | [], _, .nil, z, h => nomatch h
  | a :: zs, _, .cons r t, z, h => by
    rcases List.mem_cons.mp h with rfl | h
    · exact ⟨r, List.mem_cons_self⟩
    · obtain ⟨h1, h2⟩ := zip_rel t z h
      exact ⟨h1, List.mem_cons_of_mem _ h2⟩
theorem zip_ok (I : Inv X pins σ H s) {zs : List (V × PyData)} {its : List Value} {all : List Z3} (rv : Vals (zs.map Prod.fst) its) (hd : ∀ z ∈ zs, Dp X.K H z.1 z.2) (hb : ∀ z ∈ zs, tB z.2 = true) (sub : ∀ z ∈ its.zip zs, z ∈ all) :
    ∀ z ∈ its.zip zs, ZOk s.heap all z := fun z hz => by
  obtain ⟨r, m⟩ := zip_rel rv z hz
  obtain ⟨as, rd⟩ := Dp.reads I _ _ _ (hd _ m) r
  have := reads_tB _ _ _ rd (hb _ m)
  subst this
  exact ⟨sub z hz, r, rd⟩
theorem vals_of : ∀ {zs : List Z3}, (∀ z ∈ zs, RelV z.2.1 z.1) → Vals (zs.map fun z => z.2.1) (zs.map Prod.fst)
  | [], _ => .nil
  | z :: zs, h => .cons (h z List.mem_cons_self) (vals_of fun x hx => h x (List.mem_cons_of_mem _ hx))
/-- a list's items, told by the values that stand there now -/
theorem lst_write (I : Inv X pins σ H s) {l : Addr} {xs : List V} {zs : List Z3} {h' : Heap} (hH : H l = some (.lst xs)) (hl : LstAt h' l zs) (hb : StayB l s.heap h') (hz : zs.length ≤ sizeLine) (hv : ∀ z ∈ zs, RelV z.2.1 z.1) :
    Inv X pins σ (upd H l (.lst (zs.map fun z => z.2.1))) { s with heap := h' } := by
  obtain ⟨n, e⟩ := hl
  refine I.write (t' := s.toks) (x := l) (e := l) (by rw [hH]; exact trivial) (.inl rfl) hb.1 ⟨_, e⟩ ?_
  exact ⟨by rw [List.length_map]; exact hz, zs.map Prod.fst, n, vals_of hv, e⟩
def rPush (K : PySem.W.Frag) : List V → Hp → VK → Prop := fun vs H Q => ∃ (l : Addr) (v : V) (d : PyData) (zs : List (V × PyData)), vs = [.ref l, v] ∧ H l = some (.lst (zs.map Prod.fst)) ∧ (∀ z ∈ zs, Dp K H z.1 z.2) ∧ Dp K H v d ∧ Alk (d :: zs.map Prod.snd) ∧ zs.length < sizeLine ∧
  Q .non (upd H l (.lst ((pushH ltV zs (v, d)).map Prod.fst)))
theorem cr_hpush {j : Nat} (hr : Room j X.A) : CallR X (.builtin "_heapq.heappush") (rPush X.K) := by
  intro pins s σ H vs us Q I r h
  obtain ⟨l, v, d, zs, rfl, hH, hd, hv, hk, hz, q⟩ := h
  obtain ⟨u1, us', r1, r2, rfl⟩ : ∃ u1 us', RelV (.ref l) u1 ∧ Vals [v] us' ∧ us = u1 :: us' := by
    cases r with
    | cons a b => exact ⟨_, _, a, b, rfl⟩
  obtain ⟨u2, rfl, rv2⟩ := vals1 r2
  cases r1
  obtain ⟨_, its, n, rv, ln, e⟩ := I.lstM hH
  rw [List.length_map] at ln
  have hu := hr.units
  have f1 : (its.zip zs).map Prod.fst = its := List.map_fst_zip (by omega)
  have f2 : (its.zip zs).map Prod.snd = zs := List.map_snd_zip (by omega)
  let all : List Z3 := (u2, v, d) :: its.zip zs
  have ok0 : ∀ z ∈ its.zip zs, ZOk s.heap all z := zip_ok I rv hd (fun z hz => hk.tb _ (List.mem_cons_of_mem _ (List.mem_map_of_mem hz))) fun z hz => List.mem_cons_of_mem _ hz
  obtain ⟨as, rd⟩ := Dp.reads I _ _ _ hv rv2
  have ae := reads_tB _ _ _ rd (hk.tb _ List.mem_cons_self)
  subst ae
  have ok1 : ZOk s.heap all (u2, v, d) := ⟨List.mem_cons_self, rv2, rd⟩
  have kall : Alk (all.map fun z => z.2.2) := by
    have : (all.map fun z : Z3 => z.2.2) = d :: zs.map Prod.snd := by
      show d :: (its.zip zs).map (fun z : Z3 => z.2.2) = _
      rw [show (fun z : Z3 => z.2.2) = Prod.snd ∘ Prod.snd from rfl, ← List.map_map, f2]
    rw [this]; exact hk
  have ha : ∀ o, s.heap.get? l = some o → o.cls = .type "list" := fun o ho => by rw [e] at ho; cases ho; rfl
  refine call_function_tree kind_hpush plain_hpush entry_hpush (args_hpush _ _) ?_
  show wpAny _ X.A.in1 (_ >>= _) _ _ s
  refine wpAny_bind ?_
  show wpAny _ X.A.in1 (_ >>= _) _ _ s
  refine wpAny_bind ?_
  show wpAny _ X.A.in1 (pure ()) _ _ s
  refine wpAny_pure ?_
  show wpAny _ X.A.in1 (_ >>= _) _ _ s
  refine wpAny_bind ?_
  show wpAny _ X.A.in1 (pure ()) _ _ s
  refine wpAny_pure ?_
  show wpAny _ X.A.in1 (_ >>= _) _ _ s
  refine wpAny_bind ?_
  show wpAny _ X.A.in1 (isInstance (.ref l) (.type "list") >>= _) _ _ s
  refine wpAny_bind (wpAny_isInstance (T := "list") (b := true) ⟨_, e, rfl⟩ (by kernel_rfl) ?_)
  show wpAny _ X.A.in1 (pure l) _ _ s
  refine wpAny_pure ?_
  refine wpAny_pure ?_
  show wpAny _ X.A.in1 (_ >>= _) _ _ s
  refine wpAny_bind ?_
  refine wpAny_updateSeq e rfl ?_ (by rw [List.size_toArray]; omega) (by rw [Array.size_push, List.size_toArray]; omega)
  have e1 := PySem.IsL.update e (fun x => x.push u2)
  have hfst : its.toArray.push u2 = fstA (its.zip zs ++ [((u2, v, d) : Z3)]) := by
    unfold fstA
    rw [List.map_append, f1]
    simp
  rw [hfst] at e1
  show wpAny _ X.A.in1 (_ >>= _) _ _ _
  refine wpAny_bind ?_
  show wpAny _ X.A.in1 (seqItems? (.ref l) >>= _) _ _ _
  refine wpAny_bind (wpAny_seqItems e1 rfl (wpAny_pure ?_))
  refine wpAny_pure ⟨plainId_quiet plain_hsift _, ?_⟩
  have lz : (its.zip zs).length = zs.length := by rw [List.length_zip]; omega
  have ls : (fstA (its.zip zs ++ [((u2, v, d) : Z3)])).size - 1 = zs.length := by simp [fstA, lz]
  rw [ls]
  have cmp := cmp_ok (prog := X.prog) (w := X.w) (A := X.A.in1) (a := l) (h0 := s.heap) kall (by show X.A.units + 1 + 10 < cLine; omega) ha
  have okA : ∀ z ∈ its.zip zs ++ [((u2, v, d) : Z3)], ZOk s.heap all z := fun z hz => by
    rcases List.mem_append.mp hz with h | h
    · exact ok0 z h
    · rw [List.mem_singleton.mp h]; exact ok1
  have lz2 : (its.zip zs ++ [((u2, v, d) : Z3)]).length = zs.length + 1 := by rw [List.length_append, lz]; rfl
  have go := sift_up (R := fun r s' => match r with
      | .ok (.ret v) => EP X pins σ Q v s'
      | .ok _ => False
      | .error e => X.xe e s') (v0 := .none) cmp (zs.length + 1) (its.zip zs ++ [((u2, v, d) : Z3)]) zs.length { s with heap := s.heap.update l (Obj.mapSeq fun x => x.push u2) } (by omega) (by omega) (by omega) okA ⟨_, e1⟩ .upd (fun h' hl' hb' => ?_)
  · exact go
  · have mem : ∀ z ∈ upH ltZ (zs.length + 1) (its.zip zs ++ [((u2, v, d) : Z3)]) zs.length, RelV z.2.1 z.1 := fun z hz => (okA z (upH_mem _ _ _ hz)).rel
    have I' := lst_write I hH hl' hb' (by rw [upH_len]; omega) mem
    refine ⟨.non, _, I', rfl, ?_⟩
    have : ((upH ltZ (zs.length + 1) (its.zip zs ++ [((u2, v, d) : Z3)]) zs.length).map fun z => z.2.1) = (pushH ltV zs (v, d)).map Prod.fst := by
      rw [show (fun z : Z3 => z.2.1) = Prod.fst ∘ Prod.snd from rfl, ← List.map_map, upH_map (lt := ltZ) (lt' := ltV) (f := Prod.snd) (fun _ _ => rfl), List.map_append, f2]
      rfl
    rw [this]
    exact q
def rPop (K : PySem.W.Frag) : List V → Hp → VK → Prop := fun vs H Q => ∃ (l : Addr) (zs : List (V × PyData)) (z : V × PyData), vs = [.ref l] ∧ H l = some (.lst (zs.map Prod.fst)) ∧ zs[0]? = some z ∧ (∀ z ∈ zs, Dp K H z.1 z.2) ∧ Alk (zs.map Prod.snd) ∧
  Q z.1 (upd H l (.lst ((restH ltV zs).map Prod.fst)))
theorem cr_hpop {j : Nat} (hr : Room j X.A) : CallR X (.builtin "_heapq.heappop") (rPop X.K) := by
  intro pins s σ H vs us Q I r h
  obtain ⟨l, zs, z, rfl, hH, h0, hd, hk, q⟩ := h
  obtain ⟨u1, rfl, r1⟩ := vals1 r
  cases r1
  obtain ⟨hzs, its, n, rv, ln, e⟩ := I.lstM hH
  rw [List.length_map] at ln hzs
  have hu := hr.units
  have f1 : (its.zip zs).map Prod.fst = its := List.map_fst_zip (by omega)
  have f2 : (its.zip zs).map Prod.snd = zs := List.map_snd_zip (by omega)
  let ys : List Z3 := its.zip zs
  have ok0 : ∀ z ∈ ys, ZOk s.heap ys z := zip_ok I rv hd (fun z hz => hk.tb _ (List.mem_map_of_mem hz)) fun z hz => hz
  have kall : Alk (ys.map fun z => z.2.2) := by
    have : (ys.map fun z : Z3 => z.2.2) = zs.map Prod.snd := by
      show (its.zip zs).map (fun z : Z3 => z.2.2) = _
      rw [show (fun z : Z3 => z.2.2) = Prod.snd ∘ Prod.snd from rfl, ← List.map_map, f2]
    rw [this]; exact hk
  have ha : ∀ o, s.heap.get? l = some o → o.cls = .type "list" := fun o ho => by rw [e] at ho; cases ho; rfl
  have lz : ys.length = zs.length := by show (its.zip zs).length = _; rw [List.length_zip]; omega
  have pos : 0 < zs.length := (List.getElem?_eq_some_iff.mp h0).1
  have efst : its.toArray = fstA ys := by show _ = ((its.zip zs).map Prod.fst).toArray; rw [f1]
  rw [efst] at e
  obtain ⟨y0, hy0⟩ : ∃ y, ys[0]? = some y := ⟨_, List.getElem?_eq_getElem (by omega)⟩
  have ey0 : y0.2 = z := by
    have : (ys.map Prod.snd)[0]? = some z := by show ((its.zip zs).map Prod.snd)[0]? = _; rw [f2]; exact h0
    rw [List.getElem?_map, hy0] at this
    exact Option.some.inj this
  have lf : (fstA ys).size = zs.length := by simp [fstA, lz]
  have hlast : ys.getLast? = some (ys.getLast (fun e0 => by rw [e0] at lz; simp at lz; omega)) := List.getLast?_eq_some_getLast _
  generalize ys.getLast (fun e0 => by rw [e0] at lz; simp at lz; omega) = yl at hlast
  have eback : (fstA ys).back? = some yl.1 := by
    rw [List.back?_toArray, List.getLast?_map, hlast]; rfl
  have epop : (fstA ys).pop = fstA ys.dropLast := by
    unfold fstA
    rw [List.pop_toArray, List.map_dropLast]
  refine call_function_tree kind_hpop plain_hpop entry_hpop (args_hpop _) ?_
  show wpAny _ X.A.in1 (_ >>= _) _ _ s
  refine wpAny_bind ?_
  show wpAny _ X.A.in1 (_ >>= _) _ _ s
  refine wpAny_bind ?_
  show wpAny _ X.A.in1 (_ >>= _) _ _ s
  refine wpAny_bind ?_
  show wpAny _ X.A.in1 (pure ()) _ _ s
  refine wpAny_pure ?_
  show wpAny _ X.A.in1 (pure (Value.ref l)) _ _ s
  refine wpAny_pure ?_
  show wpAny _ X.A.in1 (_ >>= _) _ _ s
  refine wpAny_bind ?_
  show wpAny _ X.A.in1 (isInstance (.ref l) (.type "list") >>= _) _ _ s
  refine wpAny_bind (wpAny_isInstance (T := "list") (b := true) ⟨_, e, rfl⟩ (by kernel_rfl) ?_)
  show wpAny _ X.A.in1 (pure l) _ _ s
  refine wpAny_pure ?_
  refine wpAny_pure ?_
  show wpAny _ X.A.in1 (_ >>= _) _ _ s
  refine wpAny_bind ?_
  show wpAny _ X.A.in1 (seqItems? (.ref l) >>= _) _ _ _
  refine wpAny_bind (wpAny_seqItems e rfl (wpAny_pure ?_))
  rw [eback]
  show wpAny _ X.A.in1 (_ >>= _) _ _ s
  refine wpAny_bind ?_
  refine wpAny_updateSeq e rfl ?_ (by rw [lf]; exact hzs) (by rw [Array.size_pop, lf]; omega)
  have e1 := PySem.IsL.update e (fun x => x.pop)
  rw [epop] at e1
  show wpAny _ X.A.in1 (if ((fstA ys).size == 1) = true then _ else _) _ _ _
  by_cases h1 : zs.length = 1
  · rw [if_pos (by rw [lf, h1]; rfl)]
    have el : ys = [y0] := by
      match ys, lz.trans h1, hy0 with
      | [y], _, h => cases h; rfl
    have eyl : yl = y0 := by rw [el] at hlast; exact (Option.some.inj hlast).symm
    show wpAny _ X.A.in1 (ret yl.1) _ _ _
    refine wpAny_pure ?_
    have I' := lst_write (zs := []) (h' := s.heap.update l (Obj.mapSeq fun x => x.pop)) I hH ⟨_, by rw [el] at e1; exact e1⟩ .upd (Nat.zero_le _) (fun z hz => nomatch hz)
    refine ⟨y0.2.1, _, I', by rw [eyl]; exact (ok0 y0 (List.mem_of_getElem? hy0)).rel, ?_⟩
    rw [ey0]
    have : restH ltV zs = [] := List.eq_nil_of_length_eq_zero (by rw [restH_len]; omega)
    rw [this] at q
    exact q
  · rw [if_neg (by rw [lf]; simp [h1])]
    show wpAny _ X.A.in1 (_ >>= _) _ _ _
    refine wpAny_bind ?_
    show wpAny _ X.A.in1 (match (fstA ys)[0]? with | some v => pure v | none => unsupported "internal:_heapq.index") _ _ _
    rw [get_fst hy0]
    refine wpAny_pure ?_
    show wpAny _ X.A.in1 (_ >>= _) _ _ _
    refine wpAny_bind ?_
    have ld : ys.dropLast.length = zs.length - 1 := by rw [List.length_dropLast, lz]
    have ld2 : (fstA ys.dropLast).size = zs.length - 1 := by simp [fstA, lz]
    refine wpAny_updateSeq e1 rfl ?_ (by rw [ld2]; omega) (by rw [Array.size_setIfInBounds, ld2]; omega)
    have e2 := PySem.IsL.update e1 (fun x => x.setIfInBounds 0 yl.1)
    have eset : (fstA ys.dropLast).setIfInBounds 0 yl.1 = fstA (ys.dropLast.set 0 yl) := by
      unfold fstA
      rw [List.setIfInBounds_toArray, List.map_set]
    rw [eset] at e2
    refine wpAny_pure ⟨plainId_quiet plain_hsift _, ?_⟩
    have cmp := cmp_ok (prog := X.prog) (w := X.w) (A := X.A.in1) (a := l) (h0 := s.heap) kall (by show X.A.units + 1 + 10 < cLine; omega) ha
    have okA : ∀ z ∈ ys.dropLast.set 0 yl, ZOk s.heap ys z := fun z hz => by
      rcases List.mem_or_eq_of_mem_set hz with h | h
      · exact ok0 z ((List.dropLast_sublist ys).subset h)
      · rw [h]; exact ok0 yl (List.mem_of_getLast? hlast)
    have lset : (ys.dropLast.set 0 yl).length = zs.length - 1 := by rw [List.length_set, ld]
    have go := sift_down (R := fun r s' => match r with
        | .ok (.ret v) => EP X pins σ Q v s'
        | .ok _ => False
        | .error e => X.xe e s') (v0 := y0.1) cmp ys.length (ys.dropLast.set 0 yl) 0 { s with heap := (s.heap.update l (Obj.mapSeq fun x => x.pop)).update l (Obj.mapSeq fun x => x.setIfInBounds 0 yl.1) } (by omega) (by omega) (by omega) okA ⟨_, e2⟩ (StayB.trans .upd .upd) (fun h' hl' hb' => ?_)
    · exact go
    · rw [lset] at hl'
      have hl' : LstAt h' l (upH ltZ (zs.length - 1) (downH ltZ ys.length (ys.dropLast.set 0 yl) 0).1 (downH ltZ ys.length (ys.dropLast.set 0 yl) 0).2) := hl'
      have er : restH ltZ ys = upH ltZ (zs.length - 1) (downH ltZ ys.length (ys.dropLast.set 0 yl) 0).1 (downH ltZ ys.length (ys.dropLast.set 0 yl) 0).2 := by
        unfold restH
        rw [hlast]
        show (if ys.length = 1 then [] else upH ltZ (ys.length - 1) _ _) = _
        rw [if_neg (by rw [lz]; exact h1), lz]
      rw [← er] at hl'
      have mem : ∀ z ∈ restH ltZ ys, RelV z.2.1 z.1 := fun z hz => (ok0 z (restH_mem hz)).rel
      have I' := lst_write I hH hl' hb' (by rw [restH_len, lz]; omega) mem
      refine ⟨y0.2.1, _, I', (ok0 y0 (List.mem_of_getElem? hy0)).rel, ?_⟩
      have : ((restH ltZ ys).map fun z => z.2.1) = (restH ltV zs).map Prod.fst := by
        rw [show (fun z : Z3 => z.2.1) = Prod.fst ∘ Prod.snd from rfl, ← List.map_map, restH_map (lt := ltZ) (lt' := ltV) (f := Prod.snd) (fun _ _ => rfl)]
        show ((restH ltV ((its.zip zs).map Prod.snd)).map Prod.fst) = _
        rw [f2]
      rw [this, ey0]
      exact q
end
end Sg
set_option Elab.async false
set_option linter.all false
set_option maxRecDepth 100000
set_option maxHeartbeats 4000000
namespace Sg
open PySem PySem.Spec PyProof.Rows L2
/-! ## waits: places and items of the queue -/
abbrev Plc := Int × Int
abbrev plD (p : Plc) : PyData := tD [p.1, p.2]
abbrev plsD (ps : List Plc) : List PyData := ps.map plD
def plLt (p q : Plc) : Bool := decide (p.1 < q.1) || (decide (p.1 = q.1) && decide (p.2 < q.2))
def plLe (p q : Plc) : Bool := !plLt q p
def insP (p : Plc) : List Plc → List Plc
  | [] => [p]
  | q :: r => if plLe p q then p :: q :: r else q :: insP p r
def sortP : List Plc → List Plc
  | [] => []
  | p :: r => insP p (sortP r)
theorem insP_perm (p : Plc) : ∀ r : List Plc, List.Perm (insP p r) (p :: r)
  | [] => .refl _
  | q :: r => by
    unfold insP
    split
    · exact .refl _
    · exact ((insP_perm p r).cons q).trans (.swap _ _ _)
theorem sortP_perm : ∀ r : List Plc, List.Perm (sortP r) r
  | [] => .refl _
  | p :: r => (insP_perm p _).trans ((sortP_perm r).cons p)
theorem plLe_iff (p q : Plc) : plLe p q = true ↔ p.1 < q.1 ∨ (p.1 = q.1 ∧ p.2 ≤ q.2) := by
  unfold plLe plLt
  simp only [Bool.not_eq_true', Bool.or_eq_false_iff, Bool.and_eq_false_iff, decide_eq_false_iff_not]
  omega
theorem plLe_trans {p q r : Plc} (h : plLe p q = true) (g : plLe q r = true) : plLe p r = true := by
  rw [plLe_iff] at h g ⊢
  omega
theorem plLe_total (p q : Plc) : (plLe p q || plLe q p) = true := by
  rw [Bool.or_eq_true, plLe_iff, plLe_iff]
  omega
theorem plLe_anti {p q : Plc} (h : plLe p q = true) (g : plLe q p = true) : p = q := by
  rw [plLe_iff] at h g
  exact Prod.ext (by omega) (by omega)
theorem insP_sorted (p : Plc) : ∀ {r : List Plc}, r.Pairwise (fun a b => plLe a b = true) → (insP p r).Pairwise (fun a b => plLe a b = true)
  | [], _ => by unfold insP; exact List.pairwise_singleton _ _
  | q :: r, h => by
    unfold insP
    obtain ⟨h1, h2⟩ := List.pairwise_cons.mp h
    split
    · rename_i hp
      exact List.pairwise_cons.mpr ⟨fun x hx => by
        rcases List.mem_cons.mp hx with rfl | hx
        · exact hp
        · exact plLe_trans hp (h1 x hx), h⟩
    · rename_i hp
      have hq : plLe q p = true := by
        have := plLe_total p q
        rw [Bool.or_eq_true] at this
        rcases this with z | z
        · exact absurd z hp
        · exact z
      exact List.pairwise_cons.mpr ⟨fun x hx => by
        rcases List.mem_cons.mp ((insP_perm p r).mem_iff.mp hx) with rfl | hx
        · exact hq
        · exact h1 x hx, insP_sorted p h2⟩
theorem sortP_sorted : ∀ r : List Plc, (sortP r).Pairwise (fun a b => plLe a b = true)
  | [] => .nil
  | p :: r => insP_sorted p (sortP_sorted r)
theorem sortP_merge (ps : List Plc) : ps.mergeSort plLe = sortP ps := by
  refine List.Perm.eq_of_pairwise (le := fun a b => plLe a b = true) (fun a b _ _ h g => plLe_anti h g) ?_ (sortP_sorted ps) ((List.mergeSort_perm ps plLe).trans (sortP_perm ps).symm)
  exact List.pairwise_mergeSort (le := plLe) (fun a b c h g => plLe_trans h g) plLe_total ps
theorem dataLt_pl (p q : Plc) : PySem.W.dataLt (plD p) (plD q) = plLt p q := by
  show PySem.W.dataLt (.tuple [.int p.1, .int p.2]) (.tuple [.int q.1, .int q.2]) = _
  rw [PySem.W.dataLt_ii]
  unfold plLt
  by_cases h1 : p.1 < q.1 <;> by_cases h2 : p.1 = q.1 <;> by_cases h3 : p.2 < q.2 <;> simp [h1, h2, h3]
theorem sort_pls {ys : List V} {ps : List Plc} (h : ys.length = ps.length) : ((ys.zip (plsD ps)).mergeSort (PySem.W.dataLe false (·.2))).map (·.2) = plsD (sortP ps) := by
  rw [List.map_mergeSort (r := PySem.W.dataLe false (fun b : V × PyData => b.2)) (s := PySem.W.dataLe false (fun d : PyData => d)) (f := fun b : V × PyData => b.2) (fun a _ b _ => rfl), zip_snd (by rw [h, List.length_map]), ← sortP_merge]
  exact (List.map_mergeSort (r := plLe) (f := plD) (fun a _ b _ => by
    show plLe a b = !PySem.W.dataLt (plD b) (plD a)
    rw [dataLt_pl]; rfl)).symm
/-! ### lists of whole numbers, of places, the less -/
def lexI : List Int → List Int → Bool
  | _, [] => false
  | [], _ :: _ => true
  | x :: xs, y :: ys => if x = y then lexI xs ys else decide (x < y)
def lexP : List Plc → List Plc → Bool
  | _, [] => false
  | [], _ :: _ => true
  | x :: xs, y :: ys => if x = y then lexP xs ys else plLt x y
abbrev It := Int × List Int × List Plc
def itD (i : It) : PyData := .tuple [.int i.1, tD i.2.1, .tuple (plsD i.2.2)]
def itLt (x y : It) : Bool := if x.1 = y.1 then (if x.2.1 = y.2.1 then lexP x.2.2 y.2.2 else lexI x.2.1 y.2.1) else decide (x.1 < y.1)
open PySem.W in
theorem rowLt_nil : rowLt [] [] = false := lex_irrefl _
open PySem.W in
theorem rowLt_less (y : PyData) (ys : List PyData) : rowLt [] (y :: ys) = true := by
  unfold rowLt
  rw [toks_all_cons]
  simp only [keyToksAll]
  rw [lex_diff (O := itemOrd) (by simp)]
  rfl
open PySem.W in
theorem rowLt_more (x : PyData) (xs : List PyData) : rowLt (x :: xs) [] = false := by
  unfold rowLt
  rw [toks_all_cons]
  simp only [keyToksAll]
  rw [lex_diff (O := itemOrd) (by simp)]
  rfl
open PySem.W in
theorem rowLt_cons {x y : PyData} (h : alike x y = true) (xs ys : List PyData) : rowLt (x :: xs) (y :: ys) = if PyData.eqv x y = true then rowLt xs ys else dataLt x y := dataLt_cons h xs ys
theorem rowLt_ints : ∀ xs ys : List Int, PySem.W.rowLt (iD xs) (iD ys) = lexI xs ys
  | [], [] => rowLt_nil
  | [], y :: ys => rowLt_less _ _
  | x :: xs, [] => rowLt_more _ _
  | x :: xs, y :: ys => by
    show PySem.W.rowLt (.int x :: iD xs) (.int y :: iD ys) = if x = y then lexI xs ys else decide (x < y)
    rw [rowLt_cons (by simp [PySem.W.alike]), rowLt_ints xs ys, PySem.W.dataLt_int]
    simp only [PyData.eqv, beq_iff_eq]
theorem alike_pl (p q : Plc) : PySem.W.alike (plD p) (plD q) = true := by
  simp [PySem.W.alike, PySem.W.alikeAll]
theorem eqv_pl (p q : Plc) : PyData.eqv (plD p) (plD q) = decide (p = q) := by
  rw [eqv_tD]
  by_cases h : p = q
  · rw [h, decide_eq_true rfl, decide_eq_true rfl]
  · rw [decide_eq_false h, decide_eq_false]
    intro e
    obtain ⟨e1, e2⟩ := List.cons.inj e
    exact h (Prod.ext e1 (List.cons.inj e2).1)
theorem rowLt_pls : ∀ xs ys : List Plc, PySem.W.rowLt (plsD xs) (plsD ys) = lexP xs ys
  | [], [] => rowLt_nil
  | [], y :: ys => rowLt_less _ _
  | x :: xs, [] => rowLt_more _ _
  | x :: xs, y :: ys => by
    show PySem.W.rowLt (plD x :: plsD xs) (plD y :: plsD ys) = if x = y then lexP xs ys else plLt x y
    rw [rowLt_cons (alike_pl x y), rowLt_pls xs ys, dataLt_pl, eqv_pl]
    by_cases h : x = y
    · rw [if_pos h, if_pos (decide_eq_true h)]
    · rw [if_neg h, if_neg (by rw [decide_eq_false h]; exact Bool.false_ne_true)]
theorem eqv_pls : ∀ xs ys : List Plc, PyData.eqvAll (plsD xs) (plsD ys) = decide (xs = ys)
  | [], [] => by simp [PyData.eqvAll]
  | [], y :: ys => by simp [PyData.eqvAll]
  | x :: xs, [] => by simp [PyData.eqvAll]
  | x :: xs, y :: ys => by
    show PyData.eqvAll (plD x :: plsD xs) (plD y :: plsD ys) = _
    rw [PyData.eqvAll, eqv_pl, eqv_pls xs ys]
    by_cases h : x = y <;> by_cases g : xs = ys <;> simp [h, g]
theorem alike_pls : ∀ xs ys : List Plc, PySem.W.alikeAll (plsD xs) (plsD ys) = true
  | [], ys => by cases ys <;> simp [PySem.W.alikeAll]
  | x :: xs, [] => by simp [PySem.W.alikeAll]
  | x :: xs, y :: ys => by
    show PySem.W.alikeAll (plD x :: plsD xs) (plD y :: plsD ys) = true
    unfold PySem.W.alikeAll
    rw [alike_pl, alike_pls xs ys]
    simp
theorem alike_it (x y : It) : PySem.W.alike (itD x) (itD y) = true := by
  unfold itD
  have h1 := PySem.W.alike_ints x.2.1 y.2.1
  have h2 := alike_pls x.2.2 y.2.2
  simp only [PySem.W.alike, PySem.W.alikeAll, h1, h2]
  simp
theorem dataLt_it (x y : It) : PySem.W.dataLt (itD x) (itD y) = itLt x y := by
  unfold itD
  rw [PySem.W.dataLt_tuple]
  show PySem.W.rowLt [.int x.1, tD x.2.1, .tuple (plsD x.2.2)] [.int y.1, tD y.2.1, .tuple (plsD y.2.2)] = _
  rw [rowLt_cons (by simp [PySem.W.alike]), rowLt_cons (by have := PySem.W.alike_ints x.2.1 y.2.1; simp only [PySem.W.alike]; exact this), rowLt_cons (by simp only [PySem.W.alike]; exact alike_pls _ _), rowLt_nil, PySem.W.dataLt_int, eqv_tD, PySem.W.dataLt_tuple, PySem.W.dataLt_tuple]
  show (if PyData.eqv (.int x.1) (.int y.1) = true then (if decide (x.2.1 = y.2.1) = true then (if PyData.eqv (.tuple (plsD x.2.2)) (.tuple (plsD y.2.2)) = true then false else PySem.W.rowLt (plsD x.2.2) (plsD y.2.2)) else PySem.W.rowLt (iD x.2.1) (iD y.2.1)) else decide (x.1 < y.1)) = _
  rw [rowLt_pls, rowLt_ints, PyData.eqv, PyData.eqv, eqv_pls]
  unfold itLt
  have irr : ∀ ps : List Plc, lexP ps ps = false := by
    intro ps
    induction ps with
    | nil => rfl
    | cons p r ih => show (if p = p then lexP r r else _) = false; rw [if_pos rfl]; exact ih
  by_cases h1 : x.1 = y.1
  · by_cases h2 : x.2.1 = y.2.1
    · by_cases h3 : x.2.2 = y.2.2
      · simp [h1, h2, h3, irr]
      · simp [h1, h2, h3]
    · simp [h1, h2]
  · simp [h1]
theorem tB_ints : ∀ xs : List Int, tBs (iD xs) = true
  | [] => rfl
  | x :: xs => by show (tB (.int x) && tBs (iD xs)) = true; rw [tB_ints xs]; rfl
theorem tB_pls : ∀ ps : List Plc, tBs (plsD ps) = true
  | [] => rfl
  | p :: ps => by show (tB (plD p) && tBs (plsD ps)) = true; rw [tB_pls ps]; rfl
theorem tB_it (x : It) : tB (itD x) = true := by
  have h1 := tB_ints x.2.1
  have h2 := tB_pls x.2.2
  unfold itD
  simp only [tB, tBs, h1, h2, Bool.and_self]
theorem depth_pls : ∀ ps : List Plc, PyData.depthAll (plsD ps) ≤ 1
  | [] => by simp [PyData.depthAll]
  | p :: ps => by
    show PyData.depthAll (plD p :: plsD ps) ≤ 1
    have := depth_pls ps
    simp only [PyData.depthAll, PyData.depth]
    simp [PyData.depthAll, PyData.depth]
    omega
theorem depth_it (x : It) : (itD x).depth ≤ 10 := by
  have h1 := depth_pls x.2.2
  have h2 : PyData.depthAll (iD x.2.1) = 0 := PySem.W.depth_ints _
  unfold itD
  simp only [PyData.depth, PyData.depthAll]
  omega
theorem alk_its (xs : List It) : Alk (xs.map itD) := ⟨fun x hx y hy => by
  obtain ⟨a, _, rfl⟩ := List.mem_map.mp hx
  obtain ⟨b, _, rfl⟩ := List.mem_map.mp hy
  exact alike_it a b, fun x hx => by
  obtain ⟨a, _, rfl⟩ := List.mem_map.mp hx
  exact tB_it a, fun x hx => by
  obtain ⟨a, _, rfl⟩ := List.mem_map.mp hx
  exact depth_it a⟩
end Sg
set_option Elab.async false
set_option linter.all false
set_option maxRecDepth 100000
set_option maxHeartbeats 4000000
namespace Sg
open PySem PySem.Spec PyProof.Rows L2
/-! ## the search for the least waits, as the program does it -/
def needed (coming : List Int) (ps : List Plc) : List Plc := sortP (ps.filter fun p => decide (p.1 ∈ coming) && decide (p.1 ≠ -1))
def movedBy (d : Nat) (wait : Nat) (tk : List Plc) : List Plc := tk.map fun p => (p.1, (p.2 + (wait : Int) + 1) % (d : Int))
def nextOne (work : List Int) (d at_ : Nat) (tk : List Plc) (wait : Nat) : Option (Int × List Plc) :=
  if (work.getD at_ 0, 0) ∈ movedBy d wait tk then none else some ((wait : Int), needed (work.drop (at_ + 1)) (movedBy d wait tk ++ [(work.getD at_ 0, 0)]))
def nextTaken (work : List Int) (d at_ : Nat) (tk : List Plc) : List (Int × List Plc) := (List.range d).filterMap (nextOne work d at_ tk)
def longer (it : It) (w : Int × List Plc) : It := (it.1 + w.1, it.2.1 ++ [w.1], w.2)
def pushAll (q : List It) (it : It) (ns : List (Int × List Plc)) : List It := ns.foldl (fun q w => pushH itLt q (longer it w)) q
abbrev SKey := Nat × List Plc
/-- none: out of fuel -/
def runW (work : List Int) (d : Nat) : Nat → List It → List SKey → Option (Option (List Int))
  | 0, _, _ => none
  | n + 1, q, seen => match q[0]? with
    | none => some none
    | some it => if it.2.1.length + 1 = work.length then some (some it.2.1) else
        if (it.2.1.length, it.2.2) ∈ seen then runW work d n (restH itLt q) seen
        else runW work d n (pushAll (restH itLt q) it (nextTaken work d (it.2.1.length + 1) it.2.2)) ((it.2.1.length, it.2.2) :: seen)
def firstQ (work : List Int) : List It := [(0, [], [(work.getD 0 0, 0)])]
def leastW (work : List Int) (d n : Nat) : Option (Option (List Int)) := runW work d n (firstQ work) []
theorem pushAll_len (it : It) : ∀ (ns : List (Int × List Plc)) (q : List It), (pushAll q it ns).length = q.length + ns.length
  | [], q => rfl
  | w :: ns, q => by
    show (pushAll (pushH itLt q (longer it w)) it ns).length = _
    rw [pushAll_len it ns, pushH_len, List.length_cons]
    omega
theorem nextTaken_len (work : List Int) (d at_ : Nat) (tk : List Plc) : (nextTaken work d at_ tk).length ≤ d := by
  unfold nextTaken
  have := List.length_filterMap_le (nextOne work d at_ tk) (List.range d)
  rw [List.length_range] at this
  exact this
/-! ### what stands in the heap -/
def KeepT (H H' : Hp) : Prop := ∀ a us, H a = some (.tup us) → H' a = some (.tup us)
theorem KeepT.of {H H' : Hp} (e : Same H H') : KeepT H H' := fun a us h => e _ _ h
theorem KeepT.trans {H H1 H2 : Hp} (x : KeepT H H1) (y : KeepT H1 H2) : KeepT H H2 := fun a us h => y a us (x a us h)
theorem KeepT.upd {H : Hp} {a : Addr} {o o' : HO} (h : H a = some o) (n : ∀ us, o ≠ .tup us) : KeepT H (upd H a o') := fun b us z => by
  rw [upd_ne (ne_of z h (fun z => n us z.symm))]; exact z
inductive PlsAt (H : Hp) : List V → List Plc → Prop
  | nil : PlsAt H [] []
  | cons {c : Addr} {p : Plc} {vs : List V} {ps : List Plc} : H c = some (.tup [.int p.1, .int p.2]) → PlsAt H vs ps → PlsAt H (.ref c :: vs) (p :: ps)
theorem PlsAt.keep {H H' : Hp} (e : KeepT H H') : ∀ {vs : List V} {ps : List Plc}, PlsAt H vs ps → PlsAt H' vs ps
  | _, _, .nil => .nil
  | _, _, .cons h r => .cons (e _ _ h) (PlsAt.keep e r)
theorem PlsAt.len {H : Hp} : ∀ {vs : List V} {ps : List Plc}, PlsAt H vs ps → vs.length = ps.length
  | _, _, .nil => rfl
  | _, _, .cons _ r => congrArg (· + 1) (PlsAt.len r)
theorem PlsAt.snoc {H : Hp} {c : Addr} {p : Plc} (h : H c = some (.tup [.int p.1, .int p.2])) : ∀ {vs : List V} {ps : List Plc}, PlsAt H vs ps → PlsAt H (vs ++ [.ref c]) (ps ++ [p])
  | _, _, .nil => .cons h .nil
  | _, _, .cons a r => .cons a (PlsAt.snoc h r)
theorem PlsAt.at {H : Hp} : ∀ {vs : List V} {ps : List Plc} {i : Nat} {v : V}, PlsAt H vs ps → vs[i]? = some v → ∃ c p, v = .ref c ∧ ps[i]? = some p ∧ H c = some (.tup [.int p.1, .int p.2])
  | _, _, 0, _, .cons h _, e => by cases e; exact ⟨_, _, rfl, rfl, h⟩
  | _, _, i + 1, _, .cons _ r, e => PlsAt.at (i := i) r e
theorem PlsAt.dp {K : PySem.W.Frag} {H : Hp} : ∀ {vs : List V} {ps : List Plc}, PlsAt H vs ps → DpAll K H vs (plsD ps)
  | _, _, .nil => .nil
  | _, _, .cons h r => .cons (Tp.ofInts (ns := [_, _]) (.of h)).dp (PlsAt.dp r)
/-- values with their data: what a sorted list's values are -/
theorem pls_sorted {H : Hp} : ∀ {bs : List (V × PyData)} {ps : List Plc}, (∀ b ∈ bs, ∃ c p, b = (.ref c, plD p) ∧ H c = some (.tup [.int p.1, .int p.2])) → bs.map (·.2) = plsD ps → PlsAt H (bs.map (·.1)) ps
  | [], [], _, _ => .nil
  | [], _ :: _, _, h => nomatch h
  | _ :: _, [], _, h => nomatch h
  | b :: bs, p :: ps, h, e => by
    obtain ⟨c, p', rfl, hc⟩ := h b List.mem_cons_self
    have e : plD p' :: bs.map (·.2) = plD p :: plsD ps := e
    obtain ⟨e1, e2⟩ := List.cons.inj e
    have : p' = p := by
      have h := PyData.tuple.inj e1
      obtain ⟨h1, h2⟩ := List.cons.inj h
      obtain ⟨h3, _⟩ := List.cons.inj h2
      exact Prod.ext (PyData.int.inj h1) (PyData.int.inj h3)
    subst this
    exact .cons hc (pls_sorted (fun x hx => h x (List.mem_cons_of_mem _ hx)) e2)
theorem PlsAt.zip {H : Hp} : ∀ {vs : List V} {ps : List Plc}, PlsAt H vs ps → ∀ b ∈ vs.zip (plsD ps), ∃ c p, b = (.ref c, plD p) ∧ H c = some (.tup [.int p.1, .int p.2])
  | _, _, .nil, b, hb => nomatch hb
  | _, _, .cons h r, b, hb => by
    rcases List.mem_cons.mp hb with rfl | hb
    · exact ⟨_, _, rfl, h⟩
    · exact PlsAt.zip r b hb
def TkAt (H : Hp) (r : Addr) (ps : List Plc) : Prop := ∃ us, H r = some (.tup us) ∧ PlsAt H us ps
theorem TkAt.keep {H H' : Hp} (e : KeepT H H') {r : Addr} {ps : List Plc} (h : TkAt H r ps) : TkAt H' r ps := by
  obtain ⟨us, h1, h2⟩ := h
  exact ⟨us, e _ _ h1, h2.keep e⟩
theorem TkAt.dp {K : PySem.W.Frag} {H : Hp} {r : Addr} {ps : List Plc} (h : TkAt H r ps) : Dp K H (.ref r) (.tuple (plsD ps)) := by
  obtain ⟨us, h1, h2⟩ := h
  exact .tup (.of h1) h2.dp
/-- an item of the queue -/
def ItAt (H : Hp) (v : V) (it : It) : Prop := ∃ r w t, v = .ref r ∧ H r = some (.tup [.int it.1, .ref w, .ref t]) ∧ H w = some (.tup (it.2.1.map V.int)) ∧ TkAt H t it.2.2
theorem ItAt.keep {H H' : Hp} (e : KeepT H H') {v : V} {it : It} (h : ItAt H v it) : ItAt H' v it := by
  obtain ⟨r, w, t, h1, h2, h3, h4⟩ := h
  exact ⟨r, w, t, h1, e _ _ h2, e _ _ h3, h4.keep e⟩
theorem ItAt.dp {K : PySem.W.Frag} {H : Hp} {v : V} {it : It} (h : ItAt H v it) : Dp K H v (itD it) := by
  obtain ⟨r, w, t, rfl, h2, h3, h4⟩ := h
  exact .tup (.of h2) (.cons (.int _) (.cons (Tp.ofInts (ns := it.2.1) (.of h3)).dp (.cons h4.dp .nil)))
/-- the queue, each value with its item -/
abbrev QAt (H : Hp) (l : Addr) (zs : List (V × It)) : Prop := H l = some (.lst (zs.map Prod.fst)) ∧ ∀ z ∈ zs, ItAt H z.1 z.2
def ltI (x y : V × It) : Bool := itLt x.2 y.2
theorem ltI_eq (x y : V × It) : ltV (x.1, itD x.2) (y.1, itD y.2) = ltI x y := dataLt_it x.2 y.2
/-! ### keys of what was seen -/
def plK (p : Plc) : NestedKey := .tup [.num p.1, .num p.2]
def sK (k : SKey) : NestedKey := .tup [.num (k.1 : Int), .tup (k.2.map plK)]
theorem PlsAt.keys {H : Hp} : ∀ {vs : List V} {ps : List Plc}, PlsAt H vs ps → KeyAll H (ps.map plK) vs
  | _, _, .nil => .no
  | _, _, .cons h r => .on (.tup h (.on (.int _) (.on (.int _) .no))) (PlsAt.keys r)
theorem sK_at {H : Hp} {b t : Addr} {n : Nat} {ps : List Plc} (h : H b = some (.tup [.int (n : Nat), .ref t])) (g : TkAt H t ps) : KeyAt H (sK (n, ps)) (.ref b) := by
  obtain ⟨us, h1, h2⟩ := g
  exact .tup h (.on (.int _) (.on (.tup h1 h2.keys) .no))
theorem depth_plK : ∀ ps : List Plc, NestedKey.depthAll (ps.map plK) ≤ 1
  | [] => by rw [List.map_nil, NestedKey.depthAll]; omega
  | p :: ps => by
    have := depth_plK ps
    rw [List.map_cons, NestedKey.depthAll]
    unfold plK
    simp only [NestedKey.depth, NestedKey.depthAll]
    exact Nat.max_le.mpr ⟨by simp, this⟩
theorem sK_deep (k : SKey) : (sK k).depth ≤ 8 := by
  have := depth_plK k.2
  unfold sK
  simp only [NestedKey.depth, NestedKey.depthAll]
  omega
theorem plK_inj : ∀ {x y : List Plc}, x.map plK = y.map plK → x = y
  | [], [], _ => rfl
  | [], _ :: _, h => nomatch h
  | _ :: _, [], h => nomatch h
  | a :: x, b :: y, h => by
    rw [List.map_cons, List.map_cons] at h
    obtain ⟨h1, h2⟩ := List.cons.inj h
    have h1 := NestedKey.tup.inj h1
    obtain ⟨h3, h4⟩ := List.cons.inj h1
    obtain ⟨h5, _⟩ := List.cons.inj h4
    rw [plK_inj h2, Prod.ext (NestedKey.num.inj h3) (NestedKey.num.inj h5)]
theorem sK_inj {x y : SKey} (h : sK x = sK y) : x = y := by
  have h := NestedKey.tup.inj h
  obtain ⟨h1, h2⟩ := List.cons.inj h
  obtain ⟨h3, _⟩ := List.cons.inj h2
  exact Prod.ext (by have := NestedKey.num.inj h1; omega) (plK_inj (NestedKey.tup.inj h3))
/-- the dict's rows are what was seen -/
structure SeenOk (H : Hp) (rs : List Row) (seen : List SKey) : Prop where
  keys : KeysIn H rs
  len : rs.length = seen.length
  has : ∀ k : SKey, (atN rs (sK k)).isSome = decide (k ∈ seen)
theorem SeenOk.keep {H H' : Hp} (e : KeepT H H') {rs : List Row} {seen : List SKey} (h : SeenOk H rs seen) : SeenOk H' rs seen := ⟨h.keys.keep e, h.len, h.has⟩
theorem SeenOk.add {H : Hp} {rs : List Row} {seen : List SKey} {k : SKey} {b : Addr} {v : V} (h : SeenOk H rs seen) (hk : KeyAt H (sK k) (.ref b)) (hn : k ∉ seen) : SeenOk H (storeN rs (sK k) b v) (k :: seen) := by
  have h0 : atN rs (sK k) = none := by
    have := h.has k
    rw [decide_eq_false hn] at this
    exact Option.isNone_iff_eq_none.mp (by simpa using this)
  rw [storeN_new h0]
  refine ⟨fun r hr => ?_, by rw [List.length_append, h.len]; rfl, fun k' => ?_⟩
  · rcases List.mem_append.mp hr with hr | hr
    · exact h.keys r hr
    · rw [List.mem_singleton.mp hr]; exact ⟨hk, sK_deep k⟩
  · have := h.has k'
    unfold atN at this ⊢
    rw [List.find?_append]
    by_cases e : k' = k
    · subst e
      rw [decide_eq_true List.mem_cons_self]
      cases hf : rs.find? (fun r => decide (r.1 = sK k')) with
      | some r => simp
      | none => simp [List.find?_cons]
    · have e2 : sK k ≠ sK k' := fun z => e (sK_inj z).symm
      rw [show decide (k' ∈ k :: seen) = decide (k' ∈ seen) from by simp [e], ← this]
      cases hf : rs.find? (fun r => decide (r.1 = sK k')) with
      | some r => simp
      | none => simp [List.find?_cons, e2]
end Sg
set_option Elab.async false
set_option linter.all false
set_option maxRecDepth 100000
set_option maxHeartbeats 4000000
namespace Sg
open PySem PySem.Spec PyProof.Rows L2 StX
/-! ## displays of constants and names, as data; each tuple's object is told -/
mutual
inductive Fd (H : Hp) : V → PyData → Prop
  | non : Fd H .non .none
  | bl (b : Bool) : Fd H (.bl b) (.bool b)
  | int (i : Int) : Fd H (.int i) (.int i)
  | lst {a : Addr} {xs : List V} {ds : List PyData} : H a = some (.lst xs) → FdAll H xs ds → Fd H (.ref a) (.list ds)
  | tup {a : Addr} {xs : List V} {ds : List PyData} : FrzT H a xs → FdAll H xs ds → Fd H (.ref a) (.tuple ds)
inductive FdAll (H : Hp) : List V → List PyData → Prop
  | nil : FdAll H [] []
  | cons {v : V} {vs : List V} {d : PyData} {ds : List PyData} : Fd H v d → FdAll H vs ds → FdAll H (v :: vs) (d :: ds)
end
mutual
theorem Fd.same {H H' : Hp} (e : Same H H') : ∀ {v : V} {d : PyData}, Fd H v d → Fd H' v d
  | _, _, .non => .non
  | _, _, .bl b => .bl b
  | _, _, .int i => .int i
  | _, _, .lst h r => .lst (e _ _ h) (FdAll.same e r)
  | _, _, .tup h r => .tup (h.same e) (FdAll.same e r)
theorem FdAll.same {H H' : Hp} (e : Same H H') : ∀ {vs : List V} {ds : List PyData}, FdAll H vs ds → FdAll H' vs ds
  | _, _, .nil => .nil
  | _, _, .cons a r => .cons (Fd.same e a) (FdAll.same e r)
end
mutual
theorem Fd.dp {K : PySem.W.Frag} {H : Hp} : ∀ {v : V} {d : PyData}, Fd H v d → Dp K H v d
  | _, _, .non => .non
  | _, _, .bl b => .bl b
  | _, _, .int i => .int i
  | _, _, .lst h r => .lst (.of h) (FdAll.dp r)
  | _, _, .tup h r => .tup h.sq (FdAll.dp r)
theorem FdAll.dp {K : PySem.W.Frag} {H : Hp} : ∀ {vs : List V} {ds : List PyData}, FdAll H vs ds → DpAll K H vs ds
  | _, _, .nil => .nil
  | _, _, .cons a r => .cons (Fd.dp a) (FdAll.dp r)
end
theorem FdAll.len {H : Hp} : ∀ {vs : List V} {ds : List PyData}, FdAll H vs ds → vs.length = ds.length
  | _, _, .nil => rfl
  | _, _, .cons _ r => congrArg (· + 1) (FdAll.len r)
theorem FdAll.app {H : Hp} : ∀ {vs us : List V} {ds es : List PyData}, FdAll H vs ds → FdAll H us es → FdAll H (vs ++ us) (ds ++ es)
  | _, _, _, _, .nil, g => g
  | _, _, _, _, .cons a r, g => .cons a (FdAll.app r g)
theorem FdAll.at {H : Hp} : ∀ {vs : List V} {ds : List PyData} {i : Nat} {v : V}, FdAll H vs ds → vs[i]? = some v → ∃ d, ds[i]? = some d ∧ Fd H v d
  | _, _, 0, _, .cons h _, e => by cases e; exact ⟨_, rfl, h⟩
  | _, _, i + 1, _, .cons _ r, e => FdAll.at (i := i) r e
theorem FdAll.ints {H : Hp} : ∀ {vs : List V} {ns : List Int}, FdAll H vs (iD ns) → vs = ns.map V.int
  | [], [], _ => rfl
  | [], _ :: _, h => nomatch h
  | _ :: _, [], h => nomatch h
  | v :: vs, n :: ns, h => by
    have h : FdAll H (v :: vs) (.int n :: iD ns) := h
    cases h with
    | cons a r =>
      cases a
      rw [FdAll.ints r]; rfl
theorem Fd.ints {H : Hp} {v : V} {ns : List Int} (h : Fd H v (tD ns)) : ∃ a, v = .ref a ∧ FrzT H a (ns.map V.int) := by
  have h : Fd H v (.tuple (iD ns)) := h
  cases h with
  | tup g r => rw [FdAll.ints r] at g; exact ⟨_, rfl, g⟩
/-! ### a tuple, its object told -/
def tTupF (t : TA) : TE := fun σ H Q => t σ H fun xs H1 => xs.length ≤ sizeLine ∧ ∀ p ob, H1 p = none → ob.cls = .type "tuple" → ob.dict = none → Q (.ref p) (upd H1 p (.frz ob (.tup xs)))
section
variable {X : Cx} {es : List Expr} {t : TA} {pos : Pos}
theorem pe_tupF {x1} (h : PA X es t) : PE X (.Tuple es x1 pos) (tTupF t) := by
  constructor
  intro pins s0 σ H Q I g
  refine wpAny_Tuple_spliced (thn (h.run pos pins s0 σ H _ I g) ?_)
  rintro us s1 ⟨xs, H1, I1, rv, few, q⟩
  refine ⟨by have := rv.length; omega, ?_⟩
  have free : H1 s1.heap.objs.size = none := I1.hok.fresh (Nat.le_refl _)
  have hn : (s1.heap.push { cls := .type "tuple", data := .seq us.toArray }).get? s1.heap.objs.size = some { cls := .type "tuple", data := .seq us.toArray } := Heap.get?_push_size _ rfl
  have hnew : ObjOk X.prog X.w (upd H1 s1.heap.objs.size (.frz { cls := .type "tuple", data := .seq us.toArray } (.tup xs))) (s1.heap.push { cls := .type "tuple", data := .seq us.toArray }) s1.heap.objs.size (.frz { cls := .type "tuple", data := .seq us.toArray } (.tup xs)) :=
    ⟨hn, few, us, rv, IsTup.new _ _⟩
  exact ⟨.ref s1.heap.objs.size, _, I1.laid (t' := s1.toks) (fun b o z => Heap.get?_push_of_some _ z) (Nat.le_refl _) hnew, rfl, q _ _ free rfl rfl⟩
end
/-! ### (x,) * n -/
def rRepF (K : PySem.W.Frag) : R2 := fun x y H Q => ∃ l, ∃ k : Nat, ∃ xs, x = .ref l ∧ y = .int k ∧ SqT K H l xs ∧ xs ≠ [] ∧ 2 ≤ k ∧ k * xs.length ≤ 100000 ∧ ∀ p ob, H p = none → ob.cls = .type "tuple" → ob.dict = none → Q (.ref p) (upd H p (.frz ob (.tup (List.replicate k xs).flatten)))
theorem op_repF {X : Cx} : OpR X (binaryOp .Mult) (rRepF X.K) := by
  intro pins s σ H x y v u Q I rx ry h
  obtain ⟨l, k, xs, e1, e2, hT, hne, h1, hz, q⟩ := h
  subst e1 e2
  cases rx
  obtain ⟨t, et⟩ := ry
  subst et
  obtain ⟨its, r, ⟨⟨cls, dd, data, sl⟩, ho, hc, n, hd⟩, hs⟩ := I.tuple hT
  simp only at hc hd
  subst hc hd
  have lx : its.length = xs.length := r.length.symm
  have pos : 0 < xs.length := List.length_pos_iff.mpr hne
  have ne : its.toArray.isEmpty = false := by
    cases its with
    | nil => rw [← lx] at pos; exact absurd pos (by decide)
    | cons a b => rfl
  have sz : its.toArray.size = xs.length := by rw [List.size_toArray, lx]
  have prod : ((its.toArray.size : Nat) : Int) * (k : Nat) ≤ 100000 := by
    rw [sz, ← Int.natCast_mul, Nat.mul_comm]
    exact Int.ofNat_le.mpr hz
  have kle : k ≤ 100000 := Nat.le_trans (Nat.le_mul_of_pos_right k pos) hz
  have lim : (100000 : Nat) ≤ sizeLine := by rw [sizeLine_eq]; decide
  have flat : (List.replicate k its).flatten.length ≤ sizeLine := by
    rw [PyProof.Rows.lm_len_rep_flat, lx]
    exact Nat.le_trans hz lim
  have c0 : (decide (((k : Nat) : Int) < -(2 ^ 63)) || decide (((k : Nat) : Int) ≥ 2 ^ 63)) = false := by
    rw [decide_eq_false (by omega), decide_eq_false (by omega)]; rfl
  have c1 : (its.toArray.isEmpty || ((k : Nat) : Int) == 1) = false := by
    rw [ne, Bool.false_or]
    exact beq_eq_false_iff_ne.mpr (by omega)
  have c2 : (decide (((k : Nat) : Int) ≤ 0) || its.toArray.isEmpty) = false := by
    rw [ne, Bool.or_false]
    exact decide_eq_false (by omega)
  have c4 : Builtin.Tuple.tupleTooMany (((its.toArray.size : Nat) : Int) * (k : Nat)) = false := by
    unfold Builtin.Tuple.tupleTooMany
    refine decide_eq_false ?_
    have : ((100000 : Nat) : Int) ≤ (sizeLine : Int) := Int.ofNat_le.mpr lim
    omega
  have hmul := tuple_mulW l its.toArray n dd sl ((k : Nat) : Int) t c0 c1 c2 (by omega) c4 (by rw [size_rep, List.size_toArray]; exact flat)
  refine wpAny_binaryOp_repeat_ref (T := "tuple") (U := "int") (by decide) ⟨_, ho, rfl⟩ (fun s' => typeIs_int s' k t) noFill_tuple_mul PySem.F.fills_int_mul PySem.F.slot_int_rmul repeat_tuple PySem.F.slot_int_index.lookup
    (call_meets PySem.F.slot_int_rmul (typeIs_int s k t) PySem.F.entry_int_rmul (PySem.F.args_int_rmul_2 _ _) (int_rmul_tuple k t l its.toArray n dd sl)
      ⟨ho, rfl, ⟨_, ho, rfl⟩, call_meets PySem.F.slot_tuple_mul ⟨_, ho, rfl⟩ PySem.F.entry_tuple_mul (PySem.F.args_tuple_mul_2 _ _) hmul ⟨ho, ?_⟩⟩)
  rw [size_rep]
  have hn : (s.heap.push { cls := .type "tuple", data := .seq (List.replicate ((k : Nat) : Int).toNat its).flatten.toArray }).get? s.heap.objs.size = some { cls := .type "tuple", data := .seq (List.replicate ((k : Nat) : Int).toNat its).flatten.toArray } := Heap.get?_push_size _ rfl
  have hnew : ObjOk X.prog X.w (upd H s.heap.objs.size (.frz { cls := .type "tuple", data := .seq (List.replicate ((k : Nat) : Int).toNat its).flatten.toArray } (.tup (List.replicate k xs).flatten))) (s.heap.push { cls := .type "tuple", data := .seq (List.replicate ((k : Nat) : Int).toNat its).flatten.toArray }) s.heap.objs.size (.frz { cls := .type "tuple", data := .seq (List.replicate ((k : Nat) : Int).toNat its).flatten.toArray } (.tup (List.replicate k xs).flatten)) :=
    ⟨hn, by rw [PyProof.Rows.lm_len_rep_flat]; exact Nat.le_trans hz lim, _, r.rep k, IsTup.new _ _⟩
  exact ⟨.ref s.heap.objs.size, _, I.laid (t' := s.toks) (fun b ob z => Heap.get?_push_of_some _ z) (Nat.le_refl _) hnew, rfl, q _ _ (I.hok.fresh (Nat.le_refl _)) rfl rfl⟩
/-! ### the reading -/
def evE (ρ : Str → Option PyData) : Nat → Expr → Option PyData
  | 0, _ => none
  | _ + 1, .Constant .none _ _ => some .none
  | _ + 1, .Constant (.bool b) _ _ => some (.bool b)
  | _ + 1, .Constant (.int i) _ _ => some (.int i)
  | _ + 1, .UnaryOp .USub (.Constant (.int i) _ _) _ => some (.int (-i))
  | _ + 1, .Name x _ => ρ x
  | _ + 1, .BinOp (.Tuple [.Constant (.int i) _ _] _ _) .Mult (.Constant (.int k) _ _) _ => if 2 ≤ k ∧ k ≤ 1000 then some (.tuple (List.replicate k.toNat (.int i))) else none
  | n + 1, .Tuple es _ _ => if es.length ≤ 1000 then (mapO (evE ρ n) es).map .tuple else none
  | n + 1, .List es _ => if es.length ≤ 1000 then (mapO (evE ρ n) es).map .list else none
  | _, _ => none
def tFd (S : L2.St → Hp → Prop) (d : PyData) : TE := fun σ H Q => S σ H ∧ ∀ H' v, Same H H' → Fd H' v d → Q v H'
def tFds (S : L2.St → Hp → Prop) (ds : List PyData) : TA := fun σ H Q => S σ H ∧ ∀ H' vs, Same H H' → FdAll H' vs ds → Q vs H'
theorem evE_star {ρ : Str → Option PyData} {n : Nat} {e : Expr} {d : PyData} (h : evE ρ n e = some d) : ∀ (es : List Expr) (env : Env), starEach (e :: es) env = (false, eval e env) :: starEach es env := by
  intro es env
  cases e with
  | Starred v p => cases n <;> simp [evE] at h
  | _ => rfl
section
variable {X : Cx} {S : L2.St → Hp → Prop} {ρ : Str → Option PyData}
theorem evE_ok (stS : ∀ σ H H', Same H H' → S σ H → S σ H') (hn : ∀ x p d, ρ x = some d → PE X (.Name x p) (tFd S d)) : ∀ (n : Nat) (e : Expr) (d : PyData), evE ρ n e = some d → PE X e (tFd S d) := by
  intro n
  induction n with
  | zero => intro e d h; exact nomatch h
  | succ n ih =>
    have big : 100000 ≤ sizeLine := by rw [sizeLine_eq]; decide
    have all : ∀ (es : List Expr) (ds : List PyData), mapO (evE ρ n) es = some ds → PA X es (tFds S ds) ∧ ds.length = es.length := by
      intro es
      induction es with
      | nil =>
        intro ds h
        cases h
        exact ⟨⟨fun pos pins s σ H Q I h => pa_nil.run pos pins s σ H Q I (h.2 H [] (same_refl H) .nil)⟩, rfl⟩
      | cons e es ihe =>
        intro ds h
        unfold mapO at h
        split at h
        · rename_i d ds' h1 h2
          cases h
          obtain ⟨g1, g2⟩ := ihe ds' h2
          refine ⟨⟨fun pos pins s σ H Q I h => (pa_cons (ih e d h1) g1 (evE_star h1 _ _)).run pos pins s σ H Q I ?_⟩, by rw [List.length_cons, List.length_cons, g2]⟩
          exact ⟨h.1, fun H1 v e1 hv => ⟨stS _ _ _ e1 h.1, fun H2 vs e2 hvs => h.2 H2 (v :: vs) (e1.trans e2) (.cons (hv.same e2) hvs)⟩⟩
        · exact nomatch h
    intro e d h
    unfold evE at h
    split at h
    · exact absurd ‹_› (by simp)
    · cases h; exact PE.imp pe_non fun σ H Q q => q.2 H _ (same_refl H) .non
    · cases h; exact PE.imp pe_bl fun σ H Q q => q.2 H _ (same_refl H) (.bl _)
    · cases h; exact PE.imp pe_int fun σ H Q q => q.2 H _ (same_refl H) (.int _)
    · cases h; exact PE.imp (pe_un un_neg pe_int) fun σ H Q q => ⟨_, rfl, q.2 H _ (same_refl H) (.int _)⟩
    · exact hn _ _ _ h
    · rename_i i j1 p1 k1 p2 k j2 p3 p4 _
      split at h
      · rename_i hc
        cases h
        refine PE.imp (pe_op op_repF (pe_tup (pa_cons pe_int pa_nil)) pe_int) fun σ H Q q => ?_
        refine ⟨by show 1 ≤ sizeLine; omega, fun t nt => ⟨t, k.toNat, [.int i], rfl, by congr 1; omega, .of upd_same, List.cons_ne_nil _ _, by omega, by show k.toNat * 1 ≤ _; omega, fun p ob np hc1 hc2 => ?_⟩⟩
        have e1 := same_new (o := .tup [V.int i]) nt
        have e2 := same_new (o := .frz ob (.tup (List.replicate k.toNat [V.int i]).flatten)) np
        refine q.2 _ _ (e1.trans e2) (.tup ⟨ob, upd_same, hc1, hc2⟩ ?_)
        have key : ∀ (H : Hp) (m : Nat), FdAll H (List.replicate m [V.int i]).flatten (List.replicate m (.int i)) := by
          intro H m
          induction m with
          | zero => exact .nil
          | succ m ih => rw [List.replicate_succ, List.replicate_succ, List.flatten_cons]; exact .cons (.int i) ih
        exact key _ _
      · exact nomatch h
    · rename_i n' es k p hn'
      cases hn'
      split at h
      · rename_i hl
        obtain ⟨ds, h1, rfl⟩ := Option.map_eq_some_iff.mp h
        obtain ⟨g1, g2⟩ := all es ds h1
        refine PE.imp (pe_tupF g1) fun σ H Q q => ?_
        refine ⟨q.1, fun H1 vs e1 hvs => ⟨by have := FdAll.len hvs; omega, fun t ob nt c1 c2 => q.2 _ _ (e1.trans (same_new nt)) (.tup ⟨ob, upd_same, c1, c2⟩ (hvs.same (same_new nt)))⟩⟩
      · exact nomatch h
    · rename_i n' es p hn'
      cases hn'
      split at h
      · rename_i hl
        obtain ⟨ds, h1, rfl⟩ := Option.map_eq_some_iff.mp h
        obtain ⟨g1, g2⟩ := all es ds h1
        refine PE.imp (pe_lst g1) fun σ H Q q => ?_
        refine ⟨q.1, fun H1 vs e1 hvs => ⟨by have := FdAll.len hvs; omega, fun t nt => q.2 _ _ (e1.trans (same_new nt)) (.lst upd_same (hvs.same (same_new nt)))⟩⟩
      · exact nomatch h
    · exact nomatch h
end
/-! ## a range object in a name -/
section
variable {X : Cx}
theorem cr_range2 : CallR X (.type "range") (fun vs H Q => ∃ i j : Int, vs = [V.int i, .int j] ∧ ∀ p, H p = none → Q (.ref p) (upd H p (.rng i j))) := by
  intro pins s σ H vs us Q I r h
  obtain ⟨i, j, rfl, q⟩ := h
  obtain ⟨u1, us2, r1, r2, rfl⟩ : ∃ u1 us2, RelV (.int i) u1 ∧ Vals [.int j] us2 ∧ us = u1 :: us2 := by
    cases r with
    | cons a b => exact ⟨_, _, a, b, rfl⟩
  obtain ⟨u2, rfl, rj⟩ := vals1 r2
  obtain ⟨t1, rfl⟩ := r1
  obtain ⟨t2, rfl⟩ := rj
  refine call_range_2 ⟨.ref s.heap.objs.size, upd H s.heap.objs.size (.rng i j), I.laid (t' := s.toks + 1) (fun b o e => Heap.get?_push_of_some _ e) (Nat.le_refl _) ?_, rfl, q _ (I.hok.fresh (Nat.le_refl _))⟩
  exact ⟨t1, t2, s.toks, Heap.get?_push_size _ rfl⟩
def iRngO (te : TE) : TI := fun σ H R => te σ H fun x H1 => ∃ a lo hi, x = .ref a ∧ H1 a = some (.rng lo hi) ∧ -(2 ^ 62) ≤ lo ∧ lo < 2 ^ 62 ∧ -(2 ^ 62) ≤ hi ∧ hi < 2 ^ 62 ∧ R (Itr lo (hi - lo).toNat) H1
theorem pi_rngO {tg l : Expr} {tl : TE} (hl : PE X l tl) : PI X tg l (iRngO tl) := by
  refine ⟨fun pins s σ H R I h => ?_⟩
  refine thn (hl.run pins s σ H _ I h) fun v s1 ⟨x, H1, I1, r1, q1⟩ => ?_
  obtain ⟨a, lo, hi, e, hq, h1, h2, h3, h4, q⟩ := q1
  subst e
  cases r1
  obtain ⟨t1, t2, t3, ho⟩ := I1.hok a _ hq
  refine wpAny_pyIter_range (show IsRange s1.heap a lo hi 1 t1 t2 t3 from ho) (small_one h1 h2 h3 h4) ?_
  refine ⟨s1.heap.objs.size, [s1.heap.objs.size], _, _, H1, rfl, I1.kept (t' := s1.toks) fun b o e => Heap.get?_push_of_some _ e, turn_range _ lo (hi - lo).toNat, ?_, fun b hb => ?_, q⟩
  · have e1 : lo + ((0 : Nat) : Int) * 1 = lo := by simp
    have e2 : (((hi - lo).toNat : Nat) : Int) - ((0 : Nat) : Int) = Builtin.Range.rangeSize lo hi 1 := by rw [rangeSize_one]; split <;> omega
    show IsRangeIter _ _ (lo + ((0 : Nat) : Int) * 1) ((((hi - lo).toNat : Nat) : Int) - ((0 : Nat) : Int)) 1
    rw [e1, e2]
    exact Heap.get?_push_size _ rfl
  · have e : b = s1.heap.objs.size := by simpa using hb
    subst e
    exact I1.fpOk (Nat.le_refl _) (I1.hok.fresh (Nat.le_refl _))
theorem cr_sumTK {K : PySem.W.Frag} (hK : X.K = K) (hc : X.calm = true) : CallR X (.builtin "sum") (fun vs H Q => ∃ (a : Addr) (ns : List Int), vs = [.ref a] ∧ SqT K H a (ns.map V.int) ∧ Q (.int ns.sum) H) := by
  subst hK; exact cr_sumT hc
end
end Sg
set_option Elab.async false
set_option linter.all false
set_option maxRecDepth 100000
set_option maxHeartbeats 4000000
namespace Sg
open PySem PySem.Spec PyProof.Rows L2
/-! the places of the text -/
def topS (i : Nat) : Stmt := PySem.Challenge.pw_startgaps_k46_waits_by_hand.main.body.getD i (.Pass ⟨0, 0, 0, 0⟩)
abbrev s_is_int : Stmt := topS 8
theorem sc_is_int : FnScope ["thing"] ["thing"] (defScope s_is_int) := ⟨rfl, rfl, rfl, by decide +kernel, rfl, by decide +kernel, by decide +kernel⟩
abbrev s_is_between : Stmt := topS 9
theorem sc_is_between : FnScope ["thing", "least", "most"] ["thing", "least", "most"] (defScope s_is_between) := ⟨rfl, rfl, rfl, by decide +kernel, rfl, by decide +kernel, by decide +kernel⟩
abbrev s_is_work : Stmt := topS 14
theorem sc_is_work : FnScope ["thing", "item"] ["thing"] (defScope s_is_work) := ⟨rfl, rfl, rfl, by decide +kernel, rfl, by decide +kernel, by decide +kernel⟩
abbrev s_most_visits : Stmt := topS 15
theorem sc_most_visits : FnScope ["work", "station"] ["work"] (defScope s_most_visits) := ⟨rfl, rfl, rfl, by decide +kernel, rfl, by decide +kernel, by decide +kernel⟩
abbrev s_require_work : Stmt := topS 16
theorem sc_require_work : FnScope ["thing"] ["thing"] (defScope s_require_work) := ⟨rfl, rfl, rfl, by decide +kernel, rfl, by decide +kernel, by decide +kernel⟩
abbrev s_constants : Stmt := topS 18
theorem sc_constants : FnScope ["work", "distance"] ["work"] (defScope s_constants) := ⟨rfl, rfl, rfl, by decide +kernel, rfl, by decide +kernel, by decide +kernel⟩
abbrev s_is_constant : Stmt := topS 19
theorem sc_is_constant : FnScope ["items", "distance", "places", "tick", "station"] ["items", "distance"] (defScope s_is_constant) := ⟨rfl, rfl, rfl, by decide +kernel, rfl, by decide +kernel, by decide +kernel⟩
abbrev s_stretched : Stmt := topS 24
theorem sc_stretched : FnScope ["work", "waits"] ["work", "waits"] (defScope s_stretched) := ⟨rfl, rfl, rfl, by decide +kernel, rfl, by decide +kernel, by decide +kernel⟩
abbrev s_stretch : Stmt := topS 25
theorem sc_stretch : FnScope ["work", "distance"] ["work", "distance"] (defScope s_stretch) := ⟨rfl, rfl, rfl, by decide +kernel, rfl, by decide +kernel, by decide +kernel⟩
abbrev s_shows_stretch : Stmt := topS 26
theorem sc_shows_stretch : FnScope ["work", "distance", "thing"] ["work", "distance", "thing"] (defScope s_shows_stretch) := ⟨rfl, rfl, rfl, by decide +kernel, rfl, by decide +kernel, by decide +kernel⟩
abbrev s_trade : Stmt := topS 27
theorem sc_trade : FnScope ["work", "distances", "distance"] ["work"] (defScope s_trade) := ⟨rfl, rfl, rfl, by decide +kernel, rfl, by decide +kernel, by decide +kernel⟩
abbrev s_require_short : Stmt := topS 28
theorem sc_require_short : FnScope ["work"] ["work"] (defScope s_require_short) := ⟨rfl, rfl, rfl, by decide +kernel, rfl, by decide +kernel, by decide +kernel⟩
abbrev s_require_stretch : Stmt := topS 29
theorem sc_require_stretch : FnScope ["work", "distance"] ["work", "distance"] (defScope s_require_stretch) := ⟨rfl, rfl, rfl, by decide +kernel, rfl, by decide +kernel, by decide +kernel⟩
abbrev s_is_waits : Stmt := topS 30
theorem sc_is_waits : FnScope ["work", "thing", "wait"] ["work", "thing"] (defScope s_is_waits) := ⟨rfl, rfl, rfl, by decide +kernel, rfl, by decide +kernel, by decide +kernel⟩
abbrev s_put_in : Stmt := topS 31
theorem sc_put_in : FnScope ["work", "waits", "items", "wait", "station"] ["work", "waits"] (defScope s_put_in) := ⟨rfl, rfl, rfl, by decide +kernel, rfl, by decide +kernel, by decide +kernel⟩
abbrev s_least_waits : Stmt := topS 32
theorem sc_least_waits : FnScope ["work", "distance", "queue", "seen", "total", "waits", "taken", "wait", "longer"] ["work", "distance"] (defScope s_least_waits) := ⟨rfl, rfl, rfl, by decide +kernel, rfl, by decide +kernel, by decide +kernel⟩
abbrev s_next_taken : Stmt := topS 33
theorem sc_next_taken : FnScope ["work", "distance", "at", "taken", "station", "found", "wait", "moved", "other", "ago"] ["work", "distance", "at", "taken"] (defScope s_next_taken) := ⟨rfl, rfl, rfl, by decide +kernel, rfl, by decide +kernel, by decide +kernel⟩
abbrev s_needed_places : Stmt := topS 34
theorem sc_needed_places : FnScope ["coming", "places", "station", "ago"] ["coming", "places"] (defScope s_needed_places) := ⟨rfl, rfl, rfl, by decide +kernel, rfl, by decide +kernel, by decide +kernel⟩
abbrev s_l_cell : Stmt := topS 36
theorem sc_l_cell : FnScope ["_law_script", "_law_k"] ["_law_script", "_law_k"] (defScope s_l_cell) := ⟨rfl, rfl, rfl, by decide +kernel, rfl, by decide +kernel, by decide +kernel⟩
abbrev s_l_pen : Stmt := topS 37
theorem sc_l_pen : FnScope ["_law_cell_here"] ["_law_cell_here"] (defScope s_l_pen) := ⟨rfl, rfl, rfl, by decide +kernel, rfl, by decide +kernel, by decide +kernel⟩
abbrev s_l_draw : Stmt := topS 38
theorem sc_l_draw : FnScope ["_law_pen_here", "_law_many", "_law_found", "_law_stirred"] ["_law_pen_here", "_law_many"] (defScope s_l_draw) := ⟨rfl, rfl, rfl, by decide +kernel, rfl, by decide +kernel, by decide +kernel⟩
abbrev s_l_mixed : Stmt := topS 39
theorem sc_l_mixed : FnScope ["_law_pen_here", "_law_values", "_law_left", "_law_found", "_law_turn"] ["_law_pen_here", "_law_values"] (defScope s_l_mixed) := ⟨rfl, rfl, rfl, by decide +kernel, rfl, by decide +kernel, by decide +kernel⟩
abbrev s_l_same : Stmt := topS 40
theorem sc_l_same : FnScope ["_law_actual", "_law_due"] ["_law_actual", "_law_due"] (defScope s_l_same) := ⟨rfl, rfl, rfl, by decide +kernel, rfl, by decide +kernel, by decide +kernel⟩
abbrev s_l_rows : Stmt := topS 41
theorem sc_l_rows : FnScope ["_law_a", "_law_b", "_law_long", "_law_two", "_law_found"] ["_law_a", "_law_b"] (defScope s_l_rows) := ⟨rfl, rfl, rfl, by decide +kernel, rfl, by decide +kernel, by decide +kernel⟩
abbrev s_law : Stmt := topS 42
theorem sc_law : FnScope ["_law_script", "_law_k", "_law_pen_here", "_law_a", "_law_b", "_law_items", "_law_distance", "_law_waits", "_law_pairs", "_law_told", "_law_some", "_law_shown"] ["_law_script"] (defScope s_law) := ⟨rfl, rfl, rfl, by decide +kernel, rfl, by decide +kernel, by decide +kernel⟩
end Sg
set_option Elab.async false
set_option linter.all false
set_option maxRecDepth 100000
set_option maxHeartbeats 4000000
namespace Sg
open PySem PySem.Spec PyProof.Rows L2 StX
section
variable {P : Program} {w : World} {K : PySem.W.Frag} {mg : Str → Option Value} {base : Heap}
def spIsInt : Sp := fun vs H Q _ => ∃ i : Int, vs = [.int i] ∧ Q (.bl true) H
theorem ok_is_int {f : Addr} {fd : FuncData} {k : Nat} (F : Fun K "is_int" "is_int" s_is_int f fd) (m1 : mg "isinstance" = none) (m2 : mg "int" = none) (m3 : mg "bool" = none) :
    FnOk P w K mg base CX0 (k + 1) f fd ["thing"] spIsInt := by
  refine F.ok sc_is_int (fun vs H Q E h => ?_) (fun cdv A outer s H vs Q E hr h => ?_)
  · obtain ⟨i, rfl, _⟩ := h; rfl
  · obtain ⟨i, rfl, q⟩ := h
    refine ⟨_, pss_one (ps_ret (pe_and
      (pe_callB call_isi (by rfl) m1 (by decide +kernel) (pa_cons (pv 0) (pa_cons (pe_bltn (v := .ty "int") (by rfl) m2 (by decide +kernel) rfl) pa_nil)))
      (pe_one (pe_not (pe_callB call_isi (by rfl) m1 (by decide +kernel) (pa_cons (pv 0) (pa_cons (pe_bltn (v := .ty "bool") (by rfl) m3 (by decide +kernel) rfl) pa_nil))))))), ?_⟩
    refine ⟨.int i, rfl, .int i, .ty "int", _, _, true, rfl, .ty _, .base (.int i), kit_ty (by decide +kernel), true, rfl, iteT ?_⟩
    exact ⟨.int i, rfl, .int i, .ty "bool", _, _, false, rfl, .ty _, .base (.int i), kit_ty (by decide +kernel), false, rfl, q⟩
def spIsBetween : Sp := fun vs H Q _ => ∃ i l m : Int, vs = [.int i, .int l, .int m] ∧ Q (.bl (decide (l ≤ i) && decide (i ≤ m))) H
theorem ok_is_between {f f1 : Addr} {fd fd1 : FuncData} {k : Nat} (F : Fun K "is_between" "is_between" s_is_between f fd)
    (G1 : FnOk P w K mg base CX0 k f1 fd1 ["thing"] spIsInt) (kp1 : PySem.W.keepIn K (.ref f1) = true) (b1 : Binds K fd1 ["thing"] []) (g1 : mg "is_int" = some (.ref f1)) :
    FnOk P w K mg base CX0 (k + 1) f fd ["thing", "least", "most"] spIsBetween := by
  refine F.ok sc_is_between (fun vs H Q E h => ?_) (fun cdv A outer s H vs Q E hr h => ?_)
  · obtain ⟨i, l, m, rfl, _⟩ := h; rfl
  · obtain ⟨i, l, m, rfl, q⟩ := h
    refine ⟨_, pss_one (ps_ret (pe_and (pe_call G1 hr (by rfl) g1 kp1 b1 .nil pass0 (pa_cons (pv 0) pa_nil)) (pe_one (pe_chain op_le op_le (pv 1) (pv 0) (pv 2))))), ?_⟩
    refine ⟨.int i, rfl, i, rfl, true, rfl, iteT ?_⟩
    refine ⟨.int l, rfl, .int i, rfl, l, i, rfl, rfl, decide (l ≤ i), rfl, ?_⟩
    by_cases h1 : l ≤ i
    · rw [decide_eq_true h1] at q ⊢
      exact iteT ⟨.int m, rfl, i, m, rfl, rfl, q⟩
    · rw [decide_eq_false h1] at q ⊢
      exact iteF q
/-! ### is_int, is_between: of any data -/
theorem isInt_eq (d : PyData) : (isB "int" d && !isB "bool" d) = isIntD d := by
  cases d <;> rfl
def spIsIntA (K : PySem.W.Frag) : Sp := fun vs H Q _ => ∃ v d, vs = [v] ∧ Aq K H v d ∧ Q (.bl (isIntD d)) H
theorem ok_is_intA {f : Addr} {fd : FuncData} {k : Nat} (F : Fun K "is_int" "is_int" s_is_int f fd) (m1 : mg "isinstance" = none) (m2 : mg "int" = none) (m3 : mg "bool" = none) :
    FnOk P w K mg base CX0 (k + 1) f fd ["thing"] (spIsIntA K) := by
  refine F.ok sc_is_int (fun vs H Q E h => ?_) (fun cdv A outer s H vs Q E hr h => ?_)
  · obtain ⟨v, d, rfl, _⟩ := h; rfl
  · obtain ⟨v, d, rfl, hd, q⟩ := h
    refine ⟨_, pss_one (ps_ret (pe_and
      (pe_callB call_isiA (by rfl) m1 (by decide +kernel) (pa_cons (pv 0) (pa_cons (pe_bltn (v := .ty "int") (by rfl) m2 (by decide +kernel) rfl) pa_nil)))
      (pe_one (pe_not (pe_callB call_isiA (by rfl) m1 (by decide +kernel) (pa_cons (pv 0) (pa_cons (pe_bltn (v := .ty "bool") (by rfl) m3 (by decide +kernel) rfl) pa_nil))))))), ?_⟩
    refine ⟨v, rfl, v, d, "int", rfl, hd, .inr (.inl rfl), isB "int" d, rfl, ?_⟩
    have e := isInt_eq d
    cases h1 : isB "int" d with
    | false => rw [h1] at e; rw [← e] at q; exact iteF q
    | true =>
      refine iteT ⟨v, rfl, v, d, "bool", rfl, hd, .inr (.inr (.inl rfl)), isB "bool" d, rfl, ?_⟩
      rw [h1, Bool.true_and] at e
      rw [← e] at q
      exact q
def spBetA (K : PySem.W.Frag) : Sp := fun vs H Q _ => ∃ v d, ∃ l m : Int, vs = [v, .int l, .int m] ∧ Aq K H v d ∧ Q (.bl (betD d l m)) H
theorem ok_is_betweenA {f f1 : Addr} {fd fd1 : FuncData} {k : Nat} (F : Fun K "is_between" "is_between" s_is_between f fd)
    (G1 : FnOk P w K mg base CX0 k f1 fd1 ["thing"] (spIsIntA K)) (kp1 : PySem.W.keepIn K (.ref f1) = true) (b1 : Binds K fd1 ["thing"] []) (g1 : mg "is_int" = some (.ref f1)) :
    FnOk P w K mg base CX0 (k + 1) f fd ["thing", "least", "most"] (spBetA K) := by
  refine F.ok sc_is_between (fun vs H Q E h => ?_) (fun cdv A outer s H vs Q E hr h => ?_)
  · obtain ⟨v, d, l, m, rfl, _⟩ := h; rfl
  · obtain ⟨v, d, l, m, rfl, hd, q⟩ := h
    refine ⟨_, pss_one (ps_ret (pe_and (pe_call G1 hr (by rfl) g1 kp1 b1 .nil pass0 (pa_cons (pv 0) pa_nil)) (pe_one (pe_chain op_le op_le (pv 1) (pv 0) (pv 2))))), ?_⟩
    refine ⟨v, rfl, v, d, rfl, hd, isIntD d, rfl, ?_⟩
    cases hi : isIntD d with
    | false =>
      have e : betD d l m = false := by cases d <;> first | rfl | exact nomatch hi
      rw [e] at q
      exact iteF q
    | true =>
      obtain ⟨i, rfl⟩ : ∃ i, d = .int i := by cases d <;> first | exact ⟨_, rfl⟩ | exact nomatch hi
      obtain rfl : v = .int i := by
        cases hd with
        | data hd => cases hd; rfl
      refine iteT ⟨.int l, rfl, .int i, rfl, l, i, rfl, rfl, decide (l ≤ i), rfl, ?_⟩
      have e : betD (.int i) l m = (decide (l ≤ i) && decide (i ≤ m)) := rfl
      rw [e] at q
      by_cases h1 : l ≤ i
      · rw [decide_eq_true h1] at q ⊢
        exact iteT ⟨.int m, rfl, i, m, rfl, rfl, q⟩
      · rw [decide_eq_false h1] at q ⊢
        exact iteF q
/-! ### the script's cells, the pen -/
def spCell (K : PySem.W.Frag) : Sp := fun vs H Q _ => ∃ (a : Addr) (ns : List Int) (k : Nat), vs = [.ref a, .int k] ∧ SqL K H a (ns.map V.int) ∧ ∀ r : Int, Q (.int r) H
theorem ok_l_cell {f : Addr} {fd : FuncData} {k : Nat} (F : Fun K "_law_cell" "_law_cell" s_l_cell f fd) (m1 : mg "len" = none) :
    FnOk P w K mg base CX0 (k + 1) f fd ["_law_script", "_law_k"] (spCell K) := by
  refine F.ok sc_l_cell (fun vs H Q E h => ?_) (fun cdv A outer s H vs Q E hr h => ?_)
  · obtain ⟨a, ns, j, rfl, _⟩ := h; rfl
  · obtain ⟨a, ns, j, rfl, hS, q⟩ := h
    refine ⟨_, pss_one (ps_ret (pe_ifExp (pt_cmpR op_lt (pv 1) (pe_callB call_len_seq (by rfl) m1 PySem.boot_len (pa_cons (pv 0) pa_nil)) (nomark _))
      (pe_ix ix_list (pv 0) (pv 1) (fun _ _ => rfl)) pe_int)), ?_⟩
    refine ⟨.int j, rfl, .ref a, rfl, a, ns.map V.int, rfl, .inl hS, _, _, rfl, rfl, _, rfl, ite2 (fun e => ?_) (fun e => ?_)⟩
    · have e1 : (j : Int) < ((ns.map V.int).length : Nat) := of_decide_eq_true e
      have e2 : j < ns.length := by rw [List.length_map] at e1; omega
      refine ⟨.ref a, rfl, .int j, rfl, a, ns.map V.int, (j : Int), .int ns[j], rfl, rfl, hS, atI_nat ?_, q _⟩
      rw [List.getElem?_map, List.getElem?_eq_getElem e2]; rfl
    · exact q 0
def spPen : Sp := fun vs H Q _ => ∃ c : Int, vs = [.int c] ∧ ∀ H' p, H p = none → Same H H' → PenAt H' p → Q (.ref p) H'
theorem ok_l_pen {f : Addr} {fd : FuncData} {k : Nat} (F : Fun K "_law_pen" "_law_pen" s_l_pen f fd) (m1 : mg "max" = none) :
    FnOk P w K mg base CX0 (k + 1) f fd ["_law_cell_here"] spPen := by
  refine F.ok sc_l_pen (fun vs H Q E h => ?_) (fun cdv A outer s H vs Q E hr h => ?_)
  · obtain ⟨c, rfl, _⟩ := h; rfl
  · obtain ⟨c, rfl, q⟩ := h
    refine ⟨_, pss_one (ps_ret (pe_lst (pa_cons (pe_callB (call_max2 rfl) (by rfl) m1 (by decide +kernel) (pa_cons pe_int (pa_cons (pe_op op_sub (pv 0) (pe_op op_pow pe_int pe_int)) pa_nil)))
      (pa_cons (pe_op op_add (pe_op op_mod (pv 0) pe_int) pe_int) (pa_cons pe_int pa_nil))))), ?_⟩
    refine ⟨.int c, rfl, 10, 18, rfl, rfl, (by show (0 : Int) ≤ 18 ∧ (18 : Int) ≤ 1000000 ∧ _; decide), c, _, rfl, rfl, _, _, rfl, ?_⟩
    refine ⟨.int c, rfl, c, 2147483629, rfl, rfl, (by show (0 : Int) < 2147483629; decide), _, _, rfl, rfl, ?_⟩
    refine ⟨by show 3 ≤ sizeLine; decide, fun p hp => q _ p hp (same_new hp) ⟨_, _, _, upd_same, ?_⟩⟩
    have h1 := Int.emod_nonneg c (show (2147483629 : Int) ≠ 0 by decide)
    have h2 := Int.emod_lt_of_pos c (show (0 : Int) < 2147483629 by decide)
    constructor <;> omega
/-! ### a draw -/
def spDraw : Sp := fun vs H Q _ => ∃ (p : Addr) (m : Int), vs = [.ref p, .int m] ∧ PenAt H p ∧ 0 < m ∧ m < 1000000 ∧
  ∀ H' (r : Int), 0 ≤ r → r < m → PenAt H' p → But p H H' → Q (.int r) H'
theorem ok_l_draw {f : Addr} {fd : FuncData} {k : Nat} (F : Fun K "_law_draw" "_law_draw" s_l_draw f fd) :
    FnOk P w K mg base CX0 (k + 1) f fd ["_law_pen_here", "_law_many"] spDraw := by
  refine F.ok sc_l_draw (fun vs H Q E h => ?_) (fun cdv A outer s H vs Q E hr h => ?_)
  · obtain ⟨p, m, rfl, _⟩ := h; rfl
  · obtain ⟨p, m, rfl, ⟨a, b, c, hp, hb0, hb1⟩, hm0, hm1, q⟩ := h
    refine ⟨_, pss_cons (ps_if (pt_cmpR op_gt (pe_ix ix_list (pv 0) pe_int (fun _ _ => rfl)) pe_int (nomark _))
        (pss_cons (ps_set (i := 2) sc_l_draw.nd rfl (.inl rfl) (pe_op op_mod (pe_ix ix_list (pv 0) pe_int (fun _ _ => rfl)) (pv 1)))
        (pss_cons (ps_asg (pe_op op_fdiv (pe_ix ix_list (pv 0) pe_int (fun _ _ => rfl)) (pv 1)) (pg_sub (pv 0) pe_int set_list))
        (pss_one (ps_ret (pv 2))))) pss_nil)
      (pss_cons (ps_asg (pe_op op_add (pe_ix ix_list (pv 0) pe_int (fun _ _ => rfl)) pe_int) (pg_sub (pv 0) pe_int set_list))
      (pss_cons (ps_asg (pe_op op_mod (pe_op op_add (pe_op op_add (pe_op op_mul (pe_ix ix_list (pv 0) pe_int (fun _ _ => rfl)) pe_int)
            (pe_op op_mul pe_int (pe_ix ix_list (pv 0) pe_int (fun _ _ => rfl)))) pe_int) pe_int) (pg_sub (pv 0) pe_int set_list))
      (pss_cons (ps_set (i := 3) sc_l_draw.nd rfl (.inl rfl) (pe_op op_mod (pe_op op_add (pe_op op_add (pe_op op_mul (pe_ix ix_list (pv 0) pe_int (fun _ _ => rfl)) (pe_ix ix_list (pv 0) pe_int (fun _ _ => rfl)))
            (pe_op op_mul pe_int (pe_ix ix_list (pv 0) pe_int (fun _ _ => rfl)))) pe_int) pe_int))
      (pss_cons (ps_set (i := 3) sc_l_draw.nd rfl (.inl rfl) (pe_op op_mod (pe_op op_add (pe_op op_mul (pv 3) (pv 3)) (pe_op op_mul pe_int (pv 3))) pe_int))
      (pss_one (ps_ret (pe_op op_mod (pe_op op_fdiv (pv 3) pe_int) (pv 1)))))))), ?_⟩
    refine ⟨.ref p, rfl, p, _, 0, .int a, rfl, rfl, .of hp, atI0, a, 0, rfl, rfl, _, rfl, ite2 (fun e => ?_) (fun e => ?_)⟩
    · have ha : 0 < a := of_decide_eq_true e
      refine ⟨.ref p, rfl, p, _, 0, .int a, rfl, rfl, .of hp, atI0, .int m, rfl, a, m, rfl, rfl, hm0, ?_⟩
      refine ⟨.ref p, rfl, p, _, 0, .int a, rfl, rfl, .of hp, atI0, .int m, rfl, a, m, rfl, rfl, ⟨hm0, (by omega)⟩, ?_⟩
      refine ⟨.ref p, rfl, p, _, 0, 0, rfl, rfl, hp, rfl, ?_⟩
      refine ⟨.int (a % m), rfl, q _ _ (Int.emod_nonneg a (by omega)) (Int.emod_lt_of_pos a hm0) ⟨a / m, b, c, upd_same, hb0, hb1⟩ But.upd⟩
    · refine ⟨.ref p, rfl, p, _, 2, .int c, rfl, rfl, .of hp, atI2, c, 1, rfl, rfl, ?_⟩
      refine ⟨.ref p, rfl, p, _, 2, 2, rfl, rfl, hp, rfl, ?_⟩
      have hp1 : (upd H p (.lst [.int a, .int b, .int (c + 1)])) p = some (.lst [.int a, .int b, .int (c + 1)]) := upd_same
      refine ⟨.ref p, rfl, p, _, 1, .int b, rfl, rfl, .of hp1, atI1, b, 48271, rfl, rfl, .inl ⟨by omega, by omega⟩, ?_⟩
      refine ⟨.ref p, rfl, p, _, 2, .int (c + 1), rfl, rfl, .of hp1, atI2, 1009, c + 1, rfl, rfl, .inl (by decide), ?_⟩
      refine ⟨_, _, rfl, rfl, _, _, rfl, rfl, _, 2147483647, rfl, rfl, (by show (0 : Int) < 2147483647; decide), ?_⟩
      refine ⟨.ref p, rfl, p, _, 1, 1, rfl, rfl, hp1, rfl, ?_⟩
      dsimp only [List.set]
      generalize hb' : (b * 48271 + 1009 * (c + 1) + 7) % 2147483647 = b'
      have g1 : 0 ≤ b' := by rw [← hb']; exact Int.emod_nonneg _ (by decide)
      have g2 : b' < 2147483647 := by rw [← hb']; exact Int.emod_lt_of_pos _ (by decide)
      have hp2 : (upd (upd H p (.lst [.int a, .int b, .int (c + 1)])) p (.lst [.int a, .int b', .int (c + 1)])) p = some (.lst [.int a, .int b', .int (c + 1)]) := upd_same
      refine ⟨.ref p, rfl, p, _, 1, .int b', rfl, rfl, .of hp2, atI1, .ref p, rfl, p, _, 1, .int b', rfl, rfl, .of hp2, atI1, b', b', rfl, rfl, .inl ⟨by omega, by omega⟩, ?_⟩
      refine ⟨.ref p, rfl, p, _, 1, .int b', rfl, rfl, .of hp2, atI1, 69621, b', rfl, rfl, .inl (by decide), ?_⟩
      refine ⟨_, _, rfl, rfl, _, _, rfl, rfl, _, 2147483629, rfl, rfl, (by show (0 : Int) < 2147483629; decide), ?_⟩
      dsimp only
      generalize ht : (b' * b' + 69621 * b' + 11) % 2147483629 = t
      have t1 : 0 ≤ t := by rw [← ht]; exact Int.emod_nonneg _ (by decide)
      have t2 : t < 2147483629 := by rw [← ht]; exact Int.emod_lt_of_pos _ (by decide)
      refine ⟨.int t, rfl, .int t, rfl, t, t, rfl, rfl, .inl ⟨by omega, by omega⟩, .int t, rfl, 40014, t, rfl, rfl, .inl (by decide), _, _, rfl, rfl, _, 2147483587, rfl, rfl, (by show (0 : Int) < 2147483587; decide), ?_⟩
      refine ⟨_, rfl, _, 16, rfl, rfl, ⟨by decide, by decide⟩, .int m, rfl, _, m, rfl, rfl, hm0, ?_⟩
      refine q _ _ (Int.emod_nonneg _ (by omega)) (Int.emod_lt_of_pos _ hm0) ⟨a, b', c + 1, upd_same, by omega, by omega⟩ ?_
      exact But.upd.trans But.upd
end
end Sg
set_option Elab.async false
set_option linter.all false
set_option maxRecDepth 100000
set_option maxHeartbeats 4000000
namespace Sg
open PySem PySem.Spec PyProof.Rows L2
section
variable {P : Program} {w : World} {K : PySem.W.Frag} {mg : Str → Option Value} {base : Heap}
/-! ### is_work, of a work -/
def spIsWork (K : PySem.W.Frag) : Sp := fun vs H Q _ => ∃ (a : Addr) (ns : List Int), vs = [.ref a] ∧ SqT K H a (ns.map V.int) ∧ IsWork ns ∧ ∀ H', Same H H' → Q (.bl true) H'
theorem ok_is_work {f f1 : Addr} {fd fd1 : FuncData} {k : Nat} (F : Fun K "is_work" "is_work" s_is_work f fd) (N : Nums mg)
    (G1 : FnOk P w K mg base CX0 k f1 fd1 ["thing", "least", "most"] spIsBetween) (kp1 : PySem.W.keepIn K (.ref f1) = true) (b1 : Binds K fd1 ["thing", "least", "most"] []) (g1 : mg "is_between" = some (.ref f1))
    (m1 : mg "isinstance" = none) (m2 : mg "tuple" = none) (m3 : mg "len" = none) (m4 : mg "all" = none) :
    FnOk P w K mg base CX0 (k + 1) f fd ["thing"] (spIsWork K) := by
  obtain ⟨t1, n1⟩ := N.nowhere
  obtain ⟨t2, n2⟩ := N.stations
  obtain ⟨t3, n3⟩ := N.most
  refine F.ok sc_is_work (fun vs H Q E h => ?_) (fun cdv A outer s H vs Q E hr h => ?_)
  · obtain ⟨a, ns, rfl, _⟩ := h; rfl
  · obtain ⟨a, ns, rfl, hS, hw, q⟩ := h
    refine ⟨_, pss_cons (ps_if (PW.pt (pw_or (pt_not (pt_val (pe_callB call_isi (by rfl) m1 (by decide +kernel) (pa_cons (pv 0) (pa_cons (pe_bltn (v := .ty "tuple") (by rfl) m2 (by decide +kernel) rfl) pa_nil)))))
          (pw_or1 (pt_not (pt_chain op_le op_le pe_int (pe_callB call_len_seq (by rfl) m3 PySem.boot_len (pa_cons (pv 0) pa_nil)) (pe_glob (v := .int 60) (by rfl) n3 ⟨_, rfl⟩))))))
        (pss_one (ps_ret pe_bl)) pss_nil)
      (pss_cons (ps_if (pt_not (pt_val (pe_callB (cr_all rfl) (by rfl) m4 (by decide +kernel) (pa_cons
          (pe_lc (own := [("item", 1)]) (g := gName 1) (tt := tYes) rfl sc_is_work.nd (pi_tup (pv 0)) (blkOk_by (N := ["thing", "item"]) (sc := defScope s_is_work) (by decide +kernel))
            (fun _ _ _ _ _ => pg_name (i := 1) sc_is_work.nd rfl (Or.inl rfl)) (fun _ _ _ _ _ => pts_nil)
            (fun _ _ _ _ _ => pe_call G1 hr (by rfl) g1 kp1 b1 .nil pass0 (pa_cons (pv 1) (pa_cons (pe_glob (v := .int (-1)) (by rfl) n1 ⟨_, rfl⟩) (pa_cons (pe_op op_sub (pe_glob (v := .int 10) (by rfl) n2 ⟨_, rfl⟩) pe_int) pa_nil))))) pa_nil))))
        (pss_one (ps_ret pe_bl)) pss_nil)
      (pss_one (ps_ret (pe_and (pe_cmpR op_ne (pe_ix ix_tup (pv 0) pe_int (fun _ _ => rfl)) (pe_glob (v := .int (-1)) (by rfl) n1 ⟨_, rfl⟩) (nomark _))
        (pe_one (pe_cmpR op_ne (pe_ix ix_tup (pv 0) (pe_un un_neg pe_int) (fun _ _ => rfl)) (pe_glob (v := .int (-1)) (by rfl) n1 ⟨_, rfl⟩) (nomark _))))))), ?_⟩
    have l1 : ((ns.map V.int).length : Int) = ns.length := by rw [List.length_map]
    refine ⟨.ref a, rfl, .ref a, .ty "tuple", _, _, true, rfl, .ty _, tyT hS, kit_ty (by decide +kernel), true, rfl, iteF ?_⟩
    refine ⟨.ref a, rfl, a, ns.map V.int, rfl, .inr hS, 1, _, rfl, rfl, _, rfl, ?_⟩
    have c1 : decide ((1 : Int) ≤ ((ns.map V.int).length : Nat)) = true := decide_eq_true (by rw [List.length_map]; have := hw.pos; omega)
    rw [c1]
    refine iteT ⟨_, 60, rfl, rfl, _, rfl, ?_⟩
    have c2 : decide ((((ns.map V.int).length : Nat) : Int) ≤ 60) = true := decide_eq_true (by rw [List.length_map]; have := hw.most; omega)
    rw [c2]
    refine iteF ?_
    refine ⟨.ref a, rfl, a, rfl, ⟨_, hS⟩, fun D hD => ?_⟩
    refine lc_tup (xs := ns.map V.int) (fun i H' => Same H H' ∧ H' D = some (.lst ((((ns.take i).map inR)).map V.bl))) ⟨same_new hD, upd_same⟩ (fun i H' _ h => Same.tup h.1 hS) (fun i x H' hx h => ?_) (fun H' h => ?_)
    · rw [List.getElem?_map] at hx
      obtain ⟨z, hz, rfl⟩ := Option.map_eq_some_iff.mp hx
      have hl : i < ns.length := (List.getElem?_eq_some_iff.mp hz).1
      refine ⟨rfl, .int z, rfl, 10, 1, rfl, rfl, z, -1, _, rfl, ?_⟩
      refine ⟨_, h.2, ?_, fun b o e => ?_, ?_⟩
      · rw [List.length_map, List.length_map, List.length_take]
        have := hw.most
        exact small1000 (by omega)
      · rw [upd_ne (ne_of_none e hD)]
        exact h.1 _ _ e
      · rw [upd_same, List.take_add_one, hz, List.map_append, List.map_append]
        rfl
    · have hall : (((ns.take ns.length).map inR)).all id = true := by
        rw [List.take_length, List.all_map, List.all_eq_true]
        intro x hx
        have := hw.items x hx
        simp [inR, this.1, this.2]
      have h2 := h.2
      rw [List.length_map] at h2
      refine ⟨D, _, rfl, .of h2, true, congrArg V.bl hall, iteF ?_⟩
      have hS' : SqT K H' a (ns.map V.int) := Same.tup h.1 hS
      obtain ⟨x, hx⟩ : ∃ x, ns[0]? = some x := ⟨ns[0]'(hw.pos), List.getElem?_eq_getElem _⟩
      have hpos := hw.pos
      obtain ⟨y, hy⟩ : ∃ y, ns[ns.length - 1]? = some y := ⟨ns[ns.length - 1]'(by omega), List.getElem?_eq_getElem _⟩
      have gx : (ns.map V.int)[0]? = some (.int x) := by rw [List.getElem?_map, hx]; rfl
      have gy : atI (ns.map V.int) (-1) = some (.int y) := by
        have hne : ns ≠ [] := fun z => by rw [z] at hpos; exact absurd hpos (by decide)
        have e1 : ns = ns.dropLast ++ [y] := by
          have e2 : ns.getLast hne = y := by
            have := List.getLast_eq_getElem hne
            rw [this]
            exact (List.getElem?_eq_some_iff.mp hy).2
          rw [← e2, List.dropLast_concat_getLast]
        rw [e1, List.map_append]
        exact atI_last _ _
      refine ⟨.ref a, rfl, a, _, 0, .int x, rfl, rfl, hS', atI_nat (j := 0) gx, rfl, ?_⟩
      have d1 : decide (V.int x = V.int (-1)) = false := decide_eq_false fun z => hw.head x hx (V.int.inj z)
      rw [d1]
      refine ⟨true, rfl, iteT ?_⟩
      refine ⟨.ref a, rfl, 1, rfl, a, _, -1, .int y, rfl, rfl, hS', gy, rfl, ?_⟩
      have d2 : decide (V.int y = V.int (-1)) = false := decide_eq_false fun z => hw.last y hy (V.int.inj z)
      rw [d2]
      exact q H' h.1
def spReq (K : PySem.W.Frag) : Sp := fun vs H Q _ => ∃ (a : Addr) (ns : List Int), vs = [.ref a] ∧ SqT K H a (ns.map V.int) ∧ IsWork ns ∧ ∀ H', Same H H' → Q .non H'
theorem ok_require_work {f f1 : Addr} {fd fd1 : FuncData} {k : Nat} (F : Fun K "require_work" "require_work" s_require_work f fd)
    (G1 : FnOk P w K mg base CX0 k f1 fd1 ["thing"] (spIsWork K)) (kp1 : PySem.W.keepIn K (.ref f1) = true) (b1 : Binds K fd1 ["thing"] []) (g1 : mg "is_work" = some (.ref f1)) :
    FnOk P w K mg base CX0 (k + 1) f fd ["thing"] (spReq K) := by
  refine F.ok sc_require_work (fun vs H Q E h => ?_) (fun cdv A outer s H vs Q E hr h => ?_)
  · obtain ⟨a, ns, rfl, _⟩ := h; rfl
  · obtain ⟨a, ns, rfl, hS, hw, q⟩ := h
    refine ⟨_, pss_one (ps_if (pt_not (pt_val (pe_call G1 hr (by rfl) g1 kp1 b1 .nil pass0 (pa_cons (pv 0) pa_nil)))) (pss_one ps_never) pss_nil), ?_⟩
    exact ⟨.ref a, rfl, a, ns, rfl, hS, hw, fun H' sm => ⟨true, rfl, iteF (q H' sm)⟩⟩
end
end Sg
set_option Elab.async false
set_option linter.all false
set_option maxRecDepth 100000
set_option maxHeartbeats 4000000
namespace Sg
open PySem PySem.Spec PyProof.Rows L2 StX
theorem op_in_seqK {X : Cx} {K : PySem.W.Frag} (hK : X.K = K) : OpR X (compareOp .In) (rIn K false) := by subst hK; exact op_in_seq
theorem op_notInDK {X : Cx} {K : PySem.W.Frag} (hK : X.K = K) (hu : X.A.units + 65 < cLine) : OpR X (compareOp .NotIn) (rNotInD K) := by subst hK; exact op_notInD hu
theorem inV_ints (x : Int) (xs : List Int) : inV (.int x) (xs.map V.int) = decide (x ∈ xs) := by
  unfold inV
  induction xs with
  | nil => rfl
  | cons y ys ih =>
    rw [List.map_cons, List.any_cons, ih]
    show (decide (y = x) || decide (x ∈ ys)) = decide (x ∈ y :: ys)
    by_cases h : y = x
    · simp [h]
    · have : ¬ x = y := fun e => h e.symm
      simp [h, this]
theorem flat_ints : ∀ xs : List Int, (xs.map V.int).all flatV = true
  | [] => rfl
  | x :: xs => by show (flatV (.int x) && (xs.map V.int).all flatV) = true; rw [flat_ints xs]; rfl
section
variable {P : Program} {w : World} {K : PySem.W.Frag} {mg : Str → Option Value} {base : Heap}
/-! ### _needed_places -/
def spNeeded (K : PySem.W.Frag) : Sp := fun vs H Q _ => ∃ (c l : Addr) (coming : List Int) (us : List V) (ps : List Plc), vs = [.ref c, .ref l] ∧ SqT K H c (coming.map V.int) ∧ H l = some (.lst us) ∧ PlsAt H us ps ∧ ps.length ≤ 1000 ∧
  ∀ H' t, Same H H' → TkAt H' t (needed coming ps) → Q (.ref t) H'
theorem ok_needed {f : Addr} {fd : FuncData} {k : Nat} (F : Fun K "_needed_places" "_needed_places" s_needed_places f fd) (nN : ∃ t, mg "NOWHERE" = some (.int (-1) t)) (m1 : mg "tuple" = none) (m2 : mg "sorted" = none) :
    FnOk P w K mg base CX0 (k + 1) f fd ["coming", "places"] (spNeeded K) := by
  obtain ⟨tN, nN⟩ := nN
  refine F.ok sc_needed_places (fun vs H Q E h => ?_) (fun cdv A outer s H vs Q E hr h => ?_)
  · obtain ⟨c, l, coming, us, ps, rfl, _⟩ := h; rfl
  · obtain ⟨c, l, coming, us, ps, rfl, hc, hl, hp, few, q⟩ := h
    refine ⟨_, pss_one (ps_ret (pe_callTy call_tuple_of (by rfl) m1 (by decide +kernel) (pa_cons (pe_callB (cr_sortedD hr) (by rfl) m2 (by decide +kernel) (pa_cons
      (pe_lc (own := [("station", 2), ("ago", 3)]) (g := gTup K 2 (gCons (gName 2) (gCons (gName 3) gNil))) rfl sc_needed_places.nd (pi_list (pv 1)) (blkOk_by (N := ["coming", "places", "station", "ago"]) (sc := defScope s_needed_places) (by decide +kernel))
        (fun _ _ _ _ _ => pg_tup rfl (pgs_cons (pg_name (i := 2) sc_needed_places.nd rfl (Or.inl rfl)) (pgs_cons (pg_name (i := 3) sc_needed_places.nd rfl (Or.inl rfl)) pgs_nil)))
        (fun _ _ _ _ _ => pts_one (PW.pt (pw_and (pt_cmpR (op_in_seqK (K := K) rfl) (pv 2) (pv 0) (by with_unfolding_all rfl)) (pw_and1 (pt_cmpR op_ne (pv 2) (pe_glob (v := .int (-1)) (by rfl) nN ⟨_, rfl⟩) (nomark _))))))
        (fun _ _ _ _ _ => pe_tup (pa_cons (pv 2) (pa_cons (pv 3) pa_nil)))) pa_nil)) pa_nil))), ?_⟩
    have big : 1000 ≤ sizeLine := by rw [sizeLine_eq]; decide
    have lus := hp.len
    refine ⟨.ref l, rfl, l, rfl, ⟨_, .of hl⟩, fun D nD => ?_⟩
    refine lc_list (xs := us) (fun i H' => Same H H' ∧ ∃ ys, H' D = some (.lst ys) ∧ PlsAt H' ys ((ps.take i).filter fun p => decide (p.1 ∈ coming) && decide (p.1 ≠ -1))) ⟨same_new nD, [], upd_same, .nil⟩ (fun i H' _ h => .of (h.1 _ _ hl)) (fun i x H' hx h => ?_) (fun H' h => ?_)
    · obtain ⟨e, ys, hD, hY⟩ := h
      obtain ⟨cc, p, rfl, hpi, hcc⟩ := hp.at hx
      have hi := (List.getElem?_eq_some_iff.mp hpi).1
      have lys := hY.len
      have lf := List.length_filter_le (fun p : Plc => decide (p.1 ∈ coming) && decide (p.1 ≠ -1)) (ps.take i)
      rw [List.length_take] at lf
      refine ⟨cc, _, rfl, .of (e _ _ hcc), rfl, _, _, rfl, _, _, rfl, rfl, rfl, ?_⟩
      refine ⟨.int p.1, rfl, .ref c, rfl, c, _, rfl, .inr (Same.tup e hc), rfl, flat_ints _, _, rfl, ?_⟩
      rw [show (if false = true then !inV (V.int p.1) (coming.map V.int) else inV (V.int p.1) (coming.map V.int)) = decide (p.1 ∈ coming) from inV_ints p.1 coming]
      have snocF : (ps.take (i + 1)).filter (fun p => decide (p.1 ∈ coming) && decide (p.1 ≠ -1)) = (ps.take i).filter (fun p => decide (p.1 ∈ coming) && decide (p.1 ≠ -1)) ++ (if (decide (p.1 ∈ coming) && decide (p.1 ≠ -1)) = true then [p] else []) := by
        rw [List.take_add_one, hpi, List.filter_append]
        congr 1
        show List.filter _ [p] = _
        rw [List.filter_cons]; rfl
      cases h1 : decide (p.1 ∈ coming) with
      | false =>
        refine iteF ⟨e, ys, hD, ?_⟩
        rw [snocF, h1]
        simpa using hY
      | true =>
        refine iteT ⟨.int p.1, rfl, rfl, _, rfl, ?_⟩
        by_cases h2 : p.1 = -1
        · rw [show (!decide (V.int p.1 = V.int (-1))) = false from by rw [decide_eq_true (by rw [h2])]; rfl]
          refine iteF ⟨e, ys, hD, ?_⟩
          rw [snocF, h1, decide_eq_false (by omega)]
          simpa using hY
        · rw [show (!decide (V.int p.1 = V.int (-1))) = true from by rw [decide_eq_false (fun z => h2 (V.int.inj z))]; rfl]
          refine iteT ⟨.int p.1, rfl, .int p.2, rfl, by show 2 ≤ sizeLine; omega, fun t nt => ?_⟩
          have et := same_new (o := .tup [V.int p.1, .int p.2]) nt
          have hD2 := et _ _ hD
          refine ⟨ys, hD2, by rw [lys]; omega, fun b o z => ?_, ys ++ [.ref t], upd_same, ?_⟩
          · rw [upd_ne (ne_of_none z nD)]
            exact et _ _ (e _ _ z)
          · rw [snocF, h1, decide_eq_true h2]
            have k1 : KeepT (upd H' t (.tup [V.int p.1, .int p.2])) (upd (upd H' t (.tup [V.int p.1, .int p.2])) D (.lst (ys ++ [.ref t]))) := .upd hD2 fun _ z => nomatch z
            have tt : (upd H' t (.tup [V.int p.1, .int p.2])) t = some (.tup [V.int p.1, .int p.2]) := upd_same
            exact ((hY.keep (.of et)).keep k1).snoc (k1 _ _ tt)
    · obtain ⟨e, ys, hD, hY⟩ := h
      rw [show us.length = ps.length from lus, List.take_length] at hY
      have lys := hY.len
      have lf := List.length_filter_le (fun p : Plc => decide (p.1 ∈ coming) && decide (p.1 ≠ -1)) ps
      have al : PySem.W.AllAlike (plsD (ps.filter fun p => decide (p.1 ∈ coming) && decide (p.1 ≠ -1))) := PySem.W.AllAlike.of (enc := plD) (bs := ps.filter _) alike_pl
      refine ⟨D, ys, plsD (ps.filter fun p => decide (p.1 ∈ coming) && decide (p.1 ≠ -1)), rfl, .of hD, hY.dp, al, PySem.W.Sortable.tuples (enc := plD) fun b => ⟨_, _, rfl⟩, fun d hd => ?_, fun bs p hbs np => ?_⟩
      · obtain ⟨x, _, rfl⟩ := List.mem_map.mp hd
        simp [PyData.depth, PyData.depthAll]
      · have hsnd : bs.map (·.2) = plsD (needed coming ps) := by rw [hbs]; exact sort_pls lys
        have hmem : ∀ b ∈ bs, ∃ c p, b = (.ref c, plD p) ∧ H' c = some (.tup [.int p.1, .int p.2]) := fun b hb => by
          rw [hbs] at hb
          exact hY.zip b ((List.mergeSort_perm _ _).mem_iff.mp hb)
        have hS := pls_sorted hmem hsnd
        have e1 := same_new (o := .lst (bs.map (·.1))) np
        refine ⟨p, _, rfl, .inl ⟨.of upd_same, fun t nt => ?_⟩⟩
        have e2 := same_new (o := .tup (bs.map (·.1))) nt
        exact q _ t (e.trans (e1.trans e2)) ⟨_, upd_same, hS.keep (.of (e1.trans e2))⟩
end
end Sg
set_option Elab.async false
set_option linter.all false
set_option maxRecDepth 100000
set_option maxHeartbeats 4000000
namespace Sg
open PySem PySem.Spec PyProof.Rows L2 StX
theorem lay_pls : ∀ ps : List Plc, PyData.canLayAll0 (plsD ps) = true
  | [] => by simp [PyData.canLayAll0]
  | p :: ps => by
    have := lay_pls ps
    simp [PyData.canLayAll0, PyData.canLay0, this]
theorem shaped_pls (ps : List Plc) : SeqAt.shaped (.list (plsD ps)) = true := by
  unfold SeqAt.shaped
  have h1 : (PyData.list (plsD ps)).canLay0 = true := by simp only [PyData.canLay0]; exact lay_pls ps
  have h2 : (PyData.list (plsD ps)).depth ≤ 64 := by
    simp only [PyData.depth]
    have := depth_pls ps
    omega
  rw [h1, decide_eq_true h2]
  rfl
theorem any_pls (ps : List Plc) (p : Plc) : (plsD ps).any (fun z => PyData.eqv z (plD p)) = decide (p ∈ ps) := by
  induction ps with
  | nil => rfl
  | cons q r ih =>
    show (PyData.eqv (plD q) (plD p) || (plsD r).any _) = _
    rw [ih, eqv_pl]
    by_cases h : q = p
    · simp [h]
    · have : ¬ p = q := fun e => h e.symm
      simp [h, this]
/-- a wait and what is taken then -/
def NxAt (H : Hp) (v : V) (w : Int × List Plc) : Prop := ∃ r t, v = .ref r ∧ H r = some (.tup [.int w.1, .ref t]) ∧ TkAt H t w.2
theorem NxAt.keep {H H' : Hp} (e : KeepT H H') {v : V} {w : Int × List Plc} (h : NxAt H v w) : NxAt H' v w := by
  obtain ⟨r, t, h1, h2, h3⟩ := h
  exact ⟨r, t, h1, e _ _ h2, h3.keep e⟩
inductive NxAll (H : Hp) : List V → List (Int × List Plc) → Prop
  | nil : NxAll H [] []
  | cons {v : V} {w : Int × List Plc} {vs : List V} {ws : List (Int × List Plc)} : NxAt H v w → NxAll H vs ws → NxAll H (v :: vs) (w :: ws)
theorem NxAll.keep {H H' : Hp} (e : KeepT H H') : ∀ {vs : List V} {ws : List (Int × List Plc)}, NxAll H vs ws → NxAll H' vs ws
  | _, _, .nil => .nil
  | _, _, .cons h r => .cons (h.keep e) (NxAll.keep e r)
theorem NxAll.snoc {H : Hp} {v : V} {w : Int × List Plc} (h : NxAt H v w) : ∀ {vs : List V} {ws : List (Int × List Plc)}, NxAll H vs ws → NxAll H (vs ++ [v]) (ws ++ [w])
  | _, _, .nil => .cons h .nil
  | _, _, .cons a r => .cons a (NxAll.snoc h r)
theorem NxAll.len {H : Hp} : ∀ {vs : List V} {ws : List (Int × List Plc)}, NxAll H vs ws → vs.length = ws.length
  | _, _, .nil => rfl
  | _, _, .cons _ r => congrArg (· + 1) (NxAll.len r)
theorem NxAll.at {H : Hp} : ∀ {vs : List V} {ws : List (Int × List Plc)} {i : Nat} {v : V}, NxAll H vs ws → vs[i]? = some v → ∃ w, ws[i]? = some w ∧ NxAt H v w
  | _, _, 0, _, .cons h _, e => by cases e; exact ⟨_, rfl, h⟩
  | _, _, i + 1, _, .cons _ r, e => NxAll.at (i := i) r e
section
variable {P : Program} {w : World} {K : PySem.W.Frag} {mg : Str → Option Value} {base : Heap}
/-! ### _next_taken -/
def spNext (K : PySem.W.Frag) : Sp := fun vs H Q _ => ∃ (a t : Addr) (ns : List Int) (d at_ : Nat) (tk : List Plc), vs = [.ref a, .int (d : Nat), .int (at_ : Nat), .ref t] ∧ SqT K H a (ns.map V.int) ∧ TkAt H t tk ∧ 1 ≤ d ∧ d ≤ 100 ∧ at_ < ns.length ∧ tk.length ≤ 900 ∧
  ∀ H' l us, Same H H' → H l = none → H' l = some (.lst us) → NxAll H' us (nextTaken ns d at_ tk) → Q (.ref l) H'
abbrev nxN : List Str := ["work", "distance", "at", "taken", "station", "found", "wait", "moved", "other", "ago"]
theorem ok_next {f f1 : Addr} {fd fd1 : FuncData} {k : Nat} (F : Fun K "_next_taken" "_next_taken" s_next_taken f fd)
    (G1 : FnOk P w K mg base CX0 k f1 fd1 ["coming", "places"] (spNeeded K)) (kp1 : PySem.W.keepIn K (.ref f1) = true) (b1 : Binds K fd1 ["coming", "places"] []) (g1 : mg "_needed_places" = some (.ref f1))
    (m1 : mg "range" = none) : FnOk P w K mg base CX0 (k + 1) f fd ["work", "distance", "at", "taken"] (spNext K) := by
  refine F.ok sc_next_taken (fun vs H Q E h => ?_) (fun cdv A outer s H vs Q E hr h => ?_)
  · obtain ⟨a, t, ns, d, at_, tk, rfl, _⟩ := h; rfl
  · obtain ⟨a, t, ns, d, at_, tk, rfl, ha, ht, d1, d2, hat, few, q⟩ := h
    have hu65 : (A.deeper (envOfC "_next_taken" (defScope s_next_taken) s.heap.objs.size f cdv)).units + 65 < cLine := by have := hr.un; omega
    refine ⟨_, pss_cons (ps_set (i := 4) sc_next_taken.nd rfl (by first | exact .inl rfl | exact .inr rfl) (pe_ix ix_tup (pv 0) (pv 2) (fun _ _ => rfl)))
      (pss_cons (ps_set (i := 5) sc_next_taken.nd rfl (by first | exact .inl rfl | exact .inr rfl) (pe_lst pa_nil))
      (pss_cons (ps_for PassesOwn.never rfl (pi_range1 (by rfl) m1 (pa_cons (pv 1) pa_nil)) (pg_name (i := 6) sc_next_taken.nd rfl (by first | exact .inl rfl | exact .inr rfl))
        (pss_cons (ps_setLc (i := 7) (own := [("other", 8), ("ago", 9)]) (g := gTup K 2 (gCons (gName 8) (gCons (gName 9) gNil))) (tt := tYes) rfl sc_next_taken.nd rfl rfl (sw_true rfl rfl rfl (by decide +kernel)) (pi_tup (pv 3)) (blkOk_by (N := nxN) (sc := defScope s_next_taken) (by decide +kernel))
            (fun _ _ _ _ _ => pg_tup rfl (pgs_cons (pg_name (i := 8) sc_next_taken.nd rfl (Or.inl rfl)) (pgs_cons (pg_name (i := 9) sc_next_taken.nd rfl (Or.inl rfl)) pgs_nil))) (fun _ _ _ _ _ => pts_nil)
            (fun _ _ _ _ _ => pe_tup (pa_cons (pv 8) (pa_cons (pe_op op_mod (pe_op op_add (pe_op op_add (pv 9) (pv 6)) pe_int) (pv 1)) pa_nil))))
        (pss_one (ps_if (pt_cmpR (op_notInDK (K := K) rfl hu65) (pe_tup (pa_cons (pv 4) (pa_cons pe_int pa_nil))) (pv 7) (by with_unfolding_all rfl))
          (pss_one (ps_expr (pe_bm PySem.F.plainAttrs_list PySem.F.slot_list_append PySem.F.type_list_append mt_append (pv 5) (pa_cons (pe_tup (pa_cons (pv 6) (pa_cons
            (pe_call G1 hr (by rfl) g1 kp1 b1 .nil pass0 (pa_cons (pe_slice (sl_tupB (K := K) rfl) (pv 0) (po_some (pe_op op_add (pv 2) pe_int)) po_none) (pa_cons (pe_lst (pa_star (pv 7) (pa_cons (pe_tup (pa_cons (pv 4) (pa_cons pe_int pa_nil))) pa_nil))) pa_nil))) pa_nil))) pa_nil)))) pss_nil))))
      (pss_one (ps_ret (pv 5))))), ?_⟩
    have big : 1000 ≤ sizeLine := by rw [sizeLine_eq]; decide
    obtain ⟨st, hst⟩ : ∃ st, ns[at_]? = some st := ⟨_, List.getElem?_eq_getElem hat⟩
    have est : ns.getD at_ 0 = st := by rw [List.getD_eq_getElem?_getD, hst]; rfl
    refine ⟨.ref a, rfl, .int (at_ : Nat), rfl, a, _, (at_ : Nat), .int st, rfl, rfl, ha, atI_nat (by rw [List.getElem?_map, hst]; rfl), ?_⟩
    refine ⟨Nat.zero_le _, fun Fd nF => ?_⟩
    have e1 : Same H (upd H Fd (.lst [])) := same_new nF
    have hF1 : (upd H Fd (.lst [])) Fd = some (.lst []) := upd_same
    generalize upd H Fd (.lst []) = H1 at e1 hF1 ⊢
    refine ⟨.int (d : Nat), rfl, (d : Nat), rfl, by omega, by omega, ?_⟩
    refine for_range (lo := 0) (n := ((d : Nat) : Int).toNat) (fun i σ H' => ∃ v6 v7 us, σ = [some (.ref a), some (.int (d : Nat)), some (.int (at_ : Nat)), some (.ref t), some (.int st), some (.ref Fd), v6, v7, none, none] ∧ Same H H' ∧ H' Fd = some (.lst us) ∧ NxAll H' us ((List.range i).filterMap (nextOne ns d at_ tk)))
      ⟨_, _, [], rfl, e1, hF1, .nil⟩ ?_ ?_
    rotate_left
    · rintro σ H2 ⟨v6, v7, us, rfl, e2, hF2, hN⟩
      rw [show ((d : Nat) : Int).toNat = d from Int.toNat_natCast d] at hN
      exact ⟨.ref Fd, rfl, q H2 Fd us e2 nF hF2 hN⟩
    rintro i σ H2 hi ⟨v6, v7, us, rfl, e2, hF2, hN⟩
    have hi : i < d := by rw [show ((d : Nat) : Int).toNat = d from Int.toNat_natCast d] at hi; exact hi
    have e0 : (0 : Int) + (i : Nat) = (i : Nat) := Int.zero_add _
    rw [e0]
    have lus := hN.len
    have lfm := List.length_filterMap_le (nextOne ns d at_ tk) (List.range i)
    rw [List.length_range] at lfm
    obtain ⟨ts, hts, hpl⟩ := ht.keep (.of e2)
    -- where all pieces are, one tick and the wait later
    refine ⟨.ref t, rfl, t, rfl, ⟨_, .of hts⟩, fun D nD => ?_⟩
    have nDH : H D = none := freeS e2 nD
    refine lc_tup (xs := ts) (fun j H' => Same H2 H' ∧ ∃ ys, H' D = some (.lst ys) ∧ PlsAt H' ys (movedBy d i (tk.take j))) ⟨same_new nD, [], upd_same, .nil⟩ (fun j H' _ h => .of (h.1 _ _ hts)) (fun j x H' hx h => ?_) (fun H3 h => ?_)
    · obtain ⟨e, ys, hD, hY⟩ := h
      obtain ⟨cc, p, rfl, hpi, hcc⟩ := hpl.at hx
      have hj := (List.getElem?_eq_some_iff.mp hpi).1
      have lys := hY.len
      unfold movedBy at lys
      rw [List.length_map, List.length_take] at lys
      refine ⟨cc, _, rfl, .of (e _ _ hcc), rfl, _, _, rfl, _, _, rfl, rfl, rfl, ?_⟩
      refine ⟨.int p.1, rfl, .int p.2, rfl, .int (i : Nat), rfl, p.2, (i : Nat), rfl, rfl, _, 1, rfl, rfl, .int (d : Nat), rfl, _, (d : Nat), rfl, rfl, by show (0 : Int) < (d : Nat); omega, by show 2 ≤ sizeLine; omega, fun u nu => ?_⟩
      have et := same_new (o := .tup [V.int p.1, .int ((p.2 + (i : Int) + 1) % (d : Int))]) nu
      have hD2 := et _ _ hD
      refine ⟨ys, hD2, by omega, fun b o z => ?_, ys ++ [.ref u], upd_same, ?_⟩
      · rw [upd_ne (ne_of_none z nD)]
        exact et _ _ (e _ _ z)
      · have k1 : KeepT (upd H' u (.tup [V.int p.1, .int ((p.2 + (i : Int) + 1) % (d : Int))])) (upd (upd H' u (.tup [V.int p.1, .int ((p.2 + (i : Int) + 1) % (d : Int))])) D (.lst (ys ++ [.ref u]))) := .upd hD2 fun _ z => nomatch z
        have tt : (upd H' u (.tup [V.int p.1, .int ((p.2 + (i : Int) + 1) % (d : Int))])) u = some (.tup [V.int p.1, .int ((p.2 + (i : Int) + 1) % (d : Int))]) := upd_same
        have := ((hY.keep (.of et)).keep k1).snoc (p := (p.1, (p.2 + (i : Int) + 1) % (d : Int))) (k1 _ _ tt)
        unfold movedBy at this ⊢
        rw [List.take_add_one, hpi, List.map_append]
        exact this
    obtain ⟨e3, ms, hM, hY⟩ := h
    rw [show ts.length = tk.length from hpl.len, List.take_length] at hY
    have lms := hY.len
    have lmv : (movedBy d i tk).length = tk.length := by unfold movedBy; rw [List.length_map]
    -- whether its station is free
    refine ⟨.int st, rfl, by show 2 ≤ sizeLine; omega, fun u nu => ⟨.ref D, rfl, plD (st, 0), plsD (movedBy d i tk), (Tp.ofInts (ns := [st, 0]) (.of upd_same)).dp, .lst (.of (same_new nu _ _ hM)) (hY.keep (.of (same_new nu))).dp, shaped_tD _, shaped_pls _, _, rfl, ?_⟩⟩
    have eu := same_new (o := .tup [V.int st, .int 0]) nu
    have e34 := e3.trans eu
    have hM4 := eu _ _ hM
    have hY4 := hY.keep (.of eu)
    generalize upd H3 u (.tup [V.int st, .int 0]) = H4 at eu e34 hM4 hY4 ⊢
    rw [any_pls]
    have stepR : (List.range (i + 1)).filterMap (nextOne ns d at_ tk) = (List.range i).filterMap (nextOne ns d at_ tk) ++ (nextOne ns d at_ tk i).toList := by
      rw [List.range_succ, List.filterMap_append]
      cases h : nextOne ns d at_ tk i <;> simp [List.filterMap_cons, h]
    by_cases hin : (st, 0) ∈ movedBy d i tk
    · rw [decide_eq_true hin]
      refine iteF ⟨_, _, us, rfl, e2.trans e34, e34 _ _ hF2, ?_⟩
      rw [stepR, show nextOne ns d at_ tk i = none from by unfold nextOne; rw [est, if_pos hin]]
      simpa using hN.keep (.of e34)
    · rw [decide_eq_false hin]
      refine iteT ⟨.ref Fd, rfl, .inl ⟨rfl, _, .of (e34 _ _ hF2)⟩, .int (i : Nat), rfl, .ref a, rfl, .int (at_ : Nat), rfl, (at_ : Nat), 1, rfl, rfl, _, rfl, a, _, rfl, Same.tup (e2.trans e34) ha, fun H5 c5 e5 hc5 => ?_⟩
      rw [show ((at_ : Nat) : Int) + 1 = ((at_ + 1 : Nat) : Int) from rfl, cut_from, ← List.map_drop] at hc5
      refine ⟨.ref D, rfl, D, ms, rfl, .inr (.of (e5 _ _ hM4)), .int st, rfl, by show 2 ≤ sizeLine; omega, fun u2 nu2 => ⟨by rw [List.length_append]; show _ + 1 ≤ sizeLine; omega, fun L nL => ?_⟩⟩
      have ea := same_new (o := .tup [V.int st, .int 0]) nu2
      have eb := same_new (o := .lst (ms ++ [.ref u2])) nL
      have hL : (upd (upd H5 u2 (.tup [V.int st, .int 0])) L (.lst (ms ++ [.ref u2]))) L = some (.lst (ms ++ [.ref u2])) := upd_same
      have hu2 : (upd (upd H5 u2 (.tup [V.int st, .int 0])) L (.lst (ms ++ [.ref u2]))) u2 = some (.tup [V.int st, .int 0]) := eb _ _ upd_same
      have eab := e5.trans (ea.trans eb)
      have hY6 := (hY4.keep (.of eab)).snoc (p := (st, 0)) hu2
      generalize upd (upd H5 u2 (.tup [V.int st, .int 0])) L (.lst (ms ++ [.ref u2])) = H6 at ea eb hL hu2 eab hY6 ⊢
      refine ⟨c5, L, _, _, _, rfl, Same.tup (ea.trans eb) hc5, hL, hY6, by rw [List.length_append, lmv]; show _ + 1 ≤ _; omega, fun H7 r e7 hr7 => ⟨by show 2 ≤ sizeLine; omega, fun x nx => ?_⟩⟩
      have ex := same_new (o := .tup [V.int (i : Nat), .ref r]) nx
      have eall := e34.trans (eab.trans (e7.trans ex))
      have hF8 := eall _ _ hF2
      have hx8 : (upd H7 x (.tup [V.int (i : Nat), .ref r])) x = some (.tup [V.int (i : Nat), .ref r]) := upd_same
      refine ⟨Fd, us, _, rfl, rfl, hF8, by omega, ?_⟩
      have k8 : KeepT (upd H7 x (.tup [V.int (i : Nat), .ref r])) (upd (upd H7 x (.tup [V.int (i : Nat), .ref r])) Fd (.lst (us ++ [.ref x]))) := .upd hF8 fun _ z => nomatch z
      refine ⟨_, _, us ++ [.ref x], rfl, fun b o z => ?_, upd_same, ?_⟩
      · rw [upd_ne (ne_of_none z nF)]
        exact eall _ _ (e2 _ _ z)
      · rw [stepR, show nextOne ns d at_ tk i = some ((i : Int), needed (ns.drop (at_ + 1)) (movedBy d i tk ++ [(st, 0)])) from by unfold nextOne; rw [est, if_neg hin]]
        exact (hN.keep ((KeepT.of eall).trans k8)).snoc ⟨x, r, rfl, k8 _ _ hx8, (hr7.keep (.of ex)).keep k8⟩
end
end Sg
set_option Elab.async false
set_option linter.all false
set_option maxRecDepth 100000
set_option maxHeartbeats 4000000
namespace Sg
open PySem PySem.Spec PyProof.Rows L2 StX
/-! ## the queue's rules, on items -/
def gI (z : V × It) : V × PyData := (z.1, itD z.2)
theorem gI_push (zs : List (V × It)) (z : V × It) : (pushH ltV (zs.map gI) (gI z)).map Prod.fst = (pushH ltI zs z).map Prod.fst := by
  rw [← pushH_map (lt := ltI) (lt' := ltV) (f := gI) ltI_eq, List.map_map]; rfl
theorem gI_rest (zs : List (V × It)) : (restH ltV (zs.map gI)).map Prod.fst = (restH ltI zs).map Prod.fst := by
  rw [← restH_map (lt := ltI) (lt' := ltV) (f := gI) ltI_eq, List.map_map]; rfl
theorem push_snd (zs : List (V × It)) (z : V × It) : (pushH ltI zs z).map Prod.snd = pushH itLt (zs.map Prod.snd) z.2 :=
  pushH_map (lt := ltI) (lt' := itLt) (f := Prod.snd) (fun _ _ => rfl) zs z
theorem rest_snd (zs : List (V × It)) : (restH ltI zs).map Prod.snd = restH itLt (zs.map Prod.snd) :=
  restH_map (lt := ltI) (lt' := itLt) (f := Prod.snd) (fun _ _ => rfl) zs
theorem gI_fst (zs : List (V × It)) : (zs.map gI).map Prod.fst = zs.map Prod.fst := by rw [List.map_map]; rfl
theorem gI_dp {K : PySem.W.Frag} {H : Hp} {l : Addr} {zs : List (V × It)} (h : QAt H l zs) : ∀ z ∈ zs.map gI, Dp K H z.1 z.2 := fun x hx => by
  obtain ⟨y, hy, rfl⟩ := List.mem_map.mp hx
  exact (h.2 y hy).dp
theorem gI_alk (zs : List (V × It)) : Alk ((zs.map gI).map Prod.snd) := by
  rw [List.map_map]
  have := alk_its (zs.map Prod.snd)
  rw [List.map_map] at this
  exact this
theorem gI_alk1 (it : It) (zs : List (V × It)) : Alk (itD it :: (zs.map gI).map Prod.snd) := by
  rw [List.map_map]
  have := alk_its (it :: zs.map Prod.snd)
  rw [List.map_cons, List.map_map] at this
  exact this
theorem gI_at {zs : List (V × It)} {z : V × It} (h0 : zs[0]? = some z) : (zs.map gI)[0]? = some (gI z) := by rw [List.getElem?_map, h0]; rfl
theorem QAt.push {H : Hp} {l : Addr} {zs : List (V × It)} {v : V} {it : It} (h : QAt H l zs) (hv : ItAt H v it) : QAt (upd H l (.lst ((pushH ltI zs (v, it)).map Prod.fst))) l (pushH ltI zs (v, it)) := by
  have k : KeepT H (upd H l (.lst ((pushH ltI zs (v, it)).map Prod.fst))) := .upd h.1 fun _ z => nomatch z
  refine ⟨upd_same, fun z hz => ?_⟩
  rcases pushH_mem hz with hz | rfl
  · exact (h.2 z hz).keep k
  · exact hv.keep k
theorem QAt.rest {H : Hp} {l : Addr} {zs : List (V × It)} (h : QAt H l zs) : QAt (upd H l (.lst ((restH ltI zs).map Prod.fst))) l (restH ltI zs) := by
  have k : KeepT H (upd H l (.lst ((restH ltI zs).map Prod.fst))) := .upd h.1 fun _ z => nomatch z
  exact ⟨upd_same, fun z hz => (h.2 z (restH_mem hz)).keep k⟩
theorem QAt.keep {H H' : Hp} (e : KeepT H H') {l : Addr} {zs : List (V × It)} (h : QAt H l zs) (hl : H' l = H l) : QAt H' l zs := ⟨by rw [hl]; exact h.1, fun z hz => (h.2 z hz).keep e⟩
theorem needed_len (c : List Int) (ps : List Plc) : (needed c ps).length ≤ ps.length := by
  unfold needed
  rw [(sortP_perm _).length_eq]
  exact List.length_filter_le _ _
theorem nextTaken_short {ns : List Int} {d at_ : Nat} {tk : List Plc} {w : Int × List Plc} (h : w ∈ nextTaken ns d at_ tk) : w.2.length ≤ tk.length + 1 := by
  unfold nextTaken at h
  obtain ⟨i, _, e⟩ := List.mem_filterMap.mp h
  unfold nextOne at e
  split at e
  · exact nomatch e
  · cases Option.some.inj e
    refine Nat.le_trans (needed_len _ _) ?_
    rw [List.length_append]
    unfold movedBy
    rw [List.length_map]
    exact Nat.le_refl _
structure ItOk (n : Nat) (it : It) : Prop where
  w : it.2.1.length + 1 ≤ n
  t : it.2.2.length ≤ it.2.1.length + 1
section
variable {P : Program} {w : World} {K : PySem.W.Frag} {mg : Str → Option Value} {base : Heap}
/-! ### _least_waits -/
def spLeast (K : PySem.W.Frag) : Sp := fun vs H Q _ => ∃ (a : Addr) (ns : List Int) (d n : Nat) (r : Option (List Int)), vs = [.ref a, .int (d : Nat)] ∧ SqT K H a (ns.map V.int) ∧ 1 ≤ ns.length ∧ ns.length ≤ 800 ∧ 1 ≤ d ∧ d ≤ 100 ∧ n * d ≤ 300000 ∧ n ≤ 300000 ∧ leastW ns d n = some r ∧
  (∀ ws, r = some ws → ∀ H' t, Same H H' → SqT K H' t (ws.map V.int) → Q (.ref t) H') ∧ (r = none → ∀ H', Same H H' → Q .non H')
theorem ok_least {f f1 : Addr} {fd fd1 : FuncData} {k : Nat} (F : Fun K "_least_waits" "_least_waits" s_least_waits f fd)
    (G1 : FnOk P w K mg base CX0 k f1 fd1 ["work", "distance", "at", "taken"] (spNext K)) (kp1 : PySem.W.keepIn K (.ref f1) = true) (b1 : Binds K fd1 ["work", "distance", "at", "taken"] []) (g1 : mg "_next_taken" = some (.ref f1))
    (m1 : mg "heappop" = some (.builtin "_heapq.heappop")) (m2 : mg "heappush" = some (.builtin "_heapq.heappush")) (m3 : mg "len" = none) : FnOk P w K mg base CX0 (k + 1) f fd ["work", "distance"] (spLeast K) := by
  refine F.ok sc_least_waits (fun vs H Q E h => ?_) (fun cdv A outer s H vs Q E hr h => ?_)
  · obtain ⟨a, ns, d, n, r, rfl, _⟩ := h; rfl
  · obtain ⟨a, ns, d, n, r, rfl, ha, n1, n2, d1, d2, nd, n3, hrun, q1, q2⟩ := h
    have hu := hr.units
    refine ⟨_, pss_cons (ps_set (i := 2) sc_least_waits.nd rfl (by first | exact .inl rfl | exact .inr rfl) (pe_lst (pa_cons (pe_tup (pa_cons pe_int (pa_cons (pe_tup pa_nil) (pa_cons (pe_tup (pa_cons (pe_tup (pa_cons (pe_ix ix_tup (pv 0) pe_int (fun _ _ => rfl)) (pa_cons pe_int pa_nil))) pa_nil)) pa_nil)))) pa_nil)))
      (pss_cons (ps_set (i := 3) sc_least_waits.nd rfl (by first | exact .inl rfl | exact .inr rfl) (pe_nnewK (P := P) (w := w) rfl rfl))
      (pss_cons (ps_while PassesOwn.never (pt_truth (pv 2) (by intro _; rfl))
        (pss_cons (ps_asg (pe_callBfun (cr_hpop hr) (by rfl) m1 (pa_cons (pv 2) pa_nil)) (pg_tup rfl (pgs_cons (pg_name (i := 4) sc_least_waits.nd rfl (Or.inl rfl)) (pgs_cons (pg_name (i := 5) sc_least_waits.nd rfl (Or.inl rfl)) (pgs_cons (pg_name (i := 6) sc_least_waits.nd rfl (Or.inl rfl)) pgs_nil)))))
        (pss_cons (ps_if (pt_cmpR op_eq (pe_callB call_len_seq (by rfl) m3 PySem.boot_len (pa_cons (pv 5) pa_nil)) (pe_op op_sub (pe_callB call_len_seq (by rfl) m3 PySem.boot_len (pa_cons (pv 0) pa_nil)) pe_int) (nomark _)) (pss_one (ps_ret (pv 5))) pss_nil)
        (pss_one (ps_if (pt_cmp (pc_nnotinK (P := P) (w := w) rfl rfl hu (pe_tup (pa_cons (pe_callB call_len_seq (by rfl) m3 PySem.boot_len (pa_cons (pv 5) pa_nil)) (pa_cons (pv 6) pa_nil))) (pv 3)))
          (pss_cons (ps_nputK (P := P) (w := w) rfl rfl hu (pv 3) (pe_tup (pa_cons (pe_callB call_len_seq (by rfl) m3 PySem.boot_len (pa_cons (pv 5) pa_nil)) (pa_cons (pv 6) pa_nil))) pe_bl (by rfl))
          (pss_one (ps_for PassesOwn.never rfl (pi_list (pe_call G1 hr (by rfl) g1 kp1 b1 .nil pass0 (pa_cons (pv 0) (pa_cons (pv 1) (pa_cons (pe_op op_add (pe_callB call_len_seq (by rfl) m3 PySem.boot_len (pa_cons (pv 5) pa_nil)) pe_int) (pa_cons (pv 6) pa_nil))))))
              (pg_tup rfl (pgs_cons (pg_name (i := 7) sc_least_waits.nd rfl (Or.inl rfl)) (pgs_cons (pg_name (i := 8) sc_least_waits.nd rfl (Or.inl rfl)) pgs_nil)))
            (pss_one (ps_expr (pe_callBfun (cr_hpush hr) (by rfl) m2 (pa_cons (pv 2) (pa_cons (pe_tup (pa_cons (pe_op op_add (pv 4) (pv 7)) (pa_cons (pe_tup (pa_star (pv 5) (pa_cons (pv 7) pa_nil))) (pa_cons (pv 8) pa_nil)))) pa_nil))))))))
          pss_nil)))))
      (pss_one (ps_ret pe_non)))), ?_⟩
    have big : 400000 ≤ sizeLine := by rw [sizeLine_eq]; decide
    obtain ⟨x0, hx0⟩ : ∃ x, ns[0]? = some x := ⟨_, List.getElem?_eq_getElem (by omega)⟩
    have ex0 : ns.getD 0 0 = x0 := by rw [List.getD_eq_getElem?_getD, hx0]; rfl
    have at0 : atI (ns.map V.int) 0 = some (.int x0) := atI_nat (j := 0) (by rw [List.getElem?_map, hx0]; rfl)
    refine ⟨Nat.zero_le _, fun E0 nE => ?_⟩
    refine ⟨.ref a, rfl, a, _, 0, .int x0, rfl, rfl, Same.tup (same_new nE) ha, at0, ?_⟩
    have e1 := same_new (o := .tup []) nE
    have hE1 : (upd H E0 (.tup [])) E0 = some (.tup []) := upd_same
    generalize upd H E0 (.tup []) = H1 at e1 hE1 ⊢
    refine ⟨by show 2 ≤ sizeLine; omega, fun p0 np => ⟨by show 1 ≤ sizeLine; omega, fun t0 nt => ⟨by show 3 ≤ sizeLine; omega, fun i0 ni => ⟨by show 1 ≤ sizeLine; omega, fun Lq nL S nS => ?_⟩⟩⟩⟩
    have e2 := same_new (o := .tup [V.int x0, .int 0]) np
    have e3 := same_new (o := .tup [V.ref p0]) nt
    have e4 := same_new (o := .tup [V.int 0, .ref E0, .ref t0]) ni
    have hp2 : (upd H1 p0 (.tup [V.int x0, .int 0])) p0 = some (.tup [V.int x0, .int 0]) := upd_same
    have ht3 : (upd (upd H1 p0 (.tup [V.int x0, .int 0])) t0 (.tup [V.ref p0])) t0 = some (.tup [V.ref p0]) := upd_same
    have hi4 : (upd (upd (upd H1 p0 (.tup [V.int x0, .int 0])) t0 (.tup [V.ref p0])) i0 (.tup [V.int 0, .ref E0, .ref t0])) i0 = some (.tup [V.int 0, .ref E0, .ref t0]) := upd_same
    have hit : ItAt (upd (upd (upd H1 p0 (.tup [V.int x0, .int 0])) t0 (.tup [V.ref p0])) i0 (.tup [V.int 0, .ref E0, .ref t0])) (.ref i0) (0, [], [(x0, 0)]) :=
      ⟨i0, E0, t0, rfl, hi4, e4 _ _ (e3 _ _ (e2 _ _ hE1)), _, e4 _ _ ht3, .cons (e4 _ _ (e3 _ _ hp2)) .nil⟩
    have e14 := e1.trans (e2.trans (e3.trans e4))
    generalize upd (upd (upd H1 p0 (.tup [V.int x0, .int 0])) t0 (.tup [V.ref p0])) i0 (.tup [V.int 0, .ref E0, .ref t0]) = H4 at e14 hit nL nS ⊢
    have e5 := same_new (o := .lst [V.ref i0]) nL
    have hL5 : (upd H4 Lq (.lst [V.ref i0])) Lq = some (.lst [V.ref i0]) := upd_same
    have hit5 := hit.keep (.of e5)
    have nLH : H Lq = none := freeS e14 nL
    have e15 := e14.trans e5
    generalize upd H4 Lq (.lst [V.ref i0]) = H5 at e5 hL5 hit5 e15 nS ⊢
    have e6 := same_new (o := DN P w S []) nS
    have hS6 : (upd H5 S (DN P w S [])) S = some (DN P w S []) := upd_same
    have hL6 := e6 _ _ hL5
    have nLS : Lq ≠ S := ne_of_none hL5 nS
    have nSH : H S = none := freeS e15 nS
    have hit6 := hit5.keep (.of e6)
    have e16 := e15.trans e6
    generalize upd H5 S (DN P w S []) = H6 at e6 hS6 hL6 hit6 e16 ⊢
    refine ⟨fun m σ H' => ∃ v4 v5 v6 v7 v8 zs seen rs, σ = [some (.ref a), some (.int (d : Nat)), some (.ref Lq), some (.ref S), v4, v5, v6, v7, v8] ∧ Same H H' ∧ QAt H' Lq zs ∧ H' S = some (DN P w S rs) ∧ SeenOk H' rs seen ∧ (∀ z ∈ zs, ItOk ns.length z.2) ∧
        runW ns d m (zs.map Prod.snd) seen = some r ∧ zs.length + m * d ≤ 1 + n * d ∧ seen.length + m ≤ n,
      ⟨n, _, _, _, _, _, [(.ref i0, (0, [], [(x0, 0)]))], [], [], rfl, e16, ⟨hL6, fun z hz => by rw [List.mem_singleton.mp hz]; exact hit6⟩, hS6, ⟨(fun r hr => nomatch hr), rfl, fun k => rfl⟩, fun z hz => by rw [List.mem_singleton.mp hz]; exact ⟨n1, Nat.le_refl _⟩, ?_, Nat.le_refl _, by show 0 + n ≤ n; omega⟩, ?_⟩
    · rw [← hrun]
      unfold leastW firstQ
      rw [ex0]
      rfl
    rintro m σ H7 ⟨v4, v5, v6, v7, v8, zs, seen, rs, rfl, e7, hQ, hS, hseen, hok, hr7, hz, hm⟩
    refine ⟨.ref Lq, rfl, !(zs.map Prod.fst).isEmpty, .inl ⟨_, .of hQ.1, rfl⟩, ?_⟩
    cases m with
    | zero => exact nomatch hr7
    | succ m =>
    have hr7 : (match (zs.map Prod.snd)[0]? with
      | none => some none
      | some it => if it.2.1.length + 1 = ns.length then some (some it.2.1) else
        if (it.2.1.length, it.2.2) ∈ seen then runW ns d m (restH itLt (zs.map Prod.snd)) seen
        else runW ns d m (pushAll (restH itLt (zs.map Prod.snd)) it (nextTaken ns d (it.2.1.length + 1) it.2.2)) ((it.2.1.length, it.2.2) :: seen)) = some r := hr7
    rcases hzs : zs with _ | ⟨z0, zr⟩
    · rw [hzs] at hr7
      exact iteF (q2 (Option.some.inj hr7).symm H7 e7)
    have h0 : zs[0]? = some z0 := by rw [hzs]; rfl
    rw [← hzs, show (!(zs.map Prod.fst).isEmpty) = true from by rw [hzs]; rfl]
    rw [List.getElem?_map, h0] at hr7
    have hr7 : (if z0.2.2.1.length + 1 = ns.length then some (some z0.2.2.1) else
        if (z0.2.2.1.length, z0.2.2.2) ∈ seen then runW ns d m (restH itLt (zs.map Prod.snd)) seen
        else runW ns d m (pushAll (restH itLt (zs.map Prod.snd)) z0.2 (nextTaken ns d (z0.2.2.1.length + 1) z0.2.2.2)) ((z0.2.2.1.length, z0.2.2.2) :: seen)) = some r := hr7
    have hz0 := hok z0 (by rw [hzs]; exact List.mem_cons_self)
    have hI0 := hQ.2 z0 (by rw [hzs]; exact List.mem_cons_self)
    have lz : 1 ≤ zs.length := by rw [hzs]; exact Nat.le_add_left _ _
    obtain ⟨z0v, tot, wts, tkn⟩ := z0
    dsimp only at hr7 hz0 hI0
    rw [← rest_snd] at hr7
    refine iteT ⟨fun σ' H' => ∃ v4 v5 v6 v7 v8 zs' seen' rs', σ' = [some (.ref a), some (.int (d : Nat)), some (.ref Lq), some (.ref S), v4, v5, v6, v7, v8] ∧ Same H H' ∧ QAt H' Lq zs' ∧ H' S = some (DN P w S rs') ∧ SeenOk H' rs' seen' ∧ (∀ z ∈ zs', ItOk ns.length z.2) ∧
        runW ns d m (zs'.map Prod.snd) seen' = some r ∧ zs'.length + m * d ≤ 1 + n * d ∧ seen'.length + m ≤ n, fun σ' H' h => ⟨m, Nat.lt_succ_self m, h⟩, ?_⟩
    refine ⟨.ref Lq, rfl, Lq, zs.map gI, gI (z0v, tot, wts, tkn), rfl, by rw [gI_fst]; exact hQ.1, gI_at h0, gI_dp hQ, gI_alk zs, ?_⟩
    rw [gI_rest]
    have kR : KeepT H7 (upd H7 Lq (.lst ((restH ltI zs).map Prod.fst))) := .upd hQ.1 fun _ z => nomatch z
    have hQ8 := hQ.rest
    have hI8 := hI0.keep kR
    have e8 : Same H (upd H7 Lq (.lst ((restH ltI zs).map Prod.fst))) := fun b o z => by
      rw [upd_ne (ne_of_none z nLH)]; exact e7 _ _ z
    have hS8 : (upd H7 Lq (.lst ((restH ltI zs).map Prod.fst))) S = some (DN P w S rs) := by rw [upd_ne nLS.symm]; exact hS
    have hseen8 := hseen.keep kR
    have hok8 : ∀ z ∈ restH ltI zs, ItOk ns.length z.2 := fun z hz => hok z (restH_mem hz)
    have l8 : (restH ltI zs).length = zs.length - 1 := restH_len zs
    generalize restH ltI zs = z8 at kR hQ8 hI8 e8 hS8 hseen8 hok8 l8 hr7 ⊢
    generalize upd H7 Lq (.lst (z8.map Prod.fst)) = H8 at kR hQ8 hI8 e8 hS8 hseen8 ⊢
    obtain ⟨ir, wr, tr, rfl, hi8, hw8, ht8⟩ := hI8
    dsimp only at hi8 hw8 ht8
    refine ⟨ir, _, rfl, .of hi8, rfl, _, _, rfl, _, _, rfl, _, _, rfl, rfl, ?_⟩
    have lw : (wts.map V.int).length = wts.length := List.length_map _
    have lns : (ns.map V.int).length = ns.length := List.length_map _
    refine ⟨.ref wr, rfl, wr, _, rfl, .inr (.of hw8), .ref a, rfl, a, _, rfl, .inr (Same.tup e8 ha), _, 1, rfl, rfl, rfl, _, rfl, ?_⟩
    refine ite2 (fun eq => ?_) (fun ne => ?_)
    · have eq := V.int.inj (of_decide_eq_true eq)
      rw [lw, lns] at eq
      rw [if_pos (by omega)] at hr7
      exact ⟨.ref wr, rfl, q1 wts (Option.some.inj hr7).symm H8 wr e8 (.of hw8)⟩
    have ne : ¬ wts.length + 1 = ns.length := fun z => ne (decide_eq_true (by rw [lw, lns]; congr 1; omega))
    rw [if_neg ne] at hr7
    have hat : wts.length + 1 < ns.length := by have := hz0.w; dsimp only at this; omega
    have htk := hz0.t
    dsimp only at htk
    refine ⟨.ref wr, rfl, wr, _, rfl, .inr (.of hw8), .ref tr, rfl, by show 2 ≤ sizeLine; omega, fun kb nkb => ?_⟩
    rw [lw]
    have ek := same_new (o := .tup [V.int (wts.length : Nat), .ref tr]) nkb
    have hk9 : (upd H8 kb (.tup [V.int (wts.length : Nat), .ref tr])) kb = some (.tup [V.int (wts.length : Nat), .ref tr]) := upd_same
    have e9 := e8.trans ek
    have hQ9 := hQ8.keep (.of ek) (by rw [ek _ _ hQ8.1, hQ8.1])
    have hS9 := ek _ _ hS8
    have hseen9 := hseen8.keep (.of ek)
    have hw9 := ek _ _ hw8
    have ht9 := ht8.keep (.of ek)
    generalize upd H8 kb (.tup [V.int (wts.length : Nat), .ref tr]) = H9 at ek hk9 e9 hQ9 hS9 hseen9 hw9 ht9 ⊢
    refine ⟨.ref S, rfl, S, kb, sK (wts.length, tkn), rs, rfl, rfl, ⟨hS9, hseen9.keys, sK_at hk9 ht9, sK_deep _⟩, _, rfl, ?_⟩
    have hmul : (m + 1) * d = m * d + d := Nat.succ_mul m d
    have hmn : (m + 1) * d ≤ n * d := Nat.mul_le_mul_right d (by omega)
    rw [hseen9.has]
    by_cases hin : (wts.length, tkn) ∈ seen
    · rw [decide_eq_true hin]
      rw [if_pos hin] at hr7
      exact iteF ⟨_, _, _, _, _, z8, seen, rs, rfl, e9, hQ9, hS9, hseen9, hok8, hr7, by omega, by omega⟩
    rw [decide_eq_false hin]
    rw [if_neg hin] at hr7
    refine iteT ⟨.ref S, rfl, .ref wr, rfl, wr, _, rfl, .inr (.of hw9), .ref tr, rfl, by show 2 ≤ sizeLine; omega, fun kb2 nkb2 => ?_⟩
    rw [lw]
    have ek2 := same_new (o := .tup [V.int (wts.length : Nat), .ref tr]) nkb2
    have hk10 : (upd H9 kb2 (.tup [V.int (wts.length : Nat), .ref tr])) kb2 = some (.tup [V.int (wts.length : Nat), .ref tr]) := upd_same
    have e10 := e9.trans ek2
    have hQ10 := hQ9.keep (.of ek2) (by rw [ek2 _ _ hQ9.1, hQ9.1])
    have hS10 := ek2 _ _ hS9
    have hseen10 := hseen9.keep (.of ek2)
    have hw10 := ek2 _ _ hw9
    have ht10 := ht9.keep (.of ek2)
    generalize upd H9 kb2 (.tup [V.int (wts.length : Nat), .ref tr]) = H10 at ek2 hk10 e10 hQ10 hS10 hseen10 hw10 ht10 ⊢
    have lseen := hseen10.len
    refine ⟨S, kb2, sK (wts.length, tkn), rs, rfl, rfl, ⟨hS10, hseen10.keys, sK_at hk10 ht10, sK_deep _⟩, by omega, ?_⟩
    have kS : KeepT H10 (upd H10 S (DN P w S (storeN rs (sK (wts.length, tkn)) kb2 (.bl true)))) := .upd hS10 fun _ z => nomatch z
    have hseen11 := (hseen10.add (v := .bl true) (sK_at hk10 ht10) hin).keep kS
    have hS11 : (upd H10 S (DN P w S (storeN rs (sK (wts.length, tkn)) kb2 (.bl true)))) S = some (DN P w S (storeN rs (sK (wts.length, tkn)) kb2 (.bl true))) := upd_same
    have hQ11 := hQ10.keep kS (by rw [upd_ne nLS])
    have e11 : Same H (upd H10 S (DN P w S (storeN rs (sK (wts.length, tkn)) kb2 (.bl true)))) := fun b o z => by
      rw [upd_ne (ne_of_none z nSH)]; exact e10 _ _ z
    have hw11 := kS _ _ hw10
    have ht11 := ht10.keep kS
    generalize storeN rs (sK (wts.length, tkn)) kb2 (.bl true) = rs2 at kS hseen11 hS11 hQ11 e11 hw11 ht11 ⊢
    generalize upd H10 S (DN P w S rs2) = H11 at kS hseen11 hS11 hQ11 e11 hw11 ht11 ⊢
    refine ⟨.ref a, rfl, .int (d : Nat), rfl, .ref wr, rfl, wr, _, rfl, .inr (.of hw11), (wts.length : Nat), 1, by rw [lw], rfl, .ref tr, rfl, ?_⟩
    refine ⟨a, tr, ns, d, wts.length + 1, tkn, rfl, Same.tup e11 ha, ht11, d1, d2, hat, by omega, fun H12 l us e12 nl hl12 hN12 => ?_⟩
    have k12 : KeepT H11 H12 := .of e12
    have nlH : H l = none := freeS e11 nl
    have hLl : Lq ≠ l := ne_of_none hQ11.1 nl
    have hSl : S ≠ l := ne_of_none hS11 nl
    have hQ12 := hQ11.keep k12 (by rw [e12 _ _ hQ11.1, hQ11.1])
    have lus := hN12.len
    have lnt := nextTaken_len ns d (wts.length + 1) tkn
    generalize hns : nextTaken ns d (wts.length + 1) tkn = nts at hr7 hN12 lus lnt
    have hsh : ∀ w ∈ nts, w.2.length ≤ tkn.length + 1 := fun w hw => nextTaken_short (by rw [hns]; exact hw)
    refine ⟨l, rfl, ⟨_, .of hl12⟩, ?_⟩
    refine for_list (xs := us) (fun i σ H' => ∃ v7 v8 zs', σ = [some (.ref a), some (.int (d : Nat)), some (.ref Lq), some (.ref S), some (.int tot), some (.ref wr), some (.ref tr), v7, v8] ∧ Same H H' ∧ KeepT H12 H' ∧ H' l = some (.lst us) ∧ H' S = some (DN P w S rs2) ∧ QAt H' Lq zs' ∧
        zs'.map Prod.snd = pushAll (z8.map Prod.snd) (tot, wts, tkn) (nts.take i) ∧ (∀ z ∈ zs', ItOk ns.length z.2))
      ⟨_, _, z8, rfl, e11.trans e12, fun _ _ z => z, hl12, e12 _ _ hS11, hQ12, rfl, hok8⟩ (fun i σ H' _ h => ?_) (fun i x σ H' hx h => ?_) (fun σ H' h => ?_)
    · obtain ⟨_, _, _, _, _, _, hl, _⟩ := h
      exact .of hl
    · obtain ⟨v7, v8, zs', rfl, eA, kA, hlA, hSA, hQA, hsnd, hokA⟩ := h
      obtain ⟨wt, hwt, hwN⟩ := hN12.at hx
      have hi := (List.getElem?_eq_some_iff.mp hwt).1
      obtain ⟨wa, wl, rfl, hwa, hwl⟩ := hwN.keep kA
      have hwrA := kA _ _ (k12 _ _ hw11)
      refine ⟨wa, _, rfl, .of hwa, rfl, _, _, rfl, _, _, rfl, rfl, ?_⟩
      refine ⟨.ref Lq, rfl, .int tot, rfl, .int wt.1, rfl, tot, wt.1, rfl, rfl, .ref wr, rfl, wr, _, rfl, .inl (.of hwrA), .int wt.1, rfl, by rw [List.length_append, lw]; show _ + 1 ≤ _; omega, fun u1 nu1 => ⟨.ref wl, rfl, by show 3 ≤ sizeLine; omega, fun u2 nu2 => ?_⟩⟩
      have ea := same_new (o := .tup (wts.map V.int ++ [V.int wt.1])) nu1
      have hu1 : (upd H' u1 (.tup (wts.map V.int ++ [V.int wt.1]))) u1 = some (.tup (wts.map V.int ++ [V.int wt.1])) := upd_same
      generalize upd H' u1 (.tup (wts.map V.int ++ [V.int wt.1])) = HB at ea hu1 nu2 ⊢
      have eb := same_new (o := .tup [V.int (tot + wt.1), .ref u1, .ref wl]) nu2
      have hu2 : (upd HB u2 (.tup [V.int (tot + wt.1), .ref u1, .ref wl])) u2 = some (.tup [V.int (tot + wt.1), .ref u1, .ref wl]) := upd_same
      have hu12 := eb _ _ hu1
      generalize upd HB u2 (.tup [V.int (tot + wt.1), .ref u1, .ref wl]) = HC at eb hu2 hu12 ⊢
      have eAC := ea.trans eb
      have hIt : ItAt HC (.ref u2) (longer (tot, wts, tkn) wt) := ⟨u2, u1, wl, rfl, hu2, by rw [hu12]; show _ = some (HO.tup ((wts ++ [wt.1]).map V.int)); rw [List.map_append]; rfl, hwl.keep (.of eAC)⟩
      have hQC := hQA.keep (.of eAC) (by rw [eAC _ _ hQA.1, hQA.1])
      have lz' : zs'.length ≤ z8.length + i := by
        have := congrArg List.length hsnd
        rw [pushAll_len, List.length_map, List.length_map, List.length_take] at this
        omega
      have hidl : i < d := by omega
      refine ⟨Lq, .ref u2, itD (longer (tot, wts, tkn) wt), zs'.map gI, rfl, by rw [gI_fst]; exact hQC.1, gI_dp hQC, hIt.dp, gI_alk1 _ _, by rw [List.length_map]; omega, ?_⟩
      have ep := gI_push zs' (.ref u2, longer (tot, wts, tkn) wt)
      unfold gI at ep ⊢
      rw [ep]
      have kP : KeepT HC (upd HC Lq (.lst ((pushH ltI zs' (.ref u2, longer (tot, wts, tkn) wt)).map Prod.fst))) := .upd hQC.1 fun _ z => nomatch z
      refine ⟨_, _, pushH ltI zs' (.ref u2, longer (tot, wts, tkn) wt), rfl, fun b o z => ?_, fun b o z => kP _ _ (eAC _ _ (kA _ _ z)), ?_, ?_, hQC.push hIt, ?_, fun z hz => ?_⟩
      · rw [upd_ne (ne_of_none z nLH)]
        exact eAC _ _ (eA _ _ z)
      · rw [upd_ne hLl.symm]
        exact eAC _ _ hlA
      · rw [upd_ne nLS.symm]
        exact eAC _ _ hSA
      · rw [push_snd, hsnd, List.take_add_one, hwt]
        unfold pushAll
        rw [Option.toList_some, List.foldl_append]
        rfl
      · rcases pushH_mem hz with hz | rfl
        · exact hokA z hz
        · have := hsh wt (List.mem_of_getElem? hwt)
          refine ⟨?_, ?_⟩
          · show (wts ++ [wt.1]).length + 1 ≤ _
            rw [List.length_append]
            show wts.length + 1 + 1 ≤ _
            omega
          · show wt.2.length ≤ (wts ++ [wt.1]).length + 1
            rw [List.length_append]
            show _ ≤ wts.length + 1 + 1
            omega
    · obtain ⟨v7, v8, zs', rfl, eA, kA, hlA, hSA, hQA, hsnd, hokA⟩ := h
      rw [show us.length = nts.length from lus, List.take_length] at hsnd
      have lz' := congrArg List.length hsnd
      rw [pushAll_len, List.length_map, List.length_map] at lz'
      rw [← hsnd] at hr7
      exact ⟨_, _, _, _, _, zs', _, rs2, rfl, eA, hQA, hSA, (hseen11.keep k12).keep kA, hokA, hr7, by omega, by rw [List.length_cons]; omega⟩
end
end Sg
set_option Elab.async false
set_option linter.all false
set_option maxRecDepth 100000
set_option maxHeartbeats 4000000
namespace Sg
open PySem PySem.Spec PyProof.Rows L2 StX
/-! ## the mathematics: stations and rests -/
def prOf (d : Int) (x : Int) (t : Nat) : List (Int × Int) := if x = -1 then [] else [(x, (t : Int) % d)]
def prs (ns : List Int) (d : Int) (i : Nat) : List (Int × Int) := (List.range i).flatMap fun t => match ns[t]? with
  | some x => prOf d x t
  | none => []
theorem prs_succ {ns : List Int} {d : Int} {i : Nat} {x : Int} (h : ns[i]? = some x) : prs ns d (i + 1) = prs ns d i ++ prOf d x i := by
  unfold prs
  rw [List.range_succ, List.flatMap_append, List.flatMap_cons, List.flatMap_nil, List.append_nil, h]
theorem prs_len (ns : List Int) (d : Int) : ∀ i, (prs ns d i).length ≤ i
  | 0 => Nat.le_refl _
  | i + 1 => by
    have ih := prs_len ns d i
    rcases h : ns[i]? with _ | x
    · unfold prs at ih ⊢
      rw [List.range_succ, List.flatMap_append, List.flatMap_cons, List.flatMap_nil, List.append_nil, h, List.append_nil]
      omega
    · rw [prs_succ h, List.length_append]
      unfold prOf
      split
      · simp only [List.length_nil]; omega
      · show _ + 1 ≤ _; omega
def constB (ns : List Int) (d : Int) : Bool := decide (prs ns d ns.length).Nodup
def constTo (ns : List Int) (i : Nat) : List Int := ((List.range i).map fun j => (1 : Int) + (j : Nat)).filter (constB ns)
theorem constTo_succ (ns : List Int) (i : Nat) : constTo ns (i + 1) = constTo ns i ++ (if constB ns (1 + (i : Int)) = true then [1 + (i : Int)] else []) := by
  unfold constTo
  rw [List.range_succ, List.map_append, List.filter_append]
  congr 1
  by_cases h : constB ns (1 + (i : Int)) = true
  · rw [if_pos h]; exact List.filter_cons_of_pos h
  · rw [if_neg h]; exact List.filter_cons_of_neg h
theorem constTo_len (ns : List Int) (i : Nat) : (constTo ns i).length ≤ i := by
  unfold constTo
  have := List.length_filter_le (constB ns) ((List.range i).map fun j => (1 : Int) + (j : Nat))
  rw [List.length_map, List.length_range] at this
  exact this
abbrev pairL (p : Int × Int) : List Int := [p.1, p.2]
theorem pairL_nodup (l : List (Int × Int)) : (l.map pairL).Nodup ↔ l.Nodup := by
  constructor
  · exact fun h => nodup_of_map h
  · intro h
    induction l with
    | nil => exact List.nodup_nil
    | cons x r ih =>
      obtain ⟨h1, h2⟩ := List.nodup_cons.mp h
      refine List.nodup_cons.mpr ⟨fun z => h1 ?_, ih h2⟩
      obtain ⟨y, hy, e⟩ := List.mem_map.mp z
      have e1 := (List.cons.inj e).1
      have e2 := (List.cons.inj (List.cons.inj e).2).1
      rw [show x = y from Prod.ext e1.symm e2.symm]
      exact hy
section
variable {P : Program} {w : World} {K : PySem.W.Frag} {mg : Str → Option Value} {base : Heap}
/-! ### is_constant -/
def spIsConst (K : PySem.W.Frag) : Sp := fun vs H Q _ => ∃ (a : Addr) (ns : List Int) (d : Int), vs = [.ref a, .int d] ∧ SqT K H a (ns.map V.int) ∧ ns.length ≤ 1000 ∧ (prs ns d ns.length).length < 64 ∧ 1 ≤ d ∧ ∀ H', Same H H' → Q (.bl (constB ns d)) H'
abbrev constN : List Str := ["items", "distance", "places", "tick", "station"]
theorem ok_is_constant {f : Addr} {fd : FuncData} {k : Nat} (F : Fun K "is_constant" "is_constant" s_is_constant f fd) (nN : ∃ t, mg "NOWHERE" = some (.int (-1) t))
    (m1 : mg "enumerate" = none) (m2 : mg "len" = none) (m3 : mg "set" = none) : FnOk P w K mg base CX0 (k + 1) f fd ["items", "distance"] (spIsConst K) := by
  obtain ⟨t1, n1⟩ := nN
  refine F.ok sc_is_constant (fun vs H Q E h => ?_) (fun cdv A outer s H vs Q E hr h => ?_)
  · obtain ⟨a, ns, d, rfl, _⟩ := h; rfl
  · obtain ⟨a, ns, d, rfl, hA, hl, hfew, hd, q⟩ := h
    have hu3 : (A.deeper (envOfC "is_constant" (defScope s_is_constant) s.heap.objs.size f cdv)).units + 3 < cLine := by have := hr.units; omega
    refine ⟨_, pss_cons (ps_setLc (i := 2) (own := [("tick", 3), ("station", 4)]) (g := gTup K 2 (gCons (gName 3) (gCons (gName 4) gNil))) (by rfl) sc_is_constant.nd rfl rfl (sw_true rfl rfl rfl (by decide +kernel)) (pi_enumT (by rfl) m1 (pa_cons (pv 0) pa_nil))
        (blkOk_by (N := constN) (sc := defScope s_is_constant) (by decide +kernel))
        (fun _ _ _ _ _ => pg_tup rfl (pgs_cons (pg_name (i := 3) sc_is_constant.nd rfl (Or.inl rfl)) (pgs_cons (pg_name (i := 4) sc_is_constant.nd rfl (Or.inl rfl)) pgs_nil)))
        (fun _ _ _ _ _ => pts_one (pt_cmpR op_ne (pv 4) (pe_glob (v := .int (-1)) (by rfl) n1 ⟨_, rfl⟩) (nomark _)))
        (fun _ _ _ _ _ => pe_tup (pa_cons (pv 4) (pa_cons (pe_op op_mod (pv 3) (pv 1)) pa_nil))))
      (pss_one (ps_ret (pe_cmpR op_eq (pe_lenSetT (K := K) rfl hu3 (by rfl) m2 (by rfl) m3 (pv 2)) (pe_callB call_len_seq (by rfl) m2 PySem.boot_len (pa_cons (pv 2) pa_nil)) (nomark _)))), ?_⟩
    refine ⟨.ref a, rfl, a, _, rfl, hA, fun D hD => ?_⟩
    have lm : (ns.map V.int).length = ns.length := List.length_map _
    refine lc_it (walk_enumT (xs := ns.map V.int)) (fun i H' => Same H H' ∧ ∃ ks : List (Addr × List Int), H' D = some (.lst (ks.map fun p => V.ref p.1)) ∧ (∀ p ∈ ks, SqT K H' p.1 (p.2.map V.int)) ∧ ks.map (·.2) = (prs ns d i).map pairL)
      ⟨same_new hD, [], upd_same, fun p hp => (nomatch hp), rfl⟩ (fun i H' _ h => Same.tup h.1 hA) (fun i x H' H'' hi h hY => ?_) (fun H' h => ?_)
    · obtain ⟨e1, ks, hK, hT, em⟩ := h
      obtain ⟨T, x1, x2, rfl, nT, rfl, f1, f2⟩ := hY
      dsimp only at f1 f2
      cases f1
      rw [List.getElem?_map] at f2
      obtain ⟨z, hz, rfl⟩ := Option.map_eq_some_iff.mp f2
      have eT : Same H' (upd H' T (.tup [V.int (i : Nat), .int z])) := same_new nT
      refine ⟨T, _, rfl, .of upd_same, rfl, _, _, rfl, _, _, rfl, rfl, rfl, ?_⟩
      have hK2 := eT _ _ hK
      have e2 := e1.trans eT
      have hT2 : ∀ p ∈ ks, SqT K (upd H' T (.tup [V.int (i : Nat), .int z])) p.1 (p.2.map V.int) := fun p hp => Same.tup eT (hT p hp)
      generalize upd H' T (.tup [V.int (i : Nat), .int z]) = H2 at hK2 e2 hT2 ⊢
      rw [prs_succ hz]
      refine ⟨.int z, rfl, rfl, ?_⟩
      by_cases hz1 : z = -1
      · rw [show (!decide (V.int z = V.int (-1))) = false from by rw [hz1, decide_eq_true rfl]; rfl]
        refine ⟨_, rfl, iteF ⟨e2, ks, hK2, hT2, ?_⟩⟩
        rw [show prOf d z i = [] from if_pos hz1, List.append_nil]
        exact em
      · rw [show (!decide (V.int z = V.int (-1))) = true from by rw [decide_eq_false fun y => hz1 (V.int.inj y)]; rfl]
        refine ⟨_, rfl, iteT ⟨.int z, rfl, .int (i : Nat), rfl, .int d, rfl, (i : Nat), d, rfl, rfl, by show (0 : Int) < d; omega, by show 2 ≤ sizeLine; decide, fun c nc => ?_⟩⟩
        have ec : Same H2 (upd H2 c (.tup [V.int z, .int ((i : Int) % d)])) := same_new nc
        have hc : (upd H2 c (.tup [V.int z, .int ((i : Int) % d)])) c = some (.tup [V.int z, .int ((i : Int) % d)]) := upd_same
        have nDc : D ≠ c := ne_of_none hK2 nc
        have hK3 := ec _ _ hK2
        have hT3 : ∀ p ∈ ks, SqT K (upd H2 c (.tup [V.int z, .int ((i : Int) % d)])) p.1 (p.2.map V.int) := fun p hp => Same.tup ec (hT2 p hp)
        have e3 := e2.trans ec
        show ∃ acc, (upd H2 c (.tup [V.int z, .int ((i : Int) % d)])) D = some (.lst acc) ∧ _
        generalize upd H2 c (.tup [V.int z, .int ((i : Int) % d)]) = H3 at ec hc hK3 hT3 e3 ⊢
        have lk : ks.length ≤ i := by
          have z1 := congrArg List.length em
          rw [List.length_map, List.length_map] at z1
          have := prs_len ns d i
          omega
        refine ⟨_, hK3, ?_, fun b o e => ?_, ks ++ [(c, [z, (i : Int) % d])], ?_, fun p hp => ?_, ?_⟩
        · rw [List.length_map]; exact small1000 (by omega)
        · rw [upd_ne (ne_of_none e hD)]
          exact e3 _ _ e
        · rw [upd_same, List.map_append]; rfl
        · rcases List.mem_append.mp hp with h | h
          · exact tup_upd hK3 (fun _ z => nomatch z) (fun _ _ z => nomatch z) (hT3 p h)
          · rw [List.mem_singleton.mp h]
            exact .of (by rw [upd_ne nDc.symm]; exact hc)
        · rw [List.map_append, List.map_append, em, show prOf d z i = [(z, (i : Int) % d)] from if_neg hz1]
          rfl
    · obtain ⟨e1, ks, hK, hT, em⟩ := h
      rw [lm] at em
      have lk := congrArg List.length em
      rw [List.length_map, List.length_map] at lk
      refine ⟨.ref D, rfl, D, ks, rfl, .of hK, hT, by omega, fun n hn => ⟨.ref D, rfl, D, _, rfl, .inl (.of hK), rfl, ?_⟩⟩
      have ev : decide (V.int (n : Nat) = V.int ((ks.map fun p => V.ref p.1).length : Nat)) = constB ns d := by
        unfold constB
        rw [em, pairL_nodup] at hn
        rw [List.length_map]
        by_cases h : (prs ns d ns.length).Nodup
        · rw [decide_eq_true h, hn.mpr h, decide_eq_true rfl]
        · rw [decide_eq_false h, decide_eq_false fun y => h (hn.mp (by have := V.int.inj y; omega))]
      rw [ev]
      exact q H' e1
/-! ### constants -/
def spConstants (K : PySem.W.Frag) : Sp := fun vs H Q _ => ∃ (a : Addr) (ns : List Int), vs = [.ref a] ∧ SqT K H a (ns.map V.int) ∧ IsWork ns ∧
  ∀ H' t, Same H H' → H t = none → H' t = some (.tup ((constTo ns ns.length).map V.int)) → Q (.ref t) H'
theorem ok_constants {f f1 f2 : Addr} {fd fd1 fd2 : FuncData} {k : Nat} (F : Fun K "constants" "constants" s_constants f fd)
    (G1 : FnOk P w K mg base CX0 k f1 fd1 ["thing"] (spReq K)) (kp1 : PySem.W.keepIn K (.ref f1) = true) (b1 : Binds K fd1 ["thing"] []) (g1 : mg "require_work" = some (.ref f1))
    (G2 : FnOk P w K mg base CX0 k f2 fd2 ["items", "distance"] (spIsConst K)) (kp2 : PySem.W.keepIn K (.ref f2) = true) (b2 : Binds K fd2 ["items", "distance"] []) (g2 : mg "is_constant" = some (.ref f2))
    (m1 : mg "tuple" = none) (m2 : mg "range" = none) (m3 : mg "len" = none) : FnOk P w K mg base CX0 (k + 1) f fd ["work"] (spConstants K) := by
  refine F.ok sc_constants (fun vs H Q E h => ?_) (fun cdv A outer s H vs Q E hr h => ?_)
  · obtain ⟨a, ns, rfl, _⟩ := h; rfl
  · obtain ⟨a, ns, rfl, hA, hw, q⟩ := h
    refine ⟨_, pss_cons (ps_expr (pe_call G1 hr (by rfl) g1 kp1 b1 .nil pass0 (pa_cons (pv 0) pa_nil)))
      (pss_one (ps_ret (pe_callTy (call_tuple_ofK (K := K) rfl) (by rfl) m1 (by decide +kernel) (pa_cons
        (pe_lc (own := [("distance", 1)]) (g := gName 1) (by rfl) sc_constants.nd (pi_range2 (by rfl) m2 (pa_cons pe_int (pa_cons (pe_op op_add (pe_callB call_len_seq (by rfl) m3 PySem.boot_len (pa_cons (pv 0) pa_nil)) pe_int) pa_nil))) (blkOk_by (N := ["work", "distance"]) (sc := defScope s_constants) (by decide +kernel))
          (fun _ _ _ _ _ => pg_name (i := 1) sc_constants.nd rfl (Or.inl rfl))
          (fun _ _ _ _ _ => pts_one (pt_val (pe_call G2 hr (by rfl) g2 kp2 b2 .nil pass0 (pa_cons (pv 0) (pa_cons (pv 1) pa_nil)))))
          (fun _ _ _ _ _ => pv 1)) pa_nil)))), ?_⟩
    have lm : (ns.map V.int).length = ns.length := List.length_map _
    have most := hw.most
    refine ⟨.ref a, rfl, a, ns, rfl, hA, hw, fun H1 e1 => ?_⟩
    refine ⟨.ref a, rfl, a, _, rfl, .inr (Same.tup e1 hA), _, 1, rfl, rfl, 1, (((ns.map V.int).length : Nat) : Int) + 1, rfl, ⟨by omega, by omega, by omega, by omega⟩, fun D hD => ?_⟩
    have en : ((((ns.map V.int).length : Nat) : Int) + 1 - 1).toNat = ns.length := by rw [lm]; omega
    rw [en]
    refine lc_range (lo := 1) (n := ns.length) (fun i H' => Same H H' ∧ H' D = some (.lst ((constTo ns i).map V.int))) ⟨e1.trans (same_new hD), upd_same⟩ (fun i H' hi h => ?_) (fun H' h => ?_)
    · obtain ⟨e2, hD2⟩ := h
      have pl := prs_len ns (1 + (i : Int)) ns.length
      refine ⟨rfl, .ref a, rfl, .int (1 + (i : Nat)), rfl, a, ns, 1 + (i : Nat), rfl, Same.tup e2 hA, by omega, by omega, by omega, fun H3 e3 => ⟨_, rfl, ?_⟩⟩
      rw [constTo_succ]
      have hD3 := e3 _ _ hD2
      have hDH : H D = none := freeS e1 hD
      by_cases hc : constB ns (1 + (i : Int)) = true
      · rw [hc, if_pos rfl]
        refine iteT ⟨_, rfl, _, hD3, ?_, fun b o e => ?_, ?_⟩
        · rw [List.length_map]
          have := constTo_len ns i
          exact small1000 (by omega)
        · rw [upd_ne (ne_of_none e hDH)]
          exact e3 _ _ (e2 _ _ e)
        · rw [upd_same, List.map_append]; rfl
      · have hc' : constB ns (1 + (i : Int)) = false := by cases z : constB ns (1 + (i : Int)) <;> simp_all
        rw [hc', if_neg (by decide), List.append_nil]
        exact iteF ⟨e2.trans e3, hD3⟩
    · obtain ⟨e2, hD2⟩ := h
      exact ⟨D, _, rfl, .inl ⟨.of hD2, fun t nt => q _ t (e2.trans (same_new nt)) (freeS e2 nt) upd_same⟩⟩
end
end Sg
set_option Elab.async false
set_option linter.all false
set_option maxRecDepth 100000
set_option maxHeartbeats 4000000
namespace Sg
open PySem PySem.Spec PyProof.Rows L2 StX
def cnts (ns : List Int) : List Int := (List.range 10).map fun k => ((ns.count ((k : Nat) : Int) : Nat) : Int)
theorem cnts_at {ns : List Int} {i : Nat} : (List.range i).map (fun k => ((ns.count ((k : Nat) : Int) : Nat) : Int)) ++ [((ns.count (0 + (i : Nat) : Int) : Nat) : Int)] = (List.range (i + 1)).map (fun k => ((ns.count ((k : Nat) : Int) : Nat) : Int)) := by
  rw [List.range_succ, List.map_append, Int.zero_add]; rfl
section
variable {P : Program} {w : World} {K : PySem.W.Frag} {mg : Str → Option Value} {base : Heap}
/-! ### most_visits -/
def spVisits (K : PySem.W.Frag) : Sp := fun vs H Q _ => ∃ (a : Addr) (ns : List Int) (m : Int), vs = [.ref a] ∧ FrzT H a (ns.map V.int) ∧ IsWork ns ∧ m ∈ cnts ns ∧ (∀ y ∈ cnts ns, y ≤ m) ∧ ∀ H', Same H H' → Q (.int m) H'
theorem ok_most_visits {f f1 : Addr} {fd fd1 : FuncData} {k : Nat} (F : Fun K "most_visits" "most_visits" s_most_visits f fd) (N : Nums mg)
    (G1 : FnOk P w K mg base CX0 k f1 fd1 ["thing"] (spReq K)) (kp1 : PySem.W.keepIn K (.ref f1) = true) (b1 : Binds K fd1 ["thing"] []) (g1 : mg "require_work" = some (.ref f1))
    (m1 : mg "max" = none) (m2 : mg "range" = none) :
    FnOk P w K mg base CX0 (k + 1) f fd ["work"] (spVisits K) := by
  obtain ⟨t2, n2⟩ := N.stations
  refine F.ok sc_most_visits (fun vs H Q E h => ?_) (fun cdv A outer s H vs Q E hr h => ?_)
  · obtain ⟨a, ns, m, rfl, _⟩ := h; rfl
  · obtain ⟨a, ns, m, rfl, hF, hw, hm1, hm2, q⟩ := h
    refine ⟨_, pss_cons (ps_expr (pe_call G1 hr (by rfl) g1 kp1 b1 .nil pass0 (pa_cons (pv 0) pa_nil)))
      (pss_one (ps_ret (pe_callB (cr_max rfl) (by rfl) m1 (by decide +kernel) (pa_cons
          (pe_lc (own := [("station", 1)]) (g := gName 1) (tt := tYes) rfl sc_most_visits.nd (pi_range1 (by rfl) m2 (pa_cons (pe_glob (v := .int 10) (by rfl) n2 ⟨_, rfl⟩) pa_nil)) (blkOk_by (N := ["work", "station"]) (sc := defScope s_most_visits) (by decide +kernel))
            (fun _ _ _ _ _ => pg_name (i := 1) sc_most_visits.nd rfl (Or.inl rfl)) (fun _ _ _ _ _ => pts_nil)
            (fun _ _ _ _ _ => pe_bmF PySem.F.plainAttrs_tuple PySem.F.slot_tuple_count PySem.F.type_tuple_count (mt_tcountK (K := K) rfl) (pv 0) (pa_cons (pv 1) pa_nil))) pa_nil)))), ?_⟩
    refine ⟨.ref a, rfl, a, ns, rfl, hF.sq, hw, fun H' sm => ?_⟩
    refine ⟨10, rfl, (by decide), (by decide), fun D hD => ?_⟩
    refine lc_range (lo := 0) (n := 10) (fun i H'' => Same H' H'' ∧ H'' D = some (.lst (((List.range i).map (fun k => ((ns.count ((k : Nat) : Int) : Nat) : Int))).map V.int))) ⟨same_new hD, upd_same⟩ (fun i H2 hi h => ?_) (fun H2 h => ?_)
    · obtain ⟨sm2, hDl⟩ := h
      have hF2 := (hF.same sm).same sm2
      refine ⟨rfl, .ref a, rfl, ⟨a, _, rfl, hF2⟩, .int (0 + (i : Nat)), rfl, a, ns, _, rfl, rfl, hF2.sq, ?_⟩
      refine ⟨_, hDl, ?_, fun b o e => ?_, ?_⟩
      · rw [List.length_map, List.length_map, List.length_range]
        exact small1000 (by omega)
      · rw [upd_ne (ne_of_none e hD)]
        exact sm2 _ _ e
      · rw [upd_same, ← cnts_at, List.map_append]; rfl
    · obtain ⟨sm2, hDl⟩ := h
      refine ⟨D, cnts ns, rfl, .of hDl, by unfold cnts; rw [List.length_map, List.length_range]; decide, fun m' h1 h2 => ?_⟩
      have e1 := h2 _ hm1
      have e2 := hm2 _ h1
      rw [show m' = m from by omega]
      exact q _ (sm.trans sm2)
/-! ### _require_short, _require_stretch -/
def spShort (K : PySem.W.Frag) : Sp := fun vs H Q _ => ∃ (a : Addr) (ns : List Int), vs = [.ref a] ∧ SqT K H a (ns.map V.int) ∧ IsWork ns ∧ ns.length ≤ 12 ∧ ∀ H', Same H H' → Q .non H'
theorem ok_short {f f1 : Addr} {fd fd1 : FuncData} {k : Nat} (F : Fun K "_require_short" "_require_short" s_require_short f fd) (nT : ∃ t, mg "MOST_TICKS" = some (.int 12 t))
    (G1 : FnOk P w K mg base CX0 k f1 fd1 ["thing"] (spReq K)) (kp1 : PySem.W.keepIn K (.ref f1) = true) (b1 : Binds K fd1 ["thing"] []) (g1 : mg "require_work" = some (.ref f1))
    (m1 : mg "len" = none) : FnOk P w K mg base CX0 (k + 1) f fd ["work"] (spShort K) := by
  obtain ⟨t1, n1⟩ := nT
  refine F.ok sc_require_short (fun vs H Q E h => ?_) (fun cdv A outer s H vs Q E hr h => ?_)
  · obtain ⟨a, ns, rfl, _⟩ := h; rfl
  · obtain ⟨a, ns, rfl, hA, hw, hl, q⟩ := h
    refine ⟨_, pss_cons (ps_expr (pe_call G1 hr (by rfl) g1 kp1 b1 .nil pass0 (pa_cons (pv 0) pa_nil)))
      (pss_one (ps_if (pt_cmpR op_gt (pe_callB call_len_seq (by rfl) m1 PySem.boot_len (pa_cons (pv 0) pa_nil)) (pe_glob (v := .int 12) (by rfl) n1 ⟨_, rfl⟩) (nomark _)) pss_never pss_nil)), ?_⟩
    refine ⟨.ref a, rfl, a, ns, rfl, hA, hw, fun H1 e1 => ⟨.ref a, rfl, a, _, rfl, .inr (Same.tup e1 hA), ?_⟩⟩
    refine ⟨_, 12, rfl, rfl, _, rfl, ?_⟩
    rw [decide_eq_false (by rw [List.length_map]; omega)]
    exact iteF (q H1 e1)
def spStr (K : PySem.W.Frag) : Sp := fun vs H Q _ => ∃ (a : Addr) (ns : List Int) (d : Int), vs = [.ref a, .int d] ∧ SqT K H a (ns.map V.int) ∧ IsWork ns ∧ ns.length ≤ 12 ∧ 1 ≤ d ∧ d ≤ 12 ∧ ∀ H', Same H H' → Q .non H'
theorem ok_req_stretch {f f1 f2 : Addr} {fd fd1 fd2 : FuncData} {k : Nat} (F : Fun K "_require_stretch" "_require_stretch" s_require_stretch f fd) (nD : ∃ t, mg "MOST_DISTANCE" = some (.int 12 t))
    (G1 : FnOk P w K mg base CX0 k f1 fd1 ["work"] (spShort K)) (kp1 : PySem.W.keepIn K (.ref f1) = true) (b1 : Binds K fd1 ["work"] []) (g1 : mg "_require_short" = some (.ref f1))
    (G2 : FnOk P w K mg base CX0 k f2 fd2 ["thing", "least", "most"] (spBetA K)) (kp2 : PySem.W.keepIn K (.ref f2) = true) (b2 : Binds K fd2 ["thing", "least", "most"] []) (g2 : mg "is_between" = some (.ref f2)) :
    FnOk P w K mg base CX0 (k + 1) f fd ["work", "distance"] (spStr K) := by
  obtain ⟨t1, n1⟩ := nD
  refine F.ok sc_require_stretch (fun vs H Q E h => ?_) (fun cdv A outer s H vs Q E hr h => ?_)
  · obtain ⟨a, ns, d, rfl, _⟩ := h; rfl
  · obtain ⟨a, ns, d, rfl, hA, hw, hl, d1, d2, q⟩ := h
    refine ⟨_, pss_cons (ps_expr (pe_call G1 hr (by rfl) g1 kp1 b1 .nil pass0 (pa_cons (pv 0) pa_nil)))
      (pss_one (ps_if (pt_not (pt_val (pe_call G2 hr (by rfl) g2 kp2 b2 .nil pass0 (pa_cons (pv 1) (pa_cons pe_int (pa_cons (pe_glob (v := .int 12) (by rfl) n1 ⟨_, rfl⟩) pa_nil)))))) pss_never pss_nil)), ?_⟩
    refine ⟨.ref a, rfl, a, ns, rfl, hA, hw, hl, fun H1 e1 => ?_⟩
    refine ⟨.int d, rfl, .int d, .int d, 1, 12, rfl, .data (.int d), _, rfl, ?_⟩
    have : betD (.int d) 1 12 = true := by show (decide (1 ≤ d) && decide (d ≤ 12)) = true; rw [decide_eq_true d1, decide_eq_true d2]; rfl
    rw [this]
    exact iteF (q H1 e1)
end
end Sg
set_option Elab.async false
set_option linter.all false
set_option maxRecDepth 100000
set_option maxHeartbeats 4000000
namespace Sg
open PySem PySem.Spec PyProof.Rows L2 StX
def optD : Option (List Int) → PyData
  | none => .none
  | some ws => tD ws
section
variable {P : Program} {w : World} {K : PySem.W.Frag} {mg : Str → Option Value} {base : Heap}
/-! ### stretch -/
def spStretch (K : PySem.W.Frag) : Sp := fun vs H Q _ => ∃ (a : Addr) (ns : List Int) (d n : Nat) (r : Option (List Int)), vs = [.ref a, .int (d : Nat)] ∧ SqT K H a (ns.map V.int) ∧ IsWork ns ∧ ns.length ≤ 12 ∧ 1 ≤ d ∧ d ≤ 12 ∧ n ≤ 20000 ∧ leastW ns d n = some r ∧
  ∀ H' v, Same H H' → Dp K H' v (optD r) → Q v H'
theorem ok_stretch {f f1 f2 : Addr} {fd fd1 fd2 : FuncData} {k : Nat} (F : Fun K "stretch" "stretch" s_stretch f fd)
    (G1 : FnOk P w K mg base CX0 k f1 fd1 ["work", "distance"] (spStr K)) (kp1 : PySem.W.keepIn K (.ref f1) = true) (b1 : Binds K fd1 ["work", "distance"] []) (g1 : mg "_require_stretch" = some (.ref f1))
    (G2 : FnOk P w K mg base CX0 k f2 fd2 ["work", "distance"] (spLeast K)) (kp2 : PySem.W.keepIn K (.ref f2) = true) (b2 : Binds K fd2 ["work", "distance"] []) (g2 : mg "_least_waits" = some (.ref f2)) :
    FnOk P w K mg base CX0 (k + 1) f fd ["work", "distance"] (spStretch K) := by
  refine F.ok sc_stretch (fun vs H Q E h => ?_) (fun cdv A outer s H vs Q E hr h => ?_)
  · obtain ⟨a, ns, d, n, r, rfl, _⟩ := h; rfl
  · obtain ⟨a, ns, d, n, r, rfl, hA, hw, hl, d1, d2, hn, hrun, q⟩ := h
    refine ⟨_, pss_cons (ps_expr (pe_call G1 hr (by rfl) g1 kp1 b1 .nil pass0 (pa_cons (pv 0) (pa_cons (pv 1) pa_nil))))
      (pss_one (ps_ret (pe_call G2 hr (by rfl) g2 kp2 b2 .nil pass0 (pa_cons (pv 0) (pa_cons (pv 1) pa_nil))))), ?_⟩
    have nd : n * d ≤ 300000 := Nat.le_trans (Nat.mul_le_mul hn d2) (by decide)
    refine ⟨.ref a, rfl, .int (d : Nat), rfl, a, ns, (d : Nat), rfl, hA, hw, hl, by omega, by omega, fun H1 e1 => ?_⟩
    refine ⟨.ref a, rfl, .int (d : Nat), rfl, a, ns, d, n, r, rfl, Same.tup e1 hA, hw.pos, by omega, d1, by omega, nd, by omega, hrun, fun ws e H2 t e2 ht => ?_, fun e H2 e2 => ?_⟩
    · subst e
      exact q H2 _ (e1.trans e2) (Tp.ofInts (ns := ws) ht).dp
    · subst e
      exact q H2 _ (e1.trans e2) .non
/-! ### trade -/
def spTrade (K : PySem.W.Frag) : Sp := fun vs H Q _ => ∃ (a : Addr) (ns : List Int) (lo hi n : Nat) (rows : List Plc), vs = [.ref a] ∧ FrzT H a (ns.map V.int) ∧ IsWork ns ∧ ns.length ≤ 12 ∧ (lo : Int) ∈ cnts ns ∧ (∀ y ∈ cnts ns, y ≤ (lo : Int)) ∧ (constTo ns ns.length)[0]? = some (hi : Int) ∧
  1 ≤ lo ∧ lo ≤ 12 ∧ hi ≤ 12 ∧ n ≤ 20000 ∧ (∀ i, i < hi + 1 - lo → ∃ ws, leastW ns (lo + i) n = some (some ws) ∧ rows[i]? = some (((lo + i : Nat) : Int), ws.sum)) ∧ rows.length = hi + 1 - lo ∧ ∀ H' t, Same H H' → TkAt H' t rows → Q (.ref t) H'
theorem ok_trade {f f1 f2 f3 f4 : Addr} {fd fd1 fd2 fd3 fd4 : FuncData} {k : Nat} (F : Fun K "trade" "trade" s_trade f fd)
    (G1 : FnOk P w K mg base CX0 k f1 fd1 ["work"] (spShort K)) (kp1 : PySem.W.keepIn K (.ref f1) = true) (b1 : Binds K fd1 ["work"] []) (g1 : mg "_require_short" = some (.ref f1))
    (G2 : FnOk P w K mg base CX0 k f2 fd2 ["work"] (spVisits K)) (kp2 : PySem.W.keepIn K (.ref f2) = true) (b2 : Binds K fd2 ["work"] []) (g2 : mg "most_visits" = some (.ref f2))
    (G3 : FnOk P w K mg base CX0 k f3 fd3 ["work"] (spConstants K)) (kp3 : PySem.W.keepIn K (.ref f3) = true) (b3 : Binds K fd3 ["work"] []) (g3 : mg "constants" = some (.ref f3))
    (G4 : FnOk P w K mg base CX0 k f4 fd4 ["work", "distance"] (spLeast K)) (kp4 : PySem.W.keepIn K (.ref f4) = true) (b4 : Binds K fd4 ["work", "distance"] []) (g4 : mg "_least_waits" = some (.ref f4))
    (m1 : mg "range" = none) (m2 : mg "tuple" = none) (m3 : mg "sum" = none) : FnOk P w K mg base CX0 (k + 1) f fd ["work"] (spTrade K) := by
  refine F.ok sc_trade (fun vs H Q E h => ?_) (fun cdv A outer s H vs Q E hr h => ?_)
  · obtain ⟨a, ns, lo, hi, n, rows, rfl, _⟩ := h; rfl
  · obtain ⟨a, ns, lo, hi, n, rows, rfl, hF, hw, hl, hv1, hv2, hc, l1, l12, h12, hn, hrows, lrows, q⟩ := h
    refine ⟨_, pss_cons (ps_expr (pe_call G1 hr (by rfl) g1 kp1 b1 .nil pass0 (pa_cons (pv 0) pa_nil)))
      (pss_cons (ps_set (i := 1) sc_trade.nd rfl (by first | exact .inl rfl | exact .inr rfl) (pe_callTy cr_range2 (by rfl) m1 (by decide +kernel) (pa_cons (pe_call G2 hr (by rfl) g2 kp2 b2 .nil pass0 (pa_cons (pv 0) pa_nil))
          (pa_cons (pe_op op_add (pe_ix ix_tup (pe_call G3 hr (by rfl) g3 kp3 b3 .nil pass0 (pa_cons (pv 0) pa_nil)) pe_int (fun _ _ => rfl)) pe_int) pa_nil))))
      (pss_one (ps_ret (pe_callTy (call_tuple_ofK (K := K) rfl) (by rfl) m2 (by decide +kernel) (pa_cons
        (pe_lc (own := [("distance", 2)]) (g := gName 2) (tt := tYes) (by rfl) sc_trade.nd (pi_rngO (pv 1)) (blkOk_by (N := ["work", "distances", "distance"]) (sc := defScope s_trade) (by decide +kernel))
          (fun _ _ _ _ _ => pg_name (i := 2) sc_trade.nd rfl (Or.inl rfl)) (fun _ _ _ _ _ => pts_nil)
          (fun _ _ _ _ _ => pe_tup (pa_cons (pv 2) (pa_cons (pe_callB (cr_sumTK (K := K) rfl rfl) (by rfl) m3 (by decide +kernel) (pa_cons (pe_call G4 hr (by rfl) g4 kp4 b4 .nil pass0 (pa_cons (pv 0) (pa_cons (pv 2) pa_nil))) pa_nil)) pa_nil)))) pa_nil))))), ?_⟩
    have big : 1000 ≤ sizeLine := by rw [sizeLine_eq]; decide
    refine ⟨.ref a, rfl, a, ns, rfl, hF.sq, hw, hl, fun H1 e1 => ?_⟩
    refine ⟨.ref a, rfl, a, ns, (lo : Nat), rfl, hF.same e1, hw, hv1, hv2, fun H2 e2 => ?_⟩
    have e02 := e1.trans e2
    refine ⟨.ref a, rfl, a, ns, rfl, (hF.same e02).sq, hw, fun H3 t e3 _ ht => ?_⟩
    have at0 : atI ((constTo ns ns.length).map V.int) 0 = some (.int (hi : Nat)) := atI_nat (j := 0) (by rw [List.getElem?_map, hc]; rfl)
    refine ⟨t, _, 0, .int (hi : Nat), rfl, rfl, .of ht, at0, (hi : Nat), 1, rfl, rfl, (lo : Nat), (hi : Nat) + 1, rfl, fun r nr => ?_⟩
    have e03 := (e02.trans e3).trans (same_new (o := .rng (lo : Nat) ((hi : Nat) + 1)) nr)
    have hr3 : (upd H3 r (.rng (lo : Nat) ((hi : Nat) + 1))) r = some (.rng (lo : Nat) ((hi : Nat) + 1)) := upd_same
    generalize upd H3 r (.rng (lo : Nat) ((hi : Nat) + 1)) = H4 at e03 hr3 ⊢
    refine ⟨.ref r, rfl, r, (lo : Nat), (hi : Nat) + 1, rfl, hr3, by omega, by omega, by omega, by omega, fun D nD => ?_⟩
    have en : (((hi : Nat) : Int) + 1 - (lo : Nat)).toNat = hi + 1 - lo := by omega
    rw [en]
    have nDH : H D = none := freeS e03 nD
    refine lc_range (lo := (lo : Nat)) (n := hi + 1 - lo) (fun i H' => Same H4 H' ∧ ∃ us, H' D = some (.lst us) ∧ PlsAt H' us (rows.take i)) ⟨same_new nD, [], upd_same, .nil⟩ (fun i H' hi' h => ?_) (fun H' h => ?_)
    · obtain ⟨e5, us, hD, hP⟩ := h
      obtain ⟨ws, hws, hrw⟩ := hrows i hi'
      have lus := hP.len
      rw [List.length_take] at lus
      have nd : n * (lo + i) ≤ 300000 := Nat.le_trans (Nat.mul_le_mul hn (show lo + i ≤ 12 by omega)) (by decide)
      refine ⟨rfl, .int (lo + i), rfl, .ref a, rfl, .int (lo + i), rfl, a, ns, lo + i, n, some ws, rfl, (hF.same (e03.trans e5)).sq, hw.pos, by omega, by omega, by omega, nd, by omega, hws, fun ws' e H5 t5 e6 ht5 => ?_, fun e => nomatch e⟩
      cases e
      refine ⟨t5, ws, rfl, ht5, by show 2 ≤ sizeLine; omega, fun u nu => ?_⟩
      have eu := same_new (o := .tup [V.int (lo + i), .int ws.sum]) nu
      have hD6 := eu _ _ (e6 _ _ hD)
      refine ⟨us, hD6, by omega, fun b o z => ?_, us ++ [.ref u], upd_same, ?_⟩
      · rw [upd_ne (ne_of_none z nD)]
        exact eu _ _ (e6 _ _ (e5 _ _ z))
      · have k1 : KeepT (upd H5 u (.tup [V.int (lo + i), .int ws.sum])) (upd (upd H5 u (.tup [V.int (lo + i), .int ws.sum])) D (.lst (us ++ [.ref u]))) := .upd hD6 fun _ z => nomatch z
        have tt : (upd H5 u (.tup [V.int (lo + i), .int ws.sum])) u = some (.tup [V.int (lo + i), .int ws.sum]) := upd_same
        rw [List.take_add_one, hrw]
        exact ((hP.keep (.of (e6.trans eu))).keep k1).snoc (p := (((lo + i : Nat) : Int), ws.sum)) (k1 _ _ tt)
    · obtain ⟨e5, us, hD, hP⟩ := h
      rw [← lrows, List.take_length] at hP
      refine ⟨D, us, rfl, .inl ⟨.of hD, fun t' nt => ?_⟩⟩
      have e6 := same_new (o := .tup us) nt
      exact q _ t' (e03.trans (e5.trans e6)) ⟨us, upd_same, hP.keep (.of e6)⟩
end
end Sg
set_option Elab.async false
set_option linter.all false
set_option maxRecDepth 100000
set_option maxHeartbeats 4000000
namespace Sg
open PySem PySem.Spec PyProof.Rows L2 StX
/-! ## the mathematics -/
def gapL (w : Int) : List Int := List.replicate w.toNat (-1)
def putN (x : Int) (ws rs : List Int) (i : Nat) : List Int := x :: (List.range i).flatMap fun j => gapL (ws.getD j 0) ++ [rs.getD j 0]
theorem putN_succ (x : Int) (ws rs : List Int) (i : Nat) : putN x ws rs (i + 1) = putN x ws rs i ++ gapL (ws.getD i 0) ++ [rs.getD i 0] := by
  unfold putN
  rw [List.range_succ, List.flatMap_append, List.flatMap_cons, List.flatMap_nil, List.append_nil, List.cons_append, List.cons_append, List.append_assoc]
/-- waits of a work with the items rs behind the first one -/
structure Waits (ws rs : List Int) : Prop where
  len : rs.length = ws.length
  most : ws.length ≤ 59
  items : ∀ x ∈ ws, 0 ≤ x ∧ x ≤ 11
theorem gap_len {ws rs : List Int} (h : Waits ws rs) (i : Nat) : (gapL (ws.getD i 0)).length ≤ 11 := by
  unfold gapL
  rw [List.length_replicate, List.getD_eq_getElem?_getD]
  rcases e : ws[i]? with _ | x
  · exact Nat.zero_le _
  · have := h.items x (List.mem_of_getElem? e)
    show x.toNat ≤ 11
    omega
theorem put_len {ws rs : List Int} (h : Waits ws rs) (x : Int) : ∀ i, (putN x ws rs i).length ≤ 1 + 12 * i
  | 0 => Nat.le_refl _
  | i + 1 => by
    rw [putN_succ, List.length_append, List.length_append]
    have := put_len h x i
    have := gap_len h i
    show _ + 1 ≤ _
    omega
def isWaitsB (n : Nat) : PyData → Bool
  | .tuple ds => decide (ds.length + 1 = n) && ds.all fun d => betD d 0 11
  | _ => false
def lenT : PyData → Nat
  | .tuple ds => ds.length
  | _ => 0
def intsD : List PyData → List Int
  | [] => []
  | .int i :: ds => i :: intsD ds
  | _ :: ds => 0 :: intsD ds
def intsOf : PyData → List Int
  | .tuple ds => intsD ds
  | _ => []
theorem intsD_all : ∀ {ds : List PyData}, (ds.all fun d => betD d 0 11) = true → iD (intsD ds) = ds ∧ (intsD ds).length = ds.length ∧ ∀ x ∈ intsD ds, 0 ≤ x ∧ x ≤ 11
  | [], _ => ⟨rfl, rfl, fun _ h => nomatch h⟩
  | d :: ds, h => by
    rw [List.all_cons, Bool.and_eq_true] at h
    obtain ⟨h1, h2⟩ := h
    obtain ⟨g1, g2, g3⟩ := intsD_all h2
    cases d with
    | int i =>
      have h1 : (decide (0 ≤ i) && decide (i ≤ 11)) = true := h1
      rw [Bool.and_eq_true, decide_eq_true_eq, decide_eq_true_eq] at h1
      refine ⟨by show PyData.int i :: iD (intsD ds) = _; rw [g1], by show (intsD ds).length + 1 = _; rw [g2]; rfl, fun x hx => ?_⟩
      have hx : x ∈ i :: intsD ds := hx
      rcases List.mem_cons.mp hx with rfl | hx
      · exact h1
      · exact g3 x hx
    | _ => exact nomatch h1
theorem dp_at {K : PySem.W.Frag} {H : Hp} : ∀ {vs : List V} {ds : List PyData} {i : Nat} {v : V}, DpAll K H vs ds → vs[i]? = some v → ∃ d, ds[i]? = some d ∧ Dp K H v d
  | _, _, 0, _, .cons h _, e => by cases e; exact ⟨_, rfl, h⟩
  | _, _, i + 1, _, .cons _ r, e => dp_at (i := i) r e
theorem ints_dp {K : PySem.W.Frag} {H : Hp} : ∀ {vs : List V} {ns : List Int}, DpAll K H vs (iD ns) → vs = ns.map V.int
  | [], [], _ => rfl
  | [], _ :: _, h => nomatch h
  | _ :: _, [], h => nomatch h
  | v :: vs, n :: ns, h => by
    have h : DpAll K H (v :: vs) (.int n :: iD ns) := h
    cases h with
    | cons a r =>
      cases a
      rw [ints_dp r]; rfl
section
variable {P : Program} {w : World} {K : PySem.W.Frag} {mg : Str → Option Value} {base : Heap}
/-! ### _is_waits -/
def spIsWaitsA (K : PySem.W.Frag) : Sp := fun vs H Q _ => ∃ (a : Addr) (v : V) (ns : List Int) (d : PyData), vs = [.ref a, v] ∧ SqT K H a (ns.map V.int) ∧ Dp K H v d ∧ lenT d ≤ 900 ∧ ∀ H', Same H H' → Q (.bl (isWaitsB ns.length d)) H'
theorem ok_is_waits {f f1 : Addr} {fd fd1 : FuncData} {k : Nat} (F : Fun K "_is_waits" "_is_waits" s_is_waits f fd) (nW : ∃ t, mg "MOST_WAIT" = some (.int 11 t))
    (G1 : FnOk P w K mg base CX0 k f1 fd1 ["thing", "least", "most"] (spBetA K)) (kp1 : PySem.W.keepIn K (.ref f1) = true) (b1 : Binds K fd1 ["thing", "least", "most"] []) (g1 : mg "is_between" = some (.ref f1))
    (m1 : mg "isinstance" = none) (m2 : mg "tuple" = none) (m3 : mg "len" = none) (m4 : mg "all" = none) :
    FnOk P w K mg base CX0 (k + 1) f fd ["work", "thing"] (spIsWaitsA K) := by
  obtain ⟨t1, n1⟩ := nW
  refine F.ok sc_is_waits (fun vs H Q E h => ?_) (fun cdv A outer s H vs Q E hr h => ?_)
  · obtain ⟨a, v, ns, d, rfl, _⟩ := h; rfl
  · obtain ⟨a, v, ns, d, rfl, hA, hd, hl, q⟩ := h
    refine ⟨_, pss_cons (ps_if (PW.pt (pw_or (pt_not (pt_val (pe_callB call_isiA (by rfl) m1 (by decide +kernel) (pa_cons (pv 1) (pa_cons (pe_bltn (v := .ty "tuple") (by rfl) m2 (by decide +kernel) rfl) pa_nil)))))
          (pw_or1 (pt_cmpR op_ne (pe_callB call_len_seq (by rfl) m3 PySem.boot_len (pa_cons (pv 1) pa_nil)) (pe_op op_sub (pe_callB call_len_seq (by rfl) m3 PySem.boot_len (pa_cons (pv 0) pa_nil)) pe_int) (nomark _)))))
        (pss_one (ps_ret pe_bl)) pss_nil)
      (pss_one (ps_ret (pe_callB (cr_all rfl) (by rfl) m4 (by decide +kernel) (pa_cons
          (pe_lc (own := [("wait", 2)]) (g := gName 2) (tt := tYes) rfl sc_is_waits.nd (pi_tup (pv 1)) (blkOk_by (N := ["work", "thing", "wait"]) (sc := defScope s_is_waits) (by decide +kernel))
            (fun _ _ _ _ _ => pg_name (i := 2) sc_is_waits.nd rfl (Or.inl rfl)) (fun _ _ _ _ _ => pts_nil)
            (fun _ _ _ _ _ => pe_call G1 hr (by rfl) g1 kp1 b1 .nil pass0 (pa_cons (pv 2) (pa_cons pe_int (pa_cons (pe_glob (v := .int 11) (by rfl) n1 ⟨_, rfl⟩) pa_nil))))) pa_nil)))), ?_⟩
    refine ⟨v, rfl, v, d, "tuple", rfl, .data hd, .inl rfl, isB "tuple" d, rfl, ?_⟩
    cases hb : isB "tuple" d with
    | false =>
      have e : isWaitsB ns.length d = false := by
        cases d <;> first | rfl | exact nomatch hb
      rw [e] at q
      exact iteT (q H (same_refl H))
    | true =>
      obtain ⟨ds, rfl⟩ := isB_tup.mp hb
      obtain ⟨p, us, rfl, hB, hall⟩ : ∃ p us, v = .ref p ∧ SqT K H p us ∧ DpAll K H us ds := by
        cases hd with
        | tup h r => exact ⟨_, _, rfl, h, r⟩
      have lus := DpAll.len hall
      refine iteF ⟨.ref p, rfl, p, _, rfl, .inr hB, .ref a, rfl, a, _, rfl, .inr hA, _, 1, rfl, rfl, rfl, ?_⟩
      by_cases hl2 : ds.length + 1 = ns.length
      · rw [show (!decide (V.int (us.length : Nat) = V.int (((ns.map V.int).length : Nat) - 1))) = false from by rw [List.length_map, lus, decide_eq_true (by congr 1; omega)]; rfl]
        refine ⟨_, rfl, iteF ⟨.ref p, rfl, p, rfl, ⟨_, hB⟩, fun D hD => ?_⟩⟩
        have hl : ds.length ≤ 900 := hl
        refine lc_tup (xs := us) (fun i H' => Same H H' ∧ H' D = some (.lst (((ds.take i).map fun d => betD d 0 11).map V.bl))) ⟨same_new hD, upd_same⟩ (fun i H' _ h => Same.tup h.1 hB) (fun i y H' hy h => ?_) (fun H' h => ?_)
        · have hi := (List.getElem?_eq_some_iff.mp hy).1
          obtain ⟨dd, hdd, hy2⟩ : ∃ dd, ds[i]? = some dd ∧ Dp K H y dd := by
            exact dp_at hall hy
          refine ⟨rfl, y, rfl, y, dd, 0, 11, rfl, .data (Dp.same h.1 hy2), ?_⟩
          refine ⟨_, h.2, ?_, fun z o e => ?_, ?_⟩
          · rw [List.length_map, List.length_map, List.length_take]
            exact small1000 (by omega)
          · rw [upd_ne (ne_of_none e hD)]
            exact h.1 _ _ e
          · rw [upd_same, List.take_add_one, hdd, List.map_append, List.map_append]; rfl
        · refine ⟨D, _, rfl, .of h.2, ?_⟩
          have e : ((ds.take us.length).map fun d => betD d 0 11).all id = isWaitsB ns.length (.tuple ds) := by
            rw [lus, List.take_length, List.all_map]
            show _ = (decide (ds.length + 1 = ns.length) && _)
            rw [decide_eq_true hl2]; rfl
          rw [e]
          exact q H' h.1
      · have e : isWaitsB ns.length (.tuple ds) = false := by
          show (decide (ds.length + 1 = ns.length) && _) = false
          rw [decide_eq_false hl2]; rfl
        rw [e] at q
        rw [show (!decide (V.int (us.length : Nat) = V.int (((ns.map V.int).length : Nat) - 1))) = true from by rw [List.length_map, lus, decide_eq_false (fun z => hl2 (by have := V.int.inj z; omega))]; rfl]
        exact ⟨_, rfl, iteT (q H (same_refl H))⟩
/-! ### _put_in -/
def spPutIn (K : PySem.W.Frag) : Sp := fun vs H Q _ => ∃ (a b : Addr) (x : Int) (ws rs : List Int), vs = [.ref a, .ref b] ∧ SqT K H a ((x :: rs).map V.int) ∧ SqT K H b (ws.map V.int) ∧ Waits ws rs ∧
  ∀ H' t, Same H H' → H t = none → H' t = some (.tup ((putN x ws rs ws.length).map V.int)) → Q (.ref t) H'
theorem gap_map (w : Int) : (List.replicate w.toNat [V.int (-1)]).flatten = (gapL w).map V.int := by
  unfold gapL
  rw [List.map_replicate]
  induction w.toNat with
  | zero => rfl
  | succ n ih => rw [List.replicate_succ, List.flatten_cons, ih, List.replicate_succ]; rfl
theorem ok_put_in {f : Addr} {fd : FuncData} {k : Nat} (F : Fun K "_put_in" "_put_in" s_put_in f fd) (nN : ∃ t, mg "NOWHERE" = some (.int (-1) t))
    (m1 : mg "zip" = none) (m2 : mg "tuple" = none) : FnOk P w K mg base CX0 (k + 1) f fd ["work", "waits"] (spPutIn K) := by
  obtain ⟨t1, n1⟩ := nN
  refine F.ok sc_put_in (fun vs H Q E h => ?_) (fun cdv A outer s H vs Q E hr h => ?_)
  · obtain ⟨a, b, x, ws, rs, rfl, _⟩ := h; rfl
  · obtain ⟨a, b, x, ws, rs, rfl, hA, hB, hw, q⟩ := h
    refine ⟨_, pss_cons (ps_set (i := 2) sc_put_in.nd rfl (.inl rfl) (pe_lst (pa_cons (pe_ix ix_tup (pv 0) pe_int (fun _ _ => rfl)) pa_nil)))
      (pss_cons (ps_for PassesOwn.never rfl (RZ.pi_zipA (by rfl) m1 (pa_cons (pv 1) (pa_cons (pe_slice sl_tup (pv 0) (po_some pe_int) po_none) pa_nil)))
          (pg_tup rfl (pgs_cons (pg_name (i := 3) sc_put_in.nd rfl (.inl rfl)) (pgs_cons (pg_name (i := 4) sc_put_in.nd rfl (.inl rfl)) pgs_nil)))
        (pss_cons (ps_expr (pe_bm PySem.F.plainAttrs_list PySem.F.slot_list_extend PySem.F.type_list_extend mt_extend (pv 2)
            (pa_cons (pe_op op_rep (pe_lst (pa_cons (pe_glob (v := .int (-1)) (by rfl) n1 ⟨_, rfl⟩) pa_nil)) (pv 3)) pa_nil)))
        (pss_one (ps_expr (pe_bm PySem.F.plainAttrs_list PySem.F.slot_list_append PySem.F.type_list_append mt_append (pv 2) (pa_cons (pv 4) pa_nil))))))
      (pss_one (ps_ret (pe_callTy call_tuple_of (by rfl) m2 (by decide +kernel) (pa_cons (pv 2) pa_nil))))), ?_⟩
    refine ⟨.ref a, rfl, a, _, 0, .int x, rfl, rfl, hA, atI0, by show 1 ≤ sizeLine; decide, fun I nI => ?_⟩
    have e1 : Same H (upd H I (.lst [V.int x])) := same_new nI
    have hI1 : (upd H I (.lst [V.int x])) I = some (.lst ((putN x ws rs 0).map V.int)) := upd_same
    generalize upd H I (.lst [V.int x]) = H1 at e1 hI1 ⊢
    have hcut : cutV ((x :: rs).map V.int) (some (1 : Int)) none = rs.map V.int := by
      rw [show (1 : Int) = ((1 : Nat) : Int) from rfl, cut_from]
      rfl
    refine ⟨.ref b, rfl, .ref a, rfl, 1, rfl, a, _, rfl, Same.tup e1 hA, ?_, fun c nc => ?_⟩
    · rintro ⟨z, _⟩
      rw [show (1 : Int) = ((1 : Nat) : Int) from rfl, HT.sIx_nat, List.length_map, List.length_cons] at z
      omega
    rw [hcut]
    have e2 : Same H1 (upd H1 c (.tup (rs.map V.int))) := same_new nc
    have hc2 : (upd H1 c (.tup (rs.map V.int))) c = some (.tup (rs.map V.int)) := upd_same
    have hI2 := e2 _ _ hI1
    generalize upd H1 c (.tup (rs.map V.int)) = H2 at e2 hc2 hI2 ⊢
    have nIc : I ≠ c := ne_of hI2 hc2 (fun z => nomatch z)
    refine ⟨b, c, _, _, rfl, .inr ⟨Same.tup (e1.trans e2) hB, .of hc2, ?_⟩⟩
    have len := hw.len
    have most := hw.most
    refine for_it (walk_zipT (xs := ws.map V.int) (ys := rs.map V.int) (n := ws.length) (by rw [List.length_map, List.length_map, len, Nat.min_self]))
      (fun i σ H' => ∃ v3 v4, σ = [some (.ref a), some (.ref b), some (.ref I), v3, v4] ∧ Same H H' ∧ H' I = some (.lst ((putN x ws rs i).map V.int)) ∧ H' c = some (.tup (rs.map V.int)))
      ⟨_, _, rfl, e1.trans e2, hI2, hc2⟩ (fun i σ H' _ h => ?_) (fun i y σ H' H'' hi h hY => ?_) (fun σ H' h => ?_)
    · obtain ⟨_, _, _, e, _, hc⟩ := h
      exact ⟨Same.tup e hB, .of hc⟩
    · obtain ⟨v3, v4, rfl, e, hI, hc⟩ := h
      obtain ⟨T, x1, x2, rfl, nT, rfl, f1, f2⟩ := hY
      dsimp only at f1 f2
      rw [List.getElem?_map] at f1 f2
      obtain ⟨z1, hz1, rfl⟩ := Option.map_eq_some_iff.mp f1
      obtain ⟨z2, hz2, rfl⟩ := Option.map_eq_some_iff.mp f2
      obtain ⟨w1, w2⟩ := hw.items z1 (List.mem_of_getElem? hz1)
      have eT : Same H' (upd H' T (.tup [V.int z1, .int z2])) := same_new nT
      refine ⟨T, _, rfl, .of upd_same, rfl, _, _, rfl, _, _, rfl, rfl, ?_⟩
      have hI3 := eT _ _ hI
      have hc3 := eT _ _ hc
      have e3 := e.trans eT
      generalize upd H' T (.tup [V.int z1, .int z2]) = H3 at eT hI3 hc3 e3 ⊢
      refine ⟨.ref I, rfl, .inl ⟨rfl, _, .of hI3⟩, by show 1 ≤ sizeLine; decide, fun g ng => ⟨.int z1, rfl, g, z1, _, rfl, rfl, upd_same, by omega, by omega, ?_, fun r nr => ?_⟩⟩
      · show 1 * z1.toNat ≤ sizeLine
        rw [sizeLine_eq]; omega
      rw [gap_map]
      have nIg : I ≠ g := ne_of_none hI3 ng
      have hI4 : (upd H3 g (.lst [V.int (-1)])) I = some (.lst ((putN x ws rs i).map V.int)) := by rw [upd_ne nIg]; exact hI3
      have nIr : I ≠ r := ne_of_none hI4 nr
      have pl := put_len hw x i
      have gl : (gapL z1).length ≤ 11 := by
        have := gap_len hw i
        rw [List.getD_eq_getElem?_getD, hz1] at this
        exact this
      refine ⟨I, r, _, _, rfl, rfl, by rw [upd_ne nIr]; exact hI4, upd_same, ?_, ?_⟩
      · rw [List.length_map, List.length_map, sizeLine_eq]; omega
      rw [← List.map_append]
      refine ⟨.ref I, rfl, .inl ⟨rfl, _, .of upd_same⟩, .int z2, rfl, I, _, _, rfl, rfl, upd_same, ?_, ?_⟩
      · rw [List.length_map, List.length_append, sizeLine_eq]; omega
      have ev : (List.map V.int (putN x ws rs i ++ gapL z1) ++ [V.int z2]) = (putN x ws rs (i + 1)).map V.int := by
        rw [putN_succ, List.getD_eq_getElem?_getD, List.getD_eq_getElem?_getD, hz1, hz2, List.map_append, List.map_append, List.map_append]
        rfl
      rw [ev]
      refine ⟨_, _, rfl, fun q o h => ?_, upd_same, ?_⟩
      · have h3 := e3 _ _ h
        have n1 : q ≠ I := ne_of_none h nI
        have n2 : q ≠ g := ne_of_none h3 ng
        have n3 : q ≠ r := ne_of_none (show (upd H3 g (.lst [V.int (-1)])) q = some o by rw [upd_ne n2]; exact h3) nr
        rw [upd_ne n1, upd_ne n1, upd_ne n3, upd_ne n2]
        exact h3
      · have n2 : c ≠ g := ne_of_none hc3 ng
        have n3 : c ≠ r := ne_of_none (show (upd H3 g (.lst [V.int (-1)])) c = some (.tup (rs.map V.int)) by rw [upd_ne n2]; exact hc3) nr
        rw [upd_ne nIc.symm, upd_ne nIc.symm, upd_ne n3, upd_ne n2]
        exact hc3
    · obtain ⟨v3, v4, rfl, e, hI, hc⟩ := h
      refine ⟨.ref I, rfl, I, _, rfl, .inl ⟨.of hI, fun t nt => q _ t (e.trans (same_new nt)) ?_ upd_same⟩⟩
      rcases z : H t with _ | o
      · rfl
      · rw [e _ _ z] at nt
        exact nomatch nt
/-! ### stretched -/
def spStretched (K : PySem.W.Frag) : Sp := fun vs H Q _ => ∃ (a b : Addr) (x : Int) (ws rs : List Int), vs = [.ref a, .ref b] ∧ SqT K H a ((x :: rs).map V.int) ∧ SqT K H b (ws.map V.int) ∧ IsWork (x :: rs) ∧ isWaitsB (x :: rs).length (tD ws) = true ∧ Waits ws rs ∧
  ∀ H' v, Same H H' → Dp K H' v (tD (putN x ws rs ws.length)) → Q v H'
theorem ok_stretched {f f1 f2 f3 : Addr} {fd fd1 fd2 fd3 : FuncData} {k : Nat} (F : Fun K "stretched" "stretched" s_stretched f fd)
    (G1 : FnOk P w K mg base CX0 k f1 fd1 ["thing"] (spReq K)) (kp1 : PySem.W.keepIn K (.ref f1) = true) (b1 : Binds K fd1 ["thing"] []) (g1 : mg "require_work" = some (.ref f1))
    (G2 : FnOk P w K mg base CX0 k f2 fd2 ["work", "thing"] (spIsWaitsA K)) (kp2 : PySem.W.keepIn K (.ref f2) = true) (b2 : Binds K fd2 ["work", "thing"] []) (g2 : mg "_is_waits" = some (.ref f2))
    (G3 : FnOk P w K mg base CX0 k f3 fd3 ["work", "waits"] (spPutIn K)) (kp3 : PySem.W.keepIn K (.ref f3) = true) (b3 : Binds K fd3 ["work", "waits"] []) (g3 : mg "_put_in" = some (.ref f3)) :
    FnOk P w K mg base CX0 (k + 1) f fd ["work", "waits"] (spStretched K) := by
  refine F.ok sc_stretched (fun vs H Q E h => ?_) (fun cdv A outer s H vs Q E hr h => ?_)
  · obtain ⟨a, b, x, ws, rs, rfl, _⟩ := h; rfl
  · obtain ⟨a, b, x, ws, rs, rfl, hA, hB, hw, hi, hW, q⟩ := h
    refine ⟨_, pss_cons (ps_expr (pe_call G1 hr (by rfl) g1 kp1 b1 .nil pass0 (pa_cons (pv 0) pa_nil)))
      (pss_cons (ps_if (pt_not (pt_val (pe_call G2 hr (by rfl) g2 kp2 b2 .nil pass0 (pa_cons (pv 0) (pa_cons (pv 1) pa_nil))))) pss_never pss_nil)
      (pss_one (ps_ret (pe_call G3 hr (by rfl) g3 kp3 b3 .nil pass0 (pa_cons (pv 0) (pa_cons (pv 1) pa_nil)))))), ?_⟩
    have lw := hW.most
    refine ⟨.ref a, rfl, a, _, rfl, hA, hw, fun H1 e1 => ?_⟩
    refine ⟨.ref a, rfl, .ref b, rfl, a, .ref b, _, tD ws, rfl, Same.tup e1 hA, (Tp.ofInts (ns := ws) (Same.tup e1 hB)).dp, by show (iD ws).length ≤ _; rw [List.length_map]; omega, fun H2 e2 => ⟨_, rfl, ?_⟩⟩
    have e12 := e1.trans e2
    rw [hi]
    refine iteF ⟨.ref a, rfl, .ref b, rfl, a, b, x, ws, rs, rfl, Same.tup e12 hA, Same.tup e12 hB, hW, fun H3 t e3 nt ht => ?_⟩
    exact q H3 _ (e12.trans e3) (Tp.ofInts (ns := putN x ws rs ws.length) (.of ht)).dp
/-! ### shows_stretch -/
def showsB (x : Int) (rs : List Int) (d : Nat) (dd : PyData) : Bool := isWaitsB (x :: rs).length dd && constB (putN x (intsOf dd) rs (intsOf dd).length) (d : Nat)
def spShows (K : PySem.W.Frag) : Sp := fun vs H Q _ => ∃ (a : Addr) (v : V) (x : Int) (rs : List Int) (d : Nat) (dd : PyData), vs = [.ref a, .int (d : Nat), v] ∧ SqT K H a ((x :: rs).map V.int) ∧ IsWork (x :: rs) ∧ (x :: rs).length ≤ 12 ∧ 1 ≤ d ∧ d ≤ 12 ∧ Dp K H v dd ∧ lenT dd ≤ 900 ∧
  (isWaitsB (x :: rs).length dd = true → (prs (putN x (intsOf dd) rs (intsOf dd).length) (d : Nat) (putN x (intsOf dd) rs (intsOf dd).length).length).length < 64) ∧ ∀ H', Same H H' → Q (.bl (showsB x rs d dd)) H'
theorem ok_shows {f f1 f2 f3 f4 : Addr} {fd fd1 fd2 fd3 fd4 : FuncData} {k : Nat} (F : Fun K "shows_stretch" "shows_stretch" s_shows_stretch f fd)
    (G1 : FnOk P w K mg base CX0 k f1 fd1 ["work", "distance"] (spStr K)) (kp1 : PySem.W.keepIn K (.ref f1) = true) (b1 : Binds K fd1 ["work", "distance"] []) (g1 : mg "_require_stretch" = some (.ref f1))
    (G2 : FnOk P w K mg base CX0 k f2 fd2 ["work", "thing"] (spIsWaitsA K)) (kp2 : PySem.W.keepIn K (.ref f2) = true) (b2 : Binds K fd2 ["work", "thing"] []) (g2 : mg "_is_waits" = some (.ref f2))
    (G3 : FnOk P w K mg base CX0 k f3 fd3 ["work", "waits"] (spPutIn K)) (kp3 : PySem.W.keepIn K (.ref f3) = true) (b3 : Binds K fd3 ["work", "waits"] []) (g3 : mg "_put_in" = some (.ref f3))
    (G4 : FnOk P w K mg base CX0 k f4 fd4 ["items", "distance"] (spIsConst K)) (kp4 : PySem.W.keepIn K (.ref f4) = true) (b4 : Binds K fd4 ["items", "distance"] []) (g4 : mg "is_constant" = some (.ref f4)) :
    FnOk P w K mg base CX0 (k + 1) f fd ["work", "distance", "thing"] (spShows K) := by
  refine F.ok sc_shows_stretch (fun vs H Q E h => ?_) (fun cdv A outer s H vs Q E hr h => ?_)
  · obtain ⟨a, v, x, rs, d, dd, rfl, _⟩ := h; rfl
  · obtain ⟨a, v, x, rs, d, dd, rfl, hA, hw, hl, d1, d2, hd, hs, hp, q⟩ := h
    refine ⟨_, pss_cons (ps_expr (pe_call G1 hr (by rfl) g1 kp1 b1 .nil pass0 (pa_cons (pv 0) (pa_cons (pv 1) pa_nil))))
      (pss_one (ps_ret (pe_and (pe_call G2 hr (by rfl) g2 kp2 b2 .nil pass0 (pa_cons (pv 0) (pa_cons (pv 2) pa_nil)))
        (pe_one (pe_call G4 hr (by rfl) g4 kp4 b4 .nil pass0 (pa_cons (pe_call G3 hr (by rfl) g3 kp3 b3 .nil pass0 (pa_cons (pv 0) (pa_cons (pv 2) pa_nil))) (pa_cons (pv 1) pa_nil))))))), ?_⟩
    refine ⟨.ref a, rfl, .int (d : Nat), rfl, a, _, (d : Nat), rfl, hA, hw, hl, by omega, by omega, fun H1 e1 => ?_⟩
    refine ⟨.ref a, rfl, v, rfl, a, v, _, dd, rfl, Same.tup e1 hA, Dp.same e1 hd, hs, fun H2 e2 => ?_⟩
    have e12 := e1.trans e2
    cases hb : isWaitsB (x :: rs).length dd with
    | false =>
      have : showsB x rs d dd = false := by unfold showsB; rw [hb]; rfl
      rw [this] at q
      exact ⟨_, rfl, iteF (q H2 e12)⟩
    | true =>
      have e : showsB x rs d dd = constB (putN x (intsOf dd) rs (intsOf dd).length) (d : Nat) := by unfold showsB; rw [hb]; rfl
      rw [e] at q
      have hp := hp hb
      obtain ⟨ds, rfl⟩ : ∃ ds, dd = .tuple ds := by cases dd <;> first | exact ⟨_, rfl⟩ | exact nomatch hb
      have hb : (decide (ds.length + 1 = (x :: rs).length) && ds.all fun d => betD d 0 11) = true := hb
      rw [Bool.and_eq_true, decide_eq_true_eq, List.length_cons] at hb
      obtain ⟨i1, i2, i3⟩ := intsD_all hb.2
      rw [List.length_cons] at hl
      obtain ⟨p, us, rfl, hB, hall⟩ : ∃ p us, v = .ref p ∧ SqT K H p us ∧ DpAll K H us ds := by
        cases hd with
        | tup h r => exact ⟨_, _, rfl, h, r⟩
      rw [← i1] at hall
      rw [ints_dp hall] at hB
      have hW : Waits (intsD ds) rs := ⟨by omega, by omega, i3⟩
      have pl := put_len hW x (intsD ds).length
      refine ⟨_, rfl, iteT ⟨.ref a, rfl, .ref p, rfl, a, p, x, intsD ds, rs, rfl, Same.tup e12 hA, Same.tup e12 hB, hW, fun H3 t e3 nt ht => ?_⟩⟩
      exact ⟨.int (d : Nat), rfl, t, _, (d : Nat), rfl, .of ht, by omega, hp, by omega, fun H4 e4 => q H4 (e12.trans (e3.trans e4))⟩
end
end Sg
set_option Elab.async false
set_option linter.all false
set_option maxRecDepth 100000
set_option maxHeartbeats 4000000
namespace Sg
open PySem PySem.Spec PyProof.Rows L2 StX
def tenL : List Int := [0, 1, 2, 3, 4, 5, 6, 7, 8, 9]
/-! ## the rows of the law -/
structure Rw where
  items : List Int
  d : Nat
  r : Option (List Int)
  ps : List Plc
def rwD (x : Rw) : PyData := .tuple [tD x.items, .int (x.d : Nat), optD x.r, .tuple (plsD x.ps)]
def longL (a : Int) : List Int := [a, a, -1, -1, -1, -1, a]
def twoL (a b : Int) : List Int := [a, a, b, b, a, a]
def rows1 (a b : Int) : List Rw := [⟨[a], 1, some [], [(1, 0)]⟩, ⟨[a, a, a], 3, some [0, 0], [(3, 0)]⟩, ⟨[a, a, a], 2, none, [(3, 0)]⟩]
def rows2 (a b : Int) : List Rw := [⟨[a, -1, a], 2, some [0, 1], [(2, 1), (3, 0)]⟩, ⟨[a, -1, a], 1, none, [(2, 1), (3, 0)]⟩]
def rows3 (a b : Int) : List Rw := [⟨longL a, 3, some [1, 0, 0, 0, 0, 0], [(3, 1), (4, 0)]⟩, ⟨longL a, 4, some [0, 0, 0, 0, 0, 0], [(3, 1), (4, 0)]⟩]
def rows4 (a b : Int) : List Rw := [⟨[a, b, a, b], 2, some [0, 1, 0], [(2, 1), (3, 0)]⟩, ⟨[a, b, a, b], 3, some [0, 0, 0], [(2, 1), (3, 0)]⟩]
def rows5 (a b : Int) : List Rw := [⟨twoL a b, 4, some [0, 0, 0, 2, 0], [(4, 2), (5, 2), (6, 0)]⟩, ⟨twoL a b, 3, none, [(4, 2), (5, 2), (6, 0)]⟩]
def rows6 (a b : Int) : List Rw := [⟨twoL a b, 5, some [0, 0, 0, 0, 2], [(4, 2), (5, 2), (6, 0)]⟩, ⟨[a, b], 1, some [0], [(1, 0)]⟩]
def rowsL (a b : Int) : List Rw := rows1 a b ++ rows2 a b ++ rows3 a b ++ rows4 a b ++ rows5 a b ++ rows6 a b
def workB (ns : List Int) : Bool := decide (1 ≤ ns.length) && decide (ns.length ≤ 60) && ns.all (fun x => decide (-1 ≤ x) && decide (x ≤ 9)) && decide (ns[0]? ≠ some (-1)) && decide (ns[ns.length - 1]? ≠ some (-1))
theorem workB_is {ns : List Int} (h : workB ns = true) : IsWork ns := by
  unfold workB at h
  simp only [Bool.and_eq_true, decide_eq_true_eq] at h
  obtain ⟨⟨⟨⟨h1, h2⟩, h3⟩, h4⟩, h5⟩ := h
  refine ⟨h1, h2, fun x hx => ?_, fun x e z => h4 (by rw [e, z]), fun x e z => h5 (by rw [e, z])⟩
  have := List.all_eq_true.mp h3 x hx
  rw [Bool.and_eq_true, decide_eq_true_eq, decide_eq_true_eq] at this
  exact this
def showsOk (d : PyData) : Bool := goodB d && !d.hasDict
theorem showsOk_is {d : PyData} (h : showsOk d = true) : Shows d := by
  unfold showsOk at h
  rw [Bool.and_eq_true] at h
  have g := good_by h.1
  exact ⟨g.sh, by simpa using h.2, g.dp, g.short⟩
def fuelW : Nat := 1000
def tradeB (ns : List Int) (lo hi : Nat) (ps : List Plc) : Bool :=
  decide ((lo : Int) ∈ cnts ns) && (cnts ns).all (fun y => decide (y ≤ (lo : Int))) && decide ((constTo ns ns.length)[0]? = some (hi : Int)) && decide (1 ≤ lo) && decide (lo ≤ 12) && decide (hi ≤ 12) && decide (ps.length = hi + 1 - lo) &&
  (List.range (hi + 1 - lo)).all fun i => match leastW ns (lo + i) fuelW with
    | some (some ws) => decide (ps[i]? = some (((lo + i : Nat) : Int), ws.sum))
    | _ => false
def trades1 (a : Int) : List (List Int × List Plc) := [([a], [(1, 0)]), ([a, a, a], [(3, 0)]), ([a, -1, a], [(2, 1), (3, 0)]), (longL a, [(3, 1), (4, 0)])]
def trades2 (a b : Int) : List (List Int × List Plc) := [([a, b, a, b], [(2, 1), (3, 0)]), (twoL a b, [(4, 2), (5, 2), (6, 0)]), ([a, b], [(1, 0)])]
def loOf (ps : List Plc) : Nat := (ps.getD 0 (0, 0)).1.toNat
def hiOf (ps : List Plc) : Nat := (ps.getD (ps.length - 1) (0, 0)).1.toNat
def tradeOk (p : List Int × List Plc) : Bool := tradeB p.1 (loOf p.2) (hiOf p.2) p.2
def rwOk (x : Rw) : Bool := workB x.items && decide (x.items.length ≤ 12) && decide (1 ≤ x.d) && decide (x.d ≤ 12) && decide (leastW x.items x.d fuelW = some x.r) && showsOk (.list [optD x.r, .tuple (plsD x.ps)])
theorem rows_trades (a b : Int) : ∀ x ∈ rowsL a b, (x.items, x.ps) ∈ trades1 a ++ trades2 a b := by
  intro x hx
  simp only [rowsL, rows1, rows2, rows3, rows4, rows5, rows6, List.cons_append, List.nil_append, List.mem_cons, List.not_mem_nil, or_false] at hx
  simp only [trades1, trades2, List.cons_append, List.nil_append, List.mem_cons, List.not_mem_nil, or_false]
  rcases hx with rfl | rfl | rfl | rfl | rfl | rfl | rfl | rfl | rfl | rfl | rfl | rfl | rfl <;> simp
def chkA (a : Int) : Bool := (trades1 a).all tradeOk && (rows1 a 0 ++ rows2 a 0 ++ rows3 a 0).all rwOk
def chkB (a : Int) : Bool := tenL.all fun b => decide (a = b) || ((trades2 a b).all tradeOk && (rows4 a b ++ rows5 a b ++ rows6 a b).all rwOk)
theorem chkA_0 : chkA 0 = true := by decide +kernel
theorem chkA_1 : chkA 1 = true := by decide +kernel
theorem chkA_2 : chkA 2 = true := by decide +kernel
theorem chkA_3 : chkA 3 = true := by decide +kernel
theorem chkA_4 : chkA 4 = true := by decide +kernel
theorem chkA_5 : chkA 5 = true := by decide +kernel
theorem chkA_6 : chkA 6 = true := by decide +kernel
theorem chkA_7 : chkA 7 = true := by decide +kernel
theorem chkA_8 : chkA 8 = true := by decide +kernel
theorem chkA_9 : chkA 9 = true := by decide +kernel
theorem chkB_0 : chkB 0 = true := by decide +kernel
theorem chkB_1 : chkB 1 = true := by decide +kernel
theorem chkB_2 : chkB 2 = true := by decide +kernel
theorem chkB_3 : chkB 3 = true := by decide +kernel
theorem chkB_4 : chkB 4 = true := by decide +kernel
theorem chkB_5 : chkB 5 = true := by decide +kernel
theorem chkB_6 : chkB 6 = true := by decide +kernel
theorem chkB_7 : chkB 7 = true := by decide +kernel
theorem chkB_8 : chkB 8 = true := by decide +kernel
theorem chkB_9 : chkB 9 = true := by decide +kernel
theorem ten_cases {a : Int} {p : Int → Prop} (ha : a ∈ tenL) (h0 : p 0) (h1 : p 1) (h2 : p 2) (h3 : p 3) (h4 : p 4) (h5 : p 5) (h6 : p 6) (h7 : p 7) (h8 : p 8) (h9 : p 9) : p a := by
  unfold tenL at ha
  simp only [List.mem_cons, List.not_mem_nil, or_false] at ha
  rcases ha with rfl | rfl | rfl | rfl | rfl | rfl | rfl | rfl | rfl | rfl <;> assumption
theorem chkA_all {a : Int} (ha : a ∈ tenL) : chkA a = true := ten_cases (p := fun a => chkA a = true) ha chkA_0 chkA_1 chkA_2 chkA_3 chkA_4 chkA_5 chkA_6 chkA_7 chkA_8 chkA_9
theorem chkB_all {a : Int} (ha : a ∈ tenL) : chkB a = true := ten_cases (p := fun a => chkB a = true) ha chkB_0 chkB_1 chkB_2 chkB_3 chkB_4 chkB_5 chkB_6 chkB_7 chkB_8 chkB_9
theorem rows_ok {a b : Int} (ha : a ∈ tenL) (hb : b ∈ tenL) (ne : a ≠ b) : ∀ x ∈ rowsL a b, rwOk x = true ∧ tradeOk (x.items, x.ps) = true := by
  have h1 := chkA_all ha
  unfold chkA at h1
  have h2 := List.all_eq_true.mp (show (tenL.all fun b => decide (a = b) || ((trades2 a b).all tradeOk && (rows4 a b ++ rows5 a b ++ rows6 a b).all rwOk)) = true from chkB_all ha) b hb
  rw [Bool.and_eq_true] at h1
  rw [decide_eq_false ne, Bool.false_or, Bool.and_eq_true] at h2
  intro x hx
  have ht := rows_trades a b x hx
  refine ⟨?_, ?_⟩
  · have hx : x ∈ rows1 a 0 ++ rows2 a 0 ++ rows3 a 0 ++ (rows4 a b ++ rows5 a b ++ rows6 a b) := by
      unfold rowsL at hx
      rw [← List.append_assoc, ← List.append_assoc]
      exact hx
    rcases List.mem_append.mp hx with hx | hx
    · exact List.all_eq_true.mp h1.2 x hx
    · exact List.all_eq_true.mp h2.2 x hx
  · rcases List.mem_append.mp ht with ht | ht
    · exact List.all_eq_true.mp h1.1 _ ht
    · exact List.all_eq_true.mp h2.1 _ ht
end Sg
set_option Elab.async false
set_option linter.all false
set_option maxRecDepth 100000
set_option maxHeartbeats 4000000
namespace Sg
open PySem PySem.Spec PyProof.Rows L2 StX
theorem pick_perm : ∀ (ls : List Int) (j : Nat) (h : j < ls.length), List.Perm ([ls[j]] ++ ls.eraseIdx j) ls
  | [], _, h => absurd h (Nat.not_lt_zero _)
  | x :: r, 0, _ => .refl _
  | x :: r, j + 1, h => by
    have hj : j < r.length := Nat.lt_of_succ_lt_succ h
    have ih := pick_perm r j hj
    show List.Perm (r[j] :: x :: r.eraseIdx j) (x :: r)
    exact (List.Perm.swap x r[j] _).trans (ih.cons x)
section
variable {P : Program} {w : World} {K : PySem.W.Frag} {mg : Str → Option Value} {base : Heap}
/-! ### _law_same -/
theorem ok_l_same {f : Addr} {fd : FuncData} {k : Nat} (F : Fun K "_law_same" "_law_same" s_l_same f fd) (m1 : mg "repr" = none) :
    FnG P w K mg base (k + 1) f fd ["_law_actual", "_law_due"] (spSame K) := by
  refine fnG_mk F sc_l_same (fun vs H Q h => ?_) (fun cdv A outer s H vs Q hg hr h => ?_)
  · obtain ⟨a, b, d, rfl, _⟩ := h; rfl
  · obtain ⟨a, b, d, rfl, h1, h2, hd, q⟩ := h
    refine ⟨_, pss_one (ps_ret (pe_cmpR op_eq (pe_callB (call_reprD hg hr) (by rfl) m1 (by decide +kernel) (pa_cons (pv 0) pa_nil))
      (pe_callB (call_reprD hg hr) (by rfl) m1 (by decide +kernel) (pa_cons (pv 1) pa_nil)) (nomark _))), ?_⟩
    refine ⟨.ref a, rfl, a, d, rfl, h1, hd, .ref b, rfl, b, d, rfl, h2, hd, rfl, ?_⟩
    rw [decide_eq_true rfl]
    exact q
/-! ### _law_mixed -/
def spMixed (K : PySem.W.Frag) : Sp := fun vs H Q _ => ∃ (p l : Addr) (ns : List Int), vs = [.ref p, .ref l] ∧ PenAt H p ∧ l ≠ p ∧ H l = some (.lst (ns.map V.int)) ∧ ns.length ≤ 1000 ∧
  ∀ H' q (ms : List Int), PenAt H' p → But p H H' → H q = none → H' q = some (.lst (ms.map V.int)) → List.Perm ms ns → Q (.ref q) H'
theorem ok_mixed {f f1 : Addr} {fd fd1 : FuncData} {k : Nat} (F : Fun K "_law_mixed" "_law_mixed" s_l_mixed f fd)
    (G1 : FnOk P w K mg base CX0 k f1 fd1 ["_law_pen_here", "_law_many"] spDraw) (kp1 : PySem.W.keepIn K (.ref f1) = true) (b1 : Binds K fd1 ["_law_pen_here", "_law_many"] []) (g1 : mg "_law_draw" = some (.ref f1))
    (m1 : mg "list" = none) (m2 : mg "range" = none) (m3 : mg "len" = none) : FnOk P w K mg base CX0 (k + 1) f fd ["_law_pen_here", "_law_values"] (spMixed K) := by
  refine F.ok sc_l_mixed (fun vs H Q E h => ?_) (fun cdv A outer s H vs Q E hr h => ?_)
  · obtain ⟨p, l, ns, rfl, _⟩ := h; rfl
  · obtain ⟨p, l, ns, rfl, hp, nlp, hl, hz, q⟩ := h
    refine ⟨_, pss_cons (ps_par (i := 2) (j := 3) (by rfl) sc_l_mixed.nd rfl rfl (by decide) rfl rfl (pa_cons (pe_callTy (call_list_of) (by rfl) m1 (by decide +kernel) (pa_cons (pv 1) pa_nil)) (pa_cons (pe_lst pa_nil) pa_nil)) (by rfl))
      (pss_cons (ps_for PassesOwn.never rfl (pi_range1 (by rfl) m2 (pa_cons (pe_callB call_len_seq (by rfl) m3 PySem.boot_len (pa_cons (pv 1) pa_nil)) pa_nil)) (pg_name (i := 4) sc_l_mixed.nd rfl (.inl rfl))
        (pss_one (ps_expr (pe_bm PySem.F.plainAttrs_list PySem.F.slot_list_append PySem.F.type_list_append mt_append (pv 3)
          (pa_cons (pe_bm PySem.F.plainAttrs_list PySem.F.slot_list_pop PySem.F.type_list_pop mt_popAt (pv 2)
            (pa_cons (pe_call G1 hr (by rfl) g1 kp1 b1 .nil pass0 (pa_cons (pv 0) (pa_cons (pe_callB call_len_seq (by rfl) m3 PySem.boot_len (pa_cons (pv 2) pa_nil)) pa_nil))) pa_nil)) pa_nil)))))
      (pss_one (ps_ret (pv 3)))), ?_⟩
    refine ⟨.ref l, rfl, l, _, rfl, .inl (.of hl), fun L nL => ?_⟩
    have hL0 : (upd H L (.lst (ns.map V.int))) L = some (.lst (ns.map V.int)) := upd_same
    have e0 : Same H (upd H L (.lst (ns.map V.int))) := same_new nL
    have p0 := hp.new (o := .lst (ns.map V.int)) nL
    have nLp : L ≠ p := (hp.ne nL).symm
    generalize upd H L (.lst (ns.map V.int)) = H1 at hL0 e0 p0 ⊢
    refine ⟨by show 0 ≤ sizeLine; decide, fun F0 nF => ?_⟩
    have hF0 : (upd H1 F0 (.lst [])) F0 = some (.lst []) := upd_same
    have e1 : Same H1 (upd H1 F0 (.lst [])) := same_new nF
    have p1 := p0.new (o := .lst []) nF
    have nFp : F0 ≠ p := (p0.ne nF).symm
    have nFL : L ≠ F0 := ne_of_none hL0 nF
    have nFH : H F0 = none := hp.free p0 (.of e0) nF
    have hL1 := e1 _ _ hL0
    generalize upd H1 F0 (.lst []) = H2 at hF0 e1 p1 hL1 ⊢
    refine ⟨_, _, rfl, .ref l, rfl, l, _, rfl, .inl (.of (e1 _ _ (e0 _ _ hl))), _, rfl, by omega, ?_, ?_⟩
    · rw [List.length_map]; omega
    refine for_range (lo := 0) (n := (((ns.map V.int).length : Nat) : Int).toNat) (fun i σ H' => ∃ v4, σ = [some (.ref p), some (.ref l), some (.ref L), some (.ref F0), v4] ∧ PenAt H' p ∧ But p H H' ∧
        ∃ ls fs : List Int, H' L = some (.lst (ls.map V.int)) ∧ H' F0 = some (.lst (fs.map V.int)) ∧ fs.length = i ∧ List.Perm (fs ++ ls) ns)
      ⟨_, rfl, p1, .of (e0.trans e1), ns, [], hL1, hF0, rfl, .refl _⟩ ?_ ?_
    · rintro i σ H3 hi ⟨v4, rfl, p3, b3, ls, fs, hL3, hF3, l2, pm⟩
      have l1 : ls.length + i = ns.length := by have := pm.length_eq; rw [List.length_append] at this; omega
      have hlt : i < ns.length := by rw [Int.toNat_natCast, List.length_map] at hi; exact hi
      have lenL : (ls.map V.int).length = ls.length := List.length_map _
      refine ⟨.ref F0, rfl, .inl ⟨rfl, _, .of hF3⟩, .ref L, rfl, .inl ⟨rfl, _, .of hL3⟩, .ref p, rfl, .ref L, rfl, L, _, rfl, .inl (.of hL3), p, _, rfl, p3, by rw [lenL]; omega, by rw [lenL]; omega, fun H4 r r0 r1 p4 b4 => ?_⟩
      rw [lenL] at r1
      obtain ⟨j, rfl⟩ : ∃ j : Nat, r = j := ⟨r.toNat, by omega⟩
      have hj : j < ls.length := by omega
      have hL4 := b4 _ _ nLp hL3
      have hF4 := b4 _ _ nFp hF3
      have gj : (ls.map V.int)[j]? = some (.int ls[j]) := by rw [List.getElem?_map, List.getElem?_eq_getElem hj]; rfl
      refine ⟨L, _, (j : Int), j, .int ls[j], rfl, rfl, hL4, by omega, by omega, (ixN_seq (ixN_nat (by rw [lenL]; exact hj))).1, gj, ?_⟩
      have hF5 : (upd H4 L (.lst ((ls.map V.int).eraseIdx j))) F0 = some (.lst (fs.map V.int)) := by rw [upd_ne nFL.symm]; exact hF4
      refine ⟨F0, _, _, rfl, rfl, hF5, ?_, ?_⟩
      · rw [List.length_map]; exact small1000 (by omega)
      refine ⟨_, rfl, (p4.upd nLp.symm).upd nFp.symm, ?_, ls.eraseIdx j, fs ++ [ls[j]], ?_, ?_, ?_, ?_⟩
      · intro b o nb e
        have z := b4 _ _ nb (b3 _ _ nb e)
        have z1 : b ≠ F0 := ne_of_none e nFH
        have z2 : b ≠ L := ne_of_none e nL
        rw [upd_ne z1, upd_ne z2]
        exact z
      · rw [upd_ne nFL, upd_same, eraseIdx_map]
      · rw [upd_same, List.map_append]; rfl
      · rw [List.length_append]; show fs.length + 1 = i + 1; omega
      · rw [List.append_assoc]
        exact (List.Perm.append_left fs (pick_perm ls j hj)).trans pm
    · rintro σ H3 ⟨v4, rfl, p3, b3, ls, fs, hL3, hF3, l2, pm⟩
      rw [Int.toNat_natCast, List.length_map] at l2
      have l0 : ls = [] := List.eq_nil_of_length_eq_zero (by have := pm.length_eq; rw [List.length_append] at this; omega)
      rw [l0, List.append_nil] at pm
      exact ⟨.ref F0, rfl, q _ _ fs p3 b3 nFH hF3 pm⟩
end
end Sg
set_option Elab.async false
set_option linter.all false
set_option maxRecDepth 100000
set_option maxHeartbeats 4000000
namespace Sg
open PySem PySem.Spec PyProof.Rows L2 StX
def rho0 (a b : Int) (x : Str) : Option PyData := if x = "_law_a" then some (.int a) else if x = "_law_b" then some (.int b) else none
def rho1 (a b : Int) (x : Str) : Option PyData := if x = "_law_a" then some (.int a) else if x = "_law_b" then some (.int b) else if x = "_law_long" then some (tD (longL a)) else if x = "_law_two" then some (tD (twoL a b)) else none
def Sr0 (a b : Int) (σ : L2.St) (_ : Hp) : Prop := σ[0]? = some (some (.int a)) ∧ σ[1]? = some (some (.int b))
def Sr1 (a b : Int) (σ : L2.St) (H : Hp) : Prop := σ[0]? = some (some (.int a)) ∧ σ[1]? = some (some (.int b)) ∧ (∃ v, σ[2]? = some (some v) ∧ Fd H v (tD (longL a))) ∧ ∃ v, σ[3]? = some (some v) ∧ Fd H v (tD (twoL a b))
theorem sr0_st (a b : Int) : ∀ σ H H', Same H H' → Sr0 a b σ H → Sr0 a b σ H' := fun _ _ _ _ h => h
theorem sr1_st (a b : Int) : ∀ σ H H', Same H H' → Sr1 a b σ H → Sr1 a b σ H' := fun σ H H' e h => by
  obtain ⟨h1, h2, ⟨v, h3, h4⟩, u, h5, h6⟩ := h
  exact ⟨h1, h2, ⟨v, h3, h4.same e⟩, u, h5, h6.same e⟩
/-- a list of data, as it stands -/
theorem Fd.lstOf {H : Hp} {v : V} {ds : List PyData} (h : Fd H v (.list ds)) : ∃ l xs, v = .ref l ∧ H l = some (.lst xs) ∧ FdAll H xs ds := by
  cases h with
  | lst h r => exact ⟨_, _, rfl, h, r⟩
theorem Fd.tupOf {H : Hp} {v : V} {ds : List PyData} (h : Fd H v (.tuple ds)) : ∃ l xs, v = .ref l ∧ FrzT H l xs ∧ FdAll H xs ds := by
  cases h with
  | tup h r => exact ⟨_, _, rfl, h, r⟩
section
variable {P : Program} {w : World} {K : PySem.W.Frag} {mg : Str → Option Value} {base : Heap}
/-! ### _law_rows -/
def spRows : Sp := fun vs H Q _ => ∃ a b : Int, vs = [.int a, .int b] ∧ ∀ H' l us, Same H H' → H l = none → H' l = some (.lst us) → FdAll H' us ((rowsL a b).map rwD) → Q (.ref l) H'
theorem ok_l_rows {f : Addr} {fd : FuncData} {k : Nat} (F : Fun K "_law_rows" "_law_rows" s_l_rows f fd) : FnOk P w K mg base CX0 (k + 1) f fd ["_law_a", "_law_b"] spRows := by
  refine F.ok sc_l_rows (fun vs H Q E h => ?_) (fun cdv A outer s H vs Q E hr h => ?_)
  · obtain ⟨a, b, rfl, _⟩ := h; rfl
  · obtain ⟨a, b, rfl, q⟩ := h
    let X0 : Cx := (cxOf CX0 P w K mg base ["_law_a", "_law_b", "_law_long", "_law_two", "_law_found"] "_law_rows" (defScope s_l_rows) f cdv A outer s H E).nox
    have n0 : ∀ (x : Str) (p : Pos) (d : PyData), rho0 a b x = some d → PE X0 (.Name x p) (tFd (Sr0 a b) d) := by
      intro x p d h
      unfold rho0 at h
      split at h
      · rename_i e; subst e; cases h
        exact PE.imp (pv 0) fun σ H Q q => ⟨.int a, q.1.1, q.2 H _ (same_refl H) (.int a)⟩
      split at h
      · rename_i e; subst e; cases h
        exact PE.imp (pv 1) fun σ H Q q => ⟨.int b, q.1.2, q.2 H _ (same_refl H) (.int b)⟩
      · exact nomatch h
    have n1 : ∀ (x : Str) (p : Pos) (d : PyData), rho1 a b x = some d → PE X0 (.Name x p) (tFd (Sr1 a b) d) := by
      intro x p d h
      unfold rho1 at h
      split at h
      · rename_i e; subst e; cases h
        exact PE.imp (pv 0) fun σ H Q q => ⟨.int a, q.1.1, q.2 H _ (same_refl H) (.int a)⟩
      split at h
      · rename_i e; subst e; cases h
        exact PE.imp (pv 1) fun σ H Q q => ⟨.int b, q.1.2.1, q.2 H _ (same_refl H) (.int b)⟩
      split at h
      · rename_i e; subst e; cases h
        exact PE.imp (pv 2) fun σ H Q q => by
          obtain ⟨v, h1, h2⟩ := q.1.2.2.1
          exact ⟨v, h1, q.2 H _ (same_refl H) h2⟩
      split at h
      · rename_i e; subst e; cases h
        exact PE.imp (pv 3) fun σ H Q q => by
          obtain ⟨v, h1, h2⟩ := q.1.2.2.2
          exact ⟨v, h1, q.2 H _ (same_refl H) h2⟩
      · exact nomatch h
    have E0 := fun (e : Expr) (d : PyData) (h : evE (rho0 a b) 12 e = some d) => evE_ok (X := X0) (sr0_st a b) n0 12 e d h
    have E1 := fun (e : Expr) (d : PyData) (h : evE (rho1 a b) 12 e = some d) => evE_ok (X := X0) (sr1_st a b) n1 12 e d h
    refine ⟨_, pss_cons (ps_par (i := 2) (j := 3) (by rfl) sc_l_rows.nd rfl rfl (by decide) rfl rfl (pa_cons (E0 _ (tD (longL a)) (by kernel_rfl)) (pa_cons (E0 _ (tD (twoL a b)) (by kernel_rfl)) pa_nil)) (by rfl))
      (pss_cons (ps_set (i := 4) sc_l_rows.nd rfl (by first | exact .inl rfl | exact .inr rfl) (E1 _ (.list ((rows1 a b).map rwD)) (by kernel_rfl)))
      (pss_cons (ps_set (i := 4) sc_l_rows.nd rfl (by first | exact .inl rfl | exact .inr rfl) (pe_op op_cat (pv 4) (E1 _ (.list ((rows2 a b).map rwD)) (by kernel_rfl))))
      (pss_cons (ps_set (i := 4) sc_l_rows.nd rfl (by first | exact .inl rfl | exact .inr rfl) (pe_op op_cat (pv 4) (E1 _ (.list ((rows3 a b).map rwD)) (by kernel_rfl))))
      (pss_cons (ps_set (i := 4) sc_l_rows.nd rfl (by first | exact .inl rfl | exact .inr rfl) (pe_op op_cat (pv 4) (E1 _ (.list ((rows4 a b).map rwD)) (by kernel_rfl))))
      (pss_cons (ps_set (i := 4) sc_l_rows.nd rfl (by first | exact .inl rfl | exact .inr rfl) (pe_op op_cat (pv 4) (E1 _ (.list ((rows5 a b).map rwD)) (by kernel_rfl))))
      (pss_one (ps_ret (pe_op op_cat (pv 4) (E1 _ (.list ((rows6 a b).map rwD)) (by kernel_rfl)))))))))), ?_⟩
    have big : 1000 ≤ sizeLine := by rw [sizeLine_eq]; decide
    refine ⟨⟨rfl, rfl⟩, fun H1 v1 e1 h1 => ⟨⟨rfl, rfl⟩, fun H2 v2 e2 h2 => ⟨_, _, rfl, ?_⟩⟩⟩
    have h1' := h1.same e2
    refine ⟨⟨rfl, rfl, ⟨v1, rfl, h1'⟩, v2, rfl, h2⟩, fun H3 v3 e3 h3 => ?_⟩
    have e13 := e1.trans (e2.trans e3)
    -- a list so far, the next rows behind it
    have step : ∀ (σ : L2.St) (Ha : Hp) (l : Addr) (xs : List V) (ds es : List PyData) (Q' : VK), Same H Ha → Ha l = some (.lst xs) → FdAll Ha xs ds → xs.length ≤ 100 → es.length ≤ 100 → Sr1 a b σ Ha → Fd Ha v1 (tD (longL a)) → Fd Ha v2 (tD (twoL a b)) →
        (∀ Hb l' xs', Same H Hb → H l' = none → Hb l' = some (.lst xs') → FdAll Hb xs' (ds ++ es) → Fd Hb v1 (tD (longL a)) → Fd Hb v2 (tD (twoL a b)) → Q' (.ref l') Hb) →
        tFd (Sr1 a b) (.list es) σ Ha fun y Hy => rCat (.ref l) y Hy Q' := by
      intro σ Ha l xs ds es Q' eA hl hx lx le hS f1 f2 q'
      refine ⟨hS, fun Hb y eB hy => ?_⟩
      obtain ⟨l2, ys, rfl, hl2, hys⟩ := hy.lstOf
      have lys := hys.len
      refine ⟨l, l2, xs, ys, rfl, rfl, eB _ _ hl, hl2, by omega, fun p np => ?_⟩
      have eC := same_new (o := .lst (xs ++ ys)) np
      exact q' _ p _ (eA.trans (eB.trans eC)) (freeS (eA.trans eB) np) upd_same ((hx.same (eB.trans eC)).app (hys.same eC)) (f1.same (eB.trans eC)) (f2.same (eB.trans eC))
    obtain ⟨l3, x3, rfl, hl3, hx3⟩ := h3.lstOf
    have l3' := hx3.len
    refine ⟨_, rfl, step _ _ l3 x3 _ _ _ e13 hl3 hx3 (by rw [l3']; exact (by decide : (3 + 2 + 2 + 2 + 2 : Nat) ≤ 100) |> Nat.le_trans (by simp [rows1, rows2, rows3, rows4, rows5])) (by simp [rows2, rows3, rows4, rows5, rows6]) ⟨rfl, rfl, ⟨v1, rfl, h1'.same e3⟩, v2, rfl, h2.same e3⟩ (h1'.same e3) (h2.same e3) fun H4 l4 x4 e4 _ hl4 hx4 f1 f2 => ?_⟩
    have l4' := hx4.len
    refine ⟨_, rfl, step _ _ l4 x4 _ _ _ e4 hl4 hx4 (by rw [l4']; exact (by decide : (3 + 2 + 2 + 2 + 2 : Nat) ≤ 100) |> Nat.le_trans (by simp [rows1, rows2, rows3, rows4, rows5])) (by simp [rows2, rows3, rows4, rows5, rows6]) ⟨rfl, rfl, ⟨v1, rfl, f1⟩, v2, rfl, f2⟩ f1 f2 fun H5 l5 x5 e5 _ hl5 hx5 f1 f2 => ?_⟩
    have l5' := hx5.len
    refine ⟨_, rfl, step _ _ l5 x5 _ _ _ e5 hl5 hx5 (by rw [l5']; exact (by decide : (3 + 2 + 2 + 2 + 2 : Nat) ≤ 100) |> Nat.le_trans (by simp [rows1, rows2, rows3, rows4, rows5])) (by simp [rows2, rows3, rows4, rows5, rows6]) ⟨rfl, rfl, ⟨v1, rfl, f1⟩, v2, rfl, f2⟩ f1 f2 fun H6 l6 x6 e6 _ hl6 hx6 f1 f2 => ?_⟩
    have l6' := hx6.len
    refine ⟨_, rfl, step _ _ l6 x6 _ _ _ e6 hl6 hx6 (by rw [l6']; exact (by decide : (3 + 2 + 2 + 2 + 2 : Nat) ≤ 100) |> Nat.le_trans (by simp [rows1, rows2, rows3, rows4, rows5])) (by simp [rows2, rows3, rows4, rows5, rows6]) ⟨rfl, rfl, ⟨v1, rfl, f1⟩, v2, rfl, f2⟩ f1 f2 fun H7 l7 x7 e7 _ hl7 hx7 f1 f2 => ?_⟩
    have l7' := hx7.len
    refine ⟨_, rfl, step _ _ l7 x7 _ _ _ e7 hl7 hx7 (by rw [l7']; exact (by decide : (3 + 2 + 2 + 2 + 2 : Nat) ≤ 100) |> Nat.le_trans (by simp [rows1, rows2, rows3, rows4, rows5])) (by simp [rows2, rows3, rows4, rows5, rows6]) ⟨rfl, rfl, ⟨v1, rfl, f1⟩, v2, rfl, f2⟩ f1 f2 fun H8 l8 x8 e8 n8 hl8 hx8 f1 f2 => ?_⟩
    refine q H8 l8 x8 e8 n8 hl8 ?_
    have : (rowsL a b).map rwD = (rows1 a b).map rwD ++ (rows2 a b).map rwD ++ (rows3 a b).map rwD ++ (rows4 a b).map rwD ++ (rows5 a b).map rwD ++ (rows6 a b).map rwD := by
      unfold rowsL
      simp only [List.map_append]
    rw [this]
    exact hx8
end
end Sg
set_option Elab.async false
set_option linter.all false
set_option maxRecDepth 100000
set_option maxHeartbeats 4000000
namespace Sg
open PySem PySem.Spec PyProof.Rows L2 StX
def lawN : List Str := ["_law_script", "_law_k", "_law_pen_here", "_law_a", "_law_b", "_law_items", "_law_distance", "_law_waits", "_law_pairs", "_law_told", "_law_some", "_law_shown"]
def Sl (a b : Int) (σ : L2.St) (_ : Hp) : Prop := σ[3]? = some (some (.int a)) ∧ σ[4]? = some (some (.int b))
theorem sl_st (a b : Int) : ∀ σ H H', Same H H' → Sl a b σ H → Sl a b σ H' := fun _ _ _ _ h => h
def someD : List PyData := [tD [0, 0], tD [1, 0], tD [0, 1], tD [1, 1], tD [2, 1], tD [11, 11], tD [0, 1, 0], .list [.int 0, .int 1], .tuple [.bool true, .int 0], tD [12, 1]]
def shownB : List Bool := [false, true, true, false, true, false, false, false, false, false]
def boolsD (bs : List Bool) : PyData := .list (bs.map PyData.bool)
def toldD (a b : Int) : List PyData := [tD [a, -1, -1, b, a], tD [a, -1, -1, a], tD [a]]
def prsFew (x : Int) (rs : List Int) (d : Nat) (dd : PyData) : Bool := !isWaitsB (x :: rs).length dd || decide ((prs (putN x (intsOf dd) rs (intsOf dd).length) (d : Nat) (putN x (intsOf dd) rs (intsOf dd).length).length).length < 64)
/-- what else the law says of a and b -/
def lawB (a b : Int) : Bool :=
  workB [a, b, a] && workB [a, -1, a] && workB [a] && workB [a, b] &&
  someD.all (fun dd => decide (lenT dd ≤ 900) && prsFew a [-1, a] 2 dd) && decide (someD.map (showsB a [-1, a] 2) = shownB) &&
  prsFew a [b, a] 1 (tD [0, 0]) && prsFew a [b] 1 (tD [5]) && decide (showsB a [b, a] 1 (tD [0, 0]) = false) && decide (showsB a [b] 1 (tD [5]) = true) &&
  decide (putN a [2, 0] [b, a] 2 = [a, -1, -1, b, a]) && decide (putN a [0, 1] [-1, a] 2 = [a, -1, -1, a]) && decide (putN a [] [] 0 = [a]) && showsOk (.list (toldD a b))
theorem lawB_all : (tenL.all fun a => tenL.all fun b => decide (a = b) || lawB a b) = true := by decide +kernel
theorem lawB_of {a b : Int} (ha : a ∈ tenL) (hb : b ∈ tenL) (ne : a ≠ b) : lawB a b = true := by
  have h2 := List.all_eq_true.mp (List.all_eq_true.mp lawB_all a ha) b hb
  rw [decide_eq_false ne, Bool.false_or] at h2
  exact h2
theorem prsFew_is {x : Int} {rs : List Int} {d : Nat} {dd : PyData} (h : prsFew x rs d dd = true) (g : isWaitsB (x :: rs).length dd = true) : (prs (putN x (intsOf dd) rs (intsOf dd).length) (d : Nat) (putN x (intsOf dd) rs (intsOf dd).length).length).length < 64 := by
  unfold prsFew at h
  rw [g] at h
  simpa using h
theorem shownB_ok : showsOk (boolsD shownB) = true := by decide +kernel
theorem pairB_ok : showsOk (boolsD [false, true]) = true := by decide +kernel
theorem dp_bools {K : PySem.W.Frag} {H : Hp} : ∀ bs : List Bool, DpAll K H (bs.map V.bl) (bs.map PyData.bool)
  | [] => .nil
  | b :: bs => .cons (.bl b) (dp_bools bs)
theorem fdAll4 {H : Hp} {ys : List V} {d1 d2 d3 d4 : PyData} (h : FdAll H ys [d1, d2, d3, d4]) : ∃ v1 v2 v3 v4, ys = [v1, v2, v3, v4] ∧ Fd H v1 d1 ∧ Fd H v2 d2 ∧ Fd H v3 d3 ∧ Fd H v4 d4 := by
  cases h with
  | cons h1 h => cases h with
    | cons h2 h => cases h with
      | cons h3 h => cases h with
        | cons h4 h => cases h with
          | nil => exact ⟨_, _, _, _, rfl, h1, h2, h3, h4⟩
theorem two_of {ms : List Int} (h : List.Perm ms tenL) : ∃ a b, ms.take 2 = [a, b] ∧ a ∈ tenL ∧ b ∈ tenL ∧ a ≠ b := by
  have hl : ms.length = 10 := h.length_eq
  have hn : ms.Nodup := h.nodup_iff.mpr (by decide)
  match ms, hl, hn, h with
  | a :: b :: r, _, hn, h =>
    refine ⟨a, b, rfl, h.mem_iff.mp List.mem_cons_self, h.mem_iff.mp (List.mem_cons_of_mem _ List.mem_cons_self), fun e => ?_⟩
    exact (List.nodup_cons.mp hn).1 (by rw [e]; exact List.mem_cons_self)
structure RwIs (x : Rw) : Prop where
  work : IsWork x.items
  len : x.items.length ≤ 12
  d1 : 1 ≤ x.d
  d2 : x.d ≤ 12
  run : leastW x.items x.d fuelW = some x.r
  sh : Shows (.list [optD x.r, .tuple (plsD x.ps)])
theorem rwOk_is {x : Rw} (h : rwOk x = true) : RwIs x := by
  unfold rwOk at h
  simp only [Bool.and_eq_true, decide_eq_true_eq] at h
  obtain ⟨⟨⟨⟨⟨h1, h2⟩, h3⟩, h4⟩, h5⟩, h6⟩ := h
  exact ⟨workB_is h1, h2, h3, h4, h5, showsOk_is h6⟩
structure TrIs (ns : List Int) (lo hi : Nat) (ps : List Plc) : Prop where
  mem : (lo : Int) ∈ cnts ns
  most : ∀ y ∈ cnts ns, y ≤ (lo : Int)
  head : (constTo ns ns.length)[0]? = some (hi : Int)
  l1 : 1 ≤ lo
  l12 : lo ≤ 12
  h12 : hi ≤ 12
  len : ps.length = hi + 1 - lo
  rows : ∀ i, i < hi + 1 - lo → ∃ ws, leastW ns (lo + i) fuelW = some (some ws) ∧ ps[i]? = some (((lo + i : Nat) : Int), ws.sum)
theorem tradeOk_is {p : List Int × List Plc} (h : tradeOk p = true) : TrIs p.1 (loOf p.2) (hiOf p.2) p.2 := by
  unfold tradeOk tradeB at h
  simp only [Bool.and_eq_true, decide_eq_true_eq] at h
  obtain ⟨⟨⟨⟨⟨⟨⟨h1, h2⟩, h3⟩, h4⟩, h5⟩, h6⟩, h7⟩, h8⟩ := h
  refine ⟨h1, fun y hy => of_decide_eq_true (List.all_eq_true.mp h2 y hy), h3, h4, h5, h6, h7, fun i hi => ?_⟩
  have := List.all_eq_true.mp h8 i (List.mem_range.mpr hi)
  split at this
  · rename_i ws e
    exact ⟨ws, e, of_decide_eq_true this⟩
  · exact nomatch this
section
variable {P : Program} {w : World} {K : PySem.W.Frag} {mg : Str → Option Value} {base : Heap}
def spLaw (K : PySem.W.Frag) : Sp := fun vs H Q _ => ∃ (a : Addr) (ns : List Int), vs = [.ref a] ∧ SqL K H a (ns.map V.int) ∧ ns.length ≤ 63 ∧ ∀ H', Q (.bl true) H'
theorem ok_law {f f1 f2 f3 f4 f5 f6 f7 f8 fs : Addr} {fd fd1 fd2 fd3 fd4 fd5 fd6 fd7 fd8 fds : FuncData} {k : Nat} (F : Fun K "law" "law" s_law f fd)
    (G1 : FnOk P w K mg base CX0 k f1 fd1 ["_law_script", "_law_k"] (spCell K)) (kp1 : PySem.W.keepIn K (.ref f1) = true) (b1 : Binds K fd1 ["_law_script", "_law_k"] []) (g1 : mg "_law_cell" = some (.ref f1))
    (G2 : FnOk P w K mg base CX0 k f2 fd2 ["_law_cell_here"] spPen) (kp2 : PySem.W.keepIn K (.ref f2) = true) (b2 : Binds K fd2 ["_law_cell_here"] []) (g2 : mg "_law_pen" = some (.ref f2))
    (G3 : FnOk P w K mg base CX0 k f3 fd3 ["_law_pen_here", "_law_values"] (spMixed K)) (kp3 : PySem.W.keepIn K (.ref f3) = true) (b3 : Binds K fd3 ["_law_pen_here", "_law_values"] []) (g3 : mg "_law_mixed" = some (.ref f3))
    (G4 : FnOk P w K mg base CX0 k f4 fd4 ["_law_a", "_law_b"] spRows) (kp4 : PySem.W.keepIn K (.ref f4) = true) (b4 : Binds K fd4 ["_law_a", "_law_b"] []) (g4 : mg "_law_rows" = some (.ref f4))
    (G5 : FnOk P w K mg base CX0 k f5 fd5 ["work", "distance"] (spStretch K)) (kp5 : PySem.W.keepIn K (.ref f5) = true) (b5 : Binds K fd5 ["work", "distance"] []) (g5 : mg "stretch" = some (.ref f5))
    (G6 : FnOk P w K mg base CX0 k f6 fd6 ["work"] (spTrade K)) (kp6 : PySem.W.keepIn K (.ref f6) = true) (b6 : Binds K fd6 ["work"] []) (g6 : mg "trade" = some (.ref f6))
    (G7 : FnOk P w K mg base CX0 k f7 fd7 ["work", "waits"] (spStretched K)) (kp7 : PySem.W.keepIn K (.ref f7) = true) (b7 : Binds K fd7 ["work", "waits"] []) (g7 : mg "stretched" = some (.ref f7))
    (G8 : FnOk P w K mg base CX0 k f8 fd8 ["work", "distance", "thing"] (spShows K)) (kp8 : PySem.W.keepIn K (.ref f8) = true) (b8 : Binds K fd8 ["work", "distance", "thing"] []) (g8 : mg "shows_stretch" = some (.ref f8))
    (Gs : FnG P w K mg base k fs fds ["_law_actual", "_law_due"] (spSame K)) (kps : PySem.W.keepIn K (.ref fs) = true) (bs : Binds K fds ["_law_actual", "_law_due"] []) (gs : mg "_law_same" = some (.ref fs))
    (m1 : mg "len" = none) (m2 : mg "range" = none) (m5 : mg "max" = none) (m6 : mg "min" = none) : FnG P w K mg base (k + 1) f fd ["_law_script"] (spLaw K) := by
  refine fnG_mk F sc_law (fun vs H Q h => ?_) (fun cdv A outer s H vs Q hgd hr h => ?_)
  · obtain ⟨a, ns, rfl, _⟩ := h; rfl
  · obtain ⟨sa, ns, rfl, hS, hlen, q⟩ := h
    let X0 : Cx := (cxOf CX0 P w K mg base ["_law_script", "_law_k", "_law_pen_here", "_law_a", "_law_b", "_law_items", "_law_distance", "_law_waits", "_law_pairs", "_law_told", "_law_some", "_law_shown"] "law" (defScope s_law) f cdv A outer s H E0).nox
    have n0 : ∀ (a b : Int) (x : Str) (p : Pos) (d : PyData), rho0 a b x = some d → PE X0 (.Name x p) (tFd (Sl a b) d) := by
      intro a b x p d h
      unfold rho0 at h
      split at h
      · rename_i e; subst e; cases h
        exact PE.imp (pv 3) fun σ H Q q => ⟨.int a, q.1.1, q.2 H _ (same_refl H) (.int a)⟩
      split at h
      · rename_i e; subst e; cases h
        exact PE.imp (pv 4) fun σ H Q q => ⟨.int b, q.1.2, q.2 H _ (same_refl H) (.int b)⟩
      · exact nomatch h
    have E0 := fun (e : Expr) (D : Int → Int → PyData) (h : ∀ a b, evE (rho0 a b) 12 e = some (D a b)) => (⟨fun pins s σ H Q I q => by
      obtain ⟨a, b, q⟩ := q
      exact (evE_ok (X := X0) (sl_st a b) (n0 a b) 12 e (D a b) (h a b)).run pins s σ H Q I q⟩ : PE X0 e (fun σ H Q => ∃ a b, tFd (Sl a b) (D a b) σ H Q))
    refine ⟨_, (pss_cons (ps_for PassesOwn.never rfl (pi_range1 (by rfl) m2 (pa_cons (pe_callB (call_max2 rfl) (by rfl) m5 (by decide +kernel) (pa_cons pe_int (pa_cons (pe_callB (call_min2 rfl) (by rfl) m6 (by decide +kernel) (pa_cons (pe_callB call_len_seq (by rfl) m1 PySem.boot_len (pa_cons (pv 0) pa_nil)) (pa_cons pe_int pa_nil))) pa_nil))) pa_nil)) (pg_name (i := 1) sc_law.nd rfl (by first | exact .inl rfl | exact .inr rfl))
          (pss_cons (ps_set (i := 2) sc_law.nd rfl (by first | exact .inl rfl | exact .inr rfl) (pe_call G2 hr (by rfl) g2 kp2 b2 .nil pass0 (pa_cons (pe_call G1 hr (by rfl) g1 kp1 b1 .nil pass0 (pa_cons (pv 0) (pa_cons (pv 1) pa_nil))) pa_nil)))
          (pss_cons (ps_asg (pe_slice sl_list (pe_call G3 hr (by rfl) g3 kp3 b3 .nil pass0 (pa_cons (pv 2) (pa_cons (pe_lst (pa_cons pe_int (pa_cons pe_int (pa_cons pe_int (pa_cons pe_int (pa_cons pe_int (pa_cons pe_int (pa_cons pe_int (pa_cons pe_int (pa_cons pe_int (pa_cons pe_int pa_nil))))))))))) pa_nil))) po_none (po_some pe_int))
              (pg_unl rfl (pgs_cons (pg_name (i := 3) sc_law.nd rfl (by first | exact .inl rfl | exact .inr rfl)) (pgs_cons (pg_name (i := 4) sc_law.nd rfl (by first | exact .inl rfl | exact .inr rfl)) pgs_nil))))
          (pss_cons (ps_for PassesOwn.never rfl (pi_list (pe_call G4 hr (by rfl) g4 kp4 b4 .nil pass0 (pa_cons (pv 3) (pa_cons (pv 4) pa_nil))))
              (pg_tup rfl (pgs_cons (pg_name (i := 5) sc_law.nd rfl (by first | exact .inl rfl | exact .inr rfl)) (pgs_cons (pg_name (i := 6) sc_law.nd rfl (by first | exact .inl rfl | exact .inr rfl)) (pgs_cons (pg_name (i := 7) sc_law.nd rfl (by first | exact .inl rfl | exact .inr rfl)) (pgs_cons (pg_name (i := 8) sc_law.nd rfl (by first | exact .inl rfl | exact .inr rfl)) pgs_nil)))))
            (pss_one (ps_if (pt_not (pt_val (pe_callG Gs hgd hr (by rfl) gs kps bs (pa_cons (pe_lst (pa_cons (pe_call G5 hr (by rfl) g5 kp5 b5 .nil pass0 (pa_cons (pv 5) (pa_cons (pv 6) pa_nil))) (pa_cons (pe_call G6 hr (by rfl) g6 kp6 b6 .nil pass0 (pa_cons (pv 5) pa_nil)) pa_nil)))
                (pa_cons (pe_lst (pa_cons (pv 7) (pa_cons (pv 8) pa_nil))) pa_nil))))) (pss_one (ps_ret pe_bl)) pss_nil)))
          (pss_cons (ps_set (i := 9) sc_law.nd rfl (by first | exact .inl rfl | exact .inr rfl) (pe_lst (pa_cons (pe_call G7 hr (by rfl) g7 kp7 b7 .nil pass0 (pa_cons (E0 _ (fun a b => tD [a, b, a]) (fun a b => by kernel_rfl)) (pa_cons (E0 _ (fun a b => tD [2, 0]) (fun a b => by kernel_rfl)) pa_nil)))
              (pa_cons (pe_call G7 hr (by rfl) g7 kp7 b7 .nil pass0 (pa_cons (E0 _ (fun a b => tD [a, -1, a]) (fun a b => by kernel_rfl)) (pa_cons (E0 _ (fun a b => tD [0, 1]) (fun a b => by kernel_rfl)) pa_nil)))
              (pa_cons (pe_call G7 hr (by rfl) g7 kp7 b7 .nil pass0 (pa_cons (E0 _ (fun a b => tD [a]) (fun a b => by kernel_rfl)) (pa_cons (E0 _ (fun a b => tD []) (fun a b => by kernel_rfl)) pa_nil))) pa_nil)))))
          (pss_cons (ps_if (pt_not (pt_val (pe_callG Gs hgd hr (by rfl) gs kps bs (pa_cons (pv 9) (pa_cons (E0 _ (fun a b => .list (toldD a b)) (fun a b => by kernel_rfl)) pa_nil))))) (pss_one (ps_ret pe_bl)) pss_nil)
          (pss_cons (ps_set (i := 10) sc_law.nd rfl (by first | exact .inl rfl | exact .inr rfl) (E0 _ (fun a b => .list someD) (fun a b => by kernel_rfl)))
          (pss_cons (ps_setLc (i := 11) (own := [("_law_waits", 7)]) (g := gName 7) (tt := tYes) rfl sc_law.nd rfl rfl (sw_true rfl rfl rfl (by decide +kernel)) (pi_list (pv 10)) (blkOk_by (N := lawN) (sc := defScope s_law) (by decide +kernel))
              (fun _ _ _ _ _ => pg_name (i := 7) sc_law.nd rfl (Or.inl rfl)) (fun _ _ _ _ _ => pts_nil)
              (fun _ _ _ _ _ => pe_call G8 hr (by rfl) g8 kp8 b8 .nil pass0 (pa_cons (pe_tup (pa_cons (pv 3) (pa_cons (pe_un un_neg pe_int) (pa_cons (pv 3) pa_nil)))) (pa_cons pe_int (pa_cons (pv 7) pa_nil)))))
          (pss_cons (ps_if (pt_not (pt_val (pe_callG Gs hgd hr (by rfl) gs kps bs (pa_cons (pv 11) (pa_cons (E0 _ (fun a b => boolsD shownB) (fun a b => by kernel_rfl)) pa_nil))))) (pss_one (ps_ret pe_bl)) pss_nil)
          (pss_one (ps_if (pt_not (pt_val (pe_callG Gs hgd hr (by rfl) gs kps bs (pa_cons (pe_lst (pa_cons (pe_call G8 hr (by rfl) g8 kp8 b8 .nil pass0 (pa_cons (E0 _ (fun a b => tD [a, b, a]) (fun a b => by kernel_rfl)) (pa_cons pe_int (pa_cons (E0 _ (fun a b => tD [0, 0]) (fun a b => by kernel_rfl)) pa_nil))))
              (pa_cons (pe_call G8 hr (by rfl) g8 kp8 b8 .nil pass0 (pa_cons (E0 _ (fun a b => tD [a, b]) (fun a b => by kernel_rfl)) (pa_cons pe_int (pa_cons (E0 _ (fun a b => tD [5]) (fun a b => by kernel_rfl)) pa_nil)))) pa_nil)))
              (pa_cons (E0 _ (fun a b => boolsD [false, true]) (fun a b => by kernel_rfl)) pa_nil))))) (pss_one (ps_ret pe_bl)) pss_nil)))))))))))
        (pss_one (ps_ret pe_bl))), ?_⟩
    have big : 1000 ≤ sizeLine := by rw [sizeLine_eq]; decide
    have l63 : ((ns.map V.int).length : Int) ≤ 63 := by rw [List.length_map]; omega
    refine ⟨.ref sa, rfl, sa, _, rfl, .inl hS, _, 4, rfl, 1, _, rfl, ?_⟩
    obtain ⟨N, hN, hN0, hN4⟩ : ∃ N : Int, (if (if (4 : Int) < ((ns.map V.int).length : Nat) then (4 : Int) else ((ns.map V.int).length : Nat)) > 1 then (if (4 : Int) < ((ns.map V.int).length : Nat) then (4 : Int) else ((ns.map V.int).length : Nat)) else 1) = N ∧ 0 ≤ N ∧ N ≤ 4 := by
      refine ⟨_, rfl, ?_, ?_⟩
      · split <;> split <;> omega
      · split <;> split <;> omega
    rw [hN]
    refine ⟨N, rfl, by omega, by omega, ?_⟩
    refine for_range (lo := 0) (n := N.toNat) (fun i σ H' => ∃ v1 v2 v3 v4 v5 v6 v7 v8 v9 v10 v11, σ = [some (.ref sa), v1, v2, v3, v4, v5, v6, v7, v8, v9, v10, v11] ∧ Same H H') ⟨_, _, _, _, _, _, _, _, _, _, _, rfl, fun _ _ z => z⟩ ?_ ?_
    rotate_left
    · rintro σ H' ⟨_, _, _, _, _, _, _, _, _, _, _, rfl, _⟩
      exact q H'
    rintro i σ H1 hi ⟨v1, v2, v3, v4, v5, v6, v7, v8, v9, v10, v11, rfl, e1⟩
    refine ⟨.ref sa, rfl, .int (0 + i), rfl, sa, ns, i, by rw [Int.zero_add]; rfl, e1.seq hS, fun cell => ?_⟩
    refine ⟨cell, rfl, fun H2 p np s2 p2 => ?_⟩
    have npH : H p = none := freeS e1 np
    refine ⟨.ref p, rfl, by show 10 ≤ sizeLine; omega, fun L nL => ⟨p, L, tenL, rfl, p2.new nL, (p2.ne nL).symm, upd_same, by decide, fun H3 M ms p3 b3 nM hM pm => ?_⟩⟩
    obtain ⟨a, b, hab, ha, hb, nab⟩ := two_of pm
    have e3 : Same H H3 := fun b o z => b3 b o (ne_of_none z npH) (same_new nL b o (s2 b o (e1 b o z)))
    refine ⟨2, rfl, M, _, rfl, .of hM, fun N' nN' => ?_⟩
    rw [show (2 : Int) = ((2 : Nat) : Int) from rfl, cut_to, ← List.map_take, hab]
    have e4 : Same H (upd H3 N' (.lst [V.int a, .int b])) := e3.trans (same_new nN')
    have hN4 : (upd H3 N' (.lst [V.int a, .int b])) N' = some (.lst [V.int a, .int b]) := upd_same
    show gUnl _ _ _ _ _ (upd H3 N' (.lst [V.int a, .int b])) _
    generalize upd H3 N' (.lst [V.int a, .int b]) = H4 at e4 hN4 ⊢
    refine ⟨N', _, rfl, .of hN4, rfl, _, _, rfl, _, _, rfl, rfl, ?_⟩
    have hlb := lawB_of ha hb nab
    have hrw := rows_ok ha hb nab
    refine ⟨.int a, rfl, .int b, rfl, a, b, rfl, fun H5 l us e5 nl hl hF => ⟨l, rfl, ⟨_, .of hl⟩, ?_⟩⟩
    have e05 := e4.trans e5
    refine for_list (xs := us) (fun j σ H' => ∃ v5 v6 v7 v8, σ = [some (.ref sa), some (.int (0 + i)), some (.ref p), some (.int a), some (.int b), v5, v6, v7, v8, v9, v10, v11] ∧ Same H5 H')
      ⟨_, _, _, _, rfl, fun _ _ z => z⟩ (fun j σ H' _ h => ?_) (fun j x σ H' hx h => ?_) (fun σ H' h => ?_)
    · obtain ⟨_, _, _, _, _, e⟩ := h
      exact .of (e _ _ hl)
    · obtain ⟨v5, v6, v7, v8, rfl, e6⟩ := h
      obtain ⟨dd, hdd, hv⟩ := hF.at hx
      rw [List.getElem?_map] at hdd
      obtain ⟨x0, hx0, rfl⟩ := Option.map_eq_some_iff.mp hdd
      obtain ⟨r1, r2⟩ := hrw x0 (List.mem_of_getElem? hx0)
      have R := rwOk_is r1
      have T := tradeOk_is r2
      dsimp only at T
      obtain ⟨t, ys, rfl, ht, hys⟩ := (hv.same e6).tupOf
      obtain ⟨u1, u2, u3, u4, rfl, f1, f2, f3, f4⟩ := fdAll4 hys
      obtain ⟨ia, rfl, hia⟩ := f1.ints
      cases f2
      refine ⟨t, _, rfl, ht.sq, rfl, _, _, rfl, _, _, rfl, _, _, rfl, _, _, rfl, rfl, ?_⟩
      refine ⟨.ref ia, rfl, .int (x0.d : Nat), rfl, ia, x0.items, x0.d, fuelW, x0.r, rfl, hia.sq, R.work, R.len, R.d1, R.d2, by unfold fuelW; omega, R.run, fun H7 w7 e7 hw7 => ?_⟩
      refine ⟨.ref ia, rfl, ia, x0.items, loOf x0.ps, hiOf x0.ps, fuelW, x0.ps, rfl, hia.same e7, R.work, R.len, T.mem, T.most, T.head, T.l1, T.l12, T.h12, by unfold fuelW; omega, T.rows, T.len, fun H8 w8 e8 hw8 => ⟨by show 2 ≤ sizeLine; omega, fun L1 nL1 => ?_⟩⟩
      have eL1 := same_new (o := .lst [w7, .ref w8]) nL1
      have hL1 : (upd H8 L1 (.lst [w7, .ref w8])) L1 = some (.lst [w7, .ref w8]) := upd_same
      refine ⟨u3, rfl, u4, rfl, by show 2 ≤ sizeLine; omega, fun L2 nL2 => ?_⟩
      have eL2 := same_new (o := .lst [u3, u4]) nL2
      have eA := eL1.trans eL2
      have eB := e7.trans (e8.trans eA)
      refine ⟨L1, L2, .list [optD x0.r, .tuple (plsD x0.ps)], rfl, .lst (.of (eL2 _ _ hL1)) (.cons (Dp.same (e8.trans eA) hw7) (.cons (Dp.same eA hw8.dp) .nil)), .lst (.of upd_same) (.cons (f3.same eB).dp (.cons (f4.same eB).dp .nil)), R.sh, _, rfl, iteF ?_⟩
      exact ⟨_, _, _, _, rfl, e6.trans eB⟩
    obtain ⟨v5, v6, v7, v8, rfl, e6⟩ := h
    have e06 := e05.trans e6
    -- what the law says beside its rows
    unfold lawB at hlb
    simp only [Bool.and_eq_true, decide_eq_true_eq] at hlb
    obtain ⟨⟨⟨⟨⟨⟨⟨⟨⟨⟨⟨⟨⟨k1, k2⟩, k3⟩, k4⟩, k5⟩, k6⟩, k7⟩, k8⟩, k9⟩, k10⟩, k11⟩, k12⟩, k13⟩, k14⟩ := hlb
    have k1 := workB_is k1
    have k2 := workB_is k2
    have k3 := workB_is k3
    have k4 := workB_is k4
    clear hN hF hl hrw
    -- stretched
    refine ⟨a, b, ⟨rfl, rfl⟩, fun G1' g1v h1e h1 => ⟨a, b, ⟨rfl, rfl⟩, fun G2' g2v h2e h2 => ?_⟩⟩
    obtain ⟨x1, rfl, y1⟩ := (h1.same h2e).ints
    obtain ⟨x2, rfl, y2⟩ := h2.ints
    refine ⟨x1, x2, a, [2, 0], [b, a], rfl, y1.sq, y2.sq, k1, by show isWaitsB 3 (tD [2, 0]) = true; decide, ⟨rfl, by decide, by decide⟩, fun G3' g3v h3e h3 => ?_⟩
    refine ⟨a, b, ⟨rfl, rfl⟩, fun G4' g4v h4e h4 => ⟨a, b, ⟨rfl, rfl⟩, fun G5' g5v h5e h5 => ?_⟩⟩
    obtain ⟨x4, rfl, y4⟩ := (h4.same h5e).ints
    obtain ⟨x5, rfl, y5⟩ := h5.ints
    refine ⟨x4, x5, a, [0, 1], [-1, a], rfl, y4.sq, y5.sq, k2, by show isWaitsB 3 (tD [0, 1]) = true; decide, ⟨rfl, by decide, by decide⟩, fun G6' g6v h6e h6 => ?_⟩
    refine ⟨a, b, ⟨rfl, rfl⟩, fun G7' g7v h7e h7 => ⟨a, b, ⟨rfl, rfl⟩, fun G8' g8v h8e h8 => ?_⟩⟩
    obtain ⟨x7, rfl, y7⟩ := (h7.same h8e).ints
    obtain ⟨x8, rfl, y8⟩ := h8.ints
    refine ⟨x7, x8, a, [], [], rfl, y7.sq, y8.sq, k3, by show isWaitsB 1 (tD []) = true; decide, ⟨rfl, by decide, by decide⟩, fun G9' g9v h9e h9 => ⟨by show 3 ≤ sizeLine; omega, fun L1 nL1 => ?_⟩⟩
    have h36 := h4e.trans (h5e.trans h6e)
    have h69 := h7e.trans (h8e.trans h9e)
    have eL1 := same_new (o := .lst [g3v, g6v, g9v]) nL1
    have hL1 : (upd G9' L1 (.lst [g3v, g6v, g9v])) L1 = some (.lst [g3v, g6v, g9v]) := upd_same
    have d3 := Dp.same (h36.trans (h69.trans eL1)) h3
    have d6 := Dp.same (h69.trans eL1) h6
    have d9 := Dp.same eL1 h9
    have e10 := e06.trans ((h1e.trans (h2e.trans h3e)).trans (h36.trans (h69.trans eL1)))
    generalize upd G9' L1 (.lst [g3v, g6v, g9v]) = J1 at eL1 hL1 d3 d6 d9 e10 ⊢
    rw [show ([2, 0] : List Int).length = 2 from rfl, k11] at d3
    rw [show ([0, 1] : List Int).length = 2 from rfl, k12] at d6
    rw [show ([] : List Int).length = 0 from rfl, k13] at d9
    refine ⟨.ref L1, rfl, a, b, ⟨rfl, rfl⟩, fun J2 j2v j2e j2 => ?_⟩
    obtain ⟨L2, z2, rfl, hL2, hz2⟩ := j2.lstOf
    refine ⟨L1, L2, .list (toldD a b), rfl, Dp.same j2e (.lst (.of hL1) (.cons d3 (.cons d6 (.cons d9 .nil)))), j2.dp, showsOk_is k14, _, rfl, iteF ?_⟩
    -- shows_stretch
    refine ⟨a, b, ⟨rfl, rfl⟩, fun J3 j3v j3e j3 => ?_⟩
    obtain ⟨l10, u10, rfl, hl10, hu10⟩ := j3.lstOf
    have l10' := hu10.len
    have e13 := e10.trans (j2e.trans j3e)
    refine ⟨.ref l10, rfl, l10, rfl, ⟨_, .of hl10⟩, fun D nD => ?_⟩
    refine lc_list (xs := u10) (fun j H' => Same J3 H' ∧ H' D = some (.lst (((someD.take j).map (showsB a [-1, a] 2)).map V.bl))) ⟨same_new nD, upd_same⟩ (fun j H' _ h => .of (h.1 _ _ hl10)) (fun j x H' hx h => ?_) (fun J4 h => ?_)
    · obtain ⟨ej, hD⟩ := h
      obtain ⟨dd, hdd, hv⟩ := hu10.at hx
      have hj : j < 10 := (List.getElem?_eq_some_iff.mp hdd).1
      have hk := List.all_eq_true.mp k5 dd (List.mem_of_getElem? hdd)
      simp only [Bool.and_eq_true, decide_eq_true_eq] at hk
      refine ⟨rfl, .int a, rfl, 1, rfl, .int a, rfl, by show 3 ≤ sizeLine; omega, fun t nt => ⟨x, rfl, ?_⟩⟩
      have et := same_new (o := .tup [V.int a, .int (-1), .int a]) nt
      refine ⟨t, x, a, [-1, a], 2, dd, rfl, .of upd_same, k2, (by show 3 ≤ 12; omega), by decide, by decide, Dp.same et (Dp.same ej hv.dp), hk.1, fun g => prsFew_is hk.2 g, fun H9 e9 => ?_⟩
      refine ⟨_, e9 _ _ (et _ _ hD), ?_, fun y o e => ?_, ?_⟩
      · rw [List.length_map, List.length_map, List.length_take]
        omega
      · rw [upd_ne (ne_of_none e nD)]
        exact e9 _ _ (et _ _ (ej _ _ e))
      · rw [upd_same, List.take_add_one, hdd, List.map_append, List.map_append]; rfl
    obtain ⟨e14, hD⟩ := h
    rw [show u10.length = someD.length from l10', List.take_length, k6] at hD
    refine ⟨.ref D, rfl, a, b, ⟨rfl, rfl⟩, fun J5 j5v j5e j5 => ?_⟩
    obtain ⟨L5, z5, rfl, hL5, hz5⟩ := Fd.lstOf (ds := shownB.map PyData.bool) j5
    refine ⟨D, L5, boolsD shownB, rfl, .lst (.of (j5e _ _ hD)) (dp_bools _), j5.dp, showsOk_is shownB_ok, _, rfl, iteF ?_⟩
    refine ⟨a, b, ⟨rfl, rfl⟩, fun J6 j6v j6e j6 => ⟨a, b, ⟨rfl, rfl⟩, fun J7 j7v j7e j7 => ?_⟩⟩
    obtain ⟨x6, rfl, y6⟩ := (j6.same j7e).ints
    refine ⟨x6, j7v, a, [b, a], 1, tD [0, 0], rfl, y6.sq, k1, (by show 3 ≤ 12; omega), by decide, by decide, j7.dp, by decide, fun g => prsFew_is k7 g, fun J8 j8e => ?_⟩
    rw [k9]
    refine ⟨a, b, ⟨rfl, rfl⟩, fun J9 j9v j9e j9 => ⟨a, b, ⟨rfl, rfl⟩, fun J10 j10v j10e j10 => ?_⟩⟩
    obtain ⟨x9, rfl, y9⟩ := (j9.same j10e).ints
    refine ⟨x9, j10v, a, [b], 1, tD [5], rfl, y9.sq, k4, (by show 2 ≤ 12; omega), by decide, by decide, j10.dp, by decide, fun g => prsFew_is k8 g, fun J11 j11e => ?_⟩
    rw [k10]
    refine ⟨by show 2 ≤ sizeLine; omega, fun L8 nL8 => ⟨a, b, ⟨rfl, rfl⟩, fun J12 j12v j12e j12 => ?_⟩⟩
    obtain ⟨L9, z9, rfl, hL9, hz9⟩ := Fd.lstOf (ds := [false, true].map PyData.bool) j12
    refine ⟨L8, L9, boolsD [false, true], rfl, .lst (.of (j12e _ _ upd_same)) (dp_bools [false, true]), j12.dp, showsOk_is pairB_ok, _, rfl, iteF ?_⟩
    refine ⟨_, _, _, _, _, _, _, _, _, _, _, rfl, ?_⟩
    exact e13.trans (e14.trans (j5e.trans (j6e.trans (j7e.trans (j8e.trans (j9e.trans (j10e.trans (j11e.trans ((same_new nL8).trans j12e)))))))))
end
end Sg
set_option Elab.async false
set_option linter.all false
set_option maxRecDepth 100000
set_option maxHeartbeats 4000000
namespace Sg
open PySem PySem.Spec PyProof.Rows L2 StX
theorem all_mk {l : PySem.W.OpenLaw} {w : World} {K : PySem.W.Frag} {h : Heap} {mg : Str → Option Value} {fa fd0 fd1 fd2 fd3 fd4 fd5 fd6 fd7 fd8 fd9 fd10 fd11 fd12 fd13 fd14 fd15 fd16 fd17 fd18 fd19 fd20 fd21 fd22 fd23 fd24 : Addr} {tu_NOWHERE tu_STATIONS tu_MOST_ITEMS tu_MOST_WAIT tu_MOST_TICKS tu_MOST_DISTANCE : Tok} {odd0 and0 odd1 and1 odd2 and2 odd3 and3 odd4 and4 odd5 and5 odd6 and6 odd7 and7 odd8 and8 odd9 and9 odd10 and10 odd11 and11 odd12 and12 odd13 and13 odd14 and14 odd15 and15 odd16 and16 odd17 and17 odd18 and18 odd19 and19 odd20 and20 odd21 and21 odd22 and22 odd23 and23 odd24 and24 : Option Addr} {sld0 sld1 sld2 sld3 sld4 sld5 sld6 sld7 sld8 sld9 sld10 sld11 sld12 sld13 sld14 sld15 sld16 sld17 sld18 sld19 sld20 sld21 sld22 sld23 sld24 : Array (Option Value)} {ocd0 kVd0 dcd0 pmd0 cdd0 ctd0 ocd1 kVd1 dcd1 pmd1 cdd1 ctd1 ocd2 kVd2 dcd2 pmd2 cdd2 ctd2 ocd3 kVd3 dcd3 pmd3 cdd3 ctd3 ocd4 kVd4 dcd4 pmd4 cdd4 ctd4 ocd5 kVd5 dcd5 pmd5 cdd5 ctd5 ocd6 kVd6 dcd6 pmd6 cdd6 ctd6 ocd7 kVd7 dcd7 pmd7 cdd7 ctd7 ocd8 kVd8 dcd8 pmd8 cdd8 ctd8 ocd9 kVd9 dcd9 pmd9 cdd9 ctd9 ocd10 kVd10 dcd10 pmd10 cdd10 ctd10 ocd11 kVd11 dcd11 pmd11 cdd11 ctd11 ocd12 kVd12 dcd12 pmd12 cdd12 ctd12 ocd13 kVd13 dcd13 pmd13 cdd13 ctd13 ocd14 kVd14 dcd14 pmd14 cdd14 ctd14 ocd15 kVd15 dcd15 pmd15 cdd15 ctd15 ocd16 kVd16 dcd16 pmd16 cdd16 ctd16 ocd17 kVd17 dcd17 pmd17 cdd17 ctd17 ocd18 kVd18 dcd18 pmd18 cdd18 ctd18 ocd19 kVd19 dcd19 pmd19 cdd19 ctd19 ocd20 kVd20 dcd20 pmd20 cdd20 ctd20 ocd21 kVd21 dcd21 pmd21 cdd21 ctd21 ocd22 kVd22 dcd22 pmd22 cdd22 ctd22 ocd23 kVd23 dcd23 pmd23 cdd23 ctd23 ocd24 kVd24 dcd24 pmd24 cdd24 ctd24 : Value} (X : K.In h) (G : h.Ns mainGlobals mg) (hfa : mg "law" = some (.ref fa))
    (ad0 : PySem.W.nsIn K mainGlobals "is_int" = some (some (.ref fd0)))
    (ld0 : K.lookup fd0 = some ⟨ocd0, odd0, .func (PySem.W.fnOf "is_int" "is_int" (defArgs s_is_int) (defBody s_is_int) (defScope s_is_int) .none kVd0 dcd0 pmd0 and0 cdd0 ctd0), sld0⟩)
    (cd0 : PySem.W.codeIn K cdd0 "is_int" = true)
    (kd0 : PySem.W.keepIn K (.ref fd0) = true)
    (ad1 : PySem.W.nsIn K mainGlobals "is_between" = some (some (.ref fd1)))
    (ld1 : K.lookup fd1 = some ⟨ocd1, odd1, .func (PySem.W.fnOf "is_between" "is_between" (defArgs s_is_between) (defBody s_is_between) (defScope s_is_between) .none kVd1 dcd1 pmd1 and1 cdd1 ctd1), sld1⟩)
    (cd1 : PySem.W.codeIn K cdd1 "is_between" = true)
    (kd1 : PySem.W.keepIn K (.ref fd1) = true)
    (ad2 : PySem.W.nsIn K mainGlobals "is_work" = some (some (.ref fd2)))
    (ld2 : K.lookup fd2 = some ⟨ocd2, odd2, .func (PySem.W.fnOf "is_work" "is_work" (defArgs s_is_work) (defBody s_is_work) (defScope s_is_work) .none kVd2 dcd2 pmd2 and2 cdd2 ctd2), sld2⟩)
    (cd2 : PySem.W.codeIn K cdd2 "is_work" = true)
    (kd2 : PySem.W.keepIn K (.ref fd2) = true)
    (ad3 : PySem.W.nsIn K mainGlobals "most_visits" = some (some (.ref fd3)))
    (ld3 : K.lookup fd3 = some ⟨ocd3, odd3, .func (PySem.W.fnOf "most_visits" "most_visits" (defArgs s_most_visits) (defBody s_most_visits) (defScope s_most_visits) .none kVd3 dcd3 pmd3 and3 cdd3 ctd3), sld3⟩)
    (cd3 : PySem.W.codeIn K cdd3 "most_visits" = true)
    (kd3 : PySem.W.keepIn K (.ref fd3) = true)
    (ad4 : PySem.W.nsIn K mainGlobals "require_work" = some (some (.ref fd4)))
    (ld4 : K.lookup fd4 = some ⟨ocd4, odd4, .func (PySem.W.fnOf "require_work" "require_work" (defArgs s_require_work) (defBody s_require_work) (defScope s_require_work) .none kVd4 dcd4 pmd4 and4 cdd4 ctd4), sld4⟩)
    (cd4 : PySem.W.codeIn K cdd4 "require_work" = true)
    (kd4 : PySem.W.keepIn K (.ref fd4) = true)
    (ad5 : PySem.W.nsIn K mainGlobals "constants" = some (some (.ref fd5)))
    (ld5 : K.lookup fd5 = some ⟨ocd5, odd5, .func (PySem.W.fnOf "constants" "constants" (defArgs s_constants) (defBody s_constants) (defScope s_constants) .none kVd5 dcd5 pmd5 and5 cdd5 ctd5), sld5⟩)
    (cd5 : PySem.W.codeIn K cdd5 "constants" = true)
    (kd5 : PySem.W.keepIn K (.ref fd5) = true)
    (ad6 : PySem.W.nsIn K mainGlobals "is_constant" = some (some (.ref fd6)))
    (ld6 : K.lookup fd6 = some ⟨ocd6, odd6, .func (PySem.W.fnOf "is_constant" "is_constant" (defArgs s_is_constant) (defBody s_is_constant) (defScope s_is_constant) .none kVd6 dcd6 pmd6 and6 cdd6 ctd6), sld6⟩)
    (cd6 : PySem.W.codeIn K cdd6 "is_constant" = true)
    (kd6 : PySem.W.keepIn K (.ref fd6) = true)
    (ad7 : PySem.W.nsIn K mainGlobals "stretched" = some (some (.ref fd7)))
    (ld7 : K.lookup fd7 = some ⟨ocd7, odd7, .func (PySem.W.fnOf "stretched" "stretched" (defArgs s_stretched) (defBody s_stretched) (defScope s_stretched) .none kVd7 dcd7 pmd7 and7 cdd7 ctd7), sld7⟩)
    (cd7 : PySem.W.codeIn K cdd7 "stretched" = true)
    (kd7 : PySem.W.keepIn K (.ref fd7) = true)
    (ad8 : PySem.W.nsIn K mainGlobals "stretch" = some (some (.ref fd8)))
    (ld8 : K.lookup fd8 = some ⟨ocd8, odd8, .func (PySem.W.fnOf "stretch" "stretch" (defArgs s_stretch) (defBody s_stretch) (defScope s_stretch) .none kVd8 dcd8 pmd8 and8 cdd8 ctd8), sld8⟩)
    (cd8 : PySem.W.codeIn K cdd8 "stretch" = true)
    (kd8 : PySem.W.keepIn K (.ref fd8) = true)
    (ad9 : PySem.W.nsIn K mainGlobals "shows_stretch" = some (some (.ref fd9)))
    (ld9 : K.lookup fd9 = some ⟨ocd9, odd9, .func (PySem.W.fnOf "shows_stretch" "shows_stretch" (defArgs s_shows_stretch) (defBody s_shows_stretch) (defScope s_shows_stretch) .none kVd9 dcd9 pmd9 and9 cdd9 ctd9), sld9⟩)
    (cd9 : PySem.W.codeIn K cdd9 "shows_stretch" = true)
    (kd9 : PySem.W.keepIn K (.ref fd9) = true)
    (ad10 : PySem.W.nsIn K mainGlobals "trade" = some (some (.ref fd10)))
    (ld10 : K.lookup fd10 = some ⟨ocd10, odd10, .func (PySem.W.fnOf "trade" "trade" (defArgs s_trade) (defBody s_trade) (defScope s_trade) .none kVd10 dcd10 pmd10 and10 cdd10 ctd10), sld10⟩)
    (cd10 : PySem.W.codeIn K cdd10 "trade" = true)
    (kd10 : PySem.W.keepIn K (.ref fd10) = true)
    (ad11 : PySem.W.nsIn K mainGlobals "_require_short" = some (some (.ref fd11)))
    (ld11 : K.lookup fd11 = some ⟨ocd11, odd11, .func (PySem.W.fnOf "_require_short" "_require_short" (defArgs s_require_short) (defBody s_require_short) (defScope s_require_short) .none kVd11 dcd11 pmd11 and11 cdd11 ctd11), sld11⟩)
    (cd11 : PySem.W.codeIn K cdd11 "_require_short" = true)
    (kd11 : PySem.W.keepIn K (.ref fd11) = true)
    (ad12 : PySem.W.nsIn K mainGlobals "_require_stretch" = some (some (.ref fd12)))
    (ld12 : K.lookup fd12 = some ⟨ocd12, odd12, .func (PySem.W.fnOf "_require_stretch" "_require_stretch" (defArgs s_require_stretch) (defBody s_require_stretch) (defScope s_require_stretch) .none kVd12 dcd12 pmd12 and12 cdd12 ctd12), sld12⟩)
    (cd12 : PySem.W.codeIn K cdd12 "_require_stretch" = true)
    (kd12 : PySem.W.keepIn K (.ref fd12) = true)
    (ad13 : PySem.W.nsIn K mainGlobals "_is_waits" = some (some (.ref fd13)))
    (ld13 : K.lookup fd13 = some ⟨ocd13, odd13, .func (PySem.W.fnOf "_is_waits" "_is_waits" (defArgs s_is_waits) (defBody s_is_waits) (defScope s_is_waits) .none kVd13 dcd13 pmd13 and13 cdd13 ctd13), sld13⟩)
    (cd13 : PySem.W.codeIn K cdd13 "_is_waits" = true)
    (kd13 : PySem.W.keepIn K (.ref fd13) = true)
    (ad14 : PySem.W.nsIn K mainGlobals "_put_in" = some (some (.ref fd14)))
    (ld14 : K.lookup fd14 = some ⟨ocd14, odd14, .func (PySem.W.fnOf "_put_in" "_put_in" (defArgs s_put_in) (defBody s_put_in) (defScope s_put_in) .none kVd14 dcd14 pmd14 and14 cdd14 ctd14), sld14⟩)
    (cd14 : PySem.W.codeIn K cdd14 "_put_in" = true)
    (kd14 : PySem.W.keepIn K (.ref fd14) = true)
    (ad15 : PySem.W.nsIn K mainGlobals "_least_waits" = some (some (.ref fd15)))
    (ld15 : K.lookup fd15 = some ⟨ocd15, odd15, .func (PySem.W.fnOf "_least_waits" "_least_waits" (defArgs s_least_waits) (defBody s_least_waits) (defScope s_least_waits) .none kVd15 dcd15 pmd15 and15 cdd15 ctd15), sld15⟩)
    (cd15 : PySem.W.codeIn K cdd15 "_least_waits" = true)
    (kd15 : PySem.W.keepIn K (.ref fd15) = true)
    (ad16 : PySem.W.nsIn K mainGlobals "_next_taken" = some (some (.ref fd16)))
    (ld16 : K.lookup fd16 = some ⟨ocd16, odd16, .func (PySem.W.fnOf "_next_taken" "_next_taken" (defArgs s_next_taken) (defBody s_next_taken) (defScope s_next_taken) .none kVd16 dcd16 pmd16 and16 cdd16 ctd16), sld16⟩)
    (cd16 : PySem.W.codeIn K cdd16 "_next_taken" = true)
    (kd16 : PySem.W.keepIn K (.ref fd16) = true)
    (ad17 : PySem.W.nsIn K mainGlobals "_needed_places" = some (some (.ref fd17)))
    (ld17 : K.lookup fd17 = some ⟨ocd17, odd17, .func (PySem.W.fnOf "_needed_places" "_needed_places" (defArgs s_needed_places) (defBody s_needed_places) (defScope s_needed_places) .none kVd17 dcd17 pmd17 and17 cdd17 ctd17), sld17⟩)
    (cd17 : PySem.W.codeIn K cdd17 "_needed_places" = true)
    (kd17 : PySem.W.keepIn K (.ref fd17) = true)
    (ad18 : PySem.W.nsIn K mainGlobals "_law_cell" = some (some (.ref fd18)))
    (ld18 : K.lookup fd18 = some ⟨ocd18, odd18, .func (PySem.W.fnOf "_law_cell" "_law_cell" (defArgs s_l_cell) (defBody s_l_cell) (defScope s_l_cell) .none kVd18 dcd18 pmd18 and18 cdd18 ctd18), sld18⟩)
    (cd18 : PySem.W.codeIn K cdd18 "_law_cell" = true)
    (kd18 : PySem.W.keepIn K (.ref fd18) = true)
    (ad19 : PySem.W.nsIn K mainGlobals "_law_pen" = some (some (.ref fd19)))
    (ld19 : K.lookup fd19 = some ⟨ocd19, odd19, .func (PySem.W.fnOf "_law_pen" "_law_pen" (defArgs s_l_pen) (defBody s_l_pen) (defScope s_l_pen) .none kVd19 dcd19 pmd19 and19 cdd19 ctd19), sld19⟩)
    (cd19 : PySem.W.codeIn K cdd19 "_law_pen" = true)
    (kd19 : PySem.W.keepIn K (.ref fd19) = true)
    (ad20 : PySem.W.nsIn K mainGlobals "_law_draw" = some (some (.ref fd20)))
    (ld20 : K.lookup fd20 = some ⟨ocd20, odd20, .func (PySem.W.fnOf "_law_draw" "_law_draw" (defArgs s_l_draw) (defBody s_l_draw) (defScope s_l_draw) .none kVd20 dcd20 pmd20 and20 cdd20 ctd20), sld20⟩)
    (cd20 : PySem.W.codeIn K cdd20 "_law_draw" = true)
    (kd20 : PySem.W.keepIn K (.ref fd20) = true)
    (ad21 : PySem.W.nsIn K mainGlobals "_law_mixed" = some (some (.ref fd21)))
    (ld21 : K.lookup fd21 = some ⟨ocd21, odd21, .func (PySem.W.fnOf "_law_mixed" "_law_mixed" (defArgs s_l_mixed) (defBody s_l_mixed) (defScope s_l_mixed) .none kVd21 dcd21 pmd21 and21 cdd21 ctd21), sld21⟩)
    (cd21 : PySem.W.codeIn K cdd21 "_law_mixed" = true)
    (kd21 : PySem.W.keepIn K (.ref fd21) = true)
    (ad22 : PySem.W.nsIn K mainGlobals "_law_same" = some (some (.ref fd22)))
    (ld22 : K.lookup fd22 = some ⟨ocd22, odd22, .func (PySem.W.fnOf "_law_same" "_law_same" (defArgs s_l_same) (defBody s_l_same) (defScope s_l_same) .none kVd22 dcd22 pmd22 and22 cdd22 ctd22), sld22⟩)
    (cd22 : PySem.W.codeIn K cdd22 "_law_same" = true)
    (kd22 : PySem.W.keepIn K (.ref fd22) = true)
    (ad23 : PySem.W.nsIn K mainGlobals "_law_rows" = some (some (.ref fd23)))
    (ld23 : K.lookup fd23 = some ⟨ocd23, odd23, .func (PySem.W.fnOf "_law_rows" "_law_rows" (defArgs s_l_rows) (defBody s_l_rows) (defScope s_l_rows) .none kVd23 dcd23 pmd23 and23 cdd23 ctd23), sld23⟩)
    (cd23 : PySem.W.codeIn K cdd23 "_law_rows" = true)
    (kd23 : PySem.W.keepIn K (.ref fd23) = true)
    (ad24 : PySem.W.nsIn K mainGlobals "law" = some (some (.ref fd24)))
    (ld24 : K.lookup fd24 = some ⟨ocd24, odd24, .func (PySem.W.fnOf "law" "law" (defArgs s_law) (defBody s_law) (defScope s_law) .none kVd24 dcd24 pmd24 and24 cdd24 ctd24), sld24⟩)
    (cd24 : PySem.W.codeIn K cdd24 "law" = true)
    (kd24 : PySem.W.keepIn K (.ref fd24) = true)
    (xpop : PySem.W.nsIn K mainGlobals "heappop" = some (some (.builtin "_heapq.heappop")))
    (xpush : PySem.W.nsIn K mainGlobals "heappush" = some (some (.builtin "_heapq.heappush")))
    (z_isinstance : PySem.W.nsIn K mainGlobals "isinstance" = some none)
    (z_int : PySem.W.nsIn K mainGlobals "int" = some none)
    (z_bool : PySem.W.nsIn K mainGlobals "bool" = some none)
    (z_tuple : PySem.W.nsIn K mainGlobals "tuple" = some none)
    (z_len : PySem.W.nsIn K mainGlobals "len" = some none)
    (z_all : PySem.W.nsIn K mainGlobals "all" = some none)
    (z_zip : PySem.W.nsIn K mainGlobals "zip" = some none)
    (z_range : PySem.W.nsIn K mainGlobals "range" = some none)
    (z_max : PySem.W.nsIn K mainGlobals "max" = some none)
    (z_min : PySem.W.nsIn K mainGlobals "min" = some none)
    (z_list : PySem.W.nsIn K mainGlobals "list" = some none)
    (z_enumerate : PySem.W.nsIn K mainGlobals "enumerate" = some none)
    (z_sum : PySem.W.nsIn K mainGlobals "sum" = some none)
    (z_repr : PySem.W.nsIn K mainGlobals "repr" = some none)
    (z_set : PySem.W.nsIn K mainGlobals "set" = some none)
    (z_sorted : PySem.W.nsIn K mainGlobals "sorted" = some none)
    (u_NOWHERE : PySem.W.nsIn K mainGlobals "NOWHERE" = some (some (.int (-1) tu_NOWHERE)))
    (u_STATIONS : PySem.W.nsIn K mainGlobals "STATIONS" = some (some (.int (10) tu_STATIONS)))
    (u_MOST_ITEMS : PySem.W.nsIn K mainGlobals "MOST_ITEMS" = some (some (.int (60) tu_MOST_ITEMS)))
    (u_MOST_WAIT : PySem.W.nsIn K mainGlobals "MOST_WAIT" = some (some (.int (11) tu_MOST_WAIT)))
    (u_MOST_TICKS : PySem.W.nsIn K mainGlobals "MOST_TICKS" = some (some (.int (12) tu_MOST_TICKS)))
    (u_MOST_DISTANCE : PySem.W.nsIn K mainGlobals "MOST_DISTANCE" = some (some (.int (12) tu_MOST_DISTANCE))) :
    ∃ fd : FuncData, (∀ (s : Shared) (v : Value), BindsTo s fd ⟨[v], []⟩ [("_law_script", v)]) ∧ ∀ base : Heap, K.In base → base.Ns mainGlobals mg → FnG l.prog w K mg base 8 fa fd ["_law_script"] (spLaw K) := by
  have e := hfa.symm.trans (PySem.W.mg_of X G ad24)
  cases e
  have y_isinstance := PySem.W.mg_none_of X G z_isinstance
  have y_int := PySem.W.mg_none_of X G z_int
  have y_bool := PySem.W.mg_none_of X G z_bool
  have y_tuple := PySem.W.mg_none_of X G z_tuple
  have y_len := PySem.W.mg_none_of X G z_len
  have y_all := PySem.W.mg_none_of X G z_all
  have y_zip := PySem.W.mg_none_of X G z_zip
  have y_range := PySem.W.mg_none_of X G z_range
  have y_max := PySem.W.mg_none_of X G z_max
  have y_min := PySem.W.mg_none_of X G z_min
  have y_list := PySem.W.mg_none_of X G z_list
  have y_enumerate := PySem.W.mg_none_of X G z_enumerate
  have y_sum := PySem.W.mg_none_of X G z_sum
  have y_repr := PySem.W.mg_none_of X G z_repr
  have y_set := PySem.W.mg_none_of X G z_set
  have y_sorted := PySem.W.mg_none_of X G z_sorted
  have Fd0 := fun_mk (st := s_is_int) ld0 cd0 kd0
  have bd0 := Fd0.binds (ps := ["thing"]) fun _ _ _ _ _ _ us hl => match us, hl with | [_], _ => rfl
  have vd0 := PySem.W.mg_of X G ad0
  have Fd1 := fun_mk (st := s_is_between) ld1 cd1 kd1
  have bd1 := Fd1.binds (ps := ["thing", "least", "most"]) fun _ _ _ _ _ _ us hl => match us, hl with | [_, _, _], _ => rfl
  have vd1 := PySem.W.mg_of X G ad1
  have Fd2 := fun_mk (st := s_is_work) ld2 cd2 kd2
  have bd2 := Fd2.binds (ps := ["thing"]) fun _ _ _ _ _ _ us hl => match us, hl with | [_], _ => rfl
  have vd2 := PySem.W.mg_of X G ad2
  have Fd3 := fun_mk (st := s_most_visits) ld3 cd3 kd3
  have bd3 := Fd3.binds (ps := ["work"]) fun _ _ _ _ _ _ us hl => match us, hl with | [_], _ => rfl
  have vd3 := PySem.W.mg_of X G ad3
  have Fd4 := fun_mk (st := s_require_work) ld4 cd4 kd4
  have bd4 := Fd4.binds (ps := ["thing"]) fun _ _ _ _ _ _ us hl => match us, hl with | [_], _ => rfl
  have vd4 := PySem.W.mg_of X G ad4
  have Fd5 := fun_mk (st := s_constants) ld5 cd5 kd5
  have bd5 := Fd5.binds (ps := ["work"]) fun _ _ _ _ _ _ us hl => match us, hl with | [_], _ => rfl
  have vd5 := PySem.W.mg_of X G ad5
  have Fd6 := fun_mk (st := s_is_constant) ld6 cd6 kd6
  have bd6 := Fd6.binds (ps := ["items", "distance"]) fun _ _ _ _ _ _ us hl => match us, hl with | [_, _], _ => rfl
  have vd6 := PySem.W.mg_of X G ad6
  have Fd7 := fun_mk (st := s_stretched) ld7 cd7 kd7
  have bd7 := Fd7.binds (ps := ["work", "waits"]) fun _ _ _ _ _ _ us hl => match us, hl with | [_, _], _ => rfl
  have vd7 := PySem.W.mg_of X G ad7
  have Fd8 := fun_mk (st := s_stretch) ld8 cd8 kd8
  have bd8 := Fd8.binds (ps := ["work", "distance"]) fun _ _ _ _ _ _ us hl => match us, hl with | [_, _], _ => rfl
  have vd8 := PySem.W.mg_of X G ad8
  have Fd9 := fun_mk (st := s_shows_stretch) ld9 cd9 kd9
  have bd9 := Fd9.binds (ps := ["work", "distance", "thing"]) fun _ _ _ _ _ _ us hl => match us, hl with | [_, _, _], _ => rfl
  have vd9 := PySem.W.mg_of X G ad9
  have Fd10 := fun_mk (st := s_trade) ld10 cd10 kd10
  have bd10 := Fd10.binds (ps := ["work"]) fun _ _ _ _ _ _ us hl => match us, hl with | [_], _ => rfl
  have vd10 := PySem.W.mg_of X G ad10
  have Fd11 := fun_mk (st := s_require_short) ld11 cd11 kd11
  have bd11 := Fd11.binds (ps := ["work"]) fun _ _ _ _ _ _ us hl => match us, hl with | [_], _ => rfl
  have vd11 := PySem.W.mg_of X G ad11
  have Fd12 := fun_mk (st := s_require_stretch) ld12 cd12 kd12
  have bd12 := Fd12.binds (ps := ["work", "distance"]) fun _ _ _ _ _ _ us hl => match us, hl with | [_, _], _ => rfl
  have vd12 := PySem.W.mg_of X G ad12
  have Fd13 := fun_mk (st := s_is_waits) ld13 cd13 kd13
  have bd13 := Fd13.binds (ps := ["work", "thing"]) fun _ _ _ _ _ _ us hl => match us, hl with | [_, _], _ => rfl
  have vd13 := PySem.W.mg_of X G ad13
  have Fd14 := fun_mk (st := s_put_in) ld14 cd14 kd14
  have bd14 := Fd14.binds (ps := ["work", "waits"]) fun _ _ _ _ _ _ us hl => match us, hl with | [_, _], _ => rfl
  have vd14 := PySem.W.mg_of X G ad14
  have Fd15 := fun_mk (st := s_least_waits) ld15 cd15 kd15
  have bd15 := Fd15.binds (ps := ["work", "distance"]) fun _ _ _ _ _ _ us hl => match us, hl with | [_, _], _ => rfl
  have vd15 := PySem.W.mg_of X G ad15
  have Fd16 := fun_mk (st := s_next_taken) ld16 cd16 kd16
  have bd16 := Fd16.binds (ps := ["work", "distance", "at", "taken"]) fun _ _ _ _ _ _ us hl => match us, hl with | [_, _, _, _], _ => rfl
  have vd16 := PySem.W.mg_of X G ad16
  have Fd17 := fun_mk (st := s_needed_places) ld17 cd17 kd17
  have bd17 := Fd17.binds (ps := ["coming", "places"]) fun _ _ _ _ _ _ us hl => match us, hl with | [_, _], _ => rfl
  have vd17 := PySem.W.mg_of X G ad17
  have Fd18 := fun_mk (st := s_l_cell) ld18 cd18 kd18
  have bd18 := Fd18.binds (ps := ["_law_script", "_law_k"]) fun _ _ _ _ _ _ us hl => match us, hl with | [_, _], _ => rfl
  have vd18 := PySem.W.mg_of X G ad18
  have Fd19 := fun_mk (st := s_l_pen) ld19 cd19 kd19
  have bd19 := Fd19.binds (ps := ["_law_cell_here"]) fun _ _ _ _ _ _ us hl => match us, hl with | [_], _ => rfl
  have vd19 := PySem.W.mg_of X G ad19
  have Fd20 := fun_mk (st := s_l_draw) ld20 cd20 kd20
  have bd20 := Fd20.binds (ps := ["_law_pen_here", "_law_many"]) fun _ _ _ _ _ _ us hl => match us, hl with | [_, _], _ => rfl
  have vd20 := PySem.W.mg_of X G ad20
  have Fd21 := fun_mk (st := s_l_mixed) ld21 cd21 kd21
  have bd21 := Fd21.binds (ps := ["_law_pen_here", "_law_values"]) fun _ _ _ _ _ _ us hl => match us, hl with | [_, _], _ => rfl
  have vd21 := PySem.W.mg_of X G ad21
  have Fd22 := fun_mk (st := s_l_same) ld22 cd22 kd22
  have bd22 := Fd22.binds (ps := ["_law_actual", "_law_due"]) fun _ _ _ _ _ _ us hl => match us, hl with | [_, _], _ => rfl
  have vd22 := PySem.W.mg_of X G ad22
  have Fd23 := fun_mk (st := s_l_rows) ld23 cd23 kd23
  have bd23 := Fd23.binds (ps := ["_law_a", "_law_b"]) fun _ _ _ _ _ _ us hl => match us, hl with | [_, _], _ => rfl
  have vd23 := PySem.W.mg_of X G ad23
  have Fd24 := fun_mk (st := s_law) ld24 cd24 kd24
  have bd24 := Fd24.binds (ps := ["_law_script"]) fun _ _ _ _ _ _ us hl => match us, hl with | [_], _ => rfl
  have vd24 := PySem.W.mg_of X G ad24
  have N_NOWHERE : ∃ t, mg "NOWHERE" = some (.int (-1) t) := ⟨_, PySem.W.mg_of X G u_NOWHERE⟩
  have N_STATIONS : ∃ t, mg "STATIONS" = some (.int (10) t) := ⟨_, PySem.W.mg_of X G u_STATIONS⟩
  have N_MOST_ITEMS : ∃ t, mg "MOST_ITEMS" = some (.int (60) t) := ⟨_, PySem.W.mg_of X G u_MOST_ITEMS⟩
  have N_MOST_WAIT : ∃ t, mg "MOST_WAIT" = some (.int (11) t) := ⟨_, PySem.W.mg_of X G u_MOST_WAIT⟩
  have N_MOST_TICKS : ∃ t, mg "MOST_TICKS" = some (.int (12) t) := ⟨_, PySem.W.mg_of X G u_MOST_TICKS⟩
  have N_MOST_DISTANCE : ∃ t, mg "MOST_DISTANCE" = some (.int (12) t) := ⟨_, PySem.W.mg_of X G u_MOST_DISTANCE⟩
  refine ⟨PySem.W.fnOf "law" "law" (defArgs s_law) (defBody s_law) (defScope s_law) .none kVd24 dcd24 pmd24 and24 cdd24 ctd24, fun s v => .of_eq rfl, fun base _ _ => ?_⟩
  have v_pop := PySem.W.mg_of X G xpop
  have v_push := PySem.W.mg_of X G xpush
  have Gd0 := ok_is_int (P := l.prog) (w := w) (mg := mg) (base := base) (k := 0) Fd0 y_isinstance y_int y_bool
  have Gd1 := ok_is_between (P := l.prog) (w := w) (mg := mg) (base := base) (k := 1) Fd1 (Gd0.mono (by decide)) kd0 bd0 vd0
  have GIA := ok_is_intA (P := l.prog) (w := w) (mg := mg) (base := base) (k := 0) Fd0 y_isinstance y_int y_bool
  have GBA := ok_is_betweenA (P := l.prog) (w := w) (mg := mg) (base := base) (k := 1) Fd1 (GIA.mono (by decide)) kd0 bd0 vd0
  have N : Nums mg := ⟨N_NOWHERE, N_STATIONS, N_MOST_ITEMS⟩
  have Gd2 := ok_is_work (P := l.prog) (w := w) (mg := mg) (base := base) (k := 2) Fd2 N (Gd1.mono (by decide)) kd1 bd1 vd1 y_isinstance y_tuple y_len y_all
  have Gd4 := ok_require_work (P := l.prog) (w := w) (mg := mg) (base := base) (k := 3) Fd4 (Gd2.mono (by decide)) kd2 bd2 vd2
  have Gd17 := ok_needed (P := l.prog) (w := w) (mg := mg) (base := base) (k := 0) Fd17 N_NOWHERE y_tuple y_sorted
  have Gd16 := ok_next (P := l.prog) (w := w) (mg := mg) (base := base) (k := 1) Fd16 (Gd17.mono (by decide)) kd17 bd17 vd17 y_range
  have Gd15 := ok_least (P := l.prog) (w := w) (mg := mg) (base := base) (k := 2) Fd15 (Gd16.mono (by decide)) kd16 bd16 vd16 v_pop v_push y_len
  have Gd6 := ok_is_constant (P := l.prog) (w := w) (mg := mg) (base := base) (k := 0) Fd6 N_NOWHERE y_enumerate y_len y_set
  have Gd5 := ok_constants (P := l.prog) (w := w) (mg := mg) (base := base) (k := 4) Fd5 (Gd4.mono (by decide)) kd4 bd4 vd4 (Gd6.mono (by decide)) kd6 bd6 vd6 y_tuple y_range y_len
  have Gd3 := ok_most_visits (P := l.prog) (w := w) (mg := mg) (base := base) (k := 4) Fd3 N (Gd4.mono (by decide)) kd4 bd4 vd4 y_max y_range
  have Gd11 := ok_short (P := l.prog) (w := w) (mg := mg) (base := base) (k := 4) Fd11 N_MOST_TICKS (Gd4.mono (by decide)) kd4 bd4 vd4 y_len
  have Gd12 := ok_req_stretch (P := l.prog) (w := w) (mg := mg) (base := base) (k := 5) Fd12 N_MOST_DISTANCE (Gd11.mono (by decide)) kd11 bd11 vd11 (GBA.mono (by decide)) kd1 bd1 vd1
  have Gd8 := ok_stretch (P := l.prog) (w := w) (mg := mg) (base := base) (k := 6) Fd8 (Gd12.mono (by decide)) kd12 bd12 vd12 (Gd15.mono (by decide)) kd15 bd15 vd15
  have Gd10 := ok_trade (P := l.prog) (w := w) (mg := mg) (base := base) (k := 6) Fd10 (Gd11.mono (by decide)) kd11 bd11 vd11 (Gd3.mono (by decide)) kd3 bd3 vd3 (Gd5.mono (by decide)) kd5 bd5 vd5 (Gd15.mono (by decide)) kd15 bd15 vd15 y_range y_tuple y_sum
  have Gd13 := ok_is_waits (P := l.prog) (w := w) (mg := mg) (base := base) (k := 3) Fd13 N_MOST_WAIT (GBA.mono (by decide)) kd1 bd1 vd1 y_isinstance y_tuple y_len y_all
  have Gd14 := ok_put_in (P := l.prog) (w := w) (mg := mg) (base := base) (k := 0) Fd14 N_NOWHERE y_zip y_tuple
  have Gd7 := ok_stretched (P := l.prog) (w := w) (mg := mg) (base := base) (k := 4) Fd7 (Gd4.mono (by decide)) kd4 bd4 vd4 (Gd13.mono (by decide)) kd13 bd13 vd13 (Gd14.mono (by decide)) kd14 bd14 vd14
  have Gd9 := ok_shows (P := l.prog) (w := w) (mg := mg) (base := base) (k := 6) Fd9 (Gd12.mono (by decide)) kd12 bd12 vd12 (Gd13.mono (by decide)) kd13 bd13 vd13 (Gd14.mono (by decide)) kd14 bd14 vd14 (Gd6.mono (by decide)) kd6 bd6 vd6
  have Gd18 := ok_l_cell (P := l.prog) (w := w) (mg := mg) (base := base) (k := 0) Fd18 y_len
  have Gd19 := ok_l_pen (P := l.prog) (w := w) (mg := mg) (base := base) (k := 0) Fd19 y_max
  have Gd20 := ok_l_draw (P := l.prog) (w := w) (mg := mg) (base := base) (k := 0) Fd20
  have Gd21 := ok_mixed (P := l.prog) (w := w) (mg := mg) (base := base) (k := 1) Fd21 (Gd20.mono (by decide)) kd20 bd20 vd20 y_list y_range y_len
  have Gd22 := ok_l_same (P := l.prog) (w := w) (mg := mg) (base := base) (k := 0) Fd22 y_repr
  have Gd23 := ok_l_rows (P := l.prog) (w := w) (mg := mg) (base := base) (k := 0) Fd23
  exact ok_law (P := l.prog) (w := w) (mg := mg) (base := base) (k := 7) Fd24 (Gd18.mono (by decide)) kd18 bd18 vd18 (Gd19.mono (by decide)) kd19 bd19 vd19 (Gd21.mono (by decide)) kd21 bd21 vd21 (Gd23.mono (by decide)) kd23 bd23 vd23 (Gd8.mono (by decide)) kd8 bd8 vd8 (Gd10.mono (by decide)) kd10 bd10 vd10 (Gd7.mono (by decide)) kd7 bd7 vd7 (Gd9.mono (by decide)) kd9 bd9 vd9 (Gd22.mono (by decide)) kd22 bd22 vd22 y_len y_range y_max y_min
end Sg
set_option Elab.async false
set_option linter.all false
open PySem PySem.W PyProof.Rows
set_option maxRecDepth 100000 in
set_option maxHeartbeats 0 in
theorem PySem.Challenge.cw_startgaps_k46_waits_by_hand_holds : PySem.Challenge.rw_startgaps_k46_waits_by_hand.Holds := by
  w_on; o_law; k_head; (case hw => w_witness2)
  k_fill
  refine Sg.walk_law (l := PySem.Challenge.rw_startgaps_k46_waits_by_hand) (k := 8) (x := "_law_script") (sp := Sg.spLaw) rfl rfl ⟨rfl, by decide, by decide⟩ (fun w h Y => PySem.W.kIn_of Y) ?F (fun K H a ns hl _ hS => ⟨a, ns, rfl, hS, hl, fun _ => rfl⟩)
  case F =>
    intro w mg fa h KX G hmg
    refine' Sg.all_mk KX G hmg ?ad0 ?ld0 ?cd0 ?kd0 ?ad1 ?ld1 ?cd1 ?kd1 ?ad2 ?ld2 ?cd2 ?kd2 ?ad3 ?ld3 ?cd3 ?kd3 ?ad4 ?ld4 ?cd4 ?kd4 ?ad5 ?ld5 ?cd5 ?kd5 ?ad6 ?ld6 ?cd6 ?kd6 ?ad7 ?ld7 ?cd7 ?kd7 ?ad8 ?ld8 ?cd8 ?kd8 ?ad9 ?ld9 ?cd9 ?kd9 ?ad10 ?ld10 ?cd10 ?kd10 ?ad11 ?ld11 ?cd11 ?kd11 ?ad12 ?ld12 ?cd12 ?kd12 ?ad13 ?ld13 ?cd13 ?kd13 ?ad14 ?ld14 ?cd14 ?kd14 ?ad15 ?ld15 ?cd15 ?kd15 ?ad16 ?ld16 ?cd16 ?kd16 ?ad17 ?ld17 ?cd17 ?kd17 ?ad18 ?ld18 ?cd18 ?kd18 ?ad19 ?ld19 ?cd19 ?kd19 ?ad20 ?ld20 ?cd20 ?kd20 ?ad21 ?ld21 ?cd21 ?kd21 ?ad22 ?ld22 ?cd22 ?kd22 ?ad23 ?ld23 ?cd23 ?kd23 ?ad24 ?ld24 ?cd24 ?kd24 ?xpop ?xpush ?z_isinstance ?z_int ?z_bool ?z_tuple ?z_len ?z_all ?z_zip ?z_range ?z_max ?z_min ?z_list ?z_enumerate ?z_sum ?z_repr ?z_set ?z_sorted ?u_NOWHERE ?u_STATIONS ?u_MOST_ITEMS ?u_MOST_WAIT ?u_MOST_TICKS ?u_MOST_DISTANCE
    (case ad0 => k_is)
    (case ld0 => k_is)
    (case cd0 => k_is)
    (case kd0 => k_is)
    (case ad1 => k_is)
    (case ld1 => k_is)
    (case cd1 => k_is)
    (case kd1 => k_is)
    (case ad2 => k_is)
    (case ld2 => k_is)
    (case cd2 => k_is)
    (case kd2 => k_is)
    (case ad3 => k_is)
    (case ld3 => k_is)
    (case cd3 => k_is)
    (case kd3 => k_is)
    (case ad4 => k_is)
    (case ld4 => k_is)
    (case cd4 => k_is)
    (case kd4 => k_is)
    (case ad5 => k_is)
    (case ld5 => k_is)
    (case cd5 => k_is)
    (case kd5 => k_is)
    (case ad6 => k_is)
    (case ld6 => k_is)
    (case cd6 => k_is)
    (case kd6 => k_is)
    (case ad7 => k_is)
    (case ld7 => k_is)
    (case cd7 => k_is)
    (case kd7 => k_is)
    (case ad8 => k_is)
    (case ld8 => k_is)
    (case cd8 => k_is)
    (case kd8 => k_is)
    (case ad9 => k_is)
    (case ld9 => k_is)
    (case cd9 => k_is)
    (case kd9 => k_is)
    (case ad10 => k_is)
    (case ld10 => k_is)
    (case cd10 => k_is)
    (case kd10 => k_is)
    (case ad11 => k_is)
    (case ld11 => k_is)
    (case cd11 => k_is)
    (case kd11 => k_is)
    (case ad12 => k_is)
    (case ld12 => k_is)
    (case cd12 => k_is)
    (case kd12 => k_is)
    (case ad13 => k_is)
    (case ld13 => k_is)
    (case cd13 => k_is)
    (case kd13 => k_is)
    (case ad14 => k_is)
    (case ld14 => k_is)
    (case cd14 => k_is)
    (case kd14 => k_is)
    (case ad15 => k_is)
    (case ld15 => k_is)
    (case cd15 => k_is)
    (case kd15 => k_is)
    (case ad16 => k_is)
    (case ld16 => k_is)
    (case cd16 => k_is)
    (case kd16 => k_is)
    (case ad17 => k_is)
    (case ld17 => k_is)
    (case cd17 => k_is)
    (case kd17 => k_is)
    (case ad18 => k_is)
    (case ld18 => k_is)
    (case cd18 => k_is)
    (case kd18 => k_is)
    (case ad19 => k_is)
    (case ld19 => k_is)
    (case cd19 => k_is)
    (case kd19 => k_is)
    (case ad20 => k_is)
    (case ld20 => k_is)
    (case cd20 => k_is)
    (case kd20 => k_is)
    (case ad21 => k_is)
    (case ld21 => k_is)
    (case cd21 => k_is)
    (case kd21 => k_is)
    (case ad22 => k_is)
    (case ld22 => k_is)
    (case cd22 => k_is)
    (case kd22 => k_is)
    (case ad23 => k_is)
    (case ld23 => k_is)
    (case cd23 => k_is)
    (case kd23 => k_is)
    (case ad24 => k_is)
    (case ld24 => k_is)
    (case cd24 => k_is)
    (case kd24 => k_is)
    (case xpop => k_is)
    (case xpush => k_is)
    (case z_isinstance => k_is)
    (case z_int => k_is)
    (case z_bool => k_is)
    (case z_tuple => k_is)
    (case z_len => k_is)
    (case z_all => k_is)
    (case z_zip => k_is)
    (case z_range => k_is)
    (case z_max => k_is)
    (case z_min => k_is)
    (case z_list => k_is)
    (case z_enumerate => k_is)
    (case z_sum => k_is)
    (case z_repr => k_is)
    (case z_set => k_is)
    (case z_sorted => k_is)
    (case u_NOWHERE => k_is)
    (case u_STATIONS => k_is)
    (case u_MOST_ITEMS => k_is)
    (case u_MOST_WAIT => k_is)
    (case u_MOST_TICKS => k_is)
    (case u_MOST_DISTANCE => k_is)
