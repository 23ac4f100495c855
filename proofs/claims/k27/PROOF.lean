import PyProof.Rows.All
import HandS.ForMost
import HandS.IsInst
import HandS.TupMul
import HandS.TupAny
import HandS.Walk
import HandS.Zip
import PyProof.ReprRoads
import PyProof.ReprBulk
import KE.GoesMore
import PyProof.EnumMake
import HandS.Star
import HandS.Property
import HandS.SortKw
import KE.KOpsOwn
import KE.DataMinMax
import PyProof.InstNe
import HandS.Style
import HandS.DictTup
import PyProof.DictMoreH
import HandS.Iter
import PyProof.Rows.RowBridgeK
import HandS.Wide
import PyProof.Rows.ReprShort
import PyProof.ReprLen
import HandS.Conv
import HandS.TupSets
import PyProof.P3Statements
import HandS.SetFor
import HandS.Strs
import HandS.Dict
import HandS.More
import HandS.Deep
import KE.KDictKeyed
import KE.SortKeyHeap
import HandS.EndTab
import KE.KNest
import PyProof.CallFns
import PyProof.StrOps2
import HandS.HotCalls
import HandS.ExcIs
import HandS.ExcOwn
import HandS.WordsExc
import KE.KTryMore
import HandS.Comp
import HandS.Exc
import KE.GoesComp
import KE.GoesRaise
import PySem.Builtin._heapq.W4All
import HandS.Gcd
import KE.SortData
import KE.KDictWalk
import HandS.DictComp
import KE.KDictDisplayH
import KE.DataCmp
import PySem.Challenge.RW_startgaps_k27_soonest_of_counts
import HandS.FStr
import HandS.Sort
import HandS.Flow
import HandS.Defaults
set_option Elab.async false
set_option linter.all false
set_option maxRecDepth 100000
set_option maxHeartbeats 4000000
namespace Sg
open PySem PySem.Spec PyProof.Rows L2
/-! ## defs that may ask for a text of data: they run outside of every such text -/
/-- a promise that holds where no text of data is being made -/
structure FnG (P : Program) (w : World) (K : PySem.W.Frag) (mg : Str → Option Value) (base : Heap) (k : Nat) (f : Addr)
    (fd : FuncData) (ps : List Str) (sp : Sp) : Prop where
  arity : ∀ vs H Q, sp vs H Q E0 → vs.length = ps.length
  go : ∀ (A : Around) (outer : List Env) (s : Shared) (H : Hp) (args : Args) (us : List Value) (vs : List V) (Q : VK),
    A.guards = some [] → Room k A → Env0 P w K mg base A outer s H → BindsTo s fd args (ps.zip us) → Vals vs us →
    sp vs H Q E0 → codeAny (model P w) A (.call (.ref f) args) (CR CX0 outer P w H s Q E0) s
section
variable {P : Program} {w : World} {K : PySem.W.Frag} {mg : Str → Option Value} {base : Heap} {k : Nat} {f : Addr}
variable {fd : FuncData} {ps : List Str} {sp : Sp}
theorem FnG.of (F : FnOk P w K mg base CX0 k f fd ps sp) : FnG P w K mg base k f fd ps sp :=
  ⟨fun vs H Q h => F.len vs H Q E0 h, fun A outer s H args us vs Q _ hr e0 hb hv h =>
    F.run A outer s H args us vs Q E0 hr e0 hb hv h⟩
theorem FnG.mono {j : Nat} (F : FnG P w K mg base j f fd ps sp) (h : j ≤ k) : FnG P w K mg base k f fd ps sp :=
  ⟨F.arity, fun A outer s H args us vs Q hg hr => F.go A outer s H args us vs Q hg (hr.mono h)⟩
/-- a def's body, where no text of data is being made -/
theorem fnG_mk {x qual : Str} {st : Stmt} {N : List Str} (F : Fun K x qual st f fd)
    (S : FnScope N ps (defScope st)) (arity : ∀ vs H Q, sp vs H Q E0 → vs.length = ps.length)
    (hbody : ∀ (cdv : Value) (A : Around) (outer : List Env) (s : Shared) (H : Hp) (vs : List V) (Q : VK),
      (A.deeper (envOfC qual (defScope st) s.heap.objs.size f cdv)).guards = some [] →
      Room k (A.deeper (envOfC qual (defScope st) s.heap.objs.size f cdv)) → sp vs H Q E0 →
      ∃ t, PSs (cxOf CX0 P w K mg base N qual (defScope st) f cdv A outer s H E0).nox (defBody st) t ∧
        t { nx := fun _ H' => Q .non H', rt := Q } (start N vs) H) :
    FnG P w K mg base (k + 1) f fd ps sp := by
  obtain ⟨oc, od, kV, doc, pm, an, cdv, ct, osl, rfl, lk, hcd⟩ := F.ex
  refine ⟨arity, ?_⟩
  intro A outer s H args us vs Q hg hr e0 hb r hsp
  have hl := arity _ _ _ hsp
  have hk0 : ∀ b o, base.get? b = some o → s.heap.get? b = some o := fun b o e => (e0.bs b o e).1
  have KX : K.In s.heap := e0.mod.kin.keeps hk0
  have lim : s.heap.NoLimit := e0.mod.nolimit.keeps hk0
  refine codeAny_call_function hr.depth (KX _ _ lk) rfl S.co S.gen rfl (PySem.W.codeRec_of KX hcd) ?_
  refine hb _ _ _ _ (wpAny_newFunctionEnv_cells S.kind ?_ ?_)
  · rintro ⟨n, v⟩ hy
    have hn := S.par n (List.of_mem_zip hy).1
    cases hn with
    | inl q => exact .inl q
    | inr q => exact .inr ⟨q, PySem.W.cellsFrom_some _ _ _ (.inl q)⟩
  · intro env he s1 x
    subst he
    refine ⟨lim.keeps x.toInCall.keep, ?_⟩
    apply codeAny_func
    obtain ⟨t, ht, hq⟩ := hbody cdv A outer s H vs Q hg (hr.deeper _) hsp
    have ht' := ht.nox
    have I := inv_start (CX := CX0) (E := E0) (cd := cdv) (qual := qual) (f := f) S hr.hd e0 hl r x
    refine wpAny_mono (ht'.run [] s1 (start N vs) H _ I hq) ?_ (fun e s' hs => hs)
    intro fl s' hs
    cases fl with
    | ret u =>
      obtain ⟨v, σ', H', J, rv, q⟩ := hs
      exact ⟨v, H', J.os, J.bare, J.base, J.hok, rv, q⟩
    | next =>
      obtain ⟨σ', H', J, q⟩ := hs
      exact ⟨V.non, H', J.os, J.bare, J.base, J.hok, rfl, q⟩
    | brk => obtain ⟨_, _, _, q⟩ := hs; exact q.elim
    | cont => obtain ⟨_, _, _, q⟩ := hs; exact q.elim
end
section
variable {X : Cx} {k : Nat} {f : Addr} {fd : FuncData} {ps : List Str} {sp : Sp} {dvs : List V} {ds : List Value}
variable {x : Str} {p pos : Pos} {e : Expr} {es : List Expr} {t : TA}
/-- f(a, ..) of such a def -/
theorem pe_callG (F : FnG X.prog X.w X.K X.mg X.base k f fd ps sp) (hgd : X.A.guards = some []) (hr : Room k X.A)
    (hg : Gl X x) (hm : X.mg x = some (.ref f)) (hk : PySem.W.keepIn X.K (.ref f) = true) (hb : Binds X.K fd ps [])
    (ha : PA X (e :: es) t) (hdb : (x == ("__debug__" : Str)) = false := by decide)
    (he : starEach (e :: es) X.env = (false, eval e X.env) :: starEach es X.env := by rfl)
    (hpl : (backTo pos (starEach es X.env)).any (·.1) = false := by rfl) :
    PE X (.Call (.Name x p) (e :: es) [] pos) (tCall sp [] E0 t) := by
  constructor
  intro pins s σ H Q I h
  refine wpAny_Call_Name_kw (ld_glob I hg hm (PySem.W.callWith_K (h₀ := X.base) I.ok.mod.kin hk ?_ he hpl) hdb)
  refine thn (ha.run pos pins s σ H _ I h) ?_
  rintro us s1 ⟨vs, H1, I1, r, q⟩
  refine ⟨I1.kIn, ?_⟩
  rw [List.append_nil] at q
  have hl : (us ++ []).length = ps.length := by rw [List.append_nil, ← r.length]; exact F.arity _ _ _ q
  have hbb := hb s1 us I1.kIn hl
  rw [List.append_nil] at hbb
  refine wpAny_call (codeAny_mono (F.go X.A X.stack s1 H1 ⟨us, []⟩ us vs Q hgd hr I1.env0 hbb r q) ?_)
  intro r' s' hq
  match r', hq with
  | .error _, hq => exact hq.elim
  | .ok (.ret _), hq => exact I1.after hq
  | .ok .next, hq => exact hq.elim
  | .ok .brk, hq => exact hq.elim
  | .ok .cont, hq => exact hq.elim
/-! ## repr of data -/
/-- what may be shown: its ints are not too great, and the text is not too long -/
def Shows (d : PyData) : Prop := d.showable = true ∧ d.hasDict = false ∧ d.depth ≤ 40 ∧ d.shown.length ≤ sizeLine
theorem call_reprD {j : Nat} (hgd : X.A.guards = some []) (hr : Room j X.A) :
    CallR X (.builtin "repr") (fun xs H Q => ∃ a d, xs = [.ref a] ∧ Dp X.K H (.ref a) d ∧ Shows d ∧ Q (.str d.shown) H) := by
  intro pins s σ H xs us Q I r h
  obtain ⟨a, d, rfl, hd, ⟨h1, h2, h3, h4⟩, q⟩ := h
  obtain ⟨u, rfl, rfl⟩ := vals1 r
  obtain ⟨as, rd⟩ := Dp.reads I d (.ref a) (.ref a) hd rfl
  have hu := hr.units
  refine repr_of_reads' (h₀ := s.heap) rd h1 (fun z => ?_) hgd (by omega) (fun _ _ z => z) (fun h' u tk hk => ?_) h4
  · rw [h2] at z; cases z
  · exact ⟨.str d.shown, H, I.kept hk, ⟨u, rfl⟩, q⟩
end
end Sg
set_option Elab.async false
set_option linter.all false
set_option maxRecDepth 100000
set_option maxHeartbeats 4000000
namespace Sg
open PySem PySem.Spec PyProof.Rows L2
/-! ## the law's own call -/
section
variable {P : Program} {w : World} {K : PySem.W.Frag} {mg mb : Str → Option Value} {k : Nat} {fa a : Addr}
variable {fd : FuncData} {x : Str} {sp : Sp} {s₁ : Shared} {vs : List Value} {ns : List Int}
/-- what is asked of the law's call -/
abbrev Ended (s₁ : Shared) : Result → Shared → Prop := fun r s' =>
  r = .ok (.ret (.bool true)) ∧ OldK s₁.heap s'.heap ∧ s'.os = s₁.os ∧ AllBare s'.gens
theorem call_from {H : Hp} (KX : K.In s₁.heap) (hns : s₁.heap.Ns mainGlobals mg) (hb : s₁.heap.Ns builtinsNs mb)
    (hbb : ∀ x : Str, x ≠ "__name__" → mb x = bootBuiltins x) (hlim : s₁.heap.NoLimit) (hg : s₁.gens = #[])
    (ha : s₁.heap.get? a = some { cls := .type "list", data := .seq vs.toArray }) (hr : Room k callerA)
    (F : ∀ base : Heap, K.In base → base.Ns mainGlobals mg → FnG P w K mg base k fa fd [x] sp)
    (hbind : ∀ (s : Shared) (u : Value), BindsTo s fd ⟨[u], []⟩ [(x, u)])
    (hsp : sp [.ref a] H (fun v _ => v = .bl true) E0) (hO : Only H) (hok : HOk P w H s₁.heap)
    (hA : ∀ b, H b ≠ none → b = a) (hK : H a ≠ none → K.lookup a = none) :
    codeAny (model P w) callerA (.call (.ref fa) ⟨[.ref a], []⟩) (Ended s₁) s₁ := by
  have only : ∀ {b : Addr} {u : HO}, H b = some u → b = a := fun z => hA _ (by rw [z]; exact fun q => nomatch q)
  have free : ∀ {b : Addr} {o : Obj} {es : Array DictEntry} {ep : Nat},
      s₁.heap.get? b = some o → o.data = .dict es ep → H b = none := by
    intro b o es ep e d
    rcases q : H b with _ | u
    · rfl
    · rw [only q, ha] at e
      have e' := Option.some.inj e
      rw [← e'] at d
      exact nomatch d
  have nsK : ∀ {b : Addr} {m : Str → Option Value}, s₁.heap.Ns b m → (hidT s₁.heap H).Ns b m := by
    rintro b m ⟨o, es, ep, e, d, r⟩
    exact ⟨o, es, ep, hidT_get e (free e d), d, r⟩
  have hKb : K.In (hidT s₁.heap H) := by
    intro b o e
    refine hidT_get (KX b o e) ?_
    rcases q : H b with _ | u
    · rfl
    · have e' := only q
      subst e'
      have z := hK (by rw [q]; exact fun q => nomatch q)
      rw [z] at e
      exact nomatch e
  have hM : Mod K mg (hidT s₁.heap H) := by
    refine ⟨hKb, nsK hns, ⟨mb, nsK hb, hbb⟩, ?_⟩
    obtain ⟨mc, h1, h2⟩ := hlim
    exact ⟨mc, nsK h1, h2⟩
  have e0 : Env0 P w K mg (hidT s₁.heap H) callerA [] s₁ H := by
    refine ⟨rfl, hM, fun b o e => of_hidT e, Nat.le_of_eq (hidT_size _ _), trivial, ?_, hok, .of_eq hg⟩
    intro b hb
    have hb' : b ∈ ([] : List Addr) := hb
    exact nomatch hb'
  have run := (F _ hKb (nsK hns)).go callerA [] s₁ H ⟨[.ref a], []⟩ [.ref a] [.ref a] _ rfl hr e0
    (hbind s₁ (.ref a)) (.cons rfl .nil) hsp
  refine codeAny_mono run ?_
  intro r s' h
  match r, h with
  | .error _, h => exact h.elim
  | .ok .next, h => exact h.elim
  | .ok .brk, h => exact h.elim
  | .ok .cont, h => exact h.elim
  | .ok (.ret u), h =>
    obtain ⟨v, H', os, bare, un, hok', r', q⟩ := h
    have q' : v = .bl true := q
    subst q'
    have eu : u = Value.bool true := r'
    subst eu
    refine ⟨rfl, OldK.of_keep ?_, os, bare⟩
    intro b o e
    rcases q : H b with _ | u
    · refine un.keep b o e q (fun z => ?_) (fun z => nomatch z)
      have z' : b ∈ ([] : List Addr) := z
      exact nomatch z'
    · rcases hO b with z | ⟨ob, xs, z⟩
      · rw [q] at z; exact nomatch z
      · obtain ⟨e1, _⟩ := hok b _ z
        obtain ⟨e2, _⟩ := hok' b _ (un.frzs b ob _ z)
        rw [e] at e1
        rw [e2, Option.some.inj e1]
theorem call_law (KX : K.In s₁.heap) (hns : s₁.heap.Ns mainGlobals mg) (hb : s₁.heap.Ns builtinsNs mb)
    (hbb : ∀ x : Str, x ≠ "__name__" → mb x = bootBuiltins x) (hlim : s₁.heap.NoLimit) (hg : s₁.gens = #[])
    (ha : s₁.heap.get? a = some { cls := .type "list", data := .seq vs.toArray }) (hi : IntsAre vs ns)
    (hl : ns.length ≤ sizeLine) (hr : Room k callerA)
    (F : ∀ base : Heap, K.In base → base.Ns mainGlobals mg → FnG P w K mg base k fa fd [x] sp)
    (hbind : ∀ (s : Shared) (u : Value), BindsTo s fd ⟨[u], []⟩ [(x, u)])
    (hsp : ∀ H : Hp, Only H → SqL K H a (ns.map V.int) → sp [.ref a] H (fun v _ => v = .bl true) E0) :
    codeAny (model P w) callerA (.call (.ref fa) ⟨[.ref a], []⟩) (Ended s₁) s₁ := by
  have rv := vals_ints hi
  have lenV := hi.length
  rcases hk : K.lookup a with _ | o
  · let H : Hp := fun b => if b = a then some (.frz { cls := .type "list", data := .seq vs.toArray } (.lst (ns.map V.int))) else none
    have at_a : H a = some (.frz { cls := .type "list", data := .seq vs.toArray } (.lst (ns.map V.int))) := if_pos rfl
    have off : ∀ b, b ≠ a → H b = none := fun b hb => if_neg hb
    have onlyH : Only H := by
      intro b
      by_cases hb : b = a
      · exact .inr ⟨_, _, if_pos hb⟩
      · exact .inl (off b hb)
    refine call_from (H := H) KX hns hb hbb hlim hg ha hr F hbind (hsp H onlyH (.inl (.inr ⟨_, at_a⟩))) onlyH ?_ ?_ (fun _ => hk)
    · intro b u z
      by_cases hb : b = a
      · subst hb
        rw [at_a] at z
        obtain rfl := Option.some.inj z
        exact ⟨ha, by rw [List.length_map]; exact hl, vs, _, rv, ha⟩
      · rw [off b hb] at z; exact nomatch z
    · intro b z
      by_cases hb : b = a
      · exact hb
      · exact absurd (off b hb) z
  · have e := KX a o hk
    rw [ha] at e
    obtain rfl := Option.some.inj e
    refine call_from (H := fun _ => none) KX hns hb hbb hlim hg ha hr F hbind (hsp _ (fun _ => .inl rfl) (.inr ?_)) (fun _ => .inl rfl)
      (fun b u z => nomatch z) (fun b z => absurd rfl z) (fun z => absurd rfl z)
    exact ⟨_, vs.toArray, _, hk, rfl, rfl, rfl, by rw [List.size_toArray, lenV]; exact hl, rv⟩
end
/-- the end of a law's proof -/
theorem walk_law {l : PySem.W.OpenLaw} {k : Nat} {q : Program} {loose : List Str} {XP : (Str → Option Value) → Heap → Prop}
    {YP : World → Heap → Prop} {d : DefRec} {K : Params → PySem.W.Frag} {sp : PySem.W.Frag → Sp} {x : Str}
    (hn : l.most = some 63) (hdf : d.params.defaults = []) (hr : Room k callerA)
    (hY : ∀ (w : World) (h : Heap), YP w h → (K w.params).In h)
    (F : ∀ (w : World) (mg : Str → Option Value) (fa : Addr) (h : Heap), (K w.params).In h → h.Ns mainGlobals mg →
      mg d.name = some (.ref fa) → ∃ fd : FuncData, (∀ (s : Shared) (u : Value), BindsTo s fd ⟨[u], []⟩ [(x, u)]) ∧
        ∀ base : Heap, (K w.params).In base → base.Ns mainGlobals mg →
          FnG l.prog w (K w.params) mg base k fa fd [x] (sp (K w.params)))
    (hsp : ∀ (K : PySem.W.Frag) (H : Hp) (a : Addr) (ns : List Int), ns.length ≤ 63 → Only H → SqL K H a (ns.map V.int) →
      sp K [.ref a] H (fun v _ => v = .bl true) E0) :
    PySem.W.WalkO q loose XP YP l.row.toRowW d [] (fun f vs => PySem.call f vs) := by
  refine Att.attach_call hn hdf ?_
  intro w s₀ s₁ mg mb fa o pm cd doc a vs ns G Y ho hd hcd hmg hobj hints hlen hg
  obtain ⟨fd, hb, hF⟩ := F w mg fa _ (hY w _ Y) G.T.g hmg
  exact call_law (hY w _ Y) G.T.g G.T.b G.T.builtins G.T.nolimit hg hobj hints
    (Nat.le_trans hlen (by decide)) hr hF hb (fun H hO hS => hsp _ H a ns hlen hO hS)
end Sg
set_option Elab.async false
set_option linter.all false
set_option maxRecDepth 100000
set_option maxHeartbeats 4000000
namespace PySem
open Sem (wp)
open AutoSeq1 (wpAny_loadPart')
/-- enumerate(t), t a tuple: its two new cells -/
theorem sg_enum_new (l : Addr) (items : Array Value) :
    Meets (Builtin.«enumerate.__new__» ⟨[.type "enumerate", .ref l], []⟩) (fun _ R s => s.heap.IsTuple l items ∧
      R (.ok (.ret (.ref (s.heap.push { cls := .type "tuple_iterator", data := .fields #[.ref l, .int 0 0] }).objs.size)))
        { s with heap := ((s.heap.push { cls := .type "tuple_iterator", data := .fields #[.ref l, .int 0 0] }).push { cls := .type "enumerate", data := .fields #[.none, .bool false, .ref s.heap.objs.size, rawInt 0, .none, .none] }) }) := by
  refine .of_wp ?_
  intro prog w A R s h
  obtain ⟨hp, g, d, tk, os⟩ := s
  obtain ⟨hT, h⟩ := h
  obtain ⟨o, hl, hc, n, hd⟩ := id hT
  have hsub := sub_enumerate
  wp_walk using wpAny_loadPart' hl
  refine wpAny_stack_any fun st => wpAny_pure ?_
  split
  · rename_i c _ _ _ _ _
    rcases hcc : (c == Value.type "enumerate") with _ | _ <;>
    · wp_walk using wpAny_loadPart' hl, wpAny_pyIter_tuple hT
      exact ⟨_, rfl, h⟩
  · wp_walk using wpAny_loadPart' hl, wpAny_pyIter_tuple hT
    exact ⟨_, rfl, h⟩
section
variable {prog : Program} {w : World} {A : Around} {E : Value → Shared → Prop} {s : Shared}
theorem sg_call_enum {l : Addr} {items : Array Value} {Q : Value → Shared → Prop} (hL : s.heap.IsTuple l items)
    (h : ∀ h', IsEnum h' (s.heap.objs.size + 1) s.heap.objs.size 0 .none → h'.IsTupleIter s.heap.objs.size l 0 →
      (∀ b o, s.heap.get? b = some o → h'.get? b = some o) → Q (.ref (s.heap.objs.size + 1)) { s with heap := h' }) :
    wpAny (model prog w) A (call (.type "enumerate") [.ref l]) Q E s := by
  refine callType_new F.called_enumerate (by decide) (F.typeCall_enumerate_1 _) (F.newCall_enumerate_1 _)
    (fun obj => F.args_object_init_2 obj _) F.entry_enumerate_new (sg_enum_new l items) ⟨hL, ?_⟩
  let o1 : Obj := { cls := .type "tuple_iterator", data := .fields #[.ref l, .int 0 0] }
  have hz : (s.heap.push o1).objs.size = s.heap.objs.size + 1 := Heap.size_push ..
  show _ ∧ _
  rw [hz]
  have he : IsEnum ((s.heap.push o1).push { cls := .type "enumerate", data := .fields #[.none, .bool false, .ref s.heap.objs.size, rawInt 0, .none, .none] })
      (s.heap.objs.size + 1) s.heap.objs.size 0 .none := by
    have z := Heap.get?_push_size (s.heap.push o1)
      (o := { cls := .type "enumerate", data := .fields #[.none, .bool false, .ref s.heap.objs.size, rawInt 0, .none, .none] }) rfl
    rw [hz] at z
    exact z
  refine ⟨⟨_, he, rfl⟩, h _ he ⟨_, Heap.get?_push_of_some _ (Heap.get?_push_size _ rfl), rfl, rfl⟩ ?_⟩
  intro b o x
  exact Heap.get?_push_of_some _ (Heap.get?_push_of_some _ x)
end
end PySem
namespace Sg
open PySem PySem.Spec PyProof.Rows L2
/-- the tuple at a, item by item, each in a new pair with its place -/
def ItE (K : PySem.W.Frag) (a : Addr) : It :=
  ⟨fun i H => ∃ (xs : List V) (x : V), SqT K H a xs ∧ xs[i]? = some x,
   fun i H v H' => ∃ T x, v = .ref T ∧ H T = none ∧ H' = upd H T (.tup [.int (i : Nat), x]) ∧ ∀ xs, SqT K H a xs → xs[i]? = some x,
   fun i H => ∃ xs : List V, SqT K H a xs ∧ xs.length ≤ i⟩
theorem turn_enumT {P : Program} {w : World} {K : PySem.W.Frag} {elts : List Expr} {kk : Nat} {tpos : Pos} (a e it : Addr) :
    Turn P w K (.Tuple elts kk tpos) (ItE K a) [e, it] e
      (fun i h => (∃ old, IsEnum h e it ((i : Nat) : Int) old) ∧ h.IsTupleIter it a i ∧ e ≠ it) := by
  have two : ∀ {b : Addr}, b ∈ [e, it] → b = e ∨ b = it := fun {b} hb => by simpa using hb
  refine ⟨by simp, ?_, ?_, ?_, ?_, ?_⟩
  · rintro i h ⟨⟨old, he⟩, ⟨o, ho, hc, hd⟩, _⟩ b hb
    rcases two hb with rfl | rfl
    · exact ⟨_, he, fun v q => nomatch q⟩
    · refine ⟨o, ho, fun v q => ?_⟩
      rw [hd] at q
      exact nomatch q
  · rintro i h h' ⟨⟨old, he⟩, hi, hne⟩ k
    exact ⟨⟨old, k e (by simp) _ he⟩, hi.at fun o q => k it (by simp) o q, hne⟩
  · intro X hP hw hK hc i pins s σ H E I hf st hg
    subst hP hw hK
    obtain ⟨⟨old, he⟩, hit, hne⟩ := st
    obtain ⟨xs, x, hq, hx⟩ := hg
    obtain ⟨its, rv, p, hz⟩ := I.tuple hq
    obtain ⟨u, hu, ru⟩ := rv.get hx
    have hel : e < s.heap.objs.size := Heap.lt_size he
    have hil : it < s.heap.objs.size := by obtain ⟨_, q, _⟩ := hit; exact Heap.lt_size q
    have hai : a ≠ it := by
      rintro rfl
      obtain ⟨o, ho, hcl, _⟩ := p
      obtain ⟨o', ho', hcl', _⟩ := hit
      rw [ho] at ho'
      obtain rfl := Option.some.inj ho'
      rw [hcl] at hcl'
      exact absurd hcl' (by decide)
    have hae : e ≠ a := by
      rintro rfl
      obtain ⟨o, ho, hcl, _⟩ := p
      have he' : s.heap.get? e = _ := he
      rw [ho] at he'
      obtain rfl := Option.some.inj he'
      have z : ("enumerate" : String) = "tuple" := Value.type.inj hcl
      exact absurd z (by decide)
    have hlt : i < its.length := (List.getElem?_eq_some_iff.mp hu).1
    refine wpAny_pyNext_enum_itemD (Draws.tuple (A := X.A.in1) (I.ok.hd hc) it a hai its.toArray) he ⟨hit, p⟩
      (by simpa using hlt) hne (by simp [hne, hae]) ?_
    intro x' h' tk hP ho hs' hT hsz hk
    have hxu : x' = u := by
      have z : its[i]? = some x' := by simpa using hP
      rw [hu] at z
      exact (Option.some.inj z).symm
    subst hxu
    refine ⟨_, rfl, wpAny_letOwnedTupleGo_enum (s := { s with heap := h', toks := tk + 1 }) ho ?_⟩
    intro h'' he' sb
    have hT2 : h''.get? s.heap.objs.size = some { cls := .type "tuple", data := .seq #[.int i tk, x'] } :=
      (sb.2 _ (Nat.ne_of_gt hel)).trans hT
    have new : ObjOk X.prog X.w (upd H s.heap.objs.size (.tup [.int (i : Nat), x])) h'' s.heap.objs.size (.tup [.int (i : Nat), x]) := by
      refine ⟨by show 2 ≤ sizeLine; decide, [.int i tk, x'], .cons ⟨_, rfl⟩ (.cons ru .nil), ⟨_, hT2, rfl, _, rfl⟩⟩
    have I1 : Inv X pins σ (upd H s.heap.objs.size (.tup [.int (i : Nat), x])) { s with heap := h'', toks := tk + 1 } := by
      refine I.turnedNew (ch := [e, it]) ?_ hf (Nat.le_refl _) new
      intro b ob hb q
      have n1 : b ≠ e := fun z => hb (by simp [z])
      have n2 : b ≠ it := fun z => hb (by simp [z])
      exact (sb.2 b n1).trans (hk b ob n1 n2 q)
    refine ⟨.ref s.heap.objs.size, _, I1, rfl, ⟨_, x, rfl, I.hok.fresh (Nat.le_refl _), rfl, ?_⟩, ⟨⟨x', ?_⟩, ?_, hne⟩, ?_⟩
    · intro ys hy
      rw [I.tuple_inj hy hq]
      exact hx
    · have e1 : ((i + 1 : Nat) : Int) = (i : Int) + 1 := by omega
      rw [e1]
      exact he'
    · exact hs'.1.at fun o q => (sb.2 it (Ne.symm hne)).trans q
    · intro b hb
      have hb' : b < s.heap.objs.size := by
        rcases two hb with rfl | rfl
        · exact hel
        · exact hil
      rw [upd_ne (Nat.ne_of_lt hb')]
      exact (hf b hb).1
  · intro X hP hw hK hc i pins s σ H E I hf st hg
    subst hP hw hK
    obtain ⟨⟨old, he⟩, hit, hne⟩ := st
    obtain ⟨xs, hq, hx⟩ := hg
    obtain ⟨its, rv, p, hz⟩ := I.tuple hq
    obtain ⟨f0, f1, f2, f3, f4, f5⟩ := hf it (by simp)
    have hl := rv.length
    have hh : X.A.in1.in1.handled = none := I.ok.hd hc
    have hai : a ≠ it := by
      rintro rfl
      obtain ⟨o, ho, hcl, _⟩ := p
      obtain ⟨o', ho', hcl', _⟩ := hit
      rw [ho] at ho'
      obtain rfl := Option.some.inj ho'
      rw [hcl] at hcl'
      exact absurd hcl' (by decide)
    unfold pyNext
    have hTy : s.TypeIs (.ref e) "enumerate" := ⟨_, he, rfl⟩
    refine wpAny_bind (wpAny_attempt (wpAny_callSpecial?_slot (name := Str.ofString "__next__") hTy F.slot_enumerate_next
      (wpAny_call_entry F.slot_enumerate_next hTy F.entry_enumerate_next ?_ (F.args_enumerate_next_1 _))))
    show wpAny _ _ (field (.ref e) 2 >>= _) _ _ _
    refine wpAny_bind (wpAny_field he rfl (x := .ref it) rfl ?_)
    refine wpAny_bind (wpAny_nextOf_tuple_end hh hit p (by simp; omega) ?_)
    rintro h' x he' ⟨o, ho, hcl⟩
    refine wpAny_bind (wpAny_isInstance (T := "StopIteration") (b := true) ⟨o, ho, hcl⟩ isSubtype_stop (wpAny_pure ?_))
    exact ⟨rfl, I.turned (t' := s.toks) (fun b o hb q => he' b o hb q) f0 f1 f3 f4 f5⟩
  · intro A i s Q E st h
    obtain ⟨⟨_, he⟩, _⟩ := st
    exact wpAny_pyIter_enum he h
def iEnT (K : PySem.W.Frag) (ta : TA) : TI := fun σ H R => ta σ H fun vs H1 => ∃ a xs, vs = [.ref a] ∧ SqT K H1 a xs ∧ R (ItE K a) H1
theorem pi_enumT {X : Cx} {e : Expr} {ta : TA} {p pos tpos : Pos} {elts : List Expr} {kk : Nat} (hg : Gl X "enumerate")
    (hm : X.mg "enumerate" = none) (ha : PA X [e] ta) (hs : starEach [e] X.env = [(false, eval e X.env)] := by rfl) :
    PI X (.Tuple elts kk tpos) (.Call (.Name "enumerate" p) [e] [] pos) (iEnT X.K ta) := by
  constructor
  intro pins s σ H R I h
  refine Call_ (ld_blt I hg hm boot_enumerate (PyProof.Rows.callWith_type1 (thn (ha.run pos pins s σ H _ I h) ?_) hs rfl))
  rintro us s1 ⟨vs, H1, I1, r1, a, xs, rfl, hq, q⟩
  obtain ⟨u, rfl, rfl⟩ := vals1 r1
  obtain ⟨its, rv, p', hz⟩ := I1.tuple hq
  refine sg_call_enum p' ?_
  intro h' he hit hk
  refine wpAny_pyIter_enum he ?_
  have I2 : Inv X pins σ H1 { s1 with heap := h' } := I1.kept (t' := s1.toks) hk
  refine ⟨s1.heap.objs.size + 1, [s1.heap.objs.size + 1, s1.heap.objs.size], _, _, H1, rfl, I2,
    turn_enumT a (s1.heap.objs.size + 1) s1.heap.objs.size, ⟨⟨.none, he⟩, hit, Nat.succ_ne_self _⟩, ?_, q⟩
  intro b hb
  have hle : s1.heap.objs.size ≤ b := by
    have e' : b = s1.heap.objs.size + 1 ∨ b = s1.heap.objs.size := by simpa using hb
    rcases e' with rfl | rfl
    · exact Nat.le_succ _
    · exact Nat.le_refl _
  exact I1.fpOk hle (I1.hok.fresh hle)
end Sg
set_option Elab.async false
set_option linter.all false
set_option maxRecDepth 100000
set_option maxHeartbeats 4000000
namespace Sg
open PySem PySem.Spec PyProof.Rows L2
/-! ## [c for a in t for b in a for c in b], tuples all the way down -/
/-- slots that agree but for those of ws -/
def Ag (ws : List Nat) (σ σ' : L2.St) : Prop := σ'.length = σ.length ∧ ∀ j, j ∉ ws → σ'[j]? = σ[j]?
theorem Ag.refl (ws : List Nat) (σ : L2.St) : Ag ws σ σ := ⟨rfl, fun _ _ => rfl⟩
theorem Ag.trans {ws : List Nat} {a b c : L2.St} (h : Ag ws a b) (k : Ag ws b c) : Ag ws a c := ⟨k.1.trans h.1, fun j hj => (k.2 j hj).trans (h.2 j hj)⟩
theorem Ag.set {ws : List Nat} {σ : L2.St} {k : Nat} {v : Option V} (hk : k ∈ ws) : Ag ws σ (σ.set k v) := ⟨List.length_set, fun j hj => by
  rw [List.getElem?_set_ne]
  rintro rfl
  exact hj hk⟩
theorem Ag.mono {ws us : List Nat} {σ σ' : L2.St} (h : Ag ws σ σ') (k : ∀ j ∈ ws, j ∈ us) : Ag us σ σ' := ⟨h.1, fun j hj => h.2 j fun z => hj (k j z)⟩
/-- a turn of a loop of a comprehension without tests -/
def flatTurn (e : Expr) (d : Nat) (it D : Addr) (n : Str) (p pos : Pos) (bd : Sem Fin → Sem Fin) (env : Env) : Sem Fin :=
  standAt pos >>= fun _ => pyNext (.ref it) >>= fun r => match r with
    | none => pure (.done .next)
    | some v => letOwnedTupleGo (.Name n p) (.ref it) v >>= fun _ => assign (.Name n p) env v >>= fun _ =>
      bd (again (.compLoop e d (.ref it) (.ref D) env))
section
variable {Z : Cx} {elt : Expr} {gens : List Comprehension} {scope : Scope} {cpos p pos : Pos} {d k : Nat} {it D c : Addr} {n : Str} {bd : Sem Fin → Sem Fin}
variable {R : Result → Shared → Prop} {xs : List V} {pins : List (Addr × Obj)} {ws : List Nat}
theorem flat_loop (hxe : Z.xe = fun _ _ => False) (hcalm : Z.calm = true) (hN : Z.N.Nodup)
    (hturn : compTurn (.ListComp elt gens scope cpos) d (.ref it) (.ref D) Z.env = flatTurn (.ListComp elt gens scope cpos) d it D n p pos bd Z.env)
    (hk : Z.N[k]? = some n) (hloc : Loc Z.env.scope n) (hfn : Z.fn n = true ∨ Z.env.scope.names.lookup n = some .local) (hkw : k ∈ ws)
    (σ : L2.St) (G : Nat → Hp → Prop) (hG : ∀ i H, i ≤ xs.length → G i H → SqT Z.K H c xs) (hfp : ∀ H, H it = none → FpOk Z pins H it)
    (hbd : ∀ i x s σ' H, xs[i]? = some x → G i H → H it = none → Inv Z (pins ++ pinsAt [it] s.heap) σ' H s → σ'[k]? = some (some x) → Ag ws σ σ' →
      ∀ (kk : Sem Fin) (Qf : Fin → Shared → Prop) (Ef : Value → Shared → Prop),
        (∀ s' σ'' H', Inv Z (pins ++ pinsAt [it] s.heap) σ'' H' s' → Ag ws σ σ'' → G (i + 1) H' → wpAny (model Z.prog Z.w) Z.A kk Qf Ef s') → wpAny (model Z.prog Z.w) Z.A (bd kk) Qf Ef s)
    (hfin : ∀ s' σ' H', Inv Z pins σ' H' s' → Ag ws σ σ' → G xs.length H' → R (.ok .next) s')
    {s : Shared} {σ₀ : L2.St} {H₀ : Hp} (I₀ : Inv Z pins σ₀ H₀ s) (ag₀ : Ag ws σ σ₀) (g₀ : G 0 H₀) (n₀ : H₀ it = none) (st₀ : s.heap.IsTupleIter it c 0) :
    codeAny (model Z.prog Z.w) Z.A (.compLoop (.ListComp elt gens scope cpos) d (.ref it) (.ref D) Z.env) R s := by
  have T := turn_tuple (P := Z.prog) (w := Z.w) (K := Z.K) (tg := .Name n p) c it
  have hb1 : ∀ {H : Hp}, H it = none → ∀ b ∈ [it], FpOk Z pins H b := by
    intro H hn b hb
    rw [List.mem_singleton.mp hb]
    exact hfp H hn
  refine codeAny_loop rfl (fun m s' => ∃ i σ' H', Inv Z pins σ' H' s' ∧ Ag ws σ σ' ∧ G i H' ∧ H' it = none ∧ s'.heap.IsTupleIter it c i ∧ i ≤ xs.length ∧ m = xs.length - i) ?_ xs.length
    ⟨0, σ₀, H₀, I₀, ag₀, g₀, n₀, st₀, Nat.zero_le _, rfl⟩
  rintro m s1 ⟨i, σ1, H1, I1, ag1, g1, n1, st1, hi, rfl⟩
  show wpAny _ Z.A ((compTurn (.ListComp elt gens scope cpos) d (.ref it) (.ref D) Z.env).onRaise (fun x => do noteFrame x Z.env; theTreesLotGoes x)) _ _ s1
  refine wpAny_noted ?_
  rw [hturn]
  refine wpAny_bind (wpAny_standAt (wpAny_bind ?_))
  have hq := hG i H1 hi g1
  by_cases hlt : i < xs.length
  · have go := T.item Z rfl rfl rfl hcalm i pins s1 σ1 H1 (fun _ _ => False) I1 (hb1 n1) st1 ⟨xs, xs[i], hq, List.getElem?_eq_getElem hlt⟩
    refine thnF go ?_
    rintro r s2 ⟨u, rfl, h2⟩
    refine wpAny_bind (thnF h2 ?_)
    rintro _ s3 ⟨x, H3, I3, r3, ⟨eH, hy⟩, st3, n3⟩
    subst eH
    have hx : xs[i]? = some x := hy xs hq
    have n3' : H3 it = none := n3 it (List.mem_singleton.mpr rfl)
    have I3' := I3.pinned (hb1 n3') (T.obj _ _ st3)
    have ia := (pg_name (X := Z) (pos := p) hN hk hloc hfn).run _ s3 σ1 H3 x u (fun σ' H' => σ' = σ1.set k (some x) ∧ H' = H3) I3' r3 ⟨rfl, rfl⟩
    rw [hxe] at ia
    refine wpAny_bind (thnF ia ?_)
    rintro _ s4 ⟨σ4, H4, I4, rfl, rfl⟩
    obtain ⟨o, ho, hoc⟩ := T.obj _ _ st3 it (List.mem_singleton.mpr rfl)
    have pin4 := I4.pin (it, o) (List.mem_append_right _ (List.mem_append_right _ (mem_pinsAt (List.mem_singleton.mpr rfl) ho)))
    have ep : pinsAt [it] s3.heap = pinsAt [it] s4.heap := by
      unfold pinsAt
      rw [List.filterMap_cons, List.filterMap_cons, ho, pin4.1]
      rfl
    rw [ep] at I4
    have hσ4 : (σ1.set k (some x))[k]? = some (some x) := by
      have hkl : k < σ1.length := by rw [I1.len]; exact (List.getElem?_eq_some_iff.mp hk).1
      rw [List.getElem?_set_self hkl]
    refine hbd i x s4 _ _ hx g1 n3' I4 hσ4 (ag1.trans (Ag.set hkw)) _ _ _ ?_
    intro s5 σ5 H5 I5 ag5 g5
    have pin5 := I5.pin (it, o) (List.mem_append_right _ (List.mem_append_right _ (mem_pinsAt (List.mem_singleton.mpr rfl) pin4.1)))
    have st5 : s5.heap.IsTupleIter it c (i + 1) := T.keep _ _ _ st3 (by
      intro b hb o' e
      rw [List.mem_singleton.mp hb] at e ⊢
      rw [ho] at e
      rw [← Option.some.inj e]
      exact pin5.1)
    exact wpAny_pure ⟨rfl, xs.length - (i + 1), by omega, i + 1, σ5, H5, I5.unpinned, ag5, g5, pin5.2.1, st5, hlt, rfl⟩
  · have e : i = xs.length := by omega
    subst e
    have stop := T.done Z rfl rfl rfl hcalm xs.length pins s1 σ1 H1 (fun _ _ => False) I1 (hb1 n1) st1 ⟨xs, hq, Nat.le_refl _⟩
    refine thnF stop ?_
    rintro r s2 ⟨rfl, I2⟩
    exact wpAny_pure (hfin s2 σ1 H1 I2 ag1 g1)
end
/-! ### the three clauses -/
abbrev flatE (n1 n2 n3 : Str) (iter : Expr) (scope : Scope) (q1 q2 q3 a1 a2 a3 pos : Pos) : Expr :=
  .ListComp (.Name n3 a3) [⟨.Name n1 q1, iter, [], 0⟩, ⟨.Name n2 q2, .Name n1 a1, [], 0⟩, ⟨.Name n3 q3, .Name n2 a2, [], 0⟩] scope pos
section
variable {n1 n2 n3 : Str} {iter : Expr} {scope : Scope} {q1 q2 q3 a1 a2 a3 pos : Pos} {it D : Addr} {env : Env}
abbrev downBody (e i : Expr) (d : Nat) (D : Addr) (env : Env) (kk : Sem Fin) : Sem Fin := eval i env >>= fun x => standAt i.pos >>= fun _ =>
  foldedSetIterable i env x >>= fun x => holding [x] (pyIter x) >>= fun it' => runOwn (.compStart e d it' (.ref D) env) env >>= fun _ => kk
abbrev addBody (elt : Expr) (D : Addr) (env : Env) (kk : Sem Fin) : Sem Fin :=
  (eval elt env >>= fun x => call (.builtin "list.append") [.ref D, x] >>= fun _ => pure ()) >>= fun _ => kk
theorem flat_t0 : compTurn (flatE n1 n2 n3 iter scope q1 q2 q3 a1 a2 a3 pos) 0 (.ref it) (.ref D) env =
    flatTurn (flatE n1 n2 n3 iter scope q1 q2 q3 a1 a2 a3 pos) 0 it D n1 q1 iter.pos (downBody (flatE n1 n2 n3 iter scope q1 q2 q3 a1 a2 a3 pos) (.Name n1 a1) 1 D env) env := by rfl
theorem flat_t1 : compTurn (flatE n1 n2 n3 iter scope q1 q2 q3 a1 a2 a3 pos) 1 (.ref it) (.ref D) env =
    flatTurn (flatE n1 n2 n3 iter scope q1 q2 q3 a1 a2 a3 pos) 1 it D n2 q2 a1 (downBody (flatE n1 n2 n3 iter scope q1 q2 q3 a1 a2 a3 pos) (.Name n2 a2) 2 D env) env := by rfl
theorem flat_t2 : compTurn (flatE n1 n2 n3 iter scope q1 q2 q3 a1 a2 a3 pos) 2 (.ref it) (.ref D) env =
    flatTurn (flatE n1 n2 n3 iter scope q1 q2 q3 a1 a2 a3 pos) 2 it D n3 q3 a2 (addBody (.Name n3 a3) D env) env := by rfl
end
section
variable {prog : Program} {w : World} {A : Around} {R : Result → Shared → Prop} {s : Shared} {n1 n2 n3 : Str} {iter : Expr} {scope : Scope} {q1 q2 q3 a1 a2 a3 pos : Pos} {it acc : Value} {env : Env}
theorem flat_s1 (h0 : codeAny (model prog w) A (.compLoop (flatE n1 n2 n3 iter scope q1 q2 q3 a1 a2 a3 pos) 1 it acc env) R s)
    (h : wpAny (model prog w) A (pyIter it) (fun it' s' => codeAny (model prog w) A (.compLoop (flatE n1 n2 n3 iter scope q1 q2 q3 a1 a2 a3 pos) 1 it' acc env) R s') (notedBy (model prog w) A env fun x s' => R (.error x) s') s) :
    codeAny (model prog w) A (.compStart (flatE n1 n2 n3 iter scope q1 q2 q3 a1 a2 a3 pos) 1 it acc env) R s := by
  apply codeAny_of_tree
  show wpAny _ _ ((compStart (flatE n1 n2 n3 iter scope q1 q2 q3 a1 a2 a3 pos) 1 it acc env).onRaise (fun x => do noteFrame x env; standAt theWindowsPlace)) _ _ s
  apply wpAny_notedAt
  unfold compStart
  show wpAny _ _ (ask >>= _) _ _ s
  refine wpAny_bind (wpAny_askSetting (wpAny_ite ?_))
  split
  · first | exact wpAny_pure (And.intro rfl h0) | exact wpAny_bind (wpAny_pure (wpAny_pure (And.intro rfl h0)))
  · refine wpAny_bind (wpAny_rule ?_)
    show wpAny _ _ (standAt a1 >>= _) _ _ s
    exact wpAny_bind (wpAny_standAt (wpAny_bind (wpAny_mono h (fun it' s' h' => wpAny_pure (And.intro rfl h')) fun _ _ x => x)))
theorem flat_s2 (h0 : codeAny (model prog w) A (.compLoop (flatE n1 n2 n3 iter scope q1 q2 q3 a1 a2 a3 pos) 2 it acc env) R s)
    (h : wpAny (model prog w) A (pyIter it) (fun it' s' => codeAny (model prog w) A (.compLoop (flatE n1 n2 n3 iter scope q1 q2 q3 a1 a2 a3 pos) 2 it' acc env) R s') (notedBy (model prog w) A env fun x s' => R (.error x) s') s) :
    codeAny (model prog w) A (.compStart (flatE n1 n2 n3 iter scope q1 q2 q3 a1 a2 a3 pos) 2 it acc env) R s := by
  apply codeAny_of_tree
  show wpAny _ _ ((compStart (flatE n1 n2 n3 iter scope q1 q2 q3 a1 a2 a3 pos) 2 it acc env).onRaise (fun x => do noteFrame x env; standAt theWindowsPlace)) _ _ s
  apply wpAny_notedAt
  unfold compStart
  show wpAny _ _ (ask >>= _) _ _ s
  refine wpAny_bind (wpAny_askSetting (wpAny_ite ?_))
  split
  · first | exact wpAny_pure (And.intro rfl h0) | exact wpAny_bind (wpAny_pure (wpAny_pure (And.intro rfl h0)))
  · refine wpAny_bind (wpAny_rule ?_)
    show wpAny _ _ (standAt a2 >>= _) _ _ s
    exact wpAny_bind (wpAny_standAt (wpAny_bind (wpAny_mono h (fun it' s' h' => wpAny_pure (And.intro rfl h')) fun _ _ x => x)))
end
end Sg
set_option Elab.async false
set_option linter.all false
set_option maxRecDepth 100000
set_option maxHeartbeats 4000000
namespace Sg
open PySem PySem.Spec PyProof.Rows L2
/-- cells are tuples; xs are all their items -/
inductive FlatL (K : PySem.W.Frag) (H : Hp) : List V → List V → Prop
  | nil : FlatL K H [] []
  | cons {a : Addr} {ys cells xs : List V} : SqT K H a ys → FlatL K H cells xs → FlatL K H (.ref a :: cells) (ys ++ xs)
/-- rows are tuples of tuples; xs are all the items of these -/
inductive FlatR (K : PySem.W.Frag) (H : Hp) : List V → List V → Prop
  | nil : FlatR K H [] []
  | cons {a : Addr} {cells ys rows xs : List V} : SqT K H a cells → FlatL K H cells ys → FlatR K H rows xs → FlatR K H (.ref a :: rows) (ys ++ xs)
section
variable {K : PySem.W.Frag} {H : Hp}
theorem FlatL.snoc {a : Addr} {ys : List V} (h : SqT K H a ys) : ∀ {cells xs : List V}, FlatL K H cells xs → FlatL K H (cells ++ [.ref a]) (xs ++ ys)
  | _, _, .nil => by have z := FlatL.cons h .nil; rwa [List.append_nil] at z
  | _, _, .cons h1 r => by rw [List.append_assoc]; exact .cons h1 (FlatL.snoc h r)
theorem FlatR.snoc {a : Addr} {cells ys : List V} (h : SqT K H a cells) (hl : FlatL K H cells ys) : ∀ {rows xs : List V}, FlatR K H rows xs → FlatR K H (rows ++ [.ref a]) (xs ++ ys)
  | _, _, .nil => by have z := FlatR.cons h hl .nil; rwa [List.append_nil] at z
  | _, _, .cons h1 h2 r => by rw [List.append_assoc]; exact .cons h1 h2 (FlatR.snoc h hl r)
theorem FlatL.same {H' : Hp} (e : Same H H') : ∀ {cells xs : List V}, FlatL K H cells xs → FlatL K H' cells xs
  | _, _, .nil => .nil
  | _, _, .cons h r => .cons (h.imp (fun z => z.imp (e _ _) fun ⟨o, z⟩ => ⟨o, e _ _ z⟩) id) (FlatL.same e r)
theorem FlatR.same {H' : Hp} (e : Same H H') : ∀ {rows xs : List V}, FlatR K H rows xs → FlatR K H' rows xs
  | _, _, .nil => .nil
  | _, _, .cons h l r => .cons (h.imp (fun z => z.imp (e _ _) fun ⟨o, z⟩ => ⟨o, e _ _ z⟩) id) (FlatL.same e l) (FlatR.same e r)
theorem sqT_new {D a : Addr} {o : HO} {ys : List V} (n : H D = none) (h : SqT K H a ys) : SqT K (upd H D o) a ys :=
  h.imp (fun z => z.imp (fun z => by rw [upd_ne (ne_of_none z n)]; exact z) fun ⟨u, z⟩ => ⟨u, by rw [upd_ne (ne_of_none z n)]; exact z⟩) id
end
section
variable {Z : Cx} {n1 n2 n3 : Str} {iter : Expr} {scope : Scope} {q1 q2 q3 a1 a2 a3 pos : Pos} {k1 k2 k3 : Nat}
/-- what the block says of its names -/
structure FlatN (Z : Cx) (n1 n2 n3 : Str) (k1 k2 k3 : Nat) : Prop where
  xe : Z.xe = fun _ _ => False
  calm : Z.calm = true
  nd : Z.N.Nodup
  h1 : Z.N[k1]? = some n1
  h2 : Z.N[k2]? = some n2
  h3 : Z.N[k3]? = some n3
  l1 : Z.env.scope.names.lookup n1 = some .local
  l2 : Z.env.scope.names.lookup n2 = some .local
  l3 : Z.env.scope.names.lookup n3 = some .local
  d1 : (n1 == ("__debug__" : Str)) = false
  d2 : (n2 == ("__debug__" : Str)) = false
  d3 : (n3 == ("__debug__" : Str)) = false
  c1 : (n1 == ("__classdict__" : Str)) = false
  c2 : (n2 == ("__classdict__" : Str)) = false
  c3 : (n3 == ("__classdict__" : Str)) = false
/-- the innermost loop -/
theorem flat_in (B : FlatN Z n1 n2 n3 k1 k2 k3) {pins : List (Addr × Obj)} {σ : L2.St} {H : Hp} {s : Shared} {R : Result → Shared → Prop} {it D c : Addr} {acc xs : List V}
    (hn : H D = none) (hc : SqT Z.K H c xs) (hz : acc.length + xs.length ≤ 1000000) (I : Inv Z pins σ (upd H D (.lst acc)) s) (st : s.heap.IsTupleIter it c 0) (hit : (upd H D (.lst acc)) it = none)
    (hfp : ∀ H, H it = none → FpOk Z pins H it)
    (fin : ∀ s' σ', Inv Z pins σ' (upd H D (.lst (acc ++ xs))) s' → Ag [k3] σ σ' → R (.ok .next) s') :
    codeAny (model Z.prog Z.w) Z.A (.compLoop (flatE n1 n2 n3 iter scope q1 q2 q3 a1 a2 a3 pos) 2 (.ref it) (.ref D) Z.env) R s := by
  refine flat_loop B.xe B.calm B.nd flat_t2 B.h3 (.inl B.l3) (.inr B.l3) (List.mem_singleton.mpr rfl) σ (fun i H' => H' = upd H D (.lst (acc ++ xs.take i)))
    (fun i H' _ e => by rw [e]; exact sqT_new hn hc) hfp (fun i x s1 σ1 H1 hx e hi I1 hk ag kk Qf Ef cont => ?_) (fun s' σ' H' I' ag e => ?_) I (Ag.refl _ _) (by rw [List.take_zero, List.append_nil]) hit st
  · subst e
    have ev := (pe_var (pos := a3) (X := Z) B.h3 (.inl B.l3) B.d3 B.c3).run _ s1 σ1 _ (fun v H2 => v = x ∧ H2 = upd H D (.lst (acc ++ xs.take i))) I1 ⟨x, hk, rfl, rfl⟩
    rw [B.xe] at ev
    refine wpAny_bind (wpAny_bind (thnF ev ?_))
    rintro u s2 ⟨v, H2, I2, r2, rfl, rfl⟩
    have lt : (acc ++ xs.take i).length < sizeLine := by
      have h4 : sizeLine = 16777216 := sizeLine_eq
      rw [List.length_append, List.length_take]
      have := Nat.min_le_right i xs.length
      omega
    refine wpAny_bind (app_ok (X := Z) I2 upd_same lt r2 fun s3 I3 => wpAny_pure ?_)
    rw [upd_upd] at I3
    refine cont s3 σ1 _ I3 ag ?_
    rw [List.take_add_one, hx, List.append_assoc]
    rfl
  · subst e
    rw [List.take_length] at I'
    exact fin s' σ' I' ag
/-- down a level: name, iterator, loop -/
theorem flat_down {pins : List (Addr × Obj)} {σ : L2.St} {H : Hp} {s : Shared} {c : Addr} {ys : List V} {nn : Str} {aa : Pos} {e : Expr} {d k : Nat} {D : Addr} {kk : Sem Fin} {Qf : Fin → Shared → Prop} {Ef : Value → Shared → Prop}
    (hxe : Z.xe = fun _ _ => False) (hN : Z.N[k]? = some nn) (hl : Z.env.scope.names.lookup nn = some .local) (hd : (nn == ("__debug__" : Str)) = false) (hcd : (nn == ("__classdict__" : Str)) = false)
    (I : Inv Z pins σ H s) (hk : σ[k]? = some (some (.ref c))) (hq : SqT Z.K H c ys)
    (go : ∀ s1 it, Inv Z pins σ H s1 → H it = none → (∀ H, H it = none → FpOk Z pins H it) → s1.heap.IsTupleIter it c 0 →
      codeAny (model Z.prog Z.w) Z.A (.compStart e d (.ref it) (.ref D) Z.env) (fun r s' => r = .ok .next ∧ wpAny (model Z.prog Z.w) Z.A kk Qf Ef s') s1) :
    wpAny (model Z.prog Z.w) Z.A (downBody e (.Name nn aa) d D Z.env kk) Qf Ef s := by
  have ev := (pe_var (pos := aa) (X := Z) hN (.inl hl) hd hcd).run _ s σ H (fun v H2 => v = .ref c ∧ H2 = H) I ⟨.ref c, hk, rfl, rfl⟩
  rw [hxe] at ev
  refine wpAny_bind (thnF ev ?_)
  rintro u s2 ⟨v, H2, I2, r2, rfl, rfl⟩
  obtain rfl : u = Value.ref c := r2
  refine wpAny_bind (wpAny_standAt (wpAny_bind (wpAny_of_eq (a := Value.ref c) rfl (wpAny_bind (wpAny_holding ?_)))))
  obtain ⟨its, rv, p, hz⟩ := I2.tuple hq
  refine wpAny_pyIter_tuple (show s2.heap.IsTuple c its.toArray from p) ?_
  refine wpAny_bind (wpAny_runOwn ?_)
  rw [Around.mark_none]
  have I3 : Inv Z pins σ H2 { s2 with heap := s2.heap.push { cls := .type "tuple_iterator", data := .fields #[.ref c, .int 0 0] } } := I2.kept (t' := s2.toks) fun b o e => Heap.get?_push_of_some _ e
  refine codeAny_mono (go _ s2.heap.objs.size I3 (I2.hok.fresh (Nat.le_refl _)) (fun H' h => I2.fpOk (Nat.le_refl _) h) ⟨_, Heap.get?_push_size _ rfl, rfl, rfl⟩) ?_
  rintro r s' ⟨rfl, hkk⟩
  exact hkk
/-- the middle loop -/
theorem flat_mid (B : FlatN Z n1 n2 n3 k1 k2 k3) {pins : List (Addr × Obj)} {σ : L2.St} {H : Hp} {s : Shared} {R : Result → Shared → Prop} {it D c : Addr} {acc cells xs : List V}
    (hn : H D = none) (hc : SqT Z.K H c cells) (hf : FlatL Z.K H cells xs) (hz : acc.length + xs.length ≤ 1000000) (I : Inv Z pins σ (upd H D (.lst acc)) s) (st : s.heap.IsTupleIter it c 0) (hit : (upd H D (.lst acc)) it = none)
    (hfp : ∀ H, H it = none → FpOk Z pins H it)
    (fin : ∀ s' σ', Inv Z pins σ' (upd H D (.lst (acc ++ xs))) s' → Ag [k2, k3] σ σ' → R (.ok .next) s') :
    codeAny (model Z.prog Z.w) Z.A (.compLoop (flatE n1 n2 n3 iter scope q1 q2 q3 a1 a2 a3 pos) 1 (.ref it) (.ref D) Z.env) R s := by
  refine flat_loop (ws := [k2, k3]) B.xe B.calm B.nd flat_t1 B.h2 (.inl B.l2) (.inr B.l2) (List.mem_cons_self) σ
    (fun i H' => ∃ pre suf ys zs, cells = pre ++ suf ∧ pre.length = i ∧ FlatL Z.K H pre ys ∧ FlatL Z.K H suf zs ∧ xs = ys ++ zs ∧ H' = upd H D (.lst (acc ++ ys)))
    (fun i H' _ ⟨_, _, _, _, _, _, _, _, _, e⟩ => by rw [e]; exact sqT_new hn hc) hfp (fun i x s1 σ1 H1 hx e hi I1 hk ag kk Qf Ef cont => ?_) (fun s' σ' H' I' ag e => ?_) I (Ag.refl _ _)
    ⟨[], cells, [], xs, rfl, rfl, .nil, hf, rfl, by rw [List.append_nil]⟩ hit st
  · obtain ⟨pre, suf, ys, zs, ec, el, f1, f2, ex, rfl⟩ := e
    cases f2 with
    | nil =>
      rw [ec, List.append_nil, ← el, List.getElem?_eq_none (Nat.le_refl _)] at hx
      exact nomatch hx
    | @cons b bs suf' zs' hb r =>
      have xb : x = .ref b := by
        rw [ec, ← el, List.getElem?_append_right (Nat.le_refl _), Nat.sub_self] at hx
        exact (Option.some.inj hx).symm
      subst xb
      have zl : acc.length + ys.length + bs.length ≤ 1000000 := by
        rw [ex, List.length_append, List.length_append] at hz
        omega
      refine flat_down B.xe B.h2 B.l2 B.d2 B.c2 I1 hk (sqT_new hn hb) fun s2 it2 I2 n2' fp2 st2 => ?_
      have loop : codeAny (model Z.prog Z.w) Z.A (.compLoop (flatE n1 n2 n3 iter scope q1 q2 q3 a1 a2 a3 pos) 2 (.ref it2) (.ref D) Z.env) (fun r s' => r = .ok .next ∧ wpAny (model Z.prog Z.w) Z.A kk Qf Ef s') s2 := by
        refine flat_in B hn hb (by rw [List.length_append]; exact zl) I2 st2 n2' fp2 fun s3 σ3 I3 ag3 => ⟨rfl, ?_⟩
        refine cont s3 σ3 _ I3 (ag.trans (ag3.mono (by simp))) ⟨pre ++ [.ref b], suf', ys ++ bs, zs', by rw [ec, List.append_assoc]; rfl, by rw [List.length_append, el]; rfl, FlatL.snoc hb f1, r, by rw [ex, List.append_assoc], by rw [List.append_assoc]⟩
      exact flat_s2 loop (wpAny_pyIter_tupleiter st2 loop)
  · obtain ⟨pre, suf, ys, zs, ec, el, f1, f2, ex, rfl⟩ := e
    have es : suf = [] := by
      have z := congrArg List.length ec
      rw [List.length_append, el] at z
      exact List.eq_nil_of_length_eq_zero (by omega)
    subst es
    cases f2
    rw [List.append_nil] at ex
    subst ex
    exact fin s' σ' I' ag
/-- the outer loop -/
theorem flat_out (B : FlatN Z n1 n2 n3 k1 k2 k3) {σ : L2.St} {H : Hp} {s : Shared} {R : Result → Shared → Prop} {it D c : Addr} {rows xs : List V}
    (hn : H D = none) (hc : SqT Z.K H c rows) (hf : FlatR Z.K H rows xs) (hz : xs.length ≤ 1000000) (I : Inv Z [] σ (upd H D (.lst [])) s) (st : s.heap.IsTupleIter it c 0) (hit : (upd H D (.lst [])) it = none)
    (hfp : ∀ H, H it = none → FpOk Z [] H it)
    (fin : ∀ s' σ', Inv Z [] σ' (upd H D (.lst xs)) s' → R (.ok .next) s') :
    codeAny (model Z.prog Z.w) Z.A (.compLoop (flatE n1 n2 n3 iter scope q1 q2 q3 a1 a2 a3 pos) 0 (.ref it) (.ref D) Z.env) R s := by
  refine flat_loop (ws := [k1, k2, k3]) B.xe B.calm B.nd flat_t0 B.h1 (.inl B.l1) (.inr B.l1) (List.mem_cons_self) σ
    (fun i H' => ∃ pre suf ys zs, rows = pre ++ suf ∧ pre.length = i ∧ FlatR Z.K H pre ys ∧ FlatR Z.K H suf zs ∧ xs = ys ++ zs ∧ H' = upd H D (.lst ys))
    (fun i H' _ ⟨_, _, _, _, _, _, _, _, _, e⟩ => by rw [e]; exact sqT_new hn hc) hfp (fun i x s1 σ1 H1 hx e hi I1 hk ag kk Qf Ef cont => ?_) (fun s' σ' H' I' ag e => ?_) I (Ag.refl _ _)
    ⟨[], rows, [], xs, rfl, rfl, .nil, hf, rfl, rfl⟩ hit st
  · obtain ⟨pre, suf, ys, zs, ec, el, f1, f2, ex, rfl⟩ := e
    cases f2 with
    | nil =>
      rw [ec, List.append_nil, ← el, List.getElem?_eq_none (Nat.le_refl _)] at hx
      exact nomatch hx
    | @cons b bcells bs suf' zs' hb hbl r =>
      have xb : x = .ref b := by
        rw [ec, ← el, List.getElem?_append_right (Nat.le_refl _), Nat.sub_self] at hx
        exact (Option.some.inj hx).symm
      subst xb
      have zl : ys.length + bs.length ≤ 1000000 := by
        rw [ex, List.length_append, List.length_append] at hz
        omega
      refine flat_down B.xe B.h1 B.l1 B.d1 B.c1 I1 hk (sqT_new hn hb) fun s2 it2 I2 n2' fp2 st2 => ?_
      have loop : codeAny (model Z.prog Z.w) Z.A (.compLoop (flatE n1 n2 n3 iter scope q1 q2 q3 a1 a2 a3 pos) 1 (.ref it2) (.ref D) Z.env) (fun r s' => r = .ok .next ∧ wpAny (model Z.prog Z.w) Z.A kk Qf Ef s') s2 := by
        refine flat_mid B hn hb hbl zl I2 st2 n2' fp2 fun s3 σ3 I3 ag3 => ⟨rfl, ?_⟩
        refine cont s3 σ3 _ I3 (ag.trans (ag3.mono (by simp))) ⟨pre ++ [.ref b], suf', ys ++ bs, zs', by rw [ec, List.append_assoc]; rfl, by rw [List.length_append, el]; rfl, FlatR.snoc hb hbl f1, r, by rw [ex, List.append_assoc], rfl⟩
      exact flat_s1 loop (wpAny_pyIter_tupleiter st2 loop)
  · obtain ⟨pre, suf, ys, zs, ec, el, f1, f2, ex, rfl⟩ := e
    have es : suf = [] := by
      have z := congrArg List.length ec
      rw [List.length_append, el] at z
      exact List.eq_nil_of_length_eq_zero (by omega)
    subst es
    cases f2
    rw [List.append_nil] at ex
    subst ex
    exact fin s' σ' I'
end
end Sg
set_option Elab.async false
set_option linter.all false
set_option maxRecDepth 100000
set_option maxHeartbeats 4000000
namespace Sg
open PySem PySem.Spec PyProof.Rows L2
/-- [c for a in e for b in a for c in b]: e a tuple of tuples of tuples -/
def tFlat (K : PySem.W.Frag) (te : TE) : TE := fun σ H Q => te σ H fun v H1 => ∃ t rows xs, v = .ref t ∧ SqT K H1 t rows ∧ FlatR K H1 rows xs ∧ xs.length ≤ 1000000 ∧
  ∀ D, H1 D = none → Q (.ref D) (upd H1 D (.lst xs))
section
variable {X : Cx} {n1 n2 n3 : Str} {iter : Expr} {scope : Scope} {q1 q2 q3 a1 a2 a3 pos : Pos} {k1 k2 k3 : Nat} {own : List (Str × Nat)} {te : TE}
theorem pe_flat (hc : X.calm = true) (hN : X.N.Nodup) (hi : PE X iter te) (ok : BlkOk X.N X.env.scope scope own)
    (h1 : X.N[k1]? = some n1) (h2 : X.N[k2]? = some n2) (h3 : X.N[k3]? = some n3)
    (l1 : ∀ (C : Addr) (cl : List (Str × Addr)), (compEnvC scope cl C X.env).scope.names.lookup n1 = some .local)
    (l2 : ∀ (C : Addr) (cl : List (Str × Addr)), (compEnvC scope cl C X.env).scope.names.lookup n2 = some .local)
    (l3 : ∀ (C : Addr) (cl : List (Str × Addr)), (compEnvC scope cl C X.env).scope.names.lookup n3 = some .local)
    (dd : ((n1 == ("__debug__" : Str)) || (n2 == ("__debug__" : Str)) || (n3 == ("__debug__" : Str)) || (n1 == ("__classdict__" : Str)) || (n2 == ("__classdict__" : Str)) || (n3 == ("__classdict__" : Str))) = false := by decide)
    (hs : ∀ x, foldedSetIterable iter X.env x = pure x := by intro _; rfl) :
    PE X (flatE n1 n2 n3 iter scope q1 q2 q3 a1 a2 a3 pos) (tFlat X.K te) := by
  simp only [Bool.or_eq_false_iff] at dd
  obtain ⟨⟨⟨⟨⟨d1, d2⟩, d3⟩, c1⟩, c2⟩, c3⟩ := dd
  constructor
  intro pins s σ H Q I h
  rw [eval_ListComp]
  have hfree : ∀ y ∈ scope.names, y.2 = .free → ∃ c, X.env.cells.lookup y.1 = some c := by
    intro y hy e
    cases ok.free y hy e with
    | inl k => exact I.ok.has _ (.inl k)
    | inr k => exact I.ok.has _ (.inr k)
  refine wpAny_comprehension_free (use := none) rfl hs (closure_ok hfree) ok.kind (fun y hy e => by rw [ok.uniq y hy, e]) (thn (hi.run pins s σ H _ I h) ?_)
  rintro xv s1 ⟨v, H1, I1, r1, t, rows, xs, rfl, hq, hf, hz, q⟩
  obtain rfl : xv = Value.ref t := r1
  obtain ⟨its, rv, p, hzz⟩ := I1.tuple hq
  refine wpAny_pyIter_tuple (show s1.heap.IsTuple t its.toArray from p) ?_
  generalize hs2 : ({ s1 with heap := s1.heap.push { cls := .type "tuple_iterator", data := .fields #[.ref t, .int 0 0] } } : Shared) = s2
  have I2 : Inv X pins σ H1 s2 := by
    rw [← hs2]
    exact I1.kept (t' := s1.toks) fun b o e => Heap.get?_push_of_some _ e
  generalize hit : s1.heap.objs.size = it
  have st2 : s2.heap.IsTupleIter it t 0 := by
    rw [← hs2, ← hit]
    exact ⟨_, Heap.get?_push_size _ rfl, rfl, rfl⟩
  have nn2 : H1 it = none := I1.hok.fresh (Nat.le_of_eq hit)
  have lt2 : it < s2.heap.objs.size := by
    obtain ⟨_, e, _⟩ := st2
    exact Heap.lt_size e
  have f2 : ∀ H', H' it = none → FpOk X pins H' it := fun H' hn => I1.fpOk (Nat.le_of_eq hit) hn
  refine wpAny_newObj_type (newEnv_comp ?_) (by show 0 ≤ sizeLine; decide)
  generalize hD : s2.heap.objs.size = D
  have hDn : H1 D = none := I2.hok.fresh (Nat.le_of_eq hD)
  generalize hs3 : ({ s2 with heap := s2.heap.push { cls := .type "list", data := .seq ([] : List Value).toArray } } : Shared) = s3
  have I3 : Inv X pins σ (upd H1 D (.lst [])) s3 := by
    rw [← hs3]
    refine I2.laid (t' := s2.toks) (fun b o e => Heap.get?_push_of_some _ e) (Nat.le_of_eq hD) ⟨Nat.zero_le _, [], 0, .nil, ?_⟩
    rw [← hD]
    exact Heap.get?_push_size _ rfl
  have k3' : ∀ b o, s2.heap.get? b = some o → s3.heap.get? b = some o := by
    intro b o e
    rw [← hs3]
    exact Heap.get?_push_of_some _ e
  have st3 : s3.heap.IsTupleIter it t 0 := st2.at fun o e => k3' it o e
  have lt3 : it < s3.heap.objs.size := by
    obtain ⟨_, e, _⟩ := st3
    exact Heap.lt_size e
  have nit : (upd H1 D (.lst [])) it = none := by
    rw [upd_ne (by rw [← hD]; exact Nat.ne_of_lt lt2)]
    exact nn2
  have I4 := block_start (fp := [it]) I3 ok hN (by
    intro b hb
    rw [List.mem_singleton.mp hb]
    exact ⟨f2 _ nit, lt3⟩)
  show codeAny _ _ (.compStart (flatE n1 n2 n3 iter scope q1 q2 q3 a1 a2 a3 pos) 0 (.ref it) (.ref D) (compEnvC scope (cellsFrom (s3.heap.objs.size + 1) scope.names (cloFrom X.env.cells scope.names [])) s3.heap.objs.size X.env))
    (compPost (model X.prog X.w) X.A X.xe none (EP X pins σ Q) (.ref D) s3.heap.objs.size) { s3 with heap := pushCells (s3.heap.push { cls := .type "dict", data := .dict #[] }) scope.names }
  have hl1 := l1 s3.heap.objs.size (cellsFrom (s3.heap.objs.size + 1) scope.names (cloFrom X.env.cells scope.names []))
  have hl2 := l2 s3.heap.objs.size (cellsFrom (s3.heap.objs.size + 1) scope.names (cloFrom X.env.cells scope.names []))
  have hl3 := l3 s3.heap.objs.size (cellsFrom (s3.heap.objs.size + 1) scope.names (cloFrom X.env.cells scope.names []))
  have cL : (compEnvC scope (cellsFrom (s3.heap.objs.size + 1) scope.names (cloFrom X.env.cells scope.names [])) s3.heap.objs.size X.env).locals = s3.heap.objs.size := rfl
  generalize compEnvC scope (cellsFrom (s3.heap.objs.size + 1) scope.names (cloFrom X.env.cells scope.names [])) s3.heap.objs.size X.env = ce at I4 hl1 hl2 hl3 cL ⊢
  have st4 : (pushCells (s3.heap.push { cls := .type "dict", data := .dict #[] }) scope.names).IsTupleIter it t 0 :=
    st3.at fun o e => pushCells_keeps _ _ _ _ (Heap.get?_push_of_some _ e)
  generalize hs4 : ({ s3 with heap := pushCells (s3.heap.push { cls := .type "dict", data := .dict #[] }) scope.names } : Shared) = s4 at I4 ⊢
  have st4' : s4.heap.IsTupleIter it t 0 := by rw [← hs4]; exact st4
  have B : FlatN (X.blk s3 (upd H1 D (.lst [])) scope ce [it]) n1 n2 n3 k1 k2 k3 := ⟨rfl, hc, hN, h1, h2, h3, hl1, hl2, hl3, d1, d2, d3, c1, c2, c3⟩
  have fpZ : ∀ H', H' it = none → FpOk (X.blk s3 (upd H1 D (.lst [])) scope ce [it]) [] H' it := by
    intro H' hn
    refine ⟨hn, (I4.ok.exf it (List.mem_singleton.mpr rfl)).1, I4.ok.exfs it (List.mem_singleton.mpr rfl), .inl (List.mem_singleton.mpr rfl), (I4.ok.exf it (List.mem_singleton.mpr rfl)).2, ?_⟩
    intro p hp
    have hp' : p ∈ ([] : List (Addr × Obj)) ++ [] := hp
    exact nomatch hp'
  have loop : codeAny (model X.prog X.w) X.A (.compLoop (flatE n1 n2 n3 iter scope q1 q2 q3 a1 a2 a3 pos) 0 (.ref it) (.ref D) ce)
      (compPost (model X.prog X.w) X.A X.xe none (EP X pins σ Q) (.ref D) s3.heap.objs.size) s4 := by
    refine flat_out B hDn hq hf hz I4 st4' nit fpZ ?_
    intro s' σ' I5
    have I6 : Inv X pins σ (upd H1 D (.lst xs)) s' := by
      refine I3.call' (ch := [it]) I5.os I5.base I5.hok I5.bare ?_
      intro b hb
      rw [List.mem_singleton.mp hb]
      obtain ⟨_, g1, g2, g3, g4, g5⟩ := f2 _ nit
      exact ⟨g3, g1, g4, g5⟩
    have nC : (upd H1 D (.lst xs)) s3.heap.objs.size = none := by
      have z : (upd H1 D (.lst xs)) ce.locals = none := I5.free
      rw [cL] at z
      exact z
    obtain ⟨m, hn, _⟩ := I5.loc
    have hn' : s'.heap.Ns ce.locals m := hn
    rw [cL] at hn'
    refine ⟨m, hn', ?_⟩
    intro h'' sb
    obtain ⟨f0, f1, f2', f3, f4, f5⟩ := I3.fpOk (Nat.le_refl _) nC
    exact ⟨.ref D, _, I6.turned (t' := s'.toks) (fun b o hb e => (sb.2 b hb).trans e) f0 f1 f3 f4 f5, rfl, q D hDn⟩
  exact codeAny_compStart_list loop (wpAny_pyIter_tupleiter st4' loop)
end
end Sg
set_option Elab.async false
set_option linter.all false
set_option maxRecDepth 100000
set_option maxHeartbeats 4000000
namespace Sg
open PySem PySem.Spec PyProof.Rows L2
/-! ## max with a default -/
section
variable {X : Cx}
theorem cr_maxD (hc : X.calm = true) {j : Nat} (hr : Room j X.A) : CallRK X (.builtin "max") ["default"] (fun vs zs H Q => ∃ (a : Addr) (ns : List Int) (d : Int), vs = [.ref a] ∧ zs = [.int d] ∧ SqL X.K H a (ns.map V.int) ∧
    ∀ m : Int, (ns = [] → m = d) → (ns ≠ [] → m ∈ ns ∧ ∀ x ∈ ns, x ≤ m) → Q (.int m) H) := by
  intro pins s σ H xs zs us ws Q I r rz h
  obtain ⟨a, ns, d, rfl, rfl, hs, q⟩ := h
  obtain ⟨u, rfl, rfl⟩ := vals1 r
  obtain ⟨dv, rfl, td, rfl⟩ := vals1 rz
  obtain ⟨its, rv, hl, hzz⟩ := I.list hs
  have dp : DpAll X.K H (ns.map V.int) (ns.map PyData.int) := by
    clear hs q rv hl hzz
    induction ns with
    | nil => exact .nil
    | cons x r ih => exact .cons (.int x) ih
  obtain ⟨as, rd⟩ := Dp.readsAll I (ns.map PyData.int) _ its dp rv
  have al : PySem.W.AlikeAll (ns.map PyData.int) := by
    constructor
    · intro x hx y hy
      obtain ⟨i, _, rfl⟩ := List.mem_map.mp hx
      obtain ⟨j, _, rfl⟩ := List.mem_map.mp hy
      rfl
    · intro x hx z
      obtain ⟨i, _, rfl⟩ := List.mem_map.mp hx
      exact nomatch z
  have dep : PyData.depthAll (ns.map PyData.int) = 0 := by
    clear hs q rv hl rd al dp hzz
    induction ns with
    | nil => rfl
    | cons x r ih =>
      show max (PyData.depth (.int x)) (PyData.depthAll (r.map PyData.int)) = 0
      rw [ih]; rfl
  have hu := hr.units
  refine PySem.W.max_list_default (I.ok.hd hc) hl.isList (by simpa using rd) al (by rw [dep]; omega) (fun e h' tk hk => ?_) (fun y ys i v h' tk bs e hv hrd hk => ?_)
  · exact ⟨.int d, H, I.kept hk, ⟨_, rfl⟩, q d (fun _ => rfl) (fun z => absurd (List.map_eq_nil_iff.mp e) z)⟩
  · cases ns with
    | nil => exact nomatch e
    | cons n ns' =>
      obtain ⟨e1, e2⟩ := List.cons.inj e
      subst e1 e2
      rw [PySem.W.maxD_ints] at hrd
      cases hrd
      refine ⟨.int _, H, I.kept hk, ⟨_, rfl⟩, q _ (fun z => nomatch z) (fun _ => ?_)⟩
      have key : ∀ (l : List Int) (a : Int), (l.foldl max a = a ∨ l.foldl max a ∈ l) ∧ a ≤ l.foldl max a ∧ ∀ x ∈ l, x ≤ l.foldl max a := by
        intro l
        induction l with
        | nil => intro a; exact ⟨.inl rfl, Int.le_refl _, fun x hx => nomatch hx⟩
        | cons b l ih =>
          intro a
          obtain ⟨g1, g2, g3⟩ := ih (max a b)
          refine ⟨?_, by show a ≤ l.foldl max (max a b); omega, fun x hx => ?_⟩
          · show l.foldl max (max a b) = a ∨ l.foldl max (max a b) ∈ b :: l
            rcases g1 with g | g
            · rcases Int.le_total a b with z | z
              · right; rw [g, Int.max_eq_right z]; exact List.mem_cons_self
              · left; rw [g, Int.max_eq_left z]
            · exact .inr (List.mem_cons_of_mem _ g)
          · show x ≤ l.foldl max (max a b)
            rcases List.mem_cons.mp hx with rfl | z
            · omega
            · exact g3 x z
      obtain ⟨g1, g2, g3⟩ := key ns' n
      refine ⟨?_, fun x hx => ?_⟩
      · rcases g1 with g | g
        · rw [g]; exact List.mem_cons_self
        · exact List.mem_cons_of_mem _ g
      · rcases List.mem_cons.mp hx with rfl | z
        · exact g2
        · exact g3 x z
end
/-! ## operators of one's own -/
section
variable {X : Cx} {k : Nat} {C g : Addr} {fd : FuncData} {ps : List Str} {sp : Sp}
/-- an instance of C -/
def InsAt (H : Hp) (C a : Addr) : Prop := ∃ dx fs, H a = some (.ins C dx fs)
theorem insAt_look {pins : List (Addr × Obj)} {σ : L2.St} {H : Hp} {s : Shared} {a : Addr} (I : Inv X pins σ H s) (h : InsAt H C a) : ∃ ox od, PySem.W.InstAt s.heap a ox C od := by
  obtain ⟨dx, fs, h⟩ := h
  obtain ⟨mA, O, _⟩ := ins_get I.hok h
  obtain ⟨od, J, _⟩ := O.look
  exact ⟨_, _, J⟩
/-- a def called one C frame further in -/
theorem run_in1 {pins : List (Addr × Obj)} {σ : L2.St} {H : Hp} {s : Shared} {Q : VK} {us : List Value} {vs : List V} (F : FnOk X.prog X.w X.K X.mg X.base CX0 k g fd ps sp) (hr : Room (k + 1) X.A) (hb : Binds X.K fd ps [])
    (I : Inv X pins σ H s) (r : Vals vs us) (h : sp vs H Q E0) {E : Value → Shared → Prop} : wpAny (model X.prog X.w) X.A.in1 (call (.ref g) us) (EP X pins σ Q) E s := by
  have hl : (us ++ []).length = ps.length := by rw [List.append_nil, ← r.length]; exact F.len _ _ _ _ h
  have hbb := hb s us I.kIn hl
  rw [List.append_nil] at hbb
  refine wpAny_call (codeAny_mono (F.run X.A.in1 X.stack s H ⟨us, []⟩ us vs Q E0 hr.in1 I.env0.in1 hbb r h) ?_)
  intro r' s' hq
  match r', hq with
  | .error _, hq => exact hq.elim
  | .ok (.ret _), hq => exact I.after hq
  | .ok .next, hq => exact hq.elim
  | .ok .brk, hq => exact hq.elim
  | .ok .cont, hq => exact hq.elim
/-- len(a) -/
theorem call_lenO (F : FnOk X.prog X.w X.K X.mg X.base CX0 k g fd ps sp) (hr : Room (k + 1) X.A) (hb : Binds X.K fd ps []) (hs : PySem.W.findIn X.K (.ref C) "__len__" = some (some (.ref g))) (hf : PySem.W.isFn X.K (.ref g) = true) :
    CallR X (.builtin "len") (fun xs H Q => ∃ a, xs = [.ref a] ∧ InsAt H C a ∧ sp [.ref a] H (fun v H' => ∃ n : Nat, v = .int n ∧ n < 1000000 ∧ Q (.int n) H') E0) := by
  intro pins s σ H xs us Q I r h
  obtain ⟨a, rfl, ha, h⟩ := h
  obtain ⟨u, rfl, rfl⟩ := vals1 r
  obtain ⟨m, hF⟩ := I.fr
  obtain ⟨_, _, J⟩ := insAt_look I ha
  refine PySem.W.len_K hF I.ok.mod.kin J hs hf (thn (run_in1 (us := [.ref a]) (vs := [.ref a]) F hr hb I (.cons rfl .nil) h) ?_)
  rintro v s' ⟨x, H', I', rx, n, rfl, hn, q⟩
  obtain ⟨t, rfl⟩ := rx
  exact ⟨⟨by omega, by omega⟩, ⟨.int n, H', I'.tok _, ⟨_, rfl⟩, q⟩⟩
/-- the same as an FnR -/
theorem fnR_of {P : Program} {w : World} {K : PySem.W.Frag} {mg : Str → Option Value} {base : Heap} (F : FnOk P w K mg base CX0 k g fd ps sp) (hb : Binds K fd ps []) : FnR P w K mg base CX0 k g sp := by
  intro A outer s H us vs Q E hr e0 r h
  have hl : (us ++ []).length = ps.length := by rw [List.append_nil, ← r.length]; exact F.len _ _ _ _ h
  have KX : K.In s.heap := e0.mod.kin.keeps fun b o e => (e0.bs b o e).1
  have hbb := hb s us KX hl
  rw [List.append_nil] at hbb
  exact F.run A outer s H ⟨us, []⟩ us vs Q E hr e0 hbb r h
end
end Sg
set_option Elab.async false
set_option linter.all false
set_option maxRecDepth 100000
set_option maxHeartbeats 4000000
set_option Elab.async false
set_option linter.all false
set_option maxRecDepth 100000
set_option maxHeartbeats 4000000
namespace Sg
open PySem PySem.Spec PyProof.Rows L2 HT
/-! ## t[::-1] of a tuple -/
section
variable {prog : Program} {w : World} {A : Around} {E : Value → Shared → Prop} {s : Shared}
theorem slicePlaces_rev (n : Nat) : Builtin.Slice.slicePlaces ((n : Int) - 1) (-1) (-1) = n := by
  unfold Builtin.Slice.slicePlaces
  have h1 : ¬ ((-1 : Int) > 0) := by omega
  simp only [h1, if_false, Int.neg_neg, Int.ediv_one]
  split <;> omega
theorem sliceApplied_rev {sl : Addr} {vl vu vs : Value} {n : Nat} {Q : Int × Int × Nat → Shared → Prop} (hs : s.heap.IsSliceOf sl vl vu vs) (pl : IsPart vl none) (pu : IsPart vu none) (ps : IsPart vs (some (-1)))
    (h : Q ((n : Int) - 1, -1, n) s) : wpAny (model prog w) A (Builtin.Slice.sliceApplied (.ref sl) (pure (n : Int))) Q E s := by
  obtain ⟨os, hos, hcs, hds⟩ := id hs
  unfold Builtin.Slice.sliceApplied Builtin.Slice.sliceFields
  refine wpAny_bind (wpAny_bind (wpAny_field hos hds (x := vl) rfl (wpAny_bind (wpAny_field hos hds (x := vu) rfl (wpAny_bind (wpAny_field hos hds (x := vs) rfl (wpAny_pure ?_)))))))
  refine wpAny_bind (slicePart_ ps ?_)
  show wpAny _ _ (if ((-1 : Int) == 0) = true then _ else _) _ _ s
  rw [if_neg (by decide)]
  refine wpAny_bind (slicePart_ pl (wpAny_bind (slicePart_ pu (wpAny_bind (wpAny_pure ?_)))))
  show wpAny _ _ (pure ((n : Int) - 1, (-1 : Int), Builtin.Slice.slicePlaces ((n : Int) - 1) (-1) (-1))) _ _ s
  rw [slicePlaces_rev]
  exact wpAny_pure h
theorem filterMap_on {α β : Type} {f g : α → Option β} : ∀ {l : List α}, (∀ x ∈ l, f x = g x) → l.filterMap f = l.filterMap g
  | [], _ => rfl
  | x :: r, h => by
    rw [List.filterMap_cons, List.filterMap_cons, h x List.mem_cons_self, filterMap_on fun y hy => h y (List.mem_cons_of_mem _ hy)]
theorem pick_rev (xs : Array Value) : ((List.range xs.size).filterMap fun (m : Nat) => xs[(((xs.size : Int) - 1) + (m : Int) * (-1)).toNat]?).toArray = xs.toList.reverse.toArray := by
  have e1 : ∀ m ∈ List.range xs.size, xs[(((xs.size : Int) - 1) + (m : Int) * (-1)).toNat]? = xs[xs.size - 1 - m]? := by
    intro m hm
    have := List.mem_range.mp hm
    rw [show (((xs.size : Int) - 1) + (m : Int) * (-1)).toNat = xs.size - 1 - m from by omega]
  have e2 : ((List.range xs.size).map fun k => xs.size - 1 - k).filterMap (xs[·]?) = xs.toList.reverse := by
    rw [PySem.W.krv_range, List.filterMap_reverse, PySem.W.krv_all]
  rw [List.filterMap_map] at e2
  rw [← e2]
  congr 1
  exact filterMap_on (fun m hm => e1 m hm)
theorem getItem_tuple_rev {t sl : Addr} {items : Array Value} {vl vu vs : Value} {Q : Value → Shared → Prop} (ht : IsTup s.heap t items) (hs : s.heap.IsSliceOf sl vl vu vs) (pl : IsPart vl none) (pu : IsPart vu none) (ps : IsPart vs (some (-1)))
    (h : Q (.ref s.heap.objs.size) { s with heap := s.heap.push { cls := .type "tuple", data := .seq items.toList.reverse.toArray } })
    (hsz : items.size ≤ sizeLine) : wpAny (model prog w) A (getItem (.ref t) (.ref sl)) Q E s := by
  have htake : sizeOk (.seq items.toList.reverse.toArray) := by
    show items.toList.reverse.toArray.size ≤ sizeLine
    rw [List.size_toArray, List.length_reverse, Array.length_toList]
    exact hsz
  obtain ⟨os, hos, hcs, hds⟩ := id hs
  have hTs : s.TypeIs (.ref sl) "slice" := ⟨os, hos, hcs⟩
  unfold getItem
  try with_reducible refine wpAny_holding ?_
  first | refine wpAny_bind (wpAny_pure ?_) | skip
  refine wpAny_bind (wpAny_sequenceKey ht.typeIs (by decide) ?_)
  refine wpAny_bind (wpAny_callSpecial?_slot (name := Str.ofString "__getitem__") ht.typeIs PyProof.Rows.slot_tuple_getitem
    (wpAny_call_entry PyProof.Rows.slot_tuple_getitem ht.typeIs entry_tuple_getitem ?_ (args_tuple_getitem _ _)))
  show wpAny _ _ (Builtin.Tuple.tupleItemsOf (.ref t) >>= _) _ _ s
  refine wpAny_bind (tupleItemsOf_ ht ?_)
  refine wpAny_bind (wpAny_typeOf hTs ?_)
  rw [if_pos (by decide)]
  refine wpAny_bind (sliceApplied_rev hs pl pu ps ?_)
  have hno : ¬ ((((items.size : Int) - 1) == 0 && (-1 : Int) == 1 && items.size == items.size) = true) := by
    rw [show ((-1 : Int) == 1) = false from by decide, Bool.and_false, Bool.false_and]
    exact Bool.false_ne_true
  show wpAny _ _ (if (((items.size : Int) - 1) == 0 && (-1 : Int) == 1 && items.size == items.size) = true then _ else _) _ _ s
  rw [if_neg hno, pick_rev]
  first
    | exact wpAny_bind (m := Builtin.Tuple.tupleExact _) (wpAny_newObj_type (wpAny_pure ⟨_, rfl, wpAny_pure h⟩) htake)
    | exact wpAny_bind (m := Builtin.Tuple.tupleExact _) (wpAny_newObj_type (wpAny_bind (wpAny_pure (wpAny_pure ⟨_, rfl, wpAny_pure h⟩))) htake)
    | exact wpAny_bind (wpAny_bind (m := Builtin.Tuple.tupleExact _) (wpAny_newObj_type (wpAny_pure (wpAny_pure ⟨_, rfl, wpAny_pure h⟩)) htake))
    | exact wpAny_bind (wpAny_bind (m := Builtin.Tuple.tupleExact _) (wpAny_newObj_type (wpAny_pure ⟨_, rfl, wpAny_pure h⟩) htake))
end
def tRevT (K : PySem.W.Frag) (te : TE) : TE := fun σ H Q => te σ H fun x H1 => ∃ a xs, x = .ref a ∧ SqT K H1 a xs ∧ ∀ p, H1 p = none → Q (.ref p) (upd H1 p (.tup xs.reverse))
theorem pe_revT {X : Cx} {K : PySem.W.Frag} {e : Expr} {te : TE} {k : Nat} {p1 p2 p3 pos : Pos} (hK : X.K = K) (he : PE X e te) : PE X (.Subscript e (.Slice none none (some (.UnaryOp .USub (.Constant (.int 1) k p1) p2)) p3) pos) (tRevT K te) := by
  subst hK
  refine ⟨fun pins s σ H Q I h => ?_⟩
  refine Subscript_ (thn (he.run pins s σ H _ I h) fun v s1 ⟨x, H1, I1, r1, q1⟩ => ?_)
  obtain ⟨a, xs, ex, hx, q⟩ := q1
  subst ex
  cases r1
  have hst : PO X (some (.UnaryOp .USub (.Constant (.int 1) k p1) p2)) (tPart (tUn (rU fun i => .int (-i)) (tC (.int 1)))) := po_some (pe_un un_neg pe_int)
  refine wpAny_Slice (thn (po_none.run pins s1 σ H1 (fun o H2 => o = none ∧ H2 = H1) I1 ⟨rfl, rfl⟩) fun vl s2 ⟨l, H2, I2, pl, el, e2⟩ => ?_)
  subst el e2
  refine thn (po_none.run pins s2 σ H2 (fun o H3 => o = none ∧ H3 = H2) I2 ⟨rfl, rfl⟩) fun vu s3 ⟨u, H3, I3, pu, eu, e3⟩ => ?_
  subst eu e3
  refine thn (hst.run pins s3 σ H3 (fun o H4 => o = some (-1) ∧ H4 = H3) I3 ⟨1, rfl, -1, rfl, rfl, rfl⟩) fun vs s4 ⟨o, H4, I4, ps, eo, e4⟩ => ?_
  subst eo e4
  have I5 : Inv X pins σ H4 { s4 with heap := s4.heap.push { cls := .type "slice", data := .fields #[vl, vu, vs] } } := I4.kept (t' := s4.toks) fun b ob q => Heap.get?_push_of_some _ q
  obtain ⟨its, r, ht, hz⟩ := I5.tuple hx
  have hlen := r.length
  show wpAny (model X.prog X.w) X.A (subscriptTail e (.Slice none none (some (.UnaryOp .USub (.Constant (.int 1) k p1) p2)) p3) (.ref a) (.ref s4.heap.objs.size)) (EP X pins σ Q) X.xe { s4 with heap := s4.heap.push { cls := .type "slice", data := .fields #[vl, vu, vs] } }
  refine tail_any (ops := [.ref a, .ref s4.heap.objs.size]) ht.typeIs PyProof.Rows.slot_tuple_getitem.lookup ?_ (by with_unfolding_all rfl)
  refine getItem_tuple_rev ht (Heap.IsSliceOf.new _ vl vu vs) pl pu ps ?_ (by rw [List.size_toArray]; omega)
  refine ⟨.ref _, _, I5.laid (t' := s4.toks) (o := .tup xs.reverse) (fun b ob q => Heap.get?_push_of_some _ q) (Nat.le_refl _) ?_, rfl, q _ (I5.hok.fresh (Nat.le_refl _))⟩
  exact ⟨by rw [List.length_reverse]; exact hz, _, r.reverse, IsTup.new _ _⟩
end Sg
set_option Elab.async false
set_option linter.all false
set_option maxRecDepth 100000
set_option maxHeartbeats 4000000
set_option Elab.async false
set_option linter.all false
set_option maxRecDepth 100000
set_option maxHeartbeats 4000000
set_option Elab.async false
set_option linter.all false
set_option maxRecDepth 100000
set_option maxHeartbeats 4000000
namespace Sg
open PySem PySem.Spec PyProof.Rows L2
/-! ## min(xs, default=z), xs a list of data that are alike -/
theorem vals_back : ∀ {ys : List V} {us : List Value}, Vals ys us → ∀ {i : Nat} {v : Value}, us[i]? = some v → ∃ y, ys[i]? = some y ∧ RelV y v
  | _, _, .nil, i, v, e => nomatch e
  | _, _, .cons r t, 0, v, e => by
    cases e
    exact ⟨_, rfl, r⟩
  | _, _, .cons r t, i + 1, v, e => vals_back t (i := i) (by simpa using e)
theorem reads_back {h : Heap} : ∀ {us : List Value} {ds : List PyData} {as : List Addr}, ReadsAll h us ds as → ∀ {i : Nat} {v : Value}, us[i]? = some v → ∃ d bs, ds[i]? = some d ∧ Reads h v d bs
  | _, _, _, .nil, i, v, e => nomatch e
  | _, _, _, .cons r t, 0, v, e => by
    cases e
    exact ⟨_, _, rfl, r⟩
  | _, _, _, .cons r t, i + 1, v, e => reads_back t (i := i) (by simpa using e)
end Sg
set_option Elab.async false
set_option linter.all false
set_option maxRecDepth 100000
set_option maxHeartbeats 4000000
namespace Sg
open PySem PySem.Spec PyProof.Rows L2
/-! ## heaps -/
/-- all but p is as it was -/
def But (p : Addr) (H H' : Hp) : Prop := ∀ q o, q ≠ p → H q = some o → H' q = some o
theorem But.trans {p : Addr} {H H1 H2 : Hp} (a : But p H H1) (b : But p H1 H2) : But p H H2 := fun q o n h => b q o n (a q o n h)
theorem But.of {p : Addr} {H H' : Hp} (a : Same H H') : But p H H' := fun q o _ h => a q o h
theorem But.upd {p : Addr} {H : Hp} {o : HO} : But p H (upd H p o) := fun q u n h => by rw [upd_ne n]; exact h
theorem same_new {H : Hp} {p : Addr} {o : HO} (h : H p = none) : Same H (upd H p o) := fun b x e => by
  rw [upd_ne (ne_of_none e h)]
  exact e
/-- what is new behind a But is new ahead -/
theorem But.free {p q : Addr} {H H' : Hp} {u : HO} (e : But p H H') (hp : H p = some u) (hp' : ∃ v, H' p = some v) (h : H' q = none) : H q = none := by
  by_cases n : q = p
  · subst n
    obtain ⟨v, hv⟩ := hp'
    rw [hv] at h
    exact nomatch h
  · rcases z : H q with _ | o
    · rfl
    · rw [e q o n z] at h
      exact nomatch h
theorem But.tup {K : PySem.W.Frag} {p : Addr} {H H' : Hp} {a : Addr} {xs ys : List V} (e : But p H H') (hp : H p = some (.lst ys)) (h : SqT K H a xs) : SqT K H' a xs := by
  rcases h with (h | ⟨o, h⟩) | h
  · exact .inl (.inl (e _ _ (ne_of h hp (fun z => nomatch z)) h))
  · exact .inl (.inr ⟨o, e _ _ (ne_of h hp (fun z => nomatch z)) h⟩)
  · exact .inr h
theorem Same.tup {K : PySem.W.Frag} {H H' : Hp} {a : Addr} {xs : List V} (e : Same H H') (h : SqT K H a xs) : SqT K H' a xs := by
  rcases h with (h | ⟨o, h⟩) | h
  · exact .inl (.inl (e _ _ h))
  · exact .inl (.inr ⟨o, e _ _ h⟩)
  · exact .inr h
/-- a pen at p -/
def PenAt (H : Hp) (p : Addr) : Prop := ∃ a b c : Int, H p = some (.lst [.int a, .int b, .int c]) ∧ 0 ≤ b ∧ b < 2147483648
theorem PenAt.same {H H' : Hp} {p : Addr} (h : PenAt H p) (e : Same H H') : PenAt H' p := by
  obtain ⟨a, b, c, h1, h2⟩ := h
  exact ⟨a, b, c, e _ _ h1, h2⟩
theorem PenAt.tup {K : PySem.W.Frag} {p : Addr} {H H' : Hp} {a : Addr} {xs : List V} (h : PenAt H p) (e : But p H H') (q : SqT K H a xs) : SqT K H' a xs := by
  obtain ⟨_, _, _, h1, _⟩ := h
  exact e.tup h1 q
theorem PenAt.free {p q : Addr} {H H' : Hp} (h : PenAt H p) (h' : PenAt H' p) (e : But p H H') (n : H' q = none) : H q = none := by
  obtain ⟨_, _, _, h1, _⟩ := h
  obtain ⟨_, _, _, h2, _⟩ := h'
  exact e.free h1 ⟨_, h2⟩ n
theorem atI0 {x : V} {r : List V} : atI (x :: r) 0 = some x := atI_nat (j := 0) rfl
theorem atI1 {x y : V} {r : List V} : atI (x :: y :: r) 1 = some y := atI_nat (j := 1) rfl
theorem atI2 {x y z : V} {r : List V} : atI (x :: y :: z :: r) 2 = some z := atI_nat (j := 2) rfl
end Sg
set_option Elab.async false
set_option linter.all false
set_option maxRecDepth 100000
set_option maxHeartbeats 4000000
namespace Sg
open PySem PySem.Spec PyProof.Rows L2
/-! ## the mathematics of bars -/
/-- a work, as its items -/
structure IsWork (ns : List Int) : Prop where
  pos : 1 ≤ ns.length
  most : ns.length ≤ 60
  items : ∀ x ∈ ns, -1 ≤ x ∧ x ≤ 9
  head : ∀ x, ns[0]? = some x → x ≠ -1
  last : ∀ x, ns[ns.length - 1]? = some x → x ≠ -1
/-- a piece of other, d ticks behind one of one, clashes with it -/
def clashB (one other : List Int) (d : Nat) : Bool := ((one.drop d).zip other).any fun p => p.1 == p.2 && p.1 != -1
def barsN (one other : List Int) : List Nat := (List.range' 1 (one.length - 1)).filter (clashB one other)
theorem clashB_iff {one other : List Int} {d : Nat} : clashB one other d = true ↔ ∃ j x, one[d + j]? = some x ∧ other[j]? = some x ∧ x ≠ -1 := by
  unfold clashB
  rw [List.any_eq_true]
  constructor
  · rintro ⟨⟨x, y⟩, hm, h⟩
    obtain ⟨j, hj⟩ := List.mem_iff_getElem?.mp hm
    obtain ⟨h1, h2⟩ := List.getElem?_zip_eq_some.mp hj
    simp only [Bool.and_eq_true, beq_iff_eq, bne_iff_ne, ne_eq] at h
    rw [List.getElem?_drop] at h1
    exact ⟨j, x, h1, h.1 ▸ h2, h.2⟩
  · rintro ⟨j, x, h1, h2, h3⟩
    refine ⟨(x, x), List.mem_iff_getElem?.mpr ⟨j, List.getElem?_zip_eq_some.mpr ⟨by rw [List.getElem?_drop]; exact h1, h2⟩⟩, ?_⟩
    simp [h3]
/-! ### lists step by step -/
theorem filter_range'_succ (f : Nat → Bool) (a n : Nat) : (List.range' a (n + 1)).filter f = (List.range' a n).filter f ++ (if f (a + n) = true then [a + n] else []) := by
  rw [List.range'_concat, List.filter_append, Nat.one_mul]
  congr 1
  by_cases h : f (a + n) = true
  · rw [if_pos h, List.filter_cons_of_pos h]; rfl
  · rw [if_neg h, List.filter_cons_of_neg h]; rfl
/-- the bars found below 1 + n -/
def barsTo (one other : List Int) (n : Nat) : List Nat := (List.range' 1 n).filter (clashB one other)
theorem barsTo_len (one other : List Int) (n : Nat) : (barsTo one other n).length ≤ n := by
  unfold barsTo
  refine Nat.le_trans (List.length_filter_le _ _) ?_
  rw [List.length_range']
  exact Nat.le_refl _
abbrev nV (l : List Nat) : List V := l.map fun d => V.int (d : Nat)
theorem barsTo_yes {one other : List Int} {n : Nat} (h : clashB one other (1 + n) = true) : nV (barsTo one other (n + 1)) = nV (barsTo one other n) ++ [.int ((1 : Int) + n)] := by
  unfold nV barsTo
  rw [filter_range'_succ, if_pos h, List.map_append]
  have e : (((1 + n : Nat) : Int)) = (1 : Int) + n := by omega
  simp only [List.map_cons, List.map_nil, e]
theorem barsTo_no {one other : List Int} {n : Nat} (h : clashB one other (1 + n) = false) : barsTo one other (n + 1) = barsTo one other n := by
  unfold barsTo
  rw [filter_range'_succ, if_neg (by rw [h]; exact Bool.false_ne_true), List.append_nil]
/-- the pairs of a zip, looked at in turn -/
def hitsTo (one other : List Int) (d n : Nat) : List Bool := (((one.drop d).zip other).take n).map fun p => p.1 == p.2 && p.1 != -1
theorem hits_any (one other : List Int) (d : Nat) : (hitsTo one other d (min (one.drop d).length other.length)).any id = clashB one other d := by
  unfold hitsTo clashB
  rw [List.take_of_length_le (by rw [List.length_zip]; exact Nat.le_refl _), List.any_map]
  rfl
theorem hits_succ {one other : List Int} {d n : Nat} {x y : Int} (h1 : (one.drop d)[n]? = some x) (h2 : other[n]? = some y) : hitsTo one other d (n + 1) = hitsTo one other d n ++ [x == y && x != -1] := by
  unfold hitsTo
  rw [List.take_add_one, List.getElem?_zip_eq_some (z := (x, y)) |>.mpr ⟨h1, h2⟩, List.map_append]
  rfl
theorem hits_len (one other : List Int) (d n : Nat) : (hitsTo one other d n).length ≤ n := by
  unfold hitsTo
  rw [List.length_map, List.length_take]
  exact Nat.min_le_left _ _
end Sg
set_option Elab.async false
set_option linter.all false
set_option maxRecDepth 100000
set_option maxHeartbeats 4000000
namespace Sg
open PySem PySem.Spec PyProof.Rows L2
theorem walk_zipT {K : PySem.W.Frag} {a b : Addr} {xs ys : List V} {n : Nat} (hn : n = min xs.length ys.length) :
    Walk (RZ.ItzT K a b) n (fun H => SqT K H a xs ∧ SqT K H b ys) (YPair (fun i => xs[i]?) (fun i => ys[i]?)) := by
  subst hn
  constructor
  · intro i H hi q
    have h1 : i < xs.length := by omega
    have h2 : i < ys.length := by omega
    exact ⟨xs, ys, xs[i], ys[i], q.1, q.2, List.getElem?_eq_getElem h1, List.getElem?_eq_getElem h2⟩
  · intro H q
    exact ⟨xs, ys, q.1, q.2, by omega⟩
  · rintro i H v H' hi q ⟨T, x, z, h1, h2, h3, h4, h5⟩
    exact ⟨T, x, z, h1, h2, h3, h4 xs q.1, h5 ys q.2⟩
theorem walk_enumT {K : PySem.W.Frag} {a : Addr} {xs : List V} :
    Walk (ItE K a) xs.length (fun H => SqT K H a xs) (YPair (fun i => some (.int (i : Nat))) (fun i => xs[i]?)) := by
  constructor
  · intro i H hi q
    exact ⟨xs, xs[i], q, List.getElem?_eq_getElem hi⟩
  · intro H q
    exact ⟨xs, q, Nat.le_refl _⟩
  · rintro i H v H' hi q ⟨T, x, h1, h2, h3, h4⟩
    exact ⟨T, .int (i : Nat), x, h1, h2, h3, rfl, h4 xs q⟩
theorem cut_from (xs : List V) (d : Nat) : cutV xs (some (d : Int)) none = xs.drop d := by
  unfold cutV
  rw [HT.sIx_nat, HT.sIx_none]
  rcases Nat.le_total d xs.length with h | h
  · rw [Nat.min_eq_left h]
    exact List.take_of_length_le (by rw [List.length_drop]; exact Nat.le_refl _)
  · rw [Nat.min_eq_right h, List.drop_of_length_le (Nat.le_refl _), List.drop_of_length_le h]
    exact List.take_nil
section
variable {P : Program} {w : World} {K : PySem.W.Frag} {mg : Str → Option Value} {base : Heap}
theorem tyT {H : Hp} {a : Addr} {xs : List V} (h : SqT K H a xs) : TyX K H (.ref a) (.type "tuple") := by
  rcases h with (h | ⟨o, h⟩) | ⟨o, _, _, h, hc, _⟩
  · exact .base (.tup h)
  · exact .fTuple h
  · exact .kTuple h hc
/-- the module's numbers -/
structure Nums (mg : Str → Option Value) : Prop where
  nowhere : ∃ t, mg "NOWHERE" = some (.int (-1) t)
  stations : ∃ t, mg "STATIONS" = some (.int 10 t)
  most : ∃ t, mg "MOST_ITEMS" = some (.int 60 t)
def inR (x : Int) : Bool := decide (-1 ≤ x) && decide (x ≤ 9)
end
end Sg
set_option Elab.async false
set_option linter.all false
set_option maxRecDepth 100000
set_option maxHeartbeats 4000000
namespace Sg
open PySem PySem.Spec PyProof.Rows L2
/-! ## data that is shown -/
/-- data made of small ints, in lists and tuples, no deeper than n, of bulk b at most -/
structure Small (d : PyData) (n b : Nat) : Prop where
  sh : d.showable = true
  nd : d.hasDict = false
  dp : d.depth ≤ n
  lv : d.leavesShort 15 = true
  bk : d.bulk ≤ b
  ly : d.canLay0 = true
structure SmallAll (ds : List PyData) (n b : Nat) : Prop where
  sh : PyData.showableAll ds = true
  nd : PyData.hasDictAll ds = false
  dp : PyData.depthAll ds ≤ n
  lv : PyData.leavesShortAll 15 ds = true
  bk : PyData.bulkAll ds ≤ b
  ly : PyData.canLayAll0 ds = true
theorem Small.shows {d : PyData} {n b : Nat} (h : Small d n b) (hn : n ≤ 40) (hb : b ≤ 900000) : Shows d := by
  refine ⟨h.sh, h.nd, Nat.le_trans h.dp hn, ?_⟩
  have h1 := PyData.shown_le_bulk 15 (by decide) d h.lv
  have h2 := h.bk
  have h3 : (15 + 2) * d.bulk ≤ (15 + 2) * 900000 := Nat.mul_le_mul_left _ (Nat.le_trans h2 hb)
  have h4 : sizeLine = 16777216 := sizeLine_eq
  omega
theorem Small.shaped {d : PyData} {n b : Nat} (h : Small d n b) (hn : n ≤ 64) : SeqAt.shaped d = true := by
  unfold SeqAt.shaped
  rw [h.ly, decide_eq_true (Nat.le_trans h.dp hn)]
  rfl
theorem Small.list {ds : List PyData} {n b : Nat} (h : SmallAll ds n b) : Small (.list ds) (n + 1) b :=
  ⟨by simpa only [PyData.showable] using h.sh, by simpa only [PyData.hasDict] using h.nd, by simpa only [PyData.depth] using Nat.succ_le_succ h.dp,
    by simpa only [PyData.leavesShort] using h.lv, by simpa only [PyData.bulk] using h.bk, by simpa only [PyData.canLay0] using h.ly⟩
theorem Small.tuple {ds : List PyData} {n b : Nat} (h : SmallAll ds n b) : Small (.tuple ds) (n + 1) b :=
  ⟨by simpa only [PyData.showable] using h.sh, by simpa only [PyData.hasDict] using h.nd, by simpa only [PyData.depth] using Nat.succ_le_succ h.dp,
    by simpa only [PyData.leavesShort] using h.lv, by simpa only [PyData.bulk] using h.bk, by simpa only [PyData.canLay0] using h.ly⟩
theorem SmallAll.nil {n b : Nat} : SmallAll [] n b := ⟨by simp only [PyData.showableAll], by simp only [PyData.hasDictAll], by simp only [PyData.depthAll]; exact Nat.zero_le _,
  by simp only [PyData.leavesShortAll], by simp only [PyData.bulkAll]; exact Nat.zero_le _, by simp only [PyData.canLayAll0]⟩
theorem SmallAll.cons {d : PyData} {ds : List PyData} {n b c : Nat} (h : Small d n b) (r : SmallAll ds n c) : SmallAll (d :: ds) n (b + 1 + c) :=
  ⟨by simp only [PyData.showableAll, h.sh, r.sh, Bool.and_self], by simp only [PyData.hasDictAll, h.nd, r.nd, Bool.or_self], by simp only [PyData.depthAll]; exact Nat.max_le.mpr ⟨h.dp, r.dp⟩,
    by simp only [PyData.leavesShortAll, h.lv, r.lv, Bool.and_self], by simp only [PyData.bulkAll]; have h1 := h.bk; have h2 := r.bk; omega, by simp only [PyData.canLayAll0, h.ly, r.ly, Bool.and_self]⟩
theorem Small.int {i : Int} {n b : Nat} (h1 : -99999999999999 ≤ i) (h2 : i ≤ 99999999999999) : Small (.int i) n b := by
  refine ⟨?_, by simp only [PyData.hasDict], by simp only [PyData.depth]; exact Nat.zero_le _, ?_, by simp only [PyData.bulk]; exact Nat.zero_le _, by simp only [PyData.canLay0]⟩
  · simp only [PyData.showable, decide_eq_true_eq]
    have h3 : i.natAbs < 2 ^ 47 := by omega
    have h4 := PySem.Flt.log2_lt_of (show 0 < 47 by decide) h3
    omega
  · simp only [PyData.leavesShort, decide_eq_true_eq]
    have h6 : i.natAbs < 10 ^ 14 := by
      have e : (10 : Nat) ^ 14 = 100000000000000 := by decide
      rw [e]
      omega
    have h5 := int_text_length_le10 (k := 14) (by decide) h6
    show (Str.ofString (toString i)).length ≤ 15
    rw [PySem.ofString_length]
    exact h5
theorem Small.mono {d : PyData} {n m b c : Nat} (h : Small d n b) (hn : n ≤ m) (hb : b ≤ c) : Small d m c := ⟨h.sh, h.nd, Nat.le_trans h.dp hn, h.lv, Nat.le_trans h.bk hb, h.ly⟩
theorem SmallAll.mono {d : List PyData} {n m b c : Nat} (h : SmallAll d n b) (hn : n ≤ m) (hb : b ≤ c) : SmallAll d m c := ⟨h.sh, h.nd, Nat.le_trans h.dp hn, h.lv, Nat.le_trans h.bk hb, h.ly⟩
abbrev iD (ns : List Int) : List PyData := ns.map PyData.int
theorem SmallAll.ints {n : Nat} : ∀ (ns : List Int), (∀ x ∈ ns, -99999999999999 ≤ x ∧ x ≤ 99999999999999) → SmallAll (iD ns) n ns.length
  | [], _ => .nil
  | x :: r, h => by
    have h1 := h x List.mem_cons_self
    have h2 := SmallAll.cons (Small.int (n := n) (b := 0) h1.1 h1.2) (SmallAll.ints r fun y hy => h y (List.mem_cons_of_mem _ hy))
    exact h2.mono (Nat.le_refl _) (by show 0 + 1 + r.length ≤ r.length + 1; omega)
theorem dpInts {K : PySem.W.Frag} {H : Hp} : ∀ (ns : List Int), DpAll K H (ns.map V.int) (iD ns)
  | [] => .nil
  | x :: r => .cons (.int x) (dpInts r)
abbrev nI (l : List Nat) : List Int := l.map fun d => ((d : Nat) : Int)
theorem nV_eq (l : List Nat) : nV l = (nI l).map V.int := by rw [List.map_map]; rfl
section
variable {P : Program} {w : World} {K : PySem.W.Frag} {mg : Str → Option Value} {base : Heap}
/-! ### _law_same -/
def spSame (K : PySem.W.Frag) : Sp := fun vs H Q _ => ∃ (a b : Addr) (d : PyData), vs = [.ref a, .ref b] ∧ Dp K H (.ref a) d ∧ Dp K H (.ref b) d ∧ Shows d ∧ Q (.bl true) H
theorem PenAt.upd {H : Hp} {p q : Addr} {o : HO} (h : PenAt H p) (n : p ≠ q) : PenAt (upd H q o) p := by
  obtain ⟨a, b, c, h1, h2⟩ := h
  exact ⟨a, b, c, by rw [upd_ne n]; exact h1, h2⟩
theorem PenAt.ne {H : Hp} {p q : Addr} (h : PenAt H p) (n : H q = none) : p ≠ q := by
  obtain ⟨a, b, c, h1, _⟩ := h
  exact ne_of_none h1 n
end
end Sg
set_option Elab.async false
set_option linter.all false
set_option maxRecDepth 100000
set_option maxHeartbeats 4000000
namespace Sg
open PySem PySem.Spec PyProof.Rows L2
/-! ## data of ints and tuples alone -/
section
variable {K : PySem.W.Frag} {H H' : Hp}
mutual
inductive Tp (K : PySem.W.Frag) (H : Hp) : V → PyData → Prop
  | int (i : Int) : Tp K H (.int i) (.int i)
  | tu {a : Addr} {xs : List V} {ds : List PyData} : SqT K H a xs → TpAll K H xs ds → Tp K H (.ref a) (.tuple ds)
inductive TpAll (K : PySem.W.Frag) (H : Hp) : List V → List PyData → Prop
  | no : TpAll K H [] []
  | on {v : V} {vs : List V} {d : PyData} {ds : List PyData} : Tp K H v d → TpAll K H vs ds → TpAll K H (v :: vs) (d :: ds)
end
mutual
theorem Tp.dp : ∀ {v : V} {d : PyData}, Tp K H v d → Dp K H v d
  | _, _, .int i => .int i
  | _, _, .tu h r => .tup h (TpAll.dp r)
theorem TpAll.dp : ∀ {v : List V} {d : List PyData}, TpAll K H v d → DpAll K H v d
  | _, _, .no => .nil
  | _, _, .on a r => .cons (Tp.dp a) (TpAll.dp r)
end
/-- all tuples and all instances are as they were -/
structure St (K : PySem.W.Frag) (H H' : Hp) : Prop where
  tu : ∀ a xs, SqT K H a xs → SqT K H' a xs
  ob : ∀ a C dx fs, H a = some (.ins C dx fs) → H' a = some (.ins C dx fs)
theorem St.trans {H2 : Hp} (a : St K H H') (b : St K H' H2) : St K H H2 := ⟨fun _ _ h => b.tu _ _ (a.tu _ _ h), fun _ _ _ _ h => b.ob _ _ _ _ (a.ob _ _ _ _ h)⟩
theorem St.of (e : Same H H') : St K H H' := ⟨fun _ _ h => Same.tup e h, fun _ _ _ _ h => e _ _ h⟩
theorem St.but {p : Addr} {ys : List V} (e : But p H H') (hp : H p = some (.lst ys)) : St K H H' :=
  ⟨fun _ _ h => But.tup e hp h, fun a C dx fs h => e _ _ (fun z => by rw [z, hp] at h; exact nomatch h) h⟩
theorem St.pen {p : Addr} (e : But p H H') (hp : PenAt H p) : St K H H' := by
  obtain ⟨a, b, c, h, _⟩ := hp
  exact .but e h
mutual
theorem Tp.stayT (e : ∀ a xs, SqT K H a xs → SqT K H' a xs) : ∀ {v : V} {d : PyData}, Tp K H v d → Tp K H' v d
  | _, _, .int i => .int i
  | _, _, .tu h r => .tu (e _ _ h) (TpAll.stayT e r)
theorem TpAll.stayT (e : ∀ a xs, SqT K H a xs → SqT K H' a xs) : ∀ {v : List V} {d : List PyData}, TpAll K H v d → TpAll K H' v d
  | _, _, .no => .no
  | _, _, .on a r => .on (Tp.stayT e a) (TpAll.stayT e r)
end
theorem tu_ins {p C dx : Addr} {fs : List (Str × V)} {o : HO} (hp : H p = some (.ins C dx fs)) : ∀ a xs, SqT K H a xs → SqT K (upd H p o) a xs := by
  intro a xs h
  have ne : ∀ u, H a = some u → (∀ C dx fs, u ≠ .ins C dx fs) → a ≠ p := fun u hu n z => by
    rw [z, hp] at hu
    exact n _ _ _ (Option.some.inj hu).symm
  exact h.imp (fun z => z.imp (fun z => by rw [upd_ne (ne _ z (fun _ _ _ q => nomatch q))]; exact z) fun ⟨u, z⟩ => ⟨u, by rw [upd_ne (ne _ z (fun _ _ _ q => nomatch q))]; exact z⟩) id
mutual
theorem Tp.stay (e : St K H H') : ∀ {v : V} {d : PyData}, Tp K H v d → Tp K H' v d
  | _, _, .int i => .int i
  | _, _, .tu h r => .tu (e.tu _ _ h) (TpAll.stay e r)
theorem TpAll.stay (e : St K H H') : ∀ {v : List V} {d : List PyData}, TpAll K H v d → TpAll K H' v d
  | _, _, .no => .no
  | _, _, .on a r => .on (Tp.stay e a) (TpAll.stay e r)
end
theorem TpAll.len : ∀ {vs : List V} {ds : List PyData}, TpAll K H vs ds → vs.length = ds.length
  | _, _, .no => rfl
  | _, _, .on _ r => congrArg (· + 1) (TpAll.len r)
theorem TpAll.at : ∀ {vs : List V} {ds : List PyData} {i : Nat} {v : V}, TpAll K H vs ds → vs[i]? = some v → ∃ d, ds[i]? = some d ∧ Tp K H v d
  | _, _, 0, _, .on a _, e => by cases e; exact ⟨_, rfl, a⟩
  | _, _, i + 1, _, .on _ r, e => TpAll.at (i := i) r e
theorem TpAll.add : ∀ {vs us : List V} {ds es : List PyData}, TpAll K H vs ds → TpAll K H us es → TpAll K H (vs ++ us) (ds ++ es)
  | _, _, _, _, .no, b => b
  | _, _, _, _, .on a r, b => .on a (TpAll.add r b)
theorem TpAll.cut : ∀ {vs : List V} {ds : List PyData} (n : Nat), TpAll K H vs ds → TpAll K H (vs.take n) (ds.take n)
  | _, _, 0, _ => .no
  | _, _, _ + 1, .no => .no
  | _, _, n + 1, .on a r => .on a (TpAll.cut n r)
theorem TpAll.off : ∀ {vs : List V} {ds : List PyData} (n : Nat), TpAll K H vs ds → TpAll K H (vs.drop n) (ds.drop n)
  | _, _, 0, r => r
  | _, _, _ + 1, .no => .no
  | _, _, n + 1, .on _ r => TpAll.off n r
theorem TpAll.ints : ∀ (ns : List Int), TpAll K H (ns.map V.int) (iD ns)
  | [] => .no
  | x :: r => .on (.int x) (TpAll.ints r)
theorem TpAll.isInts : ∀ {vs : List V} {ns : List Int}, TpAll K H vs (iD ns) → vs = ns.map V.int
  | _, [], .no => rfl
  | _, _ :: _, .on (.int _) r => by rw [TpAll.isInts r]; rfl
theorem Tp.ofInts {a : Addr} {ns : List Int} (h : SqT K H a (ns.map V.int)) : Tp K H (.ref a) (.tuple (iD ns)) := .tu h (TpAll.ints ns)
theorem Tp.toInts {v : V} {ns : List Int} (h : Tp K H v (.tuple (iD ns))) : ∃ a, v = .ref a ∧ SqT K H a (ns.map V.int) := by
  cases h with
  | tu h r => exact ⟨_, rfl, by rw [← TpAll.isInts r]; exact h⟩
theorem Tp.toTup {v : V} {ds : List PyData} (h : Tp K H v (.tuple ds)) : ∃ a xs, v = .ref a ∧ SqT K H a xs ∧ TpAll K H xs ds := by
  cases h with
  | tu h r => exact ⟨_, _, rfl, h, r⟩
end
/-! ## lines -/
/-- one to three works -/
structure GoodL (ws : List (List Int)) : Prop where
  least : 1 ≤ ws.length
  few : ws.length ≤ 3
  work : ∀ w ∈ ws, IsWork w
abbrev tD (ns : List Int) : PyData := .tuple (iD ns)
abbrev tDs (ws : List (List Int)) : List PyData := ws.map tD
abbrev cellD (a b : List Int) : PyData := tD (nI (barsN a b))
abbrev rowD (a : List Int) (ws : List (List Int)) : PyData := .tuple (ws.map (cellD a))
abbrev barD (ws : List (List Int)) : List PyData := ws.map fun a => rowD a ws
/-- the bars of all, row by row -/
def rowB (a : List Int) (ws : List (List Int)) : List Int := ws.flatMap fun b => nI (barsN a b)
def allB (ws vs : List (List Int)) : List Int := ws.flatMap fun a => rowB a vs
/-- the greatest, or 0 -/
structure Top (l : List Int) (m : Int) : Prop where
  pos : 0 ≤ m
  le : ∀ x ∈ l, x ≤ m
  eq : m = 0 ∨ m ∈ l
theorem Top.uniq {l k : List Int} {m n : Int} (h : Top l m) (g : Top k n) (e : ∀ x, x ∈ l ↔ x ∈ k) : m = n := by
  have a : m ≤ n := by
    rcases h.eq with z | z
    · rw [z]; exact g.pos
    · exact g.le _ ((e _).mp z)
  have b : n ≤ m := by
    rcases g.eq with z | z
    · rw [z]; exact h.pos
    · exact h.le _ ((e _).mpr z)
  omega
/-! ### the object -/
def lf (t b : Addr) (r : Int) : List (Str × V) := putF "_reach" (.int r) (putF "_bars" (.ref b) (putF "_works" (.ref t) []))
theorem k1 : ¬ (("_works" : Str) = "_bars") := by decide +kernel
theorem k2 : ¬ (("_works" : Str) = "_reach") := by decide +kernel
theorem k3 : ¬ (("_bars" : Str) = "_reach") := by decide +kernel
theorem lf_works (t b : Addr) (r : Int) : (lf t b r).lookup ("_works" : Str) = some (.ref t) := by
  unfold lf
  rw [lookup_putF, if_neg k2, lookup_putF, if_neg k1, lookup_putF, if_pos rfl]
theorem lf_bars (t b : Addr) (r : Int) : (lf t b r).lookup ("_bars" : Str) = some (.ref b) := by
  unfold lf
  rw [lookup_putF, if_neg k3, lookup_putF, if_pos rfl]
theorem lf_reach (t b : Addr) (r : Int) : (lf t b r).lookup ("_reach" : Str) = some (.int r) := by
  unfold lf
  rw [lookup_putF, if_pos rfl]
/-- a Line of these works stands at a -/
def LineAt (K : PySem.W.Frag) (C : Addr) (H : Hp) (a : Addr) (ws : List (List Int)) : Prop :=
  ∃ (dx t b : Addr) (r : Int), H a = some (.ins C dx (lf t b r)) ∧ Tp K H (.ref t) (.tuple (tDs ws)) ∧ Tp K H (.ref b) (.tuple (barD ws)) ∧ Top (allB ws ws) r ∧ GoodL ws
theorem LineAt.ins {K : PySem.W.Frag} {C a : Addr} {H : Hp} {ws : List (List Int)} (h : LineAt K C H a ws) : InsAt H C a := by
  obtain ⟨dx, t, b, r, h1, _⟩ := h
  exact ⟨_, _, h1⟩
theorem LineAt.good {K : PySem.W.Frag} {C a : Addr} {H : Hp} {ws : List (List Int)} (h : LineAt K C H a ws) : GoodL ws := by
  obtain ⟨dx, t, b, r, _, _, _, _, g⟩ := h
  exact g
theorem LineAt.stay {K : PySem.W.Frag} {C a : Addr} {H H' : Hp} {ws : List (List Int)} (e : St K H H') (h : LineAt K C H a ws) : LineAt K C H' a ws := by
  obtain ⟨dx, t, b, r, h1, h2, h3, h4, h5⟩ := h
  exact ⟨dx, t, b, r, e.ob _ _ _ _ h1, h2.stay e, h3.stay e, h4, h5⟩
theorem TpAll.works {K : PySem.W.Frag} {H : Hp} {vs : List V} {ws : List (List Int)} {i : Nat} {v : V} (h : TpAll K H vs (tDs ws)) (e : vs[i]? = some v) : ∃ w a, ws[i]? = some w ∧ v = .ref a ∧ SqT K H a (w.map V.int) := by
  obtain ⟨d, hd, t⟩ := h.at e
  rw [List.getElem?_map] at hd
  obtain ⟨w, hw, rfl⟩ := Option.map_eq_some_iff.mp hd
  obtain ⟨a, rfl, hs⟩ := t.toInts
  exact ⟨w, a, hw, rfl, hs⟩
end Sg
set_option Elab.async false
set_option linter.all false
set_option maxRecDepth 100000
set_option maxHeartbeats 4000000
namespace Sg
open PySem PySem.Spec PyProof.Rows L2
theorem call_tuple_ofK {X : Cx} {K : PySem.W.Frag} (hK : X.K = K) : CallR X (.type "tuple") (fun xs H Q => ∃ p ys, xs = [.ref p] ∧ ((SqL K H p ys ∧ ∀ l, H l = none → Q (.ref l) (upd H l (.tup ys))) ∨ (SqT K H p ys ∧ Q (.ref p) H))) := by
  subst hK; exact call_tuple_of
theorem pi_tupK {X : Cx} {K : PySem.W.Frag} {tg l : Expr} {tl : TE} (hK : X.K = K) (hl : PE X l tl) : PI X tg l (iTup K tl) := by
  subst hK; exact pi_tup hl
/-! ## a list of tuple data that grows -/
def Grow (K : PySem.W.Frag) (H1 : Hp) (D : Addr) (ds : List PyData) (i : Nat) (H' : Hp) : Prop := Same H1 H' ∧ ∃ acc, H' D = some (.lst acc) ∧ TpAll K H' acc (ds.take i)
theorem Grow.zero {K : PySem.W.Frag} {H1 : Hp} {D : Addr} {ds : List PyData} (hD : H1 D = none) : Grow K H1 D ds 0 (upd H1 D (.lst [])) :=
  ⟨same_new hD, [], upd_same, .no⟩
theorem Grow.next {K : PySem.W.Frag} {H1 H' H'' : Hp} {D : Addr} {ds : List PyData} {i : Nat} {d : PyData} {v : V} (hD : H1 D = none) (hz : ds.length ≤ 1000) (h : Grow K H1 D ds i H') (e : Same H' H'') (hd : ds[i]? = some d) (t : Tp K H'' v d) :
    ∃ acc, H'' D = some (.lst acc) ∧ acc.length < sizeLine ∧ Grow K H1 D ds (i + 1) (upd H'' D (.lst (acc ++ [v]))) := by
  obtain ⟨s1, acc, h1, h2⟩ := h
  have hD2 := e _ _ h1
  have st : St K H'' (upd H'' D (.lst (acc ++ [v]))) := .but (.upd) hD2
  refine ⟨acc, hD2, ?_, fun b o q => ?_, _, upd_same, ?_⟩
  · have z := h2.len
    have z2 : i < ds.length := (List.getElem?_eq_some_iff.mp hd).1
    rw [List.length_take] at z
    exact small1000 (by omega)
  · rw [upd_ne (ne_of_none q hD)]
    exact e _ _ (s1 _ _ q)
  · rw [List.take_add_one, hd]
    exact ((h2.stay (.of e)).stay st).add (.on (t.stay st) .no)
theorem Grow.done {K : PySem.W.Frag} {H1 H' : Hp} {D : Addr} {ds : List PyData} {n : Nat} (h : Grow K H1 D ds n H') (hn : n = ds.length) : Same H1 H' ∧ ∃ acc, H' D = some (.lst acc) ∧ TpAll K H' acc ds := by
  obtain ⟨s1, acc, h1, h2⟩ := h
  rw [hn, List.take_length] at h2
  exact ⟨s1, acc, h1, h2⟩
theorem Tp.new {K : PySem.W.Frag} {H : Hp} {l : Addr} {acc : List V} {ds : List PyData} (nl : H l = none) (t : TpAll K H acc ds) : Tp K (upd H l (.tup acc)) (.ref l) (.tuple ds) :=
  .tu (.of upd_same) (t.stay (.of (same_new nl)))
theorem GoodL.mem {ws : List (List Int)} (h : GoodL ws) {i : Nat} {w : List Int} (e : ws[i]? = Option.some w) : IsWork w := h.work w (List.mem_of_getElem? e)
theorem GoodL.lt {ws : List (List Int)} (h : GoodL ws) : (barD ws).length ≤ 1000 := by
  have := h.few
  rw [List.length_map]
  omega
/-- what the class has -/
structure LC (K : PySem.W.Frag) (mg : Str → Option Value) (C : Addr) : Prop where
  cl : Cls K C
  nW : NoAttr K C "_works"
  nB : NoAttr K C "_bars"
  nR : NoAttr K C "_reach"
  mgC : mg "Line" = some (.ref C)
end Sg
set_option Elab.async false
set_option linter.all false
set_option maxRecDepth 100000
set_option maxHeartbeats 4000000
namespace Sg
open PySem PySem.Spec PyProof.Rows L2
/-! ## a tuple times 0, 1 or more -/
theorem tuple_mulOne (l : Addr) (items : Array Value) (n : Nat) (dd : Option Addr) (sl : Array (Option Value)) (u : Tok) :
    Meets (Builtin.«tuple.__mul__» ⟨[.ref l, .int 1 u], []⟩) (fun _ R s => s.heap.get? l = some { cls := .type "tuple", dict := dd, data := .seq items n, slots := sl } ∧ R (.ok (.ret (Value.ref l))) s) :=
  .of_wp fun prog w A R s h => by
    obtain ⟨hp, g, d, tk, os⟩ := s
    obtain ⟨hl, h⟩ := h
    have f1 := AutoSeq1.idx_int
    have ht : Shared.TypeIs ⟨hp, g, d, tk, os⟩ (.ref l) "tuple" := ⟨_, hl, rfl⟩
    wp_walk using wpAny_loadPart' hl, wpAny_typeOf ht
    repeat (first
      | (refine wpAny_ite_true (by rw [Bool.or_eq_true]; exact .inr rfl) ?_; wp_walk using wpAny_loadPart' hl, wpAny_typeOf ht)
      | (refine wpAny_ite_true rfl ?_; wp_walk using wpAny_loadPart' hl, wpAny_typeOf ht)
      | (refine wpAny_ite_false (by decide) ?_; wp_walk using wpAny_loadPart' hl, wpAny_typeOf ht))
    exact ⟨_, rfl, h⟩
theorem tuple_mulNone (l : Addr) (items : Array Value) (n : Nat) (dd : Option Addr) (sl : Array (Option Value)) (u : Tok) (c1 : items.isEmpty = false) :
    Meets (Builtin.«tuple.__mul__» ⟨[.ref l, .int 0 u], []⟩) (fun _ R s => s.heap.get? l = some { cls := .type "tuple", dict := dd, data := .seq items n, slots := sl } ∧
      R (.ok (.ret (Value.ref s.heap.objs.size))) { s with heap := s.heap.push { cls := Value.type "tuple", data := Data.seq #[] }, toks := s.toks }) :=
  .of_wp fun prog w A R s h => by
    obtain ⟨hp, g, d, tk, os⟩ := s
    obtain ⟨hl, h⟩ := h
    have f1 := AutoSeq1.idx_int
    have c2 : (items.isEmpty || (0 : Int) == 1) = false := by rw [c1]; rfl
    wp_walk using wpAny_loadPart' hl
    repeat (first
      | (refine wpAny_ite_false (by rw [c2]; exact Bool.false_ne_true) ?_; wp_walk using wpAny_loadPart' hl)
      | (refine wpAny_ite_true rfl ?_; wp_walk using wpAny_loadPart' hl)
      | (refine wpAny_ite_false (by decide) ?_; wp_walk using wpAny_loadPart' hl))
    exact ⟨_, rfl, h⟩
def rRepN (K : PySem.W.Frag) : R2 := fun x y H Q => ∃ (l : Addr) (k : Nat) (xs : List V), x = .ref l ∧ y = .int k ∧ SqT K H l xs ∧ xs ≠ [] ∧ k ≤ 1000 ∧ xs.length ≤ 1000 ∧
  (k = 1 → Q (.ref l) H) ∧ (k ≠ 1 → ∀ p, H p = none → Q (.ref p) (upd H p (.tup (List.replicate k xs).flatten)))
theorem op_repN {X : Cx} : OpR X (binaryOp .Mult) (rRepN X.K) := by
  intro pins s σ H x y v u Q I rx ry h
  obtain ⟨l, k, xs, rfl, rfl, hT, hne, h2, hz, q1, q2⟩ := h
  by_cases h1 : 2 ≤ k
  · refine op_repT pins s σ H _ _ v u Q I rx ry ⟨l, k, xs, rfl, rfl, hT, hne, by omega, by omega, hz, fun p np => ?_⟩
    rw [Int.toNat_natCast]
    exact q2 (by omega) p np
  cases rx
  obtain ⟨t, rfl⟩ := ry
  obtain ⟨its, r, ⟨⟨cls, dd, data, sl⟩, ho, hc, n, hd⟩, hs⟩ := I.tuple hT
  simp only at hc hd
  subst hc hd
  have hle : its.length = xs.length := r.length.symm
  have hn : its ≠ [] := fun e => hne (by
    rw [e] at hle
    exact List.eq_nil_of_length_eq_zero hle.symm)
  have hi : its.toArray.isEmpty = false := by
    cases its with
    | nil => exact absurd rfl hn
    | cons a b => rfl
  rcases (show k = 0 ∨ k = 1 by omega) with rfl | rfl
  · refine wpAny_binaryOp_repeat_ref (T := "tuple") (U := "int") (by decide) ⟨_, ho, rfl⟩ (fun s' => typeIs_int s' _ t) noFill_tuple_mul F.fills_int_mul F.slot_int_rmul repeat_tuple PySem.F.slot_int_index.lookup
      (call_meets F.slot_int_rmul (typeIs_int s _ t) F.entry_int_rmul (F.args_int_rmul_2 _ _) (int_rmul_tuple _ t l its.toArray n dd sl)
        ⟨ho, rfl, ⟨_, ho, rfl⟩, call_meets F.slot_tuple_mul ⟨_, ho, rfl⟩ F.entry_tuple_mul (F.args_tuple_mul_2 _ _) (tuple_mulNone l its.toArray n dd sl t hi) ⟨ho, ?_⟩⟩)
    refine ⟨.ref s.heap.objs.size, _, I.laid (t' := s.toks) (o := .tup (List.replicate 0 xs).flatten) (fun b ob q => Heap.get?_push_of_some _ q) (Nat.le_refl _) ?_, rfl, q2 (by decide) _ (I.hok.fresh (Nat.le_refl _))⟩
    exact ⟨Nat.zero_le _, [], .nil, IsTup.new _ _⟩
  · refine wpAny_binaryOp_repeat_ref (T := "tuple") (U := "int") (by decide) ⟨_, ho, rfl⟩ (fun s' => typeIs_int s' _ t) noFill_tuple_mul F.fills_int_mul F.slot_int_rmul repeat_tuple PySem.F.slot_int_index.lookup
      (call_meets F.slot_int_rmul (typeIs_int s _ t) F.entry_int_rmul (F.args_int_rmul_2 _ _) (int_rmul_tuple _ t l its.toArray n dd sl)
        ⟨ho, rfl, ⟨_, ho, rfl⟩, call_meets F.slot_tuple_mul ⟨_, ho, rfl⟩ F.entry_tuple_mul (F.args_tuple_mul_2 _ _) (tuple_mulOne l its.toArray n dd sl t) ⟨ho, ?_⟩⟩)
    exact ⟨.ref l, H, I, rfl, q1 rfl⟩
/-! ## a part of a tuple, the whole of it too -/
end Sg
set_option Elab.async false
set_option linter.all false
set_option maxRecDepth 100000
set_option maxHeartbeats 4000000
namespace Sg
open PySem PySem.Spec PyProof.Rows L2
theorem tup_upd {K : PySem.W.Frag} {H : Hp} {p a : Addr} {xs : List V} {u o : HO} (hp : H p = some u) (hu : ∀ ys, HO.tup ys ≠ u) (hv : ∀ ob ys, HO.frz ob (.tup ys) ≠ u) (h : SqT K H a xs) : SqT K (upd H p o) a xs := by
  rcases h with (h | ⟨ob, h⟩) | h
  · exact .inl (.inl (by rw [upd_ne (ne_of h hp (hu _))]; exact h))
  · exact .inl (.inr ⟨ob, by rw [upd_ne (ne_of h hp (hv _ _))]; exact h⟩)
  · exact .inr h
theorem ixN_nat {n j : Nat} (h : j < n) : ixN n (j : Int) = some j := by
  unfold ixN
  rw [if_pos (by omega), if_pos (by omega), Int.toNat_natCast]
theorem ixN_end {n : Nat} (h : 0 < n) : ixN n (-1) = some (n - 1) := by
  unfold ixN
  rw [if_neg (by decide), if_pos (by omega)]
  congr 1
  omega
theorem mem_set {l : List Int} {i : Nat} {v x : Int} (h : x ∈ l.set i v) : x = v ∨ x ∈ l := by
  rcases List.mem_or_eq_of_mem_set h with z | z
  · exact .inr z
  · exact .inl z
theorem set_at {l : List Int} {i j : Nat} {v x : Int} (h : (l.set i v)[j]? = some x) : x = v ∨ (i ≠ j ∧ l[j]? = some x) := by
  by_cases e : i = j
  · have hm := List.mem_of_getElem? h
    subst e
    rw [List.getElem?_set_self'] at h
    left
    cases hl : l[i]? with
    | none =>
      rw [hl] at h
      exact nomatch h
    | some y =>
      rw [hl] at h
      exact (Option.some.inj h).symm
  · rw [List.getElem?_set_ne e] at h
    exact .inr ⟨e, h⟩
theorem PenAt.new {H : Hp} {p l : Addr} {o : HO} (h : PenAt H p) (n : H l = none) : PenAt (L2.upd H l o) p := h.upd (h.ne n)
theorem cut_to (xs : List V) (d : Nat) : cutV xs none (some (d : Int)) = xs.take d := by
  unfold cutV
  rw [HT.sIx_nat, HT.sIx_none]
  show (xs.drop 0).take (min d xs.length - 0) = _
  rw [List.drop_zero, Nat.sub_zero]
  rcases Nat.le_total d xs.length with h | h
  · rw [Nat.min_eq_left h]
  · rw [Nat.min_eq_right h, List.take_of_length_le h, List.take_of_length_le (Nat.le_refl _)]
theorem freeS {H H' : Hp} {t : Addr} (e : Same H H') (n : H' t = none) : H t = none := by
  rcases z : H t with _ | o
  · rfl
  · rw [e _ _ z] at n
    exact nomatch n
theorem cr_sumT {X : Cx} (hc : X.calm = true) : CallR X (.builtin "sum") (fun vs H Q => ∃ (a : Addr) (ns : List Int), vs = [.ref a] ∧ SqT X.K H a (ns.map V.int) ∧ Q (.int ns.sum) H) := by
  intro pins s σ H vs us Q I r h
  obtain ⟨a, ns, rfl, hs, q⟩ := h
  obtain ⟨its, rv, ht, hz⟩ := I.tuple hs
  rw [Vals.ref1 r]
  obtain ⟨xs, e⟩ := rv.ints.allInts.items
  have hn : numsOf (intItems xs).toList = ns := by rw [← e]; exact rv.ints.numsOf
  rw [nums_intItems] at hn
  rw [e] at ht
  refine PySem.W.ktm_sumG (I.ok.hd hc) ht fun h' tk t' hk => ?_
  refine ⟨.int ns.sum, H, I.kept hk, ⟨t', ?_⟩, q⟩
  rw [preSum_eq, List.take_of_length_le (by simp), hn]
end Sg
set_option Elab.async false
set_option linter.all false
set_option maxRecDepth 100000
set_option maxHeartbeats 4000000
namespace Sg
open PySem PySem.Spec PyProof.Rows L2
/-! ## how many different tuples of ints a list has -/
theorem nodup_len_le {α : Type} [DecidableEq α] : ∀ (l D : List α), l.Nodup → (∀ x ∈ l, x ∈ D) → l.length ≤ D.length
  | [], _, _, _ => Nat.zero_le _
  | x :: r, D, h, s => by
    obtain ⟨h1, h2⟩ := List.nodup_cons.mp h
    have hx := s x List.mem_cons_self
    have := nodup_len_le r (D.erase x) h2 fun y hy => (List.mem_erase_of_ne (fun e => h1 (by rw [← e]; exact hy))).mpr (s y (List.mem_cons_of_mem _ hy))
    rw [List.length_erase_of_mem hx] at this
    have := List.length_pos_of_mem hx
    rw [List.length_cons]
    omega
end Sg
set_option Elab.async false
set_option linter.all false
set_option maxRecDepth 100000
set_option maxHeartbeats 4000000
namespace Sg
open PySem PySem.Spec PyProof.Rows L2 StX
/-! ## data compared -/
theorem eqv_ints : ∀ (xs ys : List Int), PyData.eqvAll (iD xs) (iD ys) = decide (xs = ys)
  | [], [] => by simp [PyData.eqvAll]
  | [], _ :: _ => by simp [PyData.eqvAll]
  | _ :: _, [] => by simp [PyData.eqvAll]
  | x :: xs, y :: ys => by
    show PyData.eqvAll (.int x :: iD xs) (.int y :: iD ys) = _
    rw [PyData.eqvAll, eqv_ints xs ys, PyData.eqv]
    by_cases h : x = y
    · subst h; simp
    · simp [h]
theorem eqv_tD (xs ys : List Int) : PyData.eqv (tD xs) (tD ys) = decide (xs = ys) := by
  show PyData.eqv (.tuple (iD xs)) (.tuple (iD ys)) = _
  rw [PyData.eqv, eqv_ints]
theorem eqv_tDs : ∀ (xs ys : List (List Int)), PyData.eqvAll (tDs xs) (tDs ys) = decide (xs = ys)
  | [], [] => by simp [PyData.eqvAll]
  | [], _ :: _ => by simp [PyData.eqvAll]
  | _ :: _, [] => by simp [PyData.eqvAll]
  | x :: xs, y :: ys => by
    show PyData.eqvAll (tD x :: tDs xs) (tD y :: tDs ys) = _
    rw [PyData.eqvAll, eqv_tDs xs ys, eqv_tD]
    by_cases h : x = y
    · subst h; simp
    · simp [h]
theorem lay_iD : ∀ (xs : List Int), PyData.canLayAll0 (iD xs) = true
  | [] => by simp [PyData.canLayAll0]
  | x :: r => by
    show PyData.canLayAll0 (.int x :: iD r) = true
    rw [PyData.canLayAll0, lay_iD r, PyData.canLay0]; rfl
theorem dep_iD : ∀ (xs : List Int), PyData.depthAll (iD xs) = 0
  | [] => by simp [PyData.depthAll]
  | x :: r => by
    show PyData.depthAll (.int x :: iD r) = 0
    rw [PyData.depthAll, dep_iD r, PyData.depth]; rfl
theorem lay_tDs : ∀ (xs : List (List Int)), PyData.canLayAll0 (tDs xs) = true
  | [] => by simp [PyData.canLayAll0]
  | x :: r => by
    show PyData.canLayAll0 (.tuple (iD x) :: tDs r) = true
    rw [PyData.canLayAll0, lay_tDs r, PyData.canLay0, lay_iD]; rfl
theorem dep_tDs : ∀ (xs : List (List Int)), PyData.depthAll (tDs xs) ≤ 1
  | [] => by simp [PyData.depthAll]
  | x :: r => by
    show PyData.depthAll (.tuple (iD x) :: tDs r) ≤ 1
    rw [PyData.depthAll, PyData.depth, dep_iD]
    exact Nat.max_le.mpr ⟨Nat.le_refl _, dep_tDs r⟩
theorem shaped_tDs (xs : List (List Int)) : SeqAt.shaped (.tuple (tDs xs)) = true := by
  unfold SeqAt.shaped
  have a : (PyData.tuple (tDs xs)).canLay0 = true := by rw [PyData.canLay0, lay_tDs]
  have b : (PyData.tuple (tDs xs)).depth ≤ 64 := by rw [PyData.depth]; have := dep_tDs xs; omega
  rw [a, decide_eq_true b]; rfl
end Sg
namespace Sg
open PySem PySem.Spec PyProof.Rows L2 StX
/-- .. two names, the second one first -/
def kwG {α : Type} : List α → List α → List α
  | [], [a, b] => [b, a]
  | _, _ => []
theorem kw_rel {vs : List V} {us : List Value} {zs : List V} {ws : List Value} (r : Vals vs us) (rz : Vals zs ws) : Vals (kwG vs zs) (kwG us ws) := by
  cases r with
  | nil =>
    cases rz with
    | nil => exact .nil
    | cons a r1 =>
      cases r1 with
      | nil => exact .nil
      | cons b r2 =>
        cases r2 with
        | nil => exact .cons b (.cons a .nil)
        | cons c r3 => exact .nil
  | cons a r1 => exact .nil
section
variable {X : Cx} {CX : CXT} {k : Nat} {f : Addr} {fd : FuncData} {ps ks : List Str} {sp : Sp} {E : XK} {x : Str} {p pos : Pos} {kws : List Keyword} {tk : TA} {g : List Value → List Value → List Value} {gV : List V → List V → List V}
theorem pe_callK0 (F : FnOk X.prog X.w X.K X.mg X.base CX k f fd ps sp) (hr : Room k X.A) (hg : Gl X x) (hm : X.mg x = some (.ref f)) (hk : PySem.W.keepIn X.K (.ref f) = true) (hb : KBinds X.K fd ps ks g gV) (hx : Passes CX X E) (hkw : PK X kws tk)
    (ha : (backToKw pos (keywordEach kws X.env)).all (·.1.isSome) = true := by rfl) (hs : (backToKw pos (keywordEach kws X.env)).filterMap (·.1) = ks := by rfl) (hd : (x == ("__debug__" : Str)) = false := by decide)
    (hp : ((backTo pos (starEach [] X.env)).any (·.1) || (backToKw pos (keywordEach kws X.env)).any (·.1.isNone)) = false := by rfl) : PE X (.Call (.Name x p) [] kws pos) (tCallK sp gV E tNil tk) := by
  refine ⟨fun pins s σ H Q I h => wpAny_Call_Name_kw (ld_glob I hg hm ?_ hd)⟩
  refine PySem.W.callWith_KW0 (h₀ := X.base) I.ok.mod.kin hk ha ?_ hp
  refine thn (hkw.run pos pins s σ H _ I h) fun ws s2 ⟨zs, H2, I2, rz, q2⟩ => ⟨I2.kIn, ?_⟩
  rw [hs]
  exact run_fnk (us := []) (vs := []) F hr hb hx I2 .nil rz q2
end
end Sg
set_option Elab.async false
set_option linter.all false
set_option maxRecDepth 100000
set_option maxHeartbeats 4000000
namespace Sg
open PySem PySem.Spec PyProof.Rows L2
/-! ## set(list of ints), and sorted(..) of it -/
section
variable {P : Program} {w : World} {A : Around} {E : Value → Shared → Prop} {s : Shared}
/-- a set just made -/
abbrev noneIn (w : World) : Obj := ⟨.type "set", none, .set #[] 0 (.fresh 0 0 (!w.params.followText "set-order")), #[]⟩
/-- what is there once the list has been gone through -/
def Filled (w : World) (s : Shared) (ns : List Int) (s2 : Shared) : Prop :=
  ∃ (g : Heap) (u m : Nat), s2 = { s with heap := g, toks := u } ∧ m ≤ ns.length ∧ SetR w g s.heap.objs.size (fun j => decide (j ∈ ns)) m ∧ ∀ b o, s.heap.get? b = some o → g.get? b = some o
theorem fill_list {l : Addr} {its : Array Value} {ns : List Int} (hh : A.handled = none) (hl : s.heap.IsList l its) (hi : IntsAre its.toList ns) (hb : ns.length + 1 < scanBound) :
    wpAny (model P w) A (Builtin.«set.__init__» ⟨[.ref s.heap.objs.size, .ref l], []⟩) (fun r s2 => r = Fin.done (.ret .none) ∧ Filled w s ns s2) E { s with heap := s.heap.push (noneIn w) } := by
  have size : its.size = ns.length := by rw [← Array.length_toList]; exact hi.length
  obtain ⟨⟨c0, d0, q0, z0⟩, ho, e1, m0, e2⟩ := hl
  cases e1
  cases e2
  have at1 := Heap.get?_push_of_some (noneIn w) ho
  have atS : (s.heap.push (noneIn w)).get? s.heap.objs.size = some (noneIn w) := Heap.get?_push_size _ rfl
  have more : l < s.heap.objs.size := Heap.lt_size ho
  have k1 := F.sub_list_set
  have k2 := F.sub_list_frozenset
  have k3 : (Value.type "list" == Value.type "dict") = false := by decide
  have isL : (s.heap.push (noneIn w)).IsList l its := ⟨_, at1, rfl, m0, rfl⟩
  have long : (s.heap.push (noneIn w)).objs.size = s.heap.objs.size + 1 := Heap.size_push ..
  unfold Builtin.«set.__init__» noKeywords Builtin.Frozenset.updateFrom
  generalize gI : pyIter = PI
  wp_walk
  subst gI
  refine wpAny_pyIter_list isL (wpAny_bind (wpAny_runValue ?_))
  have apart : l ≠ (s.heap.push (noneIn w)).objs.size := by
    rw [long]
    exact fun z => Nat.ne_of_lt (Nat.lt_succ_of_lt more) z
  have off : s.heap.objs.size ∉ [(s.heap.push (noneIn w)).objs.size, l] := by
    rw [long]
    intro z
    rcases List.mem_cons.mp z with z | z
    · exact Nat.ne_of_lt (Nat.lt_succ_self _) z
    · exact Nat.ne_of_gt more (List.mem_singleton.mp z)
  have each : ∀ (i : Nat) (v : Value), its[i]? = some v → ∃ k t, ns[i]? = some k ∧ v = .int k t := fun i v hv => by
    have lt : i < ns.length := size ▸ (Array.getElem?_eq_some_iff.mp hv).1
    obtain ⟨t, e⟩ := hi.int_at i v (by rw [Array.getElem?_toList]; exact hv)
    refine ⟨ns[i], t, List.getElem?_eq_getElem lt, ?_⟩
    rw [e, List.getD_eq_getElem?_getD, List.getElem?_eq_getElem lt]; rfl
  refine set_update_ints ((Walks.list (by simp [hh]) _ l apart its).toS) s.heap.objs.size off ns size hb each its.size 0 _ (Nat.sub_zero _) (Nat.zero_le _)
    ⟨⟨_, Heap.get?_push_size _ rfl, rfl, rfl⟩, isL.push _⟩ ⟨0, Nat.le_refl 0, setR_new_at (Heap.get?_push_of_some _ atS)⟩ ?_
  rintro ⟨g, g2, d2, u2, o2⟩ m mv hm R
  obtain rfl : g2 = s.gens := mv.gens
  obtain rfl : d2 = s.drawn := mv.drawn
  obtain rfl : o2 = s.os := mv.os
  refine wpAny_pure (wpAny_pure ⟨rfl, g, u2, m, rfl, size ▸ hm, R, fun b o e => ?_⟩)
  have lt := Heap.lt_size e
  refine mv.heap b o (fun z => ?_) (Heap.get?_push_of_some _ (Heap.get?_push_of_some _ e))
  rcases List.mem_cons.mp z with z | z
  · exact Nat.ne_of_lt lt z
  · have y := List.mem_singleton.mp z
    rw [long] at y
    exact Nat.ne_of_lt (Nat.lt_succ_of_lt lt) y
theorem call_set_ints {l : Addr} {its : Array Value} {ns : List Int} {Q : Value → Shared → Prop} (hh : A.handled = none) (hl : s.heap.IsList l its) (hi : IntsAre its.toList ns) (hb : ns.length + 1 < scanBound)
    (q : ∀ s2, Filled w s ns s2 → Q (.ref s.heap.objs.size) s2) : wpAny (model P w) A (call (.type "set") [.ref l]) Q E s := by
  obtain ⟨top, rest, line⟩ := F.called_set.mro
  have c1 := F.called_set.made
  have c2 := F.called_set.sub
  have c3 := F.called_set.notType
  have c4 := F.called_set.canCreate
  have c5 := F.typeCall_set_1 (.ref l)
  have c6 := F.called_set.init.lookup
  refine wpAny_call (codeAny_of_tree (wpAny_pure ⟨Code.quiet_builtin _ (by decide +kernel), codeAny_builtin F.entry_type_call ?_⟩))
  rw [Around.under_plain (weight_type_call_type "set" [.ref l] []) rfl]
  repeat any_goals first | assumption | wp_step
  have made : (s.heap.push (noneIn w)).get? s.heap.objs.size = some (noneIn w) := Heap.get?_push_size _ rfl
  refine codeAny_mono (code_set_led1 (.ref l) (E := E) (Q₁ := fun v s1 => v = .ref s.heap.objs.size ∧ s1 = { s with heap := s.heap.push (noneIn w) }) ⟨rfl, rfl⟩) fun r s1 hr => ?_
  rcases r with e | fl
  · exact hr
  cases fl
  case ret v =>
    obtain ⟨rfl, rfl⟩ := hr
    have c7 := F.called_set.init.bind (.ref s.heap.objs.size)
    have isS : Shared.TypeIs { s with heap := s.heap.push (noneIn w) } (.ref s.heap.objs.size) "set" := ⟨_, made, rfl⟩
    repeat any_goals first | assumption | wp_step
    refine codeAny_mono (codeAny_call_builtin (R := wants (fun r s2 => r = .none ∧ Filled w s ns s2) E) F.called_set.init.plain F.entry_set_init (check_set_init_1 isS ?_)) fun r s2 hr => ?_
    · refine thn (fill_list (by simp [hh]) hl hi hb) ?_
      rintro v s3 ⟨rfl, f⟩
      exact ⟨rfl, f⟩
    rcases r with e | fl
    · exact hr
    cases fl
    case ret v =>
      obtain ⟨rfl, f⟩ := hr
      repeat any_goals first | assumption | wp_step
      exact q _ f
    all_goals exact hr.elim
  all_goals exact hr.elim
end
section
variable {X : Cx}
/-- no more members than any list that has them all -/
theorem setR_most {w : World} {h : Heap} {a : Addr} {S : Int → Bool} {n : Nat} (R : SetR w h a S n) (D : List Int) (hD : ∀ k, S k = true → k ∈ D) : n ≤ D.length := by
  obtain ⟨o, es, ep, t, _, _, _, _, nd, mem, _, _, rfl, _⟩ := R
  have := nodup_len_le (es.toList.map keyOf) D nd fun k hk => hD k ((mem k).mpr hk)
  rwa [List.length_map, Array.length_toList] at this
def rSetL (K : PySem.W.Frag) (w : World) : List V → Hp → VK → Prop := fun xs H Q => ∃ (l : Addr) (ns : List Int), xs = [V.ref l] ∧ SqL K H l (ns.map V.int) ∧ ns.length ≤ 4000 ∧
  ∀ (p : Addr) (n : Nat), H p = none → (∀ D : List Int, (∀ k ∈ ns, k ∈ D) → n ≤ D.length) → Q (.ref p) (upd H p (SetO w p (fun j => decide (j ∈ ns)) n))
theorem cr_setL (hc : X.calm = true) : CallR X (.type "set") (rSetL X.K X.w) := by
  intro pins s σ H xs us Q I r h
  obtain ⟨l, ns, rfl, hl, lt, q⟩ := h
  rw [Vals.ref1 r]
  obtain ⟨its, rv, pl, hz⟩ := I.list hl
  refine call_set_ints (P := X.prog) (w := X.w) (ns := ns) (I.ok.hd hc) pl.isList (by simpa using ints_of_vals rv) (by unfold scanBound; omega) ?_
  rintro _ ⟨g, u, m, rfl, hm, R, k⟩
  exact ⟨.ref _, _, I.laid (t' := u) k (Nat.le_refl _) (setO_new R), rfl, q _ m (I.hok.fresh (Nat.le_refl _)) fun D hD => setR_most R D fun j hj => hD j (of_decide_eq_true hj)⟩
end
end Sg
set_option Elab.async false
set_option linter.all false
set_option maxRecDepth 100000
set_option maxHeartbeats 4000000
namespace Sg
open PySem PySem.Spec PyProof.Rows L2
/-! ## keys that are tuples of tuples -/
mutual
/-- the value v is the key k: an int, or a tuple of keys -/
inductive KeyAt (H : Hp) : NestedKey → V → Prop
  | int (i : Int) : KeyAt H (.num i) (.int i)
  | tup {a : Addr} {us : List V} {ks : List NestedKey} : H a = some (.tup us) → KeyAll H ks us → KeyAt H (.tup ks) (.ref a)
inductive KeyAll (H : Hp) : List NestedKey → List V → Prop
  | no : KeyAll H [] []
  | on {k : NestedKey} {v : V} {ks : List NestedKey} {us : List V} : KeyAt H k v → KeyAll H ks us → KeyAll H (k :: ks) (v :: us)
end
mutual
theorem KeyAt.keep {H H' : Hp} (e : ∀ a us, H a = some (.tup us) → H' a = some (.tup us)) : ∀ {k : NestedKey} {v : V}, KeyAt H k v → KeyAt H' k v
  | _, _, .int i => .int i
  | _, _, .tup h r => .tup (e _ _ h) (KeyAll.keep e r)
theorem KeyAll.keep {H H' : Hp} (e : ∀ a us, H a = some (.tup us) → H' a = some (.tup us)) : ∀ {ks : List NestedKey} {us : List V}, KeyAll H ks us → KeyAll H' ks us
  | _, _, .no => .no
  | _, _, .on a r => .on (KeyAt.keep e a) (KeyAll.keep e r)
end
mutual
theorem KeyAt.is {P : Program} {w : World} {H : Hp} {h : Heap} (ok : HOk P w H h) : ∀ {k : NestedKey} {v : V} {u : Value}, KeyAt H k v → RelV v u → NestedIs h k u
  | _, _, u, .int i, r => by
    obtain ⟨t, rfl⟩ := r
    exact .int i t
  | _, _, u, .tup (a := a) h' q, r => by
    obtain rfl : u = Value.ref a := r
    obtain ⟨_, its, rv, o, h1, h2, n, h3⟩ := (show ObjOk P w H h a (.tup _) from ok a _ h')
    exact .tup h1 h2 h3 (by rw [List.toList_toArray]; exact KeyAll.is ok q rv)
theorem KeyAll.is {P : Program} {w : World} {H : Hp} {h : Heap} (ok : HOk P w H h) : ∀ {ks : List NestedKey} {us : List V} {its : List Value}, KeyAll H ks us → Vals us its → NestedAll h ks its
  | _, _, _, .no, .nil => .nil
  | _, _, _, .on a r, .cons b q => .cons (KeyAt.is ok a b) (KeyAll.is ok r q)
end
/-! ## a dict with such keys: its rows (key, where the key stands, value) -/
abbrev Row := NestedKey × Addr × V
def DN (P : Program) (w : World) (a : Addr) (rs : List Row) : HO := .ext fun h => rs.length ≤ sizeLine ∧ (a == sysModules) = false ∧
  ∃ ys : List (NestedKey × Addr × Value), Paired (fun r y => r.1 = y.1 ∧ r.2.1 = y.2.1 ∧ RelV r.2.2 y.2.2) rs ys ∧
    ∃ o es ep, h.get? a = some o ∧ o.ExactDict ∧ o.data = .dict es ep ∧ es.toList = ys.map (entryOfKey (nestedKind P w)) ∧ (ys.map (·.1)).Nodup
def KeysIn (H : Hp) (rs : List Row) : Prop := ∀ r ∈ rs, KeyAt H r.1 (.ref r.2.1) ∧ r.1.depth ≤ 8
theorem KeysIn.keep {H H' : Hp} {rs : List Row} (h : KeysIn H rs) (e : ∀ a us, H a = some (.tup us) → H' a = some (.tup us)) : KeysIn H' rs := fun r hr => ⟨(h r hr).1.keep e, (h r hr).2⟩
def atN (rs : List Row) (k : NestedKey) : Option V := (rs.find? fun r => decide (r.1 = k)).map (·.2.2)
def storeN (rs : List Row) (k : NestedKey) (b : Addr) (v : V) : List Row := if (atN rs k).isSome then rs.map fun r => if r.1 = k then (r.1, r.2.1, v) else r else rs ++ [(k, b, v)]
abbrev RowRel : Row → NestedKey × Addr × Value → Prop := fun r y => r.1 = y.1 ∧ r.2.1 = y.2.1 ∧ RelV r.2.2 y.2.2
theorem atN_rel {rs : List Row} {ys : List (NestedKey × Addr × Value)} (r : Paired RowRel rs ys) (k : NestedKey) : RelO (atN rs k) ((atKey ys k).map (·.2)) := by
  induction r with
  | nil => exact True.intro
  | @cons p q ps qs h t ih =>
    by_cases e : p.1 = k
    · have e' : q.1 = k := h.1.symm.trans e
      have a : atN (p :: ps) k = some p.2.2 := by simp [atN, List.find?_cons, e]
      have b : atKey (q :: qs) k = some q.2 := by simp [atKey, List.find?_cons, e']
      rw [a, b]; exact h.2.2
    · have e' : ¬ q.1 = k := fun z => e (h.1.trans z)
      have a : atN (p :: ps) k = atN ps k := by simp [atN, List.find?_cons, e]
      have b : atKey (q :: qs) k = atKey qs k := by simp [atKey, List.find?_cons, e']
      rw [a, b]; exact ih
theorem storeN_rel {rs : List Row} {ys : List (NestedKey × Addr × Value)} (r : Paired RowRel rs ys) (k : NestedKey) (b : Addr) {v : V} {u : Value} (rv : RelV v u) : Paired RowRel (storeN rs k b v) (storedH ys k b u) := by
  have e : (atN rs k).isSome = (atKey ys k).isSome := by
    rw [(atN_rel r k).isSome_eq, Option.isSome_map]
  unfold storeN storedH
  rw [e]
  by_cases q : (atKey ys k).isSome = true
  · rw [if_pos q, if_pos q]
    clear e q
    induction r with
    | nil => exact .nil
    | @cons p z ps zs h t ih =>
      rw [List.map_cons, List.map_cons]
      refine .cons ?_ ih
      unfold putAt
      by_cases c : p.1 = k
      · rw [if_pos c, if_pos (h.1.symm.trans c)]; exact ⟨h.1, h.2.1, rv⟩
      · rw [if_neg c, if_neg (fun y => c (h.1.trans y))]; exact h
  · rw [if_neg q, if_neg q]
    exact Paired.snoc r ⟨rfl, rfl, rv⟩
theorem storeN_len (rs : List Row) (k : NestedKey) (b : Addr) (v : V) : (storeN rs k b v).length ≤ rs.length + 1 := by
  unfold storeN
  split
  · rw [List.length_map]; omega
  · rw [List.length_append]; exact Nat.le_refl _
theorem storeN_new {rs : List Row} {k : NestedKey} (h : atN rs k = none) (b : Addr) (v : V) : storeN rs k b v = rs ++ [(k, b, v)] := by
  unfold storeN
  rw [h]; rfl
section
variable {P : Program} {w : World} {H : Hp} {h : Heap} {a : Addr} {rs : List Row}
theorem dn_of (ok : HOk P w H h) (e : H a = some (DN P w a rs)) (ks : KeysIn H rs) : rs.length ≤ sizeLine ∧ (a == sysModules) = false ∧ ∃ ys, Paired RowRel rs ys ∧ h.DictOfH (nestedKind P w) a ys := by
  obtain ⟨z, y, ys, r, o, es, ep, h1, h2, h3, h4, h5⟩ := (ok a _ e).1
  refine ⟨z, y, ys, r, o, es, ep, h1, h2, h3, h4, ?_, h5⟩
  have all : ∀ {l : List Row} {m : List (NestedKey × Addr × Value)}, Paired RowRel l m → KeysIn H l → ∀ x ∈ m, (nestedKind P w).is h x.1 x.2.1 := by
    intro l m q
    induction q with
    | nil => intro _ x hx; exact nomatch hx
    | @cons p q ps qs hq t ih =>
      intro hk x hx
      rcases List.mem_cons.mp hx with e | hx
      · subst e
        obtain ⟨k1, k2⟩ := hk p List.mem_cons_self
        have := k1.is ok (u := .ref p.2.1) rfl
        rw [hq.1, hq.2.1] at this
        exact ⟨this, by rw [← hq.1]; exact k2⟩
      · exact ih (fun r hr => hk r (List.mem_cons_of_mem _ hr)) x hx
  exact all r ks
theorem dn_ok {h' : Heap} {H' : Hp} {ys : List (NestedKey × Addr × Value)} (z : rs.length ≤ sizeLine) (hd : (a == sysModules) = false) (r : Paired RowRel rs ys) (dd : h'.DictOfH (nestedKind P w) a ys) : ObjOk P w H' h' a (DN P w a rs) := by
  obtain ⟨o, es, ep, h1, h2, h3, h4, _, h5⟩ := dd
  exact ⟨⟨z, hd, ys, r, o, es, ep, h1, h2, h3, h4, h5⟩, ⟨o, h1⟩, fun g1 g2 ⟨z, hd, ys, r, o, es, ep, q1, q2⟩ k => ⟨z, hd, ys, r, o, es, ep, k o q1, q2⟩⟩
end
section
variable {X : Cx} {pins : List (Addr × Obj)} {σ : L2.St} {H : Hp} {s : Shared} {a b : Addr} {k : NestedKey} {rs : List Row} {v : V} {r : Value} {A : Around} {E : Value → Shared → Prop}
/-- the key at b is looked for in the dict at a -/
structure NAt (P : Program) (w : World) (H : Hp) (a b : Addr) (k : NestedKey) (rs : List Row) : Prop where
  at_ : H a = some (DN P w a rs)
  keys : KeysIn H rs
  key : KeyAt H k (.ref b)
  deep : k.depth ≤ 8
theorem NAt.is {P : Program} {w : World} {h : Heap} (n : NAt P w H a b k rs) (ok : HOk P w H h) : (nestedKind P w).is h k b := ⟨n.key.is ok rfl, n.deep⟩
theorem roomN (hu : A.units + 64 < cLine) (P : Program) (w : World) : (nestedKind P w).room A.in1 := by
  show A.units + 1 + 8 < cLine
  omega
theorem n_get {Q : Value → Shared → Prop} (hu : A.units + 64 < cLine) (I : Inv X pins σ H s) (n : NAt X.prog X.w H a b k rs) (l : atN rs k = some v) (h : ∀ u s', Inv X pins σ H s' → RelV v u → Q u s') : wpAny (model X.prog X.w) A (getItem (.ref a) (.ref b)) Q E s := by
  obtain ⟨_, _, ys, rel, dd⟩ := dn_of I.hok n.at_ n.keys
  obtain ⟨u, hu', ru⟩ := RelO.some_of (v := v) (o := (atKey ys k).map (·.2)) (by rw [← l]; exact atN_rel rel k)
  obtain ⟨p, hp, hp2⟩ := Option.map_eq_some_iff.mp hu'
  refine wpAny_getItem_heap (roomN hu _ _) (n.is I.hok) dd hp ?_
  rw [hp2]
  exact h u _ (I.tok _) ru
theorem n_notIn {Q : Value → Shared → Prop} (hu : A.units + 64 < cLine) (I : Inv X pins σ H s) (n : NAt X.prog X.w H a b k rs) (h : ∀ s', Inv X pins σ H s' → Q (.bool (!(atN rs k).isSome)) s') : wpAny (model X.prog X.w) A (compareOp .NotIn (.ref b) (.ref a)) Q E s := by
  obtain ⟨_, hd, ys, rel, dd⟩ := dn_of I.hok n.at_ n.keys
  refine wpAny_notIn_heap (roomN hu _ _) (n.is I.hok) hd dd ?_
  have q := (atN_rel rel k).isSome_eq
  rw [Option.isSome_map] at q
  rw [← q]
  exact h _ (I.tok _)
theorem n_set {Q : Unit → Shared → Prop} (hu : A.units + 64 < cLine) (I : Inv X pins σ H s) (n : NAt X.prog X.w H a b k rs) (hl : rs.length < sizeLine) (rv : RelV v r) (h : ∀ s', Inv X pins σ (upd H a (DN X.prog X.w a (storeN rs k b v))) s' → Q () s') :
    wpAny (model X.prog X.w) A (setItem (.ref a) (.ref b) r) Q E s := by
  obtain ⟨z, hd, ys, rel, dd⟩ := dn_of I.hok n.at_ n.keys
  have hz : ys.length ≤ sizeLine := by rw [← Paired.length rel]; exact z
  refine wpAny_setItem_heap (hsz := hz) (roomN hu _ _) (n.is I.hok) dd fun h' dd' hs => h _ ?_
  have he : ∃ q, h'.get? a = some q := let ⟨q, _, _, hq, _⟩ := dd'; ⟨q, hq⟩
  exact d_write I (by rw [n.at_]; exact True.intro) hs he (dn_ok (by have := storeN_len rs k b v; omega) hd (storeN_rel rel k b rv) dd')
end
/-! ### as rules -/
def tNGet (P : Program) (w : World) (td ty : TE) : TE := fun σ H Q => td σ H fun x H1 => ty σ H1 fun y H2 => ∃ a b k rs v, x = .ref a ∧ y = .ref b ∧ NAt P w H2 a b k rs ∧ atN rs k = some v ∧ Q v H2
def tNNotIn (P : Program) (w : World) (ty td : TE) : TE := fun σ H Q => ty σ H fun y H1 => td σ H1 fun x H2 => ∃ a b k rs, x = .ref a ∧ y = .ref b ∧ NAt P w H2 a b k rs ∧ Q (.bl (!(atN rs k).isSome)) H2
def sNPut (P : Program) (w : World) (td ty tv : TE) : TS := fun D σ H => tv σ H fun v H1 => td σ H1 fun x H2 => ty σ H2 fun y H3 => ∃ a b k rs, x = .ref a ∧ y = .ref b ∧ NAt P w H3 a b k rs ∧ rs.length < sizeLine ∧
  D.nx σ (upd H3 a (DN P w a (storeN rs k b v)))
section
variable {X : Cx} {o i e value : Expr} {pos pos' : Pos} {td ty tv : TE}
theorem NAt.typeIs {pins : List (Addr × Obj)} {σ : L2.St} {H : Hp} {s : Shared} {a b : Addr} {k : NestedKey} {rs : List Row} (n : NAt X.prog X.w H a b k rs) (I : Inv X pins σ H s) : s.TypeIs (.ref a) "dict" := by
  obtain ⟨_, _, ys, _, dd⟩ := dn_of I.hok n.at_ n.keys
  exact dd.typeIs
theorem pe_nget (hu : X.A.units + 64 < cLine) (ho : PE X o td) (hi : PE X i ty) (hs : NoSl i) : PE X (.Subscript o i pos) (tNGet X.prog X.w td ty) := by
  refine ⟨fun pins s σ H Q I h => ?_⟩
  refine subD_of PySem.F.slot_dict_getitem.lookup hs (thn (ho.run pins s σ H _ I h) fun u s1 ⟨x, H1, I1, rx, q1⟩ => thn (hi.run pins s1 σ H1 _ I1 q1) fun iv s2 ⟨y, H2, I2, ry, a, b, k, rs, v, ex, ey, n, l, q2⟩ => ?_)
  subst ex ey
  obtain rfl : u = Value.ref a := rx
  obtain rfl : iv = Value.ref b := ry
  exact ⟨n.typeIs I2, n_get hu I2 n l fun u s3 I3 ru => ⟨v, H2, I3, ru, q2⟩⟩
theorem pc_nnotin (hu : X.A.units + 64 < cLine) (hi : PE X i ty) (ho : PE X o td) : PC X .NotIn i o (tNNotIn X.prog X.w ty td) := by
  refine ⟨fun pins s σ H Q I h => ?_⟩
  refine thn (hi.run pins s σ H _ I h) fun iv s1 ⟨y, H1, I1, ry, q1⟩ => thn (ho.run pins s1 σ H1 _ I1 q1) fun u s2 ⟨x, H2, I2, rx, a, b, k, rs, ex, ey, n, q2⟩ => ?_
  subst ex ey
  obtain rfl : u = Value.ref a := rx
  obtain rfl : iv = Value.ref b := ry
  exact n_notIn hu I2 n fun s3 I3 => ⟨.bl _, H2, I3, rfl, q2⟩
theorem ps_nput (hu : X.A.units + 64 < cLine) (ho : PE X o td) (hi : PE X i ty) (hv : PE X value tv) (hs : swapsWith value (some (.Subscript o i pos')) pos.line X.env = pure false) :
    PS X (.Assign [.Subscript o i pos'] value pos) (sNPut X.prog X.w td ty tv) := by
  refine ⟨fun pins s σ H D I h => ?_⟩
  refine wpAny_Assign_Subscript (thn (hv.run pins s σ H _ I h) fun r s1 ⟨v, H1, I1, rv, q1⟩ => thn (ho.run pins s1 σ H1 _ I1 q1) fun u s2 ⟨x, H2, I2, rx, q2⟩ => thn (hi.run pins s2 σ H2 _ I2 q2) fun iv s3 ⟨y, H3, I3, ry, a, b, k, rs, ex, ey, n, hl, q3⟩ => ?_) hs
  subst ex ey
  obtain rfl : u = Value.ref a := rx
  obtain rfl : iv = Value.ref b := ry
  exact n_set hu I3 n hl rv fun s4 I4 => ⟨σ, _, I4, q3⟩
/-- {} -/
def tNNew (P : Program) (w : World) : TE := fun _ H Q => ∀ p, H p = none → Q (.ref p) (upd H p (DN P w p []))
theorem dn_empty {P : Program} {w : World} {H : Hp} (h : Heap) (hb : sysModules < h.objs.size) : ObjOk P w H (h.push { cls := .type "dict", data := .dict #[] }) h.objs.size (DN P w h.objs.size []) :=
  dn_ok (Nat.zero_le _) (beq_eq_false_iff_ne.mpr (Nat.ne_of_gt hb)) .nil (Heap.DictOfH.new h)
end
section
variable {X : Cx} {pos : Pos}
theorem pe_nnew : PE X (.Dict [] [] pos) (tNNew X.prog X.w) := ⟨fun pins s σ H Q I h =>
  wpAny_Dict_empty ⟨.ref s.heap.objs.size, _, I.laid (a := s.heap.objs.size) (o := DN X.prog X.w s.heap.objs.size []) (t' := s.toks) (fun _ _ q => Heap.get?_push_of_some _ q) (Nat.le_refl _) (dn_empty s.heap I.big), rfl, h _ (I.hok.fresh (Nat.le_refl _))⟩⟩
/-- list(d): where its keys stand -/
def rListN (P : Program) (w : World) : List V → Hp → VK → Prop := fun xs H Q => ∃ (a : Addr) (rs : List Row), xs = [.ref a] ∧ H a = some (DN P w a rs) ∧ KeysIn H rs ∧ ∀ p, H p = none → Q (.ref p) (upd H p (.lst (rs.map fun r => V.ref r.2.1)))
theorem cr_listN (hc : X.calm = true) : CallR X (.type "list") (rListN X.prog X.w) := by
  intro pins s σ H xs us Q I r q
  obtain ⟨a, rs, rfl, ha, hk, q⟩ := q
  rw [Vals.ref1 r]
  obtain ⟨z, hd, ys, rel, dd⟩ := dn_of I.hok ha hk
  obtain ⟨es, ep, hraw, hes⟩ := (show ∃ es ep, s.heap.DictRaw a es ep ∧ es.toList = ys.map (entryOfKey (nestedKind X.prog X.w)) from by
    obtain ⟨o, es, ep, h1, h2, h3, h4, _, _⟩ := dd
    exact ⟨es, ep, ⟨o, h1, h2, h3⟩, h4⟩)
  have hsz : es.size = ys.length := size_of_entries hes
  have hlen := Paired.length rel
  refine PySem.W.kdl_call (KdlSrc.rawDict (es := es) (ep := ep) hd) (I.ok.hd hc) hraw (by rw [hsz, ← hlen]; exact z) fun h' tk acc c' hk2 hD hacc => ?_
  have hv : Vals (rs.map fun r => V.ref r.2.1) acc.toList := by
    have key : ∀ (j : Nat) (u : Value), acc.toList[j]? = some u → ∃ y, ys[j]? = some y ∧ u = .ref y.2.1 := fun j u e => by
      obtain ⟨hi, e2⟩ := hacc.2 j u (by rw [← Array.getElem?_toList]; exact e)
      have h3 := entry_at hes j
      rw [Array.getElem?_eq_getElem hi] at h3
      obtain ⟨y, hy, h4⟩ := Option.map_eq_some_iff.mp h3.symm
      refine ⟨y, hy, ?_⟩
      rw [e2, ← h4]; rfl
    have hl : acc.toList.length = rs.length := by rw [Array.length_toList, hacc.1, hsz, hlen]
    clear hraw hes dd hacc hD hk2 hk ha q
    have gen : ∀ (rs : List Row) (ys : List (NestedKey × Addr × Value)) (us : List Value), Paired RowRel rs ys → us.length = rs.length → (∀ (j : Nat) (u : Value), us[j]? = some u → ∃ y, ys[j]? = some y ∧ u = .ref y.2.1) → Vals (rs.map fun r => V.ref r.2.1) us := by
      intro rs ys us r
      induction r generalizing us with
      | nil =>
        intro hl _
        rw [List.eq_nil_of_length_eq_zero hl]
        exact .nil
      | @cons p q ps qs hpq t ih =>
        intro hl hk
        cases us with
        | nil => exact nomatch hl
        | cons u us =>
          obtain ⟨y, hy, e⟩ := hk 0 u rfl
          obtain rfl : q = y := Option.some.inj hy
          refine .cons ?_ (ih us (Nat.succ.inj hl) fun j u' e' => hk (j + 1) u' e')
          rw [e, ← hpq.2.1]; rfl
    exact gen rs ys _ rel hl key
  exact ⟨.ref s.heap.objs.size, _, I.laid (t' := tk) hk2 (Nat.le_refl _)
    (show ObjOk X.prog X.w _ _ _ (.lst (rs.map fun r => V.ref r.2.1)) from ⟨by rw [List.length_map]; exact z, acc.toList, c', hv, by rw [Array.toArray_toList]; exact hD⟩), rfl, q _ (I.hok.fresh (Nat.le_refl _))⟩
/-! ## sorted(list of data that are alike) -/
theorem each_vals {pins : List (Addr × Obj)} {σ : L2.St} {H : Hp} {s : Shared} (I : Inv X pins σ H s) : ∀ {ys : List V} {ds : List PyData} {its : List Value}, DpAll X.K H ys ds → Vals ys its →
    PySem.W.EachIs (fun u (b : V × PyData) => RelV b.1 u) its (ys.zip ds) ∧ PySem.W.EachIs (fun u (b : V × PyData) => ∃ as, Reads s.heap u b.2 as) its (ys.zip ds)
  | _, _, _, .nil, .nil => ⟨.nil, .nil⟩
  | _, _, _, .cons a r, .cons b q => by
    obtain ⟨h1, h2⟩ := each_vals I r q
    exact ⟨.cons b h1, .cons (Dp.reads I _ _ _ a b) h2⟩
theorem vals_each {its : List Value} {bs : List (V × PyData)} (h : PySem.W.EachIs (fun u (b : V × PyData) => RelV b.1 u) its bs) : Vals (bs.map (·.1)) its := by
  induction h with
  | nil => exact .nil
  | cons a r ih => exact .cons a ih
def rSortedD (K : PySem.W.Frag) : List V → Hp → VK → Prop := fun xs H Q => ∃ (a : Addr) (ys : List V) (ds : List PyData), xs = [.ref a] ∧ SqL K H a ys ∧ DpAll K H ys ds ∧ PySem.W.AllAlike ds ∧ PySem.W.Sortable ds ∧ (∀ d ∈ ds, d.depth ≤ 40) ∧
  ∀ (bs : List (V × PyData)) (p : Addr), bs = (ys.zip ds).mergeSort (PySem.W.dataLe false (·.2)) → H p = none → Q (.ref p) (upd H p (.lst (bs.map (·.1))))
theorem dpAll_len {K : PySem.W.Frag} {H : Hp} : ∀ {ys : List V} {ds : List PyData}, DpAll K H ys ds → ys.length = ds.length
  | _, _, .nil => rfl
  | _, _, .cons _ r => congrArg (· + 1) (dpAll_len r)
theorem zip_snd {α β : Type} : ∀ {xs : List α} {ys : List β}, xs.length = ys.length → (xs.zip ys).map (·.2) = ys
  | [], [], _ => rfl
  | x :: xs, y :: ys, h => by
    show y :: (xs.zip ys).map (·.2) = y :: ys
    rw [zip_snd (Nat.succ.inj h)]
theorem cr_sortedD {j : Nat} (hr : Room j X.A) : CallR X (.builtin "sorted") (rSortedD X.K) := by
  intro pins s σ H xs us Q I r h
  obtain ⟨a, ys, ds, rfl, hs, hd, hal, hso, hdp, q⟩ := h
  rw [Vals.ref1 r]
  obtain ⟨its, rv, hl, hz⟩ := I.list hs
  obtain ⟨h1, h2⟩ := each_vals I hd rv
  have ln := dpAll_len hd
  have e2 := zip_snd ln
  have hu := hr.units
  refine PySem.W.sorted_data (enc := fun b : V × PyData => b.2) hl.isList h1 h2 (by rw [e2]; exact hal) (by rw [e2]; exact hso) (by rw [List.length_zip, ← ln, Nat.min_self]; exact hz) (fun b hb => ?_) fun out lo eo => ?_
  · have := hdp b.2 (by rw [← e2]; exact List.mem_map.mpr ⟨b, hb, rfl⟩)
    omega
  obtain ⟨c, hc⟩ := sortedAll_at s.heap its out.toArray
  have hv := vals_each eo
  have hlen : (((ys.zip ds).mergeSort (PySem.W.dataLe false fun b : V × PyData => b.2)).map (·.1)).length ≤ sizeLine := by
    rw [List.length_map, List.length_mergeSort, List.length_zip, ← ln, Nat.min_self]; exact hz
  exact ⟨.ref (s.heap.objs.size + 1), _, I.laid (t' := s.toks) (fun _ _ e => sortedAll_old e) (Nat.le_succ _) (show ObjOk X.prog X.w _ _ _ (.lst _) from ⟨hlen, out, c, hv, hc⟩), rfl, q _ _ rfl (I.hok.fresh (Nat.le_succ _))⟩
/-! ## in, not in a tuple of data -/
end
section
variable {X : Cx} {P : Program} {w : World} {o i e value : Expr} {pos pos' : Pos} {td ty tv : TE}
/-! the same, with program and world named -/
theorem pe_nnewK (hP : X.prog = P) (hw : X.w = w) : PE X (.Dict [] [] pos) (tNNew P w) := by subst hP hw; exact pe_nnew
theorem pe_ngetK (hP : X.prog = P) (hw : X.w = w) (hu : X.A.units + 64 < cLine) (ho : PE X o td) (hi : PE X i ty) (hs : NoSl i) : PE X (.Subscript o i pos) (tNGet P w td ty) := by subst hP hw; exact pe_nget hu ho hi hs
theorem pc_nnotinK (hP : X.prog = P) (hw : X.w = w) (hu : X.A.units + 64 < cLine) (hi : PE X i ty) (ho : PE X o td) : PC X .NotIn i o (tNNotIn P w ty td) := by subst hP hw; exact pc_nnotin hu hi ho
theorem ps_nputK (hP : X.prog = P) (hw : X.w = w) (hu : X.A.units + 64 < cLine) (ho : PE X o td) (hi : PE X i ty) (hv : PE X value tv) (hs : swapsWith value (some (.Subscript o i pos')) pos.line X.env = pure false) :
    PS X (.Assign [.Subscript o i pos'] value pos) (sNPut P w td ty tv) := by subst hP hw; exact ps_nput hu ho hi hv hs
theorem cr_listNK (hP : X.prog = P) (hw : X.w = w) (hc : X.calm = true) : CallR X (.type "list") (rListN P w) := by subst hP hw; exact cr_listN hc
end
end Sg
set_option Elab.async false
set_option linter.all false
set_option maxRecDepth 100000
set_option maxHeartbeats 4000000
namespace Sg
open PySem PySem.Spec PyProof.Rows L2
/-! ## the law's own call, where defs of it make lambdas: their tables of code objects are known to be empty -/
/-- the tables' places -/
abbrev Pl (cs : List (Addr × Addr)) : List Addr := cs.map (·.2)
end Sg
set_option Elab.async false
set_option linter.all false
set_option maxRecDepth 100000
set_option maxHeartbeats 4000000
namespace Sg
open PySem PySem.Spec PyProof.Rows L2
/-! ## any data -/
mutual
theorem Dp.same {K : PySem.W.Frag} {H H' : Hp} (e : Same H H') : ∀ {v : V} {d : PyData}, Dp K H v d → Dp K H' v d
  | _, _, .non => .non
  | _, _, .bl b => .bl b
  | _, _, .int i => .int i
  | _, _, .str x => .str x
  | _, _, .lst h r => .lst (e.seq h) (DpAll.same e r)
  | _, _, .tup h r => .tup (Same.tup e h) (DpAll.same e r)
theorem DpAll.same {K : PySem.W.Frag} {H H' : Hp} (e : Same H H') : ∀ {vs : List V} {ds : List PyData}, DpAll K H vs ds → DpAll K H' vs ds
  | _, _, .nil => .nil
  | _, _, .cons a r => .cons (Dp.same e a) (DpAll.same e r)
end
theorem DpAll.app {K : PySem.W.Frag} {H : Hp} : ∀ {vs us : List V} {ds es : List PyData}, DpAll K H vs ds → DpAll K H us es → DpAll K H (vs ++ us) (ds ++ es)
  | _, _, _, _, .nil, g => g
  | _, _, _, _, .cons a r, g => .cons a (DpAll.app r g)
theorem DpAll.len {K : PySem.W.Frag} {H : Hp} : ∀ {vs : List V} {ds : List PyData}, DpAll K H vs ds → vs.length = ds.length
  | _, _, .nil => rfl
  | _, _, .cons _ r => congrArg (· + 1) (DpAll.len r)
theorem DpAll.at {K : PySem.W.Frag} {H : Hp} : ∀ {vs : List V} {ds : List PyData} {i : Nat} {v : V}, DpAll K H vs ds → vs[i]? = some v → ∃ d, ds[i]? = some d ∧ Dp K H v d
  | _, _, _, _, .nil, h => nomatch h
  | _, _, 0, _, .cons a _, h => by cases h; exact ⟨_, rfl, a⟩
  | _, _, i + 1, _, .cons _ r, h => DpAll.at (i := i) r h
theorem DpAll.mem {K : PySem.W.Frag} {H : Hp} {vs : List V} {ds : List PyData} (h : DpAll K H vs ds) {v : V} (hv : v ∈ vs) : ∃ d ∈ ds, Dp K H v d := by
  obtain ⟨i, hi⟩ := List.mem_iff_getElem?.mp hv
  obtain ⟨d, h1, h2⟩ := DpAll.at h hi
  exact ⟨d, List.mem_of_getElem? h1, h2⟩
/-! ints and tuples of them: nothing that changes is read -/
/-- a dict: empty, or one int for one value of ints and tuples -/
inductive DicD (K : PySem.W.Frag) (H : Hp) : List (L2.Key × V) → List (PyData × PyData) → Prop
  | no : DicD K H [] []
  | one {i : Int} {v : V} {d : PyData} : Tp K H v d → DicD K H [(.inl i, v)] [(.int i, d)]
/-- any data: a dict at most on top -/
inductive Aq (K : PySem.W.Frag) (H : Hp) : V → PyData → Prop
  | data {v : V} {d : PyData} : Dp K H v d → Aq K H v d
  | dic {a : Addr} {kvs : List (L2.Key × V)} {ds : List (PyData × PyData)} : H a = some (.dK kvs) → DicD K H kvs ds → Aq K H (.ref a) (.dict ds)
theorem Aq.same {K : PySem.W.Frag} {H H' : Hp} (e : Same H H') {v : V} {d : PyData} (h : Aq K H v d) : Aq K H' v d := by
  cases h with
  | data h => exact .data (Dp.same e h)
  | dic h g =>
    refine .dic (e _ _ h) ?_
    cases g with
    | no => exact .no
    | one t => exact .one (t.stay (.of e))
/-- what may be shown -/
structure GoodD (d : PyData) : Prop where
  sh : d.showable = true
  dp : d.depth ≤ 40
  lv : d.leavesShort 24 = true
  bk : d.bulk ≤ 400000
/-- some data that may be shown -/
def AnyV (K : PySem.W.Frag) (H : Hp) (v : V) : Prop := ∃ d, Aq K H v d ∧ GoodD d
theorem AnyV.same {K : PySem.W.Frag} {H H' : Hp} (e : Same H H') {v : V} (h : AnyV K H v) : AnyV K H' v := by
  obtain ⟨d, h1, h2⟩ := h
  exact ⟨d, h1.same e, h2⟩
def AllAny (K : PySem.W.Frag) (H : Hp) (vs : List V) : Prop := ∀ v ∈ vs, AnyV K H v
theorem AllAny.same {K : PySem.W.Frag} {H H' : Hp} (e : Same H H') {vs : List V} (h : AllAny K H vs) : AllAny K H' vs := fun v hv => (h v hv).same e
theorem AllAny.app {K : PySem.W.Frag} {H : Hp} {vs us : List V} (h : AllAny K H vs) (g : AllAny K H us) : AllAny K H (vs ++ us) := fun v hv => (List.mem_append.mp hv).elim (h v) (g v)
theorem AllAny.nil {K : PySem.W.Frag} {H : Hp} : AllAny K H [] := fun _ h => nomatch h
theorem AllAny.cons {K : PySem.W.Frag} {H : Hp} {v : V} {vs : List V} (h : AnyV K H v) (g : AllAny K H vs) : AllAny K H (v :: vs) := fun u hu => (List.mem_cons.mp hu).elim (fun e => e ▸ h) (g u)
end Sg
set_option Elab.async false
set_option linter.all false
set_option maxRecDepth 100000
set_option maxHeartbeats 4000000
namespace Sg
open PySem PySem.Spec PyProof.Rows L2
/-! ## isinstance of any data -/
def tyN : PyData → String
  | .none => "NoneType"
  | .bool _ => "bool"
  | .int _ => "int"
  | .str _ => "str"
  | .list _ => "list"
  | .tuple _ => "tuple"
  | .dict _ => "dict"
theorem tyL {K : PySem.W.Frag} {H : Hp} {a : Addr} {xs : List V} (h : SqL K H a xs) : TyX K H (.ref a) (.type "list") := by
  rcases h with (h | ⟨o, h⟩) | ⟨o, _, _, h, hc, _⟩
  · exact .base (.lst h)
  · exact .base (.frz h)
  · exact .kList h hc
theorem aq_ty {K : PySem.W.Frag} {H : Hp} {v : V} {d : PyData} (h : Aq K H v d) : TyX K H v (.type (tyN d)) := by
  cases h with
  | dic h _ => exact .base (.dK h)
  | data h =>
    cases h with
    | non => exact .base .non
    | bl b => exact .base (.bl b)
    | int i => exact .base (.int i)
    | str x => exact .base (.str x)
    | lst h _ => exact tyL h
    | tup h _ => exact tyT h
def isS (u t : String) : Bool := decide (t = u) || (decide (u = "int") && decide (t = "bool"))
/-! ## displays of constants -/
theorem PE.imp {X : Cx} {e : Expr} {t t' : TE} (h : PE X e t) (i : ∀ σ H Q, t' σ H Q → t σ H Q) : PE X e t' := ⟨fun pins s σ H Q I q => h.run pins s σ H Q I (i _ _ _ q)⟩
theorem same_refl (H : Hp) : Same H H := fun _ _ h => h
/-- what is new since H -/
def nw (H H' : Hp) : Hp := fun b => match H b with
  | none => H' b
  | some _ => none
/-! ### any constant, a list of them -/
end Sg
set_option Elab.async false
set_option linter.all false
set_option maxRecDepth 100000
set_option maxHeartbeats 4000000
namespace Sg
open PySem PySem.Spec PyProof.Rows L2
/-! ## defs that are handed an exception, in an except suite -/
/-- p: the exception's place and object -/
structure FnE (P : Program) (w : World) (K : PySem.W.Frag) (mg : Str → Option Value) (base : Heap) (k : Nat) (f : Addr) (fd : FuncData) (ps : List Str) (sp : Addr × Obj → Sp) : Prop where
  arity : ∀ p vs H Q, sp p vs H Q E0 → vs.length = ps.length
  go : ∀ (A : Around) (outer : List Env) (s : Shared) (H : Hp) (args : Args) (us : List Value) (vs : List V) (Q : VK) (p : Addr × Obj),
    L2H.RoomH k A → L2H.PinOk outer H s p → Env0 P w K mg base A outer s H → BindsTo s fd args (ps.zip us) → Vals vs us → sp p vs H Q E0 →
    codeAny (model P w) A (.call (.ref f) args) (CR CX0 outer P w H s Q E0) s
section
variable {P : Program} {w : World} {K : PySem.W.Frag} {mg : Str → Option Value} {base : Heap} {k : Nat} {f : Addr}
variable {fd : FuncData} {ps : List Str} {sp : Addr × Obj → Sp}
theorem FnE.mono {j : Nat} (F : FnE P w K mg base j f fd ps sp) (h : j ≤ k) : FnE P w K mg base k f fd ps sp :=
  ⟨F.arity, fun A outer s H args us vs Q p hr => F.go A outer s H args us vs Q p (hr.mono h)⟩
end
end Sg
set_option Elab.async false
set_option linter.all false
set_option maxRecDepth 100000
set_option maxHeartbeats 4000000
namespace Sg
open PySem PySem.Spec PyProof.Rows L2
/-! ## tuples whose object is told: their methods -/
def FrzT (H : Hp) (a : Addr) (xs : List V) : Prop := ∃ ob, H a = some (.frz ob (.tup xs)) ∧ ob.cls = .type "tuple" ∧ ob.dict = none
theorem FrzT.sq {K : PySem.W.Frag} {H : Hp} {a : Addr} {xs : List V} (h : FrzT H a xs) : SqT K H a xs := by
  obtain ⟨ob, h1, _⟩ := h
  exact .inl (.inr ⟨ob, h1⟩)
theorem FrzT.same {H H' : Hp} (e : Same H H') {a : Addr} {xs : List V} (h : FrzT H a xs) : FrzT H' a xs := by
  obtain ⟨ob, h1, h2⟩ := h
  exact ⟨ob, e _ _ h1, h2⟩
theorem FrzT.but {p : Addr} {H H' : Hp} (e : But p H H') {a : Addr} {xs : List V} (h : FrzT H a xs) (n : a ≠ p) : FrzT H' a xs := by
  obtain ⟨ob, h1, h2⟩ := h
  exact ⟨ob, e _ _ n h1, h2⟩
end Sg
set_option Elab.async false
set_option linter.all false
set_option maxRecDepth 100000
set_option maxHeartbeats 4000000
namespace Sg
open PySem PySem.Spec PyProof.Rows L2
/-! ## rows of data that may be shown -/
structure SmL (k : Nat) (ds : List PyData) : Prop where
  sh : PyData.showableAll ds = true
  dp : PyData.depthAll ds ≤ 38
  lv : PyData.leavesShortAll 24 ds = true
  bk : PyData.bulkAll ds ≤ k
def smB (k : Nat) (ds : List PyData) : Bool := PyData.showableAll ds && decide (PyData.depthAll ds ≤ 38) && PyData.leavesShortAll 24 ds && decide (PyData.bulkAll ds ≤ k)
theorem smL_by {k : Nat} {ds : List PyData} (h : smB k ds = true) : SmL k ds := by
  unfold smB at h
  simp only [Bool.and_eq_true, decide_eq_true_eq] at h
  exact ⟨h.1.1.1, h.1.1.2, h.1.2, h.2⟩
theorem SmL.le {k m : Nat} {ds : List PyData} (h : SmL k ds) (e : k ≤ m) : SmL m ds := ⟨h.sh, h.dp, h.lv, Nat.le_trans h.bk e⟩
theorem SmL.nil : SmL 0 [] := smL_by (by decide +kernel)
theorem SmL.cons {k m : Nat} {d : PyData} {ds : List PyData} (h : SmL k [d]) (g : SmL m ds) : SmL (k + m) (d :: ds) := by
  have h1 := h.sh; have h2 := h.dp; have h3 := h.lv; have h4 := h.bk
  simp only [PyData.showableAll, PyData.depthAll, PyData.leavesShortAll, PyData.bulkAll, Bool.and_true] at h1 h2 h3 h4
  refine ⟨?_, ?_, ?_, ?_⟩
  · simp only [PyData.showableAll, h1, g.sh, Bool.and_self]
  · simp only [PyData.depthAll]; have := g.dp; omega
  · simp only [PyData.leavesShortAll, h3, g.lv, Bool.and_self]
  · simp only [PyData.bulkAll]; have := g.bk; omega
theorem SmL.uncons {k : Nat} {d : PyData} {ds : List PyData} (h : SmL k (d :: ds)) : SmL k [d] ∧ SmL k ds := by
  have h1 := h.sh; have h2 := h.dp; have h3 := h.lv; have h4 := h.bk
  simp only [PyData.showableAll, PyData.depthAll, PyData.leavesShortAll, PyData.bulkAll, Bool.and_eq_true] at h1 h2 h3 h4
  refine ⟨⟨?_, ?_, ?_, ?_⟩, h1.2, by omega, h3.2, by omega⟩
  · simp only [PyData.showableAll, h1.1, Bool.and_self]
  · simp only [PyData.depthAll]; omega
  · simp only [PyData.leavesShortAll, h3.1, Bool.and_self]
  · simp only [PyData.bulkAll]; omega
theorem SmL.app {k m : Nat} : ∀ {ds es : List PyData}, SmL k ds → SmL m es → SmL (k + m) (ds ++ es)
  | [], _, _, g => g.le (Nat.le_add_left _ _)
  | d :: ds, es, h, g => by
    have h1 := h.sh; have h2 := h.dp; have h3 := h.lv; have h4 := h.bk
    simp only [PyData.showableAll, PyData.depthAll, PyData.leavesShortAll, PyData.bulkAll, Bool.and_eq_true] at h1 h2 h3 h4
    have i := SmL.app (k := PyData.bulkAll ds) ⟨h1.2, by omega, h3.2, Nat.le_refl _⟩ g
    have j := SmL.cons h.uncons.1 i
    refine ⟨j.sh, j.dp, j.lv, ?_⟩
    show PyData.bulkAll (d :: (ds ++ es)) ≤ _
    simp only [PyData.bulkAll]
    have := i.bk
    omega
theorem SmL.drop {k : Nat} : ∀ {ds : List PyData} (i : Nat), SmL k ds → SmL k (ds.drop i)
  | _, 0, h => h
  | [], _ + 1, h => h
  | _ :: _, i + 1, h => SmL.drop i h.uncons.2
theorem SmL.take {k : Nat} : ∀ {ds : List PyData} (i : Nat), SmL k ds → SmL k (ds.take i)
  | _, 0, h => by rw [List.take_zero]; exact SmL.nil.le (Nat.zero_le _)
  | [], _ + 1, h => h
  | d :: ds, i + 1, h => by
    have h4 := h.bk
    simp only [PyData.bulkAll] at h4
    have u := h.uncons
    have t := SmL.take (k := PyData.bulkAll ds) i ⟨u.2.sh, u.2.dp, u.2.lv, Nat.le_refl _⟩
    have j := SmL.cons (k := PyData.bulk d + 1) ⟨u.1.sh, u.1.dp, u.1.lv, by simp only [PyData.bulkAll]; omega⟩ t
    exact j.le h4
theorem SmL.tup {k : Nat} {ds : List PyData} (h : SmL k ds) (e : k ≤ 400000) : GoodD (.tuple ds) :=
  ⟨by simp only [PyData.showable, h.sh], by simp only [PyData.depth]; have := h.dp; omega, by simp only [PyData.leavesShort, h.lv], by simp only [PyData.bulk]; exact Nat.le_trans h.bk e⟩
theorem SmL.lst {k : Nat} {ds : List PyData} (h : SmL k ds) (e : k ≤ 400000) : GoodD (.list ds) :=
  ⟨by simp only [PyData.showable, h.sh], by simp only [PyData.depth]; have := h.dp; omega, by simp only [PyData.leavesShort, h.lv], by simp only [PyData.bulk]; exact Nat.le_trans h.bk e⟩
theorem SmL.one {d : PyData} {k : Nat} (h : GoodD d) (e : d.depth ≤ 38) (b : d.bulk + 1 ≤ k) : SmL k [d] :=
  ⟨by simp only [PyData.showableAll, h.sh, Bool.and_self], by simp only [PyData.depthAll]; omega, by simp only [PyData.leavesShortAll, h.lv, Bool.and_self], by simp only [PyData.bulkAll]; omega⟩
theorem SmL.all {ds : List PyData} (h : ∀ d ∈ ds, SmL 100 [d]) : SmL (ds.length * 100) ds := by
  induction ds with
  | nil => exact SmL.nil.le (Nat.zero_le _)
  | cons d ds ih =>
    refine (SmL.cons (h d List.mem_cons_self) (ih fun x hx => h x (List.mem_cons_of_mem _ hx))).le ?_
    rw [List.length_cons, Nat.add_mul, Nat.one_mul]; omega
theorem DpAll.drop {K : PySem.W.Frag} {H : Hp} : ∀ {vs : List V} {ds : List PyData} (i : Nat), DpAll K H vs ds → DpAll K H (vs.drop i) (ds.drop i)
  | _, _, 0, h => h
  | _, _, _ + 1, .nil => .nil
  | _, _, i + 1, .cons _ r => DpAll.drop i r
theorem DpAll.take {K : PySem.W.Frag} {H : Hp} : ∀ {vs : List V} {ds : List PyData} (i : Nat), DpAll K H vs ds → DpAll K H (vs.take i) (ds.take i)
  | _, _, 0, h => by rw [List.take_zero, List.take_zero]; exact .nil
  | _, _, _ + 1, .nil => .nil
  | _, _, i + 1, .cons a r => .cons a (DpAll.take i r)
theorem DpAll.cut {K : PySem.W.Frag} {H : Hp} {vs : List V} {ds : List PyData} (h : DpAll K H vs ds) {k : Nat} (g : SmL k ds) (lo hi : Option Int) : ∃ es, DpAll K H (cutV vs lo hi) es ∧ SmL k es := by
  unfold cutV
  exact ⟨_, DpAll.take _ (DpAll.drop _ h), SmL.take _ (SmL.drop _ g)⟩
/-! ## l != [] -/
end Sg
set_option Elab.async false
set_option linter.all false
set_option maxRecDepth 100000
set_option maxHeartbeats 4000000
namespace Sg
open PySem PySem.Spec PyProof.Rows L2
/-! ## rows of expressions, each of its own making -/
def tE (S : L2.St → Hp → Prop) (R : Hp → V → Prop) : TE := fun σ H Q => S σ H ∧ ∀ H' v, Same H H' → R H' v → Q v H'
section
variable {X : Cx} {S : L2.St → Hp → Prop} {R : Hp → V → Prop}
theorem PE.e {e : Expr} {t : TE} (h : PE X e t) (i : ∀ σ H Q, S σ H → (∀ H' v, Same H H' → R H' v → Q v H') → t σ H Q) : PE X e (tE S R) := PE.imp h fun σ H Q q => i σ H Q q.1 q.2
/-! ## tuples: + and slices, any of them -/
theorem cutV_whole {xs : List V} {lo hi : Option Int} (h : HT.sIx xs.length 0 lo = 0 ∧ HT.sIx xs.length xs.length hi = xs.length) : cutV xs lo hi = xs := by
  unfold cutV
  rw [h.1, h.2, List.drop_zero, Nat.sub_zero, List.take_length]
theorem sl_tupB {K : PySem.W.Frag} (hK : X.K = K) : SlR X (fun x lo hi H Q => ∃ a xs, x = .ref a ∧ SqT K H a xs ∧ ∀ H' b, Same H H' → SqT K H' b (cutV xs lo hi) → Q (.ref b) H') := by
  subst hK
  intro pins s σ H x v vl vu lo hi sl Q I rx hs pl pu h
  obtain ⟨a, xs, rfl, hx, q⟩ := h
  exact sl_tupA pins s σ H _ v vl vu lo hi sl Q I rx hs pl pu ⟨a, xs, rfl, hx, fun hw => q H a (same_refl H) (by rw [cutV_whole hw]; exact hx), fun _ p np => q _ p (same_new np) (.of upd_same)⟩
end
/-! ## short data -/
def SmV (K : PySem.W.Frag) (H : Hp) (v : V) : Prop := ∃ d, Dp K H v d ∧ SmL 100 [d]
theorem SmV.same {K : PySem.W.Frag} {H H' : Hp} (e : Same H H') {v : V} (h : SmV K H v) : SmV K H' v := by
  obtain ⟨d, h1, h2⟩ := h
  exact ⟨d, Dp.same e h1, h2⟩
end Sg
set_option Elab.async false
set_option linter.all false
set_option maxRecDepth 100000
set_option maxHeartbeats 4000000
namespace Sg
open PySem PySem.Spec PyProof.Rows L2
/-! ## data is kept where only tables change -/
abbrev ExtN := @LamX.ExtN
theorem ext_of {H H' : Hp} (e : Same H H') : LamX.ExtN H H' := fun b o h _ => e b o h
theorem ext_tup {K : PySem.W.Frag} {H H' : Hp} {a : Addr} {xs : List V} (e : LamX.ExtN H H') (h : SqT K H a xs) : SqT K H' a xs := by
  rcases h with (h | ⟨o, h⟩) | h
  · exact .inl (.inl (e _ _ h fun ps z => nomatch z))
  · exact .inl (.inr ⟨o, e _ _ h fun ps z => nomatch z⟩)
  · exact .inr h
theorem ext_lst {K : PySem.W.Frag} {H H' : Hp} {a : Addr} {xs : List V} (e : LamX.ExtN H H') (h : SqL K H a xs) : SqL K H' a xs := by
  rcases h with (h | ⟨o, h⟩) | h
  · exact .inl (.inl (e _ _ h fun ps z => nomatch z))
  · exact .inl (.inr ⟨o, e _ _ h fun ps z => nomatch z⟩)
  · exact .inr h
mutual
theorem Dp.ext {K : PySem.W.Frag} {H H' : Hp} (e : LamX.ExtN H H') : ∀ {v : V} {d : PyData}, Dp K H v d → Dp K H' v d
  | _, _, .non => .non
  | _, _, .bl b => .bl b
  | _, _, .int i => .int i
  | _, _, .str x => .str x
  | _, _, .lst h r => .lst (ext_lst e h) (DpAll.ext e r)
  | _, _, .tup h r => .tup (ext_tup e h) (DpAll.ext e r)
theorem DpAll.ext {K : PySem.W.Frag} {H H' : Hp} (e : LamX.ExtN H H') : ∀ {vs : List V} {ds : List PyData}, DpAll K H vs ds → DpAll K H' vs ds
  | _, _, .nil => .nil
  | _, _, .cons a r => .cons (Dp.ext e a) (DpAll.ext e r)
end
mutual
theorem Tp.ext {K : PySem.W.Frag} {H H' : Hp} (e : LamX.ExtN H H') : ∀ {v : V} {d : PyData}, Tp K H v d → Tp K H' v d
  | _, _, .int i => .int i
  | _, _, .tu h r => .tu (ext_tup e h) (TpAll.ext e r)
theorem TpAll.ext {K : PySem.W.Frag} {H H' : Hp} (e : LamX.ExtN H H') : ∀ {vs : List V} {ds : List PyData}, TpAll K H vs ds → TpAll K H' vs ds
  | _, _, .no => .no
  | _, _, .on a r => .on (Tp.ext e a) (TpAll.ext e r)
end
theorem Aq.ext {K : PySem.W.Frag} {H H' : Hp} (e : LamX.ExtN H H') {v : V} {d : PyData} (h : Aq K H v d) : Aq K H' v d := by
  cases h with
  | data h => exact .data (Dp.ext e h)
  | dic h g =>
    refine .dic (e _ _ h fun ps z => nomatch z) ?_
    cases g with
    | no => exact .no
    | one t => exact .one (Tp.ext e t)
theorem AnyV.ext {K : PySem.W.Frag} {H H' : Hp} (e : LamX.ExtN H H') {v : V} (h : AnyV K H v) : AnyV K H' v := by
  obtain ⟨d, h1, h2⟩ := h
  exact ⟨d, h1.ext e, h2⟩
theorem PenAt.ext {H H' : Hp} {p : Addr} (e : LamX.ExtN H H') (h : PenAt H p) : PenAt H' p := by
  obtain ⟨a, b, c, h1, h2⟩ := h
  exact ⟨a, b, c, e _ _ h1 (fun ps z => nomatch z), h2⟩
theorem FrzT.ext {H H' : Hp} (e : LamX.ExtN H H') {a : Addr} {xs : List V} (h : FrzT H a xs) : FrzT H' a xs := by
  obtain ⟨ob, h1, h2⟩ := h
  exact ⟨ob, e _ _ h1 (fun ps z => nomatch z), h2⟩
/-! ## the code object of a def that makes lambdas -/
end Sg
set_option Elab.async false
set_option linter.all false
set_option maxRecDepth 100000
set_option maxHeartbeats 4000000
set_option Elab.async false
set_option linter.all false
set_option maxRecDepth 100000
set_option maxHeartbeats 4000000
namespace Sg
open PySem PySem.Spec PyProof.Rows L2
/-! ## short data, a dict at most on top -/
def AnyS (K : PySem.W.Frag) (H : Hp) (v : V) : Prop := ∃ d, Aq K H v d ∧ GoodD d ∧ d.bulk ≤ 900
theorem AnyS.same {K : PySem.W.Frag} {H H' : Hp} (e : Same H H') {v : V} (h : AnyS K H v) : AnyS K H' v := by
  obtain ⟨d, h1, h2⟩ := h
  exact ⟨d, h1.same e, h2⟩
theorem AnyS.ext {K : PySem.W.Frag} {H H' : Hp} (e : LamX.ExtN H H') {v : V} (h : AnyS K H v) : AnyS K H' v := by
  obtain ⟨d, h1, h2⟩ := h
  exact ⟨d, h1.ext e, h2⟩
theorem AnyS.any {K : PySem.W.Frag} {H : Hp} {v : V} (h : AnyS K H v) : AnyV K H v := by
  obtain ⟨d, h1, h2, _⟩ := h
  exact ⟨d, h1, h2⟩
def AllS (K : PySem.W.Frag) (H : Hp) (vs : List V) : Prop := ∀ v ∈ vs, AnyS K H v
theorem AllS.same {K : PySem.W.Frag} {H H' : Hp} (e : Same H H') {vs : List V} (h : AllS K H vs) : AllS K H' vs := fun v hv => (h v hv).same e
theorem AllS.app {K : PySem.W.Frag} {H : Hp} {vs us : List V} (h : AllS K H vs) (g : AllS K H us) : AllS K H (vs ++ us) := fun v hv => (List.mem_append.mp hv).elim (h v) (g v)
/-! ## what is no instance of an own class -/
def PlainV (K : PySem.W.Frag) (H : Hp) (v : V) : Prop := ∃ d : PyData, TyX K H v (.type (tyN d))
theorem AnyV.plain {K : PySem.W.Frag} {H : Hp} {v : V} (h : AnyV K H v) : PlainV K H v := by
  obtain ⟨d, h1, _⟩ := h
  exact ⟨d, aq_ty h1⟩
/-! ## laps, worths: of any data -/
end Sg
set_option Elab.async false
set_option linter.all false
set_option maxRecDepth 100000
set_option maxHeartbeats 4000000
set_option Elab.async false
set_option linter.all false
set_option maxRecDepth 100000
set_option maxHeartbeats 4000000
namespace Sg
open PySem PySem.Spec PyProof.Rows L2
/-! ## data that may hold a Line: to the built-in types a Line looks as None does -/
mutual
inductive Lp (K : PySem.W.Frag) (C : Addr) (H : Hp) : V → PyData → Prop
  | non : Lp K C H .non .none
  | bl (b : Bool) : Lp K C H (.bl b) (.bool b)
  | int (i : Int) : Lp K C H (.int i) (.int i)
  | str (x : Str) : Lp K C H (.str x) (.str x)
  | lst {a : Addr} {xs : List V} {ds : List PyData} : SqL K H a xs → LpAll K C H xs ds → Lp K C H (.ref a) (.list ds)
  | tup {a : Addr} {xs : List V} {ds : List PyData} : SqT K H a xs → LpAll K C H xs ds → Lp K C H (.ref a) (.tuple ds)
  | line {a : Addr} {ws : List (List Int)} : LineAt K C H a ws → Lp K C H (.ref a) .none
  | dic {a : Addr} {kvs : List (L2.Key × V)} : H a = some (.dK kvs) → Lp K C H (.ref a) (.dict [])
inductive LpAll (K : PySem.W.Frag) (C : Addr) (H : Hp) : List V → List PyData → Prop
  | nil : LpAll K C H [] []
  | cons {v : V} {vs : List V} {d : PyData} {ds : List PyData} : Lp K C H v d → LpAll K C H vs ds → LpAll K C H (v :: vs) (d :: ds)
end
mutual
theorem Lp.ext {K : PySem.W.Frag} {C : Addr} {H H' : Hp} (e : LamX.ExtN H H') : ∀ {v : V} {d : PyData}, Lp K C H v d → Lp K C H' v d
  | _, _, .non => .non
  | _, _, .bl b => .bl b
  | _, _, .int i => .int i
  | _, _, .str x => .str x
  | _, _, .lst h r => .lst (ext_lst e h) (LpAll.ext e r)
  | _, _, .tup h r => .tup (ext_tup e h) (LpAll.ext e r)
  | _, _, .line h => .line (h.stay ⟨fun _ _ z => ext_tup e z, fun _ _ _ _ z => e _ _ z fun ps y => nomatch y⟩)
  | _, _, .dic h => .dic (e _ _ h fun ps y => nomatch y)
theorem LpAll.ext {K : PySem.W.Frag} {C : Addr} {H H' : Hp} (e : LamX.ExtN H H') : ∀ {vs : List V} {ds : List PyData}, LpAll K C H vs ds → LpAll K C H' vs ds
  | _, _, .nil => .nil
  | _, _, .cons a r => .cons (Lp.ext e a) (LpAll.ext e r)
end
theorem Lp.same {K : PySem.W.Frag} {C : Addr} {H H' : Hp} (e : Same H H') {v : V} {d : PyData} (h : Lp K C H v d) : Lp K C H' v d := h.ext (ext_of e)
theorem LpAll.same {K : PySem.W.Frag} {C : Addr} {H H' : Hp} (e : Same H H') {vs : List V} {ds : List PyData} (h : LpAll K C H vs ds) : LpAll K C H' vs ds := h.ext (ext_of e)
theorem LpAll.len {K : PySem.W.Frag} {C : Addr} {H : Hp} : ∀ {vs : List V} {ds : List PyData}, LpAll K C H vs ds → vs.length = ds.length
  | _, _, .nil => rfl
  | _, _, .cons _ r => congrArg (· + 1) (LpAll.len r)
theorem LpAll.at {K : PySem.W.Frag} {C : Addr} {H : Hp} : ∀ {vs : List V} {ds : List PyData} {i : Nat} {v : V}, LpAll K C H vs ds → vs[i]? = some v → ∃ d, ds[i]? = some d ∧ Lp K C H v d
  | _, _, _, _, .nil, h => nomatch h
  | _, _, 0, _, .cons a _, h => by cases h; exact ⟨_, rfl, a⟩
  | _, _, i + 1, _, .cons _ r, h => LpAll.at (i := i) r h
end Sg
set_option Elab.async false
set_option linter.all false
set_option maxRecDepth 100000
set_option maxHeartbeats 4000000
set_option Elab.async false
set_option linter.all false
set_option maxRecDepth 100000
set_option maxHeartbeats 4000000
set_option Elab.async false
set_option linter.all false
set_option maxRecDepth 100000
set_option maxHeartbeats 4000000
set_option Elab.async false
set_option linter.all false
set_option maxRecDepth 100000
set_option maxHeartbeats 4000000
set_option Elab.async false
set_option linter.all false
set_option maxRecDepth 100000
set_option maxHeartbeats 4000000
namespace Sg
open PySem PySem.Spec PyProof.Rows L2
section
variable {β : Type} {prog : Program} {w : World} {A : Around} {R : Result → Shared → Prop}
/-- all but a stays -/
def StayB (a : Addr) (h h' : Heap) : Prop := (∀ b o, b ≠ a → h.get? b = some o → h'.get? b = some o) ∧ h'.objs.size = h.objs.size
theorem StayB.trans {a : Addr} {h h1 h2 : Heap} (x : StayB a h h1) (y : StayB a h1 h2) : StayB a h h2 := ⟨fun b o n e => y.1 b o n (x.1 b o n e), y.2.trans x.2⟩
theorem StayB.upd {a : Addr} {h : Heap} {f : Obj → Obj} : StayB a h (h.update a f) := ⟨fun b o n e => (Heap.get?_update_other _ _ (Ne.symm n)).trans e, by simp [Heap.update]⟩
end
end Sg
set_option Elab.async false
set_option linter.all false
set_option maxRecDepth 100000
set_option maxHeartbeats 4000000
set_option Elab.async false
set_option linter.all false
set_option maxRecDepth 100000
set_option maxHeartbeats 4000000
set_option Elab.async false
set_option linter.all false
set_option maxRecDepth 100000
set_option maxHeartbeats 4000000
set_option Elab.async false
set_option linter.all false
set_option maxRecDepth 100000
set_option maxHeartbeats 4000000
namespace Sg
open PySem PySem.Spec PyProof.Rows L2
/-! ## waits: places and items of the queue -/
abbrev Plc := Int × Int
abbrev plD (p : Plc) : PyData := tD [p.1, p.2]
abbrev plsD (ps : List Plc) : List PyData := ps.map plD
def plLt (p q : Plc) : Bool := decide (p.1 < q.1) || (decide (p.1 = q.1) && decide (p.2 < q.2))
theorem dataLt_pl (p q : Plc) : PySem.W.dataLt (plD p) (plD q) = plLt p q := by
  show PySem.W.dataLt (.tuple [.int p.1, .int p.2]) (.tuple [.int q.1, .int q.2]) = _
  rw [PySem.W.dataLt_ii]
  unfold plLt
  by_cases h1 : p.1 < q.1 <;> by_cases h2 : p.1 = q.1 <;> by_cases h3 : p.2 < q.2 <;> simp [h1, h2, h3]
/-! ### lists of whole numbers, of places, the less -/
def lexI : List Int → List Int → Bool
  | _, [] => false
  | [], _ :: _ => true
  | x :: xs, y :: ys => if x = y then lexI xs ys else decide (x < y)
def lexP : List Plc → List Plc → Bool
  | _, [] => false
  | [], _ :: _ => true
  | x :: xs, y :: ys => if x = y then lexP xs ys else plLt x y
abbrev It := Int × List Int × List Plc
def itD (i : It) : PyData := .tuple [.int i.1, tD i.2.1, .tuple (plsD i.2.2)]
open PySem.W in
theorem rowLt_nil : rowLt [] [] = false := lex_irrefl _
open PySem.W in
theorem rowLt_less (y : PyData) (ys : List PyData) : rowLt [] (y :: ys) = true := by
  unfold rowLt
  rw [toks_all_cons]
  simp only [keyToksAll]
  rw [lex_diff (O := itemOrd) (by simp)]
  rfl
open PySem.W in
theorem rowLt_more (x : PyData) (xs : List PyData) : rowLt (x :: xs) [] = false := by
  unfold rowLt
  rw [toks_all_cons]
  simp only [keyToksAll]
  rw [lex_diff (O := itemOrd) (by simp)]
  rfl
open PySem.W in
theorem rowLt_cons {x y : PyData} (h : alike x y = true) (xs ys : List PyData) : rowLt (x :: xs) (y :: ys) = if PyData.eqv x y = true then rowLt xs ys else dataLt x y := dataLt_cons h xs ys
theorem rowLt_ints : ∀ xs ys : List Int, PySem.W.rowLt (iD xs) (iD ys) = lexI xs ys
  | [], [] => rowLt_nil
  | [], y :: ys => rowLt_less _ _
  | x :: xs, [] => rowLt_more _ _
  | x :: xs, y :: ys => by
    show PySem.W.rowLt (.int x :: iD xs) (.int y :: iD ys) = if x = y then lexI xs ys else decide (x < y)
    rw [rowLt_cons (by simp [PySem.W.alike]), rowLt_ints xs ys, PySem.W.dataLt_int]
    simp only [PyData.eqv, beq_iff_eq]
theorem alike_pl (p q : Plc) : PySem.W.alike (plD p) (plD q) = true := by
  simp [PySem.W.alike, PySem.W.alikeAll]
theorem eqv_pl (p q : Plc) : PyData.eqv (plD p) (plD q) = decide (p = q) := by
  rw [eqv_tD]
  by_cases h : p = q
  · rw [h, decide_eq_true rfl, decide_eq_true rfl]
  · rw [decide_eq_false h, decide_eq_false]
    intro e
    obtain ⟨e1, e2⟩ := List.cons.inj e
    exact h (Prod.ext e1 (List.cons.inj e2).1)
theorem rowLt_pls : ∀ xs ys : List Plc, PySem.W.rowLt (plsD xs) (plsD ys) = lexP xs ys
  | [], [] => rowLt_nil
  | [], y :: ys => rowLt_less _ _
  | x :: xs, [] => rowLt_more _ _
  | x :: xs, y :: ys => by
    show PySem.W.rowLt (plD x :: plsD xs) (plD y :: plsD ys) = if x = y then lexP xs ys else plLt x y
    rw [rowLt_cons (alike_pl x y), rowLt_pls xs ys, dataLt_pl, eqv_pl]
    by_cases h : x = y
    · rw [if_pos h, if_pos (decide_eq_true h)]
    · rw [if_neg h, if_neg (by rw [decide_eq_false h]; exact Bool.false_ne_true)]
theorem eqv_pls : ∀ xs ys : List Plc, PyData.eqvAll (plsD xs) (plsD ys) = decide (xs = ys)
  | [], [] => by simp [PyData.eqvAll]
  | [], y :: ys => by simp [PyData.eqvAll]
  | x :: xs, [] => by simp [PyData.eqvAll]
  | x :: xs, y :: ys => by
    show PyData.eqvAll (plD x :: plsD xs) (plD y :: plsD ys) = _
    rw [PyData.eqvAll, eqv_pl, eqv_pls xs ys]
    by_cases h : x = y <;> by_cases g : xs = ys <;> simp [h, g]
theorem alike_pls : ∀ xs ys : List Plc, PySem.W.alikeAll (plsD xs) (plsD ys) = true
  | [], ys => by cases ys <;> simp [PySem.W.alikeAll]
  | x :: xs, [] => by simp [PySem.W.alikeAll]
  | x :: xs, y :: ys => by
    show PySem.W.alikeAll (plD x :: plsD xs) (plD y :: plsD ys) = true
    unfold PySem.W.alikeAll
    rw [alike_pl, alike_pls xs ys]
    simp
end Sg
set_option Elab.async false
set_option linter.all false
set_option maxRecDepth 100000
set_option maxHeartbeats 4000000
namespace Sg
open PySem PySem.Spec PyProof.Rows L2
/-! ## the search for the least waits, as the program does it -/
abbrev SKey := Nat × List Plc
/-! ### what stands in the heap -/
def KeepT (H H' : Hp) : Prop := ∀ a us, H a = some (.tup us) → H' a = some (.tup us)
theorem KeepT.of {H H' : Hp} (e : Same H H') : KeepT H H' := fun a us h => e _ _ h
theorem KeepT.trans {H H1 H2 : Hp} (x : KeepT H H1) (y : KeepT H1 H2) : KeepT H H2 := fun a us h => y a us (x a us h)
theorem KeepT.upd {H : Hp} {a : Addr} {o o' : HO} (h : H a = some o) (n : ∀ us, o ≠ .tup us) : KeepT H (upd H a o') := fun b us z => by
  rw [upd_ne (ne_of z h (fun z => n us z.symm))]; exact z
inductive PlsAt (H : Hp) : List V → List Plc → Prop
  | nil : PlsAt H [] []
  | cons {c : Addr} {p : Plc} {vs : List V} {ps : List Plc} : H c = some (.tup [.int p.1, .int p.2]) → PlsAt H vs ps → PlsAt H (.ref c :: vs) (p :: ps)
theorem PlsAt.keep {H H' : Hp} (e : KeepT H H') : ∀ {vs : List V} {ps : List Plc}, PlsAt H vs ps → PlsAt H' vs ps
  | _, _, .nil => .nil
  | _, _, .cons h r => .cons (e _ _ h) (PlsAt.keep e r)
theorem PlsAt.len {H : Hp} : ∀ {vs : List V} {ps : List Plc}, PlsAt H vs ps → vs.length = ps.length
  | _, _, .nil => rfl
  | _, _, .cons _ r => congrArg (· + 1) (PlsAt.len r)
theorem PlsAt.snoc {H : Hp} {c : Addr} {p : Plc} (h : H c = some (.tup [.int p.1, .int p.2])) : ∀ {vs : List V} {ps : List Plc}, PlsAt H vs ps → PlsAt H (vs ++ [.ref c]) (ps ++ [p])
  | _, _, .nil => .cons h .nil
  | _, _, .cons a r => .cons a (PlsAt.snoc h r)
theorem PlsAt.at {H : Hp} : ∀ {vs : List V} {ps : List Plc} {i : Nat} {v : V}, PlsAt H vs ps → vs[i]? = some v → ∃ c p, v = .ref c ∧ ps[i]? = some p ∧ H c = some (.tup [.int p.1, .int p.2])
  | _, _, 0, _, .cons h _, e => by cases e; exact ⟨_, _, rfl, rfl, h⟩
  | _, _, i + 1, _, .cons _ r, e => PlsAt.at (i := i) r e
theorem PlsAt.dp {K : PySem.W.Frag} {H : Hp} : ∀ {vs : List V} {ps : List Plc}, PlsAt H vs ps → DpAll K H vs (plsD ps)
  | _, _, .nil => .nil
  | _, _, .cons h r => .cons (Tp.ofInts (ns := [_, _]) (.of h)).dp (PlsAt.dp r)
theorem PlsAt.tp {K : PySem.W.Frag} {H : Hp} : ∀ {vs : List V} {ps : List Plc}, PlsAt H vs ps → TpAll K H vs (plsD ps)
  | _, _, .nil => .no
  | _, _, .cons h r => .on (Tp.ofInts (ns := [_, _]) (.of h)) (PlsAt.tp r)
theorem PlsAt.zip {H : Hp} : ∀ {vs : List V} {ps : List Plc}, PlsAt H vs ps → ∀ b ∈ vs.zip (plsD ps), ∃ c p, b = (.ref c, plD p) ∧ H c = some (.tup [.int p.1, .int p.2])
  | _, _, .nil, b, hb => nomatch hb
  | _, _, .cons h r, b, hb => by
    rcases List.mem_cons.mp hb with rfl | hb
    · exact ⟨_, _, rfl, h⟩
    · exact PlsAt.zip r b hb
def TkAt (H : Hp) (r : Addr) (ps : List Plc) : Prop := ∃ us, H r = some (.tup us) ∧ PlsAt H us ps
theorem TkAt.keep {H H' : Hp} (e : KeepT H H') {r : Addr} {ps : List Plc} (h : TkAt H r ps) : TkAt H' r ps := by
  obtain ⟨us, h1, h2⟩ := h
  exact ⟨us, e _ _ h1, h2.keep e⟩
theorem TkAt.dp {K : PySem.W.Frag} {H : Hp} {r : Addr} {ps : List Plc} (h : TkAt H r ps) : Dp K H (.ref r) (.tuple (plsD ps)) := by
  obtain ⟨us, h1, h2⟩ := h
  exact .tup (.of h1) h2.dp
/-- an item of the queue -/
def ItAt (H : Hp) (v : V) (it : It) : Prop := ∃ r w t, v = .ref r ∧ H r = some (.tup [.int it.1, .ref w, .ref t]) ∧ H w = some (.tup (it.2.1.map V.int)) ∧ TkAt H t it.2.2
theorem ItAt.keep {H H' : Hp} (e : KeepT H H') {v : V} {it : It} (h : ItAt H v it) : ItAt H' v it := by
  obtain ⟨r, w, t, h1, h2, h3, h4⟩ := h
  exact ⟨r, w, t, h1, e _ _ h2, e _ _ h3, h4.keep e⟩
theorem ItAt.dp {K : PySem.W.Frag} {H : Hp} {v : V} {it : It} (h : ItAt H v it) : Dp K H v (itD it) := by
  obtain ⟨r, w, t, rfl, h2, h3, h4⟩ := h
  exact .tup (.of h2) (.cons (.int _) (.cons (Tp.ofInts (ns := it.2.1) (.of h3)).dp (.cons h4.dp .nil)))
/-! ### keys of what was seen -/
def plK (p : Plc) : NestedKey := .tup [.num p.1, .num p.2]
def sK (k : SKey) : NestedKey := .tup [.num (k.1 : Int), .tup (k.2.map plK)]
theorem PlsAt.keys {H : Hp} : ∀ {vs : List V} {ps : List Plc}, PlsAt H vs ps → KeyAll H (ps.map plK) vs
  | _, _, .nil => .no
  | _, _, .cons h r => .on (.tup h (.on (.int _) (.on (.int _) .no))) (PlsAt.keys r)
theorem depth_plK : ∀ ps : List Plc, NestedKey.depthAll (ps.map plK) ≤ 1
  | [] => by rw [List.map_nil, NestedKey.depthAll]; omega
  | p :: ps => by
    have := depth_plK ps
    rw [List.map_cons, NestedKey.depthAll]
    unfold plK
    simp only [NestedKey.depth, NestedKey.depthAll]
    exact Nat.max_le.mpr ⟨by simp, this⟩
theorem sK_deep (k : SKey) : (sK k).depth ≤ 8 := by
  have := depth_plK k.2
  unfold sK
  simp only [NestedKey.depth, NestedKey.depthAll]
  omega
theorem plK_inj : ∀ {x y : List Plc}, x.map plK = y.map plK → x = y
  | [], [], _ => rfl
  | [], _ :: _, h => nomatch h
  | _ :: _, [], h => nomatch h
  | a :: x, b :: y, h => by
    rw [List.map_cons, List.map_cons] at h
    obtain ⟨h1, h2⟩ := List.cons.inj h
    have h1 := NestedKey.tup.inj h1
    obtain ⟨h3, h4⟩ := List.cons.inj h1
    obtain ⟨h5, _⟩ := List.cons.inj h4
    rw [plK_inj h2, Prod.ext (NestedKey.num.inj h3) (NestedKey.num.inj h5)]
theorem sK_inj {x y : SKey} (h : sK x = sK y) : x = y := by
  have h := NestedKey.tup.inj h
  obtain ⟨h1, h2⟩ := List.cons.inj h
  obtain ⟨h3, _⟩ := List.cons.inj h2
  exact Prod.ext (by have := NestedKey.num.inj h1; omega) (plK_inj (NestedKey.tup.inj h3))
/-- the dict's rows are what was seen -/
structure SeenOk (H : Hp) (rs : List Row) (seen : List SKey) : Prop where
  keys : KeysIn H rs
  len : rs.length = seen.length
  has : ∀ k : SKey, (atN rs (sK k)).isSome = decide (k ∈ seen)
theorem SeenOk.keep {H H' : Hp} (e : KeepT H H') {rs : List Row} {seen : List SKey} (h : SeenOk H rs seen) : SeenOk H' rs seen := ⟨h.keys.keep e, h.len, h.has⟩
theorem SeenOk.add {H : Hp} {rs : List Row} {seen : List SKey} {k : SKey} {b : Addr} {v : V} (h : SeenOk H rs seen) (hk : KeyAt H (sK k) (.ref b)) (hn : k ∉ seen) : SeenOk H (storeN rs (sK k) b v) (k :: seen) := by
  have h0 : atN rs (sK k) = none := by
    have := h.has k
    rw [decide_eq_false hn] at this
    exact Option.isNone_iff_eq_none.mp (by simpa using this)
  rw [storeN_new h0]
  refine ⟨fun r hr => ?_, by rw [List.length_append, h.len]; rfl, fun k' => ?_⟩
  · rcases List.mem_append.mp hr with hr | hr
    · exact h.keys r hr
    · rw [List.mem_singleton.mp hr]; exact ⟨hk, sK_deep k⟩
  · have := h.has k'
    unfold atN at this ⊢
    rw [List.find?_append]
    by_cases e : k' = k
    · subst e
      rw [decide_eq_true List.mem_cons_self]
      cases hf : rs.find? (fun r => decide (r.1 = sK k')) with
      | some r => simp
      | none => simp [List.find?_cons]
    · have e2 : sK k ≠ sK k' := fun z => e (sK_inj z).symm
      rw [show decide (k' ∈ k :: seen) = decide (k' ∈ seen) from by simp [e], ← this]
      cases hf : rs.find? (fun r => decide (r.1 = sK k')) with
      | some r => simp
      | none => simp [List.find?_cons, e2]
end Sg
set_option Elab.async false
set_option linter.all false
set_option maxRecDepth 100000
set_option maxHeartbeats 4000000
namespace Sg
open PySem PySem.Spec PyProof.Rows L2 StX
/-! ## displays of constants and names, as data; each tuple's object is told -/
mutual
inductive Fd (H : Hp) : V → PyData → Prop
  | non : Fd H .non .none
  | bl (b : Bool) : Fd H (.bl b) (.bool b)
  | int (i : Int) : Fd H (.int i) (.int i)
  | lst {a : Addr} {xs : List V} {ds : List PyData} : H a = some (.lst xs) → FdAll H xs ds → Fd H (.ref a) (.list ds)
  | tup {a : Addr} {xs : List V} {ds : List PyData} : FrzT H a xs → FdAll H xs ds → Fd H (.ref a) (.tuple ds)
inductive FdAll (H : Hp) : List V → List PyData → Prop
  | nil : FdAll H [] []
  | cons {v : V} {vs : List V} {d : PyData} {ds : List PyData} : Fd H v d → FdAll H vs ds → FdAll H (v :: vs) (d :: ds)
end
mutual
theorem Fd.same {H H' : Hp} (e : Same H H') : ∀ {v : V} {d : PyData}, Fd H v d → Fd H' v d
  | _, _, .non => .non
  | _, _, .bl b => .bl b
  | _, _, .int i => .int i
  | _, _, .lst h r => .lst (e _ _ h) (FdAll.same e r)
  | _, _, .tup h r => .tup (h.same e) (FdAll.same e r)
theorem FdAll.same {H H' : Hp} (e : Same H H') : ∀ {vs : List V} {ds : List PyData}, FdAll H vs ds → FdAll H' vs ds
  | _, _, .nil => .nil
  | _, _, .cons a r => .cons (Fd.same e a) (FdAll.same e r)
end
mutual
theorem Fd.dp {K : PySem.W.Frag} {H : Hp} : ∀ {v : V} {d : PyData}, Fd H v d → Dp K H v d
  | _, _, .non => .non
  | _, _, .bl b => .bl b
  | _, _, .int i => .int i
  | _, _, .lst h r => .lst (.of h) (FdAll.dp r)
  | _, _, .tup h r => .tup h.sq (FdAll.dp r)
theorem FdAll.dp {K : PySem.W.Frag} {H : Hp} : ∀ {vs : List V} {ds : List PyData}, FdAll H vs ds → DpAll K H vs ds
  | _, _, .nil => .nil
  | _, _, .cons a r => .cons (Fd.dp a) (FdAll.dp r)
end
theorem FdAll.len {H : Hp} : ∀ {vs : List V} {ds : List PyData}, FdAll H vs ds → vs.length = ds.length
  | _, _, .nil => rfl
  | _, _, .cons _ r => congrArg (· + 1) (FdAll.len r)
theorem FdAll.app {H : Hp} : ∀ {vs us : List V} {ds es : List PyData}, FdAll H vs ds → FdAll H us es → FdAll H (vs ++ us) (ds ++ es)
  | _, _, _, _, .nil, g => g
  | _, _, _, _, .cons a r, g => .cons a (FdAll.app r g)
theorem FdAll.at {H : Hp} : ∀ {vs : List V} {ds : List PyData} {i : Nat} {v : V}, FdAll H vs ds → vs[i]? = some v → ∃ d, ds[i]? = some d ∧ Fd H v d
  | _, _, 0, _, .cons h _, e => by cases e; exact ⟨_, rfl, h⟩
  | _, _, i + 1, _, .cons _ r, e => FdAll.at (i := i) r e
theorem FdAll.ints {H : Hp} : ∀ {vs : List V} {ns : List Int}, FdAll H vs (iD ns) → vs = ns.map V.int
  | [], [], _ => rfl
  | [], _ :: _, h => nomatch h
  | _ :: _, [], h => nomatch h
  | v :: vs, n :: ns, h => by
    have h : FdAll H (v :: vs) (.int n :: iD ns) := h
    cases h with
    | cons a r =>
      cases a
      rw [FdAll.ints r]; rfl
theorem Fd.ints {H : Hp} {v : V} {ns : List Int} (h : Fd H v (tD ns)) : ∃ a, v = .ref a ∧ FrzT H a (ns.map V.int) := by
  have h : Fd H v (.tuple (iD ns)) := h
  cases h with
  | tup g r => rw [FdAll.ints r] at g; exact ⟨_, rfl, g⟩
/-! ### a tuple, its object told -/
/-! ### (x,) * n -/
/-! ### the reading -/
/-! ## a range object in a name -/
end Sg
set_option Elab.async false
set_option linter.all false
set_option maxRecDepth 100000
set_option maxHeartbeats 4000000
namespace Sg
/-! ## the order of the queue's items -/
theorem plLt_asym {p q : Plc} (h : plLt p q = true) : plLt q p = false := by
  unfold plLt at h ⊢
  simp only [Bool.or_eq_true, Bool.and_eq_true, decide_eq_true_eq] at h
  simp only [Bool.or_eq_false_iff, Bool.and_eq_false_iff, decide_eq_false_iff_not]
  omega
theorem plLt_neg {p q r : Plc} (h : plLt p q = false) (g : plLt q r = false) : plLt p r = false := by
  unfold plLt at h g ⊢
  simp only [Bool.or_eq_false_iff, Bool.and_eq_false_iff, decide_eq_false_iff_not] at h g ⊢
  omega
theorem plLt_eq {p q : Plc} (h : plLt p q = false) (g : plLt q p = false) : p = q := by
  unfold plLt at h g
  simp only [Bool.or_eq_false_iff, Bool.and_eq_false_iff, decide_eq_false_iff_not] at h g
  exact Prod.ext (by omega) (by omega)
section
variable {α : Type} [DecidableEq α] {lt : α → α → Bool}
/-- by size, as tuples are compared -/
def lexG (lt : α → α → Bool) : List α → List α → Bool
  | _, [] => false
  | [], _ :: _ => true
  | x :: xs, y :: ys => if x = y then lexG lt xs ys else lt x y
variable (as : ∀ x y, lt x y = true → lt y x = false) (ng : ∀ x y z, lt x y = false → lt y z = false → lt x z = false) (eq : ∀ x y, lt x y = false → lt y x = false → x = y)
include as in
theorem lexG_asym : ∀ xs ys : List α, lexG lt xs ys = true → lexG lt ys xs = false
  | [], [], h => nomatch h
  | [], _ :: _, _ => rfl
  | _ :: _, [], h => nomatch h
  | x :: xs, y :: ys, h => by
    have h : (if x = y then lexG lt xs ys else lt x y) = true := h
    show (if y = x then lexG lt ys xs else lt y x) = false
    by_cases e : x = y
    · rw [if_pos e] at h; rw [if_pos e.symm]; exact lexG_asym xs ys h
    · rw [if_neg e] at h; rw [if_neg (fun z => e z.symm)]; exact as _ _ h
include as ng eq in
theorem lexG_neg : ∀ xs ys zs : List α, lexG lt xs ys = false → lexG lt ys zs = false → lexG lt xs zs = false
  | _, _, [], _, _ => by unfold lexG; rfl
  | [], [], _ :: _, _, g => nomatch g
  | _ :: _, [], _ :: _, _, g => nomatch g
  | [], _ :: _, _ :: _, h, _ => nomatch h
  | x :: xs, y :: ys, z :: zs, h, g => by
    have h : (if x = y then lexG lt xs ys else lt x y) = false := h
    have g : (if y = z then lexG lt ys zs else lt y z) = false := g
    show (if x = z then lexG lt xs zs else lt x z) = false
    by_cases e1 : x = y
    · subst e1
      rw [if_pos rfl] at h
      by_cases e2 : x = z
      · rw [if_pos e2] at g ⊢; exact lexG_neg xs ys zs h g
      · rw [if_neg e2] at g ⊢; exact g
    · rw [if_neg e1] at h
      by_cases e2 : y = z
      · subst e2; rw [if_neg e1]; exact h
      · rw [if_neg e2] at g
        have k := ng _ _ _ h g
        by_cases e3 : x = z
        · subst e3
          -- then x and y are one another's equals
          exact absurd (eq _ _ h g) e1
        · rw [if_neg e3]; exact k
include eq in
theorem lexG_eq : ∀ xs ys : List α, lexG lt xs ys = false → lexG lt ys xs = false → xs = ys
  | [], [], _, _ => rfl
  | [], _ :: _, h, _ => nomatch h
  | _ :: _, [], _, g => nomatch g
  | x :: xs, y :: ys, h, g => by
    have h : (if x = y then lexG lt xs ys else lt x y) = false := h
    have g : (if y = x then lexG lt ys xs else lt y x) = false := g
    by_cases e : x = y
    · rw [if_pos e] at h; rw [if_pos e.symm] at g
      rw [e, lexG_eq xs ys h g]
    · rw [if_neg e] at h; rw [if_neg (fun z => e z.symm)] at g
      exact absurd (eq _ _ h g) e
end
def ltZ' (x y : Int) : Bool := decide (x < y)
theorem lexI_g : ∀ xs ys : List Int, lexI xs ys = lexG ltZ' xs ys
  | _, [] => by unfold lexI lexG; rfl
  | [], _ :: _ => rfl
  | x :: xs, y :: ys => by show (if x = y then lexI xs ys else _) = if x = y then lexG ltZ' xs ys else _; rw [lexI_g xs ys]; rfl
theorem lexP_g : ∀ xs ys : List Plc, lexP xs ys = lexG plLt xs ys
  | _, [] => by unfold lexP lexG; rfl
  | [], _ :: _ => rfl
  | x :: xs, y :: ys => by show (if x = y then lexP xs ys else _) = if x = y then lexG plLt xs ys else _; rw [lexP_g xs ys]
theorem zas (x y : Int) (h : ltZ' x y = true) : ltZ' y x = false := by unfold ltZ' at h ⊢; rw [decide_eq_true_eq] at h; rw [decide_eq_false_iff_not]; omega
theorem zng (x y z : Int) (h : ltZ' x y = false) (g : ltZ' y z = false) : ltZ' x z = false := by unfold ltZ' at h g ⊢; rw [decide_eq_false_iff_not] at h g ⊢; omega
theorem zeq (x y : Int) (h : ltZ' x y = false) (g : ltZ' y x = false) : x = y := by unfold ltZ' at h g; rw [decide_eq_false_iff_not] at h g; omega
theorem lexI_asym (xs ys : List Int) (h : lexI xs ys = true) : lexI ys xs = false := by rw [lexI_g] at h ⊢; exact lexG_asym zas _ _ h
theorem lexI_neg (xs ys zs : List Int) (h : lexI xs ys = false) (g : lexI ys zs = false) : lexI xs zs = false := by rw [lexI_g] at h g ⊢; exact lexG_neg zas zng zeq _ _ _ h g
theorem lexI_eq (xs ys : List Int) (h : lexI xs ys = false) (g : lexI ys xs = false) : xs = ys := by rw [lexI_g] at h g; exact lexG_eq zeq _ _ h g
theorem lexP_asym (xs ys : List Plc) (h : lexP xs ys = true) : lexP ys xs = false := by rw [lexP_g] at h ⊢; exact lexG_asym (lt := plLt) (fun _ _ h => plLt_asym h) _ _ h
theorem lexP_neg (xs ys zs : List Plc) (h : lexP xs ys = false) (g : lexP ys zs = false) : lexP xs zs = false := by rw [lexP_g] at h g ⊢; exact lexG_neg (lt := plLt) (fun _ _ h => plLt_asym h) (fun _ _ _ h g => plLt_neg h g) (fun _ _ h g => plLt_eq h g) _ _ _ h g
end Sg
set_option Elab.async false
set_option linter.all false
set_option maxRecDepth 100000
set_option maxHeartbeats 4000000
set_option Elab.async false
set_option linter.all false
set_option maxRecDepth 100000
set_option maxHeartbeats 4000000
set_option Elab.async false
set_option linter.all false
set_option maxRecDepth 100000
set_option maxHeartbeats 4000000
set_option Elab.async false
set_option linter.all false
set_option maxRecDepth 100000
set_option maxHeartbeats 4000000
namespace Sg
open PySem PySem.Spec PyProof.Rows L2 StX
/-! ## sorted(a tuple of data) -/
section
variable {X : Cx}
/-! ## min(list of data) -/
theorem cr_minL (hc : X.calm = true) {j : Nat} (hr : Room j X.A) : CallR X (.builtin "min") (fun vs H Q => ∃ (a : Addr) (ys : List V) (e : PyData) (es : List PyData), vs = [.ref a] ∧ SqL X.K H a ys ∧ DpAll X.K H ys (e :: es) ∧
    PySem.W.AlikeAll (e :: es) ∧ PyData.depthAll (e :: es) ≤ 10 ∧ (∀ (i : Nat) (y : V), ys[i]? = some y → (e :: es)[i]? = some (PySem.W.minD e es) → Q y H)) := by
  intro pins s σ H xs us Q I r h
  obtain ⟨a, ys, e, es, rfl, hs, dp, al, dep, q⟩ := h
  obtain ⟨u, rfl, rfl⟩ := vals1 r
  obtain ⟨its, rv, hl, hzz⟩ := I.list hs
  obtain ⟨as, rd⟩ := Dp.readsAll I (e :: es) _ its dp rv
  have hu := hr.units
  refine PySem.W.min_list_data (I.ok.hd hc) hl.isList (by simpa using rd) al (by omega) (fun i v h' tk bs hv hrd hk => ?_)
  have hv' : its[i]? = some v := by simpa using hv
  obtain ⟨y, hy, ry⟩ := vals_back rv hv'
  obtain ⟨d, bs2, hd, rd2⟩ := reads_back rd hv'
  obtain ⟨e1, _⟩ := reads_det (fun b o g _ => hk b o g) rd2 hrd
  rw [← e1] at hd
  exact ⟨y, H, I.kept hk, ry, q i y hy hd⟩
end
end Sg
set_option Elab.async false
set_option linter.all false
set_option maxRecDepth 100000
set_option maxHeartbeats 4000000
set_option Elab.async false
set_option linter.all false
set_option maxRecDepth 100000
set_option maxHeartbeats 4000000
namespace Sg
open PySem PySem.Spec PyProof.Rows L2 StX
/-! ## d.items(): pairs, each a new tuple -/
def ItiN (P : Program) (w : World) (d : Addr) (o : Obj) (rs : List Row) : L2.It :=
  ⟨fun i H => H d = some (.frz o (DN P w d rs)) ∧ KeysIn H rs ∧ i < rs.length, fun i H x H' => ∃ T r, rs[i]? = some r ∧ x = .ref T ∧ H T = none ∧ H' = upd H T (.tup [.ref r.2.1, r.2.2]), fun i H => H d = some (.frz o (DN P w d rs)) ∧ rs.length ≤ i⟩
theorem frzN {X : Cx} {pins : List (Addr × Obj)} {σ : L2.St} {H : Hp} {s : Shared} {d : Addr} {o : Obj} {rs : List Row} (I : Inv X pins σ H s) (h : H d = some (.frz o (DN X.prog X.w d rs))) :
    (d == sysModules) = false ∧ ∃ (es : Array DictEntry) (ep : Nat), o.ExactDict ∧ o.data = .dict es ep ∧ s.heap.DictRaw d es ep ∧ es.size = rs.length ∧ ∀ (i : Nat) (r : Row), rs[i]? = some r → ∃ en, es[i]? = some en ∧ en.key = .ref r.2.1 ∧ RelV r.2.2 en.val := by
  obtain ⟨hd, hn⟩ := I.hok d _ h
  obtain ⟨⟨z, hs, ys, rel, o', es, ep, ho, hx, hdt, he, _⟩, _⟩ := hn
  rw [hd] at ho
  cases ho
  have l1 : es.size = ys.length := size_of_entries he
  have l2 := Paired.length rel
  refine ⟨hs, es, ep, hx, hdt, ⟨o, hd, hx, hdt⟩, by omega, fun i r e => ?_⟩
  obtain ⟨y, hy, e1, e2, e3⟩ := paired_get rel e
  have q := entry_at he i
  rw [hy] at q
  exact ⟨_, q, by show Value.ref y.2.1 = _; rw [e2], e3⟩
theorem turn_itemsN {P : Program} {w : World} {K : PySem.W.Frag} {d : Addr} {o : Obj} {es : Array DictEntry} {ep : Nat} {rs : List Row} {elts : List Expr} {kk : Nat} {tpos : Pos} (it : Addr) (hod : o.data = .dict es ep) :
    Turn P w K (.Tuple elts kk tpos) (ItiN P w d o rs) [it] it (fun i h => ∃ ok ov, IsItemIter h it d i rs.length ep ok ov) where
  mem := List.mem_singleton.mpr rfl
  obj := fun i h st b hb => by
    obtain rfl : b = it := List.mem_singleton.mp hb
    obtain ⟨ok, ov, e⟩ := st
    exact ⟨_, e, fun v z => nomatch z⟩
  keep := fun i h h' st k => by
    obtain ⟨ok, ov, e⟩ := st
    exact ⟨ok, ov, k it (List.mem_singleton.mpr rfl) _ e⟩
  item := by
    intro X hP hw hK hc i pins s σ H E I hf st hg
    subst hP hw hK
    obtain ⟨hd, hk, hi⟩ := hg
    obtain ⟨hs, es', ep', hx, hdt, raw, hsz, ent⟩ := frzN I hd
    obtain ⟨rfl, rfl⟩ := dict_ep hod hdt
    obtain ⟨r, hr⟩ : ∃ r, rs[i]? = some r := ⟨rs[i], List.getElem?_eq_getElem hi⟩
    obtain ⟨en, hen, ekey, rv⟩ := ent i r hr
    obtain ⟨hie, een⟩ := Array.getElem?_eq_some_iff.mp hen
    obtain ⟨ok, ov, he⟩ := st
    rw [← hsz] at he
    have hlt : it < s.heap.objs.size := Heap.lt_size he
    refine PySem.wpAny_pyNext_items_item_raw he raw hie fun h' ho hT hz kp => ?_
    rw [een, ekey] at ho hT
    refine ⟨_, rfl, ?_⟩
    refine wpAny_letOwnedTupleGo_items (s := { s with heap := h' }) ho fun h2 he2 sb => ?_
    have hT2 : h2.get? s.heap.objs.size = some { cls := .type "tuple", data := .seq #[.ref r.2.1, en.val] } := (sb.2 _ (Nat.ne_of_gt hlt)).trans hT
    have new : ObjOk X.prog X.w (upd H s.heap.objs.size (.tup [.ref r.2.1, r.2.2])) h2 s.heap.objs.size (.tup [.ref r.2.1, r.2.2]) :=
      ⟨by show 2 ≤ sizeLine; decide, [.ref r.2.1, en.val], .cons rfl (.cons rv .nil), ⟨_, hT2, rfl, _, rfl⟩⟩
    have I1 : Inv X pins σ (upd H s.heap.objs.size (.tup [.ref r.2.1, r.2.2])) { s with heap := h2 } :=
      I.turnedNew (t' := s.toks) (ch := [it]) (fun b ob hb e => (sb.2 b (by simpa using hb)).trans (kp b ob (by simpa using hb) e)) hf (Nat.le_refl _) new
    refine ⟨.ref s.heap.objs.size, _, I1, rfl, ⟨_, r, hr, rfl, I.hok.fresh (Nat.le_refl _), rfl⟩, ⟨.ref r.2.1, en.val, by rw [← hsz]; exact he2⟩, fun b hb => ?_⟩
    obtain rfl : b = it := List.mem_singleton.mp hb
    rw [upd_ne (Nat.ne_of_lt hlt)]
    exact (hf b (List.mem_singleton.mpr rfl)).1
  done := by
    intro X hP hw hK hc i pins s σ H E I hf st hg
    subst hP hw hK
    obtain ⟨hd, hi⟩ := hg
    obtain ⟨f0, f1, f2, f3, f4, f5⟩ := hf it (List.mem_singleton.mpr rfl)
    obtain ⟨hs, es', ep', hx, hdt, raw, hsz, ent⟩ := frzN I hd
    obtain ⟨rfl, rfl⟩ := dict_ep hod hdt
    obtain ⟨ok, ov, he⟩ := st
    rw [← hsz] at he
    exact PySem.wpAny_pyNext_items_end_raw (I.ok.hd hc) he raw (by omega) fun h' eb => ⟨rfl, I.turned (t' := s.toks) (fun b ob hb e => eb b ob hb e) f0 f1 f3 f4 f5⟩
  self := fun A i s Q E st h => by
    obtain ⟨_, _, e⟩ := st
    exact PySem.W.kcp_self e h
def iItemsN (P : Program) (w : World) (td : TE) : TI := fun σ H R => td σ H fun x H1 => ∃ d o rs, x = .ref d ∧ H1 d = some (.frz o (DN P w d rs)) ∧ R (ItiN P w d o rs) H1
section
variable {X : Cx} {e : Expr} {td : TE} {apos cpos : Pos}
theorem pi_itemsN {elts : List Expr} {kk : Nat} {tpos : Pos} (he : PE X e td) (hbase : attributeBase e "items" X.env (eval e X.env) = eval e X.env := by rfl) (hline : (apos.endLine == cpos.line) = true := by rfl) :
    PI X (.Tuple elts kk tpos) (.Call (.Attribute e "items" apos) [] [] cpos) (iItemsN X.prog X.w td) := by
  constructor
  intro pins s0 σ H R I h
  refine wpAny_Call_method (T := "dict") (id := "dict.items") hbase rfl hline PySem.F.plainAttrs_dict PySem.F.slot_dict_items PySem.F.type_dict_items (thn (he.run pins s0 σ H _ I h) ?_)
  rintro u s1 ⟨x, H1, I1, rx, d, o, rs, rfl, hd, q⟩
  obtain rfl : u = Value.ref d := rx
  obtain ⟨hs, es, ep, hx, hdt, raw, hsz, ent⟩ := frzN I1 hd
  have hget : s1.heap.get? d = some o := (I1.hok d _ hd).1
  refine ⟨⟨o, hget, hx.1⟩, fun c ec => by cases ec; exact ⟨o, hget, hx.2.1⟩, ?_⟩
  show wpAny _ _ (callWith cpos (.builtin "dict.items") [.ref d] [] []) _ X.xe s1
  have I2 : Inv X pins σ H1 { s1 with heap := s1.heap.push { cls := .type "dict_items", data := .fields #[.ref d] } } := I1.kept (t' := s1.toks) fun b ob q => Heap.get?_push_of_some _ q
  have raw2 : (s1.heap.push { cls := .type "dict_items", data := .fields #[.ref d] }).DictRaw d es ep := by
    obtain ⟨o2, r1, r2⟩ := raw
    exact ⟨o2, Heap.get?_push_of_some _ r1, r2⟩
  have fin : wpAny (model X.prog X.w) X.A (pyIter (.ref s1.heap.objs.size)) (PIE X pins σ (.Tuple elts kk tpos) R) X.xe { s1 with heap := s1.heap.push { cls := .type "dict_items", data := .fields #[.ref d] } } := by
    refine PySem.wpAny_pyIter_items_raw (d := d) ⟨_, Heap.get?_push_size _ rfl, rfl, rfl⟩ raw2 (pi_one (tk := s1.toks) I2 _ (turn_itemsN _ hdt) ⟨.none, .none, ?_⟩ q)
    rw [← hsz]
    exact Heap.get?_push_size _ rfl
  refine method_meetsIn PySem.F.slot_dict_items PySem.F.entry_dict_items rfl (PySem.evalArgs_none ?_)
  exact ⟨rfl, ⟨o, hget, hx.1⟩, PySem.F.args_dict_items_1 _, _, DT.meetsItems (es := es) (ep := ep) hs, ⟨⟨o, hget, hx, hdt⟩, fin⟩⟩
theorem pi_itemsNK {P : Program} {w : World} (hP : X.prog = P) (hw : X.w = w) {elts : List Expr} {kk : Nat} {tpos : Pos} (he : PE X e td) (hbase : attributeBase e "items" X.env (eval e X.env) = eval e X.env := by rfl) (hline : (apos.endLine == cpos.line) = true := by rfl) :
    PI X (.Tuple elts kk tpos) (.Call (.Attribute e "items" apos) [] [] cpos) (iItemsN P w td) := by
  subst hP hw; exact pi_itemsN he hbase hline
theorem walk_itemsN {P : Program} {w : World} {d : Addr} {o : Obj} {rs : List Row} : Walk (ItiN P w d o rs) rs.length (fun H => H d = some (.frz o (DN P w d rs)) ∧ KeysIn H rs) (fun i H x H' => ∃ T r, rs[i]? = some r ∧ x = .ref T ∧ H T = none ∧ H' = upd H T (.tup [.ref r.2.1, r.2.2])) where
  goes := fun i H hi h => ⟨h.1, h.2, hi⟩
  yields := fun i H x H' hi h y => y
  stops := fun H h => ⟨h.1, Nat.le_refl _⟩
end
end Sg
set_option Elab.async false
set_option linter.all false
set_option maxRecDepth 100000
set_option maxHeartbeats 4000000
namespace Sg
open PySem PySem.Spec PyProof.Rows L2 StX
/-! ## calls of a def that stands in a name of the def -/
section
variable {X : Cx} {k : Nat} {f : Addr} {fd : FuncData} {ps : List Str} {sp : Sp} {CX : CXT} {E : XK} {ds : List Value} {dvs : List V}
theorem pe_callV {i : Nat} {x : Str} {p pos : Pos} {e : Expr} {es : List Expr} {t : TA} (F : FnOk X.prog X.w X.K X.mg X.base CX k f fd ps sp) (hr : Room k X.A) (hN : X.N[i]? = some x) (hv : Vis X.env.scope x) (hk : PySem.W.keepIn X.K (.ref f) = true) (hb : Binds X.K fd ps ds) (hd : Vals dvs ds) (hx : Passes CX X E)
    (ha : PA X (e :: es) t) (hdb : (x == ("__debug__" : Str)) = false := by decide) (hcd : (x == ("__classdict__" : Str)) = false := by decide) (he : starEach (e :: es) X.env = (false, eval e X.env) :: starEach es X.env := by rfl) (hpl : (backTo pos (starEach es X.env)).any (·.1) = false := by rfl) :
    PE X (.Call (.Name x p) (e :: es) [] pos) (fun σ H Q => σ[i]? = some (some (V.ref f)) ∧ tCall sp dvs E t σ H Q) := by
  refine ⟨fun pins s σ H Q I h => ?_⟩
  refine wpAny_Call_Name_kw (thn ((pe_var hN hv hdb hcd).run pins s σ H (fun v H' => v = .ref f ∧ H' = H) I ⟨.ref f, h.1, rfl, rfl⟩) ?_)
  rintro u s0 ⟨v, H0, I0, r0, rfl, rfl⟩
  obtain rfl : u = Value.ref f := r0
  refine PySem.W.callWith_K (h₀ := X.base) I0.ok.mod.kin hk (thn (ha.run pos pins s0 σ H0 _ I0 h.2) fun us s1 ⟨vs, H1, I1, r, q⟩ => ⟨I1.kIn, ?_⟩) he hpl
  exact run_fn F hr hb hd hx I1 r q
end
/-! ## dicts whose keys are tuples of tuples: made by a comprehension, by a display, setdefault -/
theorem roomN0 {A : Around} (hu : A.units + 64 < cLine) (P : Program) (w : World) : (nestedKind P w).room A := by
  show A.units + 8 < cLine
  omega
section
variable {X : Cx} {pins : List (Addr × Obj)} {σ : L2.St} {H : Hp} {s : Shared} {a b : Addr} {k : NestedKey} {rs : List Row} {v z : V} {r : Value} {A : Around} {E : Value → Shared → Prop}
theorem n_dictSet {Q : Unit → Shared → Prop} (hu : A.units + 64 < cLine) (I : Inv X pins σ H s) (n : NAt X.prog X.w H a b k rs) (hl : rs.length < sizeLine) (rv : RelV v r) (h : ∀ s', Inv X pins σ (upd H a (DN X.prog X.w a (storeN rs k b v))) s' → Q () s') :
    wpAny (model X.prog X.w) A (dictSet a (.ref b) r) Q E s := by
  obtain ⟨z, hd, ys, rel, dd⟩ := dn_of I.hok n.at_ n.keys
  have hz : ys.length ≤ sizeLine := by rw [← Paired.length rel]; exact z
  refine wpAny_dictSet_heap (hsz := hz) (roomN0 hu _ _) (n.is I.hok) dd fun h' dd' hs => h _ ?_
  have he : ∃ q, h'.get? a = some q := let ⟨q, _, _, hq, _⟩ := dd'; ⟨q, hq⟩
  exact d_write I (by rw [n.at_]; exact True.intro) hs he (dn_ok (by have := storeN_len rs k b v; omega) hd (storeN_rel rel k b rv) dd')
theorem n_setd {Q : Value → Shared → Prop} (hu : A.units + 64 < cLine) (I : Inv X pins σ H s) (n : NAt X.prog X.w H a b k rs) (hl : rs.length < sizeLine) (rz : RelV z r) (h1 : ∀ v u s', atN rs k = some v → Inv X pins σ H s' → RelV v u → Q u s')
    (h2 : ∀ s', atN rs k = none → Inv X pins σ (upd H a (DN X.prog X.w a (storeN rs k b z))) s' → Q r s') : wpAny (model X.prog X.w) A (call (.builtin "dict.setdefault") [.ref a, .ref b, r]) Q E s := by
  obtain ⟨zz, hd, ys, rel, dd⟩ := dn_of I.hok n.at_ n.keys
  have hz : ys.length ≤ sizeLine := by rw [← Paired.length rel]; exact zz
  have e := atN_rel rel k
  refine call_setdefault_heap (hsz := hz) (roomN hu _ _) (n.is I.hok) hd dd (fun p hp => ?_) (fun hn h' dd' hs => ?_)
  · rw [hp] at e
    cases h3 : atN rs k with
    | none => rw [h3] at e; exact (show False from e).elim
    | some v => rw [h3] at e; exact h1 v _ _ h3 (I.tok _) e
  · rw [hn] at e
    cases h3 : atN rs k with
    | some v => rw [h3] at e; exact (show False from e).elim
    | none =>
      refine h2 _ h3 ?_
      have he : ∃ q, h'.get? a = some q := let ⟨q, _, _, hq, _⟩ := dd'; ⟨q, hq⟩
      exact d_write I (by rw [n.at_]; exact True.intro) hs he (dn_ok (by have := storeN_len rs k b z; omega) hd (storeN_rel rel k b rz) dd')
end
def tNSetd (P : Program) (w : World) (td ty tx : TE) : TE := fun σ H Q => td σ H fun x H1 => ∃ a rs0, x = .ref a ∧ H1 a = some (DN P w a rs0) ∧ KeysIn H1 rs0 ∧ ty σ H1 fun y H2 => tx σ H2 fun z H3 => ∃ b k rs, y = .ref b ∧ NAt P w H3 a b k rs ∧ rs.length < sizeLine ∧
  (∀ v, atN rs k = some v → Q v H3) ∧ (atN rs k = none → Q z (upd H3 a (DN P w a (storeN rs k b z))))
section
variable {X : Cx} {o e f : Expr} {apos cpos : Pos} {td ty tx : TE}
theorem pe_nsetd (hu : X.A.units + 64 < cLine) (ho : PE X o td) (he : PE X e ty) (hf : PE X f tx) (m : M2 X o "setdefault" apos e f cpos) : PE X (.Call (.Attribute o "setdefault" apos) [e, f] [] cpos) (tNSetd X.prog X.w td ty tx) := by
  constructor
  intro pins s0 σ H Q I h
  refine wpAny_Call_method m.base m.few m.line PySem.F.plainAttrs_dict PySem.F.slot_dict_setdefault PySem.F.type_dict_setdefault (thn (ho.run pins s0 σ H _ I h) ?_)
  rintro u s1 ⟨x, H1, I1, rx, a, rs0, rfl, hd, hk, q1⟩
  obtain rfl : u = Value.ref a := rx
  obtain ⟨_, _, ys, _, dd⟩ := dn_of I1.hok hd hk
  refine ⟨dd.typeIs, fun c ec => ?_, ?_⟩
  · cases ec
    obtain ⟨ob, _, _, g1, g2, _⟩ := dd
    exact ⟨ob, g1, g2.2.1⟩
  rw [m.trees]
  refine Calls.callWith_builtin rfl (Calls.evalArgs_plain (Calls.spliced_cons (thn (he.run pins s1 σ H1 _ I1 q1) ?_)))
  rintro iv s2 ⟨y, H2, I2, ry, q2⟩
  refine Calls.spliced_cons (thn (hf.run pins s2 σ H2 _ I2 q2) ?_)
  rintro fv s3 ⟨z, H3, I3, rz, b, k, rs, rfl, n, hl, q3, q4⟩
  refine Calls.spliced_nil ?_
  obtain rfl : iv = Value.ref b := ry
  exact n_setd hu I3 n hl rz (fun v u s4 ev I4 rv => ⟨v, H3, I4, rv, q3 v ev⟩) fun s4 en I4 => ⟨z, _, I4, rz, q4 en⟩
theorem pe_nsetdK {P : Program} {w : World} (hP : X.prog = P) (hw : X.w = w) (hu : X.A.units + 64 < cLine) (ho : PE X o td) (he : PE X e ty) (hf : PE X f tx) (m : M2 X o "setdefault" apos e f cpos) : PE X (.Call (.Attribute o "setdefault" apos) [e, f] [] cpos) (tNSetd P w td ty tx) := by
  subst hP hw; exact pe_nsetd hu ho he hf m
end
end Sg
set_option Elab.async false
set_option linter.all false
set_option maxRecDepth 100000
set_option maxHeartbeats 4000000
namespace Sg
open PySem PySem.Spec PyProof.Rows L2
section
variable {X : Cx}
/-- a dict comprehension, the keys tuples of tuples -/
def tDcN (P : Program) (w : World) (wi : TI) (g : TG) (tt : TT) (tk tv : TE) (vs : List Nat) : TE := fun σ H Q => wi σ H fun J H1 => ∀ D, H1 D = none → ∃ W : Nat → Nat → Hp → Prop, (∃ m, W 0 m (upd H1 D (DN P w D []))) ∧ ∀ i m H, W i m H →
  (J.stop i H ∧ Q (.ref D) H) ∨ (J.go i H ∧ ∃ Nx : Hp → Prop, (∀ H', Nx H' → ∃ m', m' < m ∧ W (i + 1) m' H') ∧ ∀ x H', J.yld i H x H' → g x (wipe σ vs) H' fun σ2 H2 => wipe σ2 vs = wipe σ vs ∧ tt σ2 H2 fun b H3 =>
    if b = true then tk σ2 H3 fun y H4 => tv σ2 H4 fun z H5 => ∃ b k rs, y = .ref b ∧ NAt P w H5 D b k rs ∧ rs.length < sizeLine ∧ Nx (upd H5 D (DN P w D (storeN rs k b z))) else Nx H3)
theorem dcN_core {pins : List (Addr × Obj)} {s : Shared} {σ : L2.St} {H : Hp} {Q : VK} {kx vx tg iter : Expr} {ifs : List Expr} {scope : Scope} {own : List (Str × Nat)} {pos pos' : Pos} {wi : TI} {g : TG} {tt : TT} {tk tv : TE} {use : Option (Value → Sem Unit)} {Qf : Value → Shared → Prop}
    (hu : X.A.units + 64 < cLine) (hc : X.calm = true) (hN : X.N.Nodup) (I : Inv X pins σ H s) (hi : PI X tg iter wi) (ok : BlkOk X.N X.env.scope scope own)
    (hg : ∀ (s : Shared) (H : Hp) (C : Addr) (cl : List (Str × Addr)) (fp : List Addr), PG (X.blk s H scope (compEnvC scope cl C X.env) fp) tg g) (ht : ∀ (s : Shared) (H : Hp) (C : Addr) (cl : List (Str × Addr)) (fp : List Addr), PTs (X.blk s H scope (compEnvC scope cl C X.env) fp) ifs tt)
    (hk : ∀ (s : Shared) (H : Hp) (C : Addr) (cl : List (Str × Addr)) (fp : List Addr), PE (X.blk s H scope (compEnvC scope cl C X.env) fp) kx tk)
    (he : ∀ (s : Shared) (H : Hp) (C : Addr) (cl : List (Str × Addr)) (fp : List Addr), PE (X.blk s H scope (compEnvC scope cl C X.env) fp) vx tv) (hs : ∀ x, foldedSetIterable iter X.env x = pure x)
    (h : tDcN X.prog X.w wi g tt tk tv (own.map (·.2)) σ H Q)
    (hRR : ∀ D C s' m H', Inv X pins σ H' s' → Q (.ref D) H' → s'.heap.Ns C m → FpOk X pins H' C → compPost (model X.prog X.w) X.A X.xe use Qf (.ref D) C (.ok .next) s') :
    wpAny (model X.prog X.w) X.A (comprehension (.DictComp kx vx [⟨tg, iter, ifs, 0⟩] scope pos) scope X.env pos' newDict false (eval iter X.env) use) Qf X.xe s := by
  have hfree : ∀ y ∈ scope.names, y.2 = .free → ∃ c, X.env.cells.lookup y.1 = some c := fun y hy e => by
    rcases ok.free y hy e with k | k
    · exact I.ok.has _ (.inl k)
    · exact I.ok.has _ (.inr k)
  refine wpAny_comprehension_free (use := use) rfl hs (closure_ok hfree) ok.kind (fun y hy e => by rw [ok.uniq y hy, e])
    (thn (hi.run pins s σ H _ I h) fun xv s1 hx => thn hx fun itv s2 h2 => ?_)
  obtain ⟨it, fp, tn, J, H2, e, I2, T, st2, f2, q⟩ := h2
  subst e
  refine wpAny_newObj_type (newEnv_comp ?_)
  generalize hD : s2.heap.objs.size = D
  have hDn : H2 D = none := I2.hok.fresh (Nat.le_of_eq hD)
  obtain ⟨W, ⟨m0, w0⟩, turn⟩ := q D hDn
  -- the new list
  generalize hs3 : ({ s2 with heap := s2.heap.push { cls := .type "dict", data := .dict #[] } } : Shared) = s3
  have I3 : Inv X pins σ (upd H2 D (DN X.prog X.w D [])) s3 := by
    rw [← hs3]
    refine I2.laid (t' := s2.toks) (fun b o e => Heap.get?_push_of_some _ e) (Nat.le_of_eq hD) ?_
    rw [← hD]
    exact dn_empty s2.heap I2.big
  have h3 : s3.heap = s2.heap.push { cls := .type "dict", data := .dict #[] } := by rw [← hs3]
  have sz : ∀ b ∈ fp, b < s2.heap.objs.size := fun b hb => by
    obtain ⟨o, e, _⟩ := T.obj _ _ st2 b hb
    exact Heap.lt_size e
  have f3 : ∀ b ∈ fp, FpOk X pins (upd H2 D (DN X.prog X.w D [])) b ∧ b < s3.heap.objs.size := fun b hb => by
    have hlt := sz b hb
    refine ⟨⟨?_, (f2 b hb).2⟩, by rw [h3, Heap.size_push]; exact Nat.lt_succ_of_lt hlt⟩
    rw [upd_ne (by rw [← hD]; exact Nat.ne_of_lt hlt)]
    exact (f2 b hb).1
  have st3 : tn 0 s3.heap := T.keep _ _ _ st2 fun b _ o e => by rw [h3]; exact Heap.get?_push_of_some _ e
  have I4 := block_start I3 ok hN f3
  have pg := hg s3 (upd H2 D (DN X.prog X.w D [])) s3.heap.objs.size (cellsFrom (s3.heap.objs.size + 1) scope.names (cloFrom X.env.cells scope.names [])) fp
  have pt := ht s3 (upd H2 D (DN X.prog X.w D [])) s3.heap.objs.size (cellsFrom (s3.heap.objs.size + 1) scope.names (cloFrom X.env.cells scope.names [])) fp
  have pk := hk s3 (upd H2 D (DN X.prog X.w D [])) s3.heap.objs.size (cellsFrom (s3.heap.objs.size + 1) scope.names (cloFrom X.env.cells scope.names [])) fp
  have pe := he s3 (upd H2 D (DN X.prog X.w D [])) s3.heap.objs.size (cellsFrom (s3.heap.objs.size + 1) scope.names (cloFrom X.env.cells scope.names [])) fp
  show codeAny _ _ (.compStart (.DictComp kx vx [⟨tg, iter, ifs, 0⟩] scope pos) 0 (.ref it) (.ref D) (compEnvC scope (cellsFrom (s3.heap.objs.size + 1) scope.names (cloFrom X.env.cells scope.names [])) s3.heap.objs.size X.env)) (compPost (model X.prog X.w) X.A X.xe use Qf (.ref D) s3.heap.objs.size) { s3 with heap := pushCells (s3.heap.push { cls := .type "dict", data := .dict #[] }) scope.names }
  have nfp : ∀ b ∈ fp, (upd H2 D (DN X.prog X.w D [])) b = none := fun b hb => (f3 b hb).1.1
  generalize hce : compEnvC scope (cellsFrom (s3.heap.objs.size + 1) scope.names (cloFrom X.env.cells scope.names [])) s3.heap.objs.size X.env = ce at I4 pg pt pk pe ⊢
  have cL : ce.locals = s3.heap.objs.size := by subst hce; rfl
  generalize hH3 : upd H2 D (DN X.prog X.w D []) = H3 at I3 I4 pg pt pk pe w0 nfp f3
  generalize hs4 : ({ s3 with heap := pushCells (s3.heap.push { cls := .type "dict", data := .dict #[] }) scope.names } : Shared) = s4 at I4 ⊢
  have st4 : tn 0 s4.heap := T.keep _ _ _ st3 fun b _ o e => by rw [← hs4]; exact pushCells_keeps _ _ _ _ (Heap.get?_push_of_some _ e)
  have stat : ∀ {σ' : L2.St} {H' : Hp} {s' : Shared}, Inv (X.blk s3 H3 scope ce fp) [] σ' H' s' → (∀ b ∈ fp, H' b = none) → ∀ b ∈ fp, FpOk (X.blk s3 H3 scope ce fp) [] H' b := fun {σ' H' s'} I' hn b hb =>
    ⟨hn b hb, (I'.ok.exf b hb).1, I'.ok.exfs b hb, .inl hb, fun x c e => (I'.ok.exf b hb).2 x c e, fun p hp => absurd (show p ∈ ([] : List (Addr × Obj)) ++ [] from hp) (by simp)⟩
  have loop : codeAny (model X.prog X.w) X.A (.compLoop (.DictComp kx vx [⟨tg, iter, ifs, 0⟩] scope pos) 0 (.ref it) (.ref D) ce) (compPost (model X.prog X.w) X.A X.xe use Qf (.ref D) s3.heap.objs.size) s4 := by
    refine compLoop_anyD (fun n s' => ∃ i H', Inv (X.blk s3 H3 scope ce fp) [] (wipe σ (own.map (·.2))) H' s' ∧ tn i s'.heap ∧ (∀ b ∈ fp, H' b = none) ∧ W i n H') ?_ m0 ⟨0, H3, I4, st4, nfp, w0⟩
    rintro n s5 ⟨i, H5, I5, st5, n5, w5⟩
    rcases turn i n H5 w5 with ⟨stop, qq⟩ | ⟨go, Nx, hNx, step⟩
    · have td := T.done (X.blk s3 H3 scope ce fp) rfl rfl rfl hc i [] s5 _ H5 (fun _ _ => False) I5 (stat I5 n5) st5 stop
      refine thnF td fun r s6 ⟨hr, I6⟩ => ?_
      subst hr
      -- back in the def's context
      have I7 : Inv X pins σ H5 s6 := I3.call' (ch := fp) I6.os I6.base I6.hok I6.bare fun b hb => ⟨(f3 b hb).1.2.2.2.1, (f3 b hb).1.2.1, (f3 b hb).1.2.2.2.2.1, (f3 b hb).1.2.2.2.2.2⟩
      have nC : H5 s3.heap.objs.size = none := by
        have z : H5 ce.locals = none := I6.free
        rw [cL] at z
        exact z
      obtain ⟨m, hn, _⟩ := I6.loc
      have hn : s6.heap.Ns ce.locals m := hn
      rw [cL] at hn
      exact hRR D s3.heap.objs.size s6 m H5 I7 qq hn (I3.fpOk (Nat.le_refl _) nC)
    · have ti := T.item (X.blk s3 H3 scope ce fp) rfl rfl rfl hc i [] s5 _ H5 (fun _ _ => False) I5 (stat I5 n5) st5 go
      refine thnF ti fun r s6 ⟨u, hr, h6⟩ => ?_
      subst hr
      refine thnF h6 fun _ s7 ⟨x, H7, I7, r7, y7, st7, n7⟩ => ?_
      have I7' := I7.pinned (stat I7 n7) (T.obj _ _ st7)
      refine thnF (pg.run _ s7 _ H7 x u _ I7' r7 (step x H7 y7)) fun _ s8 ⟨σ8, H8, I8, hw8, q8⟩ => ?_
      refine thnF (pt.run _ s8 σ8 H8 _ I8 q8) fun b s9 ⟨H9, I9, q9⟩ => ?_
      -- the turn's end
      have fin : ∀ {s' : Shared} {H' : Hp}, Inv (X.blk s3 H3 scope ce fp) ([] ++ pinsAt fp s7.heap) σ8 H' s' → Nx H' → ∃ m, m < n ∧ ∃ i H', Inv (X.blk s3 H3 scope ce fp) [] (wipe σ (own.map (·.2))) H' s' ∧ tn i s'.heap ∧ (∀ b ∈ fp, H' b = none) ∧ W i m H' := fun {s' H'} I' nx => by
        obtain ⟨m', hm, w'⟩ := hNx H' nx
        have pin' : ∀ b ∈ fp, ∀ o, s7.heap.get? b = some o → s'.heap.get? b = some o ∧ H' b = none := fun b hb o e =>
          let z := I'.pin (b, o) (List.mem_append_right _ (List.mem_append_right _ (mem_pinsAt hb e)))
          ⟨z.1, z.2.1⟩
        have hl : (wipe σ (own.map (·.2))).length = σ8.length := by rw [← hw8, wipe_length]
        refine ⟨m', hm, i + 1, H', (I'.unpinned (pins := [])).weak hl (fun j v e => ?_), T.keep _ _ _ st7 fun b hb o e => (pin' b hb o e).1, fun b hb => ?_, w'⟩
        · rw [← hw8] at e
          exact (wipe_some e).1
        · obtain ⟨o, e, _⟩ := T.obj _ _ st7 b hb
          exact (pin' b hb o e).2
      cases b with
      | false =>
        simp only [Bool.false_eq_true, if_false] at q9 ⊢
        exact fin I9 q9
      | true =>
        simp only [if_true] at q9 ⊢
        refine thnF (pk.run _ s9 σ8 H9 _ I9 q9) fun z s10 ⟨yk, H10, I10, r10, q10⟩ => ?_
        refine thnF (pe.run _ s10 σ8 H10 _ I10 q10) fun z2 s11 ⟨yv, H11, I11, r11, b, k, rs, ek, hD11, hz11, nx⟩ => ?_
        subst ek
        obtain rfl : z = Value.ref b := r10
        exact n_dictSet (X := X.blk s3 H3 scope ce fp) hu I11 hD11 hz11 r11 fun s12 I12 => fin I12 nx
  exact codeAny_compStart_dict loop (T.self X.A 0 _ _ _ st4 loop)
theorem pe_dcN {kx vx tg iter : Expr} {ifs : List Expr} {scope : Scope} {own : List (Str × Nat)} {pos : Pos} {wi : TI} {g : TG} {tt : TT} {tk tv : TE} (hu : X.A.units + 64 < cLine) (hc : X.calm = true) (hN : X.N.Nodup) (hi : PI X tg iter wi) (ok : BlkOk X.N X.env.scope scope own)
    (hg : ∀ (s : Shared) (H : Hp) (C : Addr) (cl : List (Str × Addr)) (fp : List Addr), PG (X.blk s H scope (compEnvC scope cl C X.env) fp) tg g) (ht : ∀ (s : Shared) (H : Hp) (C : Addr) (cl : List (Str × Addr)) (fp : List Addr), PTs (X.blk s H scope (compEnvC scope cl C X.env) fp) ifs tt)
    (hk : ∀ (s : Shared) (H : Hp) (C : Addr) (cl : List (Str × Addr)) (fp : List Addr), PE (X.blk s H scope (compEnvC scope cl C X.env) fp) kx tk)
    (he : ∀ (s : Shared) (H : Hp) (C : Addr) (cl : List (Str × Addr)) (fp : List Addr), PE (X.blk s H scope (compEnvC scope cl C X.env) fp) vx tv) (hs : ∀ x, foldedSetIterable iter X.env x = pure x := by intro _; rfl) :
    PE X (.DictComp kx vx [⟨tg, iter, ifs, 0⟩] scope pos) (tDcN X.prog X.w wi g tt tk tv (own.map (·.2))) := by
  refine ⟨fun pins s σ H Q I h => ?_⟩
  rw [arm_eval_DictComp]
  refine dcN_core hu hc hN I hi ok hg ht hk he hs h fun D C s' m H' I' q hn f => ⟨m, hn, fun h'' sb => ?_⟩
  obtain ⟨f0, f1, f2, f3, f4, f5⟩ := f
  exact ⟨.ref D, H', I'.turned (t' := s'.toks) (fun b o hb e => (sb.2 b hb).trans e) f0 f1 f3 f4 f5, rfl, q⟩
theorem pe_dcNK {P : Program} {w : World} {kx vx tg iter : Expr} {ifs : List Expr} {scope : Scope} {own : List (Str × Nat)} {pos : Pos} {wi : TI} {g : TG} {tt : TT} {tk tv : TE} (hP : X.prog = P) (hw : X.w = w) (hu : X.A.units + 64 < cLine) (hc : X.calm = true) (hN : X.N.Nodup) (hi : PI X tg iter wi) (ok : BlkOk X.N X.env.scope scope own)
    (hg : ∀ (s : Shared) (H : Hp) (C : Addr) (cl : List (Str × Addr)) (fp : List Addr), PG (X.blk s H scope (compEnvC scope cl C X.env) fp) tg g) (ht : ∀ (s : Shared) (H : Hp) (C : Addr) (cl : List (Str × Addr)) (fp : List Addr), PTs (X.blk s H scope (compEnvC scope cl C X.env) fp) ifs tt)
    (hk : ∀ (s : Shared) (H : Hp) (C : Addr) (cl : List (Str × Addr)) (fp : List Addr), PE (X.blk s H scope (compEnvC scope cl C X.env) fp) kx tk)
    (he : ∀ (s : Shared) (H : Hp) (C : Addr) (cl : List (Str × Addr)) (fp : List Addr), PE (X.blk s H scope (compEnvC scope cl C X.env) fp) vx tv) (hs : ∀ x, foldedSetIterable iter X.env x = pure x := by intro _; rfl) :
    PE X (.DictComp kx vx [⟨tg, iter, ifs, 0⟩] scope pos) (tDcN P w wi g tt tk tv (own.map (·.2))) := by
  subst hP hw; exact pe_dcN hu hc hN hi ok hg ht hk he hs
/-- such a walk, by a promise for each turn -/
theorem dcN_it {P : Program} {w : World} {J : L2.It} {n : Nat} {G : Hp → Prop} {Y : Nat → Hp → V → Hp → Prop} (wk : Walk J n G Y) {g : TG} {tt : TT} {tk tv : TE} {vs : List Nat} {σ : L2.St} {H1 : Hp} {D : Addr} {Qd : Hp → Prop} (Pv : Nat → Hp → Prop) (h0 : Pv 0 (upd H1 D (DN P w D []))) (hG : ∀ i H, i ≤ n → Pv i H → G H)
    (hs : ∀ i x H H', i < n → Pv i H → Y i H x H' → g x (wipe σ vs) H' fun σ2 H2 => wipe σ2 vs = wipe σ vs ∧ tt σ2 H2 fun b H3 =>
      if b = true then tk σ2 H3 fun y H4 => tv σ2 H4 fun z H5 => ∃ b k rs, y = .ref b ∧ NAt P w H5 D b k rs ∧ rs.length < sizeLine ∧ Pv (i + 1) (upd H5 D (DN P w D (storeN rs k b z))) else Pv (i + 1) H3) (hd : ∀ H, Pv n H → Qd H) :
    ∃ W : Nat → Nat → Hp → Prop, (∃ m, W 0 m (upd H1 D (DN P w D []))) ∧ ∀ i m H, W i m H →
      (J.stop i H ∧ Qd H) ∨ (J.go i H ∧ ∃ Nx : Hp → Prop, (∀ H', Nx H' → ∃ m', m' < m ∧ W (i + 1) m' H') ∧ ∀ x H', J.yld i H x H' → g x (wipe σ vs) H' fun σ2 H2 => wipe σ2 vs = wipe σ vs ∧ tt σ2 H2 fun b H3 =>
        if b = true then tk σ2 H3 fun y H4 => tv σ2 H4 fun z H5 => ∃ b k rs, y = .ref b ∧ NAt P w H5 D b k rs ∧ rs.length < sizeLine ∧ Nx (upd H5 D (DN P w D (storeN rs k b z))) else Nx H3) := by
  refine ⟨fun i m H => m = n - i ∧ i ≤ n ∧ Pv i H, ⟨n, by simp, Nat.zero_le _, h0⟩, ?_⟩
  rintro i m H ⟨rfl, hi, hp⟩
  have hg := hG i H hi hp
  rcases Nat.lt_or_eq_of_le hi with hlt | rfl
  · exact .inr ⟨wk.goes i H hlt hg, Pv (i + 1), fun H' p' => ⟨n - (i + 1), by omega, rfl, hlt, p'⟩, fun x H' y => hs i x H H' hlt hp (wk.yields i H x H' hlt hg y)⟩
  · exact .inl ⟨wk.stops H hg, hd H hp⟩
end
end Sg
set_option Elab.async false
set_option linter.all false
set_option maxRecDepth 100000
set_option maxHeartbeats 4000000
namespace Sg
open PySem PySem.Spec PyProof.Rows L2
section
variable {prog : Program} {w : World} {K : Type} [DecidableEq K] {knd : HeapKind prog w K} {A : Around} {E : Value → Shared → Prop} {s : Shared} {env : Env}
theorem dict_walkH {keys : List (Option Expr)} {values : List Expr} {pos : Pos} {Q : Value → Shared → Prop} (hu : knd.room A)
    (hall : keys.all (·.isSome) = true) (hl : keys.length = values.length) (h0 : keys ≠ []) (hlen : keys.length ≤ 15)
    (h : wpAny (model prog w) A (evalPairs (pairTrees keys values env pos)) (fun vs s₁ => ∃ ps, CarriesH knd s₁.heap vs ps ∧ s₁.heap.DictOfH knd s.heap.objs.size [] ∧
      ∀ h' tk, h'.DictOfH knd s.heap.objs.size (storedAllH [] ps) → Heap.SameBut s.heap.objs.size s₁.heap h' → Q (.ref s.heap.objs.size) { s₁ with heap := h', toks := tk }) E
      { s with heap := s.heap.push { cls := .type "dict", data := .dict #[] } }) :
    wpAny (model prog w) A (eval (.Dict keys values pos) env) Q E s := by
  have hn := pairTrees_length keys values env pos hall hl
  rw [arm_eval_Dict, zip_pairTrees keys values env pos hall hl, dictDisplay_pairs (pairTrees keys values env pos) (fun he => by rw [he] at hn; exact h0 (List.length_eq_zero_iff.mp hn.symm)) (by omega)]
  exact wpAny_bind (wpAny_standAt (wpAny_bind (wpAny_subDictH (knd := knd) (Q := fun d s' => wpAny (model prog w) A (pure (Value.ref d)) Q E s') hu (by omega)
    (wpAny_mono h (fun vs s₁ h₁ => by obtain ⟨ps, hc, hm, hq⟩ := h₁; exact ⟨ps, hc, hm, fun h' tk a b => wpAny_pure (hq h' tk a b)⟩) fun _ _ e => e))))
end
/-- {k: v}, k a tuple of tuples -/
def tNDisp (P : Program) (w : World) (tk tv : TE) : TE := fun σ H Q => ∀ p, H p = none → tk σ (upd H p (DN P w p [])) fun x H1 => tv σ H1 fun y H2 => ∃ b k, x = .ref b ∧ NAt P w H2 p b k [] ∧ Q (.ref p) (upd H2 p (DN P w p [(k, b, y)]))
section
variable {X : Cx} {pos : Pos} {k v : Expr} {tk tv : TE}
theorem pe_ndisp (hu : X.A.units + 64 < cLine) (hk : PE X k tk) (hv : PE X v tv) : PE X (.Dict [some k] [v] pos) (tNDisp X.prog X.w tk tv) := by
  refine ⟨fun pins s σ H Q I q => ?_⟩
  have hn := I.hok.fresh (Nat.le_refl s.heap.objs.size)
  have I1 := I.laid (a := s.heap.objs.size) (o := DN X.prog X.w s.heap.objs.size []) (h' := s.heap.push { cls := .type "dict", data := .dict #[] }) (t' := s.toks) (fun _ _ q => Heap.get?_push_of_some _ q) (Nat.le_refl _) (dn_empty s.heap I.big)
  refine dict_walkH (knd := nestedKind X.prog X.w) (roomN0 hu _ _) rfl rfl (fun z => nomatch z) (show 1 ≤ 15 by decide) ?_
  refine pairTrees_cons_walk (thn (hk.run pins _ σ _ _ I1 (q _ hn)) fun u s1 ⟨x, H1, I1, rx, q1⟩ => thn (hv.run pins s1 σ H1 _ I1 q1) fun w2 s2 ⟨y, H2, I2, ry, b, kk, ex, n, q2⟩ => pairTrees_nil_walk ?_)
  subst ex
  obtain rfl : u = Value.ref b := rx
  obtain ⟨z, hd, ys, rel, dd⟩ := dn_of I2.hok n.at_ n.keys
  cases rel
  refine ⟨[(kk, b, w2)], ⟨rfl, rfl, n.is I2.hok, True.intro⟩, dd, fun h' tk' dd' hs => ⟨.ref s.heap.objs.size, _, ?_, rfl, q2⟩⟩
  have he : ∃ q, h'.get? s.heap.objs.size = some q := let ⟨q, _, _, hq, _⟩ := dd'; ⟨q, hq⟩
  have rl : Paired RowRel [(kk, b, y)] [(kk, b, w2)] := .cons ⟨rfl, rfl, ry⟩ .nil
  exact d_write I2 (by rw [n.at_]; exact True.intro) hs he (dn_ok (by rw [sizeLine_eq]; show 1 ≤ 16777216; decide) hd rl dd')
theorem pe_ndispK {P : Program} {w : World} (hP : X.prog = P) (hw : X.w = w) (hu : X.A.units + 64 < cLine) (hk : PE X k tk) (hv : PE X v tv) : PE X (.Dict [some k] [v] pos) (tNDisp P w tk tv) := by
  subst hP hw; exact pe_ndisp hu hk hv
end
end Sg
set_option Elab.async false
set_option linter.all false
set_option maxRecDepth 100000
set_option maxHeartbeats 4000000
namespace Sg
open PySem PySem.Spec PyProof.Rows L2
/-! ## x < y of data -/
def rLtD (K : PySem.W.Frag) : R2 := fun x y H Q => ∃ d e, Dp K H x d ∧ Dp K H y e ∧ PySem.W.alike d e = true ∧ d ≠ .none ∧ d.depth ≤ 40 ∧ Q (.bl (PySem.W.dataLt d e)) H
theorem op_ltD {X : Cx} (hu : X.A.units + 64 < cLine) : OpR X (compareOp .Lt) (rLtD X.K) := by
  intro pins s σ H x y v u Q I rx ry h
  obtain ⟨d, e, hd, he, al, nn, dp, q⟩ := h
  obtain ⟨as, r1⟩ := Dp.reads I d x v hd rx
  obtain ⟨bs, r2⟩ := Dp.reads I e y u he ry
  exact PySem.W.lt_data r1 r2 al nn (by have := Nat.min_le_left d.depth e.depth; omega) ⟨.bl _, H, I, rfl, q⟩
abbrev planP (p : List Plc) : PyData := .tuple (plsD p)
theorem alike_plan (a b : List Plc) : PySem.W.alike (planP a) (planP b) = true := by
  show PySem.W.alike (.tuple (plsD a)) (.tuple (plsD b)) = true
  rw [PySem.W.alike]; exact alike_pls a b
theorem lt_plan (a b : List Plc) : PySem.W.dataLt (planP a) (planP b) = lexP a b := by
  show PySem.W.dataLt (.tuple (plsD a)) (.tuple (plsD b)) = _
  rw [PySem.W.dataLt_tuple]; exact rowLt_pls a b
theorem depth_plsP : ∀ ps : List Plc, PyData.depthAll (plsD ps) ≤ 1
  | [] => by simp [PyData.depthAll]
  | p :: ps => by
    have h1 := depth_plsP ps
    show max (PyData.depth (plD p)) (PyData.depthAll (plsD ps)) ≤ 1
    refine Nat.max_le.mpr ⟨?_, h1⟩
    show PyData.depth (.tuple (iD [p.1, p.2])) ≤ 1
    rw [PyData.depth, PySem.W.depth_ints]; exact Nat.le_refl _
theorem depth_plan (a : List Plc) : (planP a).depth ≤ 2 := by
  show PyData.depth (.tuple (plsD a)) ≤ 2
  rw [PyData.depth]
  have := depth_plsP a
  omega
/-! ## places: a number and a tuple of ints, as keys -/
abbrev PlcK := Nat × List Int
def pkk (p : PlcK) : NestedKey := .tup [.num (p.1 : Int), .tup (p.2.map .num)]
def PlaceAt (H : Hp) (b : Addr) (p : PlcK) : Prop := ∃ lf, H b = some (.tup [.int (p.1 : Nat), .ref lf]) ∧ H lf = some (.tup (p.2.map V.int))
theorem PlaceAt.keep {H H' : Hp} (e : KeepT H H') {b : Addr} {p : PlcK} (h : PlaceAt H b p) : PlaceAt H' b p := by
  obtain ⟨lf, h1, h2⟩ := h
  exact ⟨lf, e _ _ h1, e _ _ h2⟩
theorem keys_ints (H : Hp) : ∀ ns : List Int, KeyAll H (ns.map .num) (ns.map V.int)
  | [] => .no
  | n :: ns => .on (.int n) (keys_ints H ns)
theorem PlaceAt.key {H : Hp} {b : Addr} {p : PlcK} (h : PlaceAt H b p) : KeyAt H (pkk p) (.ref b) := by
  obtain ⟨lf, h1, h2⟩ := h
  exact .tup h1 (.on (.int _) (.on (.tup h2 (keys_ints H _)) .no))
theorem depth_numsI : ∀ (r : List Int), NestedKey.depthAll (r.map NestedKey.num) = 0
  | [] => by rw [List.map_nil, NestedKey.depthAll]
  | d :: r => by rw [List.map_cons, NestedKey.depthAll, depth_numsI r, NestedKey.depth]; rfl
theorem pkk_deep (p : PlcK) : (pkk p).depth ≤ 8 := by
  have := depth_numsI p.2
  unfold pkk
  simp only [NestedKey.depth, NestedKey.depthAll]
  omega
theorem numI_inj : ∀ {x y : List Int}, x.map NestedKey.num = y.map NestedKey.num → x = y
  | [], [], _ => rfl
  | [], _ :: _, h => nomatch h
  | _ :: _, [], h => nomatch h
  | a :: x, b :: y, h => by
    obtain ⟨h1, h2⟩ := List.cons.inj h
    rw [NestedKey.num.inj h1, numI_inj h2]
theorem pkk_inj {x y : PlcK} (h : pkk x = pkk y) : x = y := by
  have h := NestedKey.tup.inj h
  obtain ⟨h1, h2⟩ := List.cons.inj h
  obtain ⟨h3, _⟩ := List.cons.inj h2
  exact Prod.ext (by have := NestedKey.num.inj h1; omega) (numI_inj (NestedKey.tup.inj h3))
/-! ### rows of such a dict -/
def lookF {α : Type} (l : List (PlcK × α)) (k : PlcK) : Option α := (l.find? fun e => decide (e.1 = k)).map (·.2)
def storeF {α : Type} (l : List (PlcK × α)) (k : PlcK) (v : α) : List (PlcK × α) := if (lookF l k).isSome then l.map (fun e => if e.1 = k then (e.1, v) else e) else l ++ [(k, v)]
structure DRowP {α : Type} (Rv : Hp → V → α → Prop) (H : Hp) (r : Row) (e : PlcK × α) : Prop where
  key : r.1 = pkk e.1
  at_ : PlaceAt H r.2.1 e.1
  val : Rv H r.2.2 e.2
abbrev RowsP {α : Type} (Rv : Hp → V → α → Prop) (H : Hp) : List Row → List (PlcK × α) → Prop := Paired (DRowP Rv H)
theorem RowsP.keep {α : Type} {Rv : Hp → V → α → Prop} {H H' : Hp} (kt : KeepT H H') (kv : ∀ v x, Rv H v x → Rv H' v x) {rs : List Row} {l : List (PlcK × α)} (h : RowsP Rv H rs l) : RowsP Rv H' rs l := by
  unfold RowsP at h ⊢
  induction h with
  | nil => exact .nil
  | cons a t ih => exact .cons ⟨a.key, a.at_.keep kt, kv _ _ a.val⟩ ih
theorem RowsP.keys {α : Type} {Rv : Hp → V → α → Prop} {H : Hp} {rs : List Row} {l : List (PlcK × α)} (h : RowsP Rv H rs l) : KeysIn H rs := by
  unfold RowsP at h
  induction h with
  | nil => intro r hr; exact nomatch hr
  | cons a t ih =>
    intro r hr
    rcases List.mem_cons.mp hr with rfl | hr
    · rw [a.key]; exact ⟨a.at_.key, pkk_deep _⟩
    · exact ih r hr
theorem RowsP.look {α : Type} {Rv : Hp → V → α → Prop} {H : Hp} {rs : List Row} {l : List (PlcK × α)} (h : RowsP Rv H rs l) (k : PlcK) : (lookF l k = none → atN rs (pkk k) = none) ∧ ∀ x, lookF l k = some x → ∃ v, atN rs (pkk k) = some v ∧ Rv H v x := by
  unfold RowsP at h
  induction h with
  | nil => exact ⟨fun _ => rfl, fun x e => nomatch e⟩
  | @cons r e rs l a t ih =>
    unfold lookF atN at ih ⊢
    by_cases g : e.1 = k
    · have g2 : r.1 = pkk k := by rw [a.key, g]
      rw [List.find?_cons_of_pos (p := fun e : PlcK × α => decide (e.1 = k)) (decide_eq_true g), List.find?_cons_of_pos (p := fun r : Row => decide (r.1 = pkk k)) (decide_eq_true g2)]
      refine And.intro (fun z => nomatch (show some e.2 = none from z)) fun x z => ?_
      have z : some e.2 = some x := z
      cases z
      exact ⟨_, rfl, a.val⟩
    · have g2 : ¬ r.1 = pkk k := fun z => g (pkk_inj (a.key.symm.trans z))
      rw [List.find?_cons_of_neg (p := fun e : PlcK × α => decide (e.1 = k)) (by simpa using g), List.find?_cons_of_neg (p := fun r : Row => decide (r.1 = pkk k)) (by simpa using g2)]
      exact ih
theorem RowsP.isSome {α : Type} {Rv : Hp → V → α → Prop} {H : Hp} {rs : List Row} {l : List (PlcK × α)} (h : RowsP Rv H rs l) (k : PlcK) : (atN rs (pkk k)).isSome = (lookF l k).isSome := by
  obtain ⟨h1, h2⟩ := h.look k
  cases e : lookF l k with
  | none => rw [h1 e]; rfl
  | some x =>
    obtain ⟨v, hv, _⟩ := h2 x e
    rw [hv]; rfl
theorem RowsP.store {α : Type} {Rv : Hp → V → α → Prop} {H : Hp} {rs : List Row} {l : List (PlcK × α)} (h : RowsP Rv H rs l) {k : PlcK} {b : Addr} {v : V} {x : α} (hb : PlaceAt H b k) (hv : Rv H v x) : RowsP Rv H (storeN rs (pkk k) b v) (storeF l k x) := by
  have e := h.isSome k
  unfold storeN storeF
  rw [e]
  by_cases g : (lookF l k).isSome = true
  · rw [if_pos g, if_pos g]
    clear e g
    unfold RowsP at h ⊢
    induction h with
    | nil => exact .nil
    | @cons r c rs l a t ih =>
      rw [List.map_cons, List.map_cons]
      refine .cons ?_ ih
      by_cases g : c.1 = k
      · rw [if_pos g, if_pos (a.key.trans (by rw [g]))]
        exact ⟨a.key, a.at_, hv⟩
      · rw [if_neg g, if_neg fun z => g (pkk_inj (a.key.symm.trans z))]
        exact a
  · rw [if_neg g, if_neg g]
    exact Paired.snoc h ⟨rfl, hb, hv⟩
theorem RowsP.len {α : Type} {Rv : Hp → V → α → Prop} {H : Hp} {rs : List Row} {l : List (PlcK × α)} (h : RowsP Rv H rs l) : rs.length = l.length := Paired.length h
/-! ## the search through the layers, as the program does it -/
abbrev Nx := List Int → List (Int × List Int)
def stepOne (nx : Nx) (left : List Int) (plan : List Plc) (tick : Nat) (e : Int × Nat) : Option (PlcK × List Plc) :=
  if e.1 = -1 then some ((e.2, left), plan) else match (nx left).find? fun p => decide (p.1 = e.1) with
    | some p => some ((e.2, p.2), plan ++ [((tick : Int), e.1)])
    | none => none
def stepsM (nx : Nx) (row : List (Int × Nat)) (left : List Int) (plan : List Plc) (tick : Nat) : List (PlcK × List Plc) := row.filterMap (stepOne nx left plan tick)
abbrev FirL := List (PlcK × Nat)
abbrev LayP := List (PlcK × List Plc)
def updOne (tick : Nat) (fl : FirL × LayP) (x : PlcK × List Plc) : FirL × LayP :=
  let f' := if (lookF fl.1 x.1).isSome then fl.1 else fl.1 ++ [(x.1, tick + 1)]
  if (match lookF fl.1 x.1 with | some t => decide (t = tick + 1) | none => true) && (match lookF fl.2 x.1 with | some p => lexP x.2 p | none => true) then (f', storeF fl.2 x.1 x.2) else (f', fl.2)
def layRow (nx : Nx) (G : List (List (Int × Nat))) (tick : Nat) (fl : FirL × LayP) (e : PlcK × List Plc) : FirL × LayP := (stepsM nx (G.getD e.1.1 []) e.1.2 e.2 tick).foldl (updOne tick) fl
def layerM (nx : Nx) (G : List (List (Int × Nat))) (tick : Nat) (first : FirL) (layer : LayP) : FirL × LayP := layer.foldl (layRow nx G tick) (first, [])
def endedM (nx : Nx) (layer : LayP) : List (List Plc) := (layer.filter fun e => (nx e.1.2).isEmpty).map (·.2)
def soonM (nx : Nx) (G : List (List (Int × Nat))) : Nat → Nat → FirL → LayP → Option (List (List Plc))
  | 0, _, _, _ => none
  | n + 1, tick, first, layer =>
    if (endedM nx (layerM nx G tick first layer).2).isEmpty then soonM nx G n (tick + 1) (layerM nx G tick first layer).1 (layerM nx G tick first layer).2
    else some (endedM nx (layerM nx G tick first layer).2)
end Sg
set_option Elab.async false
set_option linter.all false
set_option maxRecDepth 100000
set_option maxHeartbeats 4000000
namespace Sg
open PySem PySem.Spec PyProof.Rows L2
/-! ## what may come next: a dict from ints to tuples of ints -/
def NxAt (H : Hp) : List (L2.Key × V) → List (Int × List Int) → Prop := Paired fun kv p => kv.1 = .inl p.1 ∧ ∃ c, kv.2 = V.ref c ∧ H c = some (.tup (p.2.map V.int))
theorem NxAt.keep {H H' : Hp} (e : KeepT H H') {kvs : List (L2.Key × V)} {l : List (Int × List Int)} (h : NxAt H kvs l) : NxAt H' kvs l := by
  unfold NxAt at h ⊢
  induction h with
  | nil => exact .nil
  | cons a t ih =>
    obtain ⟨h1, c, h2, h3⟩ := a
    exact .cons ⟨h1, c, h2, e _ _ h3⟩ ih
theorem NxAt.look {H : Hp} {kvs : List (L2.Key × V)} {l : List (Int × List Int)} (h : NxAt H kvs l) (c : Int) : ((l.find? fun p => decide (p.1 = c)) = none → L2.valV kvs (.inl c) = none) ∧
    ∀ p, (l.find? fun p => decide (p.1 = c)) = some p → ∃ t, L2.valV kvs (.inl c) = some (.ref t) ∧ H t = some (.tup (p.2.map V.int)) := by
  unfold NxAt at h
  induction h with
  | nil => exact ⟨fun _ => rfl, fun p e => nomatch e⟩
  | @cons kv p kvs l a t ih =>
    obtain ⟨h1, b, h2, h3⟩ := a
    unfold L2.valV at ih ⊢
    by_cases g : p.1 = c
    · have g2 : kv.1 = Sum.inl c := by rw [h1, g]
      rw [List.find?_cons_of_pos (p := fun e : Int × List Int => decide (e.1 = c)) (decide_eq_true g), List.find?_cons_of_pos (p := fun r : L2.Key × V => decide (r.1 = Sum.inl c)) (decide_eq_true g2)]
      refine And.intro (fun z => nomatch (show some p = none from z)) fun x z => ?_
      have z : some p = some x := z
      cases z
      exact ⟨b, by show some kv.2 = _; rw [h2], h3⟩
    · have g2 : ¬ kv.1 = Sum.inl c := fun z => g (Sum.inl.inj (h1.symm.trans z))
      rw [List.find?_cons_of_neg (p := fun e : Int × List Int => decide (e.1 = c)) (by simpa using g), List.find?_cons_of_neg (p := fun r : L2.Key × V => decide (r.1 = Sum.inl c)) (by simpa using g2)]
      exact ih
theorem NxAt.len {H : Hp} {kvs : List (L2.Key × V)} {l : List (Int × List Int)} (h : NxAt H kvs l) : kvs.length = l.length := Paired.length h
/-- next_of, as a def: what it tells of left -/
def spNext (Ok : List Int → Prop) (nx : Nx) : Sp := fun vs H Q _ => ∃ (t : Addr) (ns : List Int), vs = [.ref t] ∧ H t = some (.tup (ns.map V.int)) ∧ Ok ns ∧ ∀ H' d kvs, Same H H' → H' d = some (.dK kvs) → NxAt H' kvs (nx ns) → Q (.ref d) H'
/-! ## what can be done in a tick: a list of pairs (place, plan) -/
def StepAt (H : Hp) (v : V) (x : PlcK × List Plc) : Prop := ∃ t b pn, v = V.ref t ∧ H t = some (.tup [.ref b, .ref pn]) ∧ PlaceAt H b x.1 ∧ TkAt H pn x.2
theorem StepAt.keep {H H' : Hp} (e : KeepT H H') {v : V} {x : PlcK × List Plc} (h : StepAt H v x) : StepAt H' v x := by
  obtain ⟨t, b, pn, h1, h2, h3, h4⟩ := h
  exact ⟨t, b, pn, h1, e _ _ h2, h3.keep e, h4.keep e⟩
abbrev StepsAt (H : Hp) : List V → List (PlcK × List Plc) → Prop := Paired (StepAt H)
theorem StepsAt.keep {H H' : Hp} (e : KeepT H H') {us : List V} {xs : List (PlcK × List Plc)} (h : StepsAt H us xs) : StepsAt H' us xs := by
  unfold StepsAt at h ⊢
  induction h with
  | nil => exact .nil
  | cons a t ih => exact .cons (a.keep e) ih
theorem StepsAt.at {H : Hp} {us : List V} {xs : List (PlcK × List Plc)} (h : StepsAt H us xs) : ∀ {i : Nat} {u : V}, us[i]? = some u → ∃ x, xs[i]? = some x ∧ StepAt H u x := by
  unfold StepsAt at h
  induction h with
  | nil => intro i u e; exact nomatch e
  | cons a t ih =>
    intro i u e
    cases i with
    | zero => cases e; exact ⟨_, rfl, a⟩
    | succ i => exact ih e
theorem stepsM_len (nx : Nx) (row : List (Int × Nat)) (left : List Int) (plan : List Plc) (tick : Nat) : (stepsM nx row left plan tick).length ≤ row.length := by
  unfold stepsM
  exact List.length_filterMap_le _ _
end Sg
set_option Elab.async false
set_option linter.all false
set_option maxRecDepth 100000
set_option maxHeartbeats 4000000
namespace Sg
open PySem PySem.Spec PyProof.Rows L2
/-! ## keys of the search -/
theorem lookF_none {α : Type} {l : List (PlcK × α)} {k : PlcK} (h : lookF l k = none) : ∀ e ∈ l, e.1 ≠ k := fun e he z => by
  unfold lookF at h
  rw [Option.map_eq_none_iff, List.find?_eq_none] at h
  exact h e he (decide_eq_true z)
theorem lookF_some {α : Type} {l : List (PlcK × α)} {k : PlcK} {x : α} (h : lookF l k = some x) : (k, x) ∈ l := by
  unfold lookF at h
  obtain ⟨e, he, rfl⟩ := Option.map_eq_some_iff.mp h
  have h1 := List.mem_of_find?_eq_some he
  have h2 : e.1 = k := of_decide_eq_true (List.find?_some (p := fun e : PlcK × α => decide (e.1 = k)) he)
  rw [← h2]; exact h1
theorem keys_map {α : Type} {l : List (PlcK × α)} {k : PlcK} {v : α} : (l.map (fun e => if e.1 = k then (e.1, v) else e)).map (·.1) = l.map (·.1) := by
  rw [List.map_map]
  refine List.map_congr_left fun e _ => ?_
  show (if e.1 = k then (e.1, v) else e).1 = e.1
  split <;> rfl
structure KeysU {α : Type} (U : List PlcK) (l : List (PlcK × α)) : Prop where
  nd : (l.map (·.1)).Nodup
  sub : ∀ e ∈ l, e.1 ∈ U
theorem KeysU.few {α : Type} {U : List PlcK} {l : List (PlcK × α)} (h : KeysU U l) : l.length ≤ U.length := by
  have := nodup_len_le (l.map (·.1)) U h.nd fun k hk => by
    obtain ⟨e, he, rfl⟩ := List.mem_map.mp hk
    exact h.sub e he
  rwa [List.length_map] at this
theorem KeysU.nil {α : Type} {U : List PlcK} : KeysU U ([] : List (PlcK × α)) := ⟨List.nodup_nil, fun e he => nomatch he⟩
theorem KeysU.add {α : Type} {U : List PlcK} {l : List (PlcK × α)} (h : KeysU U l) {k : PlcK} {v : α} (hk : k ∈ U) (hn : lookF l k = none) : KeysU U (l ++ [(k, v)]) := by
  refine ⟨?_, fun e he => ?_⟩
  · rw [List.map_append, List.nodup_append]
    refine ⟨h.nd, List.nodup_cons.mpr ⟨List.not_mem_nil, List.nodup_nil⟩, fun a ha b hb z => ?_⟩
    obtain ⟨e, he, rfl⟩ := List.mem_map.mp ha
    have hb : b = k := List.mem_singleton.mp hb
    exact lookF_none hn e he (z.trans hb)
  · rcases List.mem_append.mp he with he | he
    · exact h.sub e he
    · rw [List.mem_singleton.mp he]; exact hk
theorem KeysU.store {α : Type} {U : List PlcK} {l : List (PlcK × α)} (h : KeysU U l) {k : PlcK} {v : α} (hk : k ∈ U) : KeysU U (storeF l k v) := by
  unfold storeF
  split
  · refine ⟨by rw [keys_map]; exact h.nd, fun e he => ?_⟩
    obtain ⟨e', he', rfl⟩ := List.mem_map.mp he
    split <;> exact h.sub e' he'
  · rename_i hn
    exact h.add hk (by simpa using hn)
theorem updOne_keys {U : List PlcK} {tick : Nat} {fl : FirL × LayP} {x : PlcK × List Plc} (h1 : KeysU U fl.1) (h2 : KeysU U fl.2) (hx : x.1 ∈ U) : KeysU U (updOne tick fl x).1 ∧ KeysU U (updOne tick fl x).2 := by
  have hf : KeysU U (if (lookF fl.1 x.1).isSome then fl.1 else fl.1 ++ [(x.1, tick + 1)]) := by
    split
    · exact h1
    · rename_i hn
      exact h1.add hx (by simpa using hn)
  unfold updOne
  dsimp only
  generalize ((match lookF fl.1 x.1 with | some t => decide (t = tick + 1) | none => true) && (match lookF fl.2 x.1 with | some p => lexP x.2 p | none => true)) = c
  cases c with
  | true => rw [if_pos rfl]; exact ⟨hf, h2.store hx⟩
  | false => rw [if_neg (by decide)]; exact ⟨hf, h2⟩
theorem foldl_take {α β : Type} (f : β → α → β) (b : β) {l : List α} {i : Nat} {x : α} (h : l[i]? = some x) : (l.take (i + 1)).foldl f b = f ((l.take i).foldl f b) x := by
  rw [List.take_add_one, h, List.foldl_append]; rfl
theorem upds_keys {U : List PlcK} {tick : Nat} : ∀ {xs : List (PlcK × List Plc)} {fl : FirL × LayP}, KeysU U fl.1 → KeysU U fl.2 → (∀ x ∈ xs, x.1 ∈ U) → KeysU U (xs.foldl (updOne tick) fl).1 ∧ KeysU U (xs.foldl (updOne tick) fl).2
  | [], _, h1, h2, _ => ⟨h1, h2⟩
  | x :: xs, fl, h1, h2, hx => by
    obtain ⟨a, b⟩ := updOne_keys (tick := tick) h1 h2 (hx x List.mem_cons_self)
    exact upds_keys (fl := updOne tick fl x) a b fun y hy => hx y (List.mem_cons_of_mem _ hy)
theorem rows_keys {U : List PlcK} {nx : Nx} {G : List (List (Int × Nat))} {tick : Nat} : ∀ {l : LayP} {fl : FirL × LayP}, KeysU U fl.1 → KeysU U fl.2 → (∀ e ∈ l, ∀ x ∈ stepsM nx (G.getD e.1.1 []) e.1.2 e.2 tick, x.1 ∈ U) → KeysU U (l.foldl (layRow nx G tick) fl).1 ∧ KeysU U (l.foldl (layRow nx G tick) fl).2
  | [], _, h1, h2, _ => ⟨h1, h2⟩
  | e :: l, fl, h1, h2, h => by
    obtain ⟨a, b⟩ := upds_keys (tick := tick) h1 h2 (h e List.mem_cons_self)
    exact rows_keys (fl := layRow nx G tick fl e) a b fun y hy => h y (List.mem_cons_of_mem _ hy)
/-! ## what stands in the dicts -/
abbrev FirV : Hp → V → Nat → Prop := fun _ v t => v = V.int (t : Nat)
abbrev PlanV : Hp → V → List Plc → Prop := fun H v p => ∃ pn, v = V.ref pn ∧ TkAt H pn p
theorem FirV.keep {H H' : Hp} : ∀ v x, FirV H v x → FirV H' v x := fun _ _ h => h
theorem PlanV.keep {H H' : Hp} (e : KeepT H H') : ∀ v x, PlanV H v x → PlanV H' v x := fun v x ⟨pn, h1, h2⟩ => ⟨pn, h1, h2.keep e⟩
/-- all but two places stays -/
def But2 (p q : Addr) (H H' : Hp) : Prop := ∀ b o, b ≠ p → b ≠ q → H b = some o → H' b = some o
theorem But2.trans {p q : Addr} {H H1 H2 : Hp} (a : But2 p q H H1) (b : But2 p q H1 H2) : But2 p q H H2 := fun c o n m h => b c o n m (a c o n m h)
theorem But2.of {p q : Addr} {H H' : Hp} (a : Same H H') : But2 p q H H' := fun c o _ _ h => a c o h
end Sg
set_option Elab.async false
set_option linter.all false
set_option maxRecDepth 100000
set_option maxHeartbeats 4000000
namespace Sg
open PySem PySem.Spec PyProof.Rows L2
/-! the places of the text -/
def topS (i : Nat) : Stmt := PySem.Challenge.pw_startgaps_k27_soonest_of_counts.main.body.getD i (.Pass ⟨0, 0, 0, 0⟩)
abbrev s_is_int : Stmt := topS 10
theorem sc_is_int : FnScope ["thing"] ["thing"] (defScope s_is_int) := ⟨rfl, rfl, rfl, by decide +kernel, rfl, by decide +kernel, by decide +kernel⟩
abbrev s_is_between : Stmt := topS 11
theorem sc_is_between : FnScope ["thing", "least", "most"] ["thing", "least", "most"] (defScope s_is_between) := ⟨rfl, rfl, rfl, by decide +kernel, rfl, by decide +kernel, by decide +kernel⟩
abbrev s_is_work : Stmt := topS 16
theorem sc_is_work : FnScope ["thing", "item"] ["thing"] (defScope s_is_work) := ⟨rfl, rfl, rfl, by decide +kernel, rfl, by decide +kernel, by decide +kernel⟩
abbrev s_bars : Stmt := topS 17
theorem sc_bars : FnScope ["one", "other", "distance"] ["one", "other"] (defScope s_bars) := ⟨rfl, rfl, rfl, by decide +kernel, rfl, by decide +kernel, by decide +kernel⟩
abbrev s_require_work : Stmt := topS 18
theorem sc_require_work : FnScope ["thing"] ["thing"] (defScope s_require_work) := ⟨rfl, rfl, rfl, by decide +kernel, rfl, by decide +kernel, by decide +kernel⟩
abbrev s_clashes_behind : Stmt := topS 19
theorem sc_clashes_behind : FnScope ["one", "other", "distance", "here", "there"] ["one", "other", "distance"] (defScope s_clashes_behind) := ⟨rfl, rfl, rfl, by decide +kernel, rfl, by decide +kernel, by decide +kernel⟩
abbrev s_is_kind : Stmt := topS 22
theorem sc_is_kind : FnScope ["line", "thing"] ["line", "thing"] (defScope s_is_kind) := ⟨rfl, rfl, rfl, by decide +kernel, rfl, by decide +kernel, by decide +kernel⟩
abbrev s_require_kind : Stmt := topS 23
theorem sc_require_kind : FnScope ["line", "thing"] ["line", "thing"] (defScope s_require_kind) := ⟨rfl, rfl, rfl, by decide +kernel, rfl, by decide +kernel, by decide +kernel⟩
abbrev s_bars_of_all : Stmt := topS 24
theorem sc_bars_of_all : FnScope ["works", "other", "one"] ["works"] (defScope s_bars_of_all) := ⟨rfl, rfl, rfl, by decide +kernel, rfl, by decide +kernel, by decide +kernel⟩
abbrev s_Line_init : Stmt := inClass (topS 25) 0
theorem sc_Line_init : FnScope ["self", "works", "work", "row", "pair", "bar"] ["self", "works"] (defScope s_Line_init) := ⟨rfl, rfl, rfl, by decide +kernel, rfl, by decide +kernel, by decide +kernel⟩
abbrev s_Line_works : Stmt := inClass (topS 25) 1
theorem sc_Line_works : FnScope ["self"] ["self"] (defScope s_Line_works) := ⟨rfl, rfl, rfl, by decide +kernel, rfl, by decide +kernel, by decide +kernel⟩
abbrev s_Line_reach : Stmt := inClass (topS 25) 2
theorem sc_Line_reach : FnScope ["self"] ["self"] (defScope s_Line_reach) := ⟨rfl, rfl, rfl, by decide +kernel, rfl, by decide +kernel, by decide +kernel⟩
abbrev s_Line_len : Stmt := inClass (topS 25) 3
theorem sc_Line_len : FnScope ["self"] ["self"] (defScope s_Line_len) := ⟨rfl, rfl, rfl, by decide +kernel, rfl, by decide +kernel, by decide +kernel⟩
abbrev s_Line_getitem : Stmt := inClass (topS 25) 4
theorem sc_Line_getitem : FnScope ["self", "at"] ["self", "at"] (defScope s_Line_getitem) := ⟨rfl, rfl, rfl, by decide +kernel, rfl, by decide +kernel, by decide +kernel⟩
abbrev s_Line_call : Stmt := inClass (topS 25) 6
theorem sc_Line_call : FnScope ["self", "one", "other"] ["self", "one", "other"] (defScope s_Line_call) := ⟨rfl, rfl, rfl, by decide +kernel, rfl, by decide +kernel, by decide +kernel⟩
abbrev s_Line_add : Stmt := inClass (topS 25) 7
theorem sc_Line_add : FnScope ["self", "other", "works"] ["self", "other"] (defScope s_Line_add) := ⟨rfl, rfl, rfl, by decide +kernel, rfl, by decide +kernel, by decide +kernel⟩
abbrev s_Line_sub : Stmt := inClass (topS 25) 9
theorem sc_Line_sub : FnScope ["self", "other", "works"] ["self", "other"] (defScope s_Line_sub) := ⟨rfl, rfl, rfl, by decide +kernel, rfl, by decide +kernel, by decide +kernel⟩
abbrev s_Line_neg : Stmt := inClass (topS 25) 10
theorem sc_Line_neg : FnScope ["self", "works", "work"] ["self"] (defScope s_Line_neg) := ⟨rfl, rfl, rfl, by decide +kernel, rfl, by decide +kernel, by decide +kernel⟩
abbrev s_Line_eq : Stmt := inClass (topS 25) 11
theorem sc_Line_eq : FnScope ["self", "other"] ["self", "other"] (defScope s_Line_eq) := ⟨rfl, rfl, rfl, by decide +kernel, rfl, by decide +kernel, by decide +kernel⟩
abbrev s_Line_repr : Stmt := inClass (topS 25) 12
theorem sc_Line_repr : FnScope ["self"] ["self"] (defScope s_Line_repr) := ⟨rfl, rfl, rfl, by decide +kernel, rfl, by decide +kernel, by decide +kernel⟩
abbrev s_require_line : Stmt := topS 26
theorem sc_require_line : FnScope ["thing"] ["thing"] (defScope s_require_line) := ⟨rfl, rfl, rfl, by decide +kernel, rfl, by decide +kernel, by decide +kernel⟩
abbrev s_numbered_moves : Stmt := topS 31
theorem sc_numbered_moves : FnScope ["line", "moves", "ordered", "numbers", "number", "state", "choice", "behind"] ["line"] (defScope s_numbered_moves) := ⟨rfl, rfl, rfl, by decide +kernel, rfl, by decide +kernel, by decide +kernel⟩
abbrev s_require_near : Stmt := topS 32
theorem sc_require_near : FnScope ["line", "of_one", "of_several", "limit"] ["line", "of_one", "of_several"] (defScope s_require_near) := ⟨rfl, rfl, rfl, by decide +kernel, rfl, by decide +kernel, by decide +kernel⟩
abbrev s_empty_state : Stmt := topS 33
theorem sc_empty_state : FnScope ["line"] ["line"] (defScope s_empty_state) := ⟨rfl, rfl, rfl, by decide +kernel, rfl, by decide +kernel, by decide +kernel⟩
abbrev s_open_choices : Stmt := topS 34
theorem sc_open_choices : FnScope ["state", "kinds", "kind", "delays"] ["state"] (defScope s_open_choices) := ⟨rfl, rfl, rfl, by decide +kernel, rfl, by decide +kernel, by decide +kernel⟩
abbrev s_behind : Stmt := topS 35
theorem sc_behind : FnScope ["line", "state", "choice", "started", "found", "kind", "delays", "kept", "delay"] ["line", "state", "choice"] (defScope s_behind) := ⟨rfl, rfl, rfl, by decide +kernel, rfl, by decide +kernel, by decide +kernel⟩
abbrev s_delays : Stmt := topS 36
theorem sc_delays : FnScope ["line", "started", "kind", "ago", "other", "bar"] ["line", "started", "kind"] (defScope s_delays) := ⟨rfl, rfl, rfl, by decide +kernel, rfl, by decide +kernel, by decide +kernel⟩
abbrev s_ascending : Stmt := topS 37
theorem sc_ascending : FnScope ["numbers"] ["numbers"] (defScope s_ascending) := ⟨rfl, rfl, rfl, by decide +kernel, rfl, by decide +kernel, by decide +kernel⟩
abbrev s_moves : Stmt := topS 38
theorem sc_moves : FnScope ["line", "moves", "waiting", "state", "choice", "_", "behind"] ["line"] (defScope s_moves) := ⟨rfl, rfl, rfl, by decide +kernel, rfl, by decide +kernel, by decide +kernel⟩
abbrev s_soonest_of : Stmt := topS 42
theorem sc_soonest_of : FnScope ["line", "counts"] ["line", "counts"] (defScope s_soonest_of) := ⟨rfl, rfl, rfl, by decide +kernel, rfl, by decide +kernel, by decide +kernel⟩
abbrev s_require_counts : Stmt := topS 43
theorem sc_require_counts : FnScope ["line", "thing", "count"] ["line", "thing"] (defScope s_require_counts) := ⟨rfl, rfl, rfl, by decide +kernel, rfl, by decide +kernel, by decide +kernel⟩
abbrev s_next_of_any : Stmt := topS 44
theorem sc_next_of_any : FnScope ["counts", "kind", "count"] ["counts"] (defScope s_next_of_any) := ⟨rfl, rfl, rfl, by decide +kernel, rfl, by decide +kernel, by decide +kernel⟩
abbrev s_soonest_plan : Stmt := topS 45
theorem sc_soonest_plan : FnScope ["line", "wanted", "next_of", "moves", "layer", "first_ticks", "tick", "ended", "_", "left", "plan"] ["line", "wanted", "next_of"] (defScope s_soonest_plan) := ⟨rfl, rfl, rfl, by decide +kernel, rfl, by decide +kernel, by decide +kernel⟩
abbrev s_next_layer : Stmt := topS 46
theorem sc_next_layer : FnScope ["moves", "layer", "first_ticks", "tick", "next_of", "found", "state", "left", "plan", "place", "longer", "is_first"] ["moves", "layer", "first_ticks", "tick", "next_of"] (defScope s_next_layer) := ⟨rfl, rfl, rfl, by decide +kernel, rfl, by decide +kernel, by decide +kernel⟩
abbrev s_steps : Stmt := topS 47
theorem sc_steps : FnScope ["moves", "left", "plan", "tick", "next_of", "coming", "found", "choice", "behind"] ["moves", "left", "plan", "tick", "next_of"] (defScope s_steps) := ⟨rfl, rfl, rfl, by decide +kernel, rfl, by decide +kernel, by decide +kernel⟩
abbrev s_l_cell_at : Stmt := topS 49
theorem sc_l_cell_at : FnScope ["_law_script", "_law_k"] ["_law_script", "_law_k"] (defScope s_l_cell_at) := ⟨rfl, rfl, rfl, by decide +kernel, rfl, by decide +kernel, by decide +kernel⟩
abbrev s_l_pen : Stmt := topS 50
theorem sc_l_pen : FnScope ["_law_cell"] ["_law_cell"] (defScope s_l_pen) := ⟨rfl, rfl, rfl, by decide +kernel, rfl, by decide +kernel, by decide +kernel⟩
abbrev s_l_draw : Stmt := topS 51
theorem sc_l_draw : FnScope ["_law_pen_here", "_law_many", "_law_found", "_law_mixed"] ["_law_pen_here", "_law_many"] (defScope s_l_draw) := ⟨rfl, rfl, rfl, by decide +kernel, rfl, by decide +kernel, by decide +kernel⟩
abbrev s_l_pick : Stmt := topS 52
theorem sc_l_pick : FnScope ["_law_pen_here", "_law_some"] ["_law_pen_here", "_law_some"] (defScope s_l_pick) := ⟨rfl, rfl, rfl, by decide +kernel, rfl, by decide +kernel, by decide +kernel⟩
abbrev s_l_same : Stmt := topS 53
theorem sc_l_same : FnScope ["_law_found", "_law_due"] ["_law_found", "_law_due"] (defScope s_l_same) := ⟨rfl, rfl, rfl, by decide +kernel, rfl, by decide +kernel, by decide +kernel⟩
abbrev s_l_names : Stmt := topS 54
theorem sc_l_names : FnScope ["_law_pen_here", "_law_first", "_law_step", "_law_at"] ["_law_pen_here"] (defScope s_l_names) := ⟨rfl, rfl, rfl, by decide +kernel, rfl, by decide +kernel, by decide +kernel⟩
abbrev s_l_work : Stmt := topS 55
theorem sc_l_work : FnScope ["_law_pen_here", "_law_names_here", "_law_far", "_law_blocks", "_law_many", "_law_rare", "_law_items", "_law_tick", "_law_station"] ["_law_pen_here", "_law_names_here", "_law_far", "_law_blocks"] (defScope s_l_work) := ⟨rfl, rfl, rfl, by decide +kernel, rfl, by decide +kernel, by decide +kernel⟩
abbrev s_l_works : Stmt := topS 56
theorem sc_l_works : FnScope ["_law_pen_here", "_law_one_far", "_law_more_far", "_law_names_here", "_law_count", "_law_far", "_law_found", "_law_at"] ["_law_pen_here", "_law_one_far", "_law_more_far"] (defScope s_l_works) := ⟨rfl, rfl, rfl, by decide +kernel, rfl, by decide +kernel, by decide +kernel⟩
abbrev s_l_line : Stmt := topS 57
theorem sc_l_line : FnScope ["_law_works_here"] ["_law_works_here"] (defScope s_l_line) := ⟨rfl, rfl, rfl, by decide +kernel, rfl, by decide +kernel, by decide +kernel⟩
abbrev s_l_between : Stmt := topS 58
theorem sc_l_between : FnScope ["_law_one", "_law_other", "_law_some", "_law_tick", "_law_station", "_law_at"] ["_law_one", "_law_other"] (defScope s_l_between) := ⟨rfl, rfl, rfl, by decide +kernel, rfl, by decide +kernel, by decide +kernel⟩
abbrev s_l_bars : Stmt := topS 59
theorem sc_l_bars : FnScope ["_law_works_here", "_law_other", "_law_one"] ["_law_works_here"] (defScope s_l_bars) := ⟨rfl, rfl, rfl, by decide +kernel, rfl, by decide +kernel, by decide +kernel⟩
abbrev s_l_reach : Stmt := topS 60
theorem sc_l_reach : FnScope ["_law_spans", "_law_found", "_law_row", "_law_some"] ["_law_spans"] (defScope s_l_reach) := ⟨rfl, rfl, rfl, by decide +kernel, rfl, by decide +kernel, by decide +kernel⟩
abbrev s_l_is_free : Stmt := topS 61
theorem sc_l_is_free : FnScope ["_law_spans", "_law_plan", "_law_tick", "_law_kind", "_law_start", "_law_one"] ["_law_spans", "_law_plan", "_law_tick", "_law_kind"] (defScope s_l_is_free) := ⟨rfl, rfl, rfl, by decide +kernel, rfl, by decide +kernel, by decide +kernel⟩
abbrev s_l_early_last : Stmt := topS 62
theorem sc_l_early_last : FnScope ["_law_spans", "_law_amounts", "_law_plan", "_law_tick", "_law_kind", "_law_many", "_law_turn"] ["_law_spans", "_law_amounts"] (defScope s_l_early_last) := ⟨rfl, rfl, rfl, by decide +kernel, rfl, by decide +kernel, by decide +kernel⟩
abbrev s_l_longer : Stmt := topS 63
theorem sc_l_longer : FnScope ["_law_spans", "_law_plan", "_law_amounts", "_law_reach_here", "_law_most", "_law_begin", "_law_found", "_law_kinds", "_law_start", "_law_one", "_law_kind", "_law_tick"] ["_law_spans", "_law_plan", "_law_amounts", "_law_reach_here", "_law_most"] (defScope s_l_longer) := ⟨rfl, rfl, rfl, by decide +kernel, rfl, by decide +kernel, by decide +kernel⟩
abbrev s_l_soonest : Stmt := topS 64
theorem sc_l_soonest : FnScope ["_law_spans", "_law_amounts", "_law_reach_here", "_law_most", "_law_plans", "_law_kind", "_law_turn", "_law_longer_here", "_law_plan"] ["_law_spans", "_law_amounts", "_law_reach_here"] (defScope s_l_soonest) := ⟨rfl, rfl, rfl, by decide +kernel, rfl, by decide +kernel, by decide +kernel⟩
abbrev s_l_counts : Stmt := topS 65
theorem sc_l_counts : FnScope ["_law_pen_here", "_law_kinds", "_law_most", "_law_found", "_law_turn", "_law_kind"] ["_law_pen_here", "_law_kinds", "_law_most"] (defScope s_l_counts) := ⟨rfl, rfl, rfl, by decide +kernel, rfl, by decide +kernel, by decide +kernel⟩
abbrev s_law : Stmt := topS 66
theorem sc_law : FnScope ["_law_script", "_law_k", "_law_pen_here", "_law_works_here", "_law_belt", "_law_spans", "_law_reach_here", "_law_most", "_law_turn", "_law_amounts", "_law_due", "_law_again", "_law_one"] ["_law_script"] (defScope s_law) := ⟨rfl, rfl, rfl, by decide +kernel, rfl, by decide +kernel, by decide +kernel⟩
end Sg
set_option Elab.async false
set_option linter.all false
set_option maxRecDepth 100000
set_option maxHeartbeats 4000000
namespace Sg
open PySem PySem.Spec PyProof.Rows L2 StX
section
variable {P : Program} {w : World} {K : PySem.W.Frag} {mg : Str → Option Value} {base : Heap}
/-! ### is_int, is_between: of ints -/
def spIsInt : Sp := fun vs H Q _ => ∃ i : Int, vs = [.int i] ∧ Q (.bl true) H
theorem ok_is_int {f : Addr} {fd : FuncData} {k : Nat} (F : Fun K "is_int" "is_int" s_is_int f fd) (m1 : mg "isinstance" = none) (m2 : mg "int" = none) (m3 : mg "bool" = none) :
    FnOk P w K mg base CX0 (k + 1) f fd ["thing"] spIsInt := by
  refine F.ok sc_is_int (fun vs H Q E h => ?_) (fun cdv A outer s H vs Q E hr h => ?_)
  · obtain ⟨i, rfl, _⟩ := h; rfl
  · obtain ⟨i, rfl, q⟩ := h
    refine ⟨_, pss_one (ps_ret (pe_and
      (pe_callB call_isi (by rfl) m1 (by decide +kernel) (pa_cons (pv 0) (pa_cons (pe_bltn (v := .ty "int") (by rfl) m2 (by decide +kernel) rfl) pa_nil)))
      (pe_one (pe_not (pe_callB call_isi (by rfl) m1 (by decide +kernel) (pa_cons (pv 0) (pa_cons (pe_bltn (v := .ty "bool") (by rfl) m3 (by decide +kernel) rfl) pa_nil))))))), ?_⟩
    refine ⟨.int i, rfl, .int i, .ty "int", _, _, true, rfl, .ty _, .base (.int i), kit_ty (by decide +kernel), true, rfl, iteT ?_⟩
    exact ⟨.int i, rfl, .int i, .ty "bool", _, _, false, rfl, .ty _, .base (.int i), kit_ty (by decide +kernel), false, rfl, q⟩
def spIsBetween : Sp := fun vs H Q _ => ∃ i l m : Int, vs = [.int i, .int l, .int m] ∧ Q (.bl (decide (l ≤ i) && decide (i ≤ m))) H
theorem ok_is_between {f f1 : Addr} {fd fd1 : FuncData} {k : Nat} (F : Fun K "is_between" "is_between" s_is_between f fd)
    (G1 : FnOk P w K mg base CX0 k f1 fd1 ["thing"] spIsInt) (kp1 : PySem.W.keepIn K (.ref f1) = true) (b1 : Binds K fd1 ["thing"] []) (g1 : mg "is_int" = some (.ref f1)) :
    FnOk P w K mg base CX0 (k + 1) f fd ["thing", "least", "most"] spIsBetween := by
  refine F.ok sc_is_between (fun vs H Q E h => ?_) (fun cdv A outer s H vs Q E hr h => ?_)
  · obtain ⟨i, l, m, rfl, _⟩ := h; rfl
  · obtain ⟨i, l, m, rfl, q⟩ := h
    refine ⟨_, pss_one (ps_ret (pe_and (pe_call G1 hr (by rfl) g1 kp1 b1 .nil pass0 (pa_cons (pv 0) pa_nil)) (pe_one (pe_chain op_le op_le (pv 1) (pv 0) (pv 2))))), ?_⟩
    refine ⟨.int i, rfl, i, rfl, true, rfl, iteT ?_⟩
    refine ⟨.int l, rfl, .int i, rfl, l, i, rfl, rfl, decide (l ≤ i), rfl, ?_⟩
    by_cases h1 : l ≤ i
    · rw [decide_eq_true h1] at q ⊢
      exact iteT ⟨.int m, rfl, i, m, rfl, rfl, q⟩
    · rw [decide_eq_false h1] at q ⊢
      exact iteF q
/-! ### the script's cells, the pen -/
def spCell (K : PySem.W.Frag) : Sp := fun vs H Q _ => ∃ (a : Addr) (ns : List Int) (k : Nat), vs = [.ref a, .int k] ∧ SqL K H a (ns.map V.int) ∧ ∀ r : Int, Q (.int r) H
theorem ok_l_cell_at {f : Addr} {fd : FuncData} {k : Nat} (F : Fun K "_law_cell_at" "_law_cell_at" s_l_cell_at f fd) (m1 : mg "len" = none) :
    FnOk P w K mg base CX0 (k + 1) f fd ["_law_script", "_law_k"] (spCell K) := by
  refine F.ok sc_l_cell_at (fun vs H Q E h => ?_) (fun cdv A outer s H vs Q E hr h => ?_)
  · obtain ⟨a, ns, j, rfl, _⟩ := h; rfl
  · obtain ⟨a, ns, j, rfl, hS, q⟩ := h
    refine ⟨_, pss_cons (ps_if (pt_cmpR op_lt (pv 1) (pe_callB call_len_seq (by rfl) m1 PySem.boot_len (pa_cons (pv 0) pa_nil)) (nomark _))
      (pss_one (ps_ret (pe_ix ix_list (pv 0) (pv 1) (fun _ _ => rfl)))) pss_nil) (pss_one (ps_ret pe_int)), ?_⟩
    refine ⟨.int j, rfl, .ref a, rfl, a, ns.map V.int, rfl, .inl hS, _, _, rfl, rfl, _, rfl, ite2 (fun e => ?_) (fun e => ?_)⟩
    · have e1 : (j : Int) < ((ns.map V.int).length : Nat) := of_decide_eq_true e
      have e2 : j < ns.length := by rw [List.length_map] at e1; omega
      refine ⟨.ref a, rfl, .int j, rfl, a, ns.map V.int, (j : Int), .int ns[j], rfl, rfl, hS, atI_nat ?_, q _⟩
      rw [List.getElem?_map, List.getElem?_eq_getElem e2]; rfl
    · exact q 0
def spPen : Sp := fun vs H Q _ => ∃ c : Int, vs = [.int c] ∧ ∀ H' p, H p = none → Same H H' → PenAt H' p → Q (.ref p) H'
theorem ok_l_pen {f : Addr} {fd : FuncData} {k : Nat} (F : Fun K "_law_pen" "_law_pen" s_l_pen f fd) (m1 : mg "max" = none) :
    FnOk P w K mg base CX0 (k + 1) f fd ["_law_cell"] spPen := by
  refine F.ok sc_l_pen (fun vs H Q E h => ?_) (fun cdv A outer s H vs Q E hr h => ?_)
  · obtain ⟨c, rfl, _⟩ := h; rfl
  · obtain ⟨c, rfl, q⟩ := h
    refine ⟨_, pss_one (ps_ret (pe_lst (pa_cons (pe_callB (call_max2 rfl) (by rfl) m1 (by decide +kernel) (pa_cons pe_int (pa_cons (pe_op op_sub (pv 0) (pe_op op_pow pe_int pe_int)) pa_nil)))
      (pa_cons (pe_op op_add (pe_op op_mod (pv 0) pe_int) pe_int) (pa_cons pe_int pa_nil))))), ?_⟩
    refine ⟨.int c, rfl, 10, 18, rfl, rfl, (by show (0 : Int) ≤ 18 ∧ (18 : Int) ≤ 1000000 ∧ _; decide), c, _, rfl, rfl, _, _, rfl, ?_⟩
    refine ⟨.int c, rfl, c, 2147483629, rfl, rfl, (by show (0 : Int) < 2147483629; decide), _, _, rfl, rfl, ?_⟩
    refine ⟨by show 3 ≤ sizeLine; decide, fun p hp => q _ p hp (same_new hp) ⟨_, _, _, upd_same, ?_⟩⟩
    have h1 := Int.emod_nonneg c (show (2147483629 : Int) ≠ 0 by decide)
    have h2 := Int.emod_lt_of_pos c (show (0 : Int) < 2147483629 by decide)
    constructor <;> omega
/-! ### a draw -/
def spDraw : Sp := fun vs H Q _ => ∃ (p : Addr) (m : Int), vs = [.ref p, .int m] ∧ PenAt H p ∧ 0 < m ∧ m < 1000000 ∧
  ∀ H' (r : Int), 0 ≤ r → r < m → PenAt H' p → But p H H' → Q (.int r) H'
theorem ok_l_draw {f : Addr} {fd : FuncData} {k : Nat} (F : Fun K "_law_draw" "_law_draw" s_l_draw f fd) :
    FnOk P w K mg base CX0 (k + 1) f fd ["_law_pen_here", "_law_many"] spDraw := by
  refine F.ok sc_l_draw (fun vs H Q E h => ?_) (fun cdv A outer s H vs Q E hr h => ?_)
  · obtain ⟨p, m, rfl, _⟩ := h; rfl
  · obtain ⟨p, m, rfl, ⟨a, b, c, hp, hb0, hb1⟩, hm0, hm1, q⟩ := h
    refine ⟨_, pss_cons (ps_if (pt_cmpR op_gt (pe_ix ix_list (pv 0) pe_int (fun _ _ => rfl)) pe_int (nomark _))
        (pss_cons (ps_set (i := 2) sc_l_draw.nd rfl (.inl rfl) (pe_op op_mod (pe_ix ix_list (pv 0) pe_int (fun _ _ => rfl)) (pv 1)))
        (pss_cons (ps_asg (pe_op op_fdiv (pe_ix ix_list (pv 0) pe_int (fun _ _ => rfl)) (pv 1)) (pg_sub (pv 0) pe_int set_list))
        (pss_one (ps_ret (pv 2))))) pss_nil)
      (pss_cons (ps_asg (pe_op op_add (pe_ix ix_list (pv 0) pe_int (fun _ _ => rfl)) pe_int) (pg_sub (pv 0) pe_int set_list))
      (pss_cons (ps_asg (pe_op op_mod (pe_op op_add (pe_op op_add (pe_op op_mul (pe_ix ix_list (pv 0) pe_int (fun _ _ => rfl)) pe_int)
            (pe_op op_mul pe_int (pe_ix ix_list (pv 0) pe_int (fun _ _ => rfl)))) pe_int) pe_int) (pg_sub (pv 0) pe_int set_list))
      (pss_cons (ps_set (i := 3) sc_l_draw.nd rfl (.inl rfl) (pe_op op_mod (pe_op op_add (pe_op op_add (pe_op op_mul (pe_ix ix_list (pv 0) pe_int (fun _ _ => rfl)) (pe_ix ix_list (pv 0) pe_int (fun _ _ => rfl)))
            (pe_op op_mul pe_int (pe_ix ix_list (pv 0) pe_int (fun _ _ => rfl)))) pe_int) pe_int))
      (pss_cons (ps_set (i := 3) sc_l_draw.nd rfl (.inl rfl) (pe_op op_mod (pe_op op_add (pe_op op_mul (pv 3) (pv 3)) (pe_op op_mul pe_int (pv 3))) pe_int))
      (pss_one (ps_ret (pe_op op_mod (pe_op op_fdiv (pv 3) pe_int) (pv 1)))))))), ?_⟩
    refine ⟨.ref p, rfl, p, _, 0, .int a, rfl, rfl, .of hp, atI0, a, 0, rfl, rfl, _, rfl, ite2 (fun e => ?_) (fun e => ?_)⟩
    · have ha : 0 < a := of_decide_eq_true e
      refine ⟨.ref p, rfl, p, _, 0, .int a, rfl, rfl, .of hp, atI0, .int m, rfl, a, m, rfl, rfl, hm0, ?_⟩
      refine ⟨.ref p, rfl, p, _, 0, .int a, rfl, rfl, .of hp, atI0, .int m, rfl, a, m, rfl, rfl, ⟨hm0, (by omega)⟩, ?_⟩
      refine ⟨.ref p, rfl, p, _, 0, 0, rfl, rfl, hp, rfl, ?_⟩
      refine ⟨.int (a % m), rfl, q _ _ (Int.emod_nonneg a (by omega)) (Int.emod_lt_of_pos a hm0) ⟨a / m, b, c, upd_same, hb0, hb1⟩ But.upd⟩
    · refine ⟨.ref p, rfl, p, _, 2, .int c, rfl, rfl, .of hp, atI2, c, 1, rfl, rfl, ?_⟩
      refine ⟨.ref p, rfl, p, _, 2, 2, rfl, rfl, hp, rfl, ?_⟩
      have hp1 : (upd H p (.lst [.int a, .int b, .int (c + 1)])) p = some (.lst [.int a, .int b, .int (c + 1)]) := upd_same
      refine ⟨.ref p, rfl, p, _, 1, .int b, rfl, rfl, .of hp1, atI1, b, 48271, rfl, rfl, .inl ⟨by omega, by omega⟩, ?_⟩
      refine ⟨.ref p, rfl, p, _, 2, .int (c + 1), rfl, rfl, .of hp1, atI2, 1009, c + 1, rfl, rfl, .inl (by decide), ?_⟩
      refine ⟨_, _, rfl, rfl, _, _, rfl, rfl, _, 2147483647, rfl, rfl, (by show (0 : Int) < 2147483647; decide), ?_⟩
      refine ⟨.ref p, rfl, p, _, 1, 1, rfl, rfl, hp1, rfl, ?_⟩
      dsimp only [List.set]
      generalize hb' : (b * 48271 + 1009 * (c + 1) + 7) % 2147483647 = b'
      have g1 : 0 ≤ b' := by rw [← hb']; exact Int.emod_nonneg _ (by decide)
      have g2 : b' < 2147483647 := by rw [← hb']; exact Int.emod_lt_of_pos _ (by decide)
      have hp2 : (upd (upd H p (.lst [.int a, .int b, .int (c + 1)])) p (.lst [.int a, .int b', .int (c + 1)])) p = some (.lst [.int a, .int b', .int (c + 1)]) := upd_same
      refine ⟨.ref p, rfl, p, _, 1, .int b', rfl, rfl, .of hp2, atI1, .ref p, rfl, p, _, 1, .int b', rfl, rfl, .of hp2, atI1, b', b', rfl, rfl, .inl ⟨by omega, by omega⟩, ?_⟩
      refine ⟨.ref p, rfl, p, _, 1, .int b', rfl, rfl, .of hp2, atI1, 69621, b', rfl, rfl, .inl (by decide), ?_⟩
      refine ⟨_, _, rfl, rfl, _, _, rfl, rfl, _, 2147483629, rfl, rfl, (by show (0 : Int) < 2147483629; decide), ?_⟩
      dsimp only
      generalize ht : (b' * b' + 69621 * b' + 11) % 2147483629 = t
      have t1 : 0 ≤ t := by rw [← ht]; exact Int.emod_nonneg _ (by decide)
      have t2 : t < 2147483629 := by rw [← ht]; exact Int.emod_lt_of_pos _ (by decide)
      refine ⟨.int t, rfl, .int t, rfl, t, t, rfl, rfl, .inl ⟨by omega, by omega⟩, .int t, rfl, 40014, t, rfl, rfl, .inl (by decide), _, _, rfl, rfl, _, 2147483587, rfl, rfl, (by show (0 : Int) < 2147483587; decide), ?_⟩
      refine ⟨_, rfl, _, 16, rfl, rfl, ⟨by decide, by decide⟩, .int m, rfl, _, m, rfl, rfl, hm0, ?_⟩
      refine q _ _ (Int.emod_nonneg _ (by omega)) (Int.emod_lt_of_pos _ hm0) ⟨a, b', c + 1, upd_same, by omega, by omega⟩ ?_
      exact But.upd.trans But.upd
end
end Sg
set_option Elab.async false
set_option linter.all false
set_option maxRecDepth 100000
set_option maxHeartbeats 4000000
namespace Sg
open PySem PySem.Spec PyProof.Rows L2
section
variable {P : Program} {w : World} {K : PySem.W.Frag} {mg : Str → Option Value} {base : Heap}
/-! ### is_work, of a work -/
def spIsWork (K : PySem.W.Frag) : Sp := fun vs H Q _ => ∃ (a : Addr) (ns : List Int), vs = [.ref a] ∧ SqT K H a (ns.map V.int) ∧ IsWork ns ∧ ∀ H', Same H H' → Q (.bl true) H'
theorem ok_is_work {f f1 : Addr} {fd fd1 : FuncData} {k : Nat} (F : Fun K "is_work" "is_work" s_is_work f fd) (N : Nums mg)
    (G1 : FnOk P w K mg base CX0 k f1 fd1 ["thing", "least", "most"] spIsBetween) (kp1 : PySem.W.keepIn K (.ref f1) = true) (b1 : Binds K fd1 ["thing", "least", "most"] []) (g1 : mg "is_between" = some (.ref f1))
    (m1 : mg "isinstance" = none) (m2 : mg "tuple" = none) (m3 : mg "len" = none) (m4 : mg "all" = none) :
    FnOk P w K mg base CX0 (k + 1) f fd ["thing"] (spIsWork K) := by
  obtain ⟨t1, n1⟩ := N.nowhere
  obtain ⟨t2, n2⟩ := N.stations
  obtain ⟨t3, n3⟩ := N.most
  refine F.ok sc_is_work (fun vs H Q E h => ?_) (fun cdv A outer s H vs Q E hr h => ?_)
  · obtain ⟨a, ns, rfl, _⟩ := h; rfl
  · obtain ⟨a, ns, rfl, hS, hw, q⟩ := h
    refine ⟨_, pss_cons (ps_if (PW.pt (pw_or (pt_not (pt_val (pe_callB call_isi (by rfl) m1 (by decide +kernel) (pa_cons (pv 0) (pa_cons (pe_bltn (v := .ty "tuple") (by rfl) m2 (by decide +kernel) rfl) pa_nil)))))
          (pw_or1 (pt_not (pt_chain op_le op_le pe_int (pe_callB call_len_seq (by rfl) m3 PySem.boot_len (pa_cons (pv 0) pa_nil)) (pe_glob (v := .int 60) (by rfl) n3 ⟨_, rfl⟩))))))
        (pss_one (ps_ret pe_bl)) pss_nil)
      (pss_cons (ps_if (pt_not (pt_val (pe_callB (cr_all rfl) (by rfl) m4 (by decide +kernel) (pa_cons
          (pe_lc (own := [("item", 1)]) (g := gName 1) (tt := tYes) rfl sc_is_work.nd (pi_tup (pv 0)) (blkOk_by (N := ["thing", "item"]) (sc := defScope s_is_work) (by decide +kernel))
            (fun _ _ _ _ _ => pg_name (i := 1) sc_is_work.nd rfl (Or.inl rfl)) (fun _ _ _ _ _ => pts_nil)
            (fun _ _ _ _ _ => pe_call G1 hr (by rfl) g1 kp1 b1 .nil pass0 (pa_cons (pv 1) (pa_cons (pe_glob (v := .int (-1)) (by rfl) n1 ⟨_, rfl⟩) (pa_cons (pe_op op_sub (pe_glob (v := .int 10) (by rfl) n2 ⟨_, rfl⟩) pe_int) pa_nil))))) pa_nil))))
        (pss_one (ps_ret pe_bl)) pss_nil)
      (pss_one (ps_ret (pe_and (pe_cmpR op_ne (pe_ix ix_tup (pv 0) pe_int (fun _ _ => rfl)) (pe_glob (v := .int (-1)) (by rfl) n1 ⟨_, rfl⟩) (nomark _))
        (pe_one (pe_cmpR op_ne (pe_ix ix_tup (pv 0) (pe_un un_neg pe_int) (fun _ _ => rfl)) (pe_glob (v := .int (-1)) (by rfl) n1 ⟨_, rfl⟩) (nomark _))))))), ?_⟩
    have l1 : ((ns.map V.int).length : Int) = ns.length := by rw [List.length_map]
    refine ⟨.ref a, rfl, .ref a, .ty "tuple", _, _, true, rfl, .ty _, tyT hS, kit_ty (by decide +kernel), true, rfl, iteF ?_⟩
    refine ⟨.ref a, rfl, a, ns.map V.int, rfl, .inr hS, 1, _, rfl, rfl, _, rfl, ?_⟩
    have c1 : decide ((1 : Int) ≤ ((ns.map V.int).length : Nat)) = true := decide_eq_true (by rw [List.length_map]; have := hw.pos; omega)
    rw [c1]
    refine iteT ⟨_, 60, rfl, rfl, _, rfl, ?_⟩
    have c2 : decide ((((ns.map V.int).length : Nat) : Int) ≤ 60) = true := decide_eq_true (by rw [List.length_map]; have := hw.most; omega)
    rw [c2]
    refine iteF ?_
    refine ⟨.ref a, rfl, a, rfl, ⟨_, hS⟩, fun D hD => ?_⟩
    refine lc_tup (xs := ns.map V.int) (fun i H' => Same H H' ∧ H' D = some (.lst ((((ns.take i).map inR)).map V.bl))) ⟨same_new hD, upd_same⟩ (fun i H' _ h => Same.tup h.1 hS) (fun i x H' hx h => ?_) (fun H' h => ?_)
    · rw [List.getElem?_map] at hx
      obtain ⟨z, hz, rfl⟩ := Option.map_eq_some_iff.mp hx
      have hl : i < ns.length := (List.getElem?_eq_some_iff.mp hz).1
      refine ⟨rfl, .int z, rfl, 10, 1, rfl, rfl, z, -1, _, rfl, ?_⟩
      refine ⟨_, h.2, ?_, fun b o e => ?_, ?_⟩
      · rw [List.length_map, List.length_map, List.length_take]
        have := hw.most
        exact small1000 (by omega)
      · rw [upd_ne (ne_of_none e hD)]
        exact h.1 _ _ e
      · rw [upd_same, List.take_add_one, hz, List.map_append, List.map_append]
        rfl
    · have hall : (((ns.take ns.length).map inR)).all id = true := by
        rw [List.take_length, List.all_map, List.all_eq_true]
        intro x hx
        have := hw.items x hx
        simp [inR, this.1, this.2]
      have h2 := h.2
      rw [List.length_map] at h2
      refine ⟨D, _, rfl, .of h2, true, congrArg V.bl hall, iteF ?_⟩
      have hS' : SqT K H' a (ns.map V.int) := Same.tup h.1 hS
      obtain ⟨x, hx⟩ : ∃ x, ns[0]? = some x := ⟨ns[0]'(hw.pos), List.getElem?_eq_getElem _⟩
      have hpos := hw.pos
      obtain ⟨y, hy⟩ : ∃ y, ns[ns.length - 1]? = some y := ⟨ns[ns.length - 1]'(by omega), List.getElem?_eq_getElem _⟩
      have gx : (ns.map V.int)[0]? = some (.int x) := by rw [List.getElem?_map, hx]; rfl
      have gy : atI (ns.map V.int) (-1) = some (.int y) := by
        have hne : ns ≠ [] := fun z => by rw [z] at hpos; exact absurd hpos (by decide)
        have e1 : ns = ns.dropLast ++ [y] := by
          have e2 : ns.getLast hne = y := by
            have := List.getLast_eq_getElem hne
            rw [this]
            exact (List.getElem?_eq_some_iff.mp hy).2
          rw [← e2, List.dropLast_concat_getLast]
        rw [e1, List.map_append]
        exact atI_last _ _
      refine ⟨.ref a, rfl, a, _, 0, .int x, rfl, rfl, hS', atI_nat (j := 0) gx, rfl, ?_⟩
      have d1 : decide (V.int x = V.int (-1)) = false := decide_eq_false fun z => hw.head x hx (V.int.inj z)
      rw [d1]
      refine ⟨true, rfl, iteT ?_⟩
      refine ⟨.ref a, rfl, 1, rfl, a, _, -1, .int y, rfl, rfl, hS', gy, rfl, ?_⟩
      have d2 : decide (V.int y = V.int (-1)) = false := decide_eq_false fun z => hw.last y hy (V.int.inj z)
      rw [d2]
      exact q H' h.1
def spReq (K : PySem.W.Frag) : Sp := fun vs H Q _ => ∃ (a : Addr) (ns : List Int), vs = [.ref a] ∧ SqT K H a (ns.map V.int) ∧ IsWork ns ∧ ∀ H', Same H H' → Q .non H'
theorem ok_require_work {f f1 : Addr} {fd fd1 : FuncData} {k : Nat} (F : Fun K "require_work" "require_work" s_require_work f fd)
    (G1 : FnOk P w K mg base CX0 k f1 fd1 ["thing"] (spIsWork K)) (kp1 : PySem.W.keepIn K (.ref f1) = true) (b1 : Binds K fd1 ["thing"] []) (g1 : mg "is_work" = some (.ref f1)) :
    FnOk P w K mg base CX0 (k + 1) f fd ["thing"] (spReq K) := by
  refine F.ok sc_require_work (fun vs H Q E h => ?_) (fun cdv A outer s H vs Q E hr h => ?_)
  · obtain ⟨a, ns, rfl, _⟩ := h; rfl
  · obtain ⟨a, ns, rfl, hS, hw, q⟩ := h
    refine ⟨_, pss_one (ps_if (pt_not (pt_val (pe_call G1 hr (by rfl) g1 kp1 b1 .nil pass0 (pa_cons (pv 0) pa_nil)))) (pss_one ps_never) pss_nil), ?_⟩
    exact ⟨.ref a, rfl, a, ns, rfl, hS, hw, fun H' sm => ⟨true, rfl, iteF (q H' sm)⟩⟩
/-! ### _clashes_behind -/
def spClash (K : PySem.W.Frag) : Sp := fun vs H Q _ => ∃ (a b : Addr) (one other : List Int) (d : Nat), vs = [.ref a, .ref b, .int d] ∧ SqT K H a (one.map V.int) ∧ SqT K H b (other.map V.int) ∧ one.length ≤ 60 ∧ 1 ≤ d ∧ d < one.length ∧
  ∀ H', Same H H' → Q (.bl (clashB one other d)) H'
theorem ok_clashes_behind {f : Addr} {fd : FuncData} {k : Nat} (F : Fun K "_clashes_behind" "_clashes_behind" s_clashes_behind f fd) (N : Nums mg) (m1 : mg "any" = none) (m2 : mg "zip" = none) :
    FnOk P w K mg base CX0 (k + 1) f fd ["one", "other", "distance"] (spClash K) := by
  obtain ⟨t1, n1⟩ := N.nowhere
  refine F.ok sc_clashes_behind (fun vs H Q E h => ?_) (fun cdv A outer s H vs Q E hr h => ?_)
  · obtain ⟨a, b, o1, o2, d, rfl, _⟩ := h; rfl
  · obtain ⟨a, b, one, other, d, rfl, hA, hB, hm, hd1, hd2, q⟩ := h
    refine ⟨_, pss_one (ps_ret (pe_callB (cr_any rfl) (by rfl) m1 (by decide +kernel) (pa_cons
      (pe_lc (own := [("here", 3), ("there", 4)]) (g := gTup K 2 (gCons (gName 3) (gCons (gName 4) gNil))) (tt := tYes) rfl sc_clashes_behind.nd (RZ.pi_zipA (by rfl) m2 (pa_cons (pe_slice sl_tup (pv 0) (po_some (pv 2)) po_none) (pa_cons (pv 1) pa_nil)))
        (blkOk_by (N := ["one", "other", "distance", "here", "there"]) (sc := defScope s_clashes_behind) (by decide +kernel))
        (fun _ _ _ _ _ => pg_tup rfl (pgs_cons (pg_name (i := 3) sc_clashes_behind.nd rfl (Or.inl rfl)) (pgs_cons (pg_name (i := 4) sc_clashes_behind.nd rfl (Or.inl rfl)) pgs_nil)))
        (fun _ _ _ _ _ => pts_nil)
        (fun _ _ _ _ _ => pe_and (pe_cmpR op_eq (pv 3) (pv 4) (nomark _)) (pe_one (pe_cmpR op_ne (pv 3) (pe_glob (v := .int (-1)) (by rfl) n1 ⟨_, rfl⟩) (nomark _))))) pa_nil))), ?_⟩
    have hcut : cutV (one.map V.int) (some (d : Int)) none = (one.drop d).map V.int := by rw [cut_from, List.map_drop]
    refine ⟨.ref a, rfl, .int d, rfl, d, rfl, a, _, rfl, hA, ?_, fun c nc => ?_⟩
    · rintro ⟨z, _⟩
      rw [HT.sIx_nat, List.length_map] at z
      omega
    rw [hcut]
    have s1 : Same H (upd H c (.tup ((one.drop d).map V.int))) := same_new nc
    refine ⟨.ref b, rfl, c, b, _, _, rfl, .inr ⟨.of upd_same, Same.tup s1 hB, fun D hD => ?_⟩⟩
    have s2 : Same (upd H c (.tup ((one.drop d).map V.int))) (upd (upd H c (.tup ((one.drop d).map V.int))) D (.lst [])) := same_new hD
    have hc0 : (upd H c (.tup ((one.drop d).map V.int))) c = some (.tup ((one.drop d).map V.int)) := upd_same
    refine lc_it (walk_zipT (xs := (one.drop d).map V.int) (ys := other.map V.int) (n := min (one.drop d).length other.length) (by rw [List.length_map, List.length_map]))
      (fun i H' => Same (upd H c (.tup ((one.drop d).map V.int))) H' ∧ H' D = some (.lst ((hitsTo one other d i).map V.bl))) ⟨s2, upd_same⟩
      (fun i H' _ h => ⟨.of (h.1 _ _ hc0), Same.tup (s1.trans h.1) hB⟩) (fun i x H' H'' hi h hY => ?_) (fun H' h => ?_)
    · obtain ⟨T, x1, x2, rfl, nT, rfl, f1, f2⟩ := hY
      dsimp only at f1 f2
      rw [List.getElem?_map] at f1 f2
      obtain ⟨z1, hz1, rfl⟩ := Option.map_eq_some_iff.mp f1
      obtain ⟨z2, hz2, rfl⟩ := Option.map_eq_some_iff.mp f2
      have nTD : D ≠ T := ne_of_none h.2 nT
      refine ⟨T, _, rfl, .of upd_same, rfl, _, _, rfl, _, _, rfl, rfl, rfl, ?_⟩
      have fin : ∀ bb : Bool, bb = (z1 == z2 && z1 != -1) → ∃ acc, (upd H' T (.tup [V.int z1, V.int z2])) D = some (.lst acc) ∧ acc.length < sizeLine ∧
          (Same (upd H c (.tup ((one.drop d).map V.int))) (upd (upd H' T (.tup [V.int z1, V.int z2])) D (.lst (acc ++ [V.bl bb]))) ∧ (upd (upd H' T (.tup [V.int z1, V.int z2])) D (.lst (acc ++ [V.bl bb]))) D = some (.lst ((hitsTo one other d (i + 1)).map V.bl))) := by
        rintro bb rfl
        refine ⟨_, by rw [upd_ne nTD]; exact h.2, ?_, fun y o e => ?_, ?_⟩
        · rw [List.length_map]
          have := hits_len one other d i
          exact small1000 (by rw [List.length_drop] at hi; omega)
        · rw [upd_ne (ne_of_none e hD)]
          exact same_new nT _ _ (h.1 _ _ e)
        · rw [upd_same, hits_succ hz1 hz2, List.map_append]
          rfl
      refine ⟨.int z1, rfl, .int z2, rfl, rfl, ?_⟩
      by_cases hz : z1 = z2
      · subst hz
        rw [decide_eq_true (rfl : V.int z1 = V.int z1)]
        refine ⟨true, rfl, iteT ⟨.int z1, rfl, rfl, ?_⟩⟩
        refine fin _ ?_
        by_cases hn : z1 = -1
        · subst hn; rfl
        · rw [decide_eq_false fun z => hn (V.int.inj z)]
          simp [hn]
      · rw [decide_eq_false fun z => hz (V.int.inj z)]
        refine ⟨false, rfl, iteF (fin _ ?_)⟩
        simp [hz]
    · refine ⟨D, _, rfl, .of h.2, ?_⟩
      rw [hits_any]
      exact q H' (s1.trans h.1)
/-! ### bars -/
def spBars (K : PySem.W.Frag) : Sp := fun vs H Q _ => ∃ (a b : Addr) (one other : List Int), vs = [.ref a, .ref b] ∧ SqT K H a (one.map V.int) ∧ SqT K H b (other.map V.int) ∧ IsWork one ∧ IsWork other ∧
  ∀ H' p, Same H H' → H p = none → H' p = some (.tup (nV (barsN one other))) → Q (.ref p) H'
theorem ok_bars {f f1 f2 : Addr} {fd fd1 fd2 : FuncData} {k : Nat} (F : Fun K "bars" "bars" s_bars f fd)
    (G1 : FnOk P w K mg base CX0 k f1 fd1 ["thing"] (spReq K)) (kp1 : PySem.W.keepIn K (.ref f1) = true) (b1 : Binds K fd1 ["thing"] []) (g1 : mg "require_work" = some (.ref f1))
    (G2 : FnOk P w K mg base CX0 k f2 fd2 ["one", "other", "distance"] (spClash K)) (kp2 : PySem.W.keepIn K (.ref f2) = true) (b2 : Binds K fd2 ["one", "other", "distance"] []) (g2 : mg "_clashes_behind" = some (.ref f2))
    (m1 : mg "tuple" = none) (m2 : mg "range" = none) (m3 : mg "len" = none) :
    FnOk P w K mg base CX0 (k + 1) f fd ["one", "other"] (spBars K) := by
  refine F.ok sc_bars (fun vs H Q E h => ?_) (fun cdv A outer s H vs Q E hr h => ?_)
  · obtain ⟨a, b, o1, o2, rfl, _⟩ := h; rfl
  · obtain ⟨a, b, one, other, rfl, hA, hB, w1, w2, q⟩ := h
    refine ⟨_, pss_cons (ps_expr (pe_call G1 hr (by rfl) g1 kp1 b1 .nil pass0 (pa_cons (pv 0) pa_nil))) (pss_cons (ps_expr (pe_call G1 hr (by rfl) g1 kp1 b1 .nil pass0 (pa_cons (pv 1) pa_nil)))
      (pss_one (ps_ret (pe_callTy call_tuple_of (by rfl) m1 (by decide +kernel) (pa_cons
        (pe_lc (own := [("distance", 2)]) (g := gName 2) rfl sc_bars.nd (pi_range2 (by rfl) m2 (pa_cons pe_int (pa_cons (pe_callB call_len_seq (by rfl) m3 PySem.boot_len (pa_cons (pv 0) pa_nil)) pa_nil)))
          (blkOk_by (N := ["one", "other", "distance"]) (sc := defScope s_bars) (by decide +kernel))
          (fun _ _ _ _ _ => pg_name (i := 2) sc_bars.nd rfl (Or.inl rfl))
          (fun _ _ _ _ _ => pts_one (pt_val (pe_call G2 hr (by rfl) g2 kp2 b2 .nil pass0 (pa_cons (pv 0) (pa_cons (pv 1) (pa_cons (pv 2) pa_nil))))))
          (fun _ _ _ _ _ => pv 2)) pa_nil))))), ?_⟩
    refine ⟨.ref a, rfl, a, one, rfl, hA, w1, fun H1 e1 => ?_⟩
    refine ⟨.ref b, rfl, b, other, rfl, Same.tup e1 hB, w2, fun H2 e2 => ?_⟩
    have e12 : Same H H2 := e1.trans e2
    have hA2 := Same.tup e12 hA
    have hB2 := Same.tup e12 hB
    refine ⟨.ref a, rfl, a, one.map V.int, rfl, .inr hA2, 1, _, rfl, ?_, fun D hD => ?_⟩
    · rw [List.length_map]
      have := w1.most
      omega
    have en : (((one.map V.int).length : Int) - 1).toNat = one.length - 1 := by rw [List.length_map]; omega
    rw [en]
    refine lc_range (lo := 1) (n := one.length - 1) (fun i H' => Same H2 H' ∧ H' D = some (.lst (nV (barsTo one other i)))) ⟨same_new hD, upd_same⟩ (fun i H' hi h => ?_) (fun H' h => ?_)
    · refine ⟨rfl, ?_⟩
      have ed : ((1 : Int) + (i : Int)) = ((1 + i : Nat) : Int) := by omega
      refine ⟨.ref a, rfl, .ref b, rfl, .int (1 + i), rfl, a, b, one, other, 1 + i, by rw [ed]; rfl, Same.tup h.1 hA2, Same.tup h.1 hB2, w1.most, by omega, by omega, fun H'' e3 => ?_⟩
      refine ⟨_, rfl, ?_⟩
      have hD3 := e3 _ _ h.2
      cases hc : clashB one other (1 + i) with
      | true =>
        refine iteT ⟨_, rfl, _, hD3, ?_, fun y o e => ?_, ?_⟩
        · rw [List.length_map]
          have := barsTo_len one other i
          have := w1.most
          exact small1000 (by omega)
        · rw [upd_ne (ne_of_none e hD)]
          exact e3 _ _ (h.1 _ _ e)
        · rw [upd_same, barsTo_yes hc]
      | false =>
        refine iteF ⟨h.1.trans e3, ?_⟩
        rw [barsTo_no hc]
        exact hD3
    · refine ⟨D, _, rfl, .inl ⟨.of h.2, fun l hl => ?_⟩⟩
      have e3 : Same H H' := e12.trans h.1
      exact q _ l (e3.trans (same_new hl)) (Same.free e3 hl) upd_same
end
end Sg
set_option Elab.async false
set_option linter.all false
set_option maxRecDepth 100000
set_option maxHeartbeats 4000000
namespace Sg
open PySem PySem.Spec PyProof.Rows L2
section
variable {P : Program} {w : World} {K : PySem.W.Frag} {mg : Str → Option Value} {base : Heap}
/-! ### len -/
def spLen (K : PySem.W.Frag) (C : Addr) : Sp := fun vs H Q _ => ∃ (a : Addr) (ws : List (List Int)), vs = [.ref a] ∧ LineAt K C H a ws ∧ Q (.int (ws.length : Nat)) H
theorem ok_len {f C : Addr} {fd : FuncData} {k : Nat} (F : Fun K "__len__" "Line.__len__" s_Line_len f fd) (T : LC K mg C) (m1 : mg "len" = none) :
    FnOk P w K mg base CX0 (k + 1) f fd ["self"] (spLen K C) := by
  refine F.ok sc_Line_len (fun vs H Q E h => ?_) (fun cdv A outer s H vs Q E hr h => ?_)
  · obtain ⟨a, ws, rfl, _⟩ := h; rfl
  · obtain ⟨a, ws, rfl, ⟨dx, t, b, r, h1, h2, h3, h4, h5⟩, q⟩ := h
    refine ⟨_, pss_one (ps_ret (pe_callB call_len_seq (by rfl) m1 PySem.boot_len (pa_cons (pe_fld (pv 0) rfl) pa_nil))), ?_⟩
    obtain ⟨t', xs, e, hS, hT⟩ := h2.toTup
    cases e
    refine ⟨.ref a, rfl, a, C, dx, _, _, rfl, h1, T.cl, T.nW, lf_works _ _ _, t, xs, rfl, .inr hS, ?_⟩
    have e := hT.len
    rw [List.length_map] at e
    rw [e]
    exact q
/-! ### is_kind -/
def spIsKind (K : PySem.W.Frag) (C : Addr) : Sp := fun vs H Q _ => ∃ (a : Addr) (ws : List (List Int)) (i : Int), vs = [.ref a, .int i] ∧ LineAt K C H a ws ∧ Q (.bl (decide (0 ≤ i) && decide (i ≤ (ws.length : Nat) - 1))) H
theorem ok_is_kind {f f1 f2 C : Addr} {fd fd1 fd2 : FuncData} {k : Nat} (F : Fun K "is_kind" "is_kind" s_is_kind f fd) (T : LC K mg C) (m1 : mg "len" = none)
    (G1 : FnOk P w K mg base CX0 k f1 fd1 ["thing", "least", "most"] spIsBetween) (kp1 : PySem.W.keepIn K (.ref f1) = true) (b1 : Binds K fd1 ["thing", "least", "most"] []) (g1 : mg "is_between" = some (.ref f1))
    (G2 : FnOk P w K mg base CX0 k f2 fd2 ["self"] (spLen K C)) (b2 : Binds K fd2 ["self"] []) (s2 : PySem.W.findIn K (.ref C) "__len__" = some (some (.ref f2))) (i2 : PySem.W.isFn K (.ref f2) = true) :
    FnOk P w K mg base CX0 (k + 2) f fd ["line", "thing"] (spIsKind K C) := by
  refine F.ok sc_is_kind (fun vs H Q E h => ?_) (fun cdv A outer s H vs Q E hr h => ?_)
  · obtain ⟨a, ws, i, rfl, _⟩ := h; rfl
  · obtain ⟨a, ws, i, rfl, hL, q⟩ := h
    refine ⟨_, pss_one (ps_ret (pe_call G1 (hr.mono (Nat.le_succ k)) (by rfl) g1 kp1 b1 .nil pass0 (pa_cons (pv 1) (pa_cons pe_int (pa_cons (pe_op op_sub (pe_callB (call_lenO G2 hr b2 s2 i2) (by rfl) m1 PySem.boot_len (pa_cons (pv 0) pa_nil)) pe_int) pa_nil))))), ?_⟩
    refine ⟨.int i, rfl, .ref a, rfl, a, rfl, hL.ins, a, ws, rfl, hL, ws.length, rfl, ?_, _, 1, rfl, rfl, i, 0, _, rfl, q⟩
    have := hL.good.few
    omega
def spReqKind (K : PySem.W.Frag) (C : Addr) : Sp := fun vs H Q _ => ∃ (a : Addr) (ws : List (List Int)) (i : Nat), vs = [.ref a, .int i] ∧ LineAt K C H a ws ∧ i < ws.length ∧ Q .non H
theorem ok_require_kind {f f1 C : Addr} {fd fd1 : FuncData} {k : Nat} (F : Fun K "require_kind" "require_kind" s_require_kind f fd)
    (G1 : FnOk P w K mg base CX0 k f1 fd1 ["line", "thing"] (spIsKind K C)) (kp1 : PySem.W.keepIn K (.ref f1) = true) (b1 : Binds K fd1 ["line", "thing"] []) (g1 : mg "is_kind" = some (.ref f1)) :
    FnOk P w K mg base CX0 (k + 1) f fd ["line", "thing"] (spReqKind K C) := by
  refine F.ok sc_require_kind (fun vs H Q E h => ?_) (fun cdv A outer s H vs Q E hr h => ?_)
  · obtain ⟨a, ws, i, rfl, _⟩ := h; rfl
  · obtain ⟨a, ws, i, rfl, hL, hi, q⟩ := h
    refine ⟨_, pss_one (ps_if (pt_not (pt_val (pe_call G1 hr (by rfl) g1 kp1 b1 .nil pass0 (pa_cons (pv 0) (pa_cons (pv 1) pa_nil))))) (pss_one ps_never) pss_nil), ?_⟩
    refine ⟨.ref a, rfl, .int i, rfl, a, ws, i, rfl, hL, ?_⟩
    rw [decide_eq_true (show (0 : Int) ≤ i by omega), decide_eq_true (show (i : Int) ≤ (ws.length : Nat) - 1 by omega)]
    exact ⟨true, rfl, iteF q⟩
/-! ### _bars_of_all -/
def spBarsAll (K : PySem.W.Frag) : Sp := fun vs H Q _ => ∃ (a : Addr) (ws : List (List Int)), vs = [.ref a] ∧ Tp K H (.ref a) (.tuple (tDs ws)) ∧ GoodL ws ∧
  ∀ H' p, Same H H' → Tp K H' (.ref p) (.tuple (barD ws)) → Q (.ref p) H'
theorem ok_bars_of_all {f f1 : Addr} {fd fd1 : FuncData} {k : Nat} (F : Fun K "_bars_of_all" "_bars_of_all" s_bars_of_all f fd) (m1 : mg "tuple" = none)
    (G1 : FnOk P w K mg base CX0 k f1 fd1 ["one", "other"] (spBars K)) (kp1 : PySem.W.keepIn K (.ref f1) = true) (b1 : Binds K fd1 ["one", "other"] []) (g1 : mg "bars" = some (.ref f1)) :
    FnOk P w K mg base CX0 (k + 1) f fd ["works"] (spBarsAll K) := by
  refine F.ok sc_bars_of_all (fun vs H Q E h => ?_) (fun cdv A outer s H vs Q E hr h => ?_)
  · obtain ⟨a, ws, rfl, _⟩ := h; rfl
  · obtain ⟨a, ws, rfl, hW, hg, q⟩ := h
    refine ⟨_, pss_one (ps_ret (pe_callTy call_tuple_of (by rfl) m1 (by decide +kernel) (pa_cons
      (pe_lc (own := [("one", 2)]) (g := gName 2) (tt := tYes) rfl sc_bars_of_all.nd (pi_tup (pv 0)) (blkOk_by (N := ["works", "other", "one"]) (sc := defScope s_bars_of_all) (by decide +kernel))
        (fun _ _ _ _ _ => pg_name (i := 2) sc_bars_of_all.nd rfl (Or.inr rfl)) (fun _ _ _ _ _ => pts_nil)
        (fun s' H' C' cl fp => pe_callTy (call_tuple_ofK (K := K) rfl) (by rfl) m1 (by decide +kernel) (pa_cons
          (pe_lc (own := [("other", 1)]) (g := gName 1) (tt := tYes) rfl sc_bars_of_all.nd (pi_tupK (K := K) rfl (pv 0)) (blkOk_by (by rfl))
            (fun _ _ _ _ _ => pg_name (i := 1) sc_bars_of_all.nd rfl (Or.inl rfl)) (fun _ _ _ _ _ => pts_nil)
            (fun _ _ _ _ _ => pe_call G1 hr (by rfl) g1 kp1 b1 .nil pass0 (pa_cons (pv 2) (pa_cons (pv 1) pa_nil)))) pa_nil))) pa_nil))), ?_⟩
    obtain ⟨a', xs, ea, hS, hT⟩ := hW.toTup
    cases ea
    have hlen := hT.len
    rw [List.length_map] at hlen
    refine ⟨.ref a, rfl, a, rfl, ⟨_, hS⟩, fun D hD => ?_⟩
    refine lc_tup (xs := xs) (fun i H' => Grow K H D (barD ws) i H') (.zero hD) (fun i H' _ h => Same.tup h.1 hS) (fun i x H' hx h => ?_) (fun H' h => ?_)
    · obtain ⟨o, c1, ho, rfl, hc1⟩ := hT.works hx
      have fewr : (ws.map (cellD o)).length ≤ 1000 := by
        have := hg.few
        rw [List.length_map]
        omega
      refine ⟨rfl, ?_⟩
      refine ⟨.ref a, rfl, a, rfl, ⟨_, Same.tup h.1 hS⟩, fun D2 hD2 => ?_⟩
      refine lc_tup (xs := xs) (fun j H2 => Grow K H' D2 (ws.map (cellD o)) j H2) (.zero hD2) (fun i H2 _ h2 => Same.tup (h.1.trans h2.1) hS) (fun j y H2 hy h2 => ?_) (fun H2 h2 => ?_)
      · obtain ⟨o2, c2, ho2, rfl, hc2⟩ := hT.works hy
        refine ⟨rfl, .ref c1, rfl, .ref c2, rfl, c1, c2, o, o2, rfl, Same.tup (h.1.trans h2.1) hc1, Same.tup (h.1.trans h2.1) hc2, hg.mem ho, hg.mem ho2, fun H3 p e3 np hp => ?_⟩
        refine h2.next hD2 fewr e3 (by rw [List.getElem?_map, ho2]; rfl) (.ofInts ?_)
        rw [← nV_eq]
        exact .of hp
      · obtain ⟨e2, acc, g1, g2⟩ := h2.done (by rw [List.length_map, hlen])
        refine ⟨D2, acc, rfl, .inl ⟨.of g1, fun l nl => ?_⟩⟩
        exact h.next hD hg.lt (e2.trans (same_new nl)) (by rw [List.getElem?_map, ho]; rfl) (.new nl g2)
    · obtain ⟨e2, acc, g1, g2⟩ := h.done (by rw [List.length_map, hlen])
      exact ⟨D, acc, rfl, .inl ⟨.of g1, fun l nl => q _ l (e2.trans (same_new nl)) (.new nl g2)⟩⟩
end
end Sg
set_option Elab.async false
set_option linter.all false
set_option maxRecDepth 100000
set_option maxHeartbeats 4000000
namespace Sg
open PySem PySem.Spec PyProof.Rows L2 StX
/-! ## the bars of a line, flat -/
theorem flatL_of {K : PySem.W.Frag} {H : Hp} {a : List Int} : ∀ {cells : List V} {ws : List (List Int)}, TpAll K H cells (ws.map (cellD a)) → FlatL K H cells ((rowB a ws).map V.int)
  | _, [], .no => .nil
  | _, b :: ws, .on t r => by
    obtain ⟨c, rfl, hs⟩ := t.toInts
    show FlatL K H _ ((nI (barsN a b) ++ rowB a ws).map V.int)
    rw [List.map_append]
    exact .cons hs (flatL_of r)
theorem flatR_of {K : PySem.W.Frag} {H : Hp} {vs : List (List Int)} : ∀ {rows : List V} {ws : List (List Int)}, TpAll K H rows (ws.map fun a => rowD a vs) → FlatR K H rows ((allB ws vs).map V.int)
  | _, [], .no => .nil
  | _, b :: ws, .on t r => by
    obtain ⟨c, xs, rfl, hs, ht⟩ := t.toTup
    show FlatR K H _ ((rowB b vs ++ allB ws vs).map V.int)
    rw [List.map_append]
    exact .cons hs (flatL_of ht) (flatR_of r)
theorem bars_le {a b : List Int} (h : IsWork a) : (nI (barsN a b)).length ≤ 60 := by
  rw [List.length_map]
  have := h.most
  exact Nat.le_trans (barsTo_len a b (a.length - 1)) (by omega)
theorem rowB_len {a : List Int} (h : IsWork a) : ∀ (ws : List (List Int)), (rowB a ws).length ≤ 60 * ws.length
  | [] => Nat.le_refl _
  | b :: ws => by
    show (nI (barsN a b) ++ rowB a ws).length ≤ _
    rw [List.length_append, List.length_cons]
    have := bars_le h (b := b)
    have := rowB_len h ws
    omega
theorem allB_len {vs : List (List Int)} : ∀ (ws : List (List Int)), (∀ w ∈ ws, IsWork w) → (allB ws vs).length ≤ 60 * vs.length * ws.length
  | [], _ => Nat.zero_le _
  | b :: ws, h => by
    show (rowB b vs ++ allB ws vs).length ≤ _
    rw [List.length_append, List.length_cons, Nat.mul_succ]
    have := rowB_len (h b List.mem_cons_self) vs
    have := allB_len (vs := vs) ws fun w hw => h w (List.mem_cons_of_mem _ hw)
    omega
theorem mem_allB {ws vs : List (List Int)} {x : Int} : x ∈ allB ws vs ↔ ∃ a ∈ ws, ∃ b ∈ vs, x ∈ nI (barsN a b) := by
  unfold allB rowB
  simp only [List.mem_flatMap]
theorem bar_pos {a b : List Int} {x : Int} (h : x ∈ nI (barsN a b)) : 1 ≤ x := by
  obtain ⟨d, hd, rfl⟩ := List.mem_map.mp h
  have := (List.mem_range'_1.mp (List.mem_filter.mp hd).1).1
  omega
theorem top_of {l : List Int} {m : Int} (hp : ∀ x ∈ l, 1 ≤ x) (h0 : l = [] → m = 0) (h1 : l ≠ [] → m ∈ l ∧ ∀ x ∈ l, x ≤ m) : Top l m := by
  by_cases z : l = []
  · have e := h0 z
    subst z
    exact ⟨by omega, fun x hx => (nomatch hx), .inl e⟩
  · obtain ⟨g1, g2⟩ := h1 z
    exact ⟨by have := hp _ g1; omega, g2, .inr g1⟩
section
variable {P : Program} {w : World} {K : PySem.W.Frag} {mg : Str → Option Value} {base : Heap}
/-! ### __init__ -/
def spInit (K : PySem.W.Frag) (C : Addr) : Sp := fun vs H Q _ => ∃ (x dx : Addr) (rest : List V) (ws : List (List Int)), vs = .ref x :: rest ∧ H x = some (.ins C dx []) ∧ TpAll K H rest (tDs ws) ∧ GoodL ws ∧
  ∀ H', (∀ b o, H b = some o → b ≠ x → H' b = some o) → LineAt K C H' x ws → Q .non H'
theorem ok_init {f f1 f2 C : Addr} {fd fd1 fd2 : FuncData} {k : Nat} (F : Fun K "__init__" "Line.__init__" s_Line_init f fd) (T : LC K mg C) (hM : ∃ t, mg "MOST_WORKS" = some (.int 3 t))
    (G1 : FnOk P w K mg base CX0 k f1 fd1 ["thing"] (spIsWork K)) (kp1 : PySem.W.keepIn K (.ref f1) = true) (b1 : Binds K fd1 ["thing"] []) (g1 : mg "is_work" = some (.ref f1))
    (G2 : FnOk P w K mg base CX0 k f2 fd2 ["works"] (spBarsAll K)) (kp2 : PySem.W.keepIn K (.ref f2) = true) (b2 : Binds K fd2 ["works"] []) (g2 : mg "_bars_of_all" = some (.ref f2))
    (m1 : mg "all" = none) (m2 : mg "len" = none) (m3 : mg "max" = none) : FnR P w K mg base CX0 (k + 1) f (spInit K C) := by
  obtain ⟨tM, nM⟩ := hM
  obtain ⟨oc, od, kV, doc, pm, an, cdv, ct, osl, rfl, lk, hcd⟩ := F.ex
  have R := fn_star (CX := CX0) (P := P) (w := w) (mg := mg) (base := base) (k := k) (ps := ["self"]) (pv := "works") (sp := fun vs H Q _ => ∃ (x dx p : Addr) (rest : List V) (ws : List (List Int)), vs = [.ref x, .ref p] ∧ H x = some (.ins C dx []) ∧ H p = some (.tup rest) ∧ TpAll K H rest (tDs ws) ∧ GoodL ws ∧
    ∀ H', (∀ b o, H b = some o → b ≠ x → H' b = some o) → LineAt K C H' x ws → Q .non H') lk hcd sc_Line_init cxUp_none (bind_star1 (B := fun us => bindArgs (PySem.W.fnOf "__init__" "Line.__init__" (defArgs s_Line_init) (defBody s_Line_init) (defScope s_Line_init) .none kV doc pm an cdv ct) ⟨us, []⟩) (fun _ => rfl) (fun _ _ _ => rfl)) ?_
  · refine R.imp fun vs H Q E h => ?_
    obtain ⟨x, dx, rest, ws, rfl, hx, hT, hg, q⟩ := h
    have hl := hT.len
    have := hg.few
    rw [List.length_map] at hl
    refine ⟨[.ref x], rest, rfl, rfl, Nat.le_of_lt (small1000 (by omega)), fun p np => ⟨x, dx, p, rest, ws, rfl, same_new np _ _ hx, upd_same, hT.stay (.of (same_new np)), hg, fun H' hk hL => q H' (fun b o e hb => hk b o (same_new np _ _ e) hb) hL⟩⟩
  · intro A outer s H vs Q E hr h
    obtain ⟨x, dx, p, rest, ws, rfl, hx, hp, hT, hg, q⟩ := h
    refine ⟨_, pss_cons (ps_if (PW.pt (pw_or (pt_not (pt_truth (pv 1) (fun _ => rfl))) (pw_or1 (pt_not (pt_val (pe_callB (cr_all rfl) (by rfl) m1 (by decide +kernel) (pa_cons
        (pe_lc (own := [("work", 2)]) (g := gName 2) (tt := tYes) rfl sc_Line_init.nd (pi_tup (pv 1)) (blkOk_by (N := ["self", "works", "work", "row", "pair", "bar"]) (sc := defScope s_Line_init) (by decide +kernel))
          (fun _ _ _ _ _ => pg_name (i := 2) sc_Line_init.nd rfl (Or.inl rfl)) (fun _ _ _ _ _ => pts_nil)
          (fun _ _ _ _ _ => pe_call G1 hr (by rfl) g1 kp1 b1 .nil pass0 (pa_cons (pv 2) pa_nil))) pa_nil))))))) (pss_one ps_never) pss_nil)
      (pss_cons (ps_if (pt_cmpR op_gt (pe_callB call_len_seq (by rfl) m2 PySem.boot_len (pa_cons (pv 1) pa_nil)) (pe_glob (v := .int 3) (by rfl) nM ⟨_, rfl⟩) (nomark _)) (pss_one ps_never) pss_nil)
      (pss_cons (ps_fld (pv 0) (pv 1) rfl)
      (pss_cons (ps_fld (pv 0) (pe_call G2 hr (by rfl) g2 kp2 b2 .nil pass0 (pa_cons (pv 1) pa_nil)) rfl)
      (pss_one (ps_fld (pv 0) (pe_callBK (cr_maxD rfl hr) (by rfl) m3 (by decide +kernel) (pa_cons (pe_flat (k1 := 3) (k2 := 4) (k3 := 5) (own := [("row", 3), ("pair", 4), ("bar", 5)]) rfl sc_Line_init.nd (pe_fld (pv 0) rfl)
          (blkOk_by (N := ["self", "works", "work", "row", "pair", "bar"]) (sc := defScope s_Line_init) (by decide +kernel)) rfl rfl rfl (fun _ _ => rfl) (fun _ _ => rfl) (fun _ _ => rfl)) pa_nil) (pk_cons pe_int pk_nil)) rfl))))), ?_⟩
    have hl := hT.len
    rw [List.length_map] at hl
    have hp' : SqT K H p rest := .of hp
    have hemp : (!rest.isEmpty) = true := by
      have := hg.least
      cases rest with
      | nil => rw [← hl] at this; exact absurd this (by decide)
      | cons => rfl
    refine ⟨.ref p, rfl, !rest.isEmpty, .inr (.inl ⟨rest, hp', rfl⟩), ?_⟩
    rw [hemp]
    refine iteF ?_
    refine ⟨.ref p, rfl, p, rfl, ⟨_, hp'⟩, fun D hD => ?_⟩
    refine lc_tup (xs := rest) (fun i H' => Same H H' ∧ H' D = some (.lst (((List.replicate i true)).map V.bl))) ⟨same_new hD, upd_same⟩ (fun i H' _ h => Same.tup h.1 hp') (fun i y H' hy h => ?_) (fun H' h => ?_)
    · obtain ⟨w1, c, hw, rfl, hc⟩ := hT.works hy
      refine ⟨rfl, .ref c, rfl, c, w1, rfl, Same.tup h.1 hc, hg.mem hw, fun H2 e2 => ?_⟩
      refine ⟨_, e2 _ _ h.2, ?_, fun b o e => ?_, ?_⟩
      · rw [List.length_map, List.length_replicate]
        have := hg.few
        have := (List.getElem?_eq_some_iff.mp hw).1
        exact small1000 (by omega)
      · rw [upd_ne (ne_of_none e hD)]
        exact e2 _ _ (h.1 _ _ e)
      · rw [upd_same, List.replicate_succ', List.map_append]
        rfl
    · have hall : (List.replicate rest.length true).all id = true := by simp
      refine ⟨D, _, rfl, .of h.2, true, congrArg V.bl hall, iteF ?_⟩
      have hpH : SqT K H' p rest := Same.tup h.1 hp'
      refine ⟨.ref p, rfl, p, rest, rfl, .inr hpH, _, 3, rfl, rfl, _, rfl, ?_⟩
      have c3 : decide ((((rest.length : Nat) : Int)) > 3) = false := decide_eq_false (by have := hg.few; omega)
      rw [c3]
      refine iteF ?_
      have hx1 := h.1 _ _ hx
      refine ⟨.ref p, rfl, .ref x, rfl, x, C, dx, [], rfl, hx1, T.cl, T.nW, (by show 0 < 1000; decide), ?_⟩
      have hW1 : Tp K H' (.ref p) (.tuple (tDs ws)) := .tu hpH (hT.stay (.of h.1))
      have hW2 := hW1.stayT (tu_ins hx1 (o := .ins C dx (putF "_works" (.ref p) [])))
      generalize hH2 : upd H' x (.ins C dx (putF "_works" (.ref p) [])) = H2 at hW2 ⊢
      have hx2 : H2 x = some (.ins C dx (putF "_works" (.ref p) [])) := by rw [← hH2]; exact upd_same
      refine ⟨.ref p, rfl, p, ws, rfl, hW2, hg, fun H3 b e3 hb => ?_⟩
      have hx3 := e3 _ _ hx2
      refine ⟨.ref x, rfl, x, C, dx, _, rfl, hx3, T.cl, T.nB, (by show 1 < 1000; decide), ?_⟩
      have hW4 := (hW2.stay (.of e3)).stayT (tu_ins hx3 (o := .ins C dx (putF "_bars" (.ref b) (putF "_works" (.ref p) []))))
      have hB4 := hb.stayT (tu_ins hx3 (o := .ins C dx (putF "_bars" (.ref b) (putF "_works" (.ref p) []))))
      generalize hH4 : upd H3 x (.ins C dx (putF "_bars" (.ref b) (putF "_works" (.ref p) []))) = H4 at hW4 hB4 ⊢
      have hx4 : H4 x = some (.ins C dx (putF "_bars" (.ref b) (putF "_works" (.ref p) []))) := by rw [← hH4]; exact upd_same
      obtain ⟨b', rows, eb, hbS, hbT⟩ := hB4.toTup
      cases eb
      have lb : (putF "_bars" (.ref b) (putF "_works" (.ref p) [])).lookup ("_bars" : Str) = some (.ref b) := by rw [lookup_putF, if_pos rfl]
      have lenB : ((allB ws ws).map V.int).length ≤ 1000000 := by
        rw [List.length_map]
        have z := allB_len (vs := ws) ws hg.work
        have := hg.few
        have z2 : 60 * ws.length * ws.length ≤ 60 * 3 * 3 := Nat.mul_le_mul (Nat.mul_le_mul (Nat.le_refl _) this) this
        omega
      refine ⟨.ref x, rfl, x, C, dx, _, _, rfl, hx4, T.cl, T.nB, lb, b, rows, _, rfl, hbS, flatR_of hbT, lenB, fun D2 nD2 => ?_⟩
      have s5 : Same H4 (upd H4 D2 (.lst ((allB ws ws).map V.int))) := same_new nD2
      refine ⟨D2, allB ws ws, 0, rfl, rfl, .of upd_same, fun m h0 h1 => ?_⟩
      have hx5 := s5 _ _ hx4
      refine ⟨.ref x, rfl, x, C, dx, _, rfl, hx5, T.cl, T.nR, (by show 2 < 1000; decide), ?_⟩
      have hW6 := (hW4.stay (.of s5)).stayT (tu_ins hx5 (o := .ins C dx (lf p b m)))
      have hB6 := (hB4.stay (.of s5)).stayT (tu_ins hx5 (o := .ins C dx (lf p b m)))
      refine q _ (fun c o e hc => ?_) ⟨dx, p, b, m, upd_same, hW6, hB6, top_of (fun y hy => ?_) h0 h1, hg⟩
      · rw [upd_ne hc]
        refine s5 _ _ ?_
        rw [← hH4, upd_ne hc]
        refine e3 _ _ ?_
        rw [← hH2, upd_ne hc]
        exact h.1 _ _ e
      · obtain ⟨_, _, _, _, z⟩ := mem_allB.mp hy
        exact bar_pos z
end
end Sg
set_option Elab.async false
set_option linter.all false
set_option maxRecDepth 100000
set_option maxHeartbeats 4000000
namespace Sg
open PySem PySem.Spec PyProof.Rows L2 StX
/-! ## a Line is made -/
theorem make_line {K : PySem.W.Frag} {C : Addr} {H1 : Hp} {vs : List V} {ws : List (List Int)} {Q : VK} (hT : TpAll K H1 vs (tDs ws)) (hg : GoodL ws)
    (q : ∀ H' a, Same H1 H' → H1 a = none → LineAt K C H' a ws → Q (.ref a) H') :
    ∀ x dx, H1 x = none → H1 dx = none → dx ≠ x → spInit K C (V.ref x :: vs) (upd (upd H1 dx (.own x)) x (.ins C dx [])) (fun v H2 => v = .non ∧ Q (.ref x) H2) E0 := by
  intro x dx nx ndx ne
  have s0 : Same H1 (upd (upd H1 dx (.own x)) x (.ins C dx [])) := fun b o e => by
    rw [upd_ne (ne_of_none e nx), upd_ne (ne_of_none e ndx)]
    exact e
  exact ⟨x, dx, vs, ws, rfl, upd_same, hT.stay (.of s0), hg, fun H' hk hL => ⟨rfl, q H' x (fun b o e => hk b o (s0 b o e) (ne_of_none e nx)) nx hL⟩⟩
/-- C(*e) -/
theorem pe_makeS {X : Cx} {CX : CXT} {k : Nat} {f C : Addr} {sp : Sp} {E : XK} {x : Str} {e : Expr} {te : TE} {p pos sp_ : Pos} (M : Mk X.K C f) (F : FnR X.prog X.w X.K X.mg X.base CX k f sp) (hr : Room (k + 1) X.A)
    (hg : Gl X x) (hm : X.mg x = some (.ref C)) (hx : Passes CX X E) (he : PE X e te) (hd : (x == ("__debug__" : Str)) = false := by decide) (hst : starEach [.Starred e sp_] X.env = [(true, eval e X.env)] := by rfl) :
    PE X (.Call (.Name x p) [.Starred e sp_] [] pos) (fun σ H Q => te σ H fun y H1 => ∃ a xs, y = V.ref a ∧ (SqT X.K H1 a xs ∨ SqL X.K H1 a xs) ∧
      ∀ z dz, H1 z = none → H1 dz = none → dz ≠ z → sp (V.ref z :: xs) (upd (upd H1 dz (.own z)) z (.ins C dz [])) (fun v H2 => v = .non ∧ Q (.ref z) H2) E) := by
  refine ⟨fun pins s σ H Q I h => wpAny_Call_Name_kw (ld_glob I hg hm ?_ hd)⟩
  refine PySem.W.callWith_S (h₀ := X.base) I.ok.mod.kin M.kp (thn (he.run pins s σ H _ I h) fun v s1 ⟨y, H1, I1, ry, a, xs, ey, hxs, q⟩ => ?_) hst
  subst ey
  obtain rfl : v = Value.ref a := ry
  exact star_any I1 hxs fun us s2 I2 rv => ⟨I2.kIn, run_makeR M F hr hx I2 rv q⟩
theorem GoodL.back {ws : List (List Int)} (h : GoodL ws) : GoodL (ws.map List.reverse) := by
  refine ⟨by rw [List.length_map]; exact h.least, by rw [List.length_map]; exact h.few, fun w hw => ?_⟩
  obtain ⟨v, hv, rfl⟩ := List.mem_map.mp hw
  have i := h.work v hv
  refine ⟨by rw [List.length_reverse]; exact i.pos, by rw [List.length_reverse]; exact i.most, fun x hx => i.items x (List.mem_reverse.mp hx), fun x hx => ?_, fun x hx => ?_⟩
  · have := i.pos
    rw [List.getElem?_reverse (by omega)] at hx
    exact i.last x (by rw [← hx]; congr 1)
  · have := i.pos
    rw [List.length_reverse, List.getElem?_reverse (by omega)] at hx
    exact i.head x (by rw [← hx]; congr 1; omega)
theorem cut_upto (xs : List V) (d : Nat) : cutV xs none (some (d : Int)) = xs.take d := by
  unfold cutV
  rw [HT.sIx_nat, HT.sIx_none, List.drop_zero, Nat.sub_zero]
  rcases Nat.le_total d xs.length with h | h
  · rw [Nat.min_eq_left h]
  · rw [Nat.min_eq_right h, List.take_of_length_le h, List.take_length]
end Sg
set_option Elab.async false
set_option linter.all false
set_option maxRecDepth 100000
set_option maxHeartbeats 4000000
namespace Sg
open PySem PySem.Spec PyProof.Rows L2 StX
/-- what isinstance asks of the class -/
structure LI (K : PySem.W.Frag) (C : Addr) : Prop where
  ha : PySem.W.findIn K (.ref C) "__class__" = some (some (.builtin "object.__class__"))
  hn : PySem.W.specialIn K (.builtin "object.__class__") "__get__" = some (some (.builtin "getset_descriptor.__get__"))
  ht : PySem.W.takesIn K (.builtin "object.__class__") = some true
  hm : PySem.W.mroIn K C (.type "object") = some true
  kit : PySem.W.kitOne K (.ref C) (.ref C) = some true
section
variable {P : Program} {w : World} {K : PySem.W.Frag} {mg : Str → Option Value} {base : Heap}
theorem isLine {C a : Addr} {H : Hp} {ws : List (List Int)} (c : Cls K C) (T : LI K C) (h : LineAt K C H a ws) : TyX K H (.ref a) (.ref C) := by
  obtain ⟨dx, t, b, r, h1, _⟩ := h
  exact .base (.ins h1 c T.ha T.hn T.ht T.hm)
/-! ### line(one, other) -/
def spCall (K : PySem.W.Frag) (C : Addr) : Sp := fun vs H Q _ => ∃ (a : Addr) (ws : List (List Int)) (i j : Nat) (x y : List Int), vs = [.ref a, .int i, .int j] ∧ LineAt K C H a ws ∧ ws[i]? = some x ∧ ws[j]? = some y ∧
  ∀ c, SqT K H c (nV (barsN x y)) → Q (.ref c) H
theorem ok_call {f f1 C : Addr} {fd fd1 : FuncData} {k : Nat} (F : Fun K "__call__" "Line.__call__" s_Line_call f fd) (T : LC K mg C)
    (G1 : FnOk P w K mg base CX0 k f1 fd1 ["line", "thing"] (spReqKind K C)) (kp1 : PySem.W.keepIn K (.ref f1) = true) (b1 : Binds K fd1 ["line", "thing"] []) (g1 : mg "require_kind" = some (.ref f1)) :
    FnOk P w K mg base CX0 (k + 1) f fd ["self", "one", "other"] (spCall K C) := by
  refine F.ok sc_Line_call (fun vs H Q E h => ?_) (fun cdv A outer s H vs Q E hr h => ?_)
  · obtain ⟨a, ws, i, j, x, y, rfl, _⟩ := h; rfl
  · obtain ⟨a, ws, i, j, x, y, rfl, hL, hx, hy, q⟩ := h
    refine ⟨_, pss_cons (ps_expr (pe_call G1 hr (by rfl) g1 kp1 b1 .nil pass0 (pa_cons (pv 0) (pa_cons (pv 1) pa_nil))))
      (pss_cons (ps_expr (pe_call G1 hr (by rfl) g1 kp1 b1 .nil pass0 (pa_cons (pv 0) (pa_cons (pv 2) pa_nil))))
      (pss_one (ps_ret (pe_ix ix_tup (pe_ix ix_tup (pe_fld (pv 0) rfl) (pv 1) (fun _ _ => rfl)) (pv 2) (fun _ _ => rfl))))), ?_⟩
    have hi := (List.getElem?_eq_some_iff.mp hx).1
    have hj := (List.getElem?_eq_some_iff.mp hy).1
    refine ⟨.ref a, rfl, .int i, rfl, a, ws, i, rfl, hL, hi, .ref a, rfl, .int j, rfl, a, ws, j, rfl, hL, hj, ?_⟩
    obtain ⟨dx, t, b, r, h1, h2, h3, h4, h5⟩ := hL
    obtain ⟨b', rows, eb, hS, hT⟩ := h3.toTup
    cases eb
    have lr := hT.len
    rw [List.length_map] at lr
    obtain ⟨ro, hro⟩ : ∃ ro, rows[i]? = some ro := ⟨rows[i]'(by omega), List.getElem?_eq_getElem _⟩
    obtain ⟨d, hd, tr⟩ := hT.at hro
    rw [List.getElem?_map, hx] at hd
    cases hd
    obtain ⟨b2, cells, rfl, hS2, hT2⟩ := tr.toTup
    have lc := hT2.len
    rw [List.length_map] at lc
    obtain ⟨ce, hce⟩ : ∃ ce, cells[j]? = some ce := ⟨cells[j]'(by omega), List.getElem?_eq_getElem _⟩
    obtain ⟨d, hd, tc⟩ := hT2.at hce
    rw [List.getElem?_map, hy] at hd
    cases hd
    obtain ⟨c, rfl, hc⟩ := tc.toInts
    refine ⟨.ref a, rfl, a, C, dx, _, _, rfl, h1, T.cl, T.nB, lf_bars _ _ _, .int i, rfl, b, rows, i, .ref b2, rfl, rfl, hS, atI_nat hro, ?_⟩
    refine ⟨.int j, rfl, b2, cells, j, .ref c, rfl, rfl, hS2, atI_nat hce, q c ?_⟩
    rw [nV_eq]
    exact hc
/-! ### one == other -/
def spEq (K : PySem.W.Frag) (C : Addr) : Sp := fun vs H Q _ => ∃ (a b : Addr) (ws us : List (List Int)), vs = [.ref a, .ref b] ∧ LineAt K C H a ws ∧ LineAt K C H b us ∧ Q (.bl (decide (ws = us))) H
theorem ok_eq {f C : Addr} {fd : FuncData} {k : Nat} (F : Fun K "__eq__" "Line.__eq__" s_Line_eq f fd) (T : LC K mg C) (I : LI K C) (m1 : mg "isinstance" = none) :
    FnOk P w K mg base CX0 (k + 1) f fd ["self", "other"] (spEq K C) := by
  refine F.ok sc_Line_eq (fun vs H Q E h => ?_) (fun cdv A outer s H vs Q E hr h => ?_)
  · obtain ⟨a, b, ws, us, rfl, _⟩ := h; rfl
  · obtain ⟨a, b, ws, us, rfl, hL, hR, q⟩ := h
    have hu := hr.units
    refine ⟨_, pss_one (ps_ret (pe_and (pe_callB call_isi (by rfl) m1 (by decide +kernel) (pa_cons (pv 1) (pa_cons (pe_glob (v := .ref C) (by rfl) T.mgC rfl) pa_nil)))
      (pe_one (pe_cmpR (op_eqD hu) (pe_fld (pv 0) rfl) (pe_fld (pv 1) rfl) (nomark _))))), ?_⟩
    refine ⟨.ref b, rfl, .ref b, .ref C, .ref C, .ref C, true, rfl, .own C, isLine T.cl I hR, I.kit, ?_⟩
    obtain ⟨dx, t, b1, r, h1, h2, h3, h4, h5⟩ := hL
    obtain ⟨dx', t', b1', r', h1', h2', h3', h4', h5'⟩ := hR
    refine ⟨true, rfl, iteT ?_⟩
    refine ⟨.ref a, rfl, a, C, dx, _, _, rfl, h1, T.cl, T.nW, lf_works _ _ _, .ref b, rfl, b, C, dx', _, _, rfl, h1', T.cl, T.nW, lf_works _ _ _, _, _, h2.dp, h2'.dp, shaped_tDs _, shaped_tDs _, ?_⟩
    rw [show PyData.eqv (.tuple (tDs ws)) (.tuple (tDs us)) = decide (ws = us) from by rw [PyData.eqv, eqv_tDs]]
    exact q
end
end Sg
set_option Elab.async false
set_option linter.all false
set_option maxRecDepth 100000
set_option maxHeartbeats 4000000
namespace Sg
open PySem PySem.Spec PyProof.Rows L2 StX
section
variable {P : Program} {w : World} {K : PySem.W.Frag} {mg : Str → Option Value} {base : Heap}
theorem GoodL.plus {ws us : List (List Int)} (h : GoodL ws) (g : GoodL us) (hl : ws.length + us.length ≤ 3) : GoodL (ws ++ us) := by
  refine ⟨by have := h.least; rw [List.length_append]; omega, by rw [List.length_append]; exact hl, fun w hw => ?_⟩
  rcases List.mem_append.mp hw with z | z
  · exact h.work w z
  · exact g.work w z
theorem GoodL.less {ws : List (List Int)} (h : GoodL ws) {i : Nat} (hi : i < ws.length) (h2 : 2 ≤ ws.length) : GoodL (ws.take i ++ ws.drop (i + 1)) := by
  have := h.few
  refine ⟨by rw [List.length_append, List.length_take, List.length_drop]; omega, by rw [List.length_append, List.length_take, List.length_drop]; omega, fun w hw => ?_⟩
  rcases List.mem_append.mp hw with z | z
  · exact h.work w (List.mem_of_mem_take z)
  · exact h.work w (List.mem_of_mem_drop z)
/-! ### one + other -/
def spAdd (K : PySem.W.Frag) (C : Addr) : Sp := fun vs H Q _ => ∃ (a b : Addr) (ws us : List (List Int)), vs = [.ref a, .ref b] ∧ LineAt K C H a ws ∧ LineAt K C H b us ∧ ws.length + us.length ≤ 3 ∧
  ∀ H' x, Same H H' → H x = none → LineAt K C H' x (ws ++ us) → Q (.ref x) H'
theorem ok_add {f f1 C : Addr} {fd : FuncData} {k : Nat} (F : Fun K "__add__" "Line.__add__" s_Line_add f fd) (T : LC K mg C) (I : LI K C) (M : Mk K C f1) (G : FnR P w K mg base CX0 k f1 (spInit K C)) (m1 : mg "isinstance" = none) :
    FnOk P w K mg base CX0 (k + 2) f fd ["self", "other"] (spAdd K C) := by
  refine F.ok sc_Line_add (fun vs H Q E h => ?_) (fun cdv A outer s H vs Q E hr h => ?_)
  · obtain ⟨a, b, ws, us, rfl, _⟩ := h; rfl
  · obtain ⟨a, b, ws, us, rfl, hL, hR, hl, q⟩ := h
    refine ⟨_, pss_cons (ps_if (pt_not (pt_val (pe_callB call_isi (by rfl) m1 (by decide +kernel) (pa_cons (pv 1) (pa_cons (pe_glob (v := .ref C) (by rfl) T.mgC rfl) pa_nil))))) (pss_one ps_never) pss_nil)
      (pss_cons (ps_set (i := 2) sc_Line_add.nd rfl (Or.inl rfl) (pe_op op_catA (pe_fld (pv 0) rfl) (pe_fld (pv 1) rfl)))
      (pss_one (ps_ret (pe_makeS M G hr (by rfl) T.mgC pass0 (pv 2))))), ?_⟩
    refine ⟨.ref b, rfl, .ref b, .ref C, .ref C, .ref C, true, rfl, .own C, isLine T.cl I hR, I.kit, true, rfl, iteF ?_⟩
    obtain ⟨dx, t, b1, r, h1, h2, h3, h4, h5⟩ := id hL
    obtain ⟨dx', t', b1', r', h1', h2', h3', h4', h5'⟩ := id hR
    obtain ⟨_, xs, e, hS, hT⟩ := h2.toTup
    cases e
    obtain ⟨_, ys, e, hS', hT'⟩ := h2'.toTup
    cases e
    have l1 := hT.len
    have l2 := hT'.len
    rw [List.length_map] at l1 l2
    have p1 := h5.least
    have p2 := h5'.least
    refine ⟨.ref a, rfl, a, C, dx, _, _, rfl, h1, T.cl, T.nW, lf_works _ _ _, .ref b, rfl, b, C, dx', _, _, rfl, h1', T.cl, T.nW, lf_works _ _ _, t, t', xs, ys, rfl, rfl, hS, hS', Nat.le_of_lt (small1000 (by omega)),
      (fun z => ?_), (fun _ z => ?_), (fun _ _ p np => ?_)⟩
    · rw [z] at l1; rw [← l1] at p1; exact absurd p1 (by decide)
    · rw [z] at l2; rw [← l2] at p2; exact absurd p2 (by decide)
    · refine ⟨.ref p, rfl, p, xs ++ ys, rfl, .inl (.of upd_same), ?_⟩
      have st : St K H (upd H p (.tup (xs ++ ys))) := .of (same_new np)
      refine make_line (ws := ws ++ us) ?_ (h5.plus h5' hl) (fun H' x e3 nx hLx => ?_)
      · have z := (hT.stay st).add (hT'.stay st)
        rw [← List.map_append] at z
        exact z
      · exact q H' x ((same_new np).trans e3) (Same.free (same_new np) nx) hLx
/-! ### line - kind -/
def spSub (K : PySem.W.Frag) (C : Addr) : Sp := fun vs H Q _ => ∃ (a : Addr) (ws : List (List Int)) (i : Nat), vs = [.ref a, .int i] ∧ LineAt K C H a ws ∧ i < ws.length ∧ 2 ≤ ws.length ∧
  ∀ H' x, Same H H' → H x = none → LineAt K C H' x (ws.take i ++ ws.drop (i + 1)) → Q (.ref x) H'
theorem ok_sub {f f1 f2 C : Addr} {fd fd2 : FuncData} {k : Nat} (F : Fun K "__sub__" "Line.__sub__" s_Line_sub f fd) (T : LC K mg C) (M : Mk K C f1) (G : FnR P w K mg base CX0 k f1 (spInit K C))
    (G2 : FnOk P w K mg base CX0 k f2 fd2 ["line", "thing"] (spReqKind K C)) (kp2 : PySem.W.keepIn K (.ref f2) = true) (b2 : Binds K fd2 ["line", "thing"] []) (g2 : mg "require_kind" = some (.ref f2)) (m1 : mg "len" = none) :
    FnOk P w K mg base CX0 (k + 2) f fd ["self", "other"] (spSub K C) := by
  refine F.ok sc_Line_sub (fun vs H Q E h => ?_) (fun cdv A outer s H vs Q E hr h => ?_)
  · obtain ⟨a, ws, i, rfl, _⟩ := h; rfl
  · obtain ⟨a, ws, i, rfl, hL, hi, h2w, q⟩ := h
    refine ⟨_, pss_cons (ps_expr (pe_call G2 (hr.mono (Nat.le_succ k)) (by rfl) g2 kp2 b2 .nil pass0 (pa_cons (pv 0) (pa_cons (pv 1) pa_nil))))
      (pss_cons (ps_if (pt_cmpR op_eq (pe_callB call_len_seq (by rfl) m1 PySem.boot_len (pa_cons (pe_fld (pv 0) rfl) pa_nil)) pe_int (nomark _)) (pss_one ps_never) pss_nil)
      (pss_cons (ps_set (i := 2) sc_Line_sub.nd rfl (Or.inl rfl) (pe_op op_catA (pe_slice sl_tup (pe_fld (pv 0) rfl) po_none (po_some (pv 1))) (pe_slice sl_tup (pe_fld (pv 0) rfl) (po_some (pe_op op_add (pv 1) pe_int)) po_none)))
      (pss_one (ps_ret (pe_makeS M G hr (by rfl) T.mgC pass0 (pv 2)))))), ?_⟩
    refine ⟨.ref a, rfl, .int i, rfl, a, ws, i, rfl, hL, hi, ?_⟩
    obtain ⟨dx, t, b1, r, h1, h2, h3, h4, h5⟩ := id hL
    obtain ⟨_, xs, e, hS, hT⟩ := h2.toTup
    cases e
    have l1 := hT.len
    rw [List.length_map] at l1
    have few := h5.few
    refine ⟨.ref a, rfl, a, C, dx, _, _, rfl, h1, T.cl, T.nW, lf_works _ _ _, t, xs, rfl, .inr hS, rfl, ?_⟩
    have c1 : decide (V.int ((xs.length : Nat) : Int) = V.int 1) = false := decide_eq_false fun z => by have := V.int.inj z; omega
    rw [c1]
    refine ⟨false, rfl, iteF ?_⟩
    have w1 : ¬ (HT.sIx xs.length 0 none = 0 ∧ HT.sIx xs.length xs.length (some (i : Int)) = xs.length) := by
      rintro ⟨_, z⟩
      rw [HT.sIx_nat] at z
      omega
    refine ⟨.ref a, rfl, a, C, dx, _, _, rfl, h1, T.cl, T.nW, lf_works _ _ _, .int i, rfl, i, rfl, t, xs, rfl, hS, w1, fun p np => ?_⟩
    have s1 : Same H (upd H p (.tup (cutV xs none (some (i : Int))))) := same_new np
    have e1 : ((i : Int) + 1) = ((i + 1 : Nat) : Int) := by omega
    have w2 : ¬ (HT.sIx xs.length 0 (some ((i : Int) + 1)) = 0 ∧ HT.sIx xs.length xs.length none = xs.length) := by
      rintro ⟨z, _⟩
      rw [e1, HT.sIx_nat] at z
      omega
    have hp1 : (upd H p (.tup (cutV xs none (some (i : Int))))) p = some (.tup (xs.take i)) := by rw [upd_same, cut_upto]
    generalize hH1 : upd H p (.tup (cutV xs none (some (i : Int)))) = H1 at s1 hp1 ⊢
    refine ⟨.ref a, rfl, a, C, dx, _, _, rfl, s1 _ _ h1, T.cl, T.nW, lf_works _ _ _, .int i, rfl, i, 1, rfl, rfl, (i : Int) + 1, rfl, t, xs, rfl, Same.tup s1 hS, w2, fun p2 np2 => ?_⟩
    have s2 : Same H1 (upd H1 p2 (.tup (cutV xs (some ((i : Int) + 1)) none))) := same_new np2
    have hp2 : (upd H1 p2 (.tup (cutV xs (some ((i : Int) + 1)) none))) p2 = some (.tup (xs.drop (i + 1))) := by rw [upd_same, e1, cut_from]
    generalize hH2 : upd H1 p2 (.tup (cutV xs (some ((i : Int) + 1)) none)) = H2 at s2 hp2 ⊢
    have hp1' := s2 _ _ hp1
    have s12 := s1.trans s2
    have tt : TpAll K H (xs.take i ++ xs.drop (i + 1)) (tDs (ws.take i ++ ws.drop (i + 1))) := by
      have z := (hT.cut i).add (hT.off (i + 1))
      rw [← List.map_take, ← List.map_drop, ← List.map_append] at z
      exact z
    have fin : ∀ (H3 : Hp) (l : Addr), Same H H3 → SqT K H3 l (xs.take i ++ xs.drop (i + 1)) →
        ∃ a' xs', V.ref l = V.ref a' ∧ (SqT K H3 a' xs' ∨ SqL K H3 a' xs') ∧ ∀ z dz, H3 z = none → H3 dz = none → dz ≠ z → spInit K C (V.ref z :: xs') (upd (upd H3 dz (.own z)) z (.ins C dz [])) (fun v H2 => v = .non ∧ Q (.ref z) H2) E0 := by
      intro H3 l e3 hl
      refine ⟨l, _, rfl, .inl hl, make_line (ws := ws.take i ++ ws.drop (i + 1)) (tt.stay (.of e3)) (h5.less hi h2w) fun H' x e4 nx hLx => q H' x (e3.trans e4) (Same.free e3 nx) hLx⟩
    have len2 : (xs.take i).length + (xs.drop (i + 1)).length ≤ sizeLine := by
      rw [List.length_take, List.length_drop]
      exact Nat.le_of_lt (small1000 (by omega))
    refine ⟨p, p2, _, _, rfl, rfl, .of hp1', .of hp2, len2, (fun z => ?_), (fun _ z => ?_), (fun _ _ p3 np3 => ?_)⟩
    · refine ⟨.ref p2, rfl, fin H2 p2 s12 ?_⟩
      rw [z, List.nil_append]
      exact .of hp2
    · refine ⟨.ref p, rfl, fin H2 p s12 ?_⟩
      rw [z, List.append_nil]
      exact .of hp1'
    · exact ⟨.ref p3, rfl, fin _ p3 (s12.trans (same_new np3)) (.of upd_same)⟩
/-! ### -line -/
def spNeg (K : PySem.W.Frag) (C : Addr) : Sp := fun vs H Q _ => ∃ (a : Addr) (ws : List (List Int)), vs = [.ref a] ∧ LineAt K C H a ws ∧
  ∀ H' x, Same H H' → H x = none → LineAt K C H' x (ws.map List.reverse) → Q (.ref x) H'
theorem ok_neg {f f1 C : Addr} {fd : FuncData} {k : Nat} (F : Fun K "__neg__" "Line.__neg__" s_Line_neg f fd) (T : LC K mg C) (M : Mk K C f1) (G : FnR P w K mg base CX0 k f1 (spInit K C)) :
    FnOk P w K mg base CX0 (k + 2) f fd ["self"] (spNeg K C) := by
  refine F.ok sc_Line_neg (fun vs H Q E h => ?_) (fun cdv A outer s H vs Q E hr h => ?_)
  · obtain ⟨a, ws, rfl, _⟩ := h; rfl
  · obtain ⟨a, ws, rfl, hL, q⟩ := h
    refine ⟨_, pss_cons (ps_setLc (i := 1) (own := [("work", 2)]) (g := gName 2) (tt := tYes) rfl sc_Line_neg.nd rfl rfl (sw_true rfl rfl rfl (by decide +kernel)) (pi_tup (pe_fld (pv 0) rfl))
          (blkOk_by (N := ["self", "works", "work"]) (sc := defScope s_Line_neg) (by decide +kernel))
          (fun _ _ _ _ _ => pg_name (i := 2) sc_Line_neg.nd rfl (Or.inl rfl)) (fun _ _ _ _ _ => pts_nil) (fun _ _ _ _ _ => pe_revT (K := K) rfl (pv 2)))
      (pss_one (ps_ret (pe_makeS M G hr (by rfl) T.mgC pass0 (pv 1)))), ?_⟩
    obtain ⟨dx, t, b1, r, h1, h2, h3, h4, h5⟩ := id hL
    obtain ⟨_, xs, e, hS, hT⟩ := h2.toTup
    cases e
    have l1 := hT.len
    rw [List.length_map] at l1
    have few := h5.few
    have lz : (tDs (ws.map List.reverse)).length ≤ 1000 := by rw [List.length_map, List.length_map]; omega
    refine ⟨.ref a, rfl, a, C, dx, _, _, rfl, h1, T.cl, T.nW, lf_works _ _ _, t, rfl, ⟨_, hS⟩, fun D hD => ?_⟩
    refine lc_tup (xs := xs) (fun i H' => Grow K H D (tDs (ws.map List.reverse)) i H') (.zero hD) (fun i H' _ h => Same.tup h.1 hS) (fun i x H' hx h => ?_) (fun H' h => ?_)
    · obtain ⟨o, c1, ho, rfl, hc1⟩ := hT.works hx
      refine ⟨rfl, .ref c1, rfl, c1, _, rfl, Same.tup h.1 hc1, fun p np => ?_⟩
      refine h.next hD lz (same_new np) (d := tD o.reverse) (by rw [List.getElem?_map, List.getElem?_map, ho]; rfl) (.ofInts ?_)
      rw [List.map_reverse]
      exact .of upd_same
    · obtain ⟨e2, acc, g1, g2⟩ := h.done (by rw [List.length_map, List.length_map, l1])
      exact ⟨.ref D, rfl, D, acc, rfl, .inr (.of g1), make_line (ws := ws.map List.reverse) g2 h5.back fun H3 x e3 nx hLx => q H3 x (e2.trans e3) (Same.free e2 nx) hLx⟩
end
end Sg
set_option Elab.async false
set_option linter.all false
set_option maxRecDepth 100000
set_option maxHeartbeats 4000000
namespace Sg
open PySem PySem.Spec PyProof.Rows L2 StX
/-- what a class has under a name: a def that keeps sp -/
structure Has (P : Program) (w : World) (K : PySem.W.Frag) (mg : Str → Option Value) (base : Heap) (k : Nat) (C : Addr) (n : Str) (f : Addr) (fd : FuncData) (ps : List Str) (sp : Sp) : Prop where
  ok : FnOk P w K mg base CX0 k f fd ps sp
  bi : Binds K fd ps []
  at_ : PySem.W.findIn K (.ref C) n = some (some (.ref f))
  fn : PySem.W.isFn K (.ref f) = true
/-- what the operators ask of the class beside their defs -/
structure Ops (K : PySem.W.Frag) (C : Addr) : Prop where
  sf : PySem.W.selfFirst K C = true
  rs : ∃ rc, PySem.W.findIn K (.ref C) "__rsub__" = some rc ∧ (rc = none ∨ ∃ g : Addr, rc = some (.ref g))
  is : ∃ fo, PySem.W.findIn K (.type "int") "__sub__" = some fo
  ir : ∃ ro, PySem.W.findIn K (.type "int") "__rsub__" = some ro
  nsub : PySem.W.subIn K (.type "int") (.ref C) = some false
  ne : PySem.W.findIn K (.ref C) "__ne__" = some (some (.builtin "object.__ne__"))
  ob : PySem.W.subIn K (.ref C) (.type "object") = some true
/-- Line's methods, as they are promised -/
structure Meths (P : Program) (w : World) (K : PySem.W.Frag) (mg : Str → Option Value) (base : Heap) (k : Nat) (C : Addr) : Prop where
  lc : LC K mg C
  li : LI K C
  op : Ops K C
  len : ∃ f fd, Has P w K mg base k C "__len__" f fd ["self"] (spLen K C)
  call : ∃ f fd, Has P w K mg base k C "__call__" f fd ["self", "one", "other"] (spCall K C) ∧ PySem.W.fnIn K f = true
  add : ∃ f fd, Has P w K mg base k C "__add__" f fd ["self", "other"] (spAdd K C)
  sub : ∃ f fd, Has P w K mg base k C "__sub__" f fd ["self", "other"] (spSub K C)
  neg : ∃ f fd, Has P w K mg base k C "__neg__" f fd ["self"] (spNeg K C)
  eq : ∃ f fd, Has P w K mg base k C "__eq__" f fd ["self", "other"] (spEq K C)
  works : ∃ p g fd, PropOf K C "works" p g ∧ FnOk P w K mg base CX0 k g fd ["self"] (getSp C "_works") ∧ Binds K fd ["self"] []
  reach : ∃ p g fd, PropOf K C "reach" p g ∧ FnOk P w K mg base CX0 k g fd ["self"] (getSp C "_reach") ∧ Binds K fd ["self"] []
  init : ∃ f, Mk K C f ∧ FnR P w K mg base CX0 k f (spInit K C)
section
variable {X : Cx} {k : Nat} {C : Addr}
theorem Meths.cLen (M : Meths X.prog X.w X.K X.mg X.base k C) (hr : Room (k + 2) X.A) : CallR X (.builtin "len") (fun xs H Q => ∃ a ws, xs = [.ref a] ∧ LineAt X.K C H a ws ∧ Q (.int (ws.length : Nat)) H) := by
  obtain ⟨f, fd, h⟩ := M.len
  intro pins s σ H xs us Q I r q
  obtain ⟨a, ws, rfl, hL, q⟩ := q
  refine call_lenO h.ok (hr.mono (Nat.le_succ _)) h.bi h.at_ h.fn pins s σ H _ us Q I r ⟨a, rfl, hL.ins, a, ws, rfl, hL, ws.length, rfl, ?_, q⟩
  have := hL.good.few
  omega
def tReach (K : PySem.W.Frag) (C : Addr) (te : TE) : TE := fun σ H Q => te σ H fun x H1 => ∃ a ws, x = .ref a ∧ LineAt K C H1 a ws ∧ ∀ r, Top (allB ws ws) r → Q (.int r) H1
theorem Meths.pReach {K : PySem.W.Frag} {e : Expr} {te : TE} {pos : Pos} (M : Meths X.prog X.w K X.mg X.base k C) (hK : X.K = K) (hr : Room (k + 2) X.A) (he : PE X e te) (hab : attributeBase e "reach" X.env (eval e X.env) = eval e X.env := by rfl) :
    PE X (.Attribute e "reach" pos) (tReach K C te) := by
  subst hK
  obtain ⟨p, g, fd, h1, h2, h3⟩ := M.reach
  refine ⟨fun pins s σ H Q I h => attr_of hab (thn (he.run pins s σ H _ I h) fun u s1 ⟨x, H1, I1, rx, a, ws, ex, ea, q⟩ => ?_)⟩
  subst ex
  obtain rfl : u = Value.ref a := rx
  obtain ⟨dx, t, b, r, g1, g2, g3, g4, g5⟩ := ea
  exact getprop_ok I1 g1 M.lc.cl h1 h2 (hr.mono (Nat.le_succ _)) h3 .nil pass0 ⟨a, dx, _, _, rfl, g1, lf_reach _ _ _, q r g4⟩
def tCallL (K : PySem.W.Frag) (C : Addr) (tf : TE) (t : TA) : TE := fun σ H Q => tf σ H fun y H1 => ∃ a, y = V.ref a ∧ t σ H1 fun vs H2 => ∃ ws, ∃ i j : Nat, ∃ x y, vs = [.int i, .int j] ∧ LineAt K C H2 a ws ∧ ws[i]? = some x ∧ ws[j]? = some y ∧
  ∀ c, SqT K H2 c (nV (barsN x y)) → Q (.ref c) H2
theorem Meths.pCall {K : PySem.W.Frag} {fe e : Expr} {es : List Expr} {tf : TE} {t : TA} {pos : Pos} (M : Meths X.prog X.w K X.mg X.base k C) (hK : X.K = K) (hr : Room (k + 2) X.A) (hf : PE X fe tf) (ha : PA X (e :: es) t)
    (ht : eval (.Call fe (e :: es) [] pos) X.env = (do callWith pos (← eval fe X.env) [] (backTo pos (starEach (e :: es) X.env)) (backToKw pos (keywordEach [] X.env))) := by rfl)
    (he : starEach (e :: es) X.env = (false, eval e X.env) :: starEach es X.env := by rfl) (hpl : (backTo pos (starEach es X.env)).any (·.1) = false := by rfl) :
    PE X (.Call fe (e :: es) [] pos) (tCallL K C tf t) := by
  subst hK
  obtain ⟨g, fd, h, hg⟩ := M.call
  have c : CallO X.K C g := ⟨h.at_, h.fn, hg⟩
  refine ⟨fun pins s σ H Q I h' => Call_ (thn (hf.run pins s σ H _ I h') fun u s1 ⟨y, H1, I1, ry, a, ey, q⟩ => ?_) ht⟩
  subst ey
  obtain rfl : u = Value.ref a := ry
  refine callO_with (thn (ha.run pos pins s1 σ H1 _ I1 q) fun us s2 ⟨vs, H2, I2, r, ws, i, j, x, y, ev, hL, hx, hy, q2⟩ => ?_) he hpl
  subst ev
  have hi' : InsC X H2 a C := .inr hL.ins
  obtain ⟨ox, od, J, hd⟩ := insC_at I2 hi'
  exact ⟨⟨C, ox, od, J, hd⟩, run_callO c (fnR_of h.ok h.bi) (hr.mono (Nat.le_add_right _ _)) pass0 I2 hi' r ⟨a, ws, i, j, x, y, rfl, hL, hx, hy, q2⟩⟩
end
end Sg
set_option Elab.async false
set_option linter.all false
set_option maxRecDepth 100000
set_option maxHeartbeats 4000000
namespace Sg
open PySem PySem.Spec PyProof.Rows L2 StX
section
variable {P : Program} {w : World} {K : PySem.W.Frag} {mg : Str → Option Value} {base : Heap}
def spReqLine (K : PySem.W.Frag) (C : Addr) : Sp := fun vs H Q _ => ∃ (a : Addr) (ws : List (List Int)), vs = [.ref a] ∧ LineAt K C H a ws ∧ Q .non H
theorem ok_require_line {f C : Addr} {fd : FuncData} {k : Nat} (F : Fun K "require_line" "require_line" s_require_line f fd) (T : LC K mg C) (I : LI K C) (m1 : mg "isinstance" = none) :
    FnOk P w K mg base CX0 (k + 1) f fd ["thing"] (spReqLine K C) := by
  refine F.ok sc_require_line (fun vs H Q E h => ?_) (fun cdv A outer s H vs Q E hr h => ?_)
  · obtain ⟨a, ws, rfl, _⟩ := h; rfl
  · obtain ⟨a, ws, rfl, hL, q⟩ := h
    refine ⟨_, pss_one (ps_if (pt_not (pt_val (pe_callB call_isi (by rfl) m1 (by decide +kernel) (pa_cons (pv 0) (pa_cons (pe_glob (v := .ref C) (by rfl) T.mgC rfl) pa_nil))))) (pss_one ps_never) pss_nil), ?_⟩
    exact ⟨.ref a, rfl, .ref a, .ref C, .ref C, .ref C, true, rfl, .own C, isLine T.cl I hL, I.kit, true, rfl, iteF q⟩
end
end Sg
set_option Elab.async false
set_option linter.all false
set_option maxRecDepth 100000
set_option maxHeartbeats 4000000
namespace Sg
open PySem PySem.Spec PyProof.Rows L2 StX
/-- a whole number as it is written -/
def num (i : Int) : Str := toString i
def word (n : Nat) : Str := (("Line(" : Str) ++ num n) ++ (" works)" : Str)
section
variable {P : Program} {w : World} {K : PySem.W.Frag} {mg : Str → Option Value} {base : Heap}
/-! ### line[kind] -/
def spItem (K : PySem.W.Frag) (C : Addr) : Sp := fun vs H Q _ => ∃ (a : Addr) (ws : List (List Int)) (i : Nat) (x : List Int), vs = [.ref a, .int i] ∧ LineAt K C H a ws ∧ ws[i]? = some x ∧ ∀ c, SqT K H c (x.map V.int) → Q (.ref c) H
theorem ok_item {f f1 C : Addr} {fd fd1 : FuncData} {k : Nat} (F : Fun K "__getitem__" "Line.__getitem__" s_Line_getitem f fd) (T : LC K mg C)
    (G1 : FnOk P w K mg base CX0 k f1 fd1 ["line", "thing"] (spReqKind K C)) (kp1 : PySem.W.keepIn K (.ref f1) = true) (b1 : Binds K fd1 ["line", "thing"] []) (g1 : mg "require_kind" = some (.ref f1)) :
    FnOk P w K mg base CX0 (k + 1) f fd ["self", "at"] (spItem K C) := by
  refine F.ok sc_Line_getitem (fun vs H Q E h => ?_) (fun cdv A outer s H vs Q E hr h => ?_)
  · obtain ⟨a, ws, i, x, rfl, _⟩ := h; rfl
  · obtain ⟨a, ws, i, x, rfl, hL, hx, q⟩ := h
    refine ⟨_, pss_cons (ps_expr (pe_call G1 hr (by rfl) g1 kp1 b1 .nil pass0 (pa_cons (pv 0) (pa_cons (pv 1) pa_nil))))
      (pss_one (ps_ret (pe_ix ix_tup (pe_fld (pv 0) rfl) (pv 1) (fun _ _ => rfl)))), ?_⟩
    have hi := (List.getElem?_eq_some_iff.mp hx).1
    refine ⟨.ref a, rfl, .int i, rfl, a, ws, i, rfl, hL, hi, ?_⟩
    obtain ⟨dx, t, b, r, h1, h2, h3, h4, h5⟩ := hL
    obtain ⟨_, xs, e, hS, hT⟩ := h2.toTup
    cases e
    have l := hT.len
    rw [List.length_map] at l
    obtain ⟨y, hy⟩ : ∃ y, xs[i]? = some y := ⟨xs[i]'(by omega), List.getElem?_eq_getElem _⟩
    obtain ⟨x', c, hx', rfl, hc⟩ := hT.works hy
    obtain rfl : x = x' := Option.some.inj (hx.symm.trans hx')
    exact ⟨.ref a, rfl, a, C, dx, _, _, rfl, h1, T.cl, T.nW, lf_works _ _ _, .int i, rfl, t, xs, i, .ref c, rfl, rfl, hS, atI_nat hy, q c hc⟩
/-! ### repr -/
def spRepr (K : PySem.W.Frag) (C : Addr) : Sp := fun vs H Q _ => ∃ (a : Addr) (ws : List (List Int)), vs = [.ref a] ∧ LineAt K C H a ws ∧ Q (.str (word ws.length)) H
theorem word_join (n : Nat) (h1 : 1 ≤ n) (h2 : n ≤ 3) : ((Str.empty ++ ("Line(" : Str)) ++ num n) ++ (" works)" : Str) = word n := by
  have : n = 1 ∨ n = 2 ∨ n = 3 := by omega
  rcases this with rfl | rfl | rfl <;> decide +kernel
theorem num_len (n : Nat) (h1 : 1 ≤ n) (h2 : n ≤ 3) : ((Str.empty ++ ("Line(" : Str)) ++ num n).length ≤ 100 ∧ (((Str.empty ++ ("Line(" : Str)) ++ num n) ++ (" works)" : Str)).length ≤ 100 := by
  have : n = 1 ∨ n = 2 ∨ n = 3 := by omega
  rcases this with rfl | rfl | rfl <;> decide +kernel
theorem log_small (n : Nat) (h2 : n ≤ 3) : ((n : Int)).natAbs.log2 < 1920 := by
  have : n = 0 ∨ n = 1 ∨ n = 2 ∨ n = 3 := by omega
  rcases this with rfl | rfl | rfl | rfl <;> decide +kernel
theorem ok_repr {f C : Addr} {fd : FuncData} {k : Nat} (F : Fun K "__repr__" "Line.__repr__" s_Line_repr f fd) (T : LC K mg C) (m1 : mg "len" = none) :
    FnOk P w K mg base CX0 (k + 1) f fd ["self"] (spRepr K C) := by
  refine F.ok sc_Line_repr (fun vs H Q E h => ?_) (fun cdv A outer s H vs Q E hr h => ?_)
  · obtain ⟨a, ws, rfl, _⟩ := h; rfl
  · obtain ⟨a, ws, rfl, ⟨dx, t, b, r, h1, h2, h3, h4, h5⟩, q⟩ := h
    refine ⟨_, pss_one (ps_ret (pe_joined (.cons pe_str (.cons (pe_fmt (pe_callB call_len_seq (by rfl) m1 PySem.boot_len (pa_cons (pe_fld (pv 0) rfl) pa_nil))) (.cons pe_str .nil))))), ?_⟩
    obtain ⟨t', xs, e, hS, hT⟩ := h2.toTup
    cases e
    have l := hT.len
    rw [List.length_map] at l
    have big : 100 ≤ sizeLine := by rw [sizeLine_eq]; decide
    obtain ⟨z1, z2⟩ := num_len ws.length h5.least h5.few
    refine ⟨_, rfl, Nat.le_trans (by decide +kernel) big, ?_⟩
    refine ⟨.ref a, rfl, a, C, dx, _, _, rfl, h1, T.cl, T.nW, lf_works _ _ _, t, xs, rfl, .inr hS, ?_⟩
    rw [l]
    refine .inr ⟨((ws.length : Nat) : Int), rfl, log_small _ h5.few, ?_⟩
    refine ⟨_, rfl, Nat.le_trans z1 big, ?_⟩
    refine ⟨_, rfl, Nat.le_trans z2 big, ?_⟩
    have e := word_join ws.length h5.least h5.few
    show Q (.str (((Str.empty ++ ("Line(" : Str)) ++ num ws.length) ++ (" works)" : Str))) H
    rw [e]
    exact q
end
/-- the two more -/
structure Meths2 (P : Program) (w : World) (K : PySem.W.Frag) (mg : Str → Option Value) (base : Heap) (k : Nat) (C : Addr) : Prop where
  m : Meths P w K mg base k C
  item : ∃ f fd, Has P w K mg base k C "__getitem__" f fd ["self", "at"] (spItem K C) ∧ PySem.W.fnIn K f = true
  rep : ∃ f fd, Has P w K mg base k C "__repr__" f fd ["self"] (spRepr K C)
end Sg
set_option Elab.async false
set_option linter.all false
set_option maxRecDepth 100000
set_option maxHeartbeats 4000000
namespace Sg
open PySem PySem.Spec PyProof.Rows L2
/-! ## ascending lists, and how many there are -/
theorem asc_eq : ∀ {xs ys : List Int}, xs.Pairwise (· < ·) → ys.Pairwise (· < ·) → (∀ z, z ∈ xs ↔ z ∈ ys) → xs = ys
  | [], [], _, _, _ => rfl
  | [], y :: _, _, _, h => nomatch (h y).mpr List.mem_cons_self
  | x :: _, [], _, _, h => nomatch (h x).mp List.mem_cons_self
  | x :: xs, y :: ys, h1, h2, h => by
    obtain ⟨a1, b1⟩ := List.pairwise_cons.mp h1
    obtain ⟨a2, b2⟩ := List.pairwise_cons.mp h2
    have e : x = y := by
      rcases List.mem_cons.mp ((h x).mp List.mem_cons_self) with e | e
      · exact e
      · rcases List.mem_cons.mp ((h y).mpr List.mem_cons_self) with g | g
        · exact g.symm
        · have := a2 x e; have := a1 y g; omega
    subst e
    rw [asc_eq b1 b2 fun z => ?_]
    constructor
    · intro hz
      rcases List.mem_cons.mp ((h z).mp (List.mem_cons_of_mem _ hz)) with e | e
      · have := a1 z hz; omega
      · exact e
    · intro hz
      rcases List.mem_cons.mp ((h z).mpr (List.mem_cons_of_mem _ hz)) with e | e
      · have := a2 z hz; omega
      · exact e
theorem range_asc (n : Nat) : (List.range n).Pairwise (· < ·) := by
  induction n with
  | zero => exact .nil
  | succ n ih =>
    rw [List.range_succ, List.pairwise_append]
    exact ⟨ih, List.pairwise_singleton _ _, fun a ha b hb => by rw [List.mem_singleton.mp hb]; exact List.mem_range.mp ha⟩
/-- the numbers of ns, ascending, each once -/
def ascL (ns : List Int) : List Nat := (List.range 60).filter fun d => decide (((d : Nat) : Int) ∈ ns)
theorem ascL_mem {ns : List Int} {d : Nat} : d ∈ ascL ns ↔ d < 60 ∧ ((d : Nat) : Int) ∈ ns := by
  unfold ascL
  rw [List.mem_filter, List.mem_range, decide_eq_true_eq]
theorem ascL_uniq {ns ms : List Int} (h1 : ms.Pairwise (· < ·)) (h2 : ∀ z, z ∈ ms ↔ z ∈ ns) (h3 : ∀ z ∈ ns, 0 ≤ z ∧ z < 60) : ms = nI (ascL ns) := by
  refine asc_eq h1 ?_ fun z => ?_
  · unfold nI ascL
    rw [List.pairwise_map]
    exact ((range_asc 60).filter _).imp fun h => by omega
  · rw [h2]
    constructor
    · intro hz
      have := h3 z hz
      exact List.mem_map.mpr ⟨z.toNat, ascL_mem.mpr ⟨by omega, by rw [Int.toNat_of_nonneg this.1]; exact hz⟩, Int.toNat_of_nonneg this.1⟩
    · intro hz
      obtain ⟨d, hd, rfl⟩ := List.mem_map.mp hz
      exact (ascL_mem.mp hd).2
def subs : List Nat → List (List Nat)
  | [] => [[]]
  | a :: l => subs l ++ (subs l).map (a :: ·)
theorem subs_mem : ∀ {x l : List Nat}, x.Sublist l → x ∈ subs l
  | _, _, .slnil => List.mem_singleton.mpr rfl
  | _, _, .cons a h => List.mem_append.mpr (.inl (subs_mem h))
  | _, _, .cons₂ a h => List.mem_append.mpr (.inr (List.mem_map.mpr ⟨_, subs_mem h, rfl⟩))
theorem subs_len : ∀ l, (subs l).length = 2 ^ l.length
  | [] => rfl
  | a :: l => by
    show (subs l ++ (subs l).map (a :: ·)).length = _
    rw [List.length_append, List.length_map, subs_len l, List.length_cons, Nat.pow_succ]; omega
/-- all lists of n members of D -/
def tuplesOf (D : List (List Nat)) : Nat → List (List (List Nat))
  | 0 => [[]]
  | n + 1 => D.flatMap fun x => (tuplesOf D n).map (x :: ·)
theorem tuplesOf_mem {D : List (List Nat)} : ∀ {n : Nat} {L : List (List Nat)}, L.length = n → (∀ x ∈ L, x ∈ D) → L ∈ tuplesOf D n
  | 0, [], _, _ => List.mem_singleton.mpr rfl
  | n + 1, x :: L, h, g => List.mem_flatMap.mpr ⟨x, g x List.mem_cons_self, List.mem_map.mpr ⟨L, tuplesOf_mem (Nat.succ.inj h) fun y hy => g y (List.mem_cons_of_mem _ hy), rfl⟩⟩
theorem flatMap_len {α β : Type} (f : α → List β) (m : Nat) : ∀ (l : List α), (∀ x ∈ l, (f x).length = m) → (l.flatMap f).length = l.length * m
  | [], _ => by rw [List.flatMap_nil, List.length_nil, List.length_nil, Nat.zero_mul]
  | x :: l, h => by
    rw [List.flatMap_cons, List.length_append, h x List.mem_cons_self, flatMap_len f m l fun y hy => h y (List.mem_cons_of_mem _ hy), List.length_cons, Nat.succ_mul, Nat.add_comm]
theorem tuplesOf_len (D : List (List Nat)) : ∀ n, (tuplesOf D n).length = D.length ^ n
  | 0 => rfl
  | n + 1 => by
    unfold tuplesOf
    rw [flatMap_len _ (D.length ^ n) D fun x _ => by rw [List.length_map, tuplesOf_len D n], Nat.pow_succ, Nat.mul_comm]
/-! ## states: which delays of each kind are barred -/
abbrev Sta := List (List Nat)
def rowS (L : Sta) (k : Nat) : List Nat := L.getD k []
abbrev wkS (ws : List (List Int)) (k : Nat) : List Int := ws.getD k []
/-- is kind k barred d ticks behind the next tick -/
def nextB (ws : List (List Int)) (L : Sta) (c : Option Nat) (k d : Nat) : Bool := decide (d + 1 ∈ rowS L k) || (match c with | some o => decide (d + 1 ∈ barsN (wkS ws o) (wkS ws k)) | none => false)
def nextL (ws : List (List Int)) (L : Sta) (c : Option Nat) : Sta := (List.range ws.length).map fun k => (List.range 60).filter (nextB ws L c k)
def emptyL (ws : List (List Int)) : Sta := List.replicate ws.length []
def openL (ws : List (List Int)) (L : Sta) : List Nat := (List.range ws.length).filter fun k => !decide (0 ∈ rowS L k)
/-- a choice that can be made -/
def CanL (ws : List (List Int)) (L : Sta) : Option Nat → Prop
  | none => True
  | some k => k ∈ openL ws L
theorem nextL_len (ws : List (List Int)) (L : Sta) (c : Option Nat) : (nextL ws L c).length = ws.length := by unfold nextL; rw [List.length_map, List.length_range]
theorem nextL_row {ws : List (List Int)} {L : Sta} {c : Option Nat} {k : Nat} (h : k < ws.length) : rowS (nextL ws L c) k = (List.range 60).filter (nextB ws L c k) := by
  unfold rowS nextL
  rw [List.getD_eq_getElem?_getD, List.getElem?_map, List.getElem?_range h]; rfl
theorem emptyL_row (ws : List (List Int)) (k : Nat) : rowS (emptyL ws) k = [] := by
  unfold rowS emptyL
  rw [List.getD_eq_getElem?_getD, List.getElem?_replicate]
  split <;> rfl
/-- all bars are at most R -/
def Rea (ws : List (List Int)) (R : Nat) : Prop := ∀ o k b, b ∈ barsN (wkS ws o) (wkS ws k) → b ≤ R
/-- what a state may be -/
structure FormL (ws : List (List Int)) (R : Nat) (L : Sta) : Prop where
  len : L.length = ws.length
  rows : ∀ x ∈ L, ∃ f : Nat → Bool, x = (List.range 60).filter f
  lt : ∀ x ∈ L, ∀ d ∈ x, d < R
theorem FormL.empty (ws : List (List Int)) (R : Nat) : FormL ws R (emptyL ws) := by
  refine ⟨List.length_replicate, fun x hx => ⟨fun _ => false, ?_⟩, fun x hx d hd => ?_⟩
  · rw [(List.mem_replicate.mp hx).2]
    have e : (List.range 60).filter (fun _ => false) = [] := List.filter_eq_nil_iff.mpr fun _ _ h => Bool.false_ne_true h
    exact e.symm
  · rw [(List.mem_replicate.mp hx).2] at hd
    exact nomatch hd
theorem rowS_mem {L : Sta} {k d : Nat} (h : d ∈ rowS L k) : rowS L k ∈ L ∧ k < L.length := by
  unfold rowS at h ⊢
  rw [List.getD_eq_getElem?_getD] at h ⊢
  rcases e : L[k]? with _ | x
  · rw [e] at h; exact nomatch h
  · exact ⟨List.mem_of_getElem? e, (List.getElem?_eq_some_iff.mp e).1⟩
theorem FormL.next {ws : List (List Int)} {R : Nat} {L : Sta} (h : FormL ws R L) (hR : Rea ws R) (c : Option Nat) : FormL ws R (nextL ws L c) := by
  refine ⟨nextL_len _ _ _, fun x hx => ?_, fun x hx d hd => ?_⟩
  · obtain ⟨k, _, rfl⟩ := List.mem_map.mp hx
    exact ⟨_, rfl⟩
  · obtain ⟨k, _, rfl⟩ := List.mem_map.mp hx
    have hb := (List.mem_filter.mp hd).2
    unfold nextB at hb
    rw [Bool.or_eq_true, decide_eq_true_eq] at hb
    rcases hb with hb | hb
    · have := h.lt _ (rowS_mem hb).1 _ hb
      omega
    · cases c with
      | none => cases hb
      | some o =>
        have := hR o k (d + 1) (of_decide_eq_true hb)
        omega
theorem filter_cut {f : Nat → Bool} {R : Nat} (hR : R ≤ 60) (h : ∀ d ∈ (List.range 60).filter f, d < R) : ((List.range 60).filter f).Sublist (List.range R) := by
  have e : List.range 60 = List.range R ++ (List.range (60 - R)).map (R + ·) := by
    rw [← List.range_add, show R + (60 - R) = 60 by omega]
  have e2 : (List.range 60).filter f = (List.range R).filter f := by
    rw [e, List.filter_append]
    have : ((List.range (60 - R)).map (R + ·)).filter f = [] := by
      refine List.filter_eq_nil_iff.mpr fun d hd hf => ?_
      obtain ⟨i, hi, rfl⟩ := List.mem_map.mp hd
      have := h (R + i) (List.mem_filter.mpr ⟨by rw [e]; exact List.mem_append.mpr (.inr hd), hf⟩)
      omega
    rw [this, List.append_nil]
  rw [e2]
  exact List.filter_sublist
theorem FormL.row_len {ws : List (List Int)} {R : Nat} {L : Sta} (h : FormL ws R L) (hR : R ≤ 60) : ∀ x ∈ L, x.length ≤ R := fun x hx => by
  obtain ⟨f, rfl⟩ := h.rows x hx
  have := (filter_cut hR (h.lt _ hx)).length_le
  rwa [List.length_range] at this
/-- all that may be states -/
def allL (ws : List (List Int)) (R : Nat) : List Sta := tuplesOf (subs (List.range R)) ws.length
theorem FormL.mem_all {ws : List (List Int)} {R : Nat} {L : Sta} (h : FormL ws R L) (hR : R ≤ 60) : L ∈ allL ws R :=
  tuplesOf_mem h.len fun x hx => by
    obtain ⟨f, rfl⟩ := h.rows x hx
    exact subs_mem (filter_cut hR (h.lt _ hx))
/-- as many ticks as can be gone through -/
def NearR (n R : Nat) : Prop := (n = 1 ∧ R ≤ 8) ∨ (n ≤ 3 ∧ R ≤ 5)
theorem allL_len {ws : List (List Int)} {R : Nat} (h : NearR ws.length R) : (allL ws R).length ≤ 32768 := by
  unfold allL
  rw [tuplesOf_len, subs_len, List.length_range, ← Nat.pow_mul]
  have key : R * ws.length ≤ 15 := by
    rcases h with ⟨h1, h2⟩ | ⟨h1, h2⟩
    · rw [h1]; omega
    · have := Nat.mul_le_mul h2 h1; omega
  exact Nat.le_trans (Nat.pow_le_pow_right (by decide) key) (by decide)
end Sg
set_option Elab.async false
set_option linter.all false
set_option maxRecDepth 100000
set_option maxHeartbeats 4000000
namespace Sg
open PySem PySem.Spec PyProof.Rows L2
/-! ## the states that choices lead to -/
def runS (ws : List (List Int)) (cs : List (Option Nat)) : Sta := cs.foldl (nextL ws) (emptyL ws)
theorem runS_snoc (ws : List (List Int)) (cs : List (Option Nat)) (c : Option Nat) : runS ws (cs ++ [c]) = nextL ws (runS ws cs) c := by
  unfold runS
  rw [List.foldl_append]; rfl
/-- what bars kind k after d ticks, behind these choices -/
def Due1 (ws : List (List Int)) (cs : List (Option Nat)) (k d : Nat) : Prop := k < ws.length ∧ ∃ i o, cs[i]? = some (some o) ∧ d + (cs.length - i) ∈ barsN (wkS ws o) (wkS ws k)
theorem row_runN {ws : List (List Int)} {R : Nat} (hR : Rea ws R) (R6 : R ≤ 60) : ∀ (n : Nat) (cs : List (Option Nat)), cs.length = n → ∀ (k d : Nat), d ∈ rowS (runS ws cs) k ↔ Due1 ws cs k d := by
  intro n
  induction n with
  | zero =>
    intro cs h k d
    rw [List.eq_nil_of_length_eq_zero h]
    show d ∈ rowS (emptyL ws) k ↔ _
    rw [emptyL_row]
    exact ⟨fun z => (nomatch z), fun ⟨_, i, o, z, _⟩ => (nomatch z)⟩
  | succ n ih =>
    intro cs h k d
    obtain ⟨ds, c, rfl⟩ : ∃ ds c, cs = ds ++ [c] := ⟨cs.dropLast, cs.getLast (by intro z; rw [z] at h; exact nomatch h), (List.dropLast_concat_getLast _).symm⟩
    have hn : ds.length = n := by rw [List.length_append] at h; exact Nat.succ.inj h
    rw [runS_snoc]
    have ihd : ∀ {k d : Nat}, d ∈ rowS (runS ws ds) k ↔ Due1 ws ds k d := fun {k d} => ih ds hn k d
    constructor
    · intro hd
      obtain ⟨_, hk⟩ := rowS_mem hd
      rw [nextL_len] at hk
      rw [nextL_row hk] at hd
      have hb := (List.mem_filter.mp hd).2
      unfold nextB at hb
      rw [Bool.or_eq_true, decide_eq_true_eq] at hb
      refine ⟨hk, ?_⟩
      rcases hb with hb | hb
      · obtain ⟨_, i, o, hi, hm⟩ := ihd.mp hb
        have hl := (List.getElem?_eq_some_iff.mp hi).1
        refine ⟨i, o, by rw [List.getElem?_append_left hl]; exact hi, ?_⟩
        rw [List.length_append, show d + (ds.length + [c].length - i) = d + 1 + (ds.length - i) by show d + (ds.length + 1 - i) = _; omega]
        exact hm
      · cases c with
        | none => cases hb
        | some o =>
          refine ⟨ds.length, o, by rw [List.getElem?_append_right (Nat.le_refl _), Nat.sub_self]; rfl, ?_⟩
          rw [List.length_append, show d + (ds.length + [some o].length - ds.length) = d + 1 by show d + (ds.length + 1 - ds.length) = _; omega]
          exact of_decide_eq_true hb
    · rintro ⟨hk, i, o, hi, hm⟩
      rw [nextL_row hk]
      have hbd := hR o k _ hm
      have hl := (List.getElem?_eq_some_iff.mp hi).1
      rw [List.length_append] at hl hm hbd
      have hl' : i < ds.length + 1 := hl
      have e1 : ds.length + [c].length = ds.length + 1 := rfl
      rw [e1] at hm hbd
      refine List.mem_filter.mpr ⟨List.mem_range.mpr (by omega), ?_⟩
      unfold nextB
      rw [Bool.or_eq_true, decide_eq_true_eq]
      by_cases z : i < ds.length
      · left
        refine ihd.mpr ⟨hk, i, o, by rw [List.getElem?_append_left z] at hi; exact hi, ?_⟩
        rw [show d + 1 + (ds.length - i) = d + (ds.length + 1 - i) by omega]
        exact hm
      · have e : i = ds.length := by omega
        subst e
        rw [List.getElem?_append_right (Nat.le_refl _), Nat.sub_self] at hi
        obtain rfl : c = some o := Option.some.inj hi
        right
        rw [show d + (ds.length + 1 - ds.length) = d + 1 by omega] at hm
        exact decide_eq_true hm
theorem row_run {ws : List (List Int)} {R : Nat} (hR : Rea ws R) (R6 : R ≤ 60) (cs : List (Option Nat)) {k d : Nat} : d ∈ rowS (runS ws cs) k ↔ Due1 ws cs k d := row_runN hR R6 _ cs rfl k d
/-- choices each of which can be made -/
def WayC (ws : List (List Int)) (cs : List (Option Nat)) : Prop := ∀ i c, cs[i]? = some c → CanL ws (runS ws (cs.take i)) c
theorem WayC.snoc {ws : List (List Int)} {cs : List (Option Nat)} {c : Option Nat} (h : WayC ws cs) (g : CanL ws (runS ws cs) c) : WayC ws (cs ++ [c]) := by
  intro i d hi
  rcases Nat.lt_or_ge i cs.length with z | z
  · rw [List.getElem?_append_left z] at hi
    rw [List.take_append_of_le_length (by omega)]
    exact h i d hi
  · have hl := (List.getElem?_eq_some_iff.mp hi).1
    rw [List.length_append] at hl
    have e : i = cs.length := by have : i < cs.length + 1 := hl; omega
    subst e
    rw [List.getElem?_append_right (Nat.le_refl _), Nat.sub_self] at hi
    obtain rfl : c = d := Option.some.inj hi
    rw [List.take_left]
    exact g
/-- a state that is reached -/
def Rchd (ws : List (List Int)) (L : Sta) : Prop := ∃ cs, WayC ws cs ∧ runS ws cs = L
theorem Rchd.empty (ws : List (List Int)) : Rchd ws (emptyL ws) := ⟨[], fun i c h => (nomatch h), rfl⟩
theorem Rchd.next {ws : List (List Int)} {L : Sta} {c : Option Nat} (h : Rchd ws L) (g : CanL ws L c) : Rchd ws (nextL ws L c) := by
  obtain ⟨cs, hw, rfl⟩ := h
  exact ⟨cs ++ [c], hw.snoc g, runS_snoc _ _ _⟩
/-- from the empty state on, all that is reached is in a set that is closed -/
theorem Rchd.closed {ws : List (List Int)} {L : Sta} (h : Rchd ws L) (Pd : Sta → Prop) (h0 : Pd (emptyL ws)) (hs : ∀ L c, Pd L → CanL ws L c → Pd (nextL ws L c)) : Pd L := by
  obtain ⟨cs, hw, rfl⟩ := h
  have key : ∀ n, n ≤ cs.length → Pd (runS ws (cs.take n)) := by
    intro n
    induction n with
    | zero => exact fun _ => h0
    | succ n ih =>
      intro hn
      have e : cs.take (n + 1) = cs.take n ++ [cs[n]] := by rw [List.take_add_one, List.getElem?_eq_getElem (by omega)]; rfl
      rw [e, runS_snoc]
      exact hs _ _ (ih (by omega)) (hw n _ (List.getElem?_eq_getElem (by omega)))
  have := key cs.length (Nat.le_refl _)
  rwa [List.take_length] at this
/-! ## the last choices tell all of a state -/
end Sg
set_option Elab.async false
set_option linter.all false
set_option maxRecDepth 100000
set_option maxHeartbeats 4000000
namespace Sg
open PySem PySem.Spec PyProof.Rows L2 StX
theorem op_inK {X : Cx} {K : PySem.W.Frag} (hK : X.K = K) : OpR X (compareOp .In) (rIn K false) := by subst hK; exact op_in_seq
theorem op_notInK {X : Cx} {K : PySem.W.Frag} (hK : X.K = K) : OpR X (compareOp .NotIn) (rIn K true) := by subst hK; exact op_notIn_seq
theorem pi_listK {X : Cx} {K : PySem.W.Frag} {tg l : Expr} {tl : TE} (hK : X.K = K) (hl : PE X l tl) : PI X tg l (iList K tl) := by
  subst hK; exact pi_list hl
theorem cLenK {X : Cx} {K : PySem.W.Frag} {k : Nat} {C : Addr} (M : Meths X.prog X.w K X.mg X.base k C) (hK : X.K = K) (hr : Room (k + 2) X.A) : CallR X (.builtin "len") (fun xs H Q => ∃ a ws, xs = [.ref a] ∧ LineAt K C H a ws ∧ Q (.int (ws.length : Nat)) H) := by
  subst hK
  exact M.cLen hr
/-- a walk, whatever is done in its turns -/
theorem it_any {J : L2.It} {n : Nat} {G : Hp → Prop} {Y : Nat → Hp → V → Hp → Prop} (wk : Walk J n G Y) {g : TG} {σ0 : L2.St} {H0 : Hp} {Qd : Hp → Prop} (B : (Hp → Prop) → L2.St → Hp → Prop) (Pv : Nat → Hp → Prop) (h0 : Pv 0 H0) (hG : ∀ i H, i ≤ n → Pv i H → G H)
    (hs : ∀ i x H H', i < n → Pv i H → Y i H x H' → g x σ0 H' (B (Pv (i + 1)))) (hd : ∀ H, Pv n H → Qd H) :
    ∃ W : Nat → Nat → Hp → Prop, (∃ m, W 0 m H0) ∧ ∀ i m H, W i m H → (J.stop i H ∧ Qd H) ∨ (J.go i H ∧ ∃ Nx : Hp → Prop, (∀ H', Nx H' → ∃ m', m' < m ∧ W (i + 1) m' H') ∧ ∀ x H', J.yld i H x H' → g x σ0 H' (B Nx)) := by
  refine ⟨fun i m H => m = n - i ∧ i ≤ n ∧ Pv i H, ⟨n, by simp, Nat.zero_le _, h0⟩, ?_⟩
  rintro i m H ⟨rfl, hi, hp⟩
  have hg := hG i H hi hp
  rcases Nat.lt_or_eq_of_le hi with hlt | rfl
  · exact .inr ⟨wk.goes i H hlt hg, Pv (i + 1), fun H' p' => ⟨n - (i + 1), by omega, rfl, hlt, p'⟩, fun x H' y => hs i x H H' hlt hp (wk.yields i H x H' hlt hg y)⟩
  · exact .inl ⟨wk.stops H hg, hd H hp⟩
theorem nV_len' (l : List Nat) : (nV l).length = l.length := List.length_map _
/-! ## a state in the heap: a tuple of its own, of tuples of its own -/
def RowsAt (H : Hp) : List V → Sta → Prop := Paired fun u r => ∃ c : Addr, u = .ref c ∧ H c = some (.tup (nV r))
def StaAt (H : Hp) (a : Addr) (L : Sta) : Prop := ∃ us, H a = some (.tup us) ∧ RowsAt H us L
theorem RowsAt.keep {H H' : Hp} (e : ∀ a us, H a = some (.tup us) → H' a = some (.tup us)) {us : List V} {L : Sta} (h : RowsAt H us L) : RowsAt H' us L := by
  unfold RowsAt at h ⊢
  induction h with
  | nil => exact .nil
  | cons a r ih =>
    obtain ⟨c, rfl, hc⟩ := a
    exact .cons ⟨c, rfl, e _ _ hc⟩ ih
theorem StaAt.keep {H H' : Hp} (e : ∀ a us, H a = some (.tup us) → H' a = some (.tup us)) {a : Addr} {L : Sta} (h : StaAt H a L) : StaAt H' a L := by
  obtain ⟨us, h1, h2⟩ := h
  exact ⟨us, e _ _ h1, h2.keep e⟩
theorem StaAt.same {H H' : Hp} {a : Addr} {L : Sta} (h : StaAt H a L) (e : Same H H') : StaAt H' a L := h.keep fun _ _ z => e _ _ z
theorem RowsAt.len {H : Hp} {us : List V} {L : Sta} (h : RowsAt H us L) : us.length = L.length := Paired.length h
theorem RowsAt.at {H : Hp} {us : List V} {L : Sta} (h : RowsAt H us L) : ∀ {i : Nat} {u : V}, us[i]? = some u → ∃ c r, L[i]? = some r ∧ u = .ref c ∧ H c = some (.tup (nV r)) := by
  unfold RowsAt at h
  induction h with
  | nil => intro i u e; exact nomatch e
  | @cons v r vs rs a t ih =>
    intro i u e
    cases i with
    | zero =>
      obtain rfl : v = u := Option.some.inj e
      obtain ⟨c, h1, h2⟩ := a
      exact ⟨c, r, rfl, h1, h2⟩
    | succ i => exact ih e
theorem RowsAt.add {H : Hp} {us : List V} {L : Sta} (h : RowsAt H us L) {c : Addr} {r : List Nat} (hc : H c = some (.tup (nV r))) : RowsAt H (us ++ [.ref c]) (L ++ [r]) := Paired.snoc h ⟨c, rfl, hc⟩
abbrev sD (L : Sta) : PyData := .tuple (tDs (L.map nI))
theorem RowsAt.dp {H : Hp} {K : PySem.W.Frag} {us : List V} {L : Sta} (h : RowsAt H us L) : DpAll K H us (tDs (L.map nI)) := by
  unfold RowsAt at h
  induction h with
  | nil => exact .nil
  | cons a r ih =>
    obtain ⟨c, rfl, hc⟩ := a
    rw [nV_eq] at hc
    exact .cons (.tup (.inl (.inl hc)) (dpInts _)) ih
theorem StaAt.dp {H : Hp} {K : PySem.W.Frag} {a : Addr} {L : Sta} (h : StaAt H a L) : Dp K H (.ref a) (sD L) := by
  obtain ⟨us, h1, h2⟩ := h
  exact .tup (.inl (.inl h1)) h2.dp
theorem nI_inj : ∀ {x y : List Nat}, nI x = nI y → x = y
  | [], [], _ => rfl
  | [], _ :: _, h => nomatch h
  | _ :: _, [], h => nomatch h
  | a :: x, b :: y, h => by
    obtain ⟨h1, h2⟩ := List.cons.inj h
    have h1 : (a : Int) = (b : Int) := h1
    rw [nI_inj h2, show a = b by omega]
theorem mapI_inj : ∀ {x y : Sta}, x.map nI = y.map nI → x = y
  | [], [], _ => rfl
  | [], _ :: _, h => nomatch h
  | _ :: _, [], h => nomatch h
  | a :: x, b :: y, h => by
    obtain ⟨h1, h2⟩ := List.cons.inj h
    rw [mapI_inj h2, nI_inj h1]
theorem eqv_sD (L M : Sta) : PyData.eqv (sD L) (sD M) = decide (L = M) := by
  rw [PyData.eqv, eqv_tDs]
  by_cases h : L = M
  · rw [h, decide_eq_true rfl, decide_eq_true rfl]
  · rw [decide_eq_false h, decide_eq_false fun z => h (mapI_inj z)]
/-! ### as a key -/
def nk (L : Sta) : NestedKey := .tup (L.map fun r => .tup (r.map fun d : Nat => .num (d : Int)))
theorem keys_num (H : Hp) : ∀ (r : List Nat), KeyAll H (r.map fun d : Nat => NestedKey.num (d : Int)) (nV r)
  | [] => .no
  | d :: r => .on (.int (d : Int)) (keys_num H r)
theorem RowsAt.keys {H : Hp} {us : List V} {L : Sta} (h : RowsAt H us L) : KeyAll H (L.map fun r => NestedKey.tup (r.map fun d : Nat => .num (d : Int))) us := by
  unfold RowsAt at h
  induction h with
  | nil => exact .no
  | cons a r ih =>
    obtain ⟨c, rfl, hc⟩ := a
    exact .on (.tup hc (keys_num H _)) ih
theorem StaAt.key {H : Hp} {a : Addr} {L : Sta} (h : StaAt H a L) : KeyAt H (nk L) (.ref a) := by
  obtain ⟨us, h1, h2⟩ := h
  exact .tup h1 h2.keys
theorem depth_nums : ∀ (r : List Nat), NestedKey.depthAll (r.map fun d : Nat => NestedKey.num (d : Int)) = 0
  | [] => by rw [List.map_nil, NestedKey.depthAll]
  | d :: r => by rw [List.map_cons, NestedKey.depthAll, depth_nums r, NestedKey.depth]; rfl
theorem depth_rows : ∀ (L : Sta), NestedKey.depthAll (L.map fun r => NestedKey.tup (r.map fun d : Nat => .num (d : Int))) ≤ 1
  | [] => by rw [List.map_nil, NestedKey.depthAll]; omega
  | r :: L => by
    rw [List.map_cons, NestedKey.depthAll, NestedKey.depth, depth_nums r]
    exact Nat.max_le.mpr ⟨Nat.le_refl _, depth_rows L⟩
theorem nk_deep (L : Sta) : (nk L).depth ≤ 8 := by
  unfold nk
  rw [NestedKey.depth]
  have := depth_rows L
  omega
theorem num_inj : ∀ {x y : List Nat}, (x.map fun d : Nat => NestedKey.num (d : Int)) = (y.map fun d : Nat => NestedKey.num (d : Int)) → x = y
  | [], [], _ => rfl
  | [], _ :: _, h => nomatch h
  | _ :: _, [], h => nomatch h
  | a :: x, b :: y, h => by
    obtain ⟨h1, h2⟩ := List.cons.inj h
    have := NestedKey.num.inj h1
    rw [num_inj h2, show a = b by omega]
theorem rows_inj : ∀ {x y : Sta}, (x.map fun r => NestedKey.tup (r.map fun d : Nat => .num (d : Int))) = (y.map fun r => NestedKey.tup (r.map fun d : Nat => .num (d : Int))) → x = y
  | [], [], _ => rfl
  | [], _ :: _, h => nomatch h
  | _ :: _, [], h => nomatch h
  | a :: x, b :: y, h => by
    obtain ⟨h1, h2⟩ := List.cons.inj h
    rw [rows_inj h2, num_inj (NestedKey.tup.inj h1)]
theorem nk_inj {L M : Sta} (h : nk L = nk M) : L = M := rows_inj (NestedKey.tup.inj h)
section
variable {P : Program} {w : World} {K : PySem.W.Frag} {mg : Str → Option Value} {base : Heap}
/-! ### _ascending -/
def spAsc (K : PySem.W.Frag) : Sp := fun vs H Q _ => ∃ (l : Addr) (ns : List Int), vs = [.ref l] ∧ SqL K H l (ns.map V.int) ∧ ns.length ≤ 4000 ∧ (∀ z ∈ ns, 0 ≤ z ∧ z < 60) ∧ ∀ H' t, Same H H' → H t = none → H' t = some (.tup (nV (ascL ns))) → Q (.ref t) H'
theorem ok_ascending {f : Addr} {fd : FuncData} {k : Nat} (F : Fun K "_ascending" "_ascending" s_ascending f fd) (m1 : mg "tuple" = none) (m2 : mg "sorted" = none) (m3 : mg "set" = none) : FnOk P w K mg base CX0 (k + 1) f fd ["numbers"] (spAsc K) := by
  refine F.ok sc_ascending (fun vs H Q E h => ?_) (fun cdv A outer s H vs Q E hr h => ?_)
  · obtain ⟨l, ns, rfl, _⟩ := h; rfl
  · obtain ⟨l, ns, rfl, hl, ln, hz, q⟩ := h
    refine ⟨_, pss_one (ps_ret (pe_callTy call_tuple_of (by rfl) m1 (by decide +kernel) (pa_cons (pe_callB (cr_sortedSet rfl) (by rfl) m2 (by decide +kernel) (pa_cons (pe_callTy (cr_setL rfl) (by rfl) m3 (by decide +kernel) (pa_cons (pv 0) pa_nil)) pa_nil)) pa_nil))), ?_⟩
    refine ⟨.ref l, rfl, l, ns, rfl, hl, ln, fun p n np hn => ?_⟩
    have e1 := same_new (o := SetO w p (fun j => decide (j ∈ ns)) n) np
    have hn60 : n ≤ 60 := by
      have := hn ((List.range 60).map fun d : Nat => (d : Int)) fun k hk => by
        have := hz k hk
        exact List.mem_map.mpr ⟨k.toNat, List.mem_range.mpr (by omega), Int.toNat_of_nonneg this.1⟩
      rw [List.length_map, List.length_range] at this
      exact this
    refine ⟨p, _, n, rfl, upd_same, by omega, fun ms r hms hmem hlen nr => ?_⟩
    have e2 := same_new (o := .lst (ms.map V.int)) nr
    have em : ms = nI (ascL ns) := ascL_uniq hms (fun z => by rw [hmem, decide_eq_true_eq]) hz
    refine ⟨r, _, rfl, .inl ⟨.of upd_same, fun t nt => ?_⟩⟩
    have e3 := same_new (o := .tup (ms.map V.int)) nt
    refine q _ t ((e1.trans e2).trans e3) (freeS (e1.trans e2) nt) ?_
    rw [upd_same, em, ← nV_eq]
/-! ### _delays -/
abbrev delOne (k : Nat) (ago : Int) (bs : List Nat) : List Int := (bs.filter fun b : Nat => decide (ago ≤ (b : Int))).map fun b : Nat => (b : Int) - ago
def delAll (ws : List (List Int)) (k : Nat) (sts : List (Int × Nat)) : List Int := sts.flatMap fun s => delOne k s.1 (barsN (wkS ws s.2) (wkS ws k))
abbrev pairD (s : Int × Nat) : PyData := .tuple [.int s.1, .int (s.2 : Nat)]
def spDelays (K : PySem.W.Frag) (C : Addr) : Sp := fun vs H Q _ => ∃ (a l : Addr) (ws : List (List Int)) (sts : List (Int × Nat)) (us : List V) (k : Nat), vs = [.ref a, .ref l, .int k] ∧ LineAt K C H a ws ∧ H l = some (.lst us) ∧ TpAll K H us (sts.map pairD) ∧ (∀ s ∈ sts, s.2 < ws.length) ∧ k < ws.length ∧ sts.length ≤ 60 ∧
  ∀ H' D, Same H H' → H D = none → H' D = some (.lst ((delAll ws k sts).map V.int)) → Q (.ref D) H'
theorem barsN_len60 {one other : List Int} (h : one.length ≤ 60) : (barsN one other).length ≤ 60 := by
  have := barsTo_len one other (one.length - 1)
  exact Nat.le_trans this (by omega)
abbrev delN : List Str := ["line", "started", "kind", "ago", "other", "bar"]
theorem ok_delays {f C : Addr} {fd : FuncData} {k : Nat} (F : Fun K "_delays" "_delays" s_delays f fd) (M : Meths P w K mg base k C) : FnOk P w K mg base CX0 (k + 3) f fd ["line", "started", "kind"] (spDelays K C) := by
  refine F.ok sc_delays (fun vs H Q E h => ?_) (fun cdv A outer s H vs Q E hr h => ?_)
  · obtain ⟨a, l, ws, sts, us, kk, rfl, _⟩ := h; rfl
  · obtain ⟨a, l, ws, sts, us, kk, rfl, hL, hl, hT, hs, hk, l60, q⟩ := h
    refine ⟨_, pss_one (ps_ret (pe_lc2 (own := [("ago", 3), ("other", 4), ("bar", 5)]) (vs1 := [5]) (g := gTup K 2 (gCons (gName 3) (gCons (gName 4) gNil))) (g1 := gName 5) (tt := tYes) rfl sc_delays.nd (pi_list (pv 1))
          (blkOk_by (N := delN) (sc := defScope s_delays) (by decide +kernel)) (by decide)
          (fun _ _ _ _ _ => pg_tup rfl (pgs_cons (pg_name (i := 3) sc_delays.nd rfl (Or.inl rfl)) (pgs_cons (pg_name (i := 4) sc_delays.nd rfl (Or.inl rfl)) pgs_nil)))
          (fun _ _ _ _ _ => pts_nil)
          (fun _ _ _ _ _ => pi_tupK (K := K) rfl (M.pCall (K := K) rfl hr (pv 0) (pa_cons (pv 4) (pa_cons (pv 2) pa_nil))))
          (fun _ _ _ _ _ => pg_name (i := 5) sc_delays.nd rfl (Or.inl rfl))
          (fun _ _ _ _ _ => pts_one (pt_cmpR op_ge (pv 5) (pv 3) (nomark _)))
          (fun _ _ _ _ _ => pe_op op_sub (pv 5) (pv 3)))), ?_⟩
    have big : 4000 ≤ sizeLine := by rw [sizeLine_eq]; decide
    have w60 : ∀ o, (barsN (wkS ws o) (wkS ws kk)).length ≤ 60 := fun o => by
      refine barsN_len60 ?_
      unfold wkS
      rw [List.getD_eq_getElem?_getD]
      rcases e : ws[o]? with _ | x
      · exact Nat.zero_le _
      · exact (hL.good.work x (List.mem_of_getElem? e)).most
    have lus : us.length = sts.length := by have := hT.len; rwa [List.length_map] at this
    have lall : ∀ (ss : List (Int × Nat)), (delAll ws kk ss).length ≤ 60 * ss.length := by
      intro ss
      induction ss with
      | nil => exact Nat.le_refl _
      | cons s r ih =>
        show (delOne kk s.1 (barsN (wkS ws s.2) (wkS ws kk)) ++ delAll ws kk r).length ≤ _
        rw [List.length_append, List.length_cons]
        have h1 : (delOne kk s.1 (barsN (wkS ws s.2) (wkS ws kk))).length ≤ 60 := by
          rw [List.length_map]
          exact Nat.le_trans (List.length_filter_le _ _) (w60 _)
        omega
    refine ⟨.ref l, rfl, l, rfl, ⟨_, .of hl⟩, fun D nD => ?_⟩
    refine it_any (walk_list (K := K) (a := l) (xs := us)) _ (fun i H' => Same H H' ∧ H' D = some (.lst ((delAll ws kk (sts.take i)).map V.int))) ⟨same_new nD, upd_same⟩ (fun i H' _ h => .of (h.1 _ _ hl)) (fun i x H2 H' hi h hY => ?_) (fun H' h => ?_)
    · obtain ⟨e2, hD2⟩ := h
      obtain ⟨rfl, hx⟩ := hY
      obtain ⟨dd, hdd, tt⟩ := hT.at hx
      rw [List.getElem?_map] at hdd
      obtain ⟨s, hs2, rfl⟩ := Option.map_eq_some_iff.mp hdd
      obtain ⟨c, rfl, hc⟩ := Tp.toInts (ns := [s.1, (s.2 : Nat)]) tt
      have hso := hs s (List.mem_of_getElem? hs2)
      have hil := (List.getElem?_eq_some_iff.mp hs2).1
      obtain ⟨x1, hx1⟩ : ∃ x, ws[s.2]? = some x := ⟨ws[s.2], List.getElem?_eq_getElem hso⟩
      obtain ⟨x2, hx2⟩ : ∃ x, ws[kk]? = some x := ⟨ws[kk], List.getElem?_eq_getElem hk⟩
      have ex1 : wkS ws s.2 = x1 := by unfold wkS; rw [List.getD_eq_getElem?_getD, hx1]; rfl
      have ex2 : wkS ws kk = x2 := by unfold wkS; rw [List.getD_eq_getElem?_getD, hx2]; rfl
      have etk : delAll ws kk (sts.take (i + 1)) = delAll ws kk (sts.take i) ++ delOne kk s.1 (barsN x1 x2) := by
        rw [List.take_add_one, hs2]
        unfold delAll
        rw [List.flatMap_append, ← ex1, ← ex2]
        show _ ++ (delOne kk s.1 _ ++ []) = _
        rw [List.append_nil]
      have l1 := lall (sts.take i)
      rw [List.length_take] at l1
      refine ⟨c, _, rfl, Same.tup e2 hc, rfl, _, _, rfl, _, _, rfl, rfl, rfl, .ref a, rfl, a, rfl, .int (s.2 : Nat), rfl, .int (kk : Nat), rfl, ws, s.2, kk, x1, x2, rfl, hL.stay (.of e2), hx1, hx2, fun b hb => ?_⟩
      refine ⟨b, rfl, ⟨_, hb⟩, ?_⟩
      refine it_any (walk_tup (K := K) (a := b) (xs := nV (barsN x1 x2))) _ (fun j H' => Same H H' ∧ SqT K H' b (nV (barsN x1 x2)) ∧ H' D = some (.lst ((delAll ws kk (sts.take i) ++ delOne kk s.1 ((barsN x1 x2).take j)).map V.int)))
        ⟨e2, hb, by rw [show delOne kk s.1 ((barsN x1 x2).take 0) = [] from rfl, List.append_nil]; exact hD2⟩ (fun j H' _ h => h.2.1) (fun j x H3 H' hj h hY => ?_) (fun H' h => ?_)
      · obtain ⟨e3, hb3, hD3⟩ := h
        obtain ⟨rfl, hx⟩ := hY
        rw [List.getElem?_map] at hx
        obtain ⟨d, hd, rfl⟩ := Option.map_eq_some_iff.mp hx
        have hjl := (List.getElem?_eq_some_iff.mp hd).1
        have htk : (barsN x1 x2).take (j + 1) = (barsN x1 x2).take j ++ [d] := by rw [List.take_add_one, hd]; rfl
        have hb60 : (barsN x1 x2).length ≤ 60 := by rw [← ex1, ← ex2]; exact w60 _
        refine ⟨rfl, .int (d : Nat), rfl, .int s.1, rfl, _, _, rfl, rfl, _, rfl, ite2 (fun e => ?_) (fun e => ?_)⟩
        · have e' : s.1 ≤ (d : Int) := of_decide_eq_true e
          have edel : delOne kk s.1 ((barsN x1 x2).take (j + 1)) = delOne kk s.1 ((barsN x1 x2).take j) ++ [(d : Int) - s.1] := by
            rw [htk]
            show (((barsN x1 x2).take j ++ [d]).filter _).map _ = _
            rw [List.filter_append, List.map_append, show [d].filter (fun b : Nat => decide (s.1 ≤ (b : Int))) = [d] from List.filter_cons_of_pos (decide_eq_true e')]
            rfl
          refine ⟨.int (d : Nat), rfl, .int s.1, rfl, _, _, rfl, rfl, _, hD3, ?_, fun y o z => ?_, tup_upd hD3 (fun _ z => nomatch z) (fun _ _ z => nomatch z) hb3, ?_⟩
          · rw [List.length_map, List.length_append, List.length_map]
            have := List.length_filter_le (fun b : Nat => decide (s.1 ≤ (b : Int))) ((barsN x1 x2).take j)
            rw [List.length_take] at this
            omega
          · rw [upd_ne (ne_of_none z nD)]
            exact e3 _ _ z
          · rw [upd_same, edel, ← List.append_assoc, List.map_append (l₂ := [(d : Int) - s.1])]
            rfl
        · have e' : ¬ s.1 ≤ (d : Int) := fun z => e (decide_eq_true z)
          have edel : delOne kk s.1 ((barsN x1 x2).take (j + 1)) = delOne kk s.1 ((barsN x1 x2).take j) := by
            rw [htk]
            show (((barsN x1 x2).take j ++ [d]).filter _).map _ = _
            rw [List.filter_append, show [d].filter (fun b : Nat => decide (s.1 ≤ (b : Int))) = [] from List.filter_cons_of_neg (by rw [decide_eq_true_eq]; exact e'), List.append_nil]
          refine ⟨e3, hb3, ?_⟩
          rw [edel]
          exact hD3
      · obtain ⟨e3, _, hD3⟩ := h
        refine ⟨e3, ?_⟩
        rw [nV_len', List.take_length] at hD3
        rw [etk]
        exact hD3
    · rw [lus, List.take_length] at h
      exact q H' D h.1 nD h.2
end
end Sg
set_option Elab.async false
set_option linter.all false
set_option maxRecDepth 100000
set_option maxHeartbeats 4000000
namespace Sg
open PySem PySem.Spec PyProof.Rows L2 StX
/-! ## one tick on -/
def chI : Option Nat → Int
  | none => -1
  | some k => k
def stsOf : Option Nat → List (Int × Nat)
  | none => []
  | some k => [(1, k)]
def keptI (r : List Nat) : List Int := (r.filter fun d => decide (0 < d)).map fun d : Nat => (d : Int) - 1
theorem keptI_mem {r : List Nat} {z : Int} : z ∈ keptI r ↔ ∃ d ∈ r, 0 < d ∧ z = (d : Int) - 1 := by
  unfold keptI
  constructor
  · intro h
    obtain ⟨d, hd, rfl⟩ := List.mem_map.mp h
    obtain ⟨h1, h2⟩ := List.mem_filter.mp hd
    exact ⟨d, h1, of_decide_eq_true h2, rfl⟩
  · rintro ⟨d, h1, h2, rfl⟩
    exact List.mem_map.mpr ⟨d, List.mem_filter.mpr ⟨h1, decide_eq_true h2⟩, rfl⟩
theorem delAll_mem {ws : List (List Int)} {k : Nat} {sts : List (Int × Nat)} {z : Int} : z ∈ delAll ws k sts ↔ ∃ s ∈ sts, ∃ b ∈ barsN (wkS ws s.2) (wkS ws k), s.1 ≤ (b : Int) ∧ z = (b : Int) - s.1 := by
  unfold delAll
  rw [List.mem_flatMap]
  constructor
  · rintro ⟨s, hs, h⟩
    obtain ⟨b, hb, rfl⟩ := List.mem_map.mp h
    obtain ⟨h1, h2⟩ := List.mem_filter.mp hb
    exact ⟨s, hs, b, h1, of_decide_eq_true h2, rfl⟩
  · rintro ⟨s, hs, b, hb, h1, rfl⟩
    exact ⟨s, hs, List.mem_map.mpr ⟨b, List.mem_filter.mpr ⟨hb, decide_eq_true h1⟩, rfl⟩⟩
theorem next_asc {ws : List (List Int)} {L : Sta} {c : Option Nat} {k : Nat} : (List.range 60).filter (nextB ws L c k) = ascL (keptI (rowS L k) ++ delAll ws k (stsOf c)) := by
  unfold ascL
  refine List.filter_congr fun d _ => ?_
  rw [Bool.eq_iff_iff]
  unfold nextB
  rw [Bool.or_eq_true, decide_eq_true_eq, decide_eq_true_eq, List.mem_append, keptI_mem, delAll_mem]
  constructor
  · rintro (h | h)
    · exact .inl ⟨d + 1, h, by omega, by omega⟩
    · right
      cases c with
      | none => cases h
      | some o => exact ⟨(1, o), List.mem_singleton.mpr rfl, d + 1, of_decide_eq_true h, by show (1 : Int) ≤ _; omega, by show _ = _ - (1 : Int); omega⟩
  · rintro (⟨e, h1, h2, h3⟩ | ⟨s, hs, b, hb, h1, h2⟩)
    · left
      rw [show d + 1 = e by omega]; exact h1
    · right
      cases c with
      | none => exact nomatch hs
      | some o =>
        obtain rfl := List.mem_singleton.mp hs
        have h1 : (1 : Int) ≤ (b : Int) := h1
        have h2 : (d : Int) = (b : Int) - 1 := h2
        refine decide_eq_true ?_
        rw [show d + 1 = b by omega]
        exact hb
theorem rowS_at {L : Sta} {k : Nat} {r : List Nat} (h : L[k]? = some r) : rowS L k = r := by
  unfold rowS
  rw [List.getD_eq_getElem?_getD, h]; rfl
section
variable {P : Program} {w : World} {K : PySem.W.Frag} {mg : Str → Option Value} {base : Heap}
/-! ### _behind -/
def spBehind (K : PySem.W.Frag) (C : Addr) : Sp := fun vs H Q _ => ∃ (a s : Addr) (ws : List (List Int)) (L : Sta) (c : Option Nat) (R : Nat), vs = [.ref a, .ref s, .int (chI c)] ∧ LineAt K C H a ws ∧ StaAt H s L ∧ Rea ws R ∧ R ≤ 60 ∧ FormL ws R L ∧ (∀ k, c = some k → k < ws.length) ∧
  ∀ H' t, Same H H' → H t = none → StaAt H' t (nextL ws L c) → Q (.ref t) H'
abbrev behN : List Str := ["line", "state", "choice", "started", "found", "kind", "delays", "kept", "delay"]
theorem ok_behind {f f1 f2 C : Addr} {fd fd1 fd2 : FuncData} {k : Nat} (F : Fun K "_behind" "_behind" s_behind f fd) (nN : ∃ t, mg "NOTHING" = some (.int (-1) t))
    (G1 : FnOk P w K mg base CX0 k f1 fd1 ["line", "started", "kind"] (spDelays K C)) (kp1 : PySem.W.keepIn K (.ref f1) = true) (b1 : Binds K fd1 ["line", "started", "kind"] []) (g1 : mg "_delays" = some (.ref f1))
    (G2 : FnOk P w K mg base CX0 k f2 fd2 ["numbers"] (spAsc K)) (kp2 : PySem.W.keepIn K (.ref f2) = true) (b2 : Binds K fd2 ["numbers"] []) (g2 : mg "_ascending" = some (.ref f2))
    (m1 : mg "enumerate" = none) (m2 : mg "tuple" = none) : FnOk P w K mg base CX0 (k + 1) f fd ["line", "state", "choice"] (spBehind K C) := by
  obtain ⟨tN, nN⟩ := nN
  refine F.ok sc_behind (fun vs H Q E h => ?_) (fun cdv A outer s H vs Q E hr h => ?_)
  · obtain ⟨a, s, ws, L, c, R, rfl, _⟩ := h; rfl
  · obtain ⟨a, st, ws, L, c, R, rfl, hL, hS, hR, R6, hF, hc, q⟩ := h
    refine ⟨_, pss_cons (ps_set (i := 3) sc_behind.nd rfl (.inl rfl) (pe_ifExp (pt_cmpR op_eq (pv 2) (pe_glob (v := .int (-1)) (by rfl) nN ⟨_, rfl⟩) (nomark _)) (pe_lst pa_nil) (pe_lst (pa_cons (pe_tup (pa_cons pe_int (pa_cons (pv 2) pa_nil))) pa_nil))))
      (pss_cons (ps_set (i := 4) sc_behind.nd rfl (.inl rfl) (pe_lst pa_nil))
      (pss_cons (ps_for PassesOwn.never rfl (pi_enumT (by rfl) m1 (pa_cons (pv 1) pa_nil)) (pg_tup rfl (pgs_cons (pg_name (i := 5) sc_behind.nd rfl (.inl rfl)) (pgs_cons (pg_name (i := 6) sc_behind.nd rfl (.inl rfl)) pgs_nil)))
        (pss_cons (ps_setLc (i := 7) (own := [("delay", 8)]) (g := gName 8) (by rfl) sc_behind.nd rfl rfl (sw_true rfl rfl rfl (by decide +kernel)) (pi_tup (pv 6)) (blkOk_by (N := behN) (sc := defScope s_behind) (by decide +kernel))
          (fun _ _ _ _ _ => pg_name (i := 8) sc_behind.nd rfl (Or.inl rfl)) (fun _ _ _ _ _ => pts_one (pt_cmpR op_gt (pv 8) pe_int (nomark _))) (fun _ _ _ _ _ => pe_op op_sub (pv 8) pe_int))
        (pss_one (ps_expr (pe_bm PySem.F.plainAttrs_list PySem.F.slot_list_append PySem.F.type_list_append mt_append (pv 4) (pa_cons (pe_call G2 hr (by rfl) g2 kp2 b2 .nil pass0 (pa_cons
          (pe_op op_cat (pv 7) (pe_call G1 hr (by rfl) g1 kp1 b1 .nil pass0 (pa_cons (pv 0) (pa_cons (pv 3) (pa_cons (pv 5) pa_nil))))) pa_nil)) pa_nil))))))
      (pss_one (ps_ret (pe_callTy call_tuple_of (by rfl) m2 (by decide +kernel) (pa_cons (pv 4) pa_nil)))))), ?_⟩
    have big : 4000 ≤ sizeLine := by rw [sizeLine_eq]; decide
    have few := hL.good.few
    obtain ⟨us, hus, hrows⟩ := hS
    have lus := hrows.len
    have ll := hF.len
    -- the started pieces
    refine ⟨.int (chI c), rfl, rfl, _, rfl, ite2 (fun e => ?a) (fun e => ?b)⟩
    case' a =>
      have c0 : c = none := by
        cases c with
        | none => rfl
        | some k => have h : ((k : Nat) : Int) = -1 := V.int.inj (of_decide_eq_true e); omega
      refine ⟨by show 0 ≤ sizeLine; omega, fun l nl => ?_⟩
      have e1 : Same H (L2.upd H l (.lst [])) := same_new nl
      have hl1 := upd_same (H := H) (a := l) (o := .lst [])
      have hT1 : TpAll K (L2.upd H l (.lst [])) [] ((stsOf c).map pairD) := by rw [c0]; exact .no
      generalize L2.upd H l (.lst []) = H1 at e1 hl1 hT1 ⊢
      obtain ⟨vs1, hv1⟩ : ∃ vs1 : List V, vs1 = [] := ⟨_, rfl⟩
      rw [← hv1] at hl1 hT1
    case' b =>
      obtain ⟨kk, ck⟩ : ∃ kk, c = some kk := by
        cases c with
        | none => exact absurd (decide_eq_true rfl) e
        | some k => exact ⟨k, rfl⟩
      refine ⟨.int (chI c), rfl, by show 2 ≤ sizeLine; omega, fun t nt => ?_⟩
      have s1 := same_new (o := .tup [V.int 1, .int (chI c)]) nt
      have ht1 := upd_same (H := H) (a := t) (o := .tup [V.int 1, .int (chI c)])
      generalize L2.upd H t (.tup [V.int 1, .int (chI c)]) = H0 at s1 ht1 ⊢
      refine ⟨by show 1 ≤ sizeLine; omega, fun l nl => ?_⟩
      have s2 := same_new (o := .lst [V.ref t]) nl
      have hl1 := upd_same (H := H0) (a := l) (o := .lst [V.ref t])
      have ht2 := s2 _ _ ht1
      have e1 := s1.trans s2
      generalize L2.upd H0 l (.lst [V.ref t]) = H1 at s2 hl1 ht2 e1 ⊢
      have hT1 : TpAll K H1 [V.ref t] ((stsOf c).map pairD) := by
        rw [ck] at ht2 ⊢
        exact .on (Tp.ofInts (ns := [1, (kk : Nat)]) (.of ht2)) .no
      obtain ⟨vs1, hv1⟩ : ∃ vs1 : List V, vs1 = [V.ref t] := ⟨_, rfl⟩
      rw [← hv1] at hl1 hT1
      clear nl ht1 ht2 s1 s2 nt
    all_goals
      refine ⟨by show 0 ≤ sizeLine; omega, fun D nD => ?_⟩
      have e2 := same_new (o := .lst []) nD
      have hD2 := upd_same (H := H1) (a := D) (o := .lst [])
      have nDH : H D = none := freeS e1 nD
      have nDl : l ≠ D := ne_of_none hl1 nD
      have hl2 := e2 _ _ hl1
      have e12 := e1.trans e2
      have hT2 := hT1.stay (.of e2)
      generalize L2.upd H1 D (.lst []) = H2 at e2 hD2 hl2 e12 hT2 ⊢
      refine ⟨.ref st, rfl, st, us, rfl, .inl (.inl (e12 _ _ hus)), ?_⟩
      refine for_it (walk_enumT (xs := us)) (fun i σ H' => ∃ v5 v6 v7 v8 vs, σ = [some (.ref a), some (.ref st), some (.int (chI c)), some (.ref l), some (.ref D), v5, v6, v7, v8] ∧ Same H H' ∧ H' l = some (.lst vs1) ∧ TpAll K H' vs1 ((stsOf c).map pairD) ∧ H' D = some (.lst vs) ∧ RowsAt H' vs ((nextL ws L c).take i) ∧ vs.length = i)
        ⟨_, _, _, _, [], rfl, e12, hl2, hT2, hD2, .nil, rfl⟩ (fun i σ H' _ h => ?_) (fun i y σ H' H'' hi h hY => ?_) (fun σ H' h => ?_)
      · obtain ⟨_, _, _, _, _, _, e, _⟩ := h
        exact .inl (.inl (e _ _ hus))
      · obtain ⟨v5, v6, v7, v8, vs, rfl, e3, hl3, hT3, hD3, hr3, lv⟩ := h
        obtain ⟨T, x1, x2, rfl, nT, rfl, f1', f2'⟩ := hY
        dsimp only at f1' f2'
        cases f1'
        obtain ⟨cr, r, hr1, rfl, hcr⟩ := hrows.at f2'
        have hil := (List.getElem?_eq_some_iff.mp hr1).1
        have hrow := rowS_at hr1
        have hrlen := hF.row_len R6 r (List.mem_of_getElem? hr1)
        have hrlt := hF.lt r (List.mem_of_getElem? hr1)
        have eT : Same H' (upd H' T (.tup [V.int (i : Nat), .ref cr])) := same_new nT
        refine ⟨T, _, rfl, .of upd_same, rfl, _, _, rfl, _, _, rfl, rfl, ?_⟩
        have e4 := e3.trans eT
        have hl4 := eT _ _ hl3
        have hT4 := hT3.stay (.of eT)
        have hD4 := eT _ _ hD3
        have hr4 := hr3.keep fun _ _ z => eT _ _ z
        have hcr4 := e4 _ _ hcr
        generalize upd H' T (.tup [V.int (i : Nat), .ref cr]) = H4 at e4 hl4 hT4 hD4 hr4 hcr4 ⊢
        refine ⟨.ref cr, rfl, cr, rfl, ⟨_, .inl (.inl hcr4)⟩, fun G nG => ?_⟩
        refine lc_tup (xs := nV r) (fun j H' => Same H4 H' ∧ H' G = some (.lst ((keptI (r.take j)).map V.int))) ⟨same_new nG, upd_same⟩ (fun j H' _ h => .inl (.inl (h.1 _ _ hcr4))) (fun j y H' hy h => ?_) (fun H5 h => ?_)
        · rw [List.getElem?_map] at hy
          obtain ⟨d, hd, rfl⟩ := Option.map_eq_some_iff.mp hy
          have hj := (List.getElem?_eq_some_iff.mp hd).1
          have htk : r.take (j + 1) = r.take j ++ [d] := by rw [List.take_add_one, hd]; rfl
          refine ⟨rfl, .int (d : Nat), rfl, _, _, rfl, rfl, _, rfl, ite2 (fun e => ?_) (fun e => ?_)⟩
          · have e' : 0 < d := by have : (0 : Int) < (d : Int) := of_decide_eq_true e; omega
            have ek : keptI (r.take (j + 1)) = keptI (r.take j) ++ [(d : Int) - 1] := by
              unfold keptI
              rw [htk, List.filter_append, List.map_append, show [d].filter (fun d => decide (0 < d)) = [d] from List.filter_cons_of_pos (decide_eq_true e')]; rfl
            refine ⟨.int (d : Nat), rfl, _, _, rfl, rfl, _, h.2, ?_, fun b o z => ?_, ?_⟩
            · unfold keptI
              rw [List.length_map, List.length_map]
              have := List.length_filter_le (fun d => decide (0 < d)) (r.take j)
              rw [List.length_take] at this
              omega
            · rw [upd_ne (ne_of_none z nG)]
              exact h.1 _ _ z
            · rw [upd_same, ek, List.map_append]; rfl
          · have e' : ¬ 0 < d := fun z => e (decide_eq_true (by show (0 : Int) < (d : Int); omega))
            have ek : keptI (r.take (j + 1)) = keptI (r.take j) := by
              unfold keptI
              rw [htk, List.filter_append, show [d].filter (fun d => decide (0 < d)) = [] from List.filter_cons_of_neg (by rw [decide_eq_true_eq]; exact e'), List.append_nil]
            refine ⟨h.1, ?_⟩
            rw [ek]; exact h.2
        · obtain ⟨e5, hG5⟩ := h
          rw [nV_len', List.take_length] at hG5
          have e45 := e4.trans e5
          have hD5 := e5 _ _ hD4
          have hl5 := e5 _ _ hl4
          have hT5 := hT4.stay (.of e5)
          have kI : (keptI r).length ≤ R := by
            unfold keptI
            rw [List.length_map]
            exact Nat.le_trans (List.length_filter_le _ _) hrlen
          have lst1 : (stsOf c).length ≤ 1 := by cases c <;> simp [stsOf]
          have hin : i < ws.length := by omega
          refine ⟨.ref D, rfl, .inl ⟨rfl, _, .of hD5⟩, .ref G, rfl, .ref a, rfl, .ref l, rfl, .int (i : Nat), rfl, a, l, ws, stsOf c, vs1, i, rfl, hL.stay (.of e45), hl5, hT5, fun s hs => ?_, hin, by omega, fun H6 D6 e6 n6 hD6 => ?_⟩
          · cases c with
            | none => exact nomatch hs
            | some k =>
              rw [List.mem_singleton.mp hs]
              exact hc k rfl
          have ldel : (delAll ws i (stsOf c)).length ≤ 60 := by
            cases c with
            | none => exact Nat.zero_le _
            | some k =>
              show (delOne i 1 _ ++ []).length ≤ 60
              rw [List.append_nil, List.length_map]
              refine Nat.le_trans (List.length_filter_le _ _) (barsN_len60 ?_)
              unfold wkS
              rw [List.getD_eq_getElem?_getD]
              rcases e : ws[k]? with _ | x
              · exact Nat.zero_le _
              · exact (hL.good.work x (List.mem_of_getElem? e)).most
          refine ⟨G, D6, _, _, rfl, rfl, e6 _ _ hG5, hD6, by rw [List.length_map, List.length_map]; omega, fun p np => ?_⟩
          rw [← List.map_append]
          have e7 := same_new (o := .lst ((keptI r ++ delAll ws i (stsOf c)).map V.int)) np
          have hp7 := upd_same (H := H6) (a := p) (o := .lst ((keptI r ++ delAll ws i (stsOf c)).map V.int))
          generalize L2.upd H6 p (.lst ((keptI r ++ delAll ws i (stsOf c)).map V.int)) = H7 at e7 hp7 ⊢
          refine ⟨p, keptI r ++ delAll ws i (stsOf c), rfl, .of hp7, by rw [List.length_append]; omega, fun z hz => ?_, fun H8 t e8 nt8 ht8 => ?_⟩
          · rcases List.mem_append.mp hz with h | h
            · obtain ⟨d, hd, h0, rfl⟩ := keptI_mem.mp h
              have := hrlt d hd
              omega
            · obtain ⟨s, hs, b, hb, h1, rfl⟩ := delAll_mem.mp h
              have hb2 := hR _ _ _ hb
              cases c with
              | none => exact nomatch hs
              | some k =>
                obtain rfl := List.mem_singleton.mp hs
                show 0 ≤ (b : Int) - 1 ∧ (b : Int) - 1 < 60
                have h1 : (1 : Int) ≤ (b : Int) := h1
                omega
          have e58 := (e6.trans e7).trans e8
          have hD8 := e58 _ _ hD5
          have hl8 := e58 _ _ hl5
          have e48 := e45.trans e58
          rw [← hrow, ← next_asc] at ht8
          refine ⟨D, _, _, rfl, rfl, hD8, by rw [lv]; omega, ?_⟩
          have keepT : ∀ b us, H8 b = some (.tup us) → (L2.upd H8 D (.lst (vs ++ [.ref t]))) b = some (.tup us) := fun b us z => by
            rw [upd_ne (ne_of z hD8 (fun c => nomatch c))]
            exact z
          refine ⟨_, _, _, _, vs ++ [.ref t], rfl, fun b o z => ?_, ?_, ?_, upd_same, ?_, by rw [List.length_append, lv]; rfl⟩
          · rw [upd_ne (ne_of_none z nDH)]
            exact e48 _ _ z
          · rw [upd_ne nDl]; exact hl8
          · refine (hT5.stay (.of e58)).stayT fun b xs z => tup_upd hD8 (fun _ z => nomatch z) (fun _ _ z => nomatch z) z
          · have etk : (nextL ws L c).take (i + 1) = (nextL ws L c).take i ++ [(List.range 60).filter (nextB ws L c i)] := by
              rw [List.take_add_one]
              unfold nextL
              rw [List.getElem?_map, List.getElem?_range hin]; rfl
            rw [etk]
            exact ((hr4.keep fun _ _ z => e58 _ _ (e5 _ _ z)).keep keepT).add (keepT _ _ ht8)
      · obtain ⟨v5, v6, v7, v8, vs, rfl, e3, hl3, hT3, hD3, hr3, lv⟩ := h
        rw [lus, ll, List.take_of_length_le (by rw [nextL_len]; exact Nat.le_refl _)] at hr3
        refine ⟨.ref D, rfl, D, _, rfl, .inl ⟨.of hD3, fun t nt => ?_⟩⟩
        have et := same_new (o := .tup vs) nt
        exact q _ t (e3.trans et) (freeS e3 nt) ⟨vs, upd_same, hr3.keep fun _ _ z => et _ _ z⟩
end
end Sg
set_option Elab.async false
set_option linter.all false
set_option maxRecDepth 100000
set_option maxHeartbeats 4000000
namespace Sg
open PySem PySem.Spec PyProof.Rows L2 StX
section
variable {P : Program} {w : World} {K : PySem.W.Frag} {mg : Str → Option Value} {base : Heap}
/-! ### _open_choices -/
/-- the choices as values -/
abbrev chV (ks : List Nat) : List V := V.int (-1) :: nV ks
def spOpen (K : PySem.W.Frag) : Sp := fun vs H Q _ => ∃ (s : Addr) (ws : List (List Int)) (L : Sta) (R : Nat), vs = [.ref s] ∧ StaAt H s L ∧ FormL ws R L ∧ R ≤ 60 ∧ ws.length ≤ 3 ∧
  ∀ H' t, Same H H' → H t = none → H' t = some (.tup (chV (openL ws L))) → Q (.ref t) H'
abbrev openN : List Str := ["state", "kinds", "kind", "delays"]
theorem openL_take {ws : List (List Int)} {L : Sta} (i : Nat) : ((List.range (i + 1)).filter fun k => !decide (0 ∈ rowS L k)) = ((List.range i).filter fun k => !decide (0 ∈ rowS L k)) ++ (if 0 ∈ rowS L i then [] else [i]) := by
  rw [List.range_succ, List.filter_append]
  congr 1
  by_cases h : 0 ∈ rowS L i
  · rw [if_pos h, List.filter_cons_of_neg (by rw [decide_eq_true h]; decide)]; rfl
  · rw [if_neg h, List.filter_cons_of_pos (by rw [decide_eq_false h]; rfl)]; rfl
theorem inV_zero (r : List Nat) : inV (.int 0) (nV r) = decide (0 ∈ r) := by
  unfold inV
  rw [Bool.eq_iff_iff, List.any_eq_true, decide_eq_true_eq]
  constructor
  · rintro ⟨v, hv, e⟩
    obtain ⟨b, hb, rfl⟩ := List.mem_map.mp hv
    have : (b : Int) = 0 := by simpa [eqV] using e
    rw [show 0 = b by omega]
    exact hb
  · intro h
    exact ⟨_, List.mem_map.mpr ⟨0, h, rfl⟩, by simp [eqV]⟩
theorem flat_nV (bs : List Nat) : (nV bs).all flatV = true := by
  rw [List.all_eq_true]
  intro v hv
  obtain ⟨b, _, rfl⟩ := List.mem_map.mp hv
  rfl
theorem ok_open_choices {f : Addr} {fd : FuncData} {k : Nat} (F : Fun K "_open_choices" "_open_choices" s_open_choices f fd) (nN : ∃ t, mg "NOTHING" = some (.int (-1) t)) (m1 : mg "enumerate" = none) :
    FnOk P w K mg base CX0 (k + 1) f fd ["state"] (spOpen K) := by
  obtain ⟨tN, nN⟩ := nN
  refine F.ok sc_open_choices (fun vs H Q E h => ?_) (fun cdv A outer s H vs Q E hr h => ?_)
  · obtain ⟨s, ws, L, R, rfl, _⟩ := h; rfl
  · obtain ⟨st, ws, L, R, rfl, hS, hF, R6, few, q⟩ := h
    refine ⟨_, pss_cons (ps_setLc (i := 1) (own := [("kind", 2), ("delays", 3)]) (g := gTup K 2 (gCons (gName 2) (gCons (gName 3) gNil))) (by rfl) sc_open_choices.nd rfl rfl (sw_true rfl rfl rfl (by decide +kernel)) (pi_enumT (by rfl) m1 (pa_cons (pv 0) pa_nil))
          (blkOk_by (N := openN) (sc := defScope s_open_choices) (by decide +kernel))
          (fun _ _ _ _ _ => pg_tup rfl (pgs_cons (pg_name (i := 2) sc_open_choices.nd rfl (Or.inl rfl)) (pgs_cons (pg_name (i := 3) sc_open_choices.nd rfl (Or.inl rfl)) pgs_nil)))
          (fun _ _ _ _ _ => pts_one (pt_cmpR (op_notInK (K := K) rfl) pe_int (pv 3) (by with_unfolding_all rfl)))
          (fun _ _ _ _ _ => pv 2))
      (pss_one (ps_ret (pe_tup (pa_cons (pe_glob (v := .int (-1)) (by rfl) nN ⟨_, rfl⟩) (pa_star (pv 1) pa_nil))))), ?_⟩
    have big : 4000 ≤ sizeLine := by rw [sizeLine_eq]; decide
    obtain ⟨us, hus, hrows⟩ := hS
    have lus := hrows.len
    have ll := hF.len
    refine ⟨.ref st, rfl, st, us, rfl, .inl (.inl hus), fun D nD => ?_⟩
    refine it_any (walk_enumT (xs := us)) _ (fun i H' => Same H H' ∧ H' D = some (.lst (nV ((List.range i).filter fun k => !decide (0 ∈ rowS L k))))) ⟨same_new nD, upd_same⟩ (fun i H' _ h => .inl (.inl (h.1 _ _ hus))) (fun i x H2 H' hi h hY => ?_) (fun H' h => ?_)
    · obtain ⟨e2, hD2⟩ := h
      obtain ⟨T, x1, x2, rfl, nT, rfl, f1', f2'⟩ := hY
      dsimp only at f1' f2'
      cases f1'
      obtain ⟨cr, r, hr1, rfl, hcr⟩ := hrows.at f2'
      have hrow := rowS_at hr1
      have eT : Same H2 (upd H2 T (.tup [V.int (i : Nat), .ref cr])) := same_new nT
      have hTT : (upd H2 T (.tup [V.int (i : Nat), .ref cr])) T = some (.tup [V.int (i : Nat), .ref cr]) := upd_same
      have hD3 := eT _ _ hD2
      have e3 := e2.trans eT
      have hcr3 := e3 _ _ hcr
      generalize upd H2 T (.tup [V.int (i : Nat), .ref cr]) = H3 at eT hTT hD3 e3 hcr3 ⊢
      refine ⟨T, _, rfl, .of hTT, rfl, _, _, rfl, _, _, rfl, rfl, rfl, .ref cr, rfl, cr, _, rfl, .inr (.inl (.inl hcr3)), rfl, flat_nV r, ?_⟩
      rw [if_pos rfl, inV_zero, ← hrow]
      refine ⟨_, rfl, ite2 (fun e => ?_) (fun e => ?_)⟩
      · have e' : ¬ 0 ∈ rowS L i := by rwa [Bool.not_eq_true', decide_eq_false_iff_not] at e
        refine ⟨.int (i : Nat), rfl, _, hD3, ?_, fun b o z => ?_, ?_⟩
        · unfold nV
          rw [List.length_map]
          have := List.length_filter_le (fun k => !decide (0 ∈ rowS L k)) (List.range i)
          rw [List.length_range] at this
          omega
        · rw [upd_ne (ne_of_none z nD)]
          exact e3 _ _ z
        · rw [upd_same, openL_take (ws := ws), if_neg e']
          unfold nV
          rw [List.map_append]; rfl
      · have e' : 0 ∈ rowS L i := by
          rw [Bool.not_eq_true', decide_eq_false_iff_not] at e
          exact Classical.byContradiction e
        refine ⟨e3, ?_⟩
        rw [openL_take (ws := ws), if_pos e', List.append_nil]
        exact hD3
    · obtain ⟨e2, hD2⟩ := h
      rw [lus, ll] at hD2
      refine ⟨.ref D, rfl, D, _, rfl, .inr (.of hD2), ?_, fun t nt => ?_⟩
      · unfold nV
        rw [List.append_nil, List.length_cons, List.length_map]
        have := List.length_filter_le (fun k => !decide (0 ∈ rowS L k)) (List.range ws.length)
        rw [List.length_range] at this
        omega
      · have et := same_new (o := .tup (V.int (-1) :: (nV ((List.range ws.length).filter fun k => !decide (0 ∈ rowS L k)) ++ []))) nt
        refine q _ t (e2.trans et) (freeS e2 nt) ?_
        rw [upd_same, List.append_nil]
        rfl
/-! ### _empty_state -/
def spEmpty (K : PySem.W.Frag) (C : Addr) : Sp := fun vs H Q _ => ∃ (a : Addr) (ws : List (List Int)), vs = [.ref a] ∧ LineAt K C H a ws ∧ ∀ H' t, Same H H' → H t = none → StaAt H' t (emptyL ws) → Q (.ref t) H'
theorem rows_rep {H : Hp} {c : Addr} (hc : H c = some (.tup [])) : ∀ n, RowsAt H (List.replicate n (V.ref c)) (List.replicate n [])
  | 0 => .nil
  | n + 1 => .cons ⟨c, rfl, hc⟩ (rows_rep hc n)
theorem flat_one (n : Nat) (v : V) : (List.replicate n [v]).flatten = List.replicate n v := by
  induction n with
  | zero => rfl
  | succ n ih => rw [List.replicate_succ, List.flatten_cons, ih]; rfl
theorem ok_empty_state {f C : Addr} {fd : FuncData} {k : Nat} (F : Fun K "_empty_state" "_empty_state" s_empty_state f fd) (M : Meths P w K mg base k C) (m1 : mg "len" = none) : FnOk P w K mg base CX0 (k + 3) f fd ["line"] (spEmpty K C) := by
  refine F.ok sc_empty_state (fun vs H Q E h => ?_) (fun cdv A outer s H vs Q E hr h => ?_)
  · obtain ⟨a, ws, rfl, _⟩ := h; rfl
  · obtain ⟨a, ws, rfl, hL, q⟩ := h
    refine ⟨_, pss_one (ps_ret (pe_op op_repN (pe_tup (pa_cons (pe_tup pa_nil) pa_nil)) (pe_callB (cLenK (K := K) M rfl hr) (by rfl) m1 PySem.boot_len (pa_cons (pv 0) pa_nil)))), ?_⟩
    have few := hL.good.few
    refine ⟨by show 0 ≤ sizeLine; decide, fun c nc => ?_⟩
    have e1 : Same H (L2.upd H c (.tup [])) := same_new nc
    have hc1 := upd_same (H := H) (a := c) (o := .tup [])
    generalize L2.upd H c (.tup []) = H1 at e1 hc1 ⊢
    refine ⟨by show 1 ≤ sizeLine; decide, fun t nt => ?_⟩
    have e2 : Same H1 (L2.upd H1 t (.tup [V.ref c])) := same_new nt
    have ht2 := upd_same (H := H1) (a := t) (o := .tup [V.ref c])
    have hc2 := e2 _ _ hc1
    have ntH : H t = none := freeS e1 nt
    generalize L2.upd H1 t (.tup [V.ref c]) = H2 at e2 ht2 hc2 ⊢
    have e12 := e1.trans e2
    refine ⟨.ref a, rfl, a, ws, rfl, hL.stay (.of e12), t, ws.length, [V.ref c], rfl, rfl, .inl (.inl ht2), by simp, by omega, by show 1 ≤ 1000; decide, fun h1 => ?_, fun h1 p np => ?_⟩
    · refine q H2 t e12 ntH ⟨_, ht2, ?_⟩
      unfold emptyL
      rw [h1]
      exact rows_rep hc2 1
    · have e3 := same_new (o := .tup (List.replicate ws.length [V.ref c]).flatten) np
      refine q _ p (e12.trans e3) (freeS e12 np) ⟨_, upd_same, ?_⟩
      have hh := rows_rep (e3 _ _ hc2) ws.length
      rw [flat_one] at hh ⊢
      exact hh
end
end Sg
set_option Elab.async false
set_option linter.all false
set_option maxRecDepth 100000
set_option maxHeartbeats 4000000
namespace Sg
open PySem PySem.Spec PyProof.Rows L2 StX
/-! ## rows and lists of states -/
def HasL (rs : List Row) (L : Sta) : Prop := ∃ r ∈ rs, r.1 = nk L
theorem atN_some {rs : List Row} {L : Sta} : (atN rs (nk L)).isSome = true ↔ HasL rs L := by
  unfold atN HasL
  rw [Option.isSome_map, List.find?_isSome]
  constructor
  · rintro ⟨r, hr, e⟩; exact ⟨r, hr, of_decide_eq_true e⟩
  · rintro ⟨r, hr, e⟩; exact ⟨r, hr, decide_eq_true e⟩
theorem atN_none {rs : List Row} {L : Sta} (h : ¬ HasL rs L) : atN rs (nk L) = none := by
  rcases e : atN rs (nk L) with _ | v
  · rfl
  · exact absurd (atN_some.mp (by rw [e]; rfl)) h
structure RowsOk (H : Hp) (rs : List Row) (ws : List (List Int)) (R : Nat) : Prop where
  row : ∀ r ∈ rs, ∃ L, r.1 = nk L ∧ StaAt H r.2.1 L ∧ FormL ws R L
  nd : (rs.map (·.1)).Nodup
theorem RowsOk.keep {H H' : Hp} {rs : List Row} {ws : List (List Int)} {R : Nat} (h : RowsOk H rs ws R) (e : ∀ a us, H a = some (.tup us) → H' a = some (.tup us)) : RowsOk H' rs ws R :=
  ⟨fun r hr => let ⟨L, h1, h2, h3⟩ := h.row r hr; ⟨L, h1, h2.keep e, h3⟩, h.nd⟩
theorem RowsOk.keys {H : Hp} {rs : List Row} {ws : List (List Int)} {R : Nat} (h : RowsOk H rs ws R) : KeysIn H rs := fun r hr => by
  obtain ⟨L, h1, h2, h3⟩ := h.row r hr
  rw [h1]
  exact ⟨h2.key, nk_deep L⟩
theorem RowsOk.few {H : Hp} {rs : List Row} {ws : List (List Int)} {R : Nat} (h : RowsOk H rs ws R) (hn : NearR ws.length R) : rs.length ≤ 32768 := by
  have := nodup_len_le (rs.map (·.1)) ((allL ws R).map nk) h.nd fun k hk => by
    obtain ⟨r, hr, rfl⟩ := List.mem_map.mp hk
    obtain ⟨L, h1, _, h3⟩ := h.row r hr
    have R6 : R ≤ 60 := by rcases hn with ⟨_, h⟩ | ⟨_, h⟩ <;> omega
    exact List.mem_map.mpr ⟨L, h3.mem_all R6, h1.symm⟩
  rw [List.length_map, List.length_map] at this
  have := allL_len hn
  omega
theorem RowsOk.add {H : Hp} {rs : List Row} {ws : List (List Int)} {R : Nat} (h : RowsOk H rs ws R) {L : Sta} {b : Addr} {v : V} (hL : StaAt H b L) (hF : FormL ws R L) (n : ¬ HasL rs L) : RowsOk H (rs ++ [(nk L, b, v)]) ws R := by
  refine ⟨fun r hr => ?_, ?_⟩
  · rcases List.mem_append.mp hr with z | z
    · exact h.row r z
    · rw [List.mem_singleton.mp z]; exact ⟨L, rfl, hL, hF⟩
  · rw [List.map_append, List.nodup_append]
    refine ⟨h.nd, List.nodup_cons.mpr ⟨List.not_mem_nil, List.nodup_nil⟩, fun k hk k' hk' e => ?_⟩
    obtain ⟨r, hr, rfl⟩ := List.mem_map.mp hk
    obtain rfl := List.mem_singleton.mp hk'
    exact n ⟨r, hr, e⟩
/-- states in a list: where each stands -/
def StasAt (H : Hp) : List V → List Sta → Prop := Paired fun u L => ∃ b : Addr, u = .ref b ∧ StaAt H b L
theorem StasAt.keep {H H' : Hp} (e : ∀ a us, H a = some (.tup us) → H' a = some (.tup us)) {us : List V} {Ls : List Sta} (h : StasAt H us Ls) : StasAt H' us Ls := by
  unfold StasAt at h ⊢
  induction h with
  | nil => exact .nil
  | cons a r ih =>
    obtain ⟨c, rfl, hc⟩ := a
    exact .cons ⟨c, rfl, hc.keep e⟩ ih
theorem StasAt.add {H : Hp} {us : List V} {Ls : List Sta} (h : StasAt H us Ls) {b : Addr} {L : Sta} (hb : StaAt H b L) : StasAt H (us ++ [.ref b]) (Ls ++ [L]) := Paired.snoc h ⟨b, rfl, hb⟩
theorem StasAt.app {H : Hp} {us vs : List V} {Ls Ms : List Sta} (h : StasAt H us Ls) (g : StasAt H vs Ms) : StasAt H (us ++ vs) (Ls ++ Ms) := by
  unfold StasAt at h g ⊢
  induction h with
  | nil => exact g
  | cons a r ih => exact .cons a ih
theorem StasAt.len {H : Hp} {us : List V} {Ls : List Sta} (h : StasAt H us Ls) : us.length = Ls.length := Paired.length h
theorem StasAt.at {H : Hp} {us : List V} {Ls : List Sta} (h : StasAt H us Ls) : ∀ {i : Nat} {u : V}, us[i]? = some u → ∃ b L, Ls[i]? = some L ∧ u = .ref b ∧ StaAt H b L := by
  unfold StasAt at h
  induction h with
  | nil => intro i u e; exact nomatch e
  | @cons v r vs rs a t ih =>
    intro i u e
    cases i with
    | zero =>
      obtain rfl : v = u := Option.some.inj e
      obtain ⟨b, h1, h2⟩ := a
      exact ⟨b, r, rfl, h1, h2⟩
    | succ i => exact ih e
theorem StasAt.pop {H : Hp} {us : List V} {Ls : List Sta} (h : StasAt H us Ls) (h0 : us ≠ []) : ∃ ms b L, Ls = ms ++ [L] ∧ us[us.length - 1]? = some (.ref b) ∧ StaAt H b L ∧ StasAt H us.dropLast ms := by
  unfold StasAt at h ⊢
  induction h with
  | nil => exact absurd rfl h0
  | @cons v r vs rs a t ih =>
    obtain ⟨b, rfl, hb⟩ := a
    cases t with
    | nil => exact ⟨[], b, r, rfl, rfl, hb, .nil⟩
    | @cons v2 r2 vs2 rs2 a2 t2 =>
      obtain ⟨ms, b', L', e1, e2, h3, h4⟩ := ih (List.cons_ne_nil _ _)
      refine ⟨r :: ms, b', L', by rw [e1]; rfl, ?_, h3, .cons ⟨b, rfl, hb⟩ h4⟩
      exact e2
/-- all choices of a state -/
def chs (ws : List (List Int)) (L : Sta) : List (Option Nat) := none :: (openL ws L).map some
theorem chs_can {ws : List (List Int)} {L : Sta} {c : Option Nat} : c ∈ chs ws L ↔ CanL ws L c := by
  unfold chs
  rw [List.mem_cons]
  cases c with
  | none => exact ⟨fun _ => True.intro, fun _ => .inl rfl⟩
  | some k =>
    constructor
    · rintro (h | h)
      · exact nomatch h
      · obtain ⟨j, hj, e⟩ := List.mem_map.mp h
        obtain rfl := Option.some.inj e
        exact hj
    · intro h
      exact .inr (List.mem_map.mpr ⟨k, h, rfl⟩)
theorem chs_len {ws : List (List Int)} {L : Sta} : (chs ws L).length ≤ ws.length + 1 := by
  unfold chs openL
  rw [List.length_cons, List.length_map]
  have := List.length_filter_le (fun k => !decide (0 ∈ rowS L k)) (List.range ws.length)
  rw [List.length_range] at this
  omega
theorem chV_chs (ws : List (List Int)) (L : Sta) : chV (openL ws L) = (chs ws L).map fun c => V.int (chI c) := by
  unfold chs
  rw [List.map_cons, List.map_map]
  rfl
theorem CanL.lt {ws : List (List Int)} {L : Sta} {c : Option Nat} (h : CanL ws L c) : ∀ k, c = some k → k < ws.length := fun k e => by
  subst e
  exact List.mem_range.mp (List.mem_filter.mp h).1
/-- pairs (choice, state behind it) -/
def PairsAt (H : Hp) (ws : List (List Int)) (L : Sta) : List V → List (Option Nat) → Prop := Paired fun u c => ∃ t b : Addr, u = .ref t ∧ H t = some (.tup [V.int (chI c), .ref b]) ∧ StaAt H b (nextL ws L c)
theorem PairsAt.keep {H H' : Hp} {ws : List (List Int)} {L : Sta} (e : ∀ a us, H a = some (.tup us) → H' a = some (.tup us)) {us : List V} {cs : List (Option Nat)} (h : PairsAt H ws L us cs) : PairsAt H' ws L us cs := by
  unfold PairsAt at h ⊢
  induction h with
  | nil => exact .nil
  | cons a r ih =>
    obtain ⟨t, b, rfl, ht, hb⟩ := a
    exact .cons ⟨t, b, rfl, e _ _ ht, hb.keep e⟩ ih
theorem PairsAt.at {H : Hp} {ws : List (List Int)} {L : Sta} {us : List V} {cs : List (Option Nat)} (h : PairsAt H ws L us cs) : ∀ {i : Nat} {u : V}, us[i]? = some u → ∃ t b c, cs[i]? = some c ∧ u = .ref t ∧ H t = some (.tup [V.int (chI c), .ref b]) ∧ StaAt H b (nextL ws L c) := by
  unfold PairsAt at h
  induction h with
  | nil => intro i u e; exact nomatch e
  | @cons v r vs rs a t ih =>
    intro i u e
    cases i with
    | zero =>
      obtain rfl : v = u := Option.some.inj e
      obtain ⟨t, b, h1, h2, h3⟩ := a
      exact ⟨t, b, r, rfl, h1, h2, h3⟩
    | succ i => exact ih e
/-- a row of moves: a state that is reached, and the list of its pairs -/
def MvRow (H : Hp) (ws : List (List Int)) (r : Row) : Prop := ∃ L G gs, r.1 = nk L ∧ r.2.2 = V.ref G ∧ H G = some (.lst gs) ∧ PairsAt H ws L gs (chs ws L) ∧ Rchd ws L
def RowsV (W : Addr) (H : Hp) (ws : List (List Int)) (rs : List Row) : Prop := ∀ r ∈ rs, ∃ L G gs, r.1 = nk L ∧ r.2.2 = V.ref G ∧ G ≠ W ∧ H G = some (.lst gs) ∧ PairsAt H ws L gs (chs ws L) ∧ Rchd ws L
theorem RowsV.keep {W : Addr} {H H' : Hp} {ws : List (List Int)} {rs : List Row} (h : RowsV W H ws rs) (kt : ∀ c us, H c = some (.tup us) → H' c = some (.tup us)) (kl : ∀ c xs, c ≠ W → H c = some (.lst xs) → H' c = some (.lst xs)) : RowsV W H' ws rs := fun r hr => by
  obtain ⟨L, G, gs, a1, a2, a3, a4, a5, a6⟩ := h r hr
  exact ⟨L, G, gs, a1, a2, a3, kl _ _ a3 a4, a5.keep kt, a6⟩
section
variable {P : Program} {w : World} {K : PySem.W.Frag} {mg : Str → Option Value} {base : Heap}
/-! ### _moves -/
def spMoves (P : Program) (w : World) (K : PySem.W.Frag) (C : Addr) : Sp := fun vs H Q _ => ∃ (a : Addr) (ws : List (List Int)) (R : Nat), vs = [.ref a] ∧ LineAt K C H a ws ∧ Rea ws R ∧ NearR ws.length R ∧
  ∀ H' m rs, Same H H' → H' m = some (DN P w m rs) → RowsOk H' rs ws R → (∀ r ∈ rs, MvRow H' ws r) → (∀ L, Rchd ws L → HasL rs L) → Q (.ref m) H'
structure MInv (ws : List (List Int)) (rs : List Row) (Ls : List Sta) : Prop where
  first : HasL rs (emptyL ws) ∨ emptyL ws ∈ Ls
  closed : ∀ L c, HasL rs L → CanL ws L c → HasL rs (nextL ws L c) ∨ nextL ws L c ∈ Ls
abbrev movN : List Str := ["line", "moves", "waiting", "state", "choice", "_", "behind"]
theorem ok_moves {f f1 f2 f3 C : Addr} {fd fd1 fd2 fd3 : FuncData} {k : Nat} (F : Fun K "_moves" "_moves" s_moves f fd)
    (G1 : FnOk P w K mg base CX0 k f1 fd1 ["line"] (spEmpty K C)) (kp1 : PySem.W.keepIn K (.ref f1) = true) (b1 : Binds K fd1 ["line"] []) (g1 : mg "_empty_state" = some (.ref f1))
    (G2 : FnOk P w K mg base CX0 k f2 fd2 ["state"] (spOpen K)) (kp2 : PySem.W.keepIn K (.ref f2) = true) (b2 : Binds K fd2 ["state"] []) (g2 : mg "_open_choices" = some (.ref f2))
    (G3 : FnOk P w K mg base CX0 k f3 fd3 ["line", "state", "choice"] (spBehind K C)) (kp3 : PySem.W.keepIn K (.ref f3) = true) (b3 : Binds K fd3 ["line", "state", "choice"] []) (g3 : mg "_behind" = some (.ref f3)) :
    FnOk P w K mg base CX0 (k + 1) f fd ["line"] (spMoves P w K C) := by
  refine F.ok sc_moves (fun vs H Q E h => ?_) (fun cdv A outer s H vs Q E hr h => ?_)
  · obtain ⟨a, ws, R, rfl, _⟩ := h; rfl
  · obtain ⟨a, ws, R, rfl, hL, hR, hN, q⟩ := h
    have hu := hr.units
    refine ⟨_, pss_cons (ps_set (i := 1) sc_moves.nd rfl (.inl rfl) (pe_nnewK (P := P) (w := w) rfl rfl))
      (pss_cons (ps_set (i := 2) sc_moves.nd rfl (.inl rfl) (pe_lst (pa_cons (pe_call G1 hr (by rfl) g1 kp1 b1 .nil pass0 (pa_cons (pv 0) pa_nil)) pa_nil)))
      (pss_cons (ps_while PassesOwn.never (pt_truth (pv 2) (by intro _; rfl))
        (pss_cons (ps_set (i := 3) sc_moves.nd rfl (.inr rfl) (pe_bm0 PySem.F.plainAttrs_list PySem.F.slot_list_pop PySem.F.type_list_pop mt_pop (pv 2)))
        (pss_one (ps_if (pt_cmp (pc_nnotinK (P := P) (w := w) rfl rfl hu (pv 3) (pv 1)))
          (pss_cons (ps_nputK (P := P) (w := w) rfl rfl hu (pv 1) (pv 3) (pe_lc (own := [("choice", 4)]) (g := gName 4) (tt := tYes) rfl sc_moves.nd (pi_tup (pe_call G2 hr (by rfl) g2 kp2 b2 .nil pass0 (pa_cons (pv 3) pa_nil))) (blkOk_by (N := movN) (sc := defScope s_moves) (by decide +kernel))
              (fun _ _ _ _ _ => pg_name (i := 4) sc_moves.nd rfl (Or.inl rfl)) (fun _ _ _ _ _ => pts_nil)
              (fun _ _ _ _ _ => pe_tup (pa_cons (pv 4) (pa_cons (pe_call G3 hr (by rfl) g3 kp3 b3 .nil pass0 (pa_cons (pv 0) (pa_cons (pv 3) (pa_cons (pv 4) pa_nil)))) pa_nil)))) (by rfl))
          (pss_one (ps_expr (pe_bm PySem.F.plainAttrs_list PySem.F.slot_list_extend PySem.F.type_list_extend mt_extend (pv 2) (pa_cons
              (pe_lc (own := [("_", 5), ("behind", 6)]) (g := gTup K 2 (gCons (gName 5) (gCons (gName 6) gNil))) (tt := tYes) rfl sc_moves.nd (pi_list (pe_ngetK (P := P) (w := w) rfl rfl hu (pv 1) (pv 3) (fun _ _ => rfl))) (blkOk_by (N := movN) (sc := defScope s_moves) (by decide +kernel))
                (fun _ _ _ _ _ => pg_tup rfl (pgs_cons (pg_name (i := 5) sc_moves.nd rfl (Or.inl rfl)) (pgs_cons (pg_name (i := 6) sc_moves.nd rfl (Or.inl rfl)) pgs_nil))) (fun _ _ _ _ _ => pts_nil)
                (fun _ _ _ _ _ => pv 6)) pa_nil))))) pss_nil))))
      (pss_one (ps_ret (pv 1))))), ?_⟩
    have big : 400000 ≤ sizeLine := by rw [sizeLine_eq]; decide
    have few := hL.good.few
    have R6 : R ≤ 60 := by rcases hN with ⟨_, h⟩ | ⟨_, h⟩ <;> omega
    refine fun Mv nM => ?_
    have e1 : Same H (L2.upd H Mv (DN P w Mv [])) := same_new nM
    have hM1 := upd_same (H := H) (a := Mv) (o := DN P w Mv [])
    have hL1 : LineAt K C (L2.upd H Mv (DN P w Mv [])) a ws := hL.stay (.of e1)
    generalize L2.upd H Mv (DN P w Mv []) = H1 at e1 hM1 hL1 ⊢
    refine ⟨.ref a, rfl, a, ws, rfl, hL1, fun H2 t0 e2 _ ht0 => ⟨by show 1 ≤ sizeLine; omega, fun W nW => ?_⟩⟩
    have e12 := e1.trans e2
    have e3 : Same H2 (L2.upd H2 W (.lst [.ref t0])) := same_new nW
    have hW3 := upd_same (H := H2) (a := W) (o := .lst [V.ref t0])
    have hM2 := e2 _ _ hM1
    have nMW : Mv ≠ W := ne_of_none hM2 nW
    have nWH : H W = none := freeS e12 nW
    have hM3 := e3 _ _ hM2
    have ht3 := ht0.same e3
    have e13 := e12.trans e3
    generalize L2.upd H2 W (.lst [.ref t0]) = H3 at e3 hW3 hM3 ht3 e13 ⊢
    refine ⟨fun m σ H' => ∃ v3 v4 v5 v6 rs wv Ls, σ = [some (.ref a), some (.ref Mv), some (.ref W), v3, v4, v5, v6] ∧ Same H H' ∧ H' Mv = some (DN P w Mv rs) ∧ RowsOk H' rs ws R ∧ RowsV W H' ws rs ∧ H' W = some (.lst wv) ∧ StasAt H' wv Ls ∧ (∀ L ∈ Ls, FormL ws R L ∧ Rchd ws L) ∧ MInv ws rs Ls ∧ wv.length + 4 * (32768 - rs.length) ≤ 200000 ∧ m = 5 * (32768 - rs.length) + wv.length,
      ⟨_, _, _, _, _, [], [.ref t0], [emptyL ws], rfl, e13, hM3, ⟨(fun r hr => nomatch hr), List.nodup_nil⟩, (fun r hr => nomatch hr), hW3, .cons ⟨t0, rfl, ht3⟩ .nil, fun L h => (by rw [List.mem_singleton.mp h]; exact ⟨FormL.empty ws R, Rchd.empty ws⟩), ⟨.inr (List.mem_singleton.mpr rfl), (fun L c ⟨r, hr, _⟩ => nomatch hr)⟩, by show 1 + 4 * 32768 ≤ 200000; decide, rfl⟩, ?_⟩
    rintro m σ H4 ⟨v3, v4, v5, v6, rs, wv, Ls, rfl, e4, hM4, hrs, hV, hW4, hLs, hfs, hinv, hmax, rfl⟩
    have rfew := hrs.few hN
    refine ⟨.ref W, rfl, !wv.isEmpty, .inl ⟨wv, .of hW4, rfl⟩, ?_⟩
    rcases hwv : wv with _ | ⟨u0, ur⟩
    · refine iteF ⟨.ref Mv, rfl, q H4 Mv rs e4 hM4 hrs (fun r hr => let ⟨L, G, gs, a1, a2, _, a4, a5, a6⟩ := hV r hr; ⟨L, G, gs, a1, a2, a4, a5, a6⟩) fun L hRc => ?_⟩
      have l0 : Ls = [] := List.eq_nil_of_length_eq_zero (by rw [← hLs.len, hwv]; rfl)
      refine hRc.closed (HasL rs) ?_ fun L c hL hc => ?_
      · exact hinv.first.resolve_right (by rw [l0]; exact fun z => nomatch z)
      · exact (hinv.closed L c hL hc).resolve_right (by rw [l0]; exact fun z => nomatch z)
    · rw [← hwv, show (!wv.isEmpty) = true from by rw [hwv]; rfl]
      refine iteT ?_
      have wne : wv ≠ [] := by rw [hwv]; exact List.cons_ne_nil _ _
      obtain ⟨ms, b, L, eLs, hlast, hbL, hms⟩ := hLs.pop wne
      obtain ⟨hFL, hRL⟩ := hfs L (by rw [eLs]; exact List.mem_append.mpr (.inr (List.mem_singleton.mpr rfl)))
      have hdl : wv.dropLast.length = wv.length - 1 := List.length_dropLast
      have wpos : 0 < wv.length := List.length_pos_iff.mpr wne
      refine ⟨fun σ' H' => ∃ v3 v4 v5 v6 rs' wv' Ls', σ' = [some (.ref a), some (.ref Mv), some (.ref W), v3, v4, v5, v6] ∧ Same H H' ∧ H' Mv = some (DN P w Mv rs') ∧ RowsOk H' rs' ws R ∧ RowsV W H' ws rs' ∧ H' W = some (.lst wv') ∧ StasAt H' wv' Ls' ∧ (∀ L ∈ Ls', FormL ws R L ∧ Rchd ws L) ∧ MInv ws rs' Ls' ∧ wv'.length + 4 * (32768 - rs'.length) ≤ 200000 ∧ 5 * (32768 - rs'.length) + wv'.length < 5 * (32768 - rs.length) + wv.length,
        fun σ' H' ⟨v3, v4, v5, v6, rs', wv', Ls', z1, z2, z3, z4, zz, z5, z6, z7, z8, z9, z10⟩ => ⟨_, z10, v3, v4, v5, v6, rs', wv', Ls', z1, z2, z3, z4, zz, z5, z6, z7, z8, z9, rfl⟩, ?_⟩
      refine ⟨.ref W, rfl, .inl ⟨rfl, _, .of hW4⟩, W, wv, .ref b, rfl, rfl, hW4, hlast, ?_⟩
      have keepT : ∀ c us, H4 c = some (.tup us) → (L2.upd H4 W (.lst wv.dropLast)) c = some (.tup us) := fun c us z => by
        rw [upd_ne (ne_of z hW4 (fun c => nomatch c))]; exact z
      have e5 : Same H (L2.upd H4 W (.lst wv.dropLast)) := fun c o z => by
        rw [upd_ne (ne_of_none z nWH)]; exact e4 _ _ z
      have hM5 : (L2.upd H4 W (.lst wv.dropLast)) Mv = some (DN P w Mv rs) := by rw [upd_ne nMW]; exact hM4
      have hW5 := upd_same (H := H4) (a := W) (o := .lst wv.dropLast)
      have hrs5 := hrs.keep keepT
      have hb5 := hbL.keep keepT
      have hms5 := hms.keep keepT
      have hV5 : RowsV W (L2.upd H4 W (.lst wv.dropLast)) ws rs := hV.keep keepT fun c xs nc z => by rw [upd_ne nc]; exact z
      generalize L2.upd H4 W (.lst wv.dropLast) = H5 at keepT e5 hM5 hW5 hrs5 hb5 hms5 hV5 ⊢
      refine ⟨.ref b, rfl, .ref Mv, rfl, Mv, b, nk L, rs, rfl, rfl, ⟨hM5, hrs5.keys, hb5.key, nk_deep L⟩, _, rfl, ?_⟩
      by_cases hin : HasL rs L
      · rw [atN_some.mpr hin]
        refine iteF ⟨_, _, _, _, rs, wv.dropLast, ms, rfl, e5, hM5, hrs5, hV5, hW5, hms5, fun L' h => hfs L' (by rw [eLs]; exact List.mem_append.mpr (.inl h)), ⟨?_, fun L' c h1 h2 => ?_⟩, by omega, by omega⟩
        · rcases hinv.first with h | h
          · exact .inl h
          · rw [eLs] at h
            rcases List.mem_append.mp h with h | h
            · exact .inr h
            · rw [List.mem_singleton.mp h]; exact .inl hin
        · rcases hinv.closed L' c h1 h2 with h | h
          · exact .inl h
          · rw [eLs] at h
            rcases List.mem_append.mp h with h | h
            · exact .inr h
            · rw [List.mem_singleton.mp h]; exact .inl hin
      · rw [atN_none hin]
        refine iteT ?_
        refine ⟨.ref b, rfl, b, ws, L, R, rfl, hb5, hFL, R6, few, fun H6 tc e6 _ htc => ⟨tc, rfl, ⟨_, .inl (.inl htc)⟩, fun G nG => ?_⟩⟩
        have e56 := e5.trans e6
        have nGH : H G = none := freeS e56 nG
        have lch := chs_len (ws := ws) (L := L)
        refine lc_tup (xs := chV (openL ws L)) (fun i H' => Same H6 H' ∧ ∃ gs, H' G = some (.lst gs) ∧ PairsAt H' ws L gs ((chs ws L).take i) ∧ gs.length = i) ⟨same_new nG, [], upd_same, .nil, rfl⟩ (fun i H' _ h => .inl (.inl (h.1 _ _ htc))) (fun i y H' hy h => ?_) (fun H7 h => ?_)
        · obtain ⟨e7, gs, hG7, hP7, lg⟩ := h
          rw [chV_chs, List.getElem?_map] at hy
          obtain ⟨c, hc, rfl⟩ := Option.map_eq_some_iff.mp hy
          have hil := (List.getElem?_eq_some_iff.mp hc).1
          have hcan := chs_can.mp (List.mem_of_getElem? hc)
          refine ⟨rfl, .int (chI c), rfl, .ref a, rfl, .ref b, rfl, .int (chI c), rfl, a, b, ws, L, c, R, rfl, hL.stay (.of (e56.trans e7)), hb5.same (e6.trans e7), hR, R6, hFL, hcan.lt, fun H8 t8 e8 _ ht8 => ⟨by show 2 ≤ sizeLine; omega, fun T nT => ?_⟩⟩
          have hG8 := e8 _ _ hG7
          have eT := same_new (o := .tup [V.int (chI c), .ref t8]) nT
          have hT9 := upd_same (H := H8) (a := T) (o := .tup [V.int (chI c), .ref t8])
          generalize L2.upd H8 T (.tup [V.int (chI c), .ref t8]) = H9 at eT hT9 ⊢
          have hG9 := eT _ _ hG8
          have keep9 : ∀ c us, H9 c = some (.tup us) → (L2.upd H9 G (.lst (gs ++ [.ref T]))) c = some (.tup us) := fun c us z => by
            rw [upd_ne (ne_of z hG9 (fun c => nomatch c))]; exact z
          refine ⟨gs, hG9, by rw [lg]; omega, fun x o z => ?_, gs ++ [.ref T], upd_same, ?_, by rw [List.length_append, lg]; rfl⟩
          · rw [upd_ne (ne_of_none z nG)]
            exact eT _ _ (e8 _ _ (e7 _ _ z))
          · rw [List.take_add_one, hc]
            exact Paired.snoc ((hP7.keep fun _ _ z => eT _ _ (e8 _ _ z)).keep keep9) ⟨T, t8, rfl, keep9 _ _ hT9, (ht8.same eT).keep keep9⟩
        · obtain ⟨e7, gs, hG7, hP7, lg⟩ := h
          rw [chV_chs, List.length_map] at hP7 lg
          rw [List.take_length] at hP7
          have e57 := e6.trans e7
          have eH7 := e5.trans e57
          have hM7 := e57 _ _ hM5
          have hW7 := e57 _ _ hW5
          have hrs7 := hrs5.keep fun _ _ z => e57 _ _ z
          have hb7 := hb5.same e57
          have hms7 := hms5.keep fun _ _ z => e57 _ _ z
          have hV7 : RowsV W H7 ws rs := hV5.keep (fun _ _ z => e57 _ _ z) fun _ _ _ z => e57 _ _ z
          refine ⟨.ref Mv, rfl, .ref b, rfl, Mv, b, nk L, rs, rfl, rfl, ⟨hM7, hrs7.keys, hb7.key, nk_deep L⟩, by omega, ?_⟩
          rw [storeN_new (atN_none hin)]
          have nMG : Mv ≠ G := ne_of_none (e6 _ _ hM5) nG
          have nWG : W ≠ G := ne_of_none (e6 _ _ hW5) nG
          have keep8 : ∀ c us, H7 c = some (.tup us) → (L2.upd H7 Mv (DN P w Mv (rs ++ [(nk L, b, .ref G)]))) c = some (.tup us) := fun c us z => by
            rw [upd_ne (ne_of z hM7 (fun c => nomatch c))]; exact z
          have e8 : Same H (L2.upd H7 Mv (DN P w Mv (rs ++ [(nk L, b, .ref G)]))) := fun c o z => by
            rw [upd_ne (ne_of_none z nM)]; exact eH7 _ _ z
          have hM8 := upd_same (H := H7) (a := Mv) (o := DN P w Mv (rs ++ [(nk L, b, .ref G)]))
          have hW8 : (L2.upd H7 Mv (DN P w Mv (rs ++ [(nk L, b, .ref G)]))) W = some (.lst wv.dropLast) := by rw [upd_ne nMW.symm]; exact hW7
          have hG8 : (L2.upd H7 Mv (DN P w Mv (rs ++ [(nk L, b, .ref G)]))) G = some (.lst gs) := by rw [upd_ne nMG.symm]; exact hG7
          have hb8 := hb7.keep keep8
          have hrs8 := (hrs7.keep keep8).add (v := .ref G) hb8 hFL hin
          have hms8 := hms7.keep keep8
          have hP8 := hP7.keep keep8
          have hV8 : RowsV W (L2.upd H7 Mv (DN P w Mv (rs ++ [(nk L, b, .ref G)]))) ws (rs ++ [(nk L, b, .ref G)]) := fun r hr => by
            rcases List.mem_append.mp hr with hr | hr
            · exact hV7.keep keep8 (fun c xs _ z => by rw [upd_ne (ne_of z hM7 (fun c => nomatch c))]; exact z) r hr
            · rw [List.mem_singleton.mp hr]
              exact ⟨L, G, gs, rfl, rfl, nWG.symm, hG8, hP8, hRL⟩
          generalize L2.upd H7 Mv (DN P w Mv (rs ++ [(nk L, b, .ref G)])) = H8 at keep8 e8 hM8 hW8 hG8 hb8 hrs8 hms8 hP8 hV8 ⊢
          have rfew8 := hrs8.few hN
          rw [List.length_append] at rfew8
          have rfew8 : rs.length + 1 ≤ 32768 := rfew8
          have hat : atN (rs ++ [(nk L, b, V.ref G)]) (nk L) = some (.ref G) := by
            have h0 : rs.find? (fun r => decide (r.1 = nk L)) = none := by
              have := atN_none hin
              unfold atN at this
              exact Option.map_eq_none_iff.mp this
            unfold atN
            rw [List.find?_append, h0, Option.none_or, show [(nk L, b, V.ref G)].find? (fun r => decide (r.1 = nk L)) = some (nk L, b, V.ref G) from List.find?_cons_of_pos (decide_eq_true rfl)]
            rfl
          refine ⟨.ref W, rfl, .inl ⟨rfl, _, .of hW8⟩, .ref Mv, rfl, .ref b, rfl, Mv, b, nk L, _, .ref G, rfl, rfl, ⟨hM8, hrs8.keys, hb8.key, nk_deep L⟩, hat, G, rfl, ⟨_, .of hG8⟩, fun D nD => ?_⟩
          have nWD : W ≠ D := ne_of_none hW8 nD
          refine lc_list (K := K) (a := G) (xs := gs) (fun i H' => Same H8 H' ∧ ∃ ds, H' D = some (.lst ds) ∧ StasAt H' ds (((chs ws L).take i).map (nextL ws L)) ∧ ds.length = i) ⟨same_new nD, [], upd_same, .nil, rfl⟩ (fun i H' _ h => .of (h.1 _ _ hG8)) (fun i y H' hy h => ?_) (fun H9 h => ?_)
          · obtain ⟨e9, ds, hD9, hS9, ld⟩ := h
            obtain ⟨t, bb, c, hc, rfl, ht, hbb⟩ := hP8.at hy
            have hil := (List.getElem?_eq_some_iff.mp hc).1
            refine ⟨t, _, rfl, .of (e9 _ _ ht), rfl, _, _, rfl, _, _, rfl, rfl, rfl, .ref bb, rfl, ds, hD9, by rw [ld]; omega, fun x o z => ?_, ds ++ [.ref bb], upd_same, ?_, by rw [List.length_append, ld]; rfl⟩
            · rw [upd_ne (ne_of_none z nD)]
              exact e9 _ _ z
            · have keepD : ∀ c us, H' c = some (.tup us) → (L2.upd H' D (.lst (ds ++ [.ref bb]))) c = some (.tup us) := fun c us z => by
                rw [upd_ne (ne_of z hD9 (fun c => nomatch c))]; exact z
              rw [List.take_add_one, hc, List.map_append]
              exact (hS9.keep keepD).add ((hbb.same e9).keep keepD)
          · obtain ⟨e9, ds, hD9, hS9, ld⟩ := h
            rw [lg] at hS9 ld
            rw [List.take_length] at hS9
            have hW9 := e9 _ _ hW8
            refine ⟨W, D, wv.dropLast, ds, rfl, rfl, hW9, hD9, by omega, ?_⟩
            have keepW : ∀ c us, H9 c = some (.tup us) → (L2.upd H9 W (.lst (wv.dropLast ++ ds))) c = some (.tup us) := fun c us z => by
              rw [upd_ne (ne_of z hW9 (fun c => nomatch c))]; exact z
            refine ⟨_, _, _, _, _, wv.dropLast ++ ds, ms ++ (chs ws L).map (nextL ws L), rfl, fun c o z => ?_, ?_, (hrs8.keep fun _ _ z => e9 _ _ z).keep keepW, (hV8.keep (fun _ _ z => e9 _ _ z) fun _ _ _ z => e9 _ _ z).keep keepW (fun c xs nc z => by rw [upd_ne nc]; exact z), upd_same, ((hms8.keep fun _ _ z => e9 _ _ z).app hS9).keep keepW, fun L' h => ?_, ⟨?_, fun L' c h1 h2 => ?_⟩, ?_, ?_⟩
            · rw [upd_ne (ne_of_none z nWH)]
              exact e9 _ _ (e8 _ _ z)
            · rw [upd_ne nMW]; exact e9 _ _ hM8
            · rcases List.mem_append.mp h with h | h
              · exact hfs L' (by rw [eLs]; exact List.mem_append.mpr (.inl h))
              · obtain ⟨c, hc, rfl⟩ := List.mem_map.mp h
                exact ⟨hFL.next hR c, hRL.next (chs_can.mp hc)⟩
            · rcases hinv.first with ⟨r, hr, e⟩ | h
              · exact .inl ⟨r, List.mem_append.mpr (.inl hr), e⟩
              · rw [eLs] at h
                rcases List.mem_append.mp h with h | h
                · exact .inr (List.mem_append.mpr (.inl h))
                · rw [List.mem_singleton.mp h]
                  exact .inl ⟨_, List.mem_append.mpr (.inr (List.mem_singleton.mpr rfl)), rfl⟩
            · obtain ⟨r, hr, e⟩ := h1
              rcases List.mem_append.mp hr with hr | hr
              · rcases hinv.closed L' c ⟨r, hr, e⟩ h2 with ⟨r', hr', e'⟩ | h
                · exact .inl ⟨r', List.mem_append.mpr (.inl hr'), e'⟩
                · rw [eLs] at h
                  rcases List.mem_append.mp h with h | h
                  · exact .inr (List.mem_append.mpr (.inl h))
                  · rw [List.mem_singleton.mp h]
                    exact .inl ⟨_, List.mem_append.mpr (.inr (List.mem_singleton.mpr rfl)), rfl⟩
              · rw [List.mem_singleton.mp hr] at e
                obtain rfl := nk_inj e
                exact .inr (List.mem_append.mpr (.inr (List.mem_map.mpr ⟨c, chs_can.mpr h2, rfl⟩)))
            · rw [List.length_append, List.length_append]
              show _ + 4 * (32768 - (rs.length + 1)) ≤ _
              omega
            · rw [List.length_append, List.length_append]
              show 5 * (32768 - (rs.length + 1)) + _ < _
              omega
end
end Sg
set_option Elab.async false
set_option linter.all false
set_option maxRecDepth 100000
set_option maxHeartbeats 4000000
namespace Sg
open PySem PySem.Spec PyProof.Rows L2 StX
/-! ## the reach -/
structure Reach (ws : List (List Int)) (R : Nat) : Prop where
  top : ∀ r, Top (allB ws ws) r → r = (R : Int)
  rea : Rea ws R
theorem max_key : ∀ (l : List Int) (a : Int), (l.foldl max a = a ∨ l.foldl max a ∈ l) ∧ a ≤ l.foldl max a ∧ ∀ x ∈ l, x ≤ l.foldl max a
  | [], a => ⟨.inl rfl, Int.le_refl _, fun x hx => nomatch hx⟩
  | b :: l, a => by
    obtain ⟨g1, g2, g3⟩ := max_key l (max a b)
    refine ⟨?_, by show a ≤ l.foldl max (max a b); omega, fun x hx => ?_⟩
    · show l.foldl max (max a b) = a ∨ l.foldl max (max a b) ∈ b :: l
      rcases g1 with g | g
      · rcases Int.le_total a b with z | z
        · right; rw [g, Int.max_eq_right z]; exact List.mem_cons_self
        · left; rw [g, Int.max_eq_left z]
      · exact .inr (List.mem_cons_of_mem _ g)
    · show x ≤ l.foldl max (max a b)
      rcases List.mem_cons.mp hx with rfl | z
      · omega
      · exact g3 x z
theorem top_is (l : List Int) : Top l (l.foldl max 0) := by
  obtain ⟨g1, g2, g3⟩ := max_key l 0
  exact ⟨g2, g3, g1⟩
theorem wkS_some {ws : List (List Int)} {o : Nat} {b : Nat} {x : List Int} (h : b ∈ barsN (wkS ws o) x) : ∃ y, ws[o]? = some y ∧ wkS ws o = y := by
  rcases e : ws[o]? with _ | y
  · have : wkS ws o = [] := by unfold wkS; rw [List.getD_eq_getElem?_getD, e]; rfl
    rw [this] at h
    exact nomatch h
  · exact ⟨y, rfl, by unfold wkS; rw [List.getD_eq_getElem?_getD, e]; rfl⟩
theorem bars_all {ws : List (List Int)} {o k b : Nat} (h : b ∈ barsN (wkS ws o) (wkS ws k)) : ((b : Nat) : Int) ∈ allB ws ws := by
  obtain ⟨y, hy, ey⟩ := wkS_some h
  have hz : ∃ z, ws[k]? = some z ∧ wkS ws k = z := by
    rcases e : ws[k]? with _ | z
    · have e0 : wkS ws k = [] := by unfold wkS; rw [List.getD_eq_getElem?_getD, e]; rfl
      rw [e0] at h
      have hc := (List.mem_filter.mp h).2
      obtain ⟨j, x, _, h2, _⟩ := clashB_iff.mp hc
      exact nomatch h2
    · exact ⟨z, rfl, by unfold wkS; rw [List.getD_eq_getElem?_getD, e]; rfl⟩
  obtain ⟨z, hz, ez⟩ := hz
  rw [ey, ez] at h
  unfold allB
  refine List.mem_flatMap.mpr ⟨y, List.mem_of_getElem? hy, ?_⟩
  unfold rowB
  exact List.mem_flatMap.mpr ⟨z, List.mem_of_getElem? hz, List.mem_map.mpr ⟨b, h, rfl⟩⟩
theorem exists_reach (ws : List (List Int)) : ∃ R, Reach ws R := by
  have h := top_is (allB ws ws)
  refine ⟨((allB ws ws).foldl max 0).toNat, fun r hr => ?_, fun o k b hb => ?_⟩
  · rw [Int.toNat_of_nonneg h.pos]
    exact hr.uniq h fun _ => Iff.rfl
  · have := h.le _ (bars_all hb)
    omega
section
variable {P : Program} {w : World} {K : PySem.W.Frag} {mg : Str → Option Value} {base : Heap}
/-! ### require_near -/
def spReqNear (K : PySem.W.Frag) (C : Addr) : Sp := fun vs H Q _ => ∃ (a : Addr) (ws : List (List Int)) (R : Nat), vs = [.ref a, .int 8, .int 5] ∧ LineAt K C H a ws ∧ Reach ws R ∧ NearR ws.length R ∧ Q .non H
theorem ok_require_near {f f1 C : Addr} {fd fd1 : FuncData} {k : Nat} {dvs : List V} {kws : List (Str × V)} (F : FunD K "require_near" "require_near" (defArgs s_require_near) (defBody s_require_near) (defScope s_require_near) dvs kws f fd) (M : Meths P w K mg base k C)
    (G1 : FnOk P w K mg base CX0 (k + 2) f1 fd1 ["thing"] (spReqLine K C)) (kp1 : PySem.W.keepIn K (.ref f1) = true) (b1 : Binds K fd1 ["thing"] []) (g1 : mg "require_line" = some (.ref f1)) (m1 : mg "len" = none) :
    FnOk P w K mg base CX0 (k + 3) f fd ["line", "of_one", "of_several"] (spReqNear K C) := by
  refine F.ok sc_require_near (fun vs H Q E h => ?_) (fun cdv A outer s H vs Q E hr h => ?_)
  · obtain ⟨a, ws, R, rfl, _⟩ := h; rfl
  · obtain ⟨a, ws, R, rfl, hL, hR, hN, q⟩ := h
    refine ⟨_, pss_cons (ps_expr (pe_call G1 hr (by rfl) g1 kp1 b1 .nil pass0 (pa_cons (pv 0) pa_nil)))
      (pss_cons (ps_set (i := 3) sc_require_near.nd rfl (.inl rfl) (pe_ifExp (pt_cmpR op_eq (pe_callB (cLenK (K := K) M rfl hr) (by rfl) m1 PySem.boot_len (pa_cons (pv 0) pa_nil)) pe_int (nomark _)) (pv 1) (pv 2)))
      (pss_one (ps_if (pt_cmpR op_gt (M.pReach (K := K) rfl hr (pv 0)) (pv 3) (nomark _)) (pss_one ps_never) pss_nil))), ?_⟩
    have few := hL.good.few
    refine ⟨.ref a, rfl, a, _, rfl, hL, .ref a, rfl, a, _, rfl, hL, rfl, _, rfl, ite2 (fun e => ?_) (fun e => ?_)⟩
    · refine ⟨.int 8, rfl, .ref a, rfl, a, _, rfl, hL, fun r hr => ⟨.int 8, rfl, _, _, rfl, rfl, _, rfl, ite2 (fun e2 => ?_) (fun _ => q)⟩⟩
      have h8 := of_decide_eq_true e2
      have := hR.top r hr
      rcases hN with ⟨_, h⟩ | ⟨_, h⟩ <;> omega
    · have n1 : ws.length ≠ 1 := fun z => e (decide_eq_true (by rw [z]; rfl))
      refine ⟨.int 5, rfl, .ref a, rfl, a, _, rfl, hL, fun r hr => ⟨.int 5, rfl, _, _, rfl, rfl, _, rfl, ite2 (fun e2 => ?_) (fun _ => q)⟩⟩
      have h8 := of_decide_eq_true e2
      have := hR.top r hr
      rcases hN with ⟨h, _⟩ | ⟨_, h⟩
      · exact absurd h n1
      · omega
/-! ### states -/
theorem StasAt.dp {H : Hp} {K : PySem.W.Frag} {us : List V} {Ls : List Sta} (h : StasAt H us Ls) : DpAll K H us (Ls.map sD) := by
  unfold StasAt at h
  induction h with
  | nil => exact .nil
  | cons a r ih =>
    obtain ⟨b, rfl, hb⟩ := a
    exact .cons hb.dp ih
theorem alike_tDs : ∀ (xs ys : List (List Int)), PySem.W.alikeAll (tDs xs) (tDs ys) = true
  | [], _ => by simp [PySem.W.alikeAll]
  | _ :: _, [] => by simp [PySem.W.alikeAll]
  | x :: xs, y :: ys => by
    show PySem.W.alikeAll (tD x :: tDs xs) (tD y :: tDs ys) = true
    rw [PySem.W.alikeAll, alike_tDs xs ys]
    show (PySem.W.alike (.tuple (iD x)) (.tuple (iD y)) && true) = true
    rw [PySem.W.alike, PySem.W.alike_ints]; rfl
theorem depth_sD (L : Sta) : (sD L).depth ≤ 2 := by
  show PyData.depth (.tuple (tDs _)) ≤ 2
  rw [PyData.depth]
  have := dep_tDs (L.map nI)
  omega
theorem stas_of {H : Hp} {Ls : List Sta} : ∀ (bs : List (V × PyData)), (∀ x ∈ bs, ∃ b L, x.1 = .ref b ∧ StaAt H b L ∧ x.2 = sD L ∧ L ∈ Ls) → ∃ Ms, StasAt H (bs.map (·.1)) Ms ∧ bs.map (·.2) = Ms.map sD ∧ ∀ M ∈ Ms, M ∈ Ls
  | [], _ => ⟨[], .nil, rfl, fun M h => nomatch h⟩
  | x :: bs, h => by
    obtain ⟨Ms, h1, h2, h3⟩ := stas_of bs fun y hy => h y (List.mem_cons_of_mem _ hy)
    obtain ⟨b, L, g1, g2, g3, g4⟩ := h x List.mem_cons_self
    refine ⟨L :: Ms, .cons ⟨b, g1, g2⟩ h1, by rw [List.map_cons, List.map_cons, g3, h2], fun M hM => ?_⟩
    rcases List.mem_cons.mp hM with rfl | hM
    · exact g4
    · exact h3 M hM
theorem sD_inj {L M : Sta} (h : sD L = sD M) : L = M := by
  have := eqv_sD L M
  rw [h, eqv_sD, decide_eq_true rfl] at this
  exact of_decide_eq_true this.symm
theorem zip_stas {H : Hp} {us : List V} {Ls : List Sta} (h : StasAt H us Ls) : ∀ x ∈ us.zip (Ls.map sD), ∃ b L, x.1 = .ref b ∧ StaAt H b L ∧ x.2 = sD L ∧ L ∈ Ls := by
  unfold StasAt at h
  induction h with
  | nil => intro x hx; exact nomatch hx
  | @cons v r vs rs a t ih =>
    intro x hx
    obtain ⟨b, rfl, hb⟩ := a
    rcases List.mem_cons.mp hx with rfl | hx
    · exact ⟨b, r, rfl, hb, rfl, List.mem_cons_self⟩
    · obtain ⟨b', L, g1, g2, g3, g4⟩ := ih x hx
      exact ⟨b', L, g1, g2, g3, List.mem_cons_of_mem _ g4⟩
end
end Sg
set_option Elab.async false
set_option linter.all false
set_option maxRecDepth 100000
set_option maxHeartbeats 4000000
namespace Sg
open PySem PySem.Spec PyProof.Rows L2 StX
theorem lt_ints (a b : List Int) : PySem.W.dataLt (tD a) (tD b) = lexI a b := by
  show PySem.W.dataLt (.tuple (iD a)) (.tuple (iD b)) = _
  rw [PySem.W.dataLt_tuple]; exact rowLt_ints a b
/-! ## the states in their order -/
structure Order (ws : List (List Int)) (R : Nat) (Ls : List Sta) : Prop where
  nd : Ls.Nodup
  zero : Ls[0]? = some (emptyL ws)
  rch : ∀ L ∈ Ls, Rchd ws L
  form : ∀ L ∈ Ls, FormL ws R L
  all : ∀ L, Rchd ws L → L ∈ Ls
  few : Ls.length ≤ 32768
  asc : Ls.Pairwise fun L M => PySem.W.dataLt (sD M) (sD L) = false
theorem dataLt_sta (L M : Sta) : PySem.W.dataLt (sD L) (sD M) = PySem.W.rowLt (tDs (L.map nI)) (tDs (M.map nI)) := by
  unfold sD
  rw [PySem.W.dataLt_tuple]; rfl
theorem lt_empty : ∀ (n : Nat) (M : Sta), M.length = n → PySem.W.rowLt (tDs (M.map nI)) (tDs ((List.replicate n ([] : List Nat)).map nI)) = false ∧ (M ≠ List.replicate n [] → PySem.W.rowLt (tDs ((List.replicate n ([] : List Nat)).map nI)) (tDs (M.map nI)) = true)
  | 0, M, h => by
    rw [List.eq_nil_of_length_eq_zero h]
    exact ⟨rowLt_nil, fun z => absurd rfl z⟩
  | n + 1, [], h => nomatch h
  | n + 1, r :: M, h => by
    obtain ⟨i1, i2⟩ := lt_empty n M (Nat.succ.inj h)
    have al : ∀ a b : List Int, PySem.W.alike (tD a) (tD b) = true := fun a b => by
      have := PySem.W.alike_ints a b
      simp only [PySem.W.alike]; exact this
    rw [List.replicate_succ]
    show PySem.W.rowLt (tD (nI r) :: tDs (M.map nI)) (tD (nI []) :: tDs ((List.replicate n []).map nI)) = false ∧ (_ → PySem.W.rowLt (tD (nI []) :: tDs ((List.replicate n []).map nI)) (tD (nI r) :: tDs (M.map nI)) = true)
    rw [rowLt_cons (al _ _), rowLt_cons (al _ _), eqv_tD, eqv_tD]
    cases r with
    | nil =>
      rw [if_pos (by decide), if_pos (by decide)]
      exact ⟨i1, fun z => i2 fun e => z (by rw [e])⟩
    | cons a r =>
      have e1 : decide (nI (a :: r) = nI []) = false := decide_eq_false fun z => nomatch z
      have e2 : decide (nI [] = nI (a :: r)) = false := decide_eq_false fun z => nomatch z
      rw [e1, e2, if_neg (by decide), if_neg (by decide), lt_ints, lt_ints]
      exact ⟨rfl, fun _ => rfl⟩
theorem order_of {ws : List (List Int)} {R : Nat} {Ls Ms : List Sta} (hp : List.Perm Ms Ls) (nd : Ls.Nodup) (rch : ∀ L ∈ Ls, Rchd ws L) (form : ∀ L ∈ Ls, FormL ws R L) (all : ∀ L, Rchd ws L → L ∈ Ls) (few : Ls.length ≤ 32768)
    (asc : Ms.Pairwise fun L M => PySem.W.dataLt (sD M) (sD L) = false) : Order ws R Ms := by
  have memE : emptyL ws ∈ Ms := hp.mem_iff.mpr (all _ (Rchd.empty ws))
  refine ⟨hp.nodup_iff.mpr nd, ?_, fun L hL => rch L (hp.mem_iff.mp hL), fun L hL => form L (hp.mem_iff.mp hL), fun L h => hp.mem_iff.mpr (all L h), by rw [hp.length_eq]; exact few, asc⟩
  cases Ms with
  | nil => exact nomatch memE
  | cons M Ms =>
    show some M = some (emptyL ws)
    congr 1
    refine Classical.byContradiction fun ne => ?_
    have lenM := (form M (hp.mem_iff.mp List.mem_cons_self)).len
    have lt := (lt_empty ws.length M lenM).2 ne
    rcases List.mem_cons.mp memE with e | e
    · exact ne e.symm
    · have := (List.pairwise_cons.mp asc).1 _ e
      rw [dataLt_sta] at this
      have lt' : PySem.W.rowLt (tDs ((emptyL ws).map nI)) (tDs (M.map nI)) = true := lt
      rw [this] at lt'
      exact nomatch lt'
/-- a state's number -/
def idxS (Ls : List Sta) (L : Sta) : Nat := Ls.idxOf L
/-- a row of numbered moves: its pairs (choice, number) -/
def numRow (ws : List (List Int)) (Ls : List Sta) (L : Sta) : List (Int × Nat) := (chs ws L).map fun c => (chI c, idxS Ls (nextL ws L c))
def NumPs (H : Hp) : List V → List (Int × Nat) → Prop := Paired fun v p => ∃ t, v = .ref t ∧ H t = some (.tup [V.int p.1, .int (p.2 : Nat)])
def NumAt (H : Hp) : List V → List (List (Int × Nat)) → Prop := Paired fun u r => ∃ g ps, u = .ref g ∧ H g = some (.lst ps) ∧ NumPs H ps r
def numG (ws : List (List Int)) (Ls : List Sta) : List (List (Int × Nat)) := Ls.map (numRow ws Ls)
theorem NumPs.keep {H H' : Hp} (e : ∀ a us, H a = some (.tup us) → H' a = some (.tup us)) {ps : List V} {r : List (Int × Nat)} (h : NumPs H ps r) : NumPs H' ps r := by
  unfold NumPs at h ⊢
  induction h with
  | nil => exact .nil
  | cons a t ih =>
    obtain ⟨b, rfl, hb⟩ := a
    exact .cons ⟨b, rfl, e _ _ hb⟩ ih
theorem NumAt.keep {H H' : Hp} (et : ∀ a us, H a = some (.tup us) → H' a = some (.tup us)) (el : ∀ a us, H a = some (.lst us) → H' a = some (.lst us)) {us : List V} {G : List (List (Int × Nat))} (h : NumAt H us G) : NumAt H' us G := by
  unfold NumAt at h ⊢
  induction h with
  | nil => exact .nil
  | cons a t ih =>
    obtain ⟨g, ps, rfl, hg, hp⟩ := a
    exact .cons ⟨g, ps, rfl, el _ _ hg, hp.keep et⟩ ih
theorem NumAt.at {H : Hp} {us : List V} {G : List (List (Int × Nat))} (h : NumAt H us G) : ∀ {i : Nat} {u : V}, us[i]? = some u → ∃ g ps r, u = .ref g ∧ G[i]? = some r ∧ H g = some (.lst ps) ∧ NumPs H ps r := by
  unfold NumAt at h
  induction h with
  | nil => intro i u e; exact nomatch e
  | @cons v r us rs a t ih =>
    intro i u e
    cases i with
    | zero =>
      obtain rfl : v = u := Option.some.inj e
      obtain ⟨g, ps, h1, h2, h3⟩ := a
      exact ⟨g, ps, r, h1, rfl, h2, h3⟩
    | succ i => exact ih e
theorem NumPs.at {H : Hp} {ps : List V} {r : List (Int × Nat)} (h : NumPs H ps r) : ∀ {i : Nat} {u : V}, ps[i]? = some u → ∃ t p, u = .ref t ∧ r[i]? = some p ∧ H t = some (.tup [V.int p.1, .int (p.2 : Nat)]) := by
  unfold NumPs at h
  induction h with
  | nil => intro i u e; exact nomatch e
  | @cons v r us rs a t ih =>
    intro i u e
    cases i with
    | zero =>
      obtain rfl : v = u := Option.some.inj e
      obtain ⟨t, h1, h2⟩ := a
      exact ⟨t, r, h1, rfl, h2⟩
    | succ i => exact ih e
end Sg
set_option Elab.async false
set_option linter.all false
set_option maxRecDepth 100000
set_option maxHeartbeats 4000000
namespace Sg
open PySem PySem.Spec PyProof.Rows L2 StX
theorem at_num : ∀ {rs : List Row} {Ls : List Sta} {off : Nat}, Paired (fun (r : Row) (L : Sta) => r.1 = nk L) rs Ls → (∀ (j : Nat) (r : Row), rs[j]? = some r → r.2.2 = V.int ((off + j : Nat) : Nat)) → ∀ L ∈ Ls, atN rs (nk L) = some (.int ((off + Ls.idxOf L : Nat) : Nat)) := by
  intro rs Ls off h
  induction h generalizing off with
  | nil => intro _ L hL; exact nomatch hL
  | @cons r M rs Ls e t ih =>
    intro hv L hL
    by_cases g : M = L
    · subst g
      unfold atN
      rw [List.find?_cons_of_pos (p := fun x : Row => decide (x.1 = nk M)) (decide_eq_true e), List.idxOf_cons_self]
      show some r.2.2 = _
      rw [hv 0 r rfl]
    · have hL : L ∈ Ls := by
        rcases List.mem_cons.mp hL with z | z
        · exact absurd z.symm g
        · exact z
      have ne : ¬ r.1 = nk L := fun z => g (nk_inj (e.symm.trans z))
      have ih := ih (off := off + 1) (fun j r' hr => by rw [hv (j + 1) r' hr]; congr 2; omega) L hL
      unfold atN at ih ⊢
      rw [List.find?_cons_of_neg (p := fun x : Row => decide (x.1 = nk L)) (by simpa using ne), ih]
      have e2 : (M :: Ls).idxOf L = Ls.idxOf L + 1 := by
        rw [List.idxOf_cons, beq_false_of_ne g]; rfl
      rw [e2]
      congr 3; omega
theorem mv_at {H : Hp} {ws : List (List Int)} {rs : List Row} (hm : ∀ r ∈ rs, MvRow H ws r) {L : Sta} (h : HasL rs L) : ∃ G gs, atN rs (nk L) = some (.ref G) ∧ H G = some (.lst gs) ∧ PairsAt H ws L gs (chs ws L) := by
  obtain ⟨r0, hr0, e0⟩ := h
  have : (rs.find? fun r => decide (r.1 = nk L)).isSome := List.find?_isSome.mpr ⟨r0, hr0, decide_eq_true e0⟩
  obtain ⟨r, hr⟩ := Option.isSome_iff_exists.mp this
  obtain ⟨L', G, gs, a1, a2, a3, a4, a5⟩ := hm r (List.mem_of_find?_eq_some hr)
  have e1 : r.1 = nk L := of_decide_eq_true (List.find?_some (p := fun r : Row => decide (r.1 = nk L)) hr)
  obtain rfl := nk_inj (a1.symm.trans e1)
  refine ⟨G, gs, ?_, a3, a4⟩
  unfold atN
  rw [hr]
  show some r.2.2 = _
  rw [a2]
theorem NumAt.keepD {D : Addr} {H H' : Hp} (et : ∀ a us, H a = some (.tup us) → H' a = some (.tup us)) (el : ∀ a us, a ≠ D → H a = some (.lst us) → H' a = some (.lst us)) {us : List V} {G : List (List (Int × Nat))} (h : NumAt H us G) (hne : ∀ u ∈ us, u ≠ V.ref D) : NumAt H' us G := by
  unfold NumAt at h ⊢
  induction h with
  | nil => exact .nil
  | cons a t ih =>
    obtain ⟨g, ps, rfl, hg, hp⟩ := a
    exact .cons ⟨g, ps, rfl, el _ _ (fun z => hne _ List.mem_cons_self (by rw [z])) hg, hp.keep et⟩ (ih fun u hu => hne u (List.mem_cons_of_mem _ hu))
theorem paired_imp {α β : Type} {R S : α → β → Prop} {xs : List α} {ys : List β} (h : Paired R xs ys) (i : ∀ x y, R x y → S x y) : Paired S xs ys := by
  induction h with
  | nil => exact .nil
  | cons a r ih => exact .cons (i _ _ a) ih
theorem paired_mem {α β : Type} {R : α → β → Prop} {xs : List α} {ys : List β} (h : Paired R xs ys) : ∀ x ∈ xs, ∃ y ∈ ys, R x y := by
  induction h with
  | nil => intro x hx; exact nomatch hx
  | cons a r ih =>
    intro x hx
    rcases List.mem_cons.mp hx with rfl | hx
    · exact ⟨_, List.mem_cons_self, a⟩
    · obtain ⟨y, h1, h2⟩ := ih x hx
      exact ⟨y, List.mem_cons_of_mem _ h1, h2⟩
/-- the order of the states -/
def leS (L M : Sta) : Bool := !lexG lexI (M.map nI) (L.map nI)
theorem rowLt_tDs : ∀ xs ys : List (List Int), PySem.W.rowLt (tDs xs) (tDs ys) = lexG lexI xs ys
  | [], [] => rowLt_nil
  | [], y :: ys => rowLt_less _ _
  | x :: xs, [] => rowLt_more _ _
  | x :: xs, y :: ys => by
    show PySem.W.rowLt (tD x :: tDs xs) (tD y :: tDs ys) = if x = y then lexG lexI xs ys else lexI x y
    rw [rowLt_cons (by have := PySem.W.alike_ints x y; simp only [PySem.W.alike]; exact this), rowLt_tDs xs ys, lt_ints, eqv_tD]
    simp only [decide_eq_true_eq]
theorem lt_sta (L M : Sta) : PySem.W.dataLt (sD L) (sD M) = lexG lexI (L.map nI) (M.map nI) := by
  rw [dataLt_sta, rowLt_tDs]
theorem map_sD_inj : ∀ {l m : List Sta}, l.map sD = m.map sD → l = m
  | [], [], _ => rfl
  | [], _ :: _, h => nomatch h
  | _ :: _, [], h => nomatch h
  | a :: l, b :: m, h => by
    obtain ⟨h1, h2⟩ := List.cons.inj h
    rw [sD_inj h1, map_sD_inj h2]
theorem sort_stas {ys : List V} {Ls : List Sta} (h : ys.length = Ls.length) : ((ys.zip (Ls.map sD)).mergeSort (PySem.W.dataLe false (·.2))).map (·.2) = (Ls.mergeSort leS).map sD := by
  rw [List.map_mergeSort (r := PySem.W.dataLe false (fun b : V × PyData => b.2)) (s := PySem.W.dataLe false (fun d : PyData => d)) (f := fun b : V × PyData => b.2) (fun a _ b _ => rfl), zip_snd (by rw [h, List.length_map])]
  exact (List.map_mergeSort (r := leS) (f := sD) (fun a _ b _ => by
    show leS a b = !PySem.W.dataLt (sD b) (sD a)
    rw [lt_sta]; rfl)).symm
theorem leS_sorted (Ls : List Sta) : (Ls.mergeSort leS).Pairwise fun L M => PySem.W.dataLt (sD M) (sD L) = false := by
  have := List.pairwise_mergeSort (le := leS) (fun a b c h g => by
    unfold leS at h g ⊢
    rw [Bool.not_eq_true'] at h g ⊢
    exact lexG_neg (lt := lexI) (fun _ _ h => lexI_asym _ _ h) (fun _ _ _ h g => lexI_neg _ _ _ h g) (fun _ _ h g => lexI_eq _ _ h g) _ _ _ g h) (fun a b => by
    unfold leS
    cases h : lexG lexI (b.map nI) (a.map nI) with
    | false => rfl
    | true => rw [lexG_asym (lt := lexI) (fun _ _ h => lexI_asym _ _ h) _ _ h]; rfl) Ls
  refine this.imp fun {L M} h => ?_
  rw [lt_sta]
  unfold leS at h
  rwa [Bool.not_eq_true'] at h
section
variable {P : Program} {w : World} {K : PySem.W.Frag} {mg : Str → Option Value} {base : Heap}
/-! ### numbered_moves -/
def spNumbered (K : PySem.W.Frag) (C : Addr) : Sp := fun vs H Q _ => ∃ (a : Addr) (ws : List (List Int)) (R : Nat), vs = [.ref a] ∧ LineAt K C H a ws ∧ Rea ws R ∧ NearR ws.length R ∧
  ∀ H' l us Ls, Same H H' → Order ws R Ls → H' l = some (.lst us) → NumAt H' us (numG ws Ls) → Q (.ref l) H'
abbrev numN : List Str := ["line", "moves", "ordered", "numbers", "number", "state", "choice", "behind"]
theorem ok_numbered {f f1 C : Addr} {fd fd1 : FuncData} {k : Nat} (F : Fun K "numbered_moves" "numbered_moves" s_numbered_moves f fd)
    (G1 : FnOk P w K mg base CX0 k f1 fd1 ["line"] (spMoves P w K C)) (kp1 : PySem.W.keepIn K (.ref f1) = true) (b1 : Binds K fd1 ["line"] []) (g1 : mg "_moves" = some (.ref f1))
    (m1 : mg "sorted" = none) (m2 : mg "list" = none) (m3 : mg "enumerate" = none) : FnOk P w K mg base CX0 (k + 1) f fd ["line"] (spNumbered K C) := by
  refine F.ok sc_numbered_moves (fun vs H Q E h => ?_) (fun cdv A outer s H vs Q E hr h => ?_)
  · obtain ⟨a, ws, R, rfl, _⟩ := h; rfl
  · obtain ⟨a, ws, R, rfl, hL, hR, hN, q⟩ := h
    have hu := hr.units
    have hu64 : (A.deeper (envOfC "numbered_moves" (defScope s_numbered_moves) s.heap.objs.size f cdv)).units + 64 < cLine := by omega
    refine ⟨_, pss_cons (ps_set (i := 1) sc_numbered_moves.nd rfl (by first | exact .inl rfl | exact .inr rfl) (pe_call G1 hr (by rfl) g1 kp1 b1 .nil pass0 (pa_cons (pv 0) pa_nil)))
      (pss_cons (ps_set (i := 2) sc_numbered_moves.nd rfl (by first | exact .inl rfl | exact .inr rfl) (pe_callB (cr_sortedD hr) (by rfl) m1 (by decide +kernel) (pa_cons (pe_callTy (cr_listNK (P := P) (w := w) rfl rfl rfl) (by rfl) m2 (by decide +kernel) (pa_cons (pv 1) pa_nil)) pa_nil)))
      (pss_cons (ps_set (i := 3) sc_numbered_moves.nd rfl (by first | exact .inl rfl | exact .inr rfl) (pe_dcNK (P := P) (w := w) (own := [("number", 4), ("state", 5)]) (g := gTup K 2 (gCons (gName 4) (gCons (gName 5) gNil))) (tt := tYes) rfl rfl hu64 rfl sc_numbered_moves.nd (pi_enum (by rfl) m3 (pa_cons (pv 2) pa_nil)) (blkOk_by (N := numN) (sc := defScope s_numbered_moves) (by decide +kernel))
          (fun _ _ _ _ _ => pg_tup rfl (pgs_cons (pg_name (i := 4) sc_numbered_moves.nd rfl (by first | exact .inl rfl | exact .inr rfl)) (pgs_cons (pg_name (i := 5) sc_numbered_moves.nd rfl (by first | exact .inl rfl | exact .inr rfl)) pgs_nil))) (fun _ _ _ _ _ => pts_nil)
          (fun _ _ _ _ _ => pv 5) (fun _ _ _ _ _ => pv 4)))
      (pss_one (ps_ret (pe_lc (own := [("state", 5)]) (g := gName 5) (tt := tYes) rfl sc_numbered_moves.nd (pi_list (pv 2)) (blkOk_by (N := numN) (sc := defScope s_numbered_moves) (by decide +kernel))
          (fun _ _ _ _ _ => pg_name (i := 5) sc_numbered_moves.nd rfl (by first | exact .inl rfl | exact .inr rfl)) (fun _ _ _ _ _ => pts_nil)
          (fun _ _ _ _ _ => pe_lc (own := [("choice", 6), ("behind", 7)]) (g := gTup K 2 (gCons (gName 6) (gCons (gName 7) gNil))) (tt := tYes) rfl sc_numbered_moves.nd (pi_listK (K := K) rfl (pe_ngetK (P := P) (w := w) rfl rfl hu64 (pv 1) (pv 5) (fun _ _ => rfl))) (blkOk_by (by rfl))
            (fun _ _ _ _ _ => pg_tup rfl (pgs_cons (pg_name (i := 6) sc_numbered_moves.nd rfl (by first | exact .inl rfl | exact .inr rfl)) (pgs_cons (pg_name (i := 7) sc_numbered_moves.nd rfl (by first | exact .inl rfl | exact .inr rfl)) pgs_nil))) (fun _ _ _ _ _ => pts_nil)
            (fun _ _ _ _ _ => pe_tup (pa_cons (pv 6) (pa_cons (pe_ngetK (P := P) (w := w) rfl rfl hu64 (pv 3) (pv 7) (fun _ _ => rfl)) pa_nil))))))))), ?_⟩
    have big : 400000 ≤ sizeLine := by rw [sizeLine_eq]; decide
    have few := hL.good.few
    have pos : 1 ≤ ws.length := hL.good.least
    have R6 : R ≤ 60 := by rcases hN with ⟨_, h⟩ | ⟨_, h⟩ <;> omega
    refine ⟨.ref a, rfl, a, ws, R, rfl, hL, hR, hN, fun H1 m rs e1 hm hrs hmv hall => ?_⟩
    have fewr := hrs.few hN
    refine ⟨.ref m, rfl, m, rs, rfl, hm, hrs.keys, fun p np => ?_⟩
    have e2 := same_new (o := .lst (rs.map fun r => V.ref r.2.1)) np
    have hp2 := upd_same (H := H1) (a := p) (o := .lst (rs.map fun r => V.ref r.2.1))
    have hrs2 := hrs.keep fun _ _ z => e2 _ _ z
    have e12 := e1.trans e2
    have hm2 := e2 _ _ hm
    have hmv2 : ∀ r ∈ rs, MvRow (L2.upd H1 p (.lst (rs.map fun r => V.ref r.2.1))) ws r := fun r hr => by
      obtain ⟨L, G, gs, a1, a2, a3, a4, a5⟩ := hmv r hr
      exact ⟨L, G, gs, a1, a2, e2 _ _ a3, a4.keep fun _ _ z => e2 _ _ z, a5⟩
    generalize L2.upd H1 p (.lst (rs.map fun r => V.ref r.2.1)) = H2 at e2 hp2 hrs2 e12 hm2 hmv2 ⊢
    -- the states of the rows
    have hrows : ∀ rs' : List Row, (∀ r ∈ rs', r ∈ rs) → (rs'.map (·.1)).Nodup → ∃ Ls, StasAt H2 (rs'.map fun r => V.ref r.2.1) Ls ∧ (∀ L, HasL rs' L ↔ L ∈ Ls) ∧ (∀ L ∈ Ls, FormL ws R L ∧ Rchd ws L) ∧ Ls.Nodup := by
      intro rs'
      induction rs' with
      | nil => exact fun _ _ => ⟨[], .nil, (fun L => ⟨(fun ⟨r, hr, _⟩ => nomatch hr), (fun z => nomatch z)⟩), (fun L z => nomatch z), List.nodup_nil⟩
      | cons r rs' ih =>
        intro hin hnd
        rw [List.map_cons, List.nodup_cons] at hnd
        obtain ⟨Ls, h1, h2, h3, h4⟩ := ih (fun x hx => hin x (List.mem_cons_of_mem _ hx)) hnd.2
        obtain ⟨L, c1, c2, c3⟩ := hrs2.row r (hin r List.mem_cons_self)
        obtain ⟨L', G, gs, a1, a2, a3, a4, a5⟩ := hmv2 r (hin r List.mem_cons_self)
        obtain rfl := nk_inj (a1.symm.trans c1)
        refine ⟨L' :: Ls, .cons ⟨_, rfl, c2⟩ h1, fun M => ⟨fun ⟨x, hx, ex⟩ => ?_, fun hM => ?_⟩, fun M hM => ?_, List.nodup_cons.mpr ⟨fun z => ?_, h4⟩⟩
        · rcases List.mem_cons.mp hx with rfl | hx
          · rw [nk_inj (c1.symm.trans ex)]; exact List.mem_cons_self
          · exact List.mem_cons_of_mem _ ((h2 M).mp ⟨x, hx, ex⟩)
        · rcases List.mem_cons.mp hM with rfl | hM
          · exact ⟨r, List.mem_cons_self, c1⟩
          · obtain ⟨x, hx, ex⟩ := (h2 M).mpr hM
            exact ⟨x, List.mem_cons_of_mem _ hx, ex⟩
        · rcases List.mem_cons.mp hM with rfl | hM
          · exact ⟨c3, a5⟩
          · exact h3 M hM
        · obtain ⟨x, hx, ex⟩ := (h2 L').mpr z
          exact hnd.1 (List.mem_map.mpr ⟨x, hx, ex.trans c1.symm⟩)
    obtain ⟨Ls, hS, hin, hF, hnd⟩ := hrows rs (fun _ h => h) hrs.nd
    clear hrows
    have lLs : Ls.length = rs.length := by rw [← hS.len, List.length_map]
    refine ⟨p, _, Ls.map sD, rfl, .of hp2, hS.dp, PySem.W.AllAlike.of fun L M => ?_, .inl fun d hd => ?_, fun d hd => ?_, fun bs r eb nr => ?_⟩
    · show PySem.W.alike (.tuple (tDs _)) (.tuple (tDs _)) = true
      rw [PySem.W.alike, alike_tDs]
    · obtain ⟨L, hL2, rfl⟩ := List.mem_map.mp hd
      have := (hF L hL2).1.len
      rcases L with _ | ⟨x, r⟩
      · exact absurd this (by rw [List.length_nil]; omega)
      · exact ⟨_, _, rfl⟩
    · obtain ⟨L, _, rfl⟩ := List.mem_map.mp hd
      have := depth_sD L
      omega
    have hperm : bs.Perm ((rs.map fun r => V.ref r.2.1).zip (Ls.map sD)) := by rw [eb]; exact List.mergeSort_perm _ _
    have e3 := same_new (o := .lst (bs.map (·.1))) nr
    obtain ⟨Ms, h1, h2, h3⟩ := stas_of bs fun x hx => zip_stas hS x (hperm.mem_iff.mp hx)
    have hz : ((rs.map fun r => V.ref r.2.1).zip (Ls.map sD)).map (·.2) = Ls.map sD := zip_snd (by rw [List.length_map, List.length_map, lLs])
    have hpm : List.Perm (Ms.map sD) (Ls.map sD) := by
      rw [← h2, ← hz]; exact hperm.map _
    have inj : ∀ {L : Sta} {l : List Sta}, sD L ∈ l.map sD ↔ L ∈ l := fun {L l} => ⟨fun z => by
      obtain ⟨M, hM, e⟩ := List.mem_map.mp z
      rw [← sD_inj e]; exact hM, fun z => List.mem_map.mpr ⟨_, z, rfl⟩⟩
    have ndL : (Ls.map sD).Nodup := List.pairwise_map.mpr (hnd.imp fun ne e => ne (sD_inj e))
    have ndM : Ms.Nodup := by
      have := hpm.nodup_iff.mpr ndL
      exact (List.pairwise_map.mp this).imp fun ne e => ne (by rw [e])
    have hpM : List.Perm Ms Ls := (List.perm_ext_iff_of_nodup ndM hnd).mpr fun L => by rw [← inj (l := Ms), ← inj (l := Ls)]; exact hpm.mem_iff
    have asc : Ms.Pairwise fun L M => PySem.W.dataLt (sD M) (sD L) = false := by
      have e := sort_stas (ys := rs.map fun r => V.ref r.2.1) (Ls := Ls) (by rw [List.length_map, lLs])
      rw [← eb, h2] at e
      rw [map_sD_inj e]
      exact leS_sorted Ls
    have hO := order_of hpM hnd (fun L hL => (hF L hL).2) (fun L hL => (hF L hL).1) (fun L h => (hin L).mp (hall L h)) (by omega) asc
    have e13 := e12.trans e3
    have hr3 := upd_same (H := H2) (a := r) (o := .lst (bs.map (·.1)))
    have h13 := h1.keep fun _ _ z => e3 _ _ z
    have hm3 := e3 _ _ hm2
    have hkM : KeysIn (L2.upd H2 r (.lst (bs.map (·.1)))) rs := (hrs2.keep fun _ _ z => e3 _ _ z).keys
    have hmv3 : ∀ x ∈ rs, MvRow (L2.upd H2 r (.lst (bs.map (·.1)))) ws x := fun x hx => by
      obtain ⟨L, G, gs, a1, a2, a3, a4, a5⟩ := hmv2 x hx
      exact ⟨L, G, gs, a1, a2, e3 _ _ a3, a4.keep fun _ _ z => e3 _ _ z, a5⟩
    generalize L2.upd H2 r (.lst (bs.map (·.1))) = H3 at e3 hr3 h13 e13 hm3 hkM hmv3 ⊢
    generalize bs.map (·.1) = us at hr3 h13
    have lus := h13.len
    have lMs := hpM.length_eq
    -- the numbers
    refine ⟨.ref r, rfl, r, us, rfl, .of hr3, fun N nN => ?_⟩
    refine dcN_it (walk_enum (K := K) (a := r) (xs := us)) (fun i H' => Same H3 H' ∧ ∃ rn, H' N = some (DN P w N rn) ∧ Paired (fun (x : Row) (L : Sta) => x.1 = nk L ∧ StaAt H' x.2.1 L) rn (Ms.take i) ∧ ∀ (j : Nat) (x : Row), rn[j]? = some x → x.2.2 = V.int (j : Nat)) ⟨same_new nN, [], upd_same, .nil, fun j x hx => nomatch hx⟩ (fun i H' _ h => .of (h.1 _ _ hr3)) (fun i y H' H'' hi h hY => ?_) (fun H4 h => ?_)
    · obtain ⟨e4, rn, hN4, hP4, hv4⟩ := h
      obtain ⟨T, x1, x2, rfl, nT, rfl, f1, f2⟩ := hY
      dsimp only at f1 f2
      cases f1
      obtain ⟨b, L, hLi, rfl, hbL⟩ := h13.at f2
      have lrn := Paired.length hP4
      rw [List.length_take] at lrn
      have hi' : i < Ms.length := (List.getElem?_eq_some_iff.mp hLi).1
      have eT := same_new (o := .tup [V.int (i : Nat), .ref b]) nT
      refine ⟨T, _, rfl, .of upd_same, rfl, _, _, rfl, _, _, rfl, rfl, rfl, .ref b, rfl, .int (i : Nat), rfl, b, nk L, rn, rfl, ?_⟩
      have e5 := e4.trans eT
      have hN5 := eT _ _ hN4
      have hP5 : Paired (fun (x : Row) (L : Sta) => x.1 = nk L ∧ StaAt (L2.upd H' T (.tup [V.int (i : Nat), .ref b])) x.2.1 L) rn (Ms.take i) := paired_imp hP4 fun x M ⟨g1, g2⟩ => ⟨g1, g2.same eT⟩
      have hb5 := hbL.same e5
      generalize L2.upd H' T (.tup [V.int (i : Nat), .ref b]) = H5 at eT e5 hN5 hP5 hb5 ⊢
      have hK5 : KeysIn H5 rn := fun x hx => by
        obtain ⟨M, _, g1, g2⟩ := paired_mem hP5 x hx
        rw [g1]
        exact ⟨g2.key, nk_deep M⟩
      have hnone : atN rn (nk L) = none := by
        unfold atN
        rw [Option.map_eq_none_iff, List.find?_eq_none]
        intro x hx z
        obtain ⟨M, hM, g1, _⟩ := paired_mem hP5 x hx
        have e := nk_inj (g1.symm.trans (of_decide_eq_true z))
        subst e
        obtain ⟨j, hj⟩ := List.mem_iff_getElem?.mp hM
        rw [List.getElem?_take] at hj
        split at hj
        · rename_i hji
          have := (List.getElem?_inj (by omega) hO.nd).mp (hj.trans hLi.symm)
          omega
        · exact nomatch hj
      refine ⟨⟨hN5, hK5, hb5.key, nk_deep L⟩, by omega, ?_⟩
      rw [storeN_new hnone]
      have keepN : ∀ c us, H5 c = some (.tup us) → (L2.upd H5 N (DN P w N (rn ++ [(nk L, b, V.int (i : Nat))]))) c = some (.tup us) := fun c us z => by
        rw [upd_ne (ne_of z hN5 (fun c => nomatch c))]; exact z
      refine ⟨fun c o z => ?_, _, upd_same, ?_, fun j x hx => ?_⟩
      · rw [upd_ne (ne_of_none z nN)]; exact e5 _ _ z
      · rw [List.take_add_one, hLi]
        exact Paired.snoc (paired_imp hP5 fun x M ⟨g1, g2⟩ => ⟨g1, g2.keep keepN⟩) ⟨rfl, hb5.keep keepN⟩
      · by_cases hj : j < rn.length
        · rw [List.getElem?_append_left hj] at hx
          exact hv4 j x hx
        · rw [List.getElem?_append_right (by omega)] at hx
          have : j - rn.length = 0 := by
            have := (List.getElem?_eq_some_iff.mp hx).1
            simp only [List.length_cons, List.length_nil] at this
            omega
          rw [this] at hx
          cases hx
          show V.int (i : Nat) = V.int (j : Nat)
          congr 2; omega
    · obtain ⟨e4, rn, hN4, hP4, hv4⟩ := h
      rw [lus, List.take_length] at hP4
      have hr4 := e4 _ _ hr3
      have h14 := h13.keep fun _ _ z => e4 _ _ z
      have hm4 := e4 _ _ hm3
      have hkM4 := hkM.keep fun _ _ z => e4 _ _ z
      have hmv4 : ∀ x ∈ rs, MvRow H4 ws x := fun x hx => by
        obtain ⟨L, G, gs, a1, a2, a3, a4, a5⟩ := hmv3 x hx
        exact ⟨L, G, gs, a1, a2, e4 _ _ a3, a4.keep fun _ _ z => e4 _ _ z, a5⟩
      have hkN : KeysIn H4 rn := fun x hx => by
        obtain ⟨M, _, g1, g2⟩ := paired_mem hP4 x hx
        rw [g1]
        exact ⟨g2.key, nk_deep M⟩
      have hnum := at_num (off := 0) (paired_imp hP4 fun x M h => h.1) (fun j x hx => by rw [Nat.zero_add]; exact hv4 j x hx)
      refine ⟨.ref r, rfl, r, rfl, ⟨_, .of hr4⟩, fun D nD => ?_⟩
      have hrD : r ≠ D := ne_of_none hr4 nD
      refine lc_list (xs := us) (fun i H' => Same H4 H' ∧ ∃ ds, H' D = some (.lst ds) ∧ ds.length = i ∧ NumAt H' ds ((Ms.take i).map (numRow ws Ms)) ∧ ∀ u ∈ ds, u ≠ V.ref D) ⟨same_new nD, [], upd_same, rfl, .nil, fun u hu => nomatch hu⟩ (fun i H' _ h => .of (h.1 _ _ hr4)) (fun i y H' hy h => ?_) (fun H9 h => ?_)
      · obtain ⟨e5, ds, hD5, ld, hP5, hne5⟩ := h
        obtain ⟨b, L, hLi, rfl, hbL⟩ := h14.at hy
        have hi' : i < Ms.length := (List.getElem?_eq_some_iff.mp hLi).1
        have hLM := List.mem_of_getElem? hLi
        obtain ⟨G, gs, g1', g2', g3'⟩ := mv_at hmv4 ((hin L).mpr (hpM.mem_iff.mp hLM))
        have hm5 := e5 _ _ hm4
        have hkM5 := hkM4.keep fun _ _ z => e5 _ _ z
        have hG5 := e5 _ _ g2'
        have hP5' := g3'.keep fun _ _ z => e5 _ _ z
        have hrch := hO.rch L hLM
        refine ⟨rfl, .ref m, rfl, .ref b, rfl, m, b, nk L, rs, .ref G, rfl, rfl, ⟨hm5, hkM5, (hbL.same e5).key, nk_deep L⟩, g1', G, rfl, ⟨_, .of hG5⟩, fun D2 nD2 => ?_⟩
        have lgs := Paired.length hP5'
        have lch := chs_len (ws := ws) (L := L)
        refine lc_list (K := K) (a := G) (xs := gs) (fun j H2 => Same H' H2 ∧ ∃ es, H2 D2 = some (.lst es) ∧ es.length = j ∧ NumPs H2 es ((numRow ws Ms L).take j)) ⟨same_new nD2, [], upd_same, rfl, .nil⟩ (fun j H2 _ h => .of (h.1 _ _ hG5)) (fun j z H2 hz2 h => ?_) (fun H6 h => ?_)
        · obtain ⟨e6, es, hD6, le, hQ6⟩ := h
          obtain ⟨t, bb, c, hc, rfl, ht, hbb⟩ := hP5'.at hz2
          have hjl := (List.getElem?_eq_some_iff.mp hc).1
          have hcan := chs_can.mp (List.mem_of_getElem? hc)
          have hnx := hO.all _ (hrch.next hcan)
          have e46 := e5.trans e6
          refine ⟨t, _, rfl, .of (e6 _ _ ht), rfl, _, _, rfl, _, _, rfl, rfl, rfl, .int (chI c), rfl, .ref N, rfl, .ref bb, rfl, N, bb, nk (nextL ws L c), rn, _, rfl, rfl, ⟨e46 _ _ hN4, hkN.keep fun _ _ z => e46 _ _ z, (hbb.same e6).key, nk_deep _⟩, hnum _ hnx, by show 2 ≤ sizeLine; omega, fun z nz => ?_⟩
          have ez := same_new (o := .tup [V.int (chI c), .int ((0 + Ms.idxOf (nextL ws L c) : Nat) : Nat)]) nz
          have hz7 : (L2.upd H2 z (.tup [V.int (chI c), .int ((0 + Ms.idxOf (nextL ws L c) : Nat) : Nat)])) z = some (.tup [V.int (chI c), .int ((0 + Ms.idxOf (nextL ws L c) : Nat) : Nat)]) := upd_same
          generalize L2.upd H2 z (.tup [V.int (chI c), .int ((0 + Ms.idxOf (nextL ws L c) : Nat) : Nat)]) = H7 at ez hz7 ⊢
          have hD7 := ez _ _ hD6
          have keepD : ∀ c us, H7 c = some (.tup us) → (L2.upd H7 D2 (.lst (es ++ [.ref z]))) c = some (.tup us) := fun c us z => by
            rw [upd_ne (ne_of z hD7 (fun c => nomatch c))]; exact z
          refine ⟨es, hD7, by omega, fun x o zz => ?_, es ++ [.ref z], upd_same, by rw [List.length_append, le]; rfl, ?_⟩
          · rw [upd_ne (ne_of_none zz nD2)]
            exact ez _ _ (e6 _ _ zz)
          · have er : (numRow ws Ms L)[j]? = some (chI c, idxS Ms (nextL ws L c)) := by
              unfold numRow
              rw [List.getElem?_map, hc]; rfl
            rw [List.take_add_one, er]
            refine Paired.snoc ((hQ6.keep fun _ _ z => ez _ _ z).keep keepD) ⟨z, rfl, keepD _ _ ?_⟩
            rw [hz7, Nat.zero_add]; rfl
        · obtain ⟨e6, es, hD6, le, hQ6⟩ := h
          have lnr : (numRow ws Ms L).length = gs.length := by unfold numRow; rw [List.length_map, lgs]
          rw [← lnr, List.take_length] at hQ6
          have hD7 := e6 _ _ hD5
          have nDD2 : D ≠ D2 := ne_of_none hD5 nD2
          have keepL : ∀ c us, c ≠ D → H6 c = some (.lst us) → (L2.upd H6 D (.lst (ds ++ [.ref D2]))) c = some (.lst us) := fun c us nc z => by rw [upd_ne nc]; exact z
          have keepT : ∀ c us, H6 c = some (.tup us) → (L2.upd H6 D (.lst (ds ++ [.ref D2]))) c = some (.tup us) := fun c us z => by
            rw [upd_ne (ne_of z hD7 (fun c => nomatch c))]; exact z
          refine ⟨ds, hD7, by omega, fun x o zz => ?_, ds ++ [.ref D2], upd_same, by rw [List.length_append, ld]; rfl, ?_, fun u hu => ?_⟩
          · rw [upd_ne (ne_of_none zz nD)]
            exact e6 _ _ (e5 _ _ zz)
          · rw [List.take_add_one, hLi, List.map_append]
            have h6 : NumAt H6 ds ((Ms.take i).map (numRow ws Ms)) := hP5.keep (fun _ _ z => e6 _ _ z) fun _ _ z => e6 _ _ z
            exact Paired.snoc (h6.keepD keepT keepL hne5) ⟨D2, es, rfl, keepL _ _ nDD2.symm hD6, hQ6.keep keepT⟩
          · rcases List.mem_append.mp hu with hu | hu
            · exact hne5 u hu
            · rw [List.mem_singleton.mp hu]
              exact fun z => nDD2 (V.ref.inj z).symm
      · obtain ⟨e5, ds, hD5, ld, hP5, hne5⟩ := h
        rw [lus, List.take_length] at hP5
        exact q H9 D ds Ms (e13.trans (e4.trans e5)) hO hD5 hP5
end
end Sg
set_option Elab.async false
set_option linter.all false
set_option maxRecDepth 100000
set_option maxHeartbeats 4000000
namespace Sg
open PySem PySem.Spec PyProof.Rows L2 StX
/-! ## a tuple + a tuple, new unless one is empty -/
def rCatP (K : PySem.W.Frag) : R2 := fun x y H Q => ∃ a b xs ys, x = .ref a ∧ y = .ref b ∧ SqT K H a xs ∧ SqT K H b ys ∧ (xs = [] → H b = some (.tup ys)) ∧ (ys = [] → H a = some (.tup xs)) ∧ xs.length + ys.length ≤ sizeLine ∧ ∀ H' u, Same H H' → H' u = some (.tup (xs ++ ys)) → Q (.ref u) H'
theorem op_catP {X : Cx} {K : PySem.W.Frag} (hK : X.K = K) : OpR X (binaryOp .Add) (rCatP K) := by
  subst hK
  intro pins s σ H x y v u Q I rx ry h
  obtain ⟨a, b, xs, ys, rfl, rfl, ha, hb, h1, h2, hz, q⟩ := h
  refine op_catA pins s σ H _ _ v u Q I rx ry ⟨a, b, xs, ys, rfl, rfl, ha, hb, hz, fun e => q H b (fun _ _ h => h) (by rw [h1 e, e]; rfl), fun _ e => q H a (fun _ _ h => h) (by rw [h2 e, e, List.append_nil]), fun _ _ p np => q _ p (same_new np) upd_same⟩
theorem dc_it {J : L2.It} {n : Nat} {G : Hp → Prop} {Y : Nat → Hp → V → Hp → Prop} (wk : Walk J n G Y) {g : TG} {tt : TT} {tk tv : TE} {vs : List Nat} {σ : L2.St} {H1 : Hp} {D : Addr} {Qd : Hp → Prop} (Pv : Nat → Hp → Prop) (h0 : Pv 0 (upd H1 D (.dK []))) (hG : ∀ i H, i ≤ n → Pv i H → G H)
    (hs : ∀ i x H H', i < n → Pv i H → Y i H x H' → g x (wipe σ vs) H' fun σ2 H2 => wipe σ2 vs = wipe σ vs ∧ tt σ2 H2 fun b H3 =>
      if b = true then tk σ2 H3 fun y H4 => tv σ2 H4 fun z H5 => ∃ kvs k, y = kV k ∧ H5 D = some (.dK kvs) ∧ kvs.length < sizeLine ∧ Pv (i + 1) (upd H5 D (.dK (putK kvs k z))) else Pv (i + 1) H3) (hd : ∀ H, Pv n H → Qd H) :
    ∃ W : Nat → Nat → Hp → Prop, (∃ m, W 0 m (upd H1 D (.dK []))) ∧ ∀ i m H, W i m H →
      (J.stop i H ∧ Qd H) ∨ (J.go i H ∧ ∃ Nx : Hp → Prop, (∀ H', Nx H' → ∃ m', m' < m ∧ W (i + 1) m' H') ∧ ∀ x H', J.yld i H x H' → g x (wipe σ vs) H' fun σ2 H2 => wipe σ2 vs = wipe σ vs ∧ tt σ2 H2 fun b H3 =>
        if b = true then tk σ2 H3 fun y H4 => tv σ2 H4 fun z H5 => ∃ kvs k, y = kV k ∧ H5 D = some (.dK kvs) ∧ kvs.length < sizeLine ∧ Nx (upd H5 D (.dK (putK kvs k z))) else Nx H3) := by
  refine ⟨fun i m H => m = n - i ∧ i ≤ n ∧ Pv i H, ⟨n, by simp, Nat.zero_le _, h0⟩, ?_⟩
  rintro i m H ⟨rfl, hi, hp⟩
  have hg := hG i H hi hp
  rcases Nat.lt_or_eq_of_le hi with hlt | rfl
  · exact .inr ⟨wk.goes i H hlt hg, Pv (i + 1), fun H' p' => ⟨n - (i + 1), by omega, rfl, hlt, p'⟩, fun x H' y => hs i x H H' hlt hp (wk.yields i H x H' hlt hg y)⟩
  · exact .inl ⟨wk.stops H hg, hd H hp⟩
/-! ### what may come next -/
def nxAt (cs : List Int) (k : Nat) : Option (Int × List Int) := if 0 < cs.getD k 0 then some (((k : Nat) : Int), cs.set k (cs.getD k 0 - 1)) else none
def nxAny : Nx := fun cs => (List.range cs.length).filterMap (nxAt cs)
theorem nxAt_none {cs : List Int} (i : Nat) : (((List.range i).filterMap (nxAt cs)).find? fun p => decide (p.1 = ((i : Nat) : Int))) = none := by
  rw [List.find?_eq_none]
  intro p hp
  obtain ⟨k, hk, e⟩ := List.mem_filterMap.mp hp
  have hk := List.mem_range.mp hk
  unfold nxAt at e
  split at e
  · have := Option.some.inj e
    rw [← this]
    simp only [decide_eq_true_eq]
    show ¬ ((k : Nat) : Int) = ((i : Nat) : Int)
    omega
  · exact nomatch e
theorem set_cat {cs : List Int} {k : Nat} (h : k < cs.length) (z : Int) : cs.take k ++ [z] ++ cs.drop (k + 1) = cs.set k z := by
  rw [List.set_eq_take_append_cons_drop, if_pos h, List.append_assoc]; rfl
section
variable {P : Program} {w : World} {K : PySem.W.Frag} {mg : Str → Option Value} {base : Heap}
theorem ok_next_any {f : Addr} {fd : FuncData} {k : Nat} (F : Fun K "_next_of_any" "_next_of_any" s_next_of_any f fd) (m1 : mg "enumerate" = none) :
    FnOk P w K mg base CX0 (k + 1) f fd ["counts"] (spNext (fun ns => ns.length ≤ 100) nxAny) := by
  refine F.ok sc_next_of_any (fun vs H Q E h => ?_) (fun cdv A outer s H vs Q E hr h => ?_)
  · obtain ⟨t, ns, rfl, _⟩ := h; rfl
  · obtain ⟨t, ns, rfl, ht, hl, q⟩ := h
    refine ⟨_, pss_one (ps_ret (pe_dc (own := [("kind", 1), ("count", 2)]) (g := gTup K 2 (gCons (gName 1) (gCons (gName 2) gNil))) rfl sc_next_of_any.nd (pi_enumT (by rfl) m1 (pa_cons (pv 0) pa_nil)) (blkOk_by (N := ["counts", "kind", "count"]) (sc := defScope s_next_of_any) (by decide +kernel))
        (fun _ _ _ _ _ => pg_tup rfl (pgs_cons (pg_name (i := 1) sc_next_of_any.nd rfl (Or.inl rfl)) (pgs_cons (pg_name (i := 2) sc_next_of_any.nd rfl (Or.inl rfl)) pgs_nil))) (fun _ _ _ _ _ => pts_one (pt_cmpR op_gt (pv 2) pe_int (nomark _)))
        (fun _ _ _ _ _ => pv 1)
        (fun _ _ _ _ _ => pe_op (op_catP (K := K) rfl) (pe_op (op_catP (K := K) rfl) (pe_slice (sl_tupB (K := K) rfl) (pv 0) po_none (po_some (pv 1))) (pe_tup (pa_cons (pe_op op_sub (pv 2) pe_int) pa_nil))) (pe_slice (sl_tupB (K := K) rfl) (pv 0) (po_some (pe_op op_add (pv 1) pe_int)) po_none)))), ?_⟩
    have big : 1000 ≤ sizeLine := by rw [sizeLine_eq]; decide
    have lns : (ns.map V.int).length = ns.length := List.length_map _
    refine ⟨.ref t, rfl, t, _, rfl, .of ht, fun D nD => ?_⟩
    refine dc_it (walk_enumT (xs := ns.map V.int)) (fun i H' => Same H H' ∧ ∃ kvs, H' D = some (.dK kvs) ∧ kvs.length ≤ i ∧ NxAt H' kvs ((List.range i).filterMap (nxAt ns))) ⟨same_new nD, [], upd_same, Nat.le_refl _, .nil⟩ (fun i H' _ h => .of (h.1 _ _ ht)) (fun i y H' H'' hi h hY => ?_) (fun H' h => ?_)
    · obtain ⟨e1, kvs, hD1, lk, hN1⟩ := h
      obtain ⟨T, x1, x2, rfl, nT, rfl, f1, f2⟩ := hY
      dsimp only at f1 f2
      cases f1
      rw [List.getElem?_map] at f2
      obtain ⟨c, hc, rfl⟩ := Option.map_eq_some_iff.mp f2
      have hil := (List.getElem?_eq_some_iff.mp hc).1
      have eT := same_new (o := .tup [V.int (i : Nat), .int c]) nT
      refine ⟨T, _, rfl, .of upd_same, rfl, _, _, rfl, _, _, rfl, rfl, rfl, ?_⟩
      have e2 := e1.trans eT
      have hD2 := eT _ _ hD1
      have hN2 := hN1.keep (.of eT)
      generalize upd H' T (.tup [V.int (i : Nat), .int c]) = H2 at e2 hD2 hN2 ⊢
      have hgd : ns.getD i 0 = c := by rw [List.getD_eq_getElem?_getD, hc]; rfl
      refine ⟨.int c, rfl, _, _, rfl, rfl, _, rfl, ?_⟩
      rw [List.range_succ, List.filterMap_append]
      by_cases h0 : c > 0
      · rw [decide_eq_true h0]
        refine iteT ⟨.int (i : Nat), rfl, .ref t, rfl, .int (i : Nat), rfl, (i : Nat), rfl, t, _, rfl, .of (e2 _ _ ht), fun H3 b3 e3 hb3 => ?_⟩
        have hc1 : cutV (ns.map V.int) none (some ((i : Nat) : Int)) = (ns.take i).map V.int := by rw [cut_to, List.map_take]
        rw [hc1] at hb3
        refine ⟨.int c, rfl, _, _, rfl, rfl, by show 1 ≤ sizeLine; omega, fun b4 nb4 => ?_⟩
        have e4 := same_new (o := .tup [V.int (c - 1)]) nb4
        have hb4 : (upd H3 b4 (.tup [V.int (c - 1)])) b4 = some (.tup [V.int (c - 1)]) := upd_same
        have e34 := e3.trans e4
        generalize upd H3 b4 (.tup [V.int (c - 1)]) = H4 at e4 hb4 e34 ⊢
        have ltk : ((ns.take i).map V.int).length ≤ 100 := by rw [List.length_map, List.length_take]; omega
        refine ⟨b3, b4, _, [V.int (c - 1)], rfl, rfl, Same.tup e4 hb3, .of hb4, fun _ => hb4, (fun z => nomatch z), by show _ + 1 ≤ sizeLine; omega, fun H5 b5 e5 hb5 => ?_⟩
        refine ⟨.ref t, rfl, .int (i : Nat), rfl, _, _, rfl, rfl, _, rfl, t, _, rfl, .of (e5 _ _ (e34 _ _ (e2 _ _ ht))), fun H6 b6 e6 hb6 => ?_⟩
        have hc2 : cutV (ns.map V.int) (some (((i : Nat) : Int) + 1)) none = (ns.drop (i + 1)).map V.int := by
          rw [show ((i : Nat) : Int) + 1 = ((i + 1 : Nat) : Int) from by omega, cut_from, List.map_drop]
        rw [hc2] at hb6
        have ldr : ((ns.drop (i + 1)).map V.int).length ≤ 100 := by rw [List.length_map, List.length_drop]; omega
        refine ⟨b5, b6, _, _, rfl, rfl, .of (e6 _ _ hb5), hb6, (fun z => absurd (List.append_eq_nil_iff.mp z).2 (fun z => nomatch z)), fun _ => e6 _ _ hb5, by rw [List.length_append]; show _ + 1 + _ ≤ sizeLine; omega, fun H7 b7 e7 hb7 => ?_⟩
        have e27 := ((e34.trans e5).trans e6).trans e7
        have hD7 := e27 _ _ hD2
        have hN7 := hN2.keep (.of e27)
        have hnone := (hN7.look ((i : Nat) : Int)).1 (nxAt_none i)
        have hset : H7 b7 = some (.tup ((ns.set i (c - 1)).map V.int)) := by
          rw [hb7, ← set_cat hil, List.map_append, List.map_append]; rfl
        have some' : nxAt ns i = some (((i : Nat) : Int), ns.set i (c - 1)) := by unfold nxAt; rw [hgd, if_pos h0]
        refine ⟨kvs, .inl ((i : Nat) : Int), rfl, hD7, by omega, fun b o z => ?_, kvs ++ [(.inl ((i : Nat) : Int), .ref b7)], by rw [putK_new _ hnone]; exact upd_same, by rw [List.length_append]; show kvs.length + 1 ≤ i + 1; omega, ?_⟩
        · rw [upd_ne (ne_of_none z nD)]; exact e27 _ _ (e2 _ _ z)
        · have kD : KeepT H7 (upd H7 D (.dK (putK kvs (.inl ((i : Nat) : Int)) (.ref b7)))) := .upd hD7 fun _ z => nomatch z
          rw [List.filterMap_cons_some some', List.filterMap_nil]
          exact Paired.snoc (hN7.keep kD) ⟨rfl, b7, rfl, kD _ _ hset⟩
      · rw [decide_eq_false h0]
        have : nxAt ns i = none := by unfold nxAt; rw [hgd, if_neg h0]
        refine iteF ⟨e2, kvs, hD2, by omega, ?_⟩
        show NxAt H2 kvs (_ ++ List.filterMap (nxAt ns) [i])
        rw [List.filterMap_cons_none this, List.filterMap_nil, List.append_nil]
        exact hN2
    · obtain ⟨e1, kvs, hD1, lk, hN1⟩ := h
      rw [lns] at hN1
      exact q H' D kvs e1 hD1 hN1
end
end Sg
set_option Elab.async false
set_option linter.all false
set_option maxRecDepth 100000
set_option maxHeartbeats 4000000
namespace Sg
open PySem PySem.Spec PyProof.Rows L2 StX
theorem stepsM_succ {nx : Nx} {row : List (Int × Nat)} {left : List Int} {plan : List Plc} {tick i : Nat} {e : Int × Nat} (h : row[i]? = some e) : stepsM nx (row.take (i + 1)) left plan tick = stepsM nx (row.take i) left plan tick ++ (stepOne nx left plan tick e).toList := by
  unfold stepsM
  rw [List.take_add_one, h, List.filterMap_append]
  congr 1
section
variable {P : Program} {w : World} {K : PySem.W.Frag} {mg : Str → Option Value} {base : Heap}
/-! ### _steps -/
def spSteps (nf : Addr) (Ok : List Int → Prop) (nx : Nx) : Sp := fun vs H Q _ => ∃ (g lf pn : Addr) (ps : List V) (row : List (Int × Nat)) (left : List Int) (plan : List Plc) (tick : Nat), vs = [.ref g, .ref lf, .ref pn, .int (tick : Nat), .ref nf] ∧
  H g = some (.lst ps) ∧ NumPs H ps row ∧ row.length ≤ 1000 ∧ H lf = some (.tup (left.map V.int)) ∧ Ok left ∧ TkAt H pn plan ∧ plan.length ≤ 1000 ∧
  ∀ H' l us, Same H H' → H' l = some (.lst us) → StepsAt H' us (stepsM nx row left plan tick) → Q (.ref l) H'
theorem ok_steps {f nf : Addr} {fd fdn : FuncData} {k : Nat} {x : Str} {Ok : List Int → Prop} {nx : Nx} (F : Fun K "_steps" "_steps" s_steps f fd) (nN : ∃ t, mg "NOTHING" = some (.int (-1) t))
    (G1 : FnOk P w K mg base CX0 k nf fdn [x] (spNext Ok nx)) (kp1 : PySem.W.keepIn K (.ref nf) = true) (b1 : Binds K fdn [x] []) :
    FnOk P w K mg base CX0 (k + 1) f fd ["moves", "left", "plan", "tick", "next_of"] (spSteps nf Ok nx) := by
  obtain ⟨tN, nN⟩ := nN
  refine F.ok sc_steps (fun vs H Q E h => ?_) (fun cdv A outer s H vs Q E hr h => ?_)
  · obtain ⟨g, lf, pn, ps, row, left, plan, tick, rfl, _⟩ := h; rfl
  · obtain ⟨g, lf, pn, ps, row, left, plan, tick, rfl, hg, hps, lrow, hlf, hok, hpn, lplan, q⟩ := h
    have hu := hr.units
    have hu2 : (A.deeper (envOfC "_steps" (defScope s_steps) s.heap.objs.size f cdv)).units + 1 < cLine := by omega
    refine ⟨_, pss_cons (ps_set (i := 5) sc_steps.nd rfl (.inl rfl) (pe_callV (i := 4) G1 hr rfl (by exact .inl rfl) kp1 b1 .nil pass0 (pa_cons (pv 1) pa_nil)))
      (pss_cons (ps_set (i := 6) sc_steps.nd rfl (.inl rfl) (pe_lst pa_nil))
      (pss_cons (ps_for PassesOwn.never rfl (pi_list (pv 0)) (pg_tup rfl (pgs_cons (pg_name (i := 7) sc_steps.nd rfl (.inl rfl)) (pgs_cons (pg_name (i := 8) sc_steps.nd rfl (.inl rfl)) pgs_nil)))
        (pss_one (ps_if (pt_cmpR op_eq (pv 7) (pe_glob (v := .int (-1)) (by rfl) nN ⟨_, rfl⟩) (nomark _))
          (pss_one (ps_expr (pe_bm PySem.F.plainAttrs_list PySem.F.slot_list_append PySem.F.type_list_append mt_append (pv 6) (pa_cons (pe_tup (pa_cons (pe_tup (pa_cons (pv 8) (pa_cons (pv 1) pa_nil))) (pa_cons (pv 2) pa_nil))) pa_nil))))
          (pss_one (ps_if (pt_cmp (pc_din hu2 (pv 7) (pv 5)))
            (pss_one (ps_expr (pe_bm PySem.F.plainAttrs_list PySem.F.slot_list_append PySem.F.type_list_append mt_append (pv 6) (pa_cons (pe_tup (pa_cons (pe_tup (pa_cons (pv 8) (pa_cons (pe_dget hu2 (pv 5) (pv 7) (fun _ _ => rfl)) pa_nil)))
              (pa_cons (pe_tup (pa_star (pv 2) (pa_cons (pe_tup (pa_cons (pv 3) (pa_cons (pv 7) pa_nil))) pa_nil))) pa_nil))) pa_nil)))) pss_nil)))))
      (pss_one (ps_ret (pv 6))))), ?_⟩
    have big : 100000 ≤ sizeLine := by rw [sizeLine_eq]; decide
    refine ⟨rfl, .ref lf, rfl, lf, left, rfl, hlf, hok, fun H1 d kvs e1 hd hnx => ?_⟩
    refine ⟨Nat.zero_le _, fun L nL => ?_⟩
    have eL := same_new (o := .lst ([] : List V)) nL
    have hL2 : (upd H1 L (.lst ([] : List V))) L = some (.lst []) := upd_same
    have hd2 := eL _ _ hd
    have hnx2 := hnx.keep (.of eL)
    have e2 := e1.trans eL
    generalize upd H1 L (.lst ([] : List V)) = H2 at eL hL2 hd2 hnx2 e2 ⊢
    have nLH : H L = none := freeS e1 nL
    refine ⟨.ref g, rfl, g, rfl, ⟨_, .of (e2 _ _ hg)⟩, ?_⟩
    have lps := Paired.length hps
    refine for_list (xs := ps) (fun i σ H' => ∃ v7 v8 us, σ = [some (.ref g), some (.ref lf), some (.ref pn), some (.int (tick : Nat)), some (.ref nf), some (.ref d), some (.ref L), v7, v8] ∧ Same H H' ∧ KeepT H2 H' ∧ H' d = some (.dK kvs) ∧ H' L = some (.lst us) ∧ StepsAt H' us (stepsM nx (row.take i) left plan tick))
      ⟨_, _, [], rfl, e2, fun _ _ z => z, hd2, hL2, .nil⟩ (fun i σ H' _ h => ?_) (fun i y σ H' hy h => ?_) (fun σ H' h => ?_)
    · obtain ⟨_, _, _, _, e, _⟩ := h
      exact .of (e _ _ hg)
    · obtain ⟨v7, v8, us, rfl, e3, k3, hd3, hL3, hS3⟩ := h
      obtain ⟨t, c, rfl, hc, ht⟩ := hps.at hy
      have hi := (List.getElem?_eq_some_iff.mp hc).1
      have ls := Paired.length hS3
      have lm := stepsM_len nx (row.take i) left plan tick
      rw [List.length_take] at lm
      refine ⟨t, _, rfl, .of (e3 _ _ ht), rfl, _, _, rfl, _, _, rfl, rfl, ?_⟩
      have fin : ∀ (H5 : Hp) (v : V) (x : PlcK × List Plc), Same H' H5 → StepAt H5 v x → stepOne nx left plan tick c = some x → H5 L = some (.lst us) ∧ us.length < sizeLine ∧
          ∃ v7 v8 us', [some (V.ref g), some (.ref lf), some (.ref pn), some (.int (tick : Nat)), some (.ref nf), some (.ref d), some (.ref L), some (.int c.1), some (.int (c.2 : Nat))] = [some (.ref g), some (.ref lf), some (.ref pn), some (.int (tick : Nat)), some (.ref nf), some (.ref d), some (.ref L), v7, v8] ∧
            Same H (upd H5 L (.lst (us ++ [v]))) ∧ KeepT H2 (upd H5 L (.lst (us ++ [v]))) ∧ (upd H5 L (.lst (us ++ [v]))) d = some (.dK kvs) ∧ (upd H5 L (.lst (us ++ [v]))) L = some (.lst us') ∧ StepsAt (upd H5 L (.lst (us ++ [v]))) us' (stepsM nx (row.take (i + 1)) left plan tick) := by
        intro H5 v x e5 hv hx
        have hL5 := e5 _ _ hL3
        have hd5 := e5 _ _ hd3
        have kL : KeepT H5 (upd H5 L (.lst (us ++ [v]))) := .upd hL5 fun _ z => nomatch z
        refine ⟨hL5, by omega, _, _, us ++ [v], rfl, fun b o z => ?_, fun b o z => kL _ _ (e5 _ _ (k3 _ _ z)), ?_, upd_same, ?_⟩
        · rw [upd_ne (ne_of_none z nLH)]; exact e5 _ _ (e3 _ _ z)
        · rw [upd_ne (ne_of hd5 hL5 (fun z => nomatch z))]; exact hd5
        · rw [stepsM_succ hc, hx]
          exact Paired.snoc ((hS3.keep (.of e5)).keep kL) (hv.keep kL)
      refine ⟨.int c.1, rfl, rfl, _, rfl, ?_⟩
      by_cases h1 : c.1 = -1
      · rw [show decide (V.int c.1 = V.int (-1)) = true from decide_eq_true (by rw [h1])]
        refine iteT ⟨.ref L, rfl, .inl ⟨rfl, _, .of hL3⟩, .int (c.2 : Nat), rfl, .ref lf, rfl, by show 2 ≤ sizeLine; omega, fun b nb => ⟨.ref pn, rfl, by show 2 ≤ sizeLine; omega, fun u nu => ?_⟩⟩
        have eb := same_new (o := .tup [V.int (c.2 : Nat), .ref lf]) nb
        have hb4 : (upd H' b (.tup [V.int (c.2 : Nat), .ref lf])) b = some (.tup [V.int (c.2 : Nat), .ref lf]) := upd_same
        generalize upd H' b (.tup [V.int (c.2 : Nat), .ref lf]) = H4 at eb hb4 nu ⊢
        have eu := same_new (o := .tup [V.ref b, .ref pn]) nu
        have hu5 : (upd H4 u (.tup [V.ref b, .ref pn])) u = some (.tup [V.ref b, .ref pn]) := upd_same
        have e45 := eb.trans eu
        have hb5 := eu _ _ hb4
        generalize upd H4 u (.tup [V.ref b, .ref pn]) = H5 at eu hu5 e45 hb5 ⊢
        have eH5 := e3.trans e45
        obtain ⟨z1, z2, z3⟩ := fin H5 (.ref u) ((c.2, left), plan) e45 ⟨u, b, pn, rfl, hu5, ⟨lf, hb5, eH5 _ _ hlf⟩, hpn.keep (.of eH5)⟩ (by unfold stepOne; rw [if_pos h1])
        exact ⟨L, _, _, rfl, rfl, z1, z2, z3⟩
      · rw [show decide (V.int c.1 = V.int (-1)) = false from decide_eq_false fun z => h1 (V.int.inj z)]
        refine iteF ⟨.int c.1, rfl, .ref d, rfl, d, _, rfl, DGet.k (k := .inl c.1) hd3, _, rfl, ?_⟩
        obtain ⟨lk1, lk2⟩ := (hnx2.keep k3).look c.1
        cases hf : (nx left).find? (fun p => decide (p.1 = c.1)) with
        | none =>
          rw [lk1 hf]
          refine iteF ⟨_, _, us, rfl, e3, k3, hd3, hL3, ?_⟩
          rw [stepsM_succ hc]
          have : stepOne nx left plan tick c = none := by unfold stepOne; rw [if_neg h1, hf]
          rw [this]
          show StepsAt H' us (_ ++ [])
          rw [List.append_nil]; exact hS3
        | some p =>
          obtain ⟨lt, hlt, hltt⟩ := lk2 p hf
          rw [hlt]
          refine iteT ⟨.ref L, rfl, .inl ⟨rfl, _, .of hL3⟩, .int (c.2 : Nat), rfl, .ref d, rfl, .int c.1, rfl, d, .ref lt, rfl, by rw [← hlt]; exact DGet.k (k := .inl c.1) hd3, by show 2 ≤ sizeLine; omega, fun b nb => ?_⟩
          have eb := same_new (o := .tup [V.int (c.2 : Nat), .ref lt]) nb
          have hb4 : (upd H' b (.tup [V.int (c.2 : Nat), .ref lt])) b = some (.tup [V.int (c.2 : Nat), .ref lt]) := upd_same
          have hlt4 := eb _ _ hltt
          have e34 := e3.trans eb
          generalize upd H' b (.tup [V.int (c.2 : Nat), .ref lt]) = H4 at eb hb4 hlt4 e34 ⊢
          obtain ⟨pus, hpn4, hpa4⟩ := hpn.keep (.of e34)
          have lpu := hpa4.len
          refine ⟨.ref pn, rfl, pn, pus, rfl, .inl (.of hpn4), .int (tick : Nat), rfl, .int c.1, rfl, by show 2 ≤ sizeLine; omega, fun w nw => ⟨by rw [List.length_append]; show _ + 1 ≤ sizeLine; omega, fun pl npl => ⟨by show 2 ≤ sizeLine; omega, fun u nu => ?_⟩⟩⟩
          have ew := same_new (o := .tup [V.int (tick : Nat), .int c.1]) nw
          have hw5 : (upd H4 w (.tup [V.int (tick : Nat), .int c.1])) w = some (.tup [V.int (tick : Nat), .int c.1]) := upd_same
          generalize upd H4 w (.tup [V.int (tick : Nat), .int c.1]) = H5 at ew hw5 npl nu ⊢
          have ep := same_new (o := .tup (pus ++ [V.ref w])) npl
          have hp6 : (upd H5 pl (.tup (pus ++ [V.ref w]))) pl = some (.tup (pus ++ [V.ref w])) := upd_same
          have hw6 := ep _ _ hw5
          generalize upd H5 pl (.tup (pus ++ [V.ref w])) = H6 at ep hp6 hw6 nu ⊢
          have eu := same_new (o := .tup [V.ref b, .ref pl]) nu
          have hu7 : (upd H6 u (.tup [V.ref b, .ref pl])) u = some (.tup [V.ref b, .ref pl]) := upd_same
          have e47 := ew.trans (ep.trans eu)
          have hp7 := eu _ _ hp6
          have hw7 := eu _ _ hw6
          generalize upd H6 u (.tup [V.ref b, .ref pl]) = H7 at eu hu7 e47 hp7 hw7 ⊢
          obtain ⟨z1, z2, z3⟩ := fin H7 (.ref u) ((c.2, p.2), plan ++ [((tick : Int), c.1)]) (eb.trans e47) ⟨u, b, pl, rfl, hu7, ⟨lt, e47 _ _ hb4, e47 _ _ hlt4⟩, _, hp7, PlsAt.snoc hw7 (hpa4.keep (.of e47))⟩ (by unfold stepOne; rw [if_neg h1, hf])
          exact ⟨L, _, _, rfl, rfl, z1, z2, z3⟩
    · obtain ⟨v7, v8, us, rfl, e3, k3, hd3, hL3, hS3⟩ := h
      rw [lps, List.take_length] at hS3
      exact ⟨.ref L, rfl, q H' L us e3 hL3 hS3⟩
end
end Sg
set_option Elab.async false
set_option linter.all false
set_option maxRecDepth 100000
set_option maxHeartbeats 4000000
namespace Sg
open PySem PySem.Spec PyProof.Rows L2 StX
section
variable {P : Program} {w : World} {K : PySem.W.Frag} {mg : Str → Option Value} {base : Heap}
/-! ### _next_layer -/
structure LayIn (Ok : List Int → Prop) (nx : Nx) (G : List (List (Int × Nat))) (tick : Nat) (U : List PlcK) (first : FirL) (layer : LayP) : Prop where
  few : U.length ≤ 16000000
  rows : ∀ r ∈ G, r.length ≤ 1000
  fir : KeysU U first
  lay : ∀ e ∈ layer, e.1.1 < G.length ∧ Ok e.1.2 ∧ e.2.length ≤ 1000
  steps : ∀ e ∈ layer, ∀ x ∈ stepsM nx (G.getD e.1.1 []) e.1.2 e.2 tick, x.1 ∈ U
def spLayer (P : Program) (w : World) (nf : Addr) (Ok : List Int → Prop) (nx : Nx) : Sp := fun vs H Q _ => ∃ (g l F : Addr) (us : List V) (G : List (List (Int × Nat))) (rsL rsF : List Row) (layer : LayP) (first : FirL) (tick : Nat) (U : List PlcK), vs = [.ref g, .ref l, .ref F, .int (tick : Nat), .ref nf] ∧
  H g = some (.lst us) ∧ NumAt H us G ∧ H l = some (DN P w l rsL) ∧ RowsP PlanV H rsL layer ∧ H F = some (DN P w F rsF) ∧ RowsP FirV H rsF first ∧ l ≠ F ∧ LayIn Ok nx G tick U first layer ∧
  ∀ H' d rsD rsF', But F H H' → H' F = some (DN P w F rsF') → RowsP FirV H' rsF' (layerM nx G tick first layer).1 → H d = none → H' d = some (DN P w d rsD) → RowsP PlanV H' rsD (layerM nx G tick first layer).2 → Q (.ref d) H'
theorem ok_next_layer {f nf f1 : Addr} {fd fd1 : FuncData} {k : Nat} {Ok : List Int → Prop} {nx : Nx} (F : Fun K "_next_layer" "_next_layer" s_next_layer f fd)
    (G1 : FnOk P w K mg base CX0 k f1 fd1 ["moves", "left", "plan", "tick", "next_of"] (spSteps nf Ok nx)) (kp1 : PySem.W.keepIn K (.ref f1) = true) (b1 : Binds K fd1 ["moves", "left", "plan", "tick", "next_of"] []) (g1 : mg "_steps" = some (.ref f1)) :
    FnOk P w K mg base CX0 (k + 1) f fd ["moves", "layer", "first_ticks", "tick", "next_of"] (spLayer P w nf Ok nx) := by
  refine F.ok sc_next_layer (fun vs H Q E h => ?_) (fun cdv A outer s H vs Q E hr h => ?_)
  · obtain ⟨g, l, F, us, G, rsL, rsF, layer, first, tick, U, rfl, _⟩ := h; rfl
  · obtain ⟨g, l, Fa, us, G, rsL, rsF, layer, first, tick, U, rfl, hg, hG, hl, hLay, hF, hFir, nlF, hin, q⟩ := h
    have hu := hr.units
    have hu64 : (A.deeper (envOfC "_next_layer" (defScope s_next_layer) s.heap.objs.size f cdv)).units + 64 < cLine := by omega
    refine ⟨_, pss_cons (ps_set (i := 5) sc_next_layer.nd rfl (.inl rfl) (pe_nnewK (P := P) (w := w) rfl rfl))
      (pss_cons (ps_lock (ps_for PassesOwn.never rfl (pi_itemsNK (P := P) (w := w) rfl rfl (pv 1))
          (pg_tup rfl (pgs_cons (pg_tup rfl (pgs_cons (pg_name (i := 6) sc_next_layer.nd rfl (.inl rfl)) (pgs_cons (pg_name (i := 7) sc_next_layer.nd rfl (.inl rfl)) pgs_nil))) (pgs_cons (pg_name (i := 8) sc_next_layer.nd rfl (.inl rfl)) pgs_nil)))
        (pss_one (ps_for PassesOwn.never rfl (pi_list (pe_call G1 hr (by rfl) g1 kp1 b1 .nil pass0 (pa_cons (pe_ix ix_list (pv 0) (pv 6) (fun _ _ => rfl)) (pa_cons (pv 7) (pa_cons (pv 8) (pa_cons (pv 3) (pa_cons (pv 4) pa_nil)))))))
            (pg_tup rfl (pgs_cons (pg_name (i := 9) sc_next_layer.nd rfl (.inl rfl)) (pgs_cons (pg_name (i := 10) sc_next_layer.nd rfl (.inl rfl)) pgs_nil)))
          (pss_cons (ps_set (i := 11) sc_next_layer.nd rfl (.inl rfl) (pe_cmpR op_eq (pe_nsetdK (P := P) (w := w) rfl rfl hu64 (pv 2) (pv 9) (pe_op op_add (pv 3) pe_int) ⟨rfl, rfl, rfl, rfl⟩) (pe_op op_add (pv 3) pe_int) (nomark _)))
          (pss_one (ps_if (PW.pt (pw_and (pt_val (pv 11)) (pw_and1 (PW.pt (pw_or (pt_cmp (pc_nnotinK (P := P) (w := w) rfl rfl hu64 (pv 9) (pv 5))) (pw_or1 (pt_cmpR (op_ltD hu64) (pv 10) (pe_ngetK (P := P) (w := w) rfl rfl hu64 (pv 5) (pv 9) (fun _ _ => rfl)) (nomark _))))))))
            (pss_one (ps_nputK (P := P) (w := w) rfl rfl hu64 (pv 5) (pv 9) (pv 10) (by rfl))) pss_nil)))))))
      (pss_one (ps_ret (pv 5)))), ?_⟩
    have big : 16700000 ≤ sizeLine := by rw [sizeLine_eq]; decide
    have kT : ∀ {H'}, But2 Fa l H H' → KeepT H H' := fun e a us z => e a _ (ne_of z hF fun c => nomatch c) (ne_of z hl fun c => nomatch c) z
    have kL : ∀ {H'}, But2 Fa l H H' → ∀ a xs, H a = some (.lst xs) → H' a = some (.lst xs) := fun e a us z => e a _ (ne_of z hF fun c => nomatch c) (ne_of z hl fun c => nomatch c) z
    refine fun N nN => ?_
    have eN := same_new (o := DN P w N []) nN
    have hN1 : (upd H N (DN P w N [])) N = some (DN P w N []) := upd_same
    have hl1 := eN _ _ hl
    have hF1 := eN _ _ hF
    have nNF : Fa ≠ N := ne_of_none hF nN
    have nNl : l ≠ N := ne_of_none hl nN
    generalize upd H N (DN P w N []) = H1 at eN hN1 hl1 hF1 ⊢
    refine ⟨l, DN P w l rsL, hl1, True.intro, fun od => ?_⟩
    have hl2 : (upd H1 l (.frz od (DN P w l rsL))) l = some (.frz od (DN P w l rsL)) := upd_same
    have b2 : But2 Fa l H (upd H1 l (.frz od (DN P w l rsL))) := fun b o n m z => by rw [upd_ne m]; exact eN _ _ z
    have hF2 : (upd H1 l (.frz od (DN P w l rsL))) Fa = some (DN P w Fa rsF) := by rw [upd_ne nlF.symm]; exact hF1
    have hN2 : (upd H1 l (.frz od (DN P w l rsL))) N = some (DN P w N []) := by rw [upd_ne nNl.symm]; exact hN1
    generalize upd H1 l (.frz od (DN P w l rsL)) = H2 at hl2 b2 hF2 hN2 ⊢
    refine ⟨.ref l, rfl, l, od, rsL, rfl, hl2, ?_⟩
    have llay := hLay.len
    refine for_it walk_itemsN (fun i σ H' => ∃ v6 v7 v8 v9 v10 v11 rsF' rsD, σ = [some (.ref g), some (.ref l), some (.ref Fa), some (.int (tick : Nat)), some (.ref nf), some (.ref N), v6, v7, v8, v9, v10, v11] ∧ But2 Fa l H H' ∧ H' l = some (.frz od (DN P w l rsL)) ∧ H' Fa = some (DN P w Fa rsF') ∧
        RowsP FirV H' rsF' ((layer.take i).foldl (layRow nx G tick) (first, [])).1 ∧ H' N = some (DN P w N rsD) ∧ RowsP PlanV H' rsD ((layer.take i).foldl (layRow nx G tick) (first, [])).2)
      ⟨_, _, _, _, _, _, rsF, [], rfl, b2, hl2, hF2, hFir.keep (kT b2) FirV.keep, hN2, .nil⟩ (fun i σ H' _ h => ?_) (fun i y σ H' H'' hi h hY => ?_) (fun σ H' h => ?_)
    · obtain ⟨_, _, _, _, _, _, _, _, _, b, hl', _⟩ := h
      exact ⟨hl', (hLay.keep (kT b) (PlanV.keep (kT b))).keys⟩
    · obtain ⟨v6, v7, v8, v9, v10, v11, rsF3, rsD3, rfl, b3, hl3, hF3, hR3, hN3, hD3⟩ := h
      obtain ⟨T, r, hr', rfl, nT, rfl⟩ := hY
      obtain ⟨e, he, hre⟩ := paired_get hLay hr'
      have hem := List.mem_of_getElem? he
      obtain ⟨lf, hb0, hlf0⟩ := hre.at_
      obtain ⟨pn, hpv, hpn0⟩ := hre.val
      obtain ⟨hn, hok, hpl⟩ := hin.lay e hem
      obtain ⟨u, hu'⟩ : ∃ u, us[e.1.1]? = some u := ⟨_, List.getElem?_eq_getElem (by rw [Paired.length hG]; exact hn)⟩
      obtain ⟨gi, ps, row, rfl, hrow, hgi0, hps0⟩ := hG.at hu'
      have erow : G.getD e.1.1 [] = row := by rw [List.getD_eq_getElem?_getD, hrow]; rfl
      have eT := same_new (o := .tup [V.ref r.2.1, r.2.2]) nT
      have hT4 : (upd H' T (.tup [V.ref r.2.1, r.2.2])) T = some (.tup [V.ref r.2.1, r.2.2]) := upd_same
      have b4 := b3.trans (.of eT)
      have hl4 := eT _ _ hl3
      have hF4 := eT _ _ hF3
      have hN4 := eT _ _ hN3
      have hR4 := hR3.keep (.of eT) FirV.keep
      have hD4 := hD3.keep (.of eT) (PlanV.keep (.of eT))
      generalize upd H' T (.tup [V.ref r.2.1, r.2.2]) = H4 at eT hT4 b4 hl4 hF4 hN4 hR4 hD4 ⊢
      have k4 := kT b4
      refine ⟨T, _, rfl, .of hT4, rfl, _, _, rfl, r.2.1, _, rfl, .of (k4 _ _ hb0), rfl, _, _, rfl, _, _, rfl, rfl, _, _, rfl, rfl, ?_⟩
      rw [hpv]
      refine ⟨.ref g, rfl, .int (e.1.1 : Nat), rfl, g, us, (e.1.1 : Nat), .ref gi, rfl, rfl, .of (kL b4 _ _ hg), atI_nat hu', .ref lf, rfl, .ref pn, rfl, .int (tick : Nat), rfl, .ref nf, rfl, gi, lf, pn, ps, row, e.1.2, e.2, tick, rfl, kL b4 _ _ hgi0, hps0.keep k4, hin.rows _ (List.mem_of_getElem? hrow), k4 _ _ hlf0, hok, hpn0.keep k4, hpl, fun H5 sl sus e5 hsl hS => ?_⟩
      have hl5 := e5 _ _ hl4
      have hF5 := e5 _ _ hF4
      have hN5 := e5 _ _ hN4
      have b5 := b4.trans (.of e5)
      have hR5 := hR4.keep (.of e5) FirV.keep
      have hD5 := hD4.keep (.of e5) (PlanV.keep (.of e5))
      generalize hxs : stepsM nx row e.1.2 e.2 tick = xs at hS
      generalize hfl : (layer.take i).foldl (layRow nx G tick) (first, []) = fl at hR5 hD5
      have hxU : ∀ x ∈ xs, x.1 ∈ U := fun x hx => hin.steps e hem x (by rw [erow, hxs]; exact hx)
      have hflU : KeysU U fl.1 ∧ KeysU U fl.2 := by
        rw [← hfl]
        exact rows_keys (fl := (first, [])) hin.fir .nil fun e he => hin.steps e (List.mem_of_mem_take he)
      have lxs := Paired.length hS
      have nsl : sl ≠ Fa := ne_of hsl hF5 fun c => nomatch c
      have nsN : sl ≠ N := ne_of hsl hN5 fun c => nomatch c
      have hm : (layer.take (i + 1)).foldl (layRow nx G tick) (first, []) = xs.foldl (updOne tick) fl := by
        rw [foldl_take _ _ he, hfl]
        show (stepsM nx (G.getD e.1.1 []) e.1.2 e.2 tick).foldl (updOne tick) fl = _
        rw [erow, hxs]
      rw [hm]
      refine ⟨sl, rfl, ⟨_, .of hsl⟩, ?_⟩
      refine for_list (xs := sus) (fun j σ H' => ∃ v9 v10 v11 rsF' rsD, σ = [some (.ref g), some (.ref l), some (.ref Fa), some (.int (tick : Nat)), some (.ref nf), some (.ref N), some (.int (e.1.1 : Nat)), some (.ref lf), some (.ref pn), v9, v10, v11] ∧ But2 Fa l H H' ∧ H' l = some (.frz od (DN P w l rsL)) ∧ H' Fa = some (DN P w Fa rsF') ∧
          H' sl = some (.lst sus) ∧ StepsAt H' sus xs ∧ RowsP FirV H' rsF' ((xs.take j).foldl (updOne tick) fl).1 ∧ H' N = some (DN P w N rsD) ∧ RowsP PlanV H' rsD ((xs.take j).foldl (updOne tick) fl).2)
        ⟨_, _, _, _, _, rfl, b5, hl5, hF5, hsl, hS, hR5, hN5, hD5⟩ (fun j σ H' _ h => ?_) (fun j y σ H' hy h => ?_) (fun σ H' h => ?_)
      · obtain ⟨_, _, _, _, _, _, _, _, _, z, _⟩ := h
        exact .of z
      · obtain ⟨v9, v10, v11, rsF6, rsD6, rfl, b6, hl6, hF6, hsl6, hS6, hR6, hN6, hD6⟩ := h
        obtain ⟨x, hx, t, bP, qn, rfl, ht, hbP, hqn⟩ := hS6.at hy
        have hxm := hxU x (List.mem_of_getElem? hx)
        obtain ⟨u1, u2⟩ := upds_keys (xs := xs.take j) (tick := tick) hflU.1 hflU.2 fun x hx => hxU x (List.mem_of_mem_take hx)
        have hmm : (xs.take (j + 1)).foldl (updOne tick) fl = updOne tick ((xs.take j).foldl (updOne tick) fl) x := foldl_take _ _ hx
        rw [hmm]
        generalize (xs.take j).foldl (updOne tick) fl = gl at hR6 hD6 u1 u2 hmm ⊢
        have c1 := u1.few
        have c2 := u2.few
        have l1 := hR6.len
        have l2 := hD6.len
        have few := hin.few
        refine ⟨t, _, rfl, .of ht, rfl, _, _, rfl, _, _, rfl, rfl, ?_⟩
        refine ⟨.ref Fa, rfl, Fa, rsF6, rfl, hF6, (hR6.keys), .ref bP, rfl, .int (tick : Nat), rfl, ?_⟩
        refine ⟨(tick : Nat), 1, rfl, rfl, bP, pkk x.1, rsF6, rfl, ⟨hF6, hR6.keys, hbP.key, pkk_deep _⟩, by omega, ?_⟩
        have hup : updOne tick gl x = (if (lookF gl.1 x.1).isSome then gl.1 else gl.1 ++ [(x.1, tick + 1)], if (match lookF gl.1 x.1 with | some t => decide (t = tick + 1) | none => true) && (match lookF gl.2 x.1 with | some p => lexP x.2 p | none => true) then storeF gl.2 x.1 x.2 else gl.2) := by
          unfold updOne
          dsimp only
          generalize ((match lookF gl.1 x.1 with | some t => decide (t = tick + 1) | none => true) && (match lookF gl.2 x.1 with | some p => lexP x.2 p | none => true)) = c
          cases c <;> rfl
        generalize hc1 : (match lookF gl.1 x.1 with | some t => decide (t = tick + 1) | none => true) = c1 at hup
        generalize hf' : (if (lookF gl.1 x.1).isSome then gl.1 else gl.1 ++ [(x.1, tick + 1)]) = f' at hup
        refine ⟨fun v hv => ?lft, fun hv => ?rgt⟩
        case' lft =>
          have hRR : ∃ (rsF7 : List Row) (z : Int), v = .int z ∧ decide (z = ((tick : Nat) : Int) + 1) = c1 ∧ H' Fa = some (DN P w Fa rsF7) ∧ RowsP FirV H' rsF7 f' ∧ But2 Fa l H H' ∧ H' l = some (.frz od (DN P w l rsL)) ∧ H' sl = some (.lst sus) ∧ StepsAt H' sus xs ∧ H' N = some (DN P w N rsD6) ∧ RowsP PlanV H' rsD6 gl.2 ∧ PlaceAt H' bP x.1 ∧ TkAt H' qn x.2 := by
            cases hk : lookF gl.1 x.1 with
            | none => rw [(hR6.look x.1).1 hk] at hv; exact nomatch hv
            | some t0 =>
              obtain ⟨v0, hv0, hv1⟩ := (hR6.look x.1).2 t0 hk
              rw [hv0] at hv
              obtain rfl : v0 = v := Option.some.inj hv
              rw [hk] at hc1 hf'
              refine ⟨rsF6, (t0 : Nat), hv1, ?_, hF6, ?_, b6, hl6, hsl6, hS6, hN6, hD6, hbP, hqn⟩
              · rw [← hc1]
                show decide _ = decide _
                congr 1
                exact propext ⟨fun z => by omega, fun z => by omega⟩
              · rw [← hf']; exact hR6
          revert hRR
          generalize H' = H7
        case' rgt =>
          have hRR : ∃ (rsF7 : List Row) (z : Int), V.int (((tick : Nat) : Int) + 1) = .int z ∧ decide (z = ((tick : Nat) : Int) + 1) = c1 ∧ (upd H' Fa (DN P w Fa (storeN rsF6 (pkk x.1) bP (.int (((tick : Nat) : Int) + 1))))) Fa = some (DN P w Fa rsF7) ∧ RowsP FirV (upd H' Fa (DN P w Fa (storeN rsF6 (pkk x.1) bP (.int (((tick : Nat) : Int) + 1))))) rsF7 f' ∧ But2 Fa l H (upd H' Fa (DN P w Fa (storeN rsF6 (pkk x.1) bP (.int (((tick : Nat) : Int) + 1))))) ∧ (upd H' Fa (DN P w Fa (storeN rsF6 (pkk x.1) bP (.int (((tick : Nat) : Int) + 1))))) l = some (.frz od (DN P w l rsL)) ∧ (upd H' Fa (DN P w Fa (storeN rsF6 (pkk x.1) bP (.int (((tick : Nat) : Int) + 1))))) sl = some (.lst sus) ∧ StepsAt (upd H' Fa (DN P w Fa (storeN rsF6 (pkk x.1) bP (.int (((tick : Nat) : Int) + 1))))) sus xs ∧ (upd H' Fa (DN P w Fa (storeN rsF6 (pkk x.1) bP (.int (((tick : Nat) : Int) + 1))))) N = some (DN P w N rsD6) ∧ RowsP PlanV (upd H' Fa (DN P w Fa (storeN rsF6 (pkk x.1) bP (.int (((tick : Nat) : Int) + 1))))) rsD6 gl.2 ∧ PlaceAt (upd H' Fa (DN P w Fa (storeN rsF6 (pkk x.1) bP (.int (((tick : Nat) : Int) + 1))))) bP x.1 ∧ TkAt (upd H' Fa (DN P w Fa (storeN rsF6 (pkk x.1) bP (.int (((tick : Nat) : Int) + 1))))) qn x.2 := by
            cases hk : lookF gl.1 x.1 with
            | some t0 =>
              obtain ⟨v0, hv0, hv1⟩ := (hR6.look x.1).2 t0 hk
              rw [hv0] at hv; exact nomatch hv
            | none =>
              rw [hk] at hc1 hf'
              have kF : KeepT H' (upd H' Fa (DN P w Fa (storeN rsF6 (pkk x.1) bP (.int (((tick : Nat) : Int) + 1))))) := .upd hF6 fun _ z => nomatch z
              have nlFa : l ≠ Fa := nlF
              have nNFa : N ≠ Fa := nNF.symm
              refine ⟨_, ((tick : Nat) : Int) + 1, rfl, ?_, upd_same, ?_, fun b o n m z => by rw [upd_ne n]; exact b6 b o n m z, by rw [upd_ne nlFa]; exact hl6, by rw [upd_ne nsl]; exact hsl6, hS6.keep kF, by rw [upd_ne nNFa]; exact hN6, hD6.keep kF (PlanV.keep kF), hbP.keep kF, hqn.keep kF⟩
              · rw [← hc1]; exact decide_eq_true rfl
              · have := (hR6.keep kF FirV.keep).store (k := x.1) (b := bP) (v := .int (((tick : Nat) : Int) + 1)) (x := tick + 1) (hbP.keep kF) (by show _ = V.int ((tick + 1 : Nat) : Int); rw [Int.natCast_succ])
                unfold storeF at this
                rw [hk] at this
                rw [← hf']
                exact this
          revert hRR
          generalize (upd H' Fa (DN P w Fa (storeN rsF6 (pkk x.1) bP (.int (((tick : Nat) : Int) + 1))))) = H7
          generalize hvv : V.int (((tick : Nat) : Int) + 1) = v
        all_goals
          rintro ⟨rsF7, z, hvz, hz, hF7, hR7, b7, hl7, hsl7, hS7, hN7, hD7, hbP7, hqn7⟩
          subst hvz
          refine ⟨.int (tick : Nat), rfl, (tick : Nat), 1, rfl, rfl, rfl, ?_⟩
          have hz' : decide (V.int z = V.int (((tick : Nat) : Int) + 1)) = c1 := by
            rw [← hz]
            congr 1
            exact propext ⟨V.int.inj, fun e => by rw [e]⟩
          dsimp only
          first | rw [hz'] | (obtain rfl := V.int.inj hvv; rw [hz'])
          refine ⟨.bl c1, rfl, c1, rfl, ?_⟩
          have skip : ((c1 && (match lookF gl.2 x.1 with | some p => lexP x.2 p | none => true)) = false) → ∃ (v9 v10 v11 : Option V) (rsF' rsD : List Row), [some (V.ref g), some (.ref l), some (.ref Fa), some (.int (tick : Nat)), some (.ref nf), some (.ref N), some (.int (e.1.1 : Nat)), some (.ref lf), some (.ref pn), some (V.ref bP), some (V.ref qn), some (V.bl c1)] = [some (.ref g), some (.ref l), some (.ref Fa), some (.int (tick : Nat)), some (.ref nf), some (.ref N), some (.int (e.1.1 : Nat)), some (.ref lf), some (.ref pn), v9, v10, v11] ∧ But2 Fa l H H7 ∧ H7 l = some (.frz od (DN P w l rsL)) ∧ H7 Fa = some (DN P w Fa rsF') ∧
            H7 sl = some (.lst sus) ∧ StepsAt H7 sus xs ∧ RowsP FirV H7 rsF' (updOne tick gl x).1 ∧ H7 N = some (DN P w N rsD) ∧ RowsP PlanV H7 rsD (updOne tick gl x).2 := fun hc => by
            rw [hup, hc]
            exact ⟨_, _, _, rsF7, rsD6, rfl, b7, hl7, hF7, hsl7, hS7, hR7, hN7, hD7⟩
          have l7 := hD7.len
          have put : ((c1 && (match lookF gl.2 x.1 with | some p => lexP x.2 p | none => true)) = true) → rsD6.length < sizeLine ∧ ∃ v9 v10 v11 rsF' rsD, [some (V.ref g), some (.ref l), some (.ref Fa), some (.int (tick : Nat)), some (.ref nf), some (.ref N), some (.int (e.1.1 : Nat)), some (.ref lf), some (.ref pn), some (V.ref bP), some (V.ref qn), some (V.bl c1)] = [some (.ref g), some (.ref l), some (.ref Fa), some (.int (tick : Nat)), some (.ref nf), some (.ref N), some (.int (e.1.1 : Nat)), some (.ref lf), some (.ref pn), v9, v10, v11] ∧
            But2 Fa l H (upd H7 N (DN P w N (storeN rsD6 (pkk x.1) bP (.ref qn)))) ∧ (upd H7 N (DN P w N (storeN rsD6 (pkk x.1) bP (.ref qn)))) l = some (.frz od (DN P w l rsL)) ∧ (upd H7 N (DN P w N (storeN rsD6 (pkk x.1) bP (.ref qn)))) Fa = some (DN P w Fa rsF') ∧
            (upd H7 N (DN P w N (storeN rsD6 (pkk x.1) bP (.ref qn)))) sl = some (.lst sus) ∧ StepsAt (upd H7 N (DN P w N (storeN rsD6 (pkk x.1) bP (.ref qn)))) sus xs ∧ RowsP FirV (upd H7 N (DN P w N (storeN rsD6 (pkk x.1) bP (.ref qn)))) rsF' (updOne tick gl x).1 ∧ (upd H7 N (DN P w N (storeN rsD6 (pkk x.1) bP (.ref qn)))) N = some (DN P w N rsD) ∧ RowsP PlanV (upd H7 N (DN P w N (storeN rsD6 (pkk x.1) bP (.ref qn)))) rsD (updOne tick gl x).2 := fun hc => by
            have kN : KeepT H7 (upd H7 N (DN P w N (storeN rsD6 (pkk x.1) bP (.ref qn)))) := .upd hN7 fun _ z => nomatch z
            rw [hup, hc]
            refine ⟨by omega, _, _, _, rsF7, _, rfl, fun b o n m zz => ?_, by rw [upd_ne nNl]; exact hl7, by rw [upd_ne nNF]; exact hF7, by rw [upd_ne nsN]; exact hsl7, hS7.keep kN, hR7.keep kN FirV.keep, upd_same, (hD7.keep kN (PlanV.keep kN)).store (hbP7.keep kN) ⟨qn, rfl, hqn7.keep kN⟩⟩
            rw [upd_ne (ne_of_none zz nN)]; exact b7 b o n m zz
          cases c1 with
          | false => exact iteF (iteF (skip rfl))
          | true =>
            refine iteT ⟨.ref bP, rfl, .ref N, rfl, N, bP, pkk x.1, rsD6, rfl, rfl, ⟨hN7, hD7.keys, hbP7.key, pkk_deep _⟩, _, rfl, ?_⟩
            cases hk : lookF gl.2 x.1 with
            | none =>
              rw [(hD7.look x.1).1 hk]
              rw [hk] at put
              obtain ⟨p1, p2⟩ := put rfl
              exact iteT (iteT ⟨.ref qn, rfl, .ref N, rfl, .ref bP, rfl, N, bP, pkk x.1, rsD6, rfl, rfl, ⟨hN7, hD7.keys, hbP7.key, pkk_deep _⟩, p1, p2⟩)
            | some p =>
              obtain ⟨v0, hv0, pp, rfl, hpp⟩ := (hD7.look x.1).2 p hk
              rw [hv0]
              refine iteF ⟨.ref qn, rfl, .ref N, rfl, .ref bP, rfl, N, bP, pkk x.1, rsD6, .ref pp, rfl, rfl, ⟨hN7, hD7.keys, hbP7.key, pkk_deep _⟩, hv0, planP x.2, planP p, hqn7.dp, hpp.dp, alike_plan _ _, (fun z => nomatch z), by have := depth_plan x.2; omega, _, rfl, ?_⟩
              rw [lt_plan]
              rw [hk] at put skip
              cases hlx : lexP x.2 p with
              | false => exact iteF (skip hlx)
              | true =>
                obtain ⟨p1, p2⟩ := put hlx
                exact iteT ⟨.ref qn, rfl, .ref N, rfl, .ref bP, rfl, N, bP, pkk x.1, rsD6, rfl, rfl, ⟨hN7, hD7.keys, hbP7.key, pkk_deep _⟩, p1, p2⟩
      · obtain ⟨v9, v10, v11, rsF6, rsD6, rfl, b6, hl6, hF6, hsl6, hS6, hR6, hN6, hD6⟩ := h
        rw [lxs, List.take_length] at hR6 hD6
        exact ⟨_, _, _, _, _, _, _, _, rfl, b6, hl6, hF6, hR6, hN6, hD6⟩
    · obtain ⟨v6, v7, v8, v9, v10, v11, rsF3, rsD3, rfl, b3, hl3, hF3, hR3, hN3, hD3⟩ := h
      rw [llay, List.take_length] at hR3 hD3
      refine ⟨hl3, .ref N, rfl, ?_⟩
      have kl : KeepT H' (upd H' l (DN P w l rsL)) := .upd hl3 fun _ z => nomatch z
      refine q _ N rsD3 rsF3 (fun b o n z => ?_) (by rw [upd_ne nlF.symm]; exact hF3) (hR3.keep kl FirV.keep) nN (by rw [upd_ne nNl.symm]; exact hN3) (hD3.keep kl (PlanV.keep kl))
      by_cases m : b = l
      · subst m
        rw [upd_same, ← z, hl]
      · rw [upd_ne m]; exact b3 b o n m z
end
end Sg
set_option Elab.async false
set_option linter.all false
set_option maxRecDepth 100000
set_option maxHeartbeats 4000000
namespace Sg
open PySem PySem.Spec PyProof.Rows L2 StX
/-! ### what may be left, closed under what may come next -/
structure Lefts (Ok : List Int → Prop) (nx : Nx) (sz : List Int → Nat) (Lf : List (List Int)) : Prop where
  few : Lf.length ≤ 480
  ok : ∀ l ∈ Lf, Ok l
  next : ∀ l ∈ Lf, ∀ p ∈ nx l, p.2 ∈ Lf ∧ sz p.2 + 1 = sz l
  top : ∀ l ∈ Lf, sz l ≤ 900
def allU (n : Nat) (Lf : List (List Int)) : List PlcK := (List.range n).flatMap fun i => Lf.map fun l => (i, l)
theorem allU_mem {n : Nat} {Lf : List (List Int)} {x : PlcK} : x ∈ allU n Lf ↔ x.1 < n ∧ x.2 ∈ Lf := by
  unfold allU
  rw [List.mem_flatMap]
  constructor
  · rintro ⟨i, hi, h⟩
    obtain ⟨l, hl, rfl⟩ := List.mem_map.mp h
    exact ⟨List.mem_range.mp hi, hl⟩
  · rintro ⟨h1, h2⟩
    exact ⟨x.1, List.mem_range.mpr h1, List.mem_map.mpr ⟨x.2, h2, rfl⟩⟩
theorem allU_len {n : Nat} {Lf : List (List Int)} : (allU n Lf).length = n * Lf.length := by
  unfold allU
  rw [flatMap_len _ Lf.length _ fun i _ => List.length_map _, List.length_range]
structure LGood (nx : Nx) (sz : List Int → Nat) (Lf : List (List Int)) (n : Nat) (top : Nat) (layer : LayP) : Prop where
  keys : KeysU (allU n Lf) layer
  size : ∀ e ∈ layer, e.2.length + sz e.1.2 = top
theorem step_in {ws : List (List Int)} {R : Nat} {Ls : List Sta} {Ok : List Int → Prop} {nx : Nx} {sz : List Int → Nat} {Lf : List (List Int)} (O : Order ws R Ls) (F : Lefts Ok nx sz Lf) {i : Nat} {left : List Int} {plan : List Plc} {tick top : Nat} (hi : i < Ls.length) (hl : left ∈ Lf)
    (ht : plan.length + sz left = top) : ∀ x ∈ stepsM nx ((numG ws Ls).getD i []) left plan tick, x.1 ∈ allU Ls.length Lf ∧ x.2.length + sz x.1.2 = top := fun x hx => by
  obtain ⟨c, hc, hx⟩ := List.mem_filterMap.mp hx
  have eG : (numG ws Ls).getD i [] = numRow ws Ls Ls[i] := by
    unfold numG
    rw [List.getD_eq_getElem?_getD, List.getElem?_map, List.getElem?_eq_getElem hi]; rfl
  rw [eG] at hc
  obtain ⟨o, ho, rfl⟩ := List.mem_map.mp hc
  have hlt : idxS Ls (nextL ws Ls[i] o) < Ls.length := List.idxOf_lt_length_iff.mpr (O.all _ ((O.rch _ (List.getElem_mem hi)).next (chs_can.mp ho)))
  unfold stepOne at hx
  split at hx
  · cases hx
    exact ⟨allU_mem.mpr ⟨hlt, hl⟩, ht⟩
  · split at hx
    · rename_i p hp
      cases hx
      obtain ⟨h1, h2⟩ := F.next left hl p (List.mem_of_find?_eq_some hp)
      refine ⟨allU_mem.mpr ⟨hlt, h1⟩, ?_⟩
      show (plan ++ [_]).length + sz p.2 = top
      rw [List.length_append, List.length_singleton]; omega
    · exact nomatch hx
theorem storeF_all {α : Type} {S : PlcK × α → Prop} {l : List (PlcK × α)} {k : PlcK} {v : α} (h : ∀ e ∈ l, S e) (hv : S (k, v)) : ∀ e ∈ storeF l k v, S e := fun e he => by
  unfold storeF at he
  split at he
  · obtain ⟨x, hx, rfl⟩ := List.mem_map.mp he
    split
    · rename_i g; rw [g]; exact hv
    · exact h x hx
  · rcases List.mem_append.mp he with he | he
    · exact h e he
    · rw [List.mem_singleton.mp he]; exact hv
theorem updOne_all {S : PlcK × List Plc → Prop} {tick : Nat} {fl : FirL × LayP} {x : PlcK × List Plc} (h : ∀ e ∈ fl.2, S e) (hx : S x) : ∀ e ∈ (updOne tick fl x).2, S e := by
  unfold updOne
  dsimp only
  generalize ((match lookF fl.1 x.1 with | some t => decide (t = tick + 1) | none => true) && (match lookF fl.2 x.1 with | some p => lexP x.2 p | none => true)) = c
  cases c with
  | true => rw [if_pos rfl]; exact storeF_all h hx
  | false => rw [if_neg (by decide)]; exact h
theorem upds_all {S : PlcK × List Plc → Prop} {tick : Nat} : ∀ {xs : List (PlcK × List Plc)} {fl : FirL × LayP}, (∀ e ∈ fl.2, S e) → (∀ x ∈ xs, S x) → ∀ e ∈ (xs.foldl (updOne tick) fl).2, S e
  | [], _, h, _ => h
  | x :: xs, fl, h, hx => upds_all (fl := updOne tick fl x) (updOne_all h (hx x List.mem_cons_self)) fun y hy => hx y (List.mem_cons_of_mem _ hy)
theorem rows_all {S : PlcK × List Plc → Prop} {nx : Nx} {G : List (List (Int × Nat))} {tick : Nat} : ∀ {l : LayP} {fl : FirL × LayP}, (∀ e ∈ fl.2, S e) → (∀ e ∈ l, ∀ x ∈ stepsM nx (G.getD e.1.1 []) e.1.2 e.2 tick, S x) → ∀ e ∈ (l.foldl (layRow nx G tick) fl).2, S e
  | [], _, h, _ => h
  | e :: l, fl, h, hx => rows_all (fl := layRow nx G tick fl e) (upds_all h (hx e List.mem_cons_self)) fun y hy => hx y (List.mem_cons_of_mem _ hy)
theorem layer_good {ws : List (List Int)} {R : Nat} {Ls : List Sta} {Ok : List Int → Prop} {nx : Nx} {sz : List Int → Nat} {Lf : List (List Int)} (O : Order ws R Ls) (F : Lefts Ok nx sz Lf) {tick top : Nat} {first : FirL} {layer : LayP} (hf : KeysU (allU Ls.length Lf) first) (hl : LGood nx sz Lf Ls.length top layer) :
    KeysU (allU Ls.length Lf) (layerM nx (numG ws Ls) tick first layer).1 ∧ LGood nx sz Lf Ls.length top (layerM nx (numG ws Ls) tick first layer).2 := by
  have hs : ∀ e ∈ layer, ∀ x ∈ stepsM nx ((numG ws Ls).getD e.1.1 []) e.1.2 e.2 tick, x.1 ∈ allU Ls.length Lf ∧ x.2.length + sz x.1.2 = top := fun e he => by
    obtain ⟨h1, h2⟩ := allU_mem.mp (hl.keys.sub e he)
    exact step_in O F h1 h2 (hl.size e he)
  obtain ⟨a, b⟩ := rows_keys (tick := tick) (fl := (first, [])) hf .nil fun e he x hx => (hs e he x hx).1
  exact ⟨a, b, rows_all (S := fun e => e.2.length + sz e.1.2 = top) (fl := (first, [])) (fun e he => nomatch he) fun e he x hx => (hs e he x hx).2⟩
section
variable {P : Program} {w : World} {K : PySem.W.Frag} {mg : Str → Option Value} {base : Heap}
theorem minD_plans : ∀ (ps : List (List Plc)) (p : List Plc), ∃ q ∈ p :: ps, PySem.W.minD (planP p) (ps.map planP) = planP q ∧ ∀ r ∈ p :: ps, lexP r q = false
  | [], p => ⟨p, List.mem_cons_self, rfl, fun r hr => by
    rw [List.mem_singleton.mp hr]
    cases h : lexP p p with
    | false => rfl
    | true => have := lexP_asym _ _ h; rw [h] at this; exact nomatch this⟩
  | y :: ps, p => by
    have e : PySem.W.minD (planP p) ((y :: ps).map planP) = PySem.W.minD (planP (if lexP y p = true then y else p)) (ps.map planP) := by
      unfold PySem.W.minD
      rw [List.map_cons, List.foldl_cons, lt_plan]
      split <;> rfl
    obtain ⟨q, hq, e2, hm⟩ := minD_plans ps (if lexP y p = true then y else p)
    rw [← e] at e2
    have h0 := hm _ List.mem_cons_self
    refine ⟨q, ?_, e2, fun r hr => ?_⟩
    · rcases List.mem_cons.mp hq with rfl | hq
      · split
        · exact List.mem_cons_of_mem _ List.mem_cons_self
        · exact List.mem_cons_self
      · exact List.mem_cons_of_mem _ (List.mem_cons_of_mem _ hq)
    · rcases List.mem_cons.mp hr with rfl | hr
      · by_cases g : lexP y r = true
        · rw [if_pos g] at h0
          exact lexP_neg _ _ _ (lexP_asym _ _ g) h0
        · rw [if_neg g] at h0; exact h0
      · rcases List.mem_cons.mp hr with rfl | hr
        · by_cases g : lexP r p = true
          · rw [if_pos g] at h0; exact h0
          · rw [if_neg g] at h0
            exact lexP_neg _ _ _ (by simpa using g) h0
        · exact hm r (List.mem_cons_of_mem _ hr)
theorem planP_inj {p q : List Plc} (h : planP p = planP q) : p = q := by
  have h1 : PyData.eqvAll (plsD p) (plsD q) = PyData.eqvAll (plsD q) (plsD q) := by rw [PyData.tuple.inj h]
  rw [eqv_pls, eqv_pls, decide_eq_true (rfl : q = q)] at h1
  exact of_decide_eq_true h1
theorem plans_dp {K : PySem.W.Frag} {H : Hp} : ∀ {vs : List V} {ps : List (List Plc)}, Paired (PlanV H) vs ps → DpAll K H vs (ps.map planP)
  | _, _, .nil => .nil
  | _, _, .cons ⟨pn, h1, h2⟩ t => .cons (by rw [h1]; exact h2.dp) (plans_dp t)
theorem depth_plans : ∀ ps : List (List Plc), PyData.depthAll (ps.map planP) ≤ 2
  | [] => by simp [PyData.depthAll]
  | p :: ps => by
    have h1 := depth_plans ps
    have h2 := depth_plan p
    show max (PyData.depth (planP p)) (PyData.depthAll (ps.map planP)) ≤ 2
    omega
theorem pt_truthK {X : Cx} {a : Expr} {ta : TE} {K : PySem.W.Frag} (hK : X.K = K) (ha : PE X a ta) (he : ∀ whole, isTrue a X.env whole = (do let v ← whole; standAt a.pos; holding [v] (truthy v))) :
    PT X a (fun σ H Q => ta σ H fun x H' => ∃ k, TruV K x H' k ∧ Q k H') := by subst hK; exact pt_truth ha he
/-! ### _soonest_plan -/
abbrev soonN : List Str := ["line", "wanted", "next_of", "moves", "layer", "first_ticks", "tick", "ended", "_", "left", "plan"]
def SoonInv (P : Program) (w : World) (H : Hp) (a wt nf g : Addr) (us : List V) (nx : Nx) (sz : List Int → Nat) (Lf : List (List Int)) (nL top : Nat) (G : List (List (Int × Nat))) (ps : List (List Plc)) (m : Nat) (σ : L2.St) (H' : Hp) : Prop :=
  ∃ (tick : Nat) (layer : LayP) (first : FirL) (l Fa E : Addr) (rsL rsF : List Row) (eds : List V) (ps' : List (List Plc)) (v8 v9 v10 : Option V), σ = [some (.ref a), some (.ref wt), some (.ref nf), some (.ref g), some (.ref l), some (.ref Fa), some (.int (tick : Nat)), some (.ref E), v8, v9, v10] ∧ Same H H' ∧ H Fa = none ∧ H' g = some (.lst us) ∧ NumAt H' us G ∧
    H' l = some (DN P w l rsL) ∧ RowsP PlanV H' rsL layer ∧ H' Fa = some (DN P w Fa rsF) ∧ RowsP FirV H' rsF first ∧ l ≠ Fa ∧ KeysU (allU nL Lf) first ∧ LGood nx sz Lf nL top layer ∧ H' E = some (.lst eds) ∧ Paired (PlanV H') eds ps' ∧ ((ps' = [] ∧ soonM nx G m tick first layer = some ps) ∨ (ps' ≠ [] ∧ ps' = ps))
theorem PlansV.keep {H H' : Hp} (e : KeepT H H') {vs : List V} {ps : List (List Plc)} (h : Paired (PlanV H) vs ps) : Paired (PlanV H') vs ps := by
  induction h with
  | nil => exact .nil
  | cons a t ih => exact .cons (PlanV.keep e _ _ a) ih
def spSoonPlan (K : PySem.W.Frag) (C nf : Addr) (Ok : List Int → Prop) (nx : Nx) : Sp := fun vs H Q _ => ∃ (a wt : Addr) (ws : List (List Int)) (R : Nat) (left : List Int) (sz : List Int → Nat) (Lf : List (List Int)), vs = [.ref a, .ref wt, .ref nf] ∧ LineAt K C H a ws ∧ Rea ws R ∧ NearR ws.length R ∧ H wt = some (.tup (left.map V.int)) ∧
  Lefts Ok nx sz Lf ∧ left ∈ Lf ∧ (∀ Ls, Order ws R Ls → ∃ n ps, soonM nx (numG ws Ls) n 0 [((0, left), 0)] [((0, left), [])] = some ps) ∧
  ∀ H' r Ls n ps plan, Same H H' → Order ws R Ls → soonM nx (numG ws Ls) n 0 [((0, left), 0)] [((0, left), [])] = some ps → plan ∈ ps → (∀ p ∈ ps, lexP p plan = false) → TkAt H' r plan → Q (.ref r) H'
theorem ok_soonest_plan {f nf f1 f2 C : Addr} {fd fdn fd1 fd2 : FuncData} {k : Nat} {x : Str} {Ok : List Int → Prop} {nx : Nx} (F : Fun K "_soonest_plan" "_soonest_plan" s_soonest_plan f fd)
    (G0 : FnOk P w K mg base CX0 k nf fdn [x] (spNext Ok nx)) (kp0 : PySem.W.keepIn K (.ref nf) = true) (b0 : Binds K fdn [x] [])
    (G1 : FnOk P w K mg base CX0 k f1 fd1 ["line"] (spNumbered K C)) (kp1 : PySem.W.keepIn K (.ref f1) = true) (b1 : Binds K fd1 ["line"] []) (g1 : mg "numbered_moves" = some (.ref f1))
    (G2 : FnOk P w K mg base CX0 k f2 fd2 ["moves", "layer", "first_ticks", "tick", "next_of"] (spLayer P w nf Ok nx)) (kp2 : PySem.W.keepIn K (.ref f2) = true) (b2 : Binds K fd2 ["moves", "layer", "first_ticks", "tick", "next_of"] []) (g2 : mg "_next_layer" = some (.ref f2))
    (m1 : mg "min" = none) : FnOk P w K mg base CX0 (k + 1) f fd ["line", "wanted", "next_of"] (spSoonPlan K C nf Ok nx) := by
  refine F.ok sc_soonest_plan (fun vs H Q E h => ?_) (fun cdv A outer s H vs Q E hr h => ?_)
  · obtain ⟨a, wt, ws, R, left, sz, Lf, rfl, _⟩ := h; rfl
  · obtain ⟨a, wt, ws, R, left, sz, Lf, rfl, hL, hR, hN, hwt, hLf, hin, hex, q⟩ := h
    have hu := hr.units
    have hu64 : (A.deeper (envOfC "_soonest_plan" (defScope s_soonest_plan) s.heap.objs.size f cdv)).units + 64 < cLine := by omega
    refine ⟨_, pss_cons (ps_set (i := 3) sc_soonest_plan.nd rfl (by first | exact .inl rfl | exact .inr rfl) (pe_call G1 hr (by rfl) g1 kp1 b1 .nil pass0 (pa_cons (pv 0) pa_nil)))
      (pss_cons (ps_set (i := 4) sc_soonest_plan.nd rfl (by first | exact .inl rfl | exact .inr rfl) (pe_ndispK (P := P) (w := w) rfl rfl hu64 (pe_tup (pa_cons pe_int (pa_cons (pv 1) pa_nil))) (pe_tup pa_nil)))
      (pss_cons (ps_set (i := 5) sc_soonest_plan.nd rfl (by first | exact .inl rfl | exact .inr rfl) (pe_ndispK (P := P) (w := w) rfl rfl hu64 (pe_tup (pa_cons pe_int (pa_cons (pv 1) pa_nil))) pe_int))
      (pss_cons (ps_set (i := 6) sc_soonest_plan.nd rfl (by first | exact .inl rfl | exact .inr rfl) pe_int)
      (pss_cons (ps_set (i := 7) sc_soonest_plan.nd rfl (by first | exact .inl rfl | exact .inr rfl) (pe_lst pa_nil))
      (pss_cons (ps_while PassesOwn.never (pt_not (pt_truth (pv 7) (by intro _; rfl)))
        (pss_cons (ps_set (i := 4) sc_soonest_plan.nd rfl (by first | exact .inl rfl | exact .inr rfl) (pe_call G2 hr (by rfl) g2 kp2 b2 .nil pass0 (pa_cons (pv 3) (pa_cons (pv 4) (pa_cons (pv 5) (pa_cons (pv 6) (pa_cons (pv 2) pa_nil)))))))
        (pss_cons (ps_lock (ps_setLc (i := 7) (own := [("_", 8), ("left", 9), ("plan", 10)]) (g := gTup K 2 (gCons (gTup K 2 (gCons (gName 8) (gCons (gName 9) gNil))) (gCons (gName 10) gNil))) rfl sc_soonest_plan.nd rfl rfl (sw_true rfl rfl rfl (by decide +kernel)) (pi_itemsNK (P := P) (w := w) rfl rfl (pv 4)) (blkOk_by (N := soonN) (sc := defScope s_soonest_plan) (by decide +kernel))
            (fun _ _ _ _ _ => pg_tup rfl (pgs_cons (pg_tup rfl (pgs_cons (pg_name (i := 8) sc_soonest_plan.nd rfl (Or.inl rfl)) (pgs_cons (pg_name (i := 9) sc_soonest_plan.nd rfl (Or.inl rfl)) pgs_nil))) (pgs_cons (pg_name (i := 10) sc_soonest_plan.nd rfl (Or.inl rfl)) pgs_nil)))
            (fun _ _ _ _ _ => pts_one (pt_not (pt_truthK (K := K) rfl (pe_callV (i := 2) G0 hr (by rfl) (by first | exact .inl rfl | exact .inr (.inl rfl) | exact .inr (.inr rfl)) kp0 b0 .nil pass0 (pa_cons (pv 9) pa_nil)) (by intro _; rfl))))
            (fun _ _ _ _ _ => pv 10)))
        (pss_one (ps_aug (i := 6) sc_soonest_plan.nd rfl (by first | exact .inl rfl | exact .inr rfl) pe_int ip_add)))))
      (pss_one (ps_ret (pe_callB (cr_minL rfl hr) (by rfl) m1 (by decide +kernel) (pa_cons (pv 7) pa_nil))))))))), ?_⟩
    have big : 16700000 ≤ sizeLine := by rw [sizeLine_eq]; decide
    refine ⟨.ref a, rfl, a, ws, R, rfl, hL, hR, hN, fun H1 g us Ls e1 hO hg hG => ?_⟩
    obtain ⟨n, ps, hps⟩ := hex Ls hO
    have hU : (0, left) ∈ allU Ls.length Lf := allU_mem.mpr ⟨by have := (List.getElem?_eq_some_iff.mp hO.zero).1; exact this, hin⟩
    have few : (allU Ls.length Lf).length ≤ 16000000 := by
      rw [allU_len]
      exact Nat.le_trans (Nat.mul_le_mul hO.few hLf.few) (by decide)
    refine fun l nl => ⟨.ref wt, rfl, by show 2 ≤ sizeLine; omega, fun b nb => ⟨Nat.zero_le _, fun u nu => ⟨b, pkk (0, left), rfl, ?_⟩⟩⟩
    have el := same_new (o := DN P w l []) nl
    have hl2 : (upd H1 l (DN P w l [])) l = some (DN P w l []) := upd_same
    have nlH := freeS e1 nl
    generalize upd H1 l (DN P w l []) = H2 at el hl2 nb nu ⊢
    have eb := same_new (o := .tup [V.int 0, .ref wt]) nb
    have hb3 : (upd H2 b (.tup [V.int 0, .ref wt])) b = some (.tup [V.int 0, .ref wt]) := upd_same
    generalize upd H2 b (.tup [V.int 0, .ref wt]) = H3 at eb hb3 nu ⊢
    have eu := same_new (o := .tup ([] : List V)) nu
    have hu4 : (upd H3 u (.tup ([] : List V))) u = some (.tup []) := upd_same
    have hb4 := eu _ _ hb3
    have hl4 := eu _ _ (eb _ _ hl2)
    have e14 := el.trans (eb.trans eu)
    have e4 := e1.trans e14
    generalize upd H3 u (.tup ([] : List V)) = H4 at eu hu4 hb4 hl4 e14 e4 ⊢
    have hP4 : PlaceAt H4 b (0, left) := ⟨wt, hb4, e4 _ _ hwt⟩
    refine ⟨⟨hl4, (fun r hr => nomatch hr), hP4.key, pkk_deep _⟩, ?_⟩
    have k45 : KeepT H4 (upd H4 l (DN P w l [(pkk (0, left), b, .ref u)])) := .upd hl4 fun _ z => nomatch z
    have e5 : Same H (upd H4 l (DN P w l [(pkk (0, left), b, .ref u)])) := fun c o z => by rw [upd_ne (ne_of_none z nlH)]; exact e4 _ _ z
    have hR5 : RowsP PlanV (upd H4 l (DN P w l [(pkk (0, left), b, .ref u)])) [(pkk (0, left), b, .ref u)] [((0, left), [])] := .cons ⟨rfl, hP4.keep k45, u, rfl, [], k45 _ _ hu4, .nil⟩ .nil
    have hl5 : (upd H4 l (DN P w l [(pkk (0, left), b, .ref u)])) l = some (DN P w l [(pkk (0, left), b, .ref u)]) := upd_same
    have hg5 : (upd H4 l (DN P w l [(pkk (0, left), b, .ref u)])) g = some (.lst us) := by rw [upd_ne (ne_of_none hg nl)]; exact e14 _ _ hg
    have hG5 : NumAt (upd H4 l (DN P w l [(pkk (0, left), b, .ref u)])) us (numG ws Ls) := hG.keep (fun c us z => k45 _ _ (e14 _ _ z)) (fun c us z => by rw [upd_ne (ne_of_none z nl)]; exact e14 _ _ z)
    generalize upd H4 l (DN P w l [(pkk (0, left), b, .ref u)]) = H5 at k45 e5 hR5 hl5 hg5 hG5 ⊢
    refine fun Fa nF => ⟨.ref wt, rfl, by show 2 ≤ sizeLine; omega, fun b2 nb2 => ⟨b2, pkk (0, left), rfl, ?_⟩⟩
    have eF := same_new (o := DN P w Fa []) nF
    have hF6 : (upd H5 Fa (DN P w Fa [])) Fa = some (DN P w Fa []) := upd_same
    have nFH := freeS e5 nF
    have nlF : l ≠ Fa := ne_of_none hl5 nF
    generalize upd H5 Fa (DN P w Fa []) = H6 at eF hF6 nb2 ⊢
    have eb2 := same_new (o := .tup [V.int 0, .ref wt]) nb2
    have hb7 : (upd H6 b2 (.tup [V.int 0, .ref wt])) b2 = some (.tup [V.int 0, .ref wt]) := upd_same
    have hF7 := eb2 _ _ hF6
    have e57 := eF.trans eb2
    generalize upd H6 b2 (.tup [V.int 0, .ref wt]) = H7 at eb2 hb7 hF7 e57 ⊢
    have e7 := e5.trans e57
    have hP7 : PlaceAt H7 b2 (0, left) := ⟨wt, hb7, e7 _ _ hwt⟩
    refine ⟨⟨hF7, (fun r hr => nomatch hr), hP7.key, pkk_deep _⟩, ?_⟩
    have k78 : KeepT H7 (upd H7 Fa (DN P w Fa [(pkk (0, left), b2, .int 0)])) := .upd hF7 fun _ z => nomatch z
    have e58 : Same H5 (upd H7 Fa (DN P w Fa [(pkk (0, left), b2, .int 0)])) := fun c o z => by rw [upd_ne (ne_of_none z nF)]; exact e57 _ _ z
    have hR8 : RowsP FirV (upd H7 Fa (DN P w Fa [(pkk (0, left), b2, .int 0)])) [(pkk (0, left), b2, .int 0)] [((0, left), 0)] := .cons ⟨rfl, hP7.keep k78, rfl⟩ .nil
    have hF8 : (upd H7 Fa (DN P w Fa [(pkk (0, left), b2, .int 0)])) Fa = some (DN P w Fa [(pkk (0, left), b2, .int 0)]) := upd_same
    generalize upd H7 Fa (DN P w Fa [(pkk (0, left), b2, .int 0)]) = H8 at k78 e58 hR8 hF8 ⊢
    refine ⟨Nat.zero_le _, fun E0 nE => ?_⟩
    have eE := same_new (o := .lst ([] : List V)) nE
    have hE9 : (upd H8 E0 (.lst ([] : List V))) E0 = some (.lst []) := upd_same
    have hF9 := eE _ _ hF8
    have hR9 := hR8.keep (.of eE) FirV.keep
    have e59 := e58.trans eE
    generalize upd H8 E0 (.lst ([] : List V)) = H9 at eE hE9 hF9 hR9 e59 ⊢
    refine ⟨SoonInv P w H a wt nf g us nx sz Lf Ls.length (sz left) (numG ws Ls) ps, ⟨n, 0, _, _, l, Fa, E0, _, _, [], [], _, _, _, rfl, e5.trans e59, nFH, e59 _ _ hg5, hG5.keep (fun c us z => e59 _ _ z) (fun c us z => e59 _ _ z), e59 _ _ hl5, hR5.keep (.of e59) (PlanV.keep (.of e59)), hF9, hR9, nlF, ?_, ⟨?_, ?_⟩, hE9, .nil, .inl ⟨rfl, hps⟩⟩, ?_⟩
    · exact ⟨List.nodup_cons.mpr ⟨List.not_mem_nil, List.nodup_nil⟩, fun e he => by rw [List.mem_singleton.mp he]; exact hU⟩
    · exact ⟨List.nodup_cons.mpr ⟨List.not_mem_nil, List.nodup_nil⟩, fun e he => by rw [List.mem_singleton.mp he]; exact hU⟩
    · intro e he
      rw [List.mem_singleton.mp he]
      exact Nat.zero_add _
    clear hR9 hF9 hE9 eE nE hR8 hF8 e58 k78 hP7 hb7 hF7 eb2 hR5 hl5 k45 hP4 hb4 hl4
    rintro m σ HA ⟨tick, layer, first, l, Fa, E0, rsL, rsF, eds, ps', v8, v9, v10, rfl, eA, nFH, hgA, hGA, hlA, hRL, hFA, hRF, nlF, kF, gL, hEA, hPs, hor⟩
    refine ⟨.ref E0, rfl, !eds.isEmpty, .inl ⟨eds, .of hEA, rfl⟩, ?_⟩
    have leds := Paired.length hPs
    cases eds with
    | cons y0 eds =>
      refine iteF ?_
      obtain ⟨p0, ps0, rfl⟩ : ∃ p0 ps0, ps' = p0 :: ps0 := by
        cases ps' with
        | nil => exact nomatch leds
        | cons p0 ps0 => exact ⟨p0, ps0, rfl⟩
      obtain rfl : p0 :: ps0 = ps := by
        rcases hor with ⟨z, _⟩ | ⟨_, z⟩
        · exact nomatch z
        · exact z
      obtain ⟨qm, hqm, eqm, hleast⟩ := minD_plans ps0 p0
      refine ⟨.ref E0, rfl, E0, y0 :: eds, planP p0, ps0.map planP, rfl, .of hEA, plans_dp hPs, ⟨fun x hx y hy => ?_, fun x hx => ?_⟩, ?_, fun i y hy he => ?_⟩
      · obtain ⟨x', _, rfl⟩ := List.mem_map.mp (show x ∈ (p0 :: ps0).map planP from hx)
        obtain ⟨y', _, rfl⟩ := List.mem_map.mp (show y ∈ (p0 :: ps0).map planP from hy)
        exact alike_plan _ _
      · obtain ⟨x', _, rfl⟩ := List.mem_map.mp (show x ∈ (p0 :: ps0).map planP from hx)
        exact fun z => nomatch z
      · have := depth_plans (p0 :: ps0)
        show PyData.depthAll ((p0 :: ps0).map planP) ≤ 10
        omega
      · obtain ⟨pi, hpi, pn, rfl, hpn⟩ := paired_get hPs hy
        rw [eqm] at he
        have he : ((p0 :: ps0).map planP)[i]? = some (planP qm) := he
        rw [List.getElem?_map, hpi] at he
        obtain rfl := planP_inj (Option.some.inj he)
        exact q _ pn Ls n _ pi eA hO hps hqm hleast hpn
    | nil =>
      refine iteT ?_
      obtain rfl : ps' = [] := List.eq_nil_of_length_eq_zero leds.symm
      have hm : soonM nx (numG ws Ls) m tick first layer = some ps := by
        rcases hor with ⟨_, z⟩ | ⟨z, _⟩
        · exact z
        · exact absurd rfl z
      cases m with
      | zero => exact nomatch hm
      | succ m =>
      refine ⟨fun σ' H' => ∃ m', m' < m + 1 ∧ SoonInv P w H a wt nf g us nx sz Lf Ls.length (sz left) (numG ws Ls) ps m' σ' H', fun σ' H' h => h, ?_⟩
      have hst : ∀ e ∈ layer, e.1.1 < Ls.length ∧ e.1.2 ∈ Lf := fun e he => allU_mem.mp (gL.keys.sub e he)
      have lG : (numG ws Ls).length = Ls.length := List.length_map _
      refine ⟨.ref g, rfl, .ref l, rfl, .ref Fa, rfl, .int (tick : Nat), rfl, .ref nf, rfl, g, l, Fa, us, numG ws Ls, rsL, rsF, layer, first, tick, allU Ls.length Lf, rfl, hgA, hGA, hlA, hRL, hFA, hRF, nlF,
        ⟨few, fun r hr => ?_, kF, fun e he => ⟨by rw [lG]; exact (hst e he).1, hLf.ok _ (hst e he).2, by have := gL.size e he; have := hLf.top _ hin; omega⟩, fun e he x hx => (step_in hO hLf (hst e he).1 (hst e he).2 (gL.size e he) x hx).1⟩, fun HB d rsD rsG bB hFB hRB nd hdB hRD => ?_⟩
      · obtain ⟨L, _, rfl⟩ := List.mem_map.mp hr
        unfold numRow
        rw [List.length_map]
        have := chs_len (ws := ws) (L := L)
        have := hL.good.few
        omega
      obtain ⟨kF2, gL2⟩ := layer_good hO hLf (tick := tick) kF gL
      have hm2 : soonM nx (numG ws Ls) (m + 1) tick first layer = if (endedM nx (layerM nx (numG ws Ls) tick first layer).2).isEmpty then soonM nx (numG ws Ls) m (tick + 1) (layerM nx (numG ws Ls) tick first layer).1 (layerM nx (numG ws Ls) tick first layer).2 else some (endedM nx (layerM nx (numG ws Ls) tick first layer).2) := rfl
      rw [hm] at hm2
      generalize hfm : (layerM nx (numG ws Ls) tick first layer).1 = first2 at hRB kF2 hm2
      generalize hlm : (layerM nx (numG ws Ls) tick first layer).2 = layer2 at hRD gL2 hm2
      have eB : Same H HB := fun c o z => bB _ _ (ne_of_none z nFH) (eA _ _ z)
      have kB : KeepT HA HB := fun c us z => bB _ _ (ne_of z hFA fun c => nomatch c) z
      have hgB := bB _ _ (ne_of hgA hFA fun c => nomatch c) hgA
      have hGB : NumAt HB us (numG ws Ls) := hGA.keep kB fun c us z => bB _ _ (ne_of z hFA fun c => nomatch c) z
      have ndF : d ≠ Fa := (ne_of_none hFA nd).symm
      have ndH : H d = none := freeS eA nd
      have c2 := gL2.keys.few
      have l2 := hRD.len
      refine ⟨d, DN P w d rsD, hdB, True.intro, fun od => ?_⟩
      have hd3 : (upd HB d (.frz od (DN P w d rsD))) d = some (.frz od (DN P w d rsD)) := upd_same
      have kC : KeepT HB (upd HB d (.frz od (DN P w d rsD))) := .upd hdB fun _ z => nomatch z
      have eC : Same H (upd HB d (.frz od (DN P w d rsD))) := fun c o z => by rw [upd_ne (ne_of_none z ndH)]; exact eB _ _ z
      have hgC : (upd HB d (.frz od (DN P w d rsD))) g = some (.lst us) := by rw [upd_ne (ne_of hgB hdB fun c => nomatch c)]; exact hgB
      have hGC := hGB.keep (H' := upd HB d (.frz od (DN P w d rsD))) kC fun c us z => by rw [upd_ne (ne_of z hdB fun c => nomatch c)]; exact z
      have hRC := hRD.keep kC (PlanV.keep kC)
      have hFC : (upd HB d (.frz od (DN P w d rsD))) Fa = some (DN P w Fa rsG) := by rw [upd_ne ndF.symm]; exact hFB
      have hRFC := hRB.keep kC FirV.keep
      generalize upd HB d (.frz od (DN P w d rsD)) = HC at hd3 kC eC hgC hGC hRC hFC hRFC ⊢
      refine ⟨.ref d, rfl, d, od, rsD, rfl, hd3, fun D nD => ?_⟩
      have ndD : d ≠ D := ne_of_none hd3 nD
      refine lc_it walk_itemsN (fun j H2 => Same HC H2 ∧ ∃ ys, H2 D = some (.lst ys) ∧ Paired (PlanV H2) ys (endedM nx (layer2.take j))) ⟨same_new nD, [], upd_same, .nil⟩ (fun j H2 _ h => ⟨h.1 _ _ hd3, (hRC.keep (.of h.1) (PlanV.keep (.of h.1))).keys⟩) (fun j x H2 H3 hj h hY => ?_) (fun H2 h => ?_)
      · obtain ⟨e2, ys, hD2, hP2⟩ := h
        obtain ⟨T, r, hr, rfl, nT, rfl⟩ := hY
        obtain ⟨em, hem, hdr⟩ := paired_get hRC hr
        have eT := same_new (o := .tup [V.ref r.2.1, r.2.2]) nT
        have hT3 : (upd H2 T (.tup [V.ref r.2.1, r.2.2])) T = some (.tup [V.ref r.2.1, r.2.2]) := upd_same
        obtain ⟨lf, hb0, hlf0⟩ := hdr.at_
        obtain ⟨pn, hpv, hpn0⟩ := hdr.val
        have e3 := e2.trans eT
        have hD3 := eT _ _ hD2
        have hP3 := PlansV.keep (.of eT) hP2
        generalize upd H2 T (.tup [V.ref r.2.1, r.2.2]) = H3 at eT hT3 e3 hD3 hP3 ⊢
        have hemL := gL2.keys.sub em (List.mem_of_getElem? hem)
        refine ⟨T, _, rfl, .of hT3, rfl, _, _, rfl, r.2.1, _, rfl, .of (e3 _ _ hb0), rfl, _, _, rfl, _, _, rfl, rfl, _, _, rfl, rfl, rfl, rfl, .ref lf, rfl, lf, em.1.2, rfl, e3 _ _ hlf0, hLf.ok _ (allU_mem.mp hemL).2, fun H4 dd kvs e4 hdd hnx => ⟨!kvs.isEmpty, .inr (.inr ⟨kvs, hdd, rfl⟩), ?_⟩⟩
        have lk := hnx.len
        have hD4 := e4 _ _ hD3
        have e24 := e3.trans e4
        have hP4 := PlansV.keep (.of e4) hP3
        have lys := Paired.length hP2
        have lyb : (endedM nx (layer2.take j)).length ≤ layer2.length := by
          unfold endedM
          rw [List.length_map]
          exact Nat.le_trans (List.length_filter_le _ _) (by rw [List.length_take]; exact Nat.min_le_right _ _)
        have etk : endedM nx (layer2.take (j + 1)) = endedM nx (layer2.take j) ++ if (nx em.1.2).isEmpty then [em.2] else [] := by
          unfold endedM
          rw [List.take_add_one, hem, List.filter_append, List.map_append]
          congr 1
          show ((([em] : LayP).filter _).map _) = _
          rw [List.filter_cons]
          split <;> rfl
        cases hne : nx em.1.2 with
        | nil =>
          rw [hne] at lk
          obtain rfl : kvs = [] := List.eq_nil_of_length_eq_zero lk
          refine iteT ⟨r.2.2, rfl, ys, hD4, by omega, fun b o z => ?_, ys ++ [r.2.2], upd_same, ?_⟩
          · rw [upd_ne (ne_of_none z nD)]; exact e24 _ _ z
          · have kD : KeepT H4 (upd H4 D (.lst (ys ++ [r.2.2]))) := .upd hD4 fun _ z => nomatch z
            rw [etk, hne]
            exact Paired.snoc (PlansV.keep kD hP4) ⟨pn, hpv, kD _ _ (e24 _ _ hpn0.choose_spec.1) |> fun z => (hpn0.keep (.of e24)).keep kD⟩
        | cons c cs =>
          rw [hne] at lk
          obtain ⟨kv, kvs', rfl⟩ : ∃ kv kvs', kvs = kv :: kvs' := by
            cases kvs with
            | nil => exact nomatch lk
            | cons kv kvs' => exact ⟨kv, kvs', rfl⟩
          refine iteF ⟨e24, ys, hD4, ?_⟩
          rw [etk, hne]
          show Paired _ _ (_ ++ [])
          rw [List.append_nil]; exact hP4
      · obtain ⟨e2, ys, hD2, hP2⟩ := h
        rw [l2, List.take_length] at hP2
        have hd2 := e2 _ _ hd3
        refine ⟨hd2, ?_⟩
        have kZ : KeepT H2 (upd H2 d (DN P w d rsD)) := .upd hd2 fun _ z => nomatch z
        have k2 : KeepT HC H2 := .of e2
        refine ⟨.int (tick : Nat), rfl, ⟨_, _, rfl, rfl, ⟨m, Nat.lt_succ_self m, tick + 1, layer2, first2, d, Fa, D, rsD, rsG, ys, endedM nx layer2, _, _, _, rfl, fun c o z => ?_, nFH, ?_, ?_, upd_same, (hRC.keep k2 (PlanV.keep k2)).keep kZ (PlanV.keep kZ), ?_, (hRFC.keep k2 FirV.keep).keep kZ FirV.keep, ndF, kF2, gL2, ?_, PlansV.keep kZ hP2, ?_⟩⟩⟩
        · rw [upd_ne (ne_of_none z ndH)]; exact e2 _ _ (eC _ _ z)
        · rw [upd_ne (ne_of (e2 _ _ hgC) hd2 fun c => nomatch c)]; exact e2 _ _ hgC
        · exact hGC.keep (fun c us z => kZ _ _ (k2 _ _ z)) fun c us z => by rw [upd_ne (ne_of (e2 _ _ z) hd2 fun c => nomatch c)]; exact e2 _ _ z
        · rw [upd_ne ndF.symm]; exact e2 _ _ hFC
        · rw [upd_ne ndD.symm]; exact hD2
        · by_cases g0 : (endedM nx layer2).isEmpty = true
          · rw [if_pos g0] at hm2
            exact .inl ⟨List.isEmpty_iff.mp g0, hm2.symm⟩
          · rw [if_neg g0] at hm2
            exact .inr ⟨fun z => g0 (by rw [z]; rfl), (Option.some.inj hm2).symm⟩
end
end Sg
set_option Elab.async false
set_option linter.all false
set_option maxRecDepth 100000
set_option maxHeartbeats 4000000
namespace Sg
open PySem PySem.Spec PyProof.Rows L2
/-! ## what the search of the layers finds -/
/-- a place that can be come to in a tick, with a plan -/
inductive Wd (ws : List (List Int)) (nx : Nx) (left0 : List Int) : Nat → Sta → List Int → List Plc → Prop
  | nil : Wd ws nx left0 0 (emptyL ws) left0 []
  | no {t : Nat} {L : Sta} {l : List Int} {p : List Plc} : Wd ws nx left0 t L l p → Wd ws nx left0 (t + 1) (nextL ws L none) l p
  | on {t : Nat} {L : Sta} {l : List Int} {p : List Plc} {o : Nat} {q : Int × List Int} : Wd ws nx left0 t L l p → CanL ws L (some o) → (nx l).find? (fun e => decide (e.1 = ((o : Nat) : Int))) = some q → Wd ws nx left0 (t + 1) (nextL ws L (some o)) q.2 (p ++ [((t : Int), ((o : Nat) : Int))])
theorem Wd.rch {ws : List (List Int)} {nx : Nx} {left0 : List Int} {t : Nat} {L : Sta} {l : List Int} {p : List Plc} (h : Wd ws nx left0 t L l p) : Rchd ws L := by
  induction h with
  | nil => exact Rchd.empty ws
  | no _ ih => exact ih.next (c := none) True.intro
  | on _ hc _ ih => exact ih.next hc
theorem Wd.size {ws : List (List Int)} {Ok : List Int → Prop} {nx : Nx} {sz : List Int → Nat} {Lf : List (List Int)} (F : Lefts Ok nx sz Lf) {left0 : List Int} (h0 : left0 ∈ Lf) {t : Nat} {L : Sta} {l : List Int} {p : List Plc} (h : Wd ws nx left0 t L l p) : l ∈ Lf ∧ p.length + sz l = sz left0 := by
  induction h with
  | nil => exact ⟨h0, Nat.zero_add _⟩
  | no _ ih => exact ih
  | on _ hc hf ih =>
    obtain ⟨h1, h2⟩ := F.next _ ih.1 _ (List.mem_of_find?_eq_some hf)
    refine ⟨h1, ?_⟩
    rw [List.length_append, List.length_singleton]
    have := ih.2
    omega
/-! ### the less, of plans -/
theorem lexP_irr (p : List Plc) : lexP p p = false := by
  cases h : lexP p p with
  | false => rfl
  | true => have := lexP_asym _ _ h; rw [h] at this; exact nomatch this
theorem lexP_eq (p q : List Plc) (h : lexP p q = false) (g : lexP q p = false) : p = q := by rw [lexP_g] at h g; exact lexG_eq (lt := plLt) (fun _ _ h g => plLt_eq h g) _ _ h g
theorem lexP_app : ∀ (p q s : List Plc), p.length = q.length → lexP p q = false → lexP (p ++ s) (q ++ s) = false
  | [], [], s, _, _ => lexP_irr s
  | [], _ :: _, _, h, _ => nomatch h
  | _ :: _, [], _, h, _ => nomatch h
  | x :: p, y :: q, s, h, g => by
    have g : (if x = y then lexP p q else plLt x y) = false := g
    show (if x = y then lexP (p ++ s) (q ++ s) else plLt x y) = false
    by_cases e : x = y
    · rw [if_pos e] at g ⊢
      exact lexP_app p q s (Nat.succ.inj h) g
    · rw [if_neg e] at g ⊢; exact g
/-! ### looking a key up -/
theorem lookF_store {α : Type} {l : List (PlcK × α)} {k k' : PlcK} {v : α} : lookF (storeF l k v) k' = if k = k' then some v else lookF l k' := by
  have app : lookF l k = none → lookF (l ++ [(k, v)]) k' = if k = k' then some v else lookF l k' := fun hn => by
    unfold lookF at hn ⊢
    rw [List.find?_append]
    by_cases e : k = k'
    · subst e
      rw [if_pos rfl]
      rw [Option.map_eq_none_iff] at hn
      rw [hn, Option.none_or, List.find?_cons_of_pos (by simp)]; rfl
    · rw [if_neg e]
      have : List.find? (fun e : PlcK × α => decide (e.1 = k')) [(k, v)] = none := by
        rw [List.find?_cons_of_neg (by simpa using e)]; rfl
      rw [this, Option.or_none]
  unfold storeF
  split
  · rename_i hs
    clear app
    unfold lookF at hs ⊢
    induction l with
    | nil => exact nomatch hs
    | cons e l ih =>
      rw [List.map_cons]
      by_cases g : e.1 = k
      · rw [if_pos g]
        by_cases g2 : k = k'
        · rw [if_pos g2, List.find?_cons_of_pos (by simpa using g.trans g2)]; rfl
        · rw [if_neg g2, List.find?_cons_of_neg (by simpa using fun z => g2 (g.symm.trans z)), List.find?_cons_of_neg (by simpa using fun z => g2 (g.symm.trans z))]
          -- the rest may have the key or not
          congr 1
          rw [List.find?_map]
          have hfun : ((fun e : PlcK × α => decide (e.1 = k')) ∘ fun e : PlcK × α => if e.1 = k then (e.1, v) else e) = fun e : PlcK × α => decide (e.1 = k') := by
            funext e
            show decide ((if e.1 = k then (e.1, v) else e).1 = k') = _
            split <;> rfl
          rw [hfun]
          cases hf : l.find? fun e => decide (e.1 = k') with
          | none => rfl
          | some y =>
            have hy : y.1 = k' := of_decide_eq_true (List.find?_some (p := fun e : PlcK × α => decide (e.1 = k')) hf)
            show some (if y.1 = k then (y.1, v) else y) = some y
            rw [if_neg fun z => g2 (z.symm.trans hy)]
      · rw [if_neg g]
        rw [List.find?_cons_of_neg (by simpa using g)] at hs
        by_cases g3 : e.1 = k'
        · have g2 : ¬ k = k' := fun z => g (g3.trans z.symm)
          rw [if_neg g2, List.find?_cons_of_pos (by simpa using g3), List.find?_cons_of_pos (by simpa using g3)]
        · rw [List.find?_cons_of_neg (by simpa using g3), List.find?_cons_of_neg (by simpa using g3)]
          exact ih hs
  · rename_i hn
    exact app (by simpa using hn)
theorem lookF_snoc {α : Type} {l : List (PlcK × α)} {k k' : PlcK} {v : α} (h : lookF l k = none) : lookF (l ++ [(k, v)]) k' = if k = k' then some v else lookF l k' := by
  have := lookF_store (l := l) (k := k) (k' := k') (v := v)
  unfold storeF at this
  rw [h] at this
  exact this
theorem mem_lookF {α : Type} {l : List (PlcK × α)} (nd : (l.map (·.1)).Nodup) {e : PlcK × α} (he : e ∈ l) : lookF l e.1 = some e.2 := by
  unfold lookF
  induction l with
  | nil => exact nomatch he
  | cons a l ih =>
    rw [List.map_cons, List.nodup_cons] at nd
    rcases List.mem_cons.mp he with rfl | he
    · rw [List.find?_cons_of_pos (by simp)]; rfl
    · rw [List.find?_cons_of_neg (by simpa using fun z => nd.1 (by rw [z]; exact List.mem_map.mpr ⟨e, he, rfl⟩))]
      exact ih nd.2 he
/-! ### one layer -/
structure Done (first : FirL) (tick : Nat) (X : List (PlcK × List Plc)) (fl : FirL × LayP) : Prop where
  fir : ∀ k, lookF fl.1 k = match lookF first k with
    | some s => some s
    | none => if k ∈ X.map (·.1) then some (tick + 1) else none
  low : ∀ k p, lookF fl.2 k = some p → (k, p) ∈ X ∧ lookF first k = none
  all : ∀ x ∈ X, lookF first x.1 = none → ∃ q, lookF fl.2 x.1 = some q ∧ lexP x.2 q = false
theorem Done.next {first : FirL} {tick : Nat} (hlow : ∀ k s, lookF first k = some s → s ≤ tick) {X : List (PlcK × List Plc)} {fl : FirL × LayP} (h : Done first tick X fl) (x : PlcK × List Plc) : Done first tick (X ++ [x]) (updOne tick fl x) := by
  have hup : updOne tick fl x = (if (lookF fl.1 x.1).isSome then fl.1 else fl.1 ++ [(x.1, tick + 1)], if (match lookF fl.1 x.1 with | some t => decide (t = tick + 1) | none => true) && (match lookF fl.2 x.1 with | some p => lexP x.2 p | none => true) then storeF fl.2 x.1 x.2 else fl.2) := by
    unfold updOne
    dsimp only
    generalize ((match lookF fl.1 x.1 with | some t => decide (t = tick + 1) | none => true) && (match lookF fl.2 x.1 with | some p => lexP x.2 p | none => true)) = c
    cases c <;> rfl
  have hc : (match lookF fl.1 x.1 with | some t => decide (t = tick + 1) | none => true) = decide (lookF first x.1 = none) := by
    rw [h.fir]
    cases e : lookF first x.1 with
    | some s =>
      have := hlow _ _ e
      show decide (s = tick + 1) = _
      rw [decide_eq_false (by omega), decide_eq_false (fun z => nomatch z)]
    | none =>
      rw [decide_eq_true rfl]
      dsimp only
      split
      · rename_i t ht
        split at ht
        · rw [← Option.some.inj ht]; exact decide_eq_true rfl
        · exact nomatch ht
      · rfl
  rw [hc] at hup
  have memX : ∀ k, k ∈ (X ++ [x]).map (·.1) ↔ k ∈ X.map (·.1) ∨ k = x.1 := fun k => by
    rw [List.map_append, List.mem_append]
    show _ ∨ k ∈ [x.1] ↔ _
    rw [List.mem_singleton]
  rw [hup]
  refine ⟨fun k => ?_, fun k p hk => ?_, fun y hy hn => ?_⟩
  · have hfk := h.fir k
    by_cases hs : (lookF fl.1 x.1).isSome = true
    · rw [if_pos hs]
      show lookF fl.1 k = _
      rw [hfk]
      cases e : lookF first k with
      | some s => rfl
      | none =>
        dsimp only
        by_cases hk : k = x.1
        · subst hk
          rw [h.fir, e] at hs
          dsimp only at hs
          by_cases hm : x.1 ∈ X.map (·.1)
          · rw [if_pos hm, if_pos ((memX _).mpr (.inl hm))]
          · rw [if_neg hm] at hs; exact nomatch hs
        · by_cases hm : k ∈ X.map (·.1)
          · rw [if_pos hm, if_pos ((memX _).mpr (.inl hm))]
          · rw [if_neg hm, if_neg fun z => ((memX _).mp z).elim hm hk]
    · rw [if_neg hs]
      have hs : lookF fl.1 x.1 = none := by simpa using hs
      show lookF (fl.1 ++ [(x.1, tick + 1)]) k = _
      rw [lookF_snoc hs, hfk]
      by_cases hk : x.1 = k
      · subst hk
        rw [if_pos rfl]
        rw [h.fir] at hs
        cases e : lookF first x.1 with
        | some s => rw [e] at hs; exact nomatch hs
        | none =>
          dsimp only
          rw [if_pos ((memX _).mpr (.inr rfl))]
      · rw [if_neg hk]
        cases e : lookF first k with
        | some s => rfl
        | none =>
          dsimp only
          by_cases hm : k ∈ X.map (·.1)
          · rw [if_pos hm, if_pos ((memX _).mpr (.inl hm))]
          · rw [if_neg hm, if_neg fun z => ((memX _).mp z).elim hm fun z => hk z.symm]
  · have hk : lookF (if (decide (lookF first x.1 = none) && (match lookF fl.2 x.1 with | some p => lexP x.2 p | none => true)) = true then storeF fl.2 x.1 x.2 else fl.2) k = some p := hk
    by_cases hcc : (decide (lookF first x.1 = none) && (match lookF fl.2 x.1 with | some p => lexP x.2 p | none => true)) = true
    · rw [if_pos hcc, lookF_store] at hk
      by_cases e : x.1 = k
      · rw [if_pos e] at hk
        refine ⟨List.mem_append.mpr (.inr (List.mem_singleton.mpr (Prod.ext e.symm (Option.some.inj hk).symm))), ?_⟩
        rw [← e]
        exact of_decide_eq_true (Bool.and_eq_true_iff.mp hcc).1
      · rw [if_neg e] at hk
        obtain ⟨a, b⟩ := h.low k p hk
        exact ⟨List.mem_append.mpr (.inl a), b⟩
    · rw [if_neg hcc] at hk
      obtain ⟨a, b⟩ := h.low k p hk
      exact ⟨List.mem_append.mpr (.inl a), b⟩
  · show ∃ q, lookF (if (decide (lookF first x.1 = none) && (match lookF fl.2 x.1 with | some p => lexP x.2 p | none => true)) = true then storeF fl.2 x.1 x.2 else fl.2) y.1 = some q ∧ lexP y.2 q = false
    by_cases hcc : (decide (lookF first x.1 = none) && (match lookF fl.2 x.1 with | some p => lexP x.2 p | none => true)) = true
    · rw [if_pos hcc, lookF_store]
      have hcc2 := (Bool.and_eq_true_iff.mp hcc).2
      rcases List.mem_append.mp hy with hy | hy
      · obtain ⟨q, hq, hle⟩ := h.all y hy hn
        by_cases e : x.1 = y.1
        · rw [if_pos e]
          refine ⟨x.2, rfl, ?_⟩
          rw [← e] at hq
          rw [hq] at hcc2
          exact lexP_neg _ _ _ hle (lexP_asym _ _ hcc2)
        · rw [if_neg e]; exact ⟨q, hq, hle⟩
      · rw [List.mem_singleton.mp hy, if_pos rfl]
        exact ⟨x.2, rfl, lexP_irr _⟩
    · rw [if_neg hcc]
      rcases List.mem_append.mp hy with hy | hy
      · exact h.all y hy hn
      · obtain rfl := List.mem_singleton.mp hy
        rw [decide_eq_true hn, Bool.true_and] at hcc
        cases e : lookF fl.2 y.1 with
        | none => rw [e] at hcc; exact absurd rfl hcc
        | some q =>
          rw [e] at hcc
          exact ⟨q, rfl, by simpa using hcc⟩
theorem Done.run {first : FirL} {tick : Nat} (hlow : ∀ k s, lookF first k = some s → s ≤ tick) : ∀ (Y : List (PlcK × List Plc)) {X : List (PlcK × List Plc)} {fl : FirL × LayP}, Done first tick X fl → Done first tick (X ++ Y) (Y.foldl (updOne tick) fl)
  | [], X, fl, h => by rw [List.append_nil]; exact h
  | y :: Y, X, fl, h => by
    have := Done.run hlow Y (h.next hlow y)
    rw [List.append_assoc] at this
    exact this
def stepsAll (nx : Nx) (G : List (List (Int × Nat))) (tick : Nat) (layer : LayP) : List (PlcK × List Plc) := layer.flatMap fun e => stepsM nx (G.getD e.1.1 []) e.1.2 e.2 tick
theorem layer_done {nx : Nx} {G : List (List (Int × Nat))} {tick : Nat} {first : FirL} (hlow : ∀ k s, lookF first k = some s → s ≤ tick) (layer : LayP) : Done first tick (stepsAll nx G tick layer) (layerM nx G tick first layer) := by
  have key : ∀ (l : LayP) (X : List (PlcK × List Plc)) (fl : FirL × LayP), Done first tick X fl → Done first tick (X ++ stepsAll nx G tick l) (l.foldl (layRow nx G tick) fl) := by
    intro l
    induction l with
    | nil => intro X fl h; show Done _ _ (X ++ []) _; rw [List.append_nil]; exact h
    | cons e l ih =>
      intro X fl h
      have := ih _ _ (h.run hlow (stepsM nx (G.getD e.1.1 []) e.1.2 e.2 tick))
      rw [List.append_assoc] at this
      exact this
  refine key layer [] (first, []) ⟨fun k => ?_, (fun k p hk => nomatch hk), (fun x hx => nomatch hx)⟩
  show lookF first k = _
  cases lookF first k with
  | some s => rfl
  | none => rfl
end Sg
set_option Elab.async false
set_option linter.all false
set_option maxRecDepth 100000
set_option maxHeartbeats 4000000
namespace Sg
open PySem PySem.Spec PyProof.Rows L2
theorem Order.at {ws : List (List Int)} {R : Nat} {Ls : List Sta} (O : Order ws R Ls) {L : Sta} (h : Rchd ws L) : Ls[idxS Ls L]? = some L := by
  have := List.idxOf_lt_length_iff.mpr (O.all L h)
  unfold idxS
  rw [List.getElem?_eq_getElem this, List.getElem_idxOf]
theorem Order.row {ws : List (List Int)} {R : Nat} {Ls : List Sta} (O : Order ws R Ls) {i : Nat} {L : Sta} (h : Ls[i]? = some L) : (numG ws Ls).getD i [] = numRow ws Ls L := by
  unfold numG
  rw [List.getD_eq_getElem?_getD, List.getElem?_map, h]; rfl
theorem Order.idx {ws : List (List Int)} {R : Nat} {Ls : List Sta} (O : Order ws R Ls) {i : Nat} {L : Sta} (h : Ls[i]? = some L) : idxS Ls L = i := by
  obtain ⟨hi, rfl⟩ := List.getElem?_eq_some_iff.mp h
  exact O.nd.idxOf_getElem i hi
structure LInv (ws : List (List Int)) (nx : Nx) (left0 : List Int) (Ls : List Sta) (t : Nat) (first : FirL) (layer : LayP) : Prop where
  nd : (layer.map (·.1)).Nodup
  lay : ∀ e ∈ layer, ∃ L, Ls[e.1.1]? = some L ∧ Wd ws nx left0 t L e.1.2 e.2
  low : ∀ k s, lookF first k = some s → s ≤ t ∧ ∃ L p, Ls[k.1]? = some L ∧ Wd ws nx left0 s L k.2 p
  has : ∀ s, s ≤ t → ∀ L l p, Wd ws nx left0 s L l p → lookF first (idxS Ls L, l) ≠ none
  all : ∀ L l p, Wd ws nx left0 t L l p → (∀ s, s < t → ∀ p', ¬ Wd ws nx left0 s L l p') → ∃ q, lookF layer (idxS Ls L, l) = some q ∧ lexP p q = false
theorem LInv.start {ws : List (List Int)} {R : Nat} {Ls : List Sta} (O : Order ws R Ls) (nx : Nx) (left0 : List Int) : LInv ws nx left0 Ls 0 [((0, left0), 0)] [((0, left0), [])] := by
  have e0 : idxS Ls (emptyL ws) = 0 := O.idx O.zero
  have lk : ∀ {α : Type} (v : α), lookF [((0, left0), v)] (0, left0) = some v := fun v => by
    unfold lookF
    rw [List.find?_cons_of_pos (by simp)]; rfl
  refine ⟨List.nodup_cons.mpr ⟨List.not_mem_nil, List.nodup_nil⟩, fun e he => ?_, fun k s hk => ?_, fun s hs L l p h => ?_, fun L l p h _ => ?_⟩
  · rw [List.mem_singleton.mp he]
    exact ⟨_, O.zero, .nil⟩
  · obtain hm := List.mem_singleton.mp (lookF_some hk)
    obtain ⟨rfl, rfl⟩ := Prod.mk.inj hm
    exact ⟨Nat.le_refl _, _, _, O.zero, .nil⟩
  · obtain rfl : s = 0 := by omega
    cases h
    rw [e0, lk]
    exact fun z => nomatch z
  · cases h
    rw [e0, lk]
    exact ⟨_, rfl, lexP_irr _⟩
/-- a step from a place is a step of words -/
theorem step_wd {ws : List (List Int)} {R : Nat} {Ls : List Sta} (O : Order ws R Ls) {nx : Nx} {left0 : List Int} {t : Nat} {L : Sta} {l : List Int} {p : List Plc} (h : Wd ws nx left0 t L l p) : ∀ x ∈ stepsM nx (numRow ws Ls L) l p t, ∃ L', Ls[x.1.1]? = some L' ∧ Wd ws nx left0 (t + 1) L' x.1.2 x.2 := fun x hx => by
  obtain ⟨c, hc, hx⟩ := List.mem_filterMap.mp hx
  obtain ⟨o, ho, rfl⟩ := List.mem_map.mp hc
  have hcan := chs_can.mp ho
  have hat := O.at (h.rch.next hcan)
  cases o with
  | none =>
    unfold stepOne at hx
    rw [if_pos (show (chI none, idxS Ls (nextL ws L none)).1 = -1 from rfl)] at hx
    cases hx
    exact ⟨_, hat, h.no⟩
  | some o =>
    unfold stepOne at hx
    rw [if_neg (by show ¬ ((o : Nat) : Int) = -1; omega)] at hx
    split at hx
    · rename_i q hq
      cases hx
      exact ⟨_, hat, h.on hcan hq⟩
    · exact nomatch hx
theorem wd_step {ws : List (List Int)} {Ls : List Sta} {nx : Nx} {t : Nat} {L : Sta} {l : List Int} {p : List Plc} : ((idxS Ls (nextL ws L none), l), p) ∈ stepsM nx (numRow ws Ls L) l p t ∧
    ∀ o q, CanL ws L (some o) → (nx l).find? (fun e => decide (e.1 = ((o : Nat) : Int))) = some q → ((idxS Ls (nextL ws L (some o)), q.2), p ++ [((t : Int), ((o : Nat) : Int))]) ∈ stepsM nx (numRow ws Ls L) l p t := by
  refine ⟨List.mem_filterMap.mpr ⟨(chI none, idxS Ls (nextL ws L none)), List.mem_map.mpr ⟨none, chs_can.mpr True.intro, rfl⟩, ?_⟩, fun o q hc hq => List.mem_filterMap.mpr ⟨(chI (some o), idxS Ls (nextL ws L (some o))), List.mem_map.mpr ⟨some o, chs_can.mpr hc, rfl⟩, ?_⟩⟩
  · unfold stepOne
    rw [if_pos (show (chI none, idxS Ls (nextL ws L none)).1 = -1 from rfl)]
  · unfold stepOne
    rw [if_neg (by show ¬ ((o : Nat) : Int) = -1; omega)]
    have hq : (nx l).find? (fun p => decide (p.1 = (chI (some o), idxS Ls (nextL ws L (some o))).1)) = some q := hq
    rw [hq]
    rfl
theorem LInv.next {ws : List (List Int)} {R : Nat} {Ls : List Sta} (O : Order ws R Ls) {Ok : List Int → Prop} {nx : Nx} {sz : List Int → Nat} {Lf : List (List Int)} (F : Lefts Ok nx sz Lf) {left0 : List Int} (h0 : left0 ∈ Lf) {t : Nat} {first : FirL} {layer : LayP} (h : LInv ws nx left0 Ls t first layer)
    (nd : ((layerM nx (numG ws Ls) t first layer).2.map (·.1)).Nodup) : LInv ws nx left0 Ls (t + 1) (layerM nx (numG ws Ls) t first layer).1 (layerM nx (numG ws Ls) t first layer).2 := by
  have hlow : ∀ k s, lookF first k = some s → s ≤ t := fun k s hk => (h.low k s hk).1
  have D := layer_done (nx := nx) (G := numG ws Ls) hlow layer
  generalize hfm : (layerM nx (numG ws Ls) t first layer) = fl at D nd
  have hX : ∀ x ∈ stepsAll nx (numG ws Ls) t layer, ∃ L', Ls[x.1.1]? = some L' ∧ Wd ws nx left0 (t + 1) L' x.1.2 x.2 := fun x hx => by
    obtain ⟨e, he, hx⟩ := List.mem_flatMap.mp hx
    obtain ⟨L, hL, hw⟩ := h.lay e he
    rw [O.row hL] at hx
    exact step_wd O hw x hx
  -- what is come to for the first time is a step of the layer
  have hY : ∀ L l p, Wd ws nx left0 (t + 1) L l p → (∀ s, s < t + 1 → ∀ p', ¬ Wd ws nx left0 s L l p') → ∃ p1, ((idxS Ls L, l), p1) ∈ stepsAll nx (numG ws Ls) t layer ∧ lexP p p1 = false := by
    intro L l p hw hf
    cases hw with
    | @no t' L0 l0 p0 hw =>
      obtain ⟨q, hq, hle⟩ := h.all L0 l p hw fun s hs p' hw' => hf (s + 1) (by omega) p' hw'.no
      have hm := lookF_some hq
      refine ⟨q, List.mem_flatMap.mpr ⟨_, hm, ?_⟩, hle⟩
      rw [O.row (O.at hw.rch)]
      exact wd_step.1
    | @on t' L0 l0 p0 o q0 hw hc hq0 =>
      obtain ⟨q, hq, hle⟩ := h.all L0 l0 p0 hw fun s hs p' hw' => hf (s + 1) (by omega) _ (hw'.on hc hq0)
      have hm := lookF_some hq
      obtain ⟨L1, hL1, hw1⟩ := h.lay _ hm
      have s1 := (hw.size F h0).2
      have s2 := (hw1.size F h0).2
      refine ⟨_, List.mem_flatMap.mpr ⟨_, hm, ?_⟩, lexP_app p0 q _ (by dsimp only at s2; omega) hle⟩
      rw [O.row (O.at hw.rch)]
      exact wd_step.2 o q0 hc hq0
  have hnew : ∀ L l p, Wd ws nx left0 (t + 1) L l p → (∀ s, s < t + 1 → ∀ p', ¬ Wd ws nx left0 s L l p') → lookF first (idxS Ls L, l) = none := fun L l p hw hf => by
    cases e : lookF first (idxS Ls L, l) with
    | none => rfl
    | some s =>
      obtain ⟨hs, L', p', hL', hw'⟩ := h.low _ _ e
      have hL' : Ls[idxS Ls L]? = some L' := hL'
      rw [O.at hw.rch] at hL'
      obtain rfl := Option.some.inj hL'
      exact absurd hw' (hf s (by omega) p')
  refine ⟨nd, fun e he => ?_, fun k s hk => ?_, fun s hs L l p hw => ?_, fun L l p hw hf => ?_⟩
  · exact hX _ (D.low e.1 e.2 (mem_lookF nd he)).1
  · rw [D.fir] at hk
    cases e : lookF first k with
    | some s' =>
      rw [e] at hk
      obtain rfl := Option.some.inj hk
      obtain ⟨a, b⟩ := h.low k s' e
      exact ⟨by omega, b⟩
    | none =>
      rw [e] at hk
      dsimp only at hk
      split at hk
      · rename_i hm
        obtain rfl := Option.some.inj hk
        obtain ⟨x, hx, rfl⟩ := List.mem_map.mp hm
        obtain ⟨L', h1, h2⟩ := hX x hx
        exact ⟨Nat.le_refl _, L', _, h1, h2⟩
      · exact nomatch hk
  · rw [D.fir]
    by_cases hst : s ≤ t
    · have := h.has s hst L l p hw
      cases e : lookF first (idxS Ls L, l) with
      | none => exact absurd e this
      | some s' => exact fun z => nomatch z
    · obtain rfl : s = t + 1 := by omega
      by_cases hf : ∀ s, s < t + 1 → ∀ p', ¬ Wd ws nx left0 s L l p'
      · obtain ⟨p1, hp1, _⟩ := hY L l p hw hf
        rw [hnew L l p hw hf]
        dsimp only
        rw [if_pos (List.mem_map.mpr ⟨_, hp1, rfl⟩)]
        exact fun z => nomatch z
      · have hf : ∃ s, ∃ p', s < t + 1 ∧ Wd ws nx left0 s L l p' := Classical.byContradiction fun z => hf fun s hs p' hw' => z ⟨s, p', hs, hw'⟩
        obtain ⟨s, p', hs', hw'⟩ := hf
        have := h.has s (by omega) L l p' hw'
        cases e : lookF first (idxS Ls L, l) with
        | none => exact absurd e this
        | some s' => exact fun z => nomatch z
  · obtain ⟨p1, hp1, hle⟩ := hY L l p hw hf
    obtain ⟨q, hq, hle2⟩ := D.all _ hp1 (hnew L l p hw hf)
    exact ⟨q, hq, lexP_neg _ _ _ hle hle2⟩
/-! ### what the search gives -/
structure SoonR (ws : List (List Int)) (nx : Nx) (left0 : List Int) (ps : List (List Plc)) : Prop where
  ex : ∃ T, (∀ s, s < T → ∀ L l p, Wd ws nx left0 s L l p → nx l ≠ []) ∧ (∀ p ∈ ps, ∃ L l, Wd ws nx left0 T L l p ∧ nx l = []) ∧ ∀ L l p, Wd ws nx left0 T L l p → nx l = [] → ∃ q ∈ ps, lexP p q = false
theorem ended_mem {nx : Nx} {layer : LayP} {p : List Plc} : p ∈ endedM nx layer ↔ ∃ e ∈ layer, nx e.1.2 = [] ∧ e.2 = p := by
  unfold endedM
  rw [List.mem_map]
  constructor
  · rintro ⟨e, he, rfl⟩
    obtain ⟨h1, h2⟩ := List.mem_filter.mp he
    exact ⟨e, h1, List.isEmpty_iff.mp h2, rfl⟩
  · rintro ⟨e, h1, h2, rfl⟩
    exact ⟨e, List.mem_filter.mpr ⟨h1, List.isEmpty_iff.mpr h2⟩, rfl⟩
section
variable {ws : List (List Int)} {R : Nat} {Ls : List Sta} {Ok : List Int → Prop} {nx : Nx} {sz : List Int → Nat} {Lf : List (List Int)} {left0 : List Int}
theorem LInv.ended (O : Order ws R Ls) {t : Nat} {first : FirL} {layer : LayP} (h : LInv ws nx left0 Ls t first layer) (hn : ∀ s, s < t → ∀ L l p, Wd ws nx left0 s L l p → nx l ≠ []) :
    (∀ p ∈ endedM nx layer, ∃ L l, Wd ws nx left0 t L l p ∧ nx l = []) ∧ ∀ L l p, Wd ws nx left0 t L l p → nx l = [] → ∃ q ∈ endedM nx layer, lexP p q = false := by
  refine ⟨fun p hp => ?_, fun L l p hw he => ?_⟩
  · obtain ⟨e, he, h1, rfl⟩ := ended_mem.mp hp
    obtain ⟨L, _, hw⟩ := h.lay e he
    exact ⟨L, _, hw, h1⟩
  · obtain ⟨q, hq, hle⟩ := h.all L l p hw fun s hs p' hw' => hn s hs L l p' hw' he
    exact ⟨q, ended_mem.mpr ⟨_, lookF_some hq, he, rfl⟩, hle⟩
theorem soon_res (O : Order ws R Ls) (F : Lefts Ok nx sz Lf) (h0 : left0 ∈ Lf) : ∀ (n t : Nat) (first : FirL) (layer : LayP) (ps : List (List Plc)), LInv ws nx left0 Ls t first layer → KeysU (allU Ls.length Lf) first → LGood nx sz Lf Ls.length (sz left0) layer →
    (∀ s, s ≤ t → ∀ L l p, Wd ws nx left0 s L l p → nx l ≠ []) → soonM nx (numG ws Ls) n t first layer = some ps → SoonR ws nx left0 ps
  | 0, _, _, _, _, _, _, _, _, hm => nomatch hm
  | n + 1, t, first, layer, ps, hI, hF, hG, hn, hm => by
    obtain ⟨hF2, hG2⟩ := layer_good O F (tick := t) hF hG
    have hI2 := hI.next O F h0 hG2.keys.nd
    obtain ⟨a, b⟩ := hI2.ended O fun s hs => hn s (by omega)
    have hm : (if (endedM nx (layerM nx (numG ws Ls) t first layer).2).isEmpty then soonM nx (numG ws Ls) n (t + 1) (layerM nx (numG ws Ls) t first layer).1 (layerM nx (numG ws Ls) t first layer).2 else some (endedM nx (layerM nx (numG ws Ls) t first layer).2)) = some ps := hm
    by_cases g : (endedM nx (layerM nx (numG ws Ls) t first layer).2).isEmpty = true
    · rw [if_pos g] at hm
      refine soon_res O F h0 n (t + 1) _ _ ps hI2 hF2 hG2 (fun s hs L l p hw he => ?_) hm
      by_cases hst : s ≤ t
      · exact hn s hst L l p hw he
      · obtain rfl : s = t + 1 := by omega
        obtain ⟨q, hq, _⟩ := b L l p hw he
        rw [List.isEmpty_iff.mp g] at hq
        exact nomatch hq
    · rw [if_neg g] at hm
      obtain rfl := Option.some.inj hm
      exact ⟨t + 1, fun s hs => hn s (by omega), a, b⟩
theorem soon_some (O : Order ws R Ls) (F : Lefts Ok nx sz Lf) (h0 : left0 ∈ Lf) : ∀ (n t : Nat) (first : FirL) (layer : LayP), LInv ws nx left0 Ls t first layer → KeysU (allU Ls.length Lf) first → LGood nx sz Lf Ls.length (sz left0) layer →
    (∀ s, s ≤ t → ∀ L l p, Wd ws nx left0 s L l p → nx l ≠ []) → (∃ L l p, Wd ws nx left0 (t + n) L l p ∧ nx l = []) → ∃ ps, soonM nx (numG ws Ls) n t first layer = some ps
  | 0, t, _, _, _, _, _, hn, ⟨L, l, p, hw, he⟩ => absurd he (hn t (Nat.le_refl _) L l p hw)
  | n + 1, t, first, layer, hI, hF, hG, hn, ⟨L, l, p, hw, he⟩ => by
    obtain ⟨hF2, hG2⟩ := layer_good O F (tick := t) hF hG
    have hI2 := hI.next O F h0 hG2.keys.nd
    obtain ⟨a, b⟩ := hI2.ended O fun s hs => hn s (by omega)
    show ∃ ps, (if (endedM nx (layerM nx (numG ws Ls) t first layer).2).isEmpty then soonM nx (numG ws Ls) n (t + 1) (layerM nx (numG ws Ls) t first layer).1 (layerM nx (numG ws Ls) t first layer).2 else some (endedM nx (layerM nx (numG ws Ls) t first layer).2)) = some ps
    by_cases g : (endedM nx (layerM nx (numG ws Ls) t first layer).2).isEmpty = true
    · rw [if_pos g]
      refine soon_some O F h0 n (t + 1) _ _ hI2 hF2 hG2 (fun s hs L l p hw he => ?_) ⟨L, l, p, by rw [show t + 1 + n = t + (n + 1) from by omega]; exact hw, he⟩
      by_cases hst : s ≤ t
      · exact hn s hst L l p hw he
      · obtain rfl : s = t + 1 := by omega
        obtain ⟨q, hq, _⟩ := b L l p hw he
        rw [List.isEmpty_iff.mp g] at hq
        exact nomatch hq
    · rw [if_neg g]; exact ⟨_, rfl⟩
theorem start_keys {α : Type} (O : Order ws R Ls) (h0 : left0 ∈ Lf) (v : α) : KeysU (allU Ls.length Lf) [((0, left0), v)] :=
  ⟨List.nodup_cons.mpr ⟨List.not_mem_nil, List.nodup_nil⟩, fun e he => by rw [List.mem_singleton.mp he]; exact allU_mem.mpr ⟨(List.getElem?_eq_some_iff.mp O.zero).1, h0⟩⟩
theorem soon_is (O : Order ws R Ls) (F : Lefts Ok nx sz Lf) (h0 : left0 ∈ Lf) (hne : nx left0 ≠ []) {n : Nat} {ps : List (List Plc)} (h : soonM nx (numG ws Ls) n 0 [((0, left0), 0)] [((0, left0), [])] = some ps) : SoonR ws nx left0 ps :=
  soon_res O F h0 n 0 _ _ ps (LInv.start O nx left0) (start_keys O h0 0) ⟨start_keys O h0 _, fun e he => by rw [List.mem_singleton.mp he]; exact Nat.zero_add _⟩ (fun s hs L l p hw => by
    obtain rfl : s = 0 := by omega
    cases hw
    exact hne) h
theorem soon_ex (O : Order ws R Ls) (F : Lefts Ok nx sz Lf) (h0 : left0 ∈ Lf) (hne : nx left0 ≠ []) (he : ∃ T L l p, Wd ws nx left0 T L l p ∧ nx l = []) : ∃ n ps, soonM nx (numG ws Ls) n 0 [((0, left0), 0)] [((0, left0), [])] = some ps := by
  obtain ⟨T, L, l, p, hw, hl⟩ := he
  obtain ⟨ps, hps⟩ := soon_some O F h0 T 0 _ _ (LInv.start O nx left0) (start_keys O h0 0) ⟨start_keys O h0 _, fun e he => by rw [List.mem_singleton.mp he]; exact Nat.zero_add _⟩ (fun s hs L l p hw => by
    obtain rfl : s = 0 := by omega
    cases hw
    exact hne) ⟨L, l, p, by rw [Nat.zero_add]; exact hw, hl⟩
  exact ⟨T, ps, hps⟩
end
end Sg
set_option Elab.async false
set_option linter.all false
set_option maxRecDepth 100000
set_option maxHeartbeats 4000000
namespace Sg
open PySem PySem.Spec PyProof.Rows L2
/-! ## plans without a clash are words -/
def Hits (ws : List (List Int)) (x y : Plc) : Prop := (y.1 - x.1).toNat ∈ barsN (wkS ws x.2.toNat) (wkS ws y.2.toNat)
structure VPl (ws : List (List Int)) (p : List Plc) : Prop where
  nn : ∀ x ∈ p, 0 ≤ x.1 ∧ 0 ≤ x.2 ∧ x.2 < (ws.length : Nat)
  pw : p.Pairwise fun x y => x.1 < y.1 ∧ ¬ Hits ws x y
theorem VPl.nil {ws : List (List Int)} : VPl ws [] := ⟨(fun x h => nomatch h), List.Pairwise.nil⟩
theorem VPl.snoc {ws : List (List Int)} {p : List Plc} {y : Plc} : VPl ws (p ++ [y]) ↔ VPl ws p ∧ (0 ≤ y.1 ∧ 0 ≤ y.2 ∧ y.2 < (ws.length : Nat)) ∧ ∀ x ∈ p, x.1 < y.1 ∧ ¬ Hits ws x y := by
  constructor
  · rintro ⟨h1, h2⟩
    obtain ⟨a, _, c⟩ := List.pairwise_append.mp h2
    exact ⟨⟨fun x hx => h1 x (List.mem_append.mpr (.inl hx)), a⟩, h1 y (List.mem_append.mpr (.inr (List.mem_singleton.mpr rfl))), fun x hx => c x hx y (List.mem_singleton.mpr rfl)⟩
  · rintro ⟨⟨h1, h2⟩, h3, h4⟩
    refine ⟨fun x hx => ?_, List.pairwise_append.mpr ⟨h2, List.pairwise_singleton _ _, fun x hx z hz => ?_⟩⟩
    · rcases List.mem_append.mp hx with hx | hx
      · exact h1 x hx
      · rw [List.mem_singleton.mp hx]; exact h3
    · rw [List.mem_singleton.mp hz]; exact h4 x hx
theorem Wd.cs {ws : List (List Int)} {nx : Nx} {left0 : List Int} {t : Nat} {L : Sta} {l : List Int} {p : List Plc} (h : Wd ws nx left0 t L l p) : ∃ cs : List (Option Nat), cs.length = t ∧ L = runS ws cs ∧ (∀ (i o : Nat), cs[i]? = some (some o) ↔ (((i : Nat) : Int), ((o : Nat) : Int)) ∈ p) ∧ ∀ x ∈ p, 0 ≤ x.1 ∧ x.1 < t ∧ 0 ≤ x.2 := by
  induction h with
  | nil => exact ⟨[], rfl, rfl, (fun i o => ⟨(fun z => nomatch z), (fun z => nomatch z)⟩), (fun x hx => nomatch hx)⟩
  | @no t L l p _ ih =>
    obtain ⟨cs, h1, h2, h3, h4⟩ := ih
    refine ⟨cs ++ [none], by rw [List.length_append, h1]; rfl, by rw [runS_snoc, h2], fun i o => ?_, fun x hx => by have := h4 x hx; omega⟩
    rw [← h3]
    rcases Nat.lt_or_ge i cs.length with z | z
    · rw [List.getElem?_append_left z]
    · rw [List.getElem?_append_right z, List.getElem?_eq_none z]
      constructor
      · intro e
        have := List.mem_singleton.mp (List.mem_of_getElem? e)
        exact nomatch this
      · exact fun e => nomatch e
  | @on t L l p o q _ hc hq ih =>
    obtain ⟨cs, h1, h2, h3, h4⟩ := ih
    refine ⟨cs ++ [some o], by rw [List.length_append, h1]; rfl, by rw [runS_snoc, h2], fun i o' => ?_, fun x hx => ?_⟩
    · rw [List.mem_append, List.mem_singleton, ← h3]
      rcases Nat.lt_or_ge i cs.length with z | z
      · rw [List.getElem?_append_left z]
        refine ⟨.inl, fun g => g.resolve_right fun e => ?_⟩
        have := (Prod.mk.inj e).1
        omega
      · rw [List.getElem?_append_right z, List.getElem?_eq_none z]
        constructor
        · intro e
          obtain ⟨hi, e2⟩ := List.getElem?_eq_some_iff.mp e
          have hi : i - cs.length < 1 := hi
          have := List.mem_singleton.mp (List.mem_of_getElem? e)
          obtain rfl := Option.some.inj this
          exact .inr (Prod.ext (by show ((i : Nat) : Int) = _; omega) rfl)
        · rintro (e | e)
          · exact nomatch e
          · obtain ⟨e1, e2⟩ := Prod.mk.inj e
            have e1 : i = cs.length := by omega
            have e2 : o' = o := by omega
            rw [e1, Nat.sub_self, e2]; rfl
    · rcases List.mem_append.mp hx with hx | hx
      · have := h4 x hx; omega
      · rw [List.mem_singleton.mp hx]
        exact ⟨by show (0 : Int) ≤ (t : Nat); omega, by show ((t : Nat) : Int) < ((t + 1 : Nat) : Int); omega, by show (0 : Int) ≤ (o : Nat); omega⟩
section
variable {ws : List (List Int)} {R : Nat} (hR : Rea ws R) (R6 : R ≤ 60) {nx : Nx} {left0 : List Int}
include hR R6 in
theorem Wd.row {t : Nat} {L : Sta} {l : List Int} {p : List Plc} (h : Wd ws nx left0 t L l p) {k d : Nat} : d ∈ rowS L k ↔ k < ws.length ∧ ∃ x ∈ p, d + (((t : Nat) : Int) - x.1).toNat ∈ barsN (wkS ws x.2.toNat) (wkS ws k) := by
  obtain ⟨cs, h1, rfl, h3, h4⟩ := h.cs
  rw [row_run hR R6]
  refine and_congr_right fun _ => ?_
  constructor
  · rintro ⟨i, o, hi, hb⟩
    have := (List.getElem?_eq_some_iff.mp hi).1
    refine ⟨_, (h3 i o).mp hi, ?_⟩
    show d + (((t : Nat) : Int) - ((i : Nat) : Int)).toNat ∈ barsN (wkS ws (Int.toNat ((o : Nat) : Int))) _
    rw [Int.toNat_natCast, show (((t : Nat) : Int) - ((i : Nat) : Int)).toNat = cs.length - i from by omega]
    exact hb
  · rintro ⟨x, hx, hb⟩
    obtain ⟨g1, g2, g3⟩ := h4 x hx
    refine ⟨x.1.toNat, x.2.toNat, (h3 _ _).mpr ?_, ?_⟩
    · rw [Int.toNat_of_nonneg g1, Int.toNat_of_nonneg g3]; exact hx
    · rw [show cs.length - x.1.toNat = (((t : Nat) : Int) - x.1).toNat from by omega]
      exact hb
include hR R6 in
theorem Wd.can {t : Nat} {L : Sta} {l : List Int} {p : List Plc} (h : Wd ws nx left0 t L l p) {o : Nat} : CanL ws L (some o) ↔ o < ws.length ∧ ∀ x ∈ p, ¬ Hits ws x (((t : Nat) : Int), ((o : Nat) : Int)) := by
  show o ∈ (List.range ws.length).filter (fun k => !decide (0 ∈ rowS L k)) ↔ _
  rw [List.mem_filter, List.mem_range, Bool.not_eq_true', decide_eq_false_iff_not, h.row hR R6]
  refine and_congr_right fun ho => ?_
  constructor
  · intro g x hx hh
    refine g ⟨ho, x, hx, ?_⟩
    rw [Nat.zero_add]
    exact hh
  · rintro g ⟨_, x, hx, hh⟩
    rw [Nat.zero_add] at hh
    exact g x hx hh
/-- what is left behind these kinds -/
def afterK (nx : Nx) : List Int → List Int → Option (List Int)
  | l, [] => some l
  | l, k :: ks => match (nx l).find? fun e => decide (e.1 = k) with
    | some q => afterK nx q.2 ks
    | none => none
theorem afterK_app (nx : Nx) : ∀ (a b l : List Int), afterK nx l (a ++ b) = (afterK nx l a).bind fun m => afterK nx m b
  | [], b, l => rfl
  | k :: a, b, l => by
    show (match (nx l).find? fun e => decide (e.1 = k) with | some q => afterK nx q.2 (a ++ b) | none => none) = (match (nx l).find? (fun e : Int × List Int => decide (e.1 = k)) with | some q => afterK nx q.2 a | none => none).bind fun m => afterK nx m b
    split
    · exact afterK_app nx a b _
    · rfl
include hR R6 in
theorem Wd.good {t : Nat} {L : Sta} {l : List Int} {p : List Plc} (h : Wd ws nx left0 t L l p) : VPl ws p ∧ (∀ x ∈ p, x.1 < t) ∧ afterK nx left0 (p.map (·.2)) = some l := by
  induction h with
  | nil => exact ⟨.nil, (fun x hx => nomatch hx), rfl⟩
  | no _ ih => exact ⟨ih.1, fun x hx => by have := ih.2.1 x hx; omega, ih.2.2⟩
  | @on t L l p o q hw hc hq ih =>
    obtain ⟨h1, h2, h3⟩ := ih
    obtain ⟨g1, g2⟩ := (hw.can hR R6).mp hc
    refine ⟨VPl.snoc.mpr ⟨h1, ⟨by show (0 : Int) ≤ (t : Nat); omega, by show (0 : Int) ≤ (o : Nat); omega, by show ((o : Nat) : Int) < (ws.length : Nat); omega⟩, fun x hx => ⟨h2 x hx, g2 x hx⟩⟩, fun x hx => ?_, ?_⟩
    · rcases List.mem_append.mp hx with hx | hx
      · have := h2 x hx; omega
      · rw [List.mem_singleton.mp hx]; show ((t : Nat) : Int) < ((t + 1 : Nat) : Int); omega
    · rw [List.map_append, afterK_app, h3]
      show (match (nx l).find? fun e => decide (e.1 = ((o : Nat) : Int)) with | some q => afterK nx q.2 [] | none => none) = some q.2
      rw [hq]; rfl
include hR R6 in
theorem wd_of : ∀ (t : Nat) (l : List Int) (p : List Plc), VPl ws p → (∀ x ∈ p, x.1 < (t : Nat)) → afterK nx left0 (p.map (·.2)) = some l → ∃ L, Wd ws nx left0 t L l p
  | 0, l, p, hv, ht, ha => by
    cases p with
    | nil =>
      obtain rfl := Option.some.inj ha
      exact ⟨_, .nil⟩
    | cons x p =>
      have h1 := ht x List.mem_cons_self
      have h2 := (hv.nn x List.mem_cons_self).1
      exact absurd h1 (by omega)
  | t + 1, l, p, hv, ht, ha => by
    by_cases hl : ∀ x ∈ p, x.1 < (t : Nat)
    · obtain ⟨L, h⟩ := wd_of t l p hv hl ha
      exact ⟨_, h.no⟩
    · obtain ⟨p0, y, rfl⟩ : ∃ p0 y, p = p0 ++ [y] := by
        rcases List.eq_nil_or_concat p with rfl | ⟨p0, y, rfl⟩
        · exact absurd (fun x hx => nomatch hx) hl
        · exact ⟨p0, y, by rw [List.concat_eq_append]⟩
      obtain ⟨h1, ⟨g1, g2, g3⟩, h3⟩ := VPl.snoc.mp hv
      have hy := ht y (List.mem_append.mpr (.inr (List.mem_singleton.mpr rfl)))
      have ey : y.1 = (t : Nat) := by
        refine Classical.byContradiction fun ne => hl fun x hx => ?_
        rcases List.mem_append.mp hx with hx | hx
        · have := (h3 x hx).1; omega
        · rw [List.mem_singleton.mp hx]; omega
      rw [List.map_append, afterK_app] at ha
      obtain ⟨l0, ha0, ha1⟩ := Option.bind_eq_some_iff.mp ha
      have ha1 : (match (nx l0).find? fun e => decide (e.1 = y.2) with | some q => afterK nx q.2 [] | none => none) = some l := ha1
      cases hq : (nx l0).find? (fun e => decide (e.1 = y.2)) with
      | none => rw [hq] at ha1; exact nomatch ha1
      | some q =>
        rw [hq] at ha1
        obtain rfl := Option.some.inj ha1
        obtain ⟨L, h⟩ := wd_of t l0 p0 h1 (fun x hx => by have := (h3 x hx).1; omega) ha0
        have e2 : y.2 = ((y.2.toNat : Nat) : Int) := (Int.toNat_of_nonneg g2).symm
        have eyy : y = (((t : Nat) : Int), ((y.2.toNat : Nat) : Int)) := Prod.ext ey e2
        refine ⟨nextL ws L (some y.2.toNat), ?_⟩
        rw [show p0 ++ [y] = p0 ++ [(((t : Nat) : Int), ((y.2.toNat : Nat) : Int))] from by rw [← eyy]]
        exact h.on ((h.can hR R6).mpr ⟨by omega, fun x hx => by rw [← eyy]; exact (h3 x hx).2⟩) (by rw [← e2]; exact hq)
/-! ### the best -/
def endT (p : List Plc) : Nat := match p.getLast? with
  | some y => (y.1 + 1).toNat
  | none => 0
theorem endT_snoc (p : List Plc) (y : Plc) : endT (p ++ [y]) = (y.1 + 1).toNat := by
  unfold endT
  rw [List.getLast?_concat]
theorem VPl.lt {p : List Plc} (h : VPl ws p) : ∀ x ∈ p, x.1 < (endT p : Nat) := fun x hx => by
  rcases List.eq_nil_or_concat p with rfl | ⟨p0, y, rfl⟩
  · exact nomatch hx
  · rw [List.concat_eq_append] at hx h ⊢
    rw [endT_snoc]
    obtain ⟨_, ⟨g1, _⟩, h3⟩ := VPl.snoc.mp h
    rcases List.mem_append.mp hx with hx | hx
    · have := (h3 x hx).1; omega
    · rw [List.mem_singleton.mp hx]; omega
theorem endT_le {p : List Plc} {t : Nat} (h : ∀ x ∈ p, x.1 < (t : Nat)) : endT p ≤ t := by
  rcases List.eq_nil_or_concat p with rfl | ⟨p0, y, rfl⟩
  · exact Nat.zero_le _
  · rw [List.concat_eq_append] at h ⊢
    rw [endT_snoc]
    have := h y (List.mem_append.mpr (.inr (List.mem_singleton.mpr rfl)))
    omega
/-- a plan of all that is wanted -/
def GoodO (ws : List (List Int)) (nx : Nx) (left0 : List Int) (p : List Plc) : Prop := VPl ws p ∧ ∃ l, afterK nx left0 (p.map (·.2)) = some l ∧ nx l = []
structure BestW (ws : List (List Int)) (nx : Nx) (left0 : List Int) (p : List Plc) : Prop where
  good : GoodO ws nx left0 p
  soon : ∀ q, GoodO ws nx left0 q → endT p ≤ endT q
  less : ∀ q, GoodO ws nx left0 q → endT q = endT p → lexP q p = false
include hR R6 in
theorem best_of {ps : List (List Plc)} (h : SoonR ws nx left0 ps) {p : List Plc} (hp : p ∈ ps) (hl : ∀ q ∈ ps, lexP q p = false) : BestW ws nx left0 p := by
  obtain ⟨T, h1, h2, h3⟩ := h.ex
  obtain ⟨L, l, hw, he⟩ := h2 p hp
  obtain ⟨g1, g2, g3⟩ := hw.good hR R6
  have low : ∀ q, GoodO ws nx left0 q → T ≤ endT q := fun q ⟨v, l', ha, hn⟩ => by
    obtain ⟨L', hw'⟩ := wd_of hR R6 (endT q) l' q v v.lt ha
    refine Nat.le_of_not_lt fun z => h1 _ z _ _ _ hw' hn
  have gp : GoodO ws nx left0 p := ⟨g1, l, g3, he⟩
  have eT : endT p = T := Nat.le_antisymm (endT_le g2) (low p gp)
  refine ⟨gp, fun q hq => by rw [eT]; exact low q hq, fun q ⟨v, l', ha, hn⟩ e => ?_⟩
  obtain ⟨L', hw'⟩ := wd_of hR R6 (endT q) l' q v v.lt ha
  rw [e, eT] at hw'
  obtain ⟨r, hr, hle⟩ := h3 L' l' q hw' hn
  exact lexP_neg _ _ _ hle (hl r hr)
theorem BestW.uniq {p q : List Plc} (hp : BestW ws nx left0 p) (hq : BestW ws nx left0 q) : p = q := by
  have e : endT p = endT q := Nat.le_antisymm (hp.soon q hq.good) (hq.soon p hp.good)
  exact lexP_eq _ _ (hq.less p hp.good e) (hp.less q hq.good e.symm)
end
end Sg
set_option Elab.async false
set_option linter.all false
set_option maxRecDepth 100000
set_option maxHeartbeats 4000000
namespace Sg
open PySem PySem.Spec PyProof.Rows L2
/-! ## the best plan keeps near -/
section
variable {ws : List (List Int)} {R : Nat} (hR : Rea ws R) {nx : Nx} {left0 : List Int}
abbrev sooner (b : List Plc) : List Plc := b.map fun x => (x.1 - 1, x.2)
theorem kinds_sooner (b : List Plc) : (sooner b).map (·.2) = b.map (·.2) := by rw [List.map_map]; rfl
theorem Rea.far {ws : List (List Int)} {R : Nat} (hR : Rea ws R) {x y : Plc} (h : (R : Nat) < y.1 - x.1) : ¬ Hits ws x y := fun z => by
  have := hR _ _ _ z
  omega
include hR in
theorem sooner_ok {a b : List Plc} {y : Plc} (h : VPl ws (a ++ y :: b)) (hy : (endT a : Nat) + (if a = [] then 0 else (R : Nat)) < y.1) : VPl ws (a ++ sooner (y :: b)) ∧ endT (a ++ sooner (y :: b)) < endT (a ++ y :: b) := by
  obtain ⟨h1, h2⟩ := h
  obtain ⟨pa, pb, pab⟩ := List.pairwise_append.mp h2
  have hfirst : ∀ z ∈ y :: b, y.1 ≤ z.1 := fun z hz => by
    rcases List.mem_cons.mp hz with rfl | hz
    · exact Int.le_refl _
    · have := ((List.pairwise_cons.mp pb).1 z hz).1; omega
  have va : VPl ws a := ⟨fun x hx => h1 x (List.mem_append.mpr (.inl hx)), pa⟩
  refine ⟨⟨fun x hx => ?_, List.pairwise_append.mpr ⟨pa, ?_, fun x hx z hz => ?_⟩⟩, ?_⟩
  · rcases List.mem_append.mp hx with hx | hx
    · exact h1 x (List.mem_append.mpr (.inl hx))
    · obtain ⟨z, hz, rfl⟩ := List.mem_map.mp hx
      have := h1 z (List.mem_append.mpr (.inr hz))
      have := hfirst z hz
      refine ⟨by show 0 ≤ z.1 - 1; omega, this |> fun _ => (h1 z (List.mem_append.mpr (.inr hz))).2⟩
  · rw [List.pairwise_map]
    refine pb.imp fun {x z} g => ⟨by show x.1 - 1 < z.1 - 1; omega, fun q => g.2 ?_⟩
    have q : ((z.1 - 1) - (x.1 - 1)).toNat ∈ _ := q
    rw [show (z.1 - 1) - (x.1 - 1) = z.1 - x.1 from by omega] at q
    exact q
  · obtain ⟨z, hzb, rfl⟩ := List.mem_map.mp hz
    clear hz
    have hz := hzb
    have hxl := va.lt x hx
    have hz1 := hfirst z hz
    have ane : a ≠ [] := fun e => by rw [e] at hx; exact nomatch hx
    rw [if_neg ane] at hy
    exact ⟨by show x.1 < z.1 - 1; omega, hR.far (by show (R : Nat) < z.1 - 1 - x.1; omega)⟩
  · obtain ⟨b0, z, hb⟩ : ∃ b0 z, y :: b = b0 ++ [z] := by
      rcases List.eq_nil_or_concat (y :: b) with e | ⟨b0, z, e⟩
      · exact nomatch e
      · exact ⟨b0, z, by rw [e, List.concat_eq_append]⟩
    have hz : z ∈ y :: b := by rw [hb]; exact List.mem_append.mpr (.inr (List.mem_singleton.mpr rfl))
    have z0 := hfirst z hz
    have es : sooner (b0 ++ [z]) = sooner b0 ++ [(z.1 - 1, z.2)] := List.map_append
    rw [hb, es, ← List.append_assoc, ← List.append_assoc, endT_snoc, endT_snoc]
    show (z.1 - 1 + 1).toNat < _
    omega
include hR in
theorem BestW.near {p : List Plc} (h : BestW ws nx left0 p) {a b : List Plc} {y : Plc} (e : p = a ++ y :: b) : y.1 ≤ (endT a : Nat) + (if a = [] then 0 else (R : Nat)) := by
  subst e
  refine Int.not_lt.mp fun hy => ?_
  obtain ⟨hv, l, ha, hn⟩ := h.good
  obtain ⟨v, lt⟩ := sooner_ok hR hv hy
  have := h.soon _ ⟨v, l, by rw [List.map_append, kinds_sooner, ← List.map_append]; exact ha, hn⟩
  omega
include hR in
/-- there is always a plan -/
theorem some_plan : ∀ (n : Nat) (ks : List Int), ks.length = n → (∀ k ∈ ks, 0 ≤ k ∧ k < (ws.length : Nat)) → ∃ p, VPl ws p ∧ p.map (·.2) = ks
  | 0, ks, hl, _ => ⟨[], .nil, by rw [List.eq_nil_of_length_eq_zero hl]; rfl⟩
  | n + 1, ks, hl, hk => by
    obtain ⟨ks0, k, rfl⟩ : ∃ ks0 k, ks = ks0 ++ [k] := by
      rcases List.eq_nil_or_concat ks with e | ⟨b0, z, e⟩
      · rw [e] at hl; exact nomatch hl
      · exact ⟨b0, z, by rw [e, List.concat_eq_append]⟩
    obtain ⟨p, hv, hp⟩ := some_plan n ks0 (by rw [List.length_append] at hl; exact Nat.succ.inj hl) fun x hx => hk x (List.mem_append.mpr (.inl hx))
    refine ⟨p ++ [(((endT p + R : Nat) : Int), k)], VPl.snoc.mpr ⟨hv, ⟨by show (0 : Int) ≤ ((endT p + R : Nat) : Int); omega, hk k (List.mem_append.mpr (.inr (List.mem_singleton.mpr rfl)))⟩, fun x hx => ?_⟩, by rw [List.map_append, hp]; rfl⟩
    have := hv.lt x hx
    exact ⟨by show x.1 < ((endT p + R : Nat) : Int); omega, hR.far (by show (R : Nat) < ((endT p + R : Nat) : Int) - x.1; omega)⟩
end
/-! ## orders -/
/-! ### the law's plans -/
def freeL (ws : List (List Int)) (p : List Plc) (y : Plc) : Bool := p.all fun x => !decide ((y.1 - x.1).toNat ∈ barsN (wkS ws x.2.toNat) (wkS ws y.2.toNat))
theorem freeL_iff {ws : List (List Int)} {p : List Plc} {y : Plc} : freeL ws p y = true ↔ ∀ x ∈ p, ¬ Hits ws x y := by
  unfold freeL Hits
  rw [List.all_eq_true]
  exact ⟨fun h x hx => by simpa using h x hx, fun h x hx => by simpa using h x hx⟩
end Sg
set_option Elab.async false
set_option linter.all false
set_option maxRecDepth 100000
set_option maxHeartbeats 4000000
namespace Sg
open PySem PySem.Spec PyProof.Rows L2
/-! ## counts -/
theorem nxAny_find {cs : List Int} {k : Int} {q : Int × List Int} : (nxAny cs).find? (fun e => decide (e.1 = k)) = some q ↔ ∃ j : Nat, j < cs.length ∧ k = (j : Nat) ∧ 0 < cs.getD j 0 ∧ q = (((j : Nat) : Int), cs.set j (cs.getD j 0 - 1)) := by
  constructor
  · intro h
    have hm := List.mem_of_find?_eq_some h
    have hk : q.1 = k := of_decide_eq_true (List.find?_some (p := fun e : Int × List Int => decide (e.1 = k)) h)
    obtain ⟨j, hj, e⟩ := List.mem_filterMap.mp hm
    unfold nxAt at e
    split at e
    · rename_i h0
      have e := Option.some.inj e
      refine ⟨j, List.mem_range.mp hj, ?_, h0, e.symm⟩
      rw [← hk, ← e]
    · exact nomatch e
  · rintro ⟨j, hj, rfl, h0, rfl⟩
    have hm : (((j : Nat) : Int), cs.set j (cs.getD j 0 - 1)) ∈ nxAny cs := List.mem_filterMap.mpr ⟨j, List.mem_range.mpr hj, by unfold nxAt; rw [if_pos h0]⟩
    cases hf : (nxAny cs).find? (fun e => decide (e.1 = ((j : Nat) : Int))) with
    | none =>
      rw [List.find?_eq_none] at hf
      exact absurd (decide_eq_true rfl) (hf _ hm)
    | some q =>
      have hm2 := List.mem_of_find?_eq_some hf
      have hk : q.1 = ((j : Nat) : Int) := of_decide_eq_true (List.find?_some (p := fun e : Int × List Int => decide (e.1 = ((j : Nat) : Int))) hf)
      obtain ⟨i, hi, e⟩ := List.mem_filterMap.mp hm2
      unfold nxAt at e
      split at e
      · have e := Option.some.inj e
        rw [← e] at hk
        have : i = j := by
          have : ((i : Nat) : Int) = ((j : Nat) : Int) := hk
          omega
        rw [← e, this]
      · exact nomatch e
/-- counts left behind kinds: what each kind has less -/
theorem getD_set {cs : List Int} {j i : Nat} {z : Int} (h : j < cs.length) : (cs.set j z).getD i 0 = if j = i then z else cs.getD i 0 := by
  rw [List.getD_eq_getElem?_getD, List.getD_eq_getElem?_getD, List.getElem?_set]
  by_cases e : j = i
  · subst e
    rw [if_pos rfl, if_pos rfl, if_pos h]; rfl
  · rw [if_neg e, if_neg e]
theorem afterK_any : ∀ (ks cs : List Int), (∀ k ∈ ks, 0 ≤ k ∧ k < (cs.length : Nat)) → (∀ i, i < cs.length → 0 ≤ cs.getD i 0) →
    ((∃ l, afterK nxAny cs ks = some l ∧ l.length = cs.length ∧ ∀ i, i < cs.length → l.getD i 0 = cs.getD i 0 - ks.count ((i : Nat) : Int) ∧ 0 ≤ l.getD i 0) ↔ ∀ i, i < cs.length → (ks.count ((i : Nat) : Int) : Int) ≤ cs.getD i 0)
  | [], cs, _, h0 => ⟨fun _ i hi => by rw [List.count_nil]; exact h0 i hi, fun _ => ⟨cs, rfl, rfl, fun i hi => ⟨by rw [List.count_nil]; omega, h0 i hi⟩⟩⟩
  | k :: ks, cs, hk, h0 => by
    obtain ⟨k0, k1⟩ := hk k List.mem_cons_self
    have ek : k = ((k.toNat : Nat) : Int) := (Int.toNat_of_nonneg k0).symm
    have hlt : k.toNat < cs.length := by omega
    have cnt : ∀ i, ((k :: ks).count ((i : Nat) : Int) : Int) = ks.count ((i : Nat) : Int) + if k.toNat = i then 1 else 0 := fun i => by
      rw [List.count_cons]
      by_cases e : k.toNat = i
      · rw [if_pos e, if_pos (by rw [← e, ← ek]; exact beq_self_eq_true k)]; rfl
      · rw [if_neg e, if_neg (by intro z; have := eq_of_beq z; omega)]; rfl
    by_cases hp : 0 < cs.getD k.toNat 0
    · have hf : (nxAny cs).find? (fun e => decide (e.1 = k)) = some (((k.toNat : Nat) : Int), cs.set k.toNat (cs.getD k.toNat 0 - 1)) := nxAny_find.mpr ⟨k.toNat, hlt, ek, hp, rfl⟩
      have hls : (cs.set k.toNat (cs.getD k.toNat 0 - 1)).length = cs.length := List.length_set
      have g0 : ∀ i, i < (cs.set k.toNat (cs.getD k.toNat 0 - 1)).length → 0 ≤ (cs.set k.toNat (cs.getD k.toNat 0 - 1)).getD i 0 := fun i hi => by
        rw [hls] at hi
        rw [getD_set hlt]
        split
        · omega
        · exact h0 i hi
      have ih := afterK_any ks (cs.set k.toNat (cs.getD k.toNat 0 - 1)) (fun x hx => by rw [hls]; exact hk x (List.mem_cons_of_mem _ hx)) g0
      have ea : afterK nxAny cs (k :: ks) = afterK nxAny (cs.set k.toNat (cs.getD k.toNat 0 - 1)) ks := by
        show (match (nxAny cs).find? fun e => decide (e.1 = k) with | some q => afterK nxAny q.2 ks | none => none) = _
        rw [hf]
      rw [ea]
      rw [hls] at ih
      refine (Iff.trans ?_ ih).trans ?_
      · refine exists_congr fun l => and_congr_right fun _ => and_congr_right fun _ => forall_congr' fun i => forall_congr' fun hi => and_congr_left fun _ => ?_
        rw [getD_set hlt, cnt]
        split
        · rename_i e; rw [e]; omega
        · omega
      · refine forall_congr' fun i => forall_congr' fun hi => ?_
        rw [getD_set hlt, cnt]
        split
        · rename_i e; rw [e]; omega
        · omega
    · have hf : (nxAny cs).find? (fun e => decide (e.1 = k)) = none := by
        cases h : (nxAny cs).find? (fun e => decide (e.1 = k)) with
        | none => rfl
        | some q =>
          obtain ⟨j, hj, e, hj0, _⟩ := nxAny_find.mp h
          have : k.toNat = j := by omega
          rw [this] at hp; exact absurd hj0 hp
      have ea : afterK nxAny cs (k :: ks) = none := by
        show (match (nxAny cs).find? fun e => decide (e.1 = k) with | some q => afterK nxAny q.2 ks | none => none) = _
        rw [hf]
      rw [ea]
      refine ⟨(fun ⟨l, h, _⟩ => nomatch h), fun h => ?_⟩
      have := h k.toNat hlt
      rw [cnt, if_pos rfl] at this
      omega
/-- the amounts are met -/
def Meets (cs ks : List Int) : Prop := (∀ k ∈ ks, 0 ≤ k ∧ k < (cs.length : Nat)) ∧ ∀ i, i < cs.length → (ks.count ((i : Nat) : Int) : Int) = cs.getD i 0
theorem nxAny_nil {l : List Int} : nxAny l = [] ↔ ∀ i, i < l.length → ¬ 0 < l.getD i 0 := by
  unfold nxAny
  rw [List.filterMap_eq_nil_iff]
  constructor
  · intro h i hi hp
    have := h i (List.mem_range.mpr hi)
    unfold nxAt at this
    rw [if_pos hp] at this
    exact nomatch this
  · intro h i hi
    unfold nxAt
    rw [if_neg (h i (List.mem_range.mp hi))]
theorem good_counts {ws : List (List Int)} {cs : List Int} (hl : cs.length = ws.length) (h0 : ∀ i, i < cs.length → 0 ≤ cs.getD i 0) {p : List Plc} : GoodO ws nxAny cs p ↔ VPl ws p ∧ Meets cs (p.map (·.2)) := by
  unfold GoodO
  refine and_congr_right fun hv => ?_
  have hk : ∀ k ∈ p.map (fun x : Plc => x.2), 0 ≤ k ∧ k < ((cs.length : Nat) : Int) := fun k hk => by
    obtain ⟨x, hx, rfl⟩ := List.mem_map.mp hk
    rw [hl]; exact (hv.nn x hx).2
  have A := afterK_any (p.map (fun x : Plc => x.2)) cs hk h0
  constructor
  · rintro ⟨l, h1, h2⟩
    have some' : ∃ l, afterK nxAny cs (p.map (·.2)) = some l ∧ l.length = cs.length ∧ ∀ i, i < cs.length → l.getD i 0 = cs.getD i 0 - (p.map (·.2)).count ((i : Nat) : Int) ∧ 0 ≤ l.getD i 0 := by
      -- what is left is told by its steps
      have key : ∀ (ks cs l : List Int), (∀ k ∈ ks, 0 ≤ k ∧ k < (cs.length : Nat)) → (∀ i, i < cs.length → 0 ≤ cs.getD i 0) → afterK nxAny cs ks = some l → ∀ i, i < cs.length → (ks.count ((i : Nat) : Int) : Int) ≤ cs.getD i 0 := by
        intro ks
        induction ks with
        | nil => intro cs l _ h0 _ i hi; rw [List.count_nil]; exact h0 i hi
        | cons k ks ih =>
          intro cs l hk h0 ha i hi
          have ha : (match (nxAny cs).find? fun e => decide (e.1 = k) with | some q => afterK nxAny q.2 ks | none => none) = some l := ha
          cases hf : (nxAny cs).find? (fun e => decide (e.1 = k)) with
          | none => rw [hf] at ha; exact nomatch ha
          | some q =>
            rw [hf] at ha
            obtain ⟨j, hj, ek, hj0, rfl⟩ := nxAny_find.mp hf
            have hls : (cs.set j (cs.getD j 0 - 1)).length = cs.length := List.length_set
            have := ih _ l (fun x hx => by rw [hls]; exact hk x (List.mem_cons_of_mem _ hx)) (fun i hi => by
              rw [hls] at hi
              rw [getD_set hj]
              split
              · omega
              · exact h0 i hi) ha i (by rw [hls]; exact hi)
            rw [getD_set hj] at this
            rw [List.count_cons]
            by_cases e : j = i
            · rw [if_pos e] at this
              rw [if_pos (by rw [ek, e]; exact beq_self_eq_true _)]
              rw [e] at this
              omega
            · rw [if_neg e] at this
              rw [if_neg (by intro z; have := eq_of_beq z; omega)]
              omega
      exact A.mpr (key _ cs l hk h0 h1)
    obtain ⟨l', h1', hl', hc⟩ := some'
    rw [h1] at h1'
    obtain rfl := Option.some.inj h1'
    refine ⟨hk, fun i hi => ?_⟩
    have := nxAny_nil.mp h2 i (by omega)
    have := hc i hi
    omega
  · rintro ⟨_, hm⟩
    obtain ⟨l, h1, hl', hc⟩ := A.mpr fun i hi => by rw [hm i hi]; exact Int.le_refl _
    refine ⟨l, h1, nxAny_nil.mpr fun i hi => ?_⟩
    have := hc i (by omega)
    have := hm i (by omega)
    omega
end Sg
set_option Elab.async false
set_option linter.all false
set_option maxRecDepth 100000
set_option maxHeartbeats 4000000
namespace Sg
open PySem PySem.Spec PyProof.Rows L2
/-! ## what may be left of counts -/
def cntsL : Nat → List (List Int)
  | 0 => [[]]
  | n + 1 => [0, 1, 2, 3, 4].flatMap fun c : Int => (cntsL n).map (c :: ·)
theorem cntsL_len : ∀ n, (cntsL n).length = 5 ^ n
  | 0 => rfl
  | n + 1 => by
    show (List.flatMap _ [(0 : Int), 1, 2, 3, 4]).length = _
    rw [flatMap_len _ (5 ^ n) _ fun c _ => by rw [List.length_map, cntsL_len n], Nat.pow_succ, Nat.mul_comm]; rfl
theorem cntsL_mem : ∀ (n : Nat) (l : List Int), l ∈ cntsL n ↔ l.length = n ∧ ∀ x ∈ l, 0 ≤ x ∧ x ≤ 4
  | 0, l => by
    show l ∈ [[]] ↔ _
    rw [List.mem_singleton]
    exact ⟨fun h => by rw [h]; exact ⟨rfl, fun x hx => nomatch hx⟩, fun h => List.eq_nil_of_length_eq_zero h.1⟩
  | n + 1, l => by
    show l ∈ List.flatMap _ [(0 : Int), 1, 2, 3, 4] ↔ _
    rw [List.mem_flatMap]
    constructor
    · rintro ⟨c, hc, hl⟩
      obtain ⟨l', hl', rfl⟩ := List.mem_map.mp hl
      obtain ⟨h1, h2⟩ := (cntsL_mem n l').mp hl'
      refine ⟨by rw [List.length_cons, h1], fun x hx => ?_⟩
      rcases List.mem_cons.mp hx with rfl | hx
      · have : ∀ z ∈ [(0 : Int), 1, 2, 3, 4], 0 ≤ z ∧ z ≤ 4 := by decide
        exact this x hc
      · exact h2 x hx
    · rintro ⟨h1, h2⟩
      cases l with
      | nil => exact nomatch h1
      | cons c l =>
        refine ⟨c, ?_, List.mem_map.mpr ⟨l, (cntsL_mem n l).mpr ⟨Nat.succ.inj h1, fun x hx => h2 x (List.mem_cons_of_mem _ hx)⟩, rfl⟩⟩
        have := h2 c List.mem_cons_self
        have hc : c = 0 ∨ c = 1 ∨ c = 2 ∨ c = 3 ∨ c = 4 := by omega
        rcases hc with rfl | rfl | rfl | rfl | rfl <;> decide
def szC (l : List Int) : Nat := l.sum.toNat
theorem sum_set : ∀ (l : List Int) (j : Nat) (z : Int), j < l.length → (l.set j z).sum + l.getD j 0 = l.sum + z
  | [], j, z, h => nomatch h
  | x :: l, 0, z, _ => by
    show (z :: l).sum + x = (x :: l).sum + z
    rw [List.sum_cons, List.sum_cons]; omega
  | x :: l, j + 1, z, h => by
    have := sum_set l j z (Nat.lt_of_succ_lt_succ h)
    show (x :: l.set j z).sum + l.getD j 0 = (x :: l).sum + z
    rw [List.sum_cons, List.sum_cons]; omega
theorem sum_low : ∀ (l : List Int), (∀ x ∈ l, 0 ≤ x ∧ x ≤ 4) → 0 ≤ l.sum ∧ l.sum ≤ 4 * (l.length : Nat)
  | [], _ => ⟨Int.le_refl _, Int.le_refl _⟩
  | x :: l, h => by
    have := sum_low l fun y hy => h y (List.mem_cons_of_mem _ hy)
    have := h x List.mem_cons_self
    rw [List.sum_cons, List.length_cons]
    omega
theorem sum_get : ∀ (l : List Int) (j : Nat), (∀ x ∈ l, 0 ≤ x ∧ x ≤ 4) → l.getD j 0 ≤ l.sum
  | [], j, _ => Int.le_refl _
  | x :: l, 0, h => by
    have := sum_low l fun y hy => h y (List.mem_cons_of_mem _ hy)
    show x ≤ (x :: l).sum
    rw [List.sum_cons]; omega
  | x :: l, j + 1, h => by
    have h1 := sum_get l j fun y hy => h y (List.mem_cons_of_mem _ hy)
    have h2 := h x List.mem_cons_self
    show l.getD j 0 ≤ (x :: l).sum
    rw [List.sum_cons]; omega
theorem counts_lefts (n : Nat) (h : n ≤ 3) : Lefts (fun ns => ns.length ≤ 100) nxAny szC (cntsL n) := by
  refine ⟨by rw [cntsL_len]; exact Nat.le_trans (Nat.pow_le_pow_right (by decide) h) (by decide), fun l hl => ?_, fun l hl p hp => ?_, fun l hl => ?_⟩
  · have := ((cntsL_mem n l).mp hl).1; omega
  · obtain ⟨h1, h2⟩ := (cntsL_mem n l).mp hl
    obtain ⟨j, hj, e⟩ := List.mem_filterMap.mp hp
    have hj := List.mem_range.mp hj
    unfold nxAt at e
    split at e
    · rename_i h0
      have e := Option.some.inj e
      subst e
      have hg : l.getD j 0 ∈ l := by rw [List.getD_eq_getElem?_getD, List.getElem?_eq_getElem hj]; exact List.getElem_mem hj
      have hg2 := h2 _ hg
      refine ⟨(cntsL_mem n _).mpr ⟨by rw [List.length_set, h1], fun x hx => ?_⟩, ?_⟩
      · rcases List.mem_or_eq_of_mem_set hx with hx | hx
        · exact h2 x hx
        · rw [hx]; omega
      · have s1 := sum_set l j (l.getD j 0 - 1) hj
        have s2 := sum_get l j h2
        unfold szC
        show (l.set j (l.getD j 0 - 1)).sum.toNat + 1 = l.sum.toNat
        omega
    · exact nomatch e
  · obtain ⟨h1, h2⟩ := (cntsL_mem n l).mp hl
    have := (sum_low l h2).2
    unfold szC
    omega
/-! ### an order of such counts: one kind after another -/
def ksUp (cs : List Int) (n : Nat) : List Int := (List.range n).flatMap fun i => List.replicate (cs.getD i 0).toNat ((i : Nat) : Int)
theorem ksUp_succ (cs : List Int) (n : Nat) : ksUp cs (n + 1) = ksUp cs n ++ List.replicate (cs.getD n 0).toNat ((n : Nat) : Int) := by
  unfold ksUp
  rw [List.range_succ, List.flatMap_append]
  show _ ++ (_ ++ []) = _
  rw [List.append_nil]
theorem ksUp_mem (cs : List Int) : ∀ (n : Nat), ∀ k ∈ ksUp cs n, 0 ≤ k ∧ k < (n : Nat)
  | 0, k, h => nomatch h
  | n + 1, k, h => by
    rw [ksUp_succ] at h
    rcases List.mem_append.mp h with h | h
    · have := ksUp_mem cs n k h; omega
    · rw [(List.mem_replicate.mp h).2]; omega
theorem ksUp_count (cs : List Int) : ∀ (n i : Nat), (ksUp cs n).count ((i : Nat) : Int) = if i < n then (cs.getD i 0).toNat else 0
  | 0, i => rfl
  | n + 1, i => by
    rw [ksUp_succ, List.count_append, ksUp_count cs n i, List.count_replicate]
    by_cases e : i = n
    · subst e
      rw [if_neg (Nat.lt_irrefl _), if_pos (by exact beq_self_eq_true _), if_pos (Nat.lt_succ_self _), Nat.zero_add]
    · have hb : ¬ ((((n : Nat) : Int) == ((i : Nat) : Int)) = true) := fun z => e (by have := eq_of_beq z; omega)
      rw [if_neg hb, Nat.add_zero]
      by_cases h : i < n
      · rw [if_pos h, if_pos (by omega)]
      · rw [if_neg h, if_neg (by omega)]
theorem ksUp_meets {cs : List Int} (h0 : ∀ x ∈ cs, 0 ≤ x ∧ x ≤ 4) : Meets cs (ksUp cs cs.length) := by
  refine ⟨ksUp_mem cs _, fun i hi => ?_⟩
  rw [ksUp_count, if_pos hi]
  have hg : cs.getD i 0 ∈ cs := by rw [List.getD_eq_getElem?_getD, List.getElem?_eq_getElem hi]; exact List.getElem_mem hi
  have := h0 _ hg
  omega
theorem getD_low {cs : List Int} (h0 : ∀ x ∈ cs, 0 ≤ x ∧ x ≤ 4) : ∀ i, i < cs.length → 0 ≤ cs.getD i 0 := fun i hi => by
  have hg : cs.getD i 0 ∈ cs := by rw [List.getD_eq_getElem?_getD, List.getElem?_eq_getElem hi]; exact List.getElem_mem hi
  exact (h0 _ hg).1
end Sg
set_option Elab.async false
set_option linter.all false
set_option maxRecDepth 100000
set_option maxHeartbeats 4000000
namespace Sg
open PySem PySem.Spec PyProof.Rows L2 StX
section
variable {P : Program} {w : World} {K : PySem.W.Frag} {mg : Str → Option Value} {base : Heap}
/-! ### _law_same -/
theorem ok_l_same {f : Addr} {fd : FuncData} {k : Nat} (F : Fun K "_law_same" "_law_same" s_l_same f fd) (m1 : mg "repr" = none) :
    FnG P w K mg base (k + 1) f fd ["_law_found", "_law_due"] (spSame K) := by
  refine fnG_mk F sc_l_same (fun vs H Q h => ?_) (fun cdv A outer s H vs Q hg hr h => ?_)
  · obtain ⟨a, b, d, rfl, _⟩ := h; rfl
  · obtain ⟨a, b, d, rfl, h1, h2, hd, q⟩ := h
    refine ⟨_, pss_one (ps_ret (pe_cmpR op_eq (pe_callB (call_reprD hg hr) (by rfl) m1 (by decide +kernel) (pa_cons (pv 0) pa_nil))
      (pe_callB (call_reprD hg hr) (by rfl) m1 (by decide +kernel) (pa_cons (pv 1) pa_nil)) (nomark _))), ?_⟩
    refine ⟨.ref a, rfl, a, d, rfl, h1, hd, .ref b, rfl, b, d, rfl, h2, hd, rfl, ?_⟩
    rw [decide_eq_true rfl]
    exact q
/-! ### _law_pick -/
def spPick : Sp := fun vs H Q _ => ∃ (p l : Addr) (ns : List Int), vs = [.ref p, .ref l] ∧ PenAt H p ∧ l ≠ p ∧ H l = some (.lst (ns.map V.int)) ∧ 0 < ns.length ∧ ns.length < 1000000 ∧
  ∀ H' n, n ∈ ns → PenAt H' p → But p H H' → Q (.int n) H'
theorem ok_pick {f f1 : Addr} {fd fd1 : FuncData} {k : Nat} (F : Fun K "_law_pick" "_law_pick" s_l_pick f fd)
    (G1 : FnOk P w K mg base CX0 k f1 fd1 ["_law_pen_here", "_law_many"] spDraw) (kp1 : PySem.W.keepIn K (.ref f1) = true) (b1 : Binds K fd1 ["_law_pen_here", "_law_many"] []) (g1 : mg "_law_draw" = some (.ref f1))
    (m1 : mg "len" = none) : FnOk P w K mg base CX0 (k + 1) f fd ["_law_pen_here", "_law_some"] spPick := by
  refine F.ok sc_l_pick (fun vs H Q E h => ?_) (fun cdv A outer s H vs Q E hr h => ?_)
  · obtain ⟨p, l, ns, rfl, _⟩ := h; rfl
  · obtain ⟨p, l, ns, rfl, hp, nlp, hl, z0, z1, q⟩ := h
    refine ⟨_, pss_one (ps_ret (pe_ix ix_list (pv 1) (pe_call G1 hr (by rfl) g1 kp1 b1 .nil pass0 (pa_cons (pv 0) (pa_cons (pe_callB call_len_seq (by rfl) m1 PySem.boot_len (pa_cons (pv 1) pa_nil)) pa_nil))) (fun _ _ => rfl))), ?_⟩
    have len : (ns.map V.int).length = ns.length := List.length_map _
    refine ⟨.ref l, rfl, .ref p, rfl, .ref l, rfl, l, _, rfl, .inl (.of hl), p, _, rfl, hp, by rw [len]; omega, by rw [len]; omega, fun H' r r0 r1 p' b' => ?_⟩
    rw [len] at r1
    obtain ⟨j, rfl⟩ : ∃ j : Nat, r = j := ⟨r.toNat, by omega⟩
    have hj : j < ns.length := by omega
    refine ⟨l, _, (j : Int), .int ns[j], rfl, rfl, .of (b' _ _ nlp hl), atI_nat ?_, q H' ns[j] (List.getElem_mem hj) p' b'⟩
    rw [List.getElem?_map, List.getElem?_eq_getElem hj]
    rfl
end
theorem set_at2 {l : List Int} {i t : Nat} {z x : Int} (h : (l.set i z)[t]? = some x) : (i = t ∧ z = x) ∨ l[t]? = some x := by
  by_cases e : i = t
  · subst e
    have hl := (List.getElem?_eq_some_iff.mp h).1
    rw [List.length_set] at hl
    rw [List.getElem?_set_self hl] at h
    exact .inl ⟨rfl, Option.some.inj h⟩
  · rw [List.getElem?_set_ne e] at h
    exact .inr h
/-! ## works whose bars are near -/
/-- what stands at a tick is one of three stations of its stretch -/
def Blk (nn : List Int) (far : Int) (ns : List Int) : Prop := ∀ (t : Nat) (x : Int), ns[t]? = some x → x = -1 ∨ ∃ (r : Int) (j : Nat), 0 ≤ r ∧ r < 3 ∧ 3 * ((t : Int) / (far + 1)) + r = j ∧ nn[j]? = some x
theorem Blk.add {nn ns : List Int} {far z : Int} {i : Nat} (h : Blk nn far ns) (l : ns.length = i) (hz : z = -1 ∨ ∃ (r : Int) (j : Nat), 0 ≤ r ∧ r < 3 ∧ 3 * ((0 + (i : Int)) / (far + 1)) + r = j ∧ nn[j]? = some z) : Blk nn far (ns ++ [z]) := by
  intro t x hx
  rcases Nat.lt_or_ge t ns.length with g | g
  · rw [List.getElem?_append_left g] at hx
    exact h t x hx
  · rw [List.getElem?_append_right g] at hx
    have e : t - ns.length = 0 := by
      have := (List.getElem?_eq_some_iff.mp hx).1
      rw [List.length_singleton] at this
      omega
    rw [e] at hx
    obtain rfl : z = x := Option.some.inj hx
    rw [show (t : Int) = 0 + (i : Int) by omega]
    exact hz
theorem Blk.set {nn ns : List Int} {far z : Int} {i : Nat} (h : Blk nn far ns) (hz : ∃ (r : Int) (j : Nat), 0 ≤ r ∧ r < 3 ∧ 3 * ((i : Int) / (far + 1)) + r = j ∧ nn[j]? = some z) : Blk nn far (ns.set i z) := by
  intro t x hx
  rcases set_at2 hx with ⟨rfl, rfl⟩ | g
  · exact .inr hz
  · exact h t x g
/-- all stations are unlike -/
def Unlike (nn : List Int) : Prop := ∀ (i j : Nat) (x : Int), nn[i]? = some x → nn[j]? = some x → i = j
theorem Blk.near {nn ns : List Int} {far x : Int} (h : Blk nn far ns) (u : Unlike nn) (f0 : 0 ≤ far) {i d : Nat} (hi : ns[i]? = some x) (hj : ns[d + i]? = some x) (hx : x ≠ -1) : (d : Int) ≤ far := by
  rcases h i x hi with z | ⟨r, j, r0, r1, e, ej⟩
  · exact absurd z hx
  rcases h _ x hj with z | ⟨r', j', r0', r1', e', ej'⟩
  · exact absurd z hx
  obtain rfl := u j j' x ej ej'
  have q : (i : Int) / (far + 1) = ((d + i : Nat) : Int) / (far + 1) := by omega
  have a := Int.mul_ediv_add_emod (i : Int) (far + 1)
  have b := Int.mul_ediv_add_emod ((d + i : Nat) : Int) (far + 1)
  have c := Int.emod_nonneg (i : Int) (show far + 1 ≠ 0 by omega)
  have g := Int.emod_lt_of_pos ((d + i : Nat) : Int) (show (0 : Int) < far + 1 by omega)
  rw [q] at a
  generalize (far + 1) * (((d + i : Nat) : Int) / (far + 1)) = m at a b
  omega
/-- ten stations, each a step behind the one before -/
abbrev nameAt (fi st : Int) (i : Nat) : Int := (fi + st * (0 + (i : Int))) % 10
theorem names_unlike {fi st : Int} (hs : st ∈ ([1, 3, 7, 9] : List Int)) : Unlike ((List.range 10).map (nameAt fi st)) := by
  intro i j x hi hj
  rw [List.getElem?_map] at hi hj
  obtain ⟨a, ha, e1⟩ := Option.map_eq_some_iff.mp hi
  obtain ⟨b, hb, e2⟩ := Option.map_eq_some_iff.mp hj
  obtain ⟨hi1, rfl⟩ := List.getElem?_eq_some_iff.mp ha
  obtain ⟨hj1, rfl⟩ := List.getElem?_eq_some_iff.mp hb
  rw [List.getElem_range] at e1 e2
  rw [List.length_range] at hi1 hj1
  unfold nameAt at e1 e2
  simp only [List.mem_cons, List.not_mem_nil, or_false] at hs
  rcases hs with rfl | rfl | rfl | rfl <;> omega
section
variable {P : Program} {w : World} {K : PySem.W.Frag} {mg : Str → Option Value} {base : Heap}
/-! ### _law_names -/
def spNames : Sp := fun vs H Q _ => ∃ (p : Addr), vs = [.ref p] ∧ PenAt H p ∧
  ∀ H' q (ns : List Int), PenAt H' p → But p H H' → H q = none → q ≠ p → H' q = some (.lst (ns.map V.int)) → ns.length = 10 → (∀ x ∈ ns, 0 ≤ x ∧ x ≤ 9) → Unlike ns → Q (.ref q) H'
theorem ok_names {f f1 f2 : Addr} {fd fd1 fd2 : FuncData} {k : Nat} (F : Fun K "_law_names" "_law_names" s_l_names f fd)
    (G1 : FnOk P w K mg base CX0 k f1 fd1 ["_law_pen_here", "_law_many"] spDraw) (kp1 : PySem.W.keepIn K (.ref f1) = true) (b1 : Binds K fd1 ["_law_pen_here", "_law_many"] []) (g1 : mg "_law_draw" = some (.ref f1))
    (G2 : FnOk P w K mg base CX0 k f2 fd2 ["_law_pen_here", "_law_some"] spPick) (kp2 : PySem.W.keepIn K (.ref f2) = true) (b2 : Binds K fd2 ["_law_pen_here", "_law_some"] []) (g2 : mg "_law_pick" = some (.ref f2))
    (m1 : mg "range" = none) : FnOk P w K mg base CX0 (k + 1) f fd ["_law_pen_here"] spNames := by
  refine F.ok sc_l_names (fun vs H Q E h => ?_) (fun cdv A outer s H vs Q E hr h => ?_)
  · obtain ⟨p, rfl, _⟩ := h; rfl
  · obtain ⟨p, rfl, hp, q⟩ := h
    refine ⟨_, pss_cons (ps_asg (pe_tup (pa_cons (pe_call G1 hr (by rfl) g1 kp1 b1 .nil pass0 (pa_cons (pv 0) (pa_cons pe_int pa_nil)))
          (pa_cons (pe_call G2 hr (by rfl) g2 kp2 b2 .nil pass0 (pa_cons (pv 0) (pa_cons (pe_lst (pa_cons pe_int (pa_cons pe_int (pa_cons pe_int (pa_cons pe_int pa_nil))))) pa_nil))) pa_nil)))
        (pg_tup rfl (pgs_cons (pg_name (i := 1) sc_l_names.nd rfl (.inr rfl)) (pgs_cons (pg_name (i := 2) sc_l_names.nd rfl (.inr rfl)) pgs_nil))))
      (pss_one (ps_ret (pe_lc (own := [("_law_at", 3)]) (g := gName 3) (tt := tYes) rfl sc_l_names.nd (pi_range1 (by rfl) m1 (pa_cons pe_int pa_nil)) (blkOk_by (N := ["_law_pen_here", "_law_first", "_law_step", "_law_at"]) (sc := defScope s_l_names) (by decide +kernel))
        (fun _ _ _ _ _ => pg_name (i := 3) sc_l_names.nd rfl (Or.inl rfl)) (fun _ _ _ _ _ => pts_nil)
        (fun _ _ _ _ _ => pe_op op_mod (pe_op op_add (pv 1) (pe_op op_mul (pv 2) (pv 3))) pe_int)))), ?_⟩
    refine ⟨.ref p, rfl, p, 10, rfl, hp, by decide, by decide, fun H1 fi fi0 fi1 p1 b1' => ?_⟩
    refine ⟨.ref p, rfl, by show 4 ≤ sizeLine; decide, fun l nl => ⟨p, l, [1, 3, 7, 9], rfl, p1.new nl, (p1.ne nl).symm, upd_same, by decide, by decide, fun H2 st hst p2 b2' => ?_⟩⟩
    have c2 : But p H H2 := (b1'.trans (.of (same_new nl))).trans b2'
    have hst1 : 1 ≤ st ∧ st ≤ 9 := by
      have h4 : ∀ z ∈ ([1, 3, 7, 9] : List Int), 1 ≤ z ∧ z ≤ 9 := by decide
      exact h4 st hst
    refine ⟨by show 2 ≤ sizeLine; decide, fun T nT => ⟨T, _, rfl, .of upd_same, rfl, _, _, rfl, _, _, rfl, rfl, ?_⟩⟩
    have c3 : But p H (upd H2 T (.tup [V.int fi, .int st])) := c2.trans (.of (same_new nT))
    have p3 := p2.new (o := .tup [V.int fi, .int st]) nT
    generalize upd H2 T (.tup [V.int fi, .int st]) = H3 at c3 p3 ⊢
    refine ⟨10, rfl, by decide, by decide, fun D hD => ?_⟩
    have nDp : D ≠ p := (p3.ne hD).symm
    have nDH : H D = none := hp.free p3 c3 hD
    refine lc_range (lo := 0) (n := 10) (fun i H' => PenAt H' p ∧ But p H H' ∧ ∃ ns : List Int, H' D = some (.lst (ns.map V.int)) ∧ ns.length = i ∧ (∀ x ∈ ns, 0 ≤ x ∧ x ≤ 9) ∧ ns = (List.range i).map (nameAt fi st)) ⟨p3.new hD, c3.trans (.of (same_new hD)), [], upd_same, rfl, (fun x hx => nomatch hx), rfl⟩ (fun i H' hi h => ?_) (fun H' h => ?_)
    · obtain ⟨p4, c4, ns, hD4, l4, i4, e4⟩ := h
      refine ⟨rfl, .int fi, rfl, .int st, rfl, .int (0 + (i : Nat)), rfl, st, 0 + (i : Nat), rfl, rfl, .inl ⟨by omega, by omega⟩, _, _, rfl, rfl, _, 10, rfl, rfl, by show (0 : Int) < 10; decide, _, hD4, ?_, p4.upd nDp.symm, fun b o nb e => ?_, ns ++ [(fi + st * (0 + (i : Int))) % 10], ?_, ?_, fun x hx => ?_, by rw [e4, List.range_succ, List.map_append]; rfl⟩
      · rw [List.length_map]; exact small1000 (by omega)
      · rw [upd_ne (ne_of_none e nDH)]
        exact c4 _ _ nb e
      · rw [upd_same, List.map_append]; rfl
      · rw [List.length_append]; show ns.length + 1 = _; omega
      · rcases List.mem_append.mp hx with h | h
        · exact i4 x h
        · rw [List.mem_singleton.mp h]
          have h1 := Int.emod_nonneg (fi + st * (0 + (i : Int))) (show (10 : Int) ≠ 0 by decide)
          have h2 := Int.emod_lt_of_pos (fi + st * (0 + (i : Int))) (show (0 : Int) < 10 by decide)
          exact ⟨h1, Int.le_of_lt_add_one h2⟩
    · obtain ⟨p4, c4, ns, hD4, l4, i4, e4⟩ := h
      exact q _ D ns p4 c4 nDH nDp hD4 l4 i4 (by rw [e4]; exact names_unlike hst)
/-! ### _law_work -/
def spLWork : Sp := fun vs H Q _ => ∃ (p l : Addr) (nn : List Int) (far bl : Int), vs = [.ref p, .ref l, .int far, .int bl] ∧ PenAt H p ∧ l ≠ p ∧ H l = some (.lst (nn.map V.int)) ∧ nn.length = 10 ∧ (∀ x ∈ nn, 0 ≤ x ∧ x ≤ 9) ∧ 0 ≤ far ∧ far ≤ 19 ∧ 1 ≤ bl ∧ bl ≤ 3 ∧
  ∀ H' t (ns : List Int), PenAt H' p → But p H H' → H t = none → H' t = some (.tup (ns.map V.int)) → IsWork ns → Blk nn far ns → Q (.ref t) H'
theorem ok_lwork {f f1 f2 : Addr} {fd fd1 fd2 : FuncData} {k : Nat} (F : Fun K "_law_work" "_law_work" s_l_work f fd)
    (G1 : FnOk P w K mg base CX0 k f1 fd1 ["_law_pen_here", "_law_many"] spDraw) (kp1 : PySem.W.keepIn K (.ref f1) = true) (b1 : Binds K fd1 ["_law_pen_here", "_law_many"] []) (g1 : mg "_law_draw" = some (.ref f1))
    (G2 : FnOk P w K mg base CX0 k f2 fd2 ["_law_pen_here", "_law_some"] spPick) (kp2 : PySem.W.keepIn K (.ref f2) = true) (b2 : Binds K fd2 ["_law_pen_here", "_law_some"] []) (g2 : mg "_law_pick" = some (.ref f2))
    (m1 : mg "range" = none) (m2 : mg "tuple" = none) (m3 : mg "len" = none) : FnOk P w K mg base CX0 (k + 1) f fd ["_law_pen_here", "_law_names_here", "_law_far", "_law_blocks"] spLWork := by
  refine F.ok sc_l_work (fun vs H Q E h => ?_) (fun cdv A outer s H vs Q E hr h => ?_)
  · obtain ⟨p, l, nn, far, bl, rfl, _⟩ := h; rfl
  · obtain ⟨p, l, nn, far, bl, rfl, hp, nlp, hl, lnn, inn, hf0, hf1, hb0, hb1, q⟩ := h
    refine ⟨_, pss_cons (ps_par (i := 4) (j := 5) (by rfl) sc_l_work.nd rfl rfl (by decide) rfl rfl (pa_cons (pe_op op_add pe_int (pe_call G1 hr (by rfl) g1 kp1 b1 .nil pass0 (pa_cons (pv 0) (pa_cons pe_int pa_nil))))
          (pa_cons (pe_call G2 hr (by rfl) g2 kp2 b2 .nil pass0 (pa_cons (pv 0) (pa_cons (pe_lst (pa_cons pe_int (pa_cons pe_int (pa_cons pe_int (pa_cons pe_int pa_nil))))) pa_nil))) pa_nil)) (by rfl))
      (pss_cons (ps_set (i := 6) sc_l_work.nd rfl (.inl rfl) (pe_lst pa_nil))
      (pss_cons (ps_for PassesOwn.never rfl (pi_range1 (by rfl) m1 (pa_cons (pe_op op_add pe_int (pe_call G1 hr (by rfl) g1 kp1 b1 .nil pass0 (pa_cons (pv 0) (pa_cons (pe_op op_mul (pv 3) (pe_op op_add (pv 2) pe_int)) pa_nil)))) pa_nil)) (pg_name (i := 7) sc_l_work.nd rfl (.inl rfl))
        (pss_cons (ps_set (i := 8) sc_l_work.nd rfl (.inl rfl) (pe_ix ix_list (pv 1) (pe_op op_add (pe_op op_mul pe_int (pe_op op_fdiv (pv 7) (pe_op op_add (pv 2) pe_int))) (pe_call G1 hr (by rfl) g1 kp1 b1 .nil pass0 (pa_cons (pv 0) (pa_cons (pv 4) pa_nil)))) (fun _ _ => rfl)))
        (pss_one (ps_expr (pe_bm PySem.F.plainAttrs_list PySem.F.slot_list_append PySem.F.type_list_append mt_append (pv 6)
          (pa_cons (pe_ifExp (pt_cmpR op_eq (pe_call G1 hr (by rfl) g1 kp1 b1 .nil pass0 (pa_cons (pv 0) (pa_cons (pv 5) pa_nil))) pe_int (nomark _)) (pv 8) (pe_un un_neg pe_int)) pa_nil))))))
      (pss_cons (ps_if (pt_cmpR op_eq (pe_ix ix_list (pv 6) pe_int (fun _ _ => rfl)) (pe_un un_neg pe_int) (nomark _))
        (pss_one (ps_asg (pe_ix ix_list (pv 1) pe_int (fun _ _ => rfl)) (pg_sub (pv 6) pe_int set_list))) pss_nil)
      (pss_cons (ps_if (pt_cmpR op_eq (pe_ix ix_list (pv 6) (pe_un un_neg pe_int) (fun _ _ => rfl)) (pe_un un_neg pe_int) (nomark _))
        (pss_one (ps_asg (pe_ix ix_list (pv 1) (pe_op op_mul pe_int (pe_op op_fdiv (pe_op op_sub (pe_callB call_len_seq (by rfl) m3 PySem.boot_len (pa_cons (pv 6) pa_nil)) pe_int) (pe_op op_add (pv 2) pe_int))) (fun _ _ => rfl)) (pg_sub (pv 6) (pe_un un_neg pe_int) set_list))) pss_nil)
      (pss_one (ps_ret (pe_callTy call_tuple_of (by rfl) m2 (by decide +kernel) (pa_cons (pv 6) pa_nil)))))))), ?_⟩
    refine ⟨.ref p, rfl, p, 3, rfl, hp, by decide, by decide, fun H1 ma ma0 ma1 p1 b1' => ⟨1, ma, rfl, rfl, ?_⟩⟩
    refine ⟨.ref p, rfl, by show 4 ≤ sizeLine; decide, fun l2 nl2 => ⟨p, l2, [1, 1, 2, 4], rfl, p1.new nl2, (p1.ne nl2).symm, upd_same, by decide, by decide, fun H2 ra hra p2 b2' => ⟨_, _, rfl, ?_⟩⟩⟩
    have c2 : But p H H2 := (b1'.trans (.of (same_new nl2))).trans b2'
    have hra1 : 1 ≤ ra ∧ ra ≤ 4 := by
      have h4 : ∀ z ∈ ([1, 1, 2, 4] : List Int), 1 ≤ z ∧ z ≤ 4 := by decide
      exact h4 ra hra
    clear b1' b2'
    refine ⟨by show 0 ≤ sizeLine; decide, fun I nI => ?_⟩
    have c3 : But p H (upd H2 I (.lst [])) := c2.trans (.of (same_new nI))
    have hI3 : (upd H2 I (.lst [])) I = some (.lst []) := upd_same
    have p3 := p2.new (o := .lst []) nI
    have nIp : I ≠ p := (p2.ne nI).symm
    have nIH : H I = none := hp.free p2 c2 nI
    have nlI : l ≠ I := ne_of_none hl nIH
    generalize upd H2 I (.lst []) = H3 at c3 hI3 p3 ⊢
    have hbf : bl * (far + 1) ≤ 3 * (far + 1) := Int.mul_le_mul_of_nonneg_right hb1 (by omega)
    have hbf0 : 0 < bl * (far + 1) := Int.mul_pos (by omega) (by omega)
    refine ⟨.ref p, rfl, .int bl, rfl, .int far, rfl, far, 1, rfl, rfl, bl, far + 1, rfl, rfl, .inl ⟨by omega, by omega⟩, p, bl * (far + 1), rfl, p3, hbf0, by omega, fun H4 c c0 c1 p4 b4 => ⟨1, c, rfl, rfl, 1 + c, rfl, by omega, by omega, ?_⟩⟩
    have c4 := c3.trans b4
    have hI4 := b4 _ _ nIp hI3
    refine for_range (lo := 0) (n := (1 + c).toNat) (fun i σ H' => ∃ v7 v8, σ = [some (.ref p), some (.ref l), some (.int far), some (.int bl), some (.int (1 + ma)), some (.int ra), some (.ref I), v7, v8] ∧ PenAt H' p ∧ But p H H' ∧
        ∃ ns : List Int, H' I = some (.lst (ns.map V.int)) ∧ ns.length = i ∧ (∀ x ∈ ns, -1 ≤ x ∧ x ≤ 9) ∧ Blk nn far ns) ⟨_, _, rfl, p4, c4, [], hI4, rfl, (fun x hx => nomatch hx), (fun t x hx => nomatch hx)⟩ ?_ ?_
    · rintro i σ H5 hi ⟨v7, v8, rfl, p5, c5, ns, hI5, l5, i5, k5⟩
      have hl5 := c5 _ _ nlp hl
      have hq0 : 0 ≤ (0 + (i : Int)) / (far + 1) := Int.ediv_nonneg (by omega) (by omega)
      have hq1 : (0 + (i : Int)) / (far + 1) < 3 := Int.ediv_lt_of_lt_mul (by omega) (by omega)
      refine ⟨.ref l, rfl, .int (0 + (i : Nat)), rfl, .int far, rfl, far, 1, rfl, rfl, 0 + (i : Nat), far + 1, rfl, rfl, ⟨by omega, by omega⟩, 3, _, rfl, rfl, .inl (by decide), .ref p, rfl, .int (1 + ma), rfl, p, 1 + ma, rfl, p5, by omega, by omega, fun H6 r r0 r1 p6 b6 => ⟨_, _, rfl, rfl, ?_⟩⟩
      obtain ⟨j, hj, hj10⟩ : ∃ j : Nat, 3 * ((0 + (i : Int)) / (far + 1)) + r = j ∧ j < nn.length := ⟨(3 * ((0 + (i : Int)) / (far + 1)) + r).toNat, by omega, by omega⟩
      have hl6 := b6 _ _ nlp hl5
      have hI6 := b6 _ _ nIp hI5
      have gj : (nn.map V.int)[j]? = some (.int nn[j]) := by rw [List.getElem?_map, List.getElem?_eq_getElem hj10]; rfl
      have hx := inn nn[j] (List.getElem_mem hj10)
      refine ⟨l, _, (j : Int), .int nn[j], rfl, congrArg V.int hj, .of hl6, atI_nat gj, ?_⟩
      refine ⟨.ref I, rfl, .inl ⟨rfl, _, .of hI6⟩, .ref p, rfl, .int ra, rfl, p, ra, rfl, p6, by omega, by omega, fun H7 r7 _ _ p7 b7 => ?_⟩
      have hI7 := b7 _ _ nIp hI6
      have lns : (ns.map V.int).length < sizeLine := by rw [List.length_map]; exact small1000 (by omega)
      have fin : ∀ z : Int, -1 ≤ z → z ≤ 9 → Blk nn far (ns ++ [z]) → PenAt (L2.upd H7 I (.lst (ns.map V.int ++ [V.int z]))) p ∧ But p H (L2.upd H7 I (.lst (ns.map V.int ++ [V.int z]))) ∧
          ∃ ns' : List Int, (L2.upd H7 I (.lst (ns.map V.int ++ [V.int z]))) I = some (.lst (ns'.map V.int)) ∧ ns'.length = i + 1 ∧ (∀ x ∈ ns', -1 ≤ x ∧ x ≤ 9) ∧ Blk nn far ns' := by
        intro z z1 z2 kz
        refine ⟨p7.upd nIp.symm, fun b o n e => ?_, ns ++ [z], ?_, ?_, fun x hx => ?_, kz⟩
        · rw [upd_ne (ne_of_none e nIH)]
          exact b7 _ _ n (b6 _ _ n (c5 _ _ n e))
        · rw [upd_same, List.map_append]; rfl
        · rw [List.length_append]; show ns.length + 1 = _; omega
        · rcases List.mem_append.mp hx with h | h
          · exact i5 x h
          · rw [List.mem_singleton.mp h]; exact ⟨z1, z2⟩
      refine ⟨rfl, _, rfl, ite2 (fun _ => ?_) (fun _ => ?_)⟩
      · exact ⟨.int nn[j], rfl, I, _, _, rfl, rfl, hI7, lns, _, _, rfl, fin _ (by omega) (by omega) (k5.add l5 (.inr ⟨r, j, r0, by omega, hj, List.getElem?_eq_getElem hj10⟩))⟩
      · exact ⟨1, rfl, I, _, _, rfl, rfl, hI7, lns, _, _, rfl, fin (-1) (by decide) (by decide) (k5.add l5 (.inl rfl))⟩
    · rintro σ H5 ⟨v7, v8, rfl, p5, c5, ns, hI5, l5, i5, k5⟩
      have ln1 : 1 ≤ ns.length := by omega
      have ln2 : ns.length ≤ 60 := by omega
      have lm : (ns.map V.int).length = ns.length := List.length_map _
      have hl5 := c5 _ _ nlp hl
      -- the last step: from any list of such items
      have last : ∀ (H' : Hp) (gs : List Int), PenAt H' p → But p H H' → H' I = some (.lst (gs.map V.int)) → gs.length = ns.length → (∀ x ∈ gs, -1 ≤ x ∧ x ≤ 9) → (∀ x, gs[0]? = some x → x ≠ -1) → (∀ x, gs[gs.length - 1]? = some x → x ≠ -1) → Blk nn far gs →
          ∃ v, (some (some (V.ref I)) : Option (Option V)) = some (some v) ∧ ∃ (q0 : Addr) (ys : List V), [v] = [V.ref q0] ∧ ((SqL K H' q0 ys ∧ ∀ l, H' l = none → Q (.ref l) (L2.upd H' l (.tup ys))) ∨ (SqT K H' q0 ys ∧ Q (.ref q0) H')) := by
        intro H' gs pg cg hg lg ig h0 hL kg
        exact ⟨_, rfl, I, _, rfl, .inl ⟨.of hg, fun t nt => q _ t gs (pg.new nt) (cg.trans (.of (same_new nt))) (hp.free pg cg nt) upd_same ⟨by omega, by omega, ig, h0, hL⟩ kg⟩⟩
      have h00 : (ns.map V.int)[0]? = some (.int ns[0]) := by rw [List.getElem?_map, List.getElem?_eq_getElem (by omega)]; rfl
      have n0 : (nn.map V.int)[0]? = some (.int nn[0]) := by rw [List.getElem?_map, List.getElem?_eq_getElem (by omega)]; rfl
      have hn0 := inn nn[0] (List.getElem_mem (by omega))
      refine ⟨.ref I, rfl, I, _, 0, .int ns[0], rfl, rfl, .of hI5, atI_nat h00, 1, rfl, rfl, _, rfl, ite2 (fun eq => ?a) (fun ne => ?b)⟩
      case' a =>
        refine ⟨.ref l, rfl, l, _, 0, .int nn[0], rfl, rfl, .of hl5, atI_nat n0, .ref I, rfl, I, _, 0, 0, rfl, rfl, hI5, ixN_nat (j := 0) (by rw [lm]; omega), ?_⟩
        rw [show (ns.map V.int).set 0 (.int nn[0]) = (ns.set 0 nn[0]).map V.int from by rw [List.map_set]]
        have hI6 : (L2.upd H5 I (.lst ((ns.set 0 nn[0]).map V.int))) I = some (.lst ((ns.set 0 nn[0]).map V.int)) := upd_same
        have p6 := p5.upd (o := .lst ((ns.set 0 nn[0]).map V.int)) nIp.symm
        have c6 : But p H (L2.upd H5 I (.lst ((ns.set 0 nn[0]).map V.int))) := fun b o n e => by
          rw [upd_ne (ne_of_none e nIH)]
          exact c5 _ _ n e
        have lg : (ns.set 0 nn[0]).length = ns.length := List.length_set
        have ig : ∀ x ∈ ns.set 0 nn[0], -1 ≤ x ∧ x ≤ 9 := fun x hx => by
          rcases mem_set hx with h | h
          · omega
          · exact i5 x h
        have h0 : ∀ x, (ns.set 0 nn[0])[0]? = some x → x ≠ -1 := fun x hx => by
          rcases set_at hx with h | ⟨h, _⟩
          · omega
          · exact absurd rfl h
        have kg : Blk nn far (ns.set 0 nn[0]) := k5.set ⟨0, 0, by decide, by decide, by rw [show ((0 : Nat) : Int) = 0 from rfl, Int.zero_ediv]; rfl, List.getElem?_eq_getElem (by omega)⟩
        generalize ns.set 0 nn[0] = gs at hI6 p6 c6 lg ig h0 kg ⊢
        generalize L2.upd H5 I (.lst (gs.map V.int)) = H6 at hI6 p6 c6 ⊢
      case' b =>
        obtain ⟨gs, hgs⟩ : ∃ gs, gs = ns := ⟨ns, rfl⟩
        have h0 : ∀ x, gs[0]? = some x → x ≠ -1 := fun x hx e => by
          subst e
          rw [hgs, List.getElem?_eq_getElem (by omega)] at hx
          exact ne (decide_eq_true (congrArg V.int (Option.some.inj hx)))
        have hI6 : H5 I = some (.lst (gs.map V.int)) := by rw [hgs]; exact hI5
        have p6 := p5
        have c6 := c5
        have lg : gs.length = ns.length := by rw [hgs]
        have ig : ∀ x ∈ gs, -1 ≤ x ∧ x ≤ 9 := by rw [hgs]; exact i5
        have kg : Blk nn far gs := by rw [hgs]; exact k5
      all_goals
        have hl6 := c6 _ _ nlp hl
        have lgm : (gs.map V.int).length = gs.length := List.length_map _
        have hlt : gs.length - 1 < gs.length := by omega
        have hat : atI (gs.map V.int) (-1) = some (.int gs[gs.length - 1]) := by
          unfold atI
          rw [lgm, ixN_end (by omega)]
          show (gs.map V.int)[gs.length - 1]? = _
          rw [List.getElem?_map, List.getElem?_eq_getElem hlt]
          rfl
        refine ⟨.ref I, rfl, 1, rfl, I, _, -1, .int gs[gs.length - 1], rfl, rfl, .of hI6, hat, 1, rfl, rfl, _, rfl, ite2 (fun eq => ?_) (fun ne2 => ?_)⟩
        · have hq0 : 0 ≤ ((gs.length : Int) - 1) / (far + 1) := Int.ediv_nonneg (by omega) (by omega)
          have hq1 : ((gs.length : Int) - 1) / (far + 1) < 3 := Int.ediv_lt_of_lt_mul (by omega) (by omega)
          obtain ⟨j, hj, hj10⟩ : ∃ j : Nat, 3 * (((gs.length : Int) - 1) / (far + 1)) = j ∧ j < nn.length := ⟨(3 * (((gs.length : Int) - 1) / (far + 1))).toNat, by omega, by omega⟩
          have gj : (nn.map V.int)[j]? = some (.int nn[j]) := by rw [List.getElem?_map, List.getElem?_eq_getElem hj10]; rfl
          have hx := inn nn[j] (List.getElem_mem hj10)
          refine ⟨.ref l, rfl, .ref I, rfl, I, _, rfl, .inl (.of hI6), _, 1, rfl, rfl, .int far, rfl, far, 1, rfl, rfl, _, far + 1, rfl, rfl, ⟨by omega, by omega⟩, 3, _, rfl, rfl, .inl (by decide), l, _, (j : Int), .int nn[j], rfl, ?_, .of hl6, atI_nat gj, ?_⟩
          · rw [← hj, lgm]
          refine ⟨.ref I, rfl, 1, rfl, I, _, -1, gs.length - 1, rfl, rfl, hI6, by rw [lgm]; exact ixN_end (by omega), ?_⟩
          rw [show (gs.map V.int).set (gs.length - 1) (.int nn[j]) = (gs.set (gs.length - 1) nn[j]).map V.int from by rw [List.map_set]]
          refine last _ (gs.set (gs.length - 1) nn[j]) (p6.upd nIp.symm) (fun b o n e => ?_) upd_same (by rw [List.length_set]; exact lg) (fun y hy => ?_) (fun y hy => ?_) (fun y hy => ?_) (kg.set ⟨0, j, by decide, by decide, by rw [show ((gs.length - 1 : Nat) : Int) = (gs.length : Int) - 1 by omega, Int.add_zero]; exact hj, List.getElem?_eq_getElem hj10⟩)
          · rw [upd_ne (ne_of_none e nIH)]
            exact c6 _ _ n e
          · rcases mem_set hy with h | h
            · omega
            · exact ig y h
          · rcases set_at hy with h | ⟨_, h⟩
            · omega
            · exact h0 y h
          · rw [List.length_set] at hy
            rcases set_at hy with h | ⟨h, _⟩
            · omega
            · exact absurd rfl h
        · refine last _ gs p6 c6 hI6 lg ig h0 (fun y hy e => by
          subst e
          rw [List.getElem?_eq_getElem hlt] at hy
          exact ne2 (decide_eq_true (congrArg V.int (Option.some.inj hy))))  kg
end
end Sg
set_option Elab.async false
set_option linter.all false
set_option maxRecDepth 100000
set_option maxHeartbeats 4000000
namespace Sg
open PySem PySem.Spec PyProof.Rows L2 StX
/-! ## the distances at which a work meets itself, as the law finds them -/
def Bt (x z : List Int) (T : Nat) (k : Int) : Prop := ∃ (t i : Nat) (y : Int), t < T ∧ i < t ∧ x[t]? = some y ∧ z[i]? = some y ∧ y ≠ -1 ∧ k = (t : Int) - i
theorem Bt_bars {x z : List Int} {k : Int} : Bt x z x.length k ↔ ∃ d ∈ barsN x z, k = ((d : Nat) : Int) := by
  constructor
  · rintro ⟨t, i, y, h1, h2, h3, h4, h5, rfl⟩
    refine ⟨t - i, ?_, by omega⟩
    unfold barsN
    rw [List.mem_filter, List.mem_range']
    refine ⟨⟨t - i - 1, by omega, by omega⟩, clashB_iff.mpr ⟨i, y, ?_, h4, h5⟩⟩
    rw [show t - i + i = t by omega]; exact h3
  · rintro ⟨d, hd, rfl⟩
    unfold barsN at hd
    rw [List.mem_filter, List.mem_range'] at hd
    obtain ⟨⟨e, he, rfl⟩, hc⟩ := hd
    obtain ⟨j, y, h1, h2, h3⟩ := clashB_iff.mp hc
    have := (List.getElem?_eq_some_iff.mp h1).1
    exact ⟨_, j, y, this, by omega, h1, h2, h3, by omega⟩
theorem Bt_succ {x zs : List Int} {t : Nat} {y : Int} (h : x[t]? = some y) {k : Int} : Bt x zs (t + 1) k ↔ Bt x zs t k ∨ (y ≠ -1 ∧ ∃ i, i < t ∧ zs[i]? = some y ∧ k = (t : Int) - i) := by
  constructor
  · rintro ⟨u, i, z, h1, h2, h3, h4, h5, e⟩
    by_cases c : u = t
    · subst c
      rw [h] at h3
      obtain rfl := Option.some.inj h3
      exact .inr ⟨h5, i, h2, h4, e⟩
    · exact .inl ⟨u, i, z, by omega, h2, h3, h4, h5, e⟩
  · rintro (⟨u, i, z, h1, h2, h3, h4, h5, e⟩ | ⟨h5, i, h2, h4, e⟩)
    · exact ⟨u, i, z, by omega, h2, h3, h4, h5, e⟩
    · exact ⟨t, i, y, by omega, h2, h, h4, h5, e⟩
section
variable {P : Program} {w : World} {K : PySem.W.Frag} {mg : Str → Option Value} {base : Heap}
/-! ### _law_between -/
def spBetween (K : PySem.W.Frag) : Sp := fun vs H Q _ => ∃ (a b : Addr) (x zs : List Int), vs = [.ref a, .ref b] ∧ SqT K H a (x.map V.int) ∧ SqT K H b (zs.map V.int) ∧ IsWork x ∧ IsWork zs ∧
  ∀ H' l (ns : List Int), Same H H' → H l = none → H' l = some (.lst (ns.map V.int)) → ns.length ≤ 60 → (∀ k, k ∈ ns ↔ ∃ d ∈ barsN x zs, k = ((d : Nat) : Int)) → Q (.ref l) H'
theorem ok_between {f : Addr} {fd : FuncData} {k : Nat} (F : Fun K "_law_between" "_law_between" s_l_between f fd) (m1 : mg "enumerate" = none) (m2 : mg "len" = none) (m3 : mg "range" = none) (m4 : mg "min" = none) (m5 : mg "sorted" = none) (m6 : mg "set" = none) :
    FnOk P w K mg base CX0 (k + 1) f fd ["_law_one", "_law_other"] (spBetween K) := by
  refine F.ok sc_l_between (fun vs H Q E h => ?_) (fun cdv A outer s H vs Q E hr h => ?_)
  · obtain ⟨a, bb, x, zs, rfl, _⟩ := h; rfl
  · obtain ⟨a, bb, x, zs, rfl, hA, hB, hx, hzs, q⟩ := h
    refine ⟨_, pss_cons (ps_set (i := 2) sc_l_between.nd rfl (.inl rfl) (pe_lst pa_nil))
      (pss_cons (ps_for PassesOwn.never rfl (pi_enumT (by rfl) m1 (pa_cons (pv 0) pa_nil))
          (pg_tup rfl (pgs_cons (pg_name (i := 3) sc_l_between.nd rfl (.inl rfl)) (pgs_cons (pg_name (i := 4) sc_l_between.nd rfl (.inl rfl)) pgs_nil)))
        (pss_one (ps_if (pt_cmpR op_ne (pv 4) (pe_un un_neg pe_int) (nomark _))
          (pss_one (ps_for PassesOwn.never rfl (pi_range1 (by rfl) m3 (pa_cons (pe_callB (call_min2 rfl) (by rfl) m4 (by decide +kernel) (pa_cons (pv 3) (pa_cons (pe_callB call_len_seq (by rfl) m2 PySem.boot_len (pa_cons (pv 1) pa_nil)) pa_nil))) pa_nil)) (pg_name (i := 5) sc_l_between.nd rfl (.inl rfl))
            (pss_one (ps_if (pt_cmpR op_eq (pe_ix ix_tup (pv 1) (pv 5) (fun _ _ => rfl)) (pv 4) (nomark _))
              (pss_one (ps_expr (pe_bm PySem.F.plainAttrs_list PySem.F.slot_list_append PySem.F.type_list_append mt_append (pv 2) (pa_cons (pe_op op_sub (pv 3) (pv 5)) pa_nil)))) pss_nil)))) pss_nil)))
      (pss_one (ps_ret (pe_callB (cr_sortedSet rfl) (by rfl) m5 (by decide +kernel) (pa_cons (pe_callTy (cr_setL rfl) (by rfl) m6 (by decide +kernel) (pa_cons (pv 2) pa_nil)) pa_nil))))), ?_⟩
    have big : 4000 ≤ sizeLine := by rw [sizeLine_eq]; decide
    have lx : (x.map V.int).length = x.length := List.length_map _
    have lz : (zs.map V.int).length = zs.length := List.length_map _
    have l60 := hx.most
    refine ⟨by show 0 ≤ sizeLine; decide, fun S nS => ?_⟩
    have e0 : Same H (upd H S (.lst [])) := same_new nS
    have hS0 := upd_same (H := H) (a := S) (o := .lst [])
    generalize upd H S (.lst []) = H1 at e0 hS0 ⊢
    refine ⟨.ref a, rfl, a, _, rfl, Same.tup e0 hA, ?_⟩
    refine for_it (walk_enumT (xs := x.map V.int)) (fun i σ H' => ∃ v3 v4 v5, ∃ ns : List Int, σ = [some (.ref a), some (.ref bb), some (.ref S), v3, v4, v5] ∧ Same H H' ∧ H' S = some (.lst (ns.map V.int)) ∧ ns.length ≤ 60 * i ∧ ∀ k, k ∈ ns ↔ Bt x zs i k)
      ⟨_, _, _, [], rfl, e0, hS0, Nat.zero_le _, fun k => ⟨(fun h => nomatch h), (fun ⟨t, i, y, h, _⟩ => absurd h (by omega))⟩⟩ (fun i σ H' _ h => ?_) (fun i y σ H' H'' hi h hY => ?_) (fun σ H' h => ?_)
    · obtain ⟨_, _, _, _, _, e, _⟩ := h
      exact Same.tup e hA
    · obtain ⟨v3, v4, v5, ns, rfl, e, hS, ls, mem⟩ := h
      obtain ⟨T, x1, x2, rfl, nT, rfl, f1, f2⟩ := hY
      dsimp only at f1 f2
      cases f1
      rw [List.getElem?_map] at f2
      obtain ⟨y, hy, rfl⟩ := Option.map_eq_some_iff.mp f2
      have hil := (List.getElem?_eq_some_iff.mp hy).1
      have eT : Same H' (upd H' T (.tup [V.int (i : Nat), .int y])) := same_new nT
      refine ⟨T, _, rfl, .of upd_same, rfl, _, _, rfl, _, _, rfl, rfl, ?_⟩
      have e2 := e.trans eT
      have hS2 := eT _ _ hS
      generalize upd H' T (.tup [V.int (i : Nat), .int y]) = H2 at e2 hS2 ⊢
      refine ⟨.int y, rfl, 1, rfl, rfl, _, rfl, ite2 (fun c => ?_) (fun c => ?_)⟩
      · have hy1 : y ≠ -1 := fun z => by rw [z] at c; cases c
        refine ⟨.int (i : Nat), rfl, .ref bb, rfl, bb, _, rfl, .inr (Same.tup e2 hB), _, _, rfl, ?_⟩
        rw [lz]
        obtain ⟨N, hN, hN1⟩ : ∃ N : Nat, (if ((zs.length : Nat) : Int) < ((i : Nat) : Int) then ((zs.length : Nat) : Int) else ((i : Nat) : Int)) = (N : Nat) ∧ N = min i zs.length := by
          refine ⟨min i zs.length, ?_, rfl⟩
          split <;> omega
        rw [hN]
        refine ⟨(N : Nat), rfl, by omega, by omega, ?_⟩
        refine for_range (lo := 0) (n := ((N : Nat) : Int).toNat) (fun j σ H' => ∃ v5, ∃ ns : List Int, σ = [some (.ref a), some (.ref bb), some (.ref S), some (.int (i : Nat)), some (.int y), v5] ∧ Same H H' ∧ H' S = some (.lst (ns.map V.int)) ∧ ns.length ≤ 60 * i + j ∧
            ∀ k, k ∈ ns ↔ Bt x zs i k ∨ (y ≠ -1 ∧ ∃ b, b < j ∧ zs[b]? = some y ∧ k = (i : Int) - b)) ⟨_, ns, rfl, e2, hS2, ls, fun k => by rw [mem]; exact ⟨.inl, fun h => h.elim id fun ⟨_, b, hb, _⟩ => absurd hb (by omega)⟩⟩ ?_ ?_
        · rintro j σ H3 hj ⟨v5, ns, rfl, e3, hS3, l3, mem3⟩
          have hj' : j < i := by omega
          have hjz : j < zs.length := by omega
          have gj : (zs.map V.int)[j]? = some (.int zs[j]) := by rw [List.getElem?_map, List.getElem?_eq_getElem (by omega)]; rfl
          refine ⟨.ref bb, rfl, .int (0 + (j : Nat)), rfl, bb, _, (j : Nat), .int zs[j], rfl, congrArg V.int (Int.zero_add _), Same.tup e3 hB, atI_nat gj, .int y, rfl, rfl, _, rfl, ite2 (fun c => ?_) (fun c => ?_)⟩
          · have hxy : zs[j] = y := V.int.inj (of_decide_eq_true c)
            refine ⟨.ref S, rfl, .inl ⟨rfl, _, .of hS3⟩, .int (i : Nat), rfl, .int (0 + (j : Nat)), rfl, _, _, rfl, rfl, S, _, _, rfl, rfl, hS3, by rw [List.length_map]; omega, ?_⟩
            refine ⟨_, ns ++ [(i : Int) - (0 + (j : Nat))], rfl, fun b o z => ?_, by rw [upd_same, List.map_append]; rfl, by rw [List.length_append]; show ns.length + 1 ≤ _; omega, fun k => ?_⟩
            · rw [upd_ne (ne_of_none z nS)]
              exact e3 _ _ z
            · rw [List.mem_append, mem3, List.mem_singleton]
              constructor
              · rintro ((h | ⟨_, b, hb, h1, h2⟩) | h)
                · exact .inl h
                · exact .inr ⟨hy1, b, by omega, h1, h2⟩
                · exact .inr ⟨hy1, j, by omega, by rw [List.getElem?_eq_getElem (by omega), hxy], by omega⟩
              · rintro (h | ⟨_, b, hb, h1, h2⟩)
                · exact .inl (.inl h)
                · by_cases z : b = j
                  · subst z; exact .inr (by omega)
                  · exact .inl (.inr ⟨hy1, b, by omega, h1, h2⟩)
          · refine ⟨_, ns, rfl, e3, hS3, by omega, fun k => ?_⟩
            rw [mem3]
            constructor
            · rintro (h | ⟨_, b, hb, h1, h2⟩)
              · exact .inl h
              · exact .inr ⟨hy1, b, by omega, h1, h2⟩
            · rintro (h | ⟨_, b, hb, h1, h2⟩)
              · exact .inl h
              · by_cases z : b = j
                · subst z
                  rw [List.getElem?_eq_getElem (by omega)] at h1
                  exact absurd (decide_eq_true (congrArg V.int (Option.some.inj h1))) c
                · exact .inr ⟨hy1, b, by omega, h1, h2⟩
        · rintro σ H3 ⟨v5, ns, rfl, e3, hS3, l3, mem3⟩
          refine ⟨_, _, _, ns, rfl, e3, hS3, by omega, fun k => ?_⟩
          rw [mem3, Bt_succ hy, Int.toNat_natCast]
          refine or_congr_right (and_congr_right fun _ => ⟨fun ⟨b, hb, h1, h2⟩ => ⟨b, by omega, h1, h2⟩, fun ⟨b, hb, h1, h2⟩ => ⟨b, ?_, h1, h2⟩⟩)
          have := (List.getElem?_eq_some_iff.mp h1).1
          omega
      · have hy1 : y = -1 := Classical.byContradiction fun z => c (by rw [decide_eq_false fun w => z (V.int.inj w)]; rfl)
        refine ⟨_, _, _, ns, rfl, e2, hS2, by omega, fun k => ?_⟩
        rw [mem, Bt_succ hy]
        exact ⟨.inl, fun h => h.elim id fun ⟨z, _⟩ => absurd hy1 z⟩
    · obtain ⟨v3, v4, v5, ns, rfl, e, hS, ls, mem⟩ := h
      rw [lx] at ls mem
      refine ⟨.ref S, rfl, S, ns, rfl, .of hS, by omega, fun p n np hn => ?_⟩
      have ep := same_new (o := SetO w p (fun j => decide (j ∈ ns)) n) np
      have hn60 : n ≤ 60 := by
        have := hn ((List.range 60).map fun d : Nat => (d : Int)) fun k hk => by
          obtain ⟨t, i, y, h1, h2, _, _, _, h6⟩ := (mem k).mp hk
          exact List.mem_map.mpr ⟨t - i, List.mem_range.mpr (by omega), by omega⟩
        rw [List.length_map, List.length_range] at this
        exact this
      refine ⟨p, _, n, rfl, upd_same, by omega, fun ms l hms hmem hlen nl => ?_⟩
      have el := same_new (o := .lst (ms.map V.int)) nl
      refine q _ l ms ((e.trans ep).trans el) (freeS (e.trans ep) nl) upd_same (by omega) fun k => ?_
      rw [hmem, decide_eq_true_eq, mem, Bt_bars]
end
end Sg
set_option Elab.async false
set_option linter.all false
set_option maxRecDepth 100000
set_option maxHeartbeats 4000000
namespace Sg
open PySem PySem.Spec PyProof.Rows L2 StX
section
variable {P : Program} {w : World} {K : PySem.W.Frag} {mg : Str → Option Value} {base : Heap}
theorem len_cases {ws : List (List Int)} (h : GoodL ws) : (∃ a, ws = [a]) ∨ (∃ a b, ws = [a, b]) ∨ ∃ a b c, ws = [a, b, c] := by
  have h1 := h.least
  have h2 := h.few
  match ws, h1, h2 with
  | [a], _, _ => exact .inl ⟨a, rfl⟩
  | [a, b], _, _ => exact .inr (.inl ⟨a, b, rfl⟩)
  | [a, b, c], _, _ => exact .inr (.inr ⟨a, b, c, rfl⟩)
  | _ :: _ :: _ :: _ :: _, _, z => simp at z
/-! ### _law_made -/
def spMade (K : PySem.W.Frag) (C : Addr) : Sp := fun vs H Q _ => ∃ (t : Addr) (ws : List (List Int)), vs = [.ref t] ∧ Tp K H (.ref t) (.tuple (tDs ws)) ∧ GoodL ws ∧ ∀ H' x, Same H H' → H x = none → LineAt K C H' x ws → Q (.ref x) H'
theorem ok_l_line {f f1 C : Addr} {fd : FuncData} {k : Nat} (F : Fun K "_law_line" "_law_line" s_l_line f fd) (T : LC K mg C) (M : Mk K C f1) (G : FnR P w K mg base CX0 k f1 (spInit K C)) (m1 : mg "len" = none) :
    FnOk P w K mg base CX0 (k + 2) f fd ["_law_works_here"] (spMade K C) := by
  refine F.ok sc_l_line (fun vs H Q E h => ?_) (fun cdv A outer s H vs Q E hr h => ?_)
  · obtain ⟨t, ws, rfl, _⟩ := h; rfl
  · obtain ⟨t, ws, rfl, hW, hg, q⟩ := h
    refine ⟨_, pss_cons (ps_if (pt_cmpR op_eq (pe_callB call_len_seq (by rfl) m1 PySem.boot_len (pa_cons (pv 0) pa_nil)) pe_int (nomark _))
        (pss_one (ps_ret (pe_makeR M G hr (by rfl) T.mgC pass0 (pa_cons (pe_ix ix_tup (pv 0) pe_int (fun _ _ => rfl)) pa_nil)))) pss_nil)
      (pss_cons (ps_if (pt_cmpR op_eq (pe_callB call_len_seq (by rfl) m1 PySem.boot_len (pa_cons (pv 0) pa_nil)) pe_int (nomark _))
        (pss_one (ps_ret (pe_makeR M G hr (by rfl) T.mgC pass0 (pa_cons (pe_ix ix_tup (pv 0) pe_int (fun _ _ => rfl)) (pa_cons (pe_ix ix_tup (pv 0) pe_int (fun _ _ => rfl)) pa_nil))))) pss_nil)
      (pss_one (ps_ret (pe_makeR M G hr (by rfl) T.mgC pass0 (pa_cons (pe_ix ix_tup (pv 0) pe_int (fun _ _ => rfl)) (pa_cons (pe_ix ix_tup (pv 0) pe_int (fun _ _ => rfl)) (pa_cons (pe_ix ix_tup (pv 0) pe_int (fun _ _ => rfl)) pa_nil))))))), ?_⟩
    obtain ⟨_, xs, e, hS, hT⟩ := hW.toTup
    cases e
    have fin : ∀ z dz, H z = none → H dz = none → dz ≠ z → spInit K C (V.ref z :: xs) (upd (upd H dz (.own z)) z (.ins C dz [])) (fun v H2 => v = .non ∧ Q (.ref z) H2) E0 := make_line hT hg q
    have il : ∀ n : Nat, decide (V.int ((n : Nat) : Int) = V.int 1) = decide (n = 1) := fun n => by
      by_cases h : n = 1
      · subst h; rfl
      · rw [decide_eq_false h, decide_eq_false fun z => h (by have := V.int.inj z; omega)]
    have il2 : ∀ n : Nat, decide (V.int ((n : Nat) : Int) = V.int 2) = decide (n = 2) := fun n => by
      by_cases h : n = 2
      · subst h; rfl
      · rw [decide_eq_false h, decide_eq_false fun z => h (by have := V.int.inj z; omega)]
    refine ⟨.ref t, rfl, t, xs, rfl, .inr hS, rfl, _, rfl, ?_⟩
    rw [il]
    rcases len_cases hg with ⟨a, rfl⟩ | ⟨a, b, rfl⟩ | ⟨a, b, c, rfl⟩
    · obtain ⟨x, rfl⟩ : ∃ x, xs = [x] := by
        have := hT.len
        match xs, this with
        | [x], _ => exact ⟨x, rfl⟩
      rw [show decide ([x].length = 1) = true from rfl]
      exact iteT ⟨.ref t, rfl, t, _, 0, x, rfl, rfl, hS, atI0, fin⟩
    · obtain ⟨x, y, rfl⟩ : ∃ x y, xs = [x, y] := by
        have := hT.len
        match xs, this with
        | [x, y], _ => exact ⟨x, y, rfl⟩
      rw [show decide ([x, y].length = 1) = false from rfl]
      refine iteF ⟨.ref t, rfl, t, _, rfl, .inr hS, rfl, _, rfl, ?_⟩
      rw [il2, show decide ([x, y].length = 2) = true from rfl]
      exact iteT ⟨.ref t, rfl, t, _, 0, x, rfl, rfl, hS, atI0, .ref t, rfl, t, _, 1, y, rfl, rfl, hS, atI1, fin⟩
    · obtain ⟨x, y, z, rfl⟩ : ∃ x y z, xs = [x, y, z] := by
        have := hT.len
        match xs, this with
        | [x, y, z], _ => exact ⟨x, y, z, rfl⟩
      rw [show decide ([x, y, z].length = 1) = false from rfl]
      refine iteF ⟨.ref t, rfl, t, _, rfl, .inr hS, rfl, _, rfl, ?_⟩
      rw [il2, show decide ([x, y, z].length = 2) = false from rfl]
      exact iteF ⟨.ref t, rfl, t, _, 0, x, rfl, rfl, hS, atI0, .ref t, rfl, t, _, 1, y, rfl, rfl, hS, atI1, .ref t, rfl, t, _, 2, z, rfl, rfl, hS, atI2, fin⟩
/-! ### _law_works -/
theorem near2 {nn ns ms : List Int} {far x : Int} (h : Blk nn far ns) (g : Blk nn far ms) (u : Unlike nn) (f0 : 0 ≤ far) {i d : Nat} (hi : ms[i]? = some x) (hj : ns[d + i]? = some x) (hx : x ≠ -1) : (d : Int) ≤ far := by
  rcases g i x hi with z | ⟨r, j, r0, r1, e, ej⟩
  · exact absurd z hx
  rcases h _ x hj with z | ⟨r', j', r0', r1', e', ej'⟩
  · exact absurd z hx
  obtain rfl := u j j' x ej ej'
  have q : (i : Int) / (far + 1) = ((d + i : Nat) : Int) / (far + 1) := by omega
  have a := Int.mul_ediv_add_emod (i : Int) (far + 1)
  have b := Int.mul_ediv_add_emod ((d + i : Nat) : Int) (far + 1)
  have c := Int.emod_nonneg (i : Int) (show far + 1 ≠ 0 by omega)
  have g := Int.emod_lt_of_pos ((d + i : Nat) : Int) (show (0 : Int) < far + 1 by omega)
  rw [q] at a
  generalize (far + 1) * (((d + i : Nat) : Int) / (far + 1)) = m at a b
  omega
theorem bars_near {nn x z : List Int} {far : Int} (h : Blk nn far x) (g : Blk nn far z) (u : Unlike nn) (f0 : 0 ≤ far) : ∀ d ∈ barsN x z, (d : Int) ≤ far := by
  intro d hd
  obtain ⟨j, y, h1, h2, h3⟩ := clashB_iff.mp (List.mem_filter.mp hd).2
  exact near2 h g u f0 h2 h1 h3
def spWorks (K : PySem.W.Frag) : Sp := fun vs H Q _ => ∃ p : Addr, vs = [.ref p, .int 8, .int 5] ∧ PenAt H p ∧ ∀ H' t ws, PenAt H' p → But p H H' → H t = none → Tp K H' (.ref t) (.tuple (tDs ws)) → GoodL ws → (∀ x ∈ ws, ∀ z ∈ ws, ∀ d ∈ barsN x z, d ≤ if ws.length = 1 then 8 else 5) → Q (.ref t) H'
theorem ok_l_works {f f1 f4 f6 f7 : Addr} {fd fd1 fd4 fd6 fd7 : FuncData} {k : Nat} (F : Fun K "_law_works" "_law_works" s_l_works f fd)
    (G1 : FnOk P w K mg base CX0 k f1 fd1 ["_law_pen_here", "_law_many"] spDraw) (kp1 : PySem.W.keepIn K (.ref f1) = true) (b1 : Binds K fd1 ["_law_pen_here", "_law_many"] []) (g1 : mg "_law_draw" = some (.ref f1))
    (G4 : FnOk P w K mg base CX0 k f4 fd4 ["_law_pen_here", "_law_some"] spPick) (kp4 : PySem.W.keepIn K (.ref f4) = true) (b4 : Binds K fd4 ["_law_pen_here", "_law_some"] []) (g4 : mg "_law_pick" = some (.ref f4))
    (G6 : FnOk P w K mg base CX0 k f6 fd6 ["_law_pen_here"] spNames) (kp6 : PySem.W.keepIn K (.ref f6) = true) (b6 : Binds K fd6 ["_law_pen_here"] []) (g6 : mg "_law_names" = some (.ref f6))
    (G7 : FnOk P w K mg base CX0 k f7 fd7 ["_law_pen_here", "_law_names_here", "_law_far", "_law_blocks"] spLWork) (kp7 : PySem.W.keepIn K (.ref f7) = true) (b7 : Binds K fd7 ["_law_pen_here", "_law_names_here", "_law_far", "_law_blocks"] []) (g7 : mg "_law_work" = some (.ref f7))
    (m1 : mg "range" = none) (m2 : mg "tuple" = none) : FnOk P w K mg base CX0 (k + 1) f fd ["_law_pen_here", "_law_one_far", "_law_more_far"] (spWorks K) := by
  refine F.ok sc_l_works (fun vs H Q E h => ?_) (fun cdv A outer s H vs Q E hr h => ?_)
  · obtain ⟨p, rfl, _⟩ := h; rfl
  · obtain ⟨p, rfl, hp, q⟩ := h
    refine ⟨_, pss_cons (ps_par (i := 3) (j := 4) (by rfl) sc_l_works.nd rfl rfl (by decide) rfl rfl (pa_cons (pe_call G6 hr (by rfl) g6 kp6 b6 .nil pass0 (pa_cons (pv 0) pa_nil))
          (pa_cons (pe_call G4 hr (by rfl) g4 kp4 b4 .nil pass0 (pa_cons (pv 0) (pa_cons (pe_lst (pa_cons pe_int (pa_cons pe_int (pa_cons pe_int (pa_cons pe_int pa_nil))))) pa_nil))) pa_nil)) (by rfl))
      (pss_cons (ps_set (i := 5) sc_l_works.nd rfl (.inl rfl) (pe_call G1 hr (by rfl) g1 kp1 b1 .nil pass0 (pa_cons (pv 0) (pa_cons (pe_op op_add (pv 2) pe_int) pa_nil))))
      (pss_cons (ps_if (pt_cmpR op_eq (pv 4) pe_int (nomark _)) (pss_one (ps_set (i := 5) sc_l_works.nd rfl (.inl rfl) (pe_call G1 hr (by rfl) g1 kp1 b1 .nil pass0 (pa_cons (pv 0) (pa_cons (pe_op op_add (pv 1) pe_int) pa_nil))))) pss_nil)
      (pss_cons (ps_if (pt_cmpR op_eq (pe_call G1 hr (by rfl) g1 kp1 b1 .nil pass0 (pa_cons (pv 0) (pa_cons pe_int pa_nil))) pe_int (nomark _)) (pss_one (ps_set (i := 5) sc_l_works.nd rfl (.inl rfl) (pe_ifExp (pt_cmpR op_eq (pv 4) pe_int (nomark _)) (pv 1) (pv 2)))) pss_nil)
      (pss_cons (ps_set (i := 6) sc_l_works.nd rfl (.inl rfl) (pe_lst pa_nil))
      (pss_cons (ps_for PassesOwn.never rfl (pi_range1 (by rfl) m1 (pa_cons (pv 4) pa_nil)) (pg_name (i := 7) sc_l_works.nd rfl (.inl rfl))
        (pss_cons (ps_expr (pe_bm PySem.F.plainAttrs_list PySem.F.slot_list_append PySem.F.type_list_append mt_append (pv 6) (pa_cons (pe_call G7 hr (by rfl) g7 kp7 b7 .nil pass0 (pa_cons (pv 0) (pa_cons (pv 3) (pa_cons (pv 5)
            (pa_cons (pe_call G4 hr (by rfl) g4 kp4 b4 .nil pass0 (pa_cons (pv 0) (pa_cons (pe_lst (pa_cons pe_int (pa_cons pe_int (pa_cons pe_int pa_nil)))) pa_nil))) pa_nil))))) pa_nil)))
        (pss_one (ps_if (PW.pt (pw_and (pt_cmpR op_gt (pv 7) pe_int (nomark _)) (pw_and1 (pt_cmpR op_eq (pe_call G1 hr (by rfl) g1 kp1 b1 .nil pass0 (pa_cons (pv 0) (pa_cons pe_int pa_nil))) pe_int (nomark _)))))
          (pss_one (ps_asg (pe_ix ix_list (pv 6) pe_int (fun _ _ => rfl)) (pg_sub (pv 6) (pv 7) set_list))) pss_nil))))
      (pss_one (ps_ret (pe_callTy call_tuple_of (by rfl) m2 (by decide +kernel) (pa_cons (pv 6) pa_nil))))))))), ?_⟩
    have big : 1000 ≤ sizeLine := by rw [sizeLine_eq]; decide
    refine ⟨.ref p, rfl, p, rfl, hp, fun H1 nmA nn p1 b1' nnm nnp hnm lnn inn unn => ?_⟩
    refine ⟨.ref p, rfl, by show 4 ≤ sizeLine; omega, fun l nl => ⟨p, l, [1, 2, 2, 3], rfl, p1.new nl, (p1.ne nl).symm, upd_same, by decide, by decide, fun H2 cnt hcnt p2 b2' => ⟨_, _, rfl, ?_⟩⟩⟩
    have c2 : But p H H2 := (b1'.trans (.of (same_new nl))).trans b2'
    have c12 : But p H1 H2 := (But.of (same_new nl)).trans b2'
    have hnm2 := c12 _ _ nnp hnm
    have hc3 : 1 ≤ cnt ∧ cnt ≤ 3 := by
      have h4 : ∀ z ∈ ([1, 2, 2, 3] : List Int), 1 ≤ z ∧ z ≤ 3 := by decide
      exact h4 cnt hcnt
    clear b1' b2' c12
    refine ⟨.ref p, rfl, .int 5, rfl, 5, 1, rfl, rfl, p, 6, rfl, p2, by decide, by decide, fun H3 far f0 f1 p3 b3' => ?_⟩
    have c3 := c2.trans b3'
    have hnm3 := b3' _ _ nnp hnm2
    refine ⟨.int cnt, rfl, rfl, _, rfl, ite2 (fun e => ?a) (fun e => ?b)⟩
    case' a =>
      have ec : cnt = 1 := V.int.inj (of_decide_eq_true e)
      refine ⟨.ref p, rfl, .int 8, rfl, 8, 1, rfl, rfl, p, 9, rfl, p3, by decide, by decide, fun H4 fr f0' f1' p4 b4' => ?_⟩
      have c4 := c3.trans b4'
      have hnm4 := b4' _ _ nnp hnm3
      have hfr : 0 ≤ fr ∧ fr ≤ if cnt = 1 then 8 else 5 := by rw [if_pos ec]; exact ⟨f0', by omega⟩
      have oneB : decide (V.int cnt = V.int 1) = decide (cnt = 1) := by rw [ec]; rfl
    case' b =>
      have ec : cnt ≠ 1 := fun z => e (decide_eq_true (by rw [z]))
      have p4 := p3
      have c4 := c3
      have hnm4 := hnm3
      have hfr : 0 ≤ far ∧ far ≤ if cnt = 1 then 8 else 5 := by rw [if_neg ec]; exact ⟨f0, by omega⟩
      have oneB : decide (V.int cnt = V.int 1) = decide (cnt = 1) := by rw [decide_eq_false ec, decide_eq_false fun z => ec (V.int.inj z)]
      clear f0 f1
      generalize far = fr at hfr ⊢
      generalize H3 = H4 at p4 c4 hnm4 ⊢
    all_goals
      refine ⟨.ref p, rfl, p, 2, rfl, p4, by decide, by decide, fun H5 r5 _ _ p5 b5' => ⟨rfl, _, rfl, ite2 (fun e => ?_) (fun e => ?_)⟩⟩
      rotate_left
      case' _ =>
        have hnm5 := b5' _ _ nnp hnm4
        have c5 := c4.trans b5'
        have hfr5 := hfr
        generalize fr = fr5 at hfr5 ⊢
      rotate_left
      case' _ =>
        refine ⟨.int cnt, rfl, rfl, _, rfl, ?_⟩
        have hnm5 := b5' _ _ nnp hnm4
        have c5 := c4.trans b5'
        rw [oneB]
        by_cases ec : cnt = 1
        case' pos =>
          rw [decide_eq_true ec]
          obtain ⟨fr5, e5⟩ : ∃ z : Int, z = 8 := ⟨_, rfl⟩
          have hfr5 : 0 ≤ fr5 ∧ fr5 ≤ if cnt = 1 then 8 else 5 := by rw [if_pos ec, e5]; decide
          refine iteT ⟨.int fr5, by rw [e5]; rfl, ?_⟩
        case' neg =>
          rw [decide_eq_false ec]
          obtain ⟨fr5, e5⟩ : ∃ z : Int, z = 5 := ⟨_, rfl⟩
          have hfr5 : 0 ≤ fr5 ∧ fr5 ≤ if cnt = 1 then 8 else 5 := by rw [if_neg ec, e5]; decide
          refine iteF ⟨.int fr5, by rw [e5]; rfl, ?_⟩
      all_goals
        clear b5' hfr
        have hfr8 : fr5 ≤ 8 := by have := hfr5.2; split at this <;> omega
        refine ⟨by show 0 ≤ sizeLine; omega, fun S nS => ?_⟩
        have pS := p5.new (o := .lst []) nS
        have nSp : S ≠ p := (p5.ne nS).symm
        have nSH : S = S ∧ H S = none := ⟨rfl, hp.free p5 c5 nS⟩
        have hS6 : (upd H5 S (.lst [])) S = some (.lst []) := upd_same
        have c6 : But p H (upd H5 S (.lst [])) := c5.trans (.of (same_new nS))
        have hnm6 := (same_new (o := .lst []) nS) _ _ hnm5
        have nnS : nmA ≠ S := ne_of_none hnm5 nS
        generalize upd H5 S (.lst []) = H6 at pS hS6 c6 hnm6 ⊢
        refine ⟨.int cnt, rfl, cnt, rfl, by omega, by omega, ?_⟩
        refine for_range (lo := 0) (n := cnt.toNat) (fun i σ H' => ∃ v7 acc ws, σ = [some (.ref p), some (.int 8), some (.int 5), some (.ref nmA), some (.int cnt), some (.int fr5), some (.ref S), v7] ∧ PenAt H' p ∧ But p H H' ∧ H' nmA = some (.lst (nn.map V.int)) ∧ H' S = some (.lst acc) ∧ TpAll K H' acc (tDs ws) ∧ ws.length = i ∧ ∀ x ∈ ws, IsWork x ∧ Blk nn fr5 x)
          ⟨_, [], [], rfl, pS, c6, hnm6, hS6, .no, rfl, (fun x hx => nomatch hx)⟩ ?_ ?_
        · rintro i σ H7 hi ⟨v7, acc, ws, rfl, p7, c7, hnm7, hS7, hT7, hlen, hall⟩
          have lacc : acc.length = i := by rw [hT7.len, List.length_map, hlen]
          refine ⟨.ref S, rfl, .inl ⟨rfl, _, .of hS7⟩, .ref p, rfl, .ref nmA, rfl, .int fr5, rfl, .ref p, rfl, by show 3 ≤ sizeLine; omega, fun l2 nl2 => ⟨p, l2, [1, 1, 3], rfl, p7.new nl2, (p7.ne nl2).symm, upd_same, by decide, by decide, fun H8 bl hbl p8 b8' => ?_⟩⟩
          have hb3 : 1 ≤ bl ∧ bl ≤ 3 := by
            have h3 : ∀ z ∈ ([1, 1, 3] : List Int), 1 ≤ z ∧ z ≤ 3 := by decide
            exact h3 bl hbl
          have b78 : But p H7 H8 := (But.of (same_new nl2)).trans b8'
          refine ⟨p, nmA, nn, fr5, bl, rfl, p8, nnp, b78 _ _ nnp hnm7, lnn, inn, hfr5.1, by omega, hb3.1, hb3.2, fun H9 t its p9 b9' nt ht hk hblk => ?_⟩
          have b79 := b78.trans b9'
          have hS9 := b79 _ _ nSp hS7
          have hT9 : TpAll K H9 acc (tDs ws) := hT7.stay (.pen b79 p7)
          refine ⟨S, acc, .ref t, rfl, rfl, hS9, by omega, ?_⟩
          -- the item stands
          have hS10 : (upd H9 S (.lst (acc ++ [V.ref t]))) S = some (.lst (acc ++ [V.ref t])) := upd_same
          have st10 : St K H9 (upd H9 S (.lst (acc ++ [V.ref t]))) := .but .upd hS9
          have hT10 : TpAll K (upd H9 S (.lst (acc ++ [V.ref t]))) (acc ++ [.ref t]) (tDs (ws ++ [its])) := by
            show TpAll K _ _ ((ws ++ [its]).map tD)
            rw [List.map_append]
            exact (hT9.stay st10).add (.on ((Tp.ofInts (.of ht)).stay st10) .no)
          have hT10' := hT9.stay st10
          have p10 : PenAt (upd H9 S (.lst (acc ++ [V.ref t]))) p := p9.upd nSp.symm
          have c10 : But p H (upd H9 S (.lst (acc ++ [V.ref t]))) := fun b o n e => by
            rw [upd_ne (ne_of_none e nSH.2)]; exact b79 _ _ n (c7 _ _ n e)
          have hnm10 : (upd H9 S (.lst (acc ++ [V.ref t]))) nmA = some (.lst (nn.map V.int)) := by rw [upd_ne nnS]; exact b79 _ _ nnp hnm7
          have hall10 : ∀ x ∈ ws ++ [its], IsWork x ∧ Blk nn fr5 x := fun x hx => by
            rcases List.mem_append.mp hx with z | z
            · exact hall x z
            · rw [List.mem_singleton.mp z]; exact ⟨hk, hblk⟩
          generalize upd H9 S (.lst (acc ++ [V.ref t])) = H10 at hS10 st10 hT10 hT10' p10 c10 hnm10 ⊢
          have skip : ∀ H11, PenAt H11 p → But p H10 H11 → ∃ v7 acc ws, [some (V.ref p), some (.int 8), some (.int 5), some (.ref nmA), some (.int cnt), some (.int fr5), some (.ref S), some (.int (0 + (i : Nat)))] = [some (.ref p), some (.int 8), some (.int 5), some (.ref nmA), some (.int cnt), some (.int fr5), some (.ref S), v7] ∧ PenAt H11 p ∧ But p H H11 ∧ H11 nmA = some (.lst (nn.map V.int)) ∧ H11 S = some (.lst acc) ∧ TpAll K H11 acc (tDs ws) ∧ ws.length = i + 1 ∧ ∀ x ∈ ws, IsWork x ∧ Blk nn fr5 x := fun H11 p11 b11 =>
            ⟨_, _, _, rfl, p11, c10.trans b11, b11 _ _ nnp hnm10, b11 _ _ nSp hS10, hT10.stay (.pen b11 p10), by rw [List.length_append, hlen]; rfl, hall10⟩
          refine ⟨.int (0 + (i : Nat)), rfl, _, _, rfl, rfl, _, rfl, ite2 (fun ei => ?_) (fun ei => iteF (skip H10 p10 fun _ _ _ z => z))⟩
          have hi0 : 0 < i := by have := of_decide_eq_true ei; omega
          refine ⟨.ref p, rfl, p, 8, rfl, p10, by decide, by decide, fun H11 r11 _ _ p11 b11 => ⟨rfl, _, rfl, ite2 (fun _ => ?_) (fun _ => skip H11 p11 b11)⟩⟩
          have hS11 := b11 _ _ nSp hS10
          have la0 : 0 < acc.length := by omega
          have g0 : (acc ++ [V.ref t])[0]? = some acc[0] := by rw [List.getElem?_append_left la0, List.getElem?_eq_getElem la0]
          refine ⟨.ref S, rfl, S, _, 0, acc[0], rfl, rfl, .of hS11, atI_nat (j := 0) g0, .ref S, rfl, .int (0 + (i : Nat)), rfl, S, _, _, i, rfl, rfl, hS11, by rw [show (0 : Int) + (i : Nat) = (i : Nat) from Int.zero_add _]; exact ixN_nat (by rw [List.length_append]; show i < acc.length + 1; omega), ?_⟩
          have eset : (acc ++ [V.ref t]).set i acc[0] = acc ++ [acc[0]] := by
            rw [List.set_append_right _ _ (by omega), lacc, Nat.sub_self]; rfl
          rw [eset]
          have st12 : St K H11 (upd H11 S (.lst (acc ++ [acc[0]]))) := .but .upd hS11
          have st11 : St K H10 H11 := .pen b11 p10
          have lw0 : 0 < ws.length := by omega
          have hT11 := (hT10'.stay st11).stay st12
          obtain ⟨d0, hd0, hT0⟩ := hT11.at (List.getElem?_eq_getElem la0)
          have ed0 : d0 = tD ws[0] := by
            have : (tDs ws)[0]? = some (tD ws[0]) := by show (ws.map tD)[0]? = _; rw [List.getElem?_map, List.getElem?_eq_getElem lw0]; rfl
            rw [this] at hd0; exact (Option.some.inj hd0).symm
          subst ed0
          refine ⟨_, acc ++ [acc[0]], ws ++ [ws[0]], rfl, p11.upd nSp.symm, fun b o n e => ?_, ?_, upd_same, ?_, by rw [List.length_append, hlen]; rfl, fun x hx => ?_⟩
          · rw [upd_ne (ne_of_none e nSH.2)]; exact b11 _ _ n (c10 _ _ n e)
          · rw [upd_ne nnS]; exact b11 _ _ nnp hnm10
          · show TpAll K _ _ ((ws ++ [ws[0]]).map tD)
            rw [List.map_append]
            exact hT11.add (.on hT0 .no)
          · rcases List.mem_append.mp hx with z | z
            · exact hall x z
            · rw [List.mem_singleton.mp z]; exact hall _ (List.getElem_mem lw0)
        · rintro σ H7 ⟨v7, acc, ws, rfl, p7, c7, hnm7, hS7, hT7, hlen, hall⟩
          refine ⟨.ref S, rfl, S, acc, rfl, .inl ⟨.of hS7, fun l nl => ?_⟩⟩
          refine q _ l ws (p7.upd (p7.ne nl)) (c7.trans (.of (same_new nl))) (hp.free p7 c7 nl) (.new nl hT7) ⟨by omega, by omega, fun x hx => (hall x hx).1⟩ fun x hx z hz d hd => ?_
          have hfar := bars_near (hall x hx).2 (hall z hz).2 unn hfr5.1 d hd
          have hf2 := hfr5.2
          by_cases e1 : cnt = 1
          · rw [if_pos e1] at hf2
            rw [if_pos (by omega)]; omega
          · rw [if_neg e1] at hf2
            rw [if_neg (by omega)]; omega
end
end Sg
set_option Elab.async false
set_option linter.all false
set_option maxRecDepth 100000
set_option maxHeartbeats 4000000
namespace Sg
open PySem PySem.Spec PyProof.Rows L2 StX
/-! ## the distances of each two works -/
def SpCell (Ok : Addr → Prop) (H : Hp) (x z : List Int) (u : V) : Prop := ∃ (l : Addr) (ns : List Int), u = .ref l ∧ Ok l ∧ H l = some (.lst (ns.map V.int)) ∧ ns.length ≤ 60 ∧ ∀ k, k ∈ ns ↔ ∃ d ∈ barsN x z, k = ((d : Nat) : Int)
abbrev SpRow (Ok : Addr → Prop) (H : Hp) (x : List Int) : List V → List (List Int) → Prop := Paired fun u z => SpCell Ok H x z u
abbrev SpRows (Ok : Addr → Prop) (H : Hp) (ws : List (List Int)) : List V → List (List Int) → Prop := Paired fun u x => ∃ (r : Addr) (vs : List V), u = .ref r ∧ Ok r ∧ H r = some (.lst vs) ∧ SpRow Ok H x vs ws
theorem SpRow.keep {Ok Ok' : Addr → Prop} {H H' : Hp} (e : ∀ a o, Ok a → H a = some o → H' a = some o) (i : ∀ a, Ok a → Ok' a) {x : List Int} {us : List V} {zs : List (List Int)} (h : SpRow Ok H x us zs) : SpRow Ok' H' x us zs := by
  unfold SpRow at h ⊢
  induction h with
  | nil => exact .nil
  | cons a t ih =>
    obtain ⟨l, ns, h1, h2, h3, h4⟩ := a
    exact .cons ⟨l, ns, h1, i _ h2, e _ _ h2 h3, h4⟩ ih
theorem SpRows.keep {Ok Ok' : Addr → Prop} {H H' : Hp} (e : ∀ a o, Ok a → H a = some o → H' a = some o) (i : ∀ a, Ok a → Ok' a) {ws : List (List Int)} {us : List V} {zs : List (List Int)} (h : SpRows Ok H ws us zs) : SpRows Ok' H' ws us zs := by
  unfold SpRows at h ⊢
  induction h with
  | nil => exact .nil
  | cons a t ih =>
    obtain ⟨r, vs, h1, h2, h3, h4⟩ := a
    exact .cons ⟨r, vs, h1, i _ h2, e _ _ h2 h3, h4.keep e i⟩ ih
theorem SpRow.held {Ok : Addr → Prop} {H : Hp} {x : List Int} {us : List V} {zs : List (List Int)} (h : SpRow Ok H x us zs) : SpRow (fun a => Ok a ∧ ∃ o, H a = some o) H x us zs := by
  unfold SpRow at h ⊢
  induction h with
  | nil => exact .nil
  | cons a t ih =>
    obtain ⟨l, ns, h1, h2, h3, h4⟩ := a
    exact .cons ⟨l, ns, h1, ⟨h2, _, h3⟩, h3, h4⟩ ih
theorem SpRows.held {Ok : Addr → Prop} {H : Hp} {ws : List (List Int)} {us : List V} {zs : List (List Int)} (h : SpRows Ok H ws us zs) : SpRows (fun a => Ok a ∧ ∃ o, H a = some o) H ws us zs := by
  unfold SpRows at h ⊢
  induction h with
  | nil => exact .nil
  | cons a t ih =>
    obtain ⟨r, vs, h1, h2, h3, h4⟩ := a
    exact .cons ⟨r, vs, h1, ⟨h2, _, h3⟩, h3, h4.held⟩ ih
def SpansAt (H : Hp) (g : Addr) (ws : List (List Int)) : Prop := ∃ us, H g = some (.lst us) ∧ SpRows (fun _ => True) H ws us ws
def SpansOk (Ok : Addr → Prop) (H : Hp) (g : Addr) (ws : List (List Int)) : Prop := Ok g ∧ ∃ us, H g = some (.lst us) ∧ SpRows Ok H ws us ws
theorem SpansOk.keep {Ok Ok' : Addr → Prop} {H H' : Hp} (e : ∀ a o, Ok a → H a = some o → H' a = some o) (i : ∀ a, Ok a → Ok' a) {g : Addr} {ws : List (List Int)} (h : SpansOk Ok H g ws) : SpansOk Ok' H' g ws := by
  obtain ⟨h0, us, h1, h2⟩ := h
  exact ⟨i _ h0, us, e _ _ h0 h1, h2.keep e i⟩
theorem SpansOk.any {Ok : Addr → Prop} {H : Hp} {g : Addr} {ws : List (List Int)} (h : SpansOk Ok H g ws) : SpansAt H g ws := by
  obtain ⟨h0, us, h1, h2⟩ := h
  exact ⟨us, h1, h2.keep (fun _ _ _ z => z) fun _ _ => True.intro⟩
theorem SpansAt.same {H H' : Hp} (e : Same H H') {g : Addr} {ws : List (List Int)} (h : SpansAt H g ws) : SpansAt H' g ws := by
  obtain ⟨us, h1, h2⟩ := h
  exact ⟨us, e _ _ h1, h2.keep (fun a o _ z => e _ _ z) fun _ h => h⟩
theorem SpansAt.at {H : Hp} {g : Addr} {ws : List (List Int)} (h : SpansAt H g ws) {i j : Nat} {x z : List Int} (hi : ws[i]? = some x) (hj : ws[j]? = some z) : ∃ (us : List V) (r : Addr) (vs : List V) (l : Addr) (ns : List Int), H g = some (.lst us) ∧ us[i]? = some (V.ref r) ∧ H r = some (.lst vs) ∧ vs[j]? = some (V.ref l) ∧ H l = some (.lst (ns.map V.int)) ∧ ns.length ≤ 60 ∧ ∀ k, k ∈ ns ↔ ∃ d ∈ barsN x z, k = ((d : Nat) : Int) := by
  obtain ⟨us, h1, h2⟩ := h
  have l1 := Paired.length h2
  obtain ⟨u, hu⟩ : ∃ u, us[i]? = some u := ⟨_, List.getElem?_eq_getElem (by have := (List.getElem?_eq_some_iff.mp hi).1; omega)⟩
  obtain ⟨x', hx', r, vs, rfl, _, h3, h4⟩ := paired_get h2 hu
  rw [hi] at hx'
  obtain rfl := Option.some.inj hx'
  have l2 := Paired.length h4
  obtain ⟨v, hv⟩ : ∃ v, vs[j]? = some v := ⟨_, List.getElem?_eq_getElem (by have := (List.getElem?_eq_some_iff.mp hj).1; omega)⟩
  obtain ⟨z', hz', l, ns, rfl, _, h5, h6⟩ := paired_get h4 hv
  rw [hj] at hz'
  obtain rfl := Option.some.inj hz'
  exact ⟨us, r, vs, l, ns, h1, hu, h3, hv, h5, h6⟩
section
variable {P : Program} {w : World} {K : PySem.W.Frag} {mg : Str → Option Value} {base : Heap}
/-! ### _law_bars -/
def spLBars (K : PySem.W.Frag) : Sp := fun vs H Q _ => ∃ (t : Addr) (ws : List (List Int)), vs = [.ref t] ∧ Tp K H (.ref t) (.tuple (tDs ws)) ∧ GoodL ws ∧ ∀ H' g, Same H H' → SpansOk (fun a => H a = none) H' g ws → Q (.ref g) H'
theorem ok_l_bars {f f1 : Addr} {fd fd1 : FuncData} {k : Nat} (F : Fun K "_law_bars" "_law_bars" s_l_bars f fd)
    (G1 : FnOk P w K mg base CX0 k f1 fd1 ["_law_one", "_law_other"] (spBetween K)) (kp1 : PySem.W.keepIn K (.ref f1) = true) (b1 : Binds K fd1 ["_law_one", "_law_other"] []) (g1 : mg "_law_between" = some (.ref f1)) :
    FnOk P w K mg base CX0 (k + 1) f fd ["_law_works_here"] (spLBars K) := by
  refine F.ok sc_l_bars (fun vs H Q E h => ?_) (fun cdv A outer s H vs Q E hr h => ?_)
  · obtain ⟨t, ws, rfl, _⟩ := h; rfl
  · obtain ⟨t, ws, rfl, hW, hg, q⟩ := h
    refine ⟨_, pss_one (ps_ret (pe_lc (own := [("_law_one", 2)]) (g := gName 2) (tt := tYes) rfl sc_l_bars.nd (pi_tup (pv 0)) (blkOk_by (N := ["_law_works_here", "_law_other", "_law_one"]) (sc := defScope s_l_bars) (by decide +kernel))
        (fun _ _ _ _ _ => pg_name (i := 2) sc_l_bars.nd rfl (Or.inr rfl)) (fun _ _ _ _ _ => pts_nil)
        (fun _ _ _ _ _ => pe_lc (own := [("_law_other", 1)]) (g := gName 1) (tt := tYes) rfl sc_l_bars.nd (pi_tupK (K := K) rfl (pv 0)) (blkOk_by (by rfl))
          (fun _ _ _ _ _ => pg_name (i := 1) sc_l_bars.nd rfl (Or.inl rfl)) (fun _ _ _ _ _ => pts_nil)
          (fun _ _ _ _ _ => pe_call G1 hr (by rfl) g1 kp1 b1 .nil pass0 (pa_cons (pv 2) (pa_cons (pv 1) pa_nil)))))), ?_⟩
    have big : 1000 ≤ sizeLine := by rw [sizeLine_eq]; decide
    obtain ⟨_, xs, e, hS, hT⟩ := hW.toTup
    cases e
    have lxs : xs.length = ws.length := by rw [hT.len]; exact List.length_map _
    have few := hg.few
    have itm : ∀ {i : Nat} {u : V} {H' : Hp}, Same H H' → xs[i]? = some u → ∃ x c, ws[i]? = some x ∧ u = .ref c ∧ SqT K H' c (x.map V.int) ∧ IsWork x := fun {i u H'} e hu => by
      obtain ⟨x, c, h1, h2, h3⟩ := hT.works hu
      exact ⟨x, c, h1, h2, Same.tup e h3, hg.work x (List.mem_of_getElem? h1)⟩
    refine ⟨.ref t, rfl, t, rfl, ⟨xs, hS⟩, fun D nD => ?_⟩
    refine lc_tup (xs := xs) (fun i H' => Same H H' ∧ ∃ us, H' D = some (.lst us) ∧ SpRows (fun a => a ≠ D ∧ H a = none) H' ws us (ws.take i)) ⟨same_new nD, [], upd_same, .nil⟩ (fun i H' _ h => Same.tup h.1 hS) (fun i y H' hy h => ?_) (fun H' h => ?_)
    · obtain ⟨e1, us, hD1, hR1⟩ := h
      obtain ⟨x, c, hx, rfl, hc, hxw⟩ := itm e1 hy
      have lus : us.length = (ws.take i).length := Paired.length hR1
      have hil := (List.getElem?_eq_some_iff.mp hx).1
      rw [List.length_take] at lus
      refine ⟨rfl, .ref t, rfl, t, rfl, ⟨xs, Same.tup e1 hS⟩, fun B nB => ?_⟩
      have nBD : B ≠ D := (ne_of_none hD1 nB).symm
      have nBH : H B = none := freeS e1 nB
      refine lc_tup (xs := xs) (fun j H2 => Same H H2 ∧ H2 D = some (.lst us) ∧ SpRows (fun a => (a ≠ D ∧ a ≠ B) ∧ H a = none) H2 ws us (ws.take i) ∧ ∃ vs, H2 B = some (.lst vs) ∧ SpRow (fun a => (a ≠ D ∧ a ≠ B) ∧ H a = none) H2 x vs (ws.take j)) ⟨e1.trans (same_new nB), same_new nB _ _ hD1, ?_, [], upd_same, .nil⟩ (fun j H2 _ h => Same.tup h.1 hS) (fun j y H2 hy2 h => ?_) (fun H2 h => ?_)
      · -- what stood before is no B
        have key : ∀ {us : List V} {zs : List (List Int)}, SpRows (fun a => a ≠ D ∧ H a = none) H' ws us zs → SpRows (fun a => (a ≠ D ∧ a ≠ B) ∧ H a = none) (upd H' B (.lst [])) ws us zs := fun {us zs} h => by
          have h' := h.held
          exact h'.keep (fun a o h z => same_new nB _ _ z) fun a h => ⟨⟨h.1.1, let ⟨o, ho⟩ := h.2; ne_of_none ho nB⟩, h.1.2⟩
        exact key hR1
      · obtain ⟨e2, hD2, hR2, vs, hB2, hV2⟩ := h
        obtain ⟨z, c2, hz, rfl, hc2, hzw⟩ := itm e2 hy2
        have lvs : vs.length = (ws.take j).length := Paired.length hV2
        rw [List.length_take] at lvs
        have hjl := (List.getElem?_eq_some_iff.mp hz).1
        refine ⟨rfl, .ref c, rfl, .ref c2, rfl, c, c2, x, z, rfl, Same.tup e2 (itm (fun _ _ z => z) hy |> fun ⟨x', c', h1, h2, h3, _⟩ => by rw [hx] at h1; obtain rfl := Option.some.inj h1; cases h2; exact h3), hc2, hxw, hzw, fun H3 l ns e3 nl hl lns mem => ?_⟩
        have hB3 := e3 _ _ hB2
        have nlB : l ≠ B := (ne_of_none hB2 nl).symm
        have nlD : l ≠ D := (ne_of_none hD2 nl).symm
        have e23 := e2.trans e3
        have kp : ∀ a o, ((a ≠ D ∧ a ≠ B) ∧ H a = none) → H2 a = some o → (upd H3 B (.lst (vs ++ [V.ref l]))) a = some o := fun a o h z => by rw [upd_ne h.1.2]; exact e3 _ _ z
        refine ⟨vs, hB3, by omega, fun b o z => by rw [upd_ne (ne_of_none z nBH)]; exact e23 _ _ z, by rw [upd_ne nBD.symm]; exact e3 _ _ hD2, hR2.keep kp fun _ h => h, vs ++ [.ref l], upd_same, ?_⟩
        rw [List.take_add_one, hz]
        exact Paired.snoc (hV2.keep kp fun _ h => h) ⟨l, ns, rfl, ⟨⟨nlD, nlB⟩, freeS e2 nl⟩, by rw [upd_ne nlB]; exact hl, lns, mem⟩
      · obtain ⟨e2, hD2, hR2, vs, hB2, hV2⟩ := h
        rw [lxs, List.take_length] at hV2
        have kp : ∀ a o, ((a ≠ D ∧ a ≠ B) ∧ H a = none) → H2 a = some o → (upd H2 D (.lst (us ++ [V.ref B]))) a = some o := fun a o h z => by rw [upd_ne h.1.1]; exact z
        refine ⟨us, hD2, by omega, fun b o z => by rw [upd_ne (ne_of_none z nD)]; exact e2 _ _ z, us ++ [.ref B], upd_same, ?_⟩
        rw [List.take_add_one, hx]
        exact Paired.snoc (hR2.keep kp fun _ h => ⟨h.1.1, h.2⟩) ⟨B, vs, rfl, ⟨nBD, nBH⟩, by rw [upd_ne nBD]; exact hB2, hV2.keep kp fun _ h => ⟨h.1.1, h.2⟩⟩
    · obtain ⟨e1, us, hD1, hR1⟩ := h
      rw [lxs, List.take_length] at hR1
      exact q H' D e1 ⟨nD, us, hD1, hR1.keep (fun _ _ _ z => z) fun _ h => h.2⟩
/-! ### _law_reach -/
def spLReach : Sp := fun vs H Q _ => ∃ (g : Addr) (ws : List (List Int)), vs = [.ref g] ∧ SpansAt H g ws ∧ ∀ H' r, Same H H' → Top (allB ws ws) r → Q (.int r) H'
theorem Top.more {L : List Int} {f m : Int} {ns : List Int} {bs : List Nat} (h : Top L f) (h1 : m ∈ f :: ns) (h2 : ∀ x ∈ f :: ns, x ≤ m) (mem : ∀ k, k ∈ ns ↔ ∃ d ∈ bs, k = ((d : Nat) : Int)) : Top (L ++ nI bs) m := by
  have f0 := h2 f List.mem_cons_self
  have memI : ∀ k, k ∈ nI bs ↔ k ∈ ns := fun k => by
    rw [mem]
    constructor
    · intro h
      obtain ⟨d, hd, rfl⟩ := List.mem_map.mp h
      exact ⟨d, hd, rfl⟩
    · rintro ⟨d, hd, rfl⟩
      exact List.mem_map.mpr ⟨d, hd, rfl⟩
  refine ⟨Int.le_trans h.pos f0, fun x hx => ?_, ?_⟩
  · rcases List.mem_append.mp hx with hx | hx
    · exact Int.le_trans (h.le x hx) f0
    · exact h2 x (List.mem_cons_of_mem _ ((memI x).mp hx))
  · rcases List.mem_cons.mp h1 with e | hm
    · rcases h.eq with z | z
      · exact .inl (e.trans z)
      · exact .inr (List.mem_append.mpr (.inl (by rw [e]; exact z)))
    · exact .inr (List.mem_append.mpr (.inr ((memI m).mpr hm)))
theorem ok_l_reach {f : Addr} {fd : FuncData} {k : Nat} (F : Fun K "_law_reach" "_law_reach" s_l_reach f fd) (m1 : mg "max" = none) : FnOk P w K mg base CX0 (k + 1) f fd ["_law_spans"] spLReach := by
  refine F.ok sc_l_reach (fun vs H Q E h => ?_) (fun cdv A outer s H vs Q E hr h => ?_)
  · obtain ⟨g, ws, rfl, _⟩ := h; rfl
  · obtain ⟨g, ws, rfl, hS, q⟩ := h
    refine ⟨_, pss_cons (ps_set (i := 1) sc_l_reach.nd rfl (.inl rfl) pe_int)
      (pss_cons (ps_for PassesOwn.never rfl (pi_list (pv 0)) (pg_name (i := 2) sc_l_reach.nd rfl (.inl rfl))
        (pss_one (ps_for PassesOwn.never rfl (pi_list (pv 2)) (pg_name (i := 3) sc_l_reach.nd rfl (.inl rfl))
          (pss_one (ps_set (i := 1) sc_l_reach.nd rfl (.inl rfl) (pe_callB (cr_max rfl) (by rfl) m1 (by decide +kernel) (pa_cons (pe_op op_cat (pe_lst (pa_cons (pv 1) pa_nil)) (pv 3)) pa_nil)))))))
      (pss_one (ps_ret (pv 1)))), ?_⟩
    have big : 1000 ≤ sizeLine := by rw [sizeLine_eq]; decide
    obtain ⟨us, hg, hR⟩ := hS
    have lus : us.length = ws.length := Paired.length hR
    refine ⟨.ref g, rfl, g, rfl, ⟨_, .of hg⟩, ?_⟩
    refine for_list (xs := us) (fun i σ H' => ∃ v2 v3 fo, σ = [some (.ref g), some (.int fo), v2, v3] ∧ Same H H' ∧ Top ((ws.take i).flatMap fun a => rowB a ws) fo) ⟨_, _, 0, rfl, fun _ _ z => z, ⟨Int.le_refl _, (fun x hx => nomatch hx), .inl rfl⟩⟩
      (fun i σ H' _ h => ?_) (fun i y σ H' hy h => ?_) (fun σ H' h => ?_)
    · obtain ⟨_, _, _, _, e, _⟩ := h
      exact .of (e _ _ hg)
    · obtain ⟨v2, v3, fo, rfl, e1, ht⟩ := h
      obtain ⟨x, hx, r, vs, rfl, _, hr1, hV⟩ := paired_get hR hy
      have lvs : vs.length = ws.length := Paired.length hV
      refine ⟨.ref r, rfl, r, rfl, ⟨_, .of (e1 _ _ hr1)⟩, ?_⟩
      refine for_list (xs := vs) (fun j σ H' => ∃ v3 fo, σ = [some (.ref g), some (.int fo), some (.ref r), v3] ∧ Same H H' ∧ Top (((ws.take i).flatMap fun a => rowB a ws) ++ (ws.take j).flatMap fun b => nI (barsN x b)) fo) ⟨_, fo, rfl, e1, by rw [List.take_zero]; show Top (_ ++ []) fo; rw [List.append_nil]; exact ht⟩
        (fun j σ H' _ h => ?_) (fun j y2 σ H' hy2 h => ?_) (fun σ H' h => ?_)
      · obtain ⟨_, _, _, e, _⟩ := h
        exact .of (e _ _ hr1)
      · obtain ⟨v3, fo, rfl, e2, ht2⟩ := h
        obtain ⟨z, hz, l, ns, rfl, _, hl, lns, mem⟩ := paired_get hV hy2
        refine ⟨.int fo, rfl, by show 1 ≤ sizeLine; omega, fun z1 nz1 => ?_⟩
        have e3 := same_new (o := .lst [V.int fo]) nz1
        have hz3 := upd_same (H := H') (a := z1) (o := .lst [V.int fo])
        have e23 := e2.trans e3
        generalize upd H' z1 (.lst [V.int fo]) = H3 at e3 hz3 e23 ⊢
        refine ⟨.ref l, rfl, z1, l, _, _, rfl, rfl, hz3, e23 _ _ hl, by rw [List.length_map]; show 1 + ns.length ≤ sizeLine; omega, fun p np => ?_⟩
        have hp2 := upd_same (H := H3) (a := p) (o := .lst ([V.int fo] ++ ns.map V.int))
        refine ⟨p, fo :: ns, rfl, .of hp2, Nat.succ_pos _, fun m hm1 hm2 => ⟨_, m, rfl, e23.trans (same_new np), ?_⟩⟩
        rw [List.take_add_one, hz, List.flatMap_append, ← List.append_assoc]
        show Top (_ ++ (nI (barsN x z) ++ [])) m
        rw [List.append_nil]
        exact ht2.more hm1 hm2 mem
      · obtain ⟨v3, fo, rfl, e2, ht2⟩ := h
        rw [lvs, List.take_length] at ht2
        refine ⟨_, _, fo, rfl, e2, ?_⟩
        rw [List.take_add_one, hx, List.flatMap_append]
        show Top (_ ++ (rowB x ws ++ [])) fo
        rw [List.append_nil]
        exact ht2
    · obtain ⟨v2, v3, fo, rfl, e1, ht⟩ := h
      rw [lus, List.take_length] at ht
      exact ⟨.int fo, rfl, q H' fo e1 ht⟩
end
end Sg
set_option Elab.async false
set_option linter.all false
set_option maxRecDepth 100000
set_option maxHeartbeats 4000000
namespace Sg
open PySem PySem.Spec PyProof.Rows L2 StX
theorem inV_int (z : Int) (ns : List Int) : inV (.int z) (ns.map V.int) = decide (z ∈ ns) := by
  unfold inV
  rw [Bool.eq_iff_iff, List.any_eq_true, decide_eq_true_eq]
  constructor
  · rintro ⟨v, hv, e⟩
    obtain ⟨b, hb, rfl⟩ := List.mem_map.mp hv
    have : b = z := by simpa [eqV] using e
    rw [← this]
    exact hb
  · intro h
    exact ⟨_, List.mem_map.mpr ⟨z, h, rfl⟩, by simp [eqV]⟩
theorem flat_ints (ns : List Int) : (ns.map V.int).all flatV = true := by
  rw [List.all_eq_true]
  intro v hv
  obtain ⟨b, _, rfl⟩ := List.mem_map.mp hv
  rfl
/-- a plan's items, of a tuple that holds it -/
theorem plan_at {K : PySem.W.Frag} {H : Hp} {us : List V} {p : List Plc} (h : TpAll K H us (plsD p)) {i : Nat} {v : V} (hv : us[i]? = some v) : ∃ c x, p[i]? = some x ∧ v = .ref c ∧ SqT K H c [.int x.1, .int x.2] := by
  obtain ⟨d, hd, ht⟩ := h.at hv
  rw [List.getElem?_map] at hd
  obtain ⟨x, hx, rfl⟩ := Option.map_eq_some_iff.mp hd
  obtain ⟨c, xs, rfl, hS, hT⟩ := ht.toTup
  have := hT.isInts
  rw [this] at hS
  exact ⟨c, x, hx, rfl, hS⟩
section
variable {P : Program} {w : World} {K : PySem.W.Frag} {mg : Str → Option Value} {base : Heap}
/-! ### _law_is_free -/
def spFree (K : PySem.W.Frag) : Sp := fun vs H Q _ => ∃ (g pn : Addr) (ws : List (List Int)) (p : List Plc) (tk kd : Int), vs = [.ref g, .ref pn, .int tk, .int kd] ∧ SpansAt H g ws ∧ Tp K H (.ref pn) (planP p) ∧ (∀ x ∈ p, x.1 < tk ∧ 0 ≤ x.2 ∧ x.2 < (ws.length : Nat)) ∧ 0 ≤ kd ∧ kd < (ws.length : Nat) ∧ (∀ x ∈ p, -1000000 ≤ x.1) ∧ tk ≤ 1000000 ∧
  ∀ H', Same H H' → Q (.bl (freeL ws p (tk, kd))) H'
theorem ok_l_is_free {f : Addr} {fd : FuncData} {k : Nat} (F : Fun K "_law_is_free" "_law_is_free" s_l_is_free f fd) : FnOk P w K mg base CX0 (k + 1) f fd ["_law_spans", "_law_plan", "_law_tick", "_law_kind"] (spFree K) := by
  refine F.ok sc_l_is_free (fun vs H Q E h => ?_) (fun cdv A outer s H vs Q E hr h => ?_)
  · obtain ⟨g, pn, ws, p, tk, kd, rfl, _⟩ := h; rfl
  · obtain ⟨g, pn, ws, p, tk, kd, rfl, hS, hP, hx, k0, k1, xl, tl, q⟩ := h
    refine ⟨_, pss_cons (ps_for PassesOwn.never rfl (pi_tup (pv 1)) (pg_tup rfl (pgs_cons (pg_name (i := 4) sc_l_is_free.nd rfl (.inl rfl)) (pgs_cons (pg_name (i := 5) sc_l_is_free.nd rfl (.inl rfl)) pgs_nil)))
        (pss_one (ps_if (pt_cmpR (op_inK (K := K) rfl) (pe_op op_sub (pv 2) (pv 4)) (pe_ix ix_list (pe_ix ix_list (pv 0) (pv 5) (fun _ _ => rfl)) (pv 3) (fun _ _ => rfl)) (by with_unfolding_all rfl)) (pss_one (ps_ret pe_bl)) pss_nil)))
      (pss_one (ps_ret pe_bl)), ?_⟩
    obtain ⟨_, us, e, hU, hT⟩ := hP.toTup
    cases e
    have lus : us.length = p.length := by rw [hT.len]; exact List.length_map _
    refine ⟨.ref pn, rfl, pn, rfl, ⟨_, hU⟩, ?_⟩
    refine for_tup (xs := us) (fun i σ H' => ∃ v4 v5, σ = [some (.ref g), some (.ref pn), some (.int tk), some (.int kd), v4, v5] ∧ Same H H' ∧ freeL ws (p.take i) (tk, kd) = true) ⟨_, _, rfl, fun _ _ z => z, rfl⟩ (fun i σ H' _ h => ?_) (fun i y σ H' hy h => ?_) (fun σ H' h => ?_)
    · obtain ⟨_, _, _, e, _⟩ := h
      exact Same.tup e hU
    · obtain ⟨v4, v5, rfl, e1, hf⟩ := h
      obtain ⟨c, x, hxi, rfl, hc⟩ := plan_at hT hy
      obtain ⟨x1, x2, x3⟩ := hx x (List.mem_of_getElem? hxi)
      have x4 := xl x (List.mem_of_getElem? hxi)
      refine ⟨c, _, rfl, Same.tup e1 hc, rfl, _, _, rfl, _, _, rfl, rfl, ?_⟩
      have hw1 : ws[x.2.toNat]? = some ws[x.2.toNat] := List.getElem?_eq_getElem (by omega)
      have hw2 : ws[kd.toNat]? = some ws[kd.toNat] := List.getElem?_eq_getElem (by omega)
      obtain ⟨uu, r, vs, l, ns, g1, g2, g3, g4, g5, g6, mem⟩ := (hS.same e1).at hw1 hw2
      have ewk1 : wkS ws x.2.toNat = ws[x.2.toNat] := by unfold wkS; rw [List.getD_eq_getElem?_getD, hw1]; rfl
      have ewk2 : wkS ws kd.toNat = ws[kd.toNat] := by unfold wkS; rw [List.getD_eq_getElem?_getD, hw2]; rfl
      refine ⟨.int tk, rfl, .int x.1, rfl, tk, x.1, rfl, rfl, .ref g, rfl, .int x.2, rfl, g, uu, x.2, .ref r, rfl, rfl, .of g1, by rw [← Int.toNat_of_nonneg x2]; exact atI_nat g2, .int kd, rfl, r, vs, kd, .ref l, rfl, rfl, .of g3, by rw [← Int.toNat_of_nonneg k0]; exact atI_nat g4, l, ns.map V.int, rfl, .inl (.of g5), rfl, flat_ints ns, _, rfl, ?_⟩
      have hfr : freeL ws (p.take (i + 1)) (tk, kd) = (freeL ws (p.take i) (tk, kd) && !decide (tk - x.1 ∈ ns)) := by
        unfold freeL
        rw [List.take_add_one, hxi, List.all_append]
        congr 1
        show ((!decide ((tk - x.1).toNat ∈ barsN (wkS ws x.2.toNat) (wkS ws kd.toNat))) && true) = _
        rw [Bool.and_true, ewk1, ewk2]
        congr 1
        congr 1
        refine propext ?_
        rw [mem]
        constructor
        · exact fun h => ⟨_, h, by omega⟩
        · rintro ⟨d, hd, e⟩
          rw [show (tk - x.1).toNat = d from by omega]; exact hd
      show (if (inV (V.int (tk - x.1)) (ns.map V.int)) = true then _ else _)
      rw [inV_int]
      by_cases hb : tk - x.1 ∈ ns
      · rw [decide_eq_true hb] at hfr ⊢
        refine iteT ?_
        have : freeL ws p (tk, kd) = false := by
          rw [Bool.not_true, Bool.and_false] at hfr
          unfold freeL at hfr ⊢
          rw [List.all_eq_false] at hfr ⊢
          obtain ⟨y, hy1, hy2⟩ := hfr
          exact ⟨y, List.mem_of_mem_take hy1, hy2⟩
        rw [this] at q
        exact q H' e1
      · rw [decide_eq_false hb] at hfr ⊢
        exact iteF ⟨_, _, rfl, e1, by rw [hfr, hf]; rfl⟩
    · obtain ⟨v4, v5, rfl, e1, hf⟩ := h
      rw [lus, List.take_length] at hf
      rw [hf] at q
      exact q H' e1
end
end Sg
set_option Elab.async false
set_option linter.all false
set_option maxRecDepth 100000
set_option maxHeartbeats 4000000
namespace Sg
open PySem PySem.Spec PyProof.Rows L2 StX
/-! ## how many plans the law makes -/
/-! ### pairs of a last start and a plan -/
def lastT (p : List Plc) : Int := (endT p : Nat) - 1
def lpD (p : List Plc) : PyData := .tuple [.int (lastT p), planP p]
def lpLt (p q : List Plc) : Bool := if endT p = endT q then lexP p q else decide (endT p < endT q)
theorem lt_lp (p q : List Plc) : PySem.W.dataLt (lpD p) (lpD q) = lpLt p q := by
  unfold lpD
  rw [PySem.W.dataLt_tuple]
  show PySem.W.rowLt [.int (lastT p), planP p] [.int (lastT q), planP q] = _
  rw [rowLt_cons (by simp [PySem.W.alike]), rowLt_cons (alike_plan p q), rowLt_nil, PySem.W.dataLt_int, lt_plan]
  have ee : PyData.eqv (planP p) (planP q) = decide (p = q) := by
    show PyData.eqv (.tuple (plsD p)) (.tuple (plsD q)) = _
    rw [PyData.eqv]; exact eqv_pls p q
  rw [ee, PyData.eqv]
  unfold lpLt lastT
  by_cases h1 : endT p = endT q
  · rw [if_pos h1]
    by_cases h2 : p = q
    · subst h2; simp [lexP_irr]
    · simp [h1, h2]
  · rw [if_neg h1]
    have : ¬ (((endT p : Nat) : Int) - 1 = ((endT q : Nat) : Int) - 1) := by omega
    simp only [beq_iff_eq, this, if_false]
    by_cases h3 : endT p < endT q
    · rw [decide_eq_true h3, decide_eq_true (by omega)]
    · rw [decide_eq_false h3, decide_eq_false (by omega)]
theorem lp_alike (L : List (List Plc)) : PySem.W.AlikeAll (L.map lpD) := by
  refine ⟨fun x hx y hy => ?_, fun x hx => ?_⟩
  · obtain ⟨a, _, rfl⟩ := List.mem_map.mp hx
    obtain ⟨b, _, rfl⟩ := List.mem_map.mp hy
    have := alike_plan a b
    unfold lpD
    simp only [PySem.W.alike, PySem.W.alikeAll] at this ⊢
    simp [this]
  · obtain ⟨a, _, rfl⟩ := List.mem_map.mp hx
    exact fun z => nomatch z
theorem lp_deep : ∀ L : List (List Plc), PyData.depthAll (L.map lpD) ≤ 10
  | [] => by simp [PyData.depthAll]
  | r :: L => by
    have h1 := lp_deep L
    have h2 := depth_plan r
    rw [List.map_cons]
    show max (PyData.depth (lpD r)) (PyData.depthAll (L.map lpD)) ≤ 10
    have h3 : PyData.depth (lpD r) ≤ 3 := by
      unfold lpD
      rw [PyData.depth]
      show max (PyData.depth (.int _)) (max (PyData.depth (planP r)) 0) + 1 ≤ 3
      simp only [PyData.depth] at h2 ⊢
      omega
    omega
theorem lpD_inj {p q : List Plc} (h : lpD p = lpD q) : p = q := by
  have := PyData.tuple.inj h
  obtain ⟨_, h2⟩ := List.cons.inj this
  exact planP_inj (List.cons.inj h2).1
theorem lpLt_asym {p q : List Plc} (h : lpLt p q = true) : lpLt q p = false := by
  unfold lpLt at h ⊢
  by_cases e : endT p = endT q
  · rw [if_pos e] at h
    rw [if_pos e.symm]; exact lexP_asym _ _ h
  · rw [if_neg e] at h
    rw [if_neg fun z => e z.symm]
    have := of_decide_eq_true h
    exact decide_eq_false (by omega)
theorem lpLt_neg {p q r : List Plc} (h : lpLt p q = false) (g : lpLt q r = false) : lpLt p r = false := by
  unfold lpLt at h g ⊢
  by_cases e1 : endT p = endT q
  · rw [if_pos e1] at h
    by_cases e2 : endT q = endT r
    · rw [if_pos e2] at g
      rw [if_pos (e1.trans e2)]; exact lexP_neg _ _ _ h g
    · rw [if_neg e2] at g
      rw [if_neg (by omega)]
      have := of_decide_eq_false g
      exact decide_eq_false (by omega)
  · rw [if_neg e1] at h
    have h := of_decide_eq_false h
    by_cases e2 : endT q = endT r
    · rw [if_neg (by omega)]; exact decide_eq_false (by omega)
    · rw [if_neg e2] at g
      have g := of_decide_eq_false g
      rw [if_neg (by omega)]; exact decide_eq_false (by omega)
theorem minD_lps : ∀ (ps : List (List Plc)) (p : List Plc), ∃ q ∈ p :: ps, PySem.W.minD (lpD p) (ps.map lpD) = lpD q ∧ ∀ r ∈ p :: ps, lpLt r q = false
  | [], p => ⟨p, List.mem_cons_self, rfl, fun r hr => by
    rw [List.mem_singleton.mp hr]
    cases h : lpLt p p with
    | false => rfl
    | true => have := lpLt_asym h; rw [h] at this; exact nomatch this⟩
  | y :: ps, p => by
    have e : PySem.W.minD (lpD p) ((y :: ps).map lpD) = PySem.W.minD (lpD (if lpLt y p = true then y else p)) (ps.map lpD) := by
      unfold PySem.W.minD
      rw [List.map_cons, List.foldl_cons, lt_lp]
      split <;> rfl
    obtain ⟨q, hq, e2, hm⟩ := minD_lps ps (if lpLt y p = true then y else p)
    rw [← e] at e2
    have h0 := hm _ List.mem_cons_self
    refine ⟨q, ?_, e2, fun r hr => ?_⟩
    · rcases List.mem_cons.mp hq with rfl | hq
      · split
        · exact List.mem_cons_of_mem _ List.mem_cons_self
        · exact List.mem_cons_self
      · exact List.mem_cons_of_mem _ (List.mem_cons_of_mem _ hq)
    · rcases List.mem_cons.mp hr with rfl | hr
      · by_cases g : lpLt y r = true
        · rw [if_pos g] at h0
          exact lpLt_neg (lpLt_asym g) h0
        · rw [if_neg g] at h0; exact h0
      · rcases List.mem_cons.mp hr with rfl | hr
        · by_cases g : lpLt r p = true
          · rw [if_pos g] at h0; exact h0
          · rw [if_neg g] at h0
            exact lpLt_neg (by simpa using g) h0
        · exact hm r (List.mem_cons_of_mem _ hr)
end Sg
set_option Elab.async false
set_option linter.all false
set_option maxRecDepth 100000
set_option maxHeartbeats 4000000
namespace Sg
open PySem PySem.Spec PyProof.Rows L2 StX
def VPlT (p : List Plc) : Prop := ∀ x ∈ p, 0 ≤ x.1
section
variable {P : Program} {w : World} {K : PySem.W.Frag} {mg : Str → Option Value} {base : Heap}
theorem ix_tupK {X : Cx} {K : PySem.W.Frag} (hK : X.K = K) : IxR X (rIxT K) := by subst hK; exact ix_tup
theorem plan_last {K : PySem.W.Frag} {H : Hp} {us : List V} {p : List Plc} (h : TpAll K H us (plsD p)) (h0 : p ≠ []) (hv : VPlT p) : ∃ c, atI us (-1) = some (.ref c) ∧ ∃ y, SqT K H c [.int (lastT p), .int y] := by
  obtain ⟨p0, y, rfl⟩ : ∃ ks0 k, p = ks0 ++ [k] := by
    rcases List.eq_nil_or_concat p with e | ⟨b0, z, e⟩
    · exact absurd e h0
    · exact ⟨b0, z, by rw [e, List.concat_eq_append]⟩
  have hl : us.length = p0.length + 1 := by rw [h.len, List.length_map, List.length_append]; rfl
  obtain ⟨v, hv2⟩ : ∃ v, us[us.length - 1]? = some v := ⟨_, List.getElem?_eq_getElem (by omega)⟩
  obtain ⟨c, x, hx, rfl, hc⟩ := plan_at h hv2
  rw [hl, Nat.add_sub_cancel, List.getElem?_append_right (Nat.le_refl _), Nat.sub_self] at hx
  obtain rfl : y = x := Option.some.inj hx
  refine ⟨c, ?_, y.2, ?_⟩
  · unfold atI
    rw [ixN_end (by omega)]
    exact hv2
  · have hy : 0 ≤ y.1 := hv y (List.mem_append.mpr (.inr (List.mem_singleton.mpr rfl)))
    have : lastT (p0 ++ [y]) = y.1 := by unfold lastT; rw [endT_snoc]; omega
    rw [this]; exact hc
end
end Sg
set_option Elab.async false
set_option linter.all false
set_option maxRecDepth 100000
set_option maxHeartbeats 4000000
namespace Sg
open PySem PySem.Spec PyProof.Rows L2 StX
section
variable {P : Program} {w : World} {K : PySem.W.Frag} {mg : Str → Option Value} {base : Heap}
/-! ### _require_counts -/
def spReqCounts (K : PySem.W.Frag) (C : Addr) : Sp := fun vs H Q _ => ∃ (a b : Addr) (ws : List (List Int)) (cs : List Int), vs = [.ref a, .ref b] ∧ LineAt K C H a ws ∧ SqT K H b (cs.map V.int) ∧ cs.length = ws.length ∧ (∀ x ∈ cs, 0 ≤ x ∧ x ≤ 4) ∧ 1 ≤ cs.sum ∧ cs.sum ≤ 8 ∧ ∀ H', Same H H' → Q .non H'
theorem ok_require_counts {f f1 f2 C : Addr} {fd fd1 fd2 : FuncData} {k : Nat} (F : Fun K "_require_counts" "_require_counts" s_require_counts f fd) (M : Meths P w K mg base k C) (h4 : ∃ t, mg "MOST_OF_A_KIND" = some (.int 4 t)) (h8 : ∃ t, mg "MOST_PIECES" = some (.int 8 t))
    (G1 : FnOk P w K mg base CX0 (k + 2) f1 fd1 ["thing"] (spReqLine K C)) (kp1 : PySem.W.keepIn K (.ref f1) = true) (b1 : Binds K fd1 ["thing"] []) (g1 : mg "require_line" = some (.ref f1))
    (G2 : FnOk P w K mg base CX0 (k + 2) f2 fd2 ["thing", "least", "most"] spIsBetween) (kp2 : PySem.W.keepIn K (.ref f2) = true) (b2 : Binds K fd2 ["thing", "least", "most"] []) (g2 : mg "is_between" = some (.ref f2))
    (m1 : mg "isinstance" = none) (m2 : mg "tuple" = none) (m3 : mg "len" = none) (m4 : mg "all" = none) (m5 : mg "sum" = none) : FnOk P w K mg base CX0 (k + 3) f fd ["line", "thing"] (spReqCounts K C) := by
  obtain ⟨t4, n4⟩ := h4
  obtain ⟨t8, n8⟩ := h8
  refine F.ok sc_require_counts (fun vs H Q E h => ?_) (fun cdv A outer s H vs Q E hr h => ?_)
  · obtain ⟨a, b, ws, cs, rfl, _⟩ := h; rfl
  · obtain ⟨a, b, ws, cs, rfl, hL, hS, hl, h0, s1, s8, q⟩ := h
    refine ⟨_, pss_cons (ps_expr (pe_call G1 hr (by rfl) g1 kp1 b1 .nil pass0 (pa_cons (pv 0) pa_nil)))
      (pss_cons (ps_if (PW.pt (pw_or (pt_not (pt_val (pe_callB call_isi (by rfl) m1 (by decide +kernel) (pa_cons (pv 1) (pa_cons (pe_bltn (v := .ty "tuple") (by rfl) m2 (by decide +kernel) rfl) pa_nil)))))
          (pw_or1 (pt_cmpR op_ne (pe_callB call_len_seq (by rfl) m3 PySem.boot_len (pa_cons (pv 1) pa_nil)) (pe_callB (cLenK (K := K) M rfl hr) (by rfl) m3 PySem.boot_len (pa_cons (pv 0) pa_nil)) (nomark _))))) (pss_one ps_never) pss_nil)
      (pss_cons (ps_if (pt_not (pt_val (pe_callB (cr_all rfl) (by rfl) m4 (by decide +kernel) (pa_cons
          (pe_lc (own := [("count", 2)]) (g := gName 2) (tt := tYes) rfl sc_require_counts.nd (pi_tup (pv 1)) (blkOk_by (N := ["line", "thing", "count"]) (sc := defScope s_require_counts) (by decide +kernel))
            (fun _ _ _ _ _ => pg_name (i := 2) sc_require_counts.nd rfl (Or.inl rfl)) (fun _ _ _ _ _ => pts_nil)
            (fun _ _ _ _ _ => pe_call G2 hr (by rfl) g2 kp2 b2 .nil pass0 (pa_cons (pv 2) (pa_cons pe_int (pa_cons (pe_glob (v := .int 4) (by rfl) n4 ⟨_, rfl⟩) pa_nil))))) pa_nil)))) (pss_one ps_never) pss_nil)
      (pss_one (ps_if (pt_not (pt_chain op_le op_le pe_int (pe_callB (cr_sumT rfl) (by rfl) m5 (by decide +kernel) (pa_cons (pv 1) pa_nil)) (pe_glob (v := .int 8) (by rfl) n8 ⟨_, rfl⟩))) (pss_one ps_never) pss_nil)))), ?_⟩
    have lk : (((cs.map V.int).length : Nat) : Int) = ws.length := by rw [List.length_map, hl]
    have few := hL.good.few
    refine ⟨.ref a, rfl, a, ws, rfl, hL, ?_⟩
    refine ⟨.ref b, rfl, .ref b, .ty "tuple", _, _, true, rfl, .ty _, tyT hS, kit_ty (by decide +kernel), true, rfl, iteF ?_⟩
    refine ⟨.ref b, rfl, b, _, rfl, .inr hS, .ref a, rfl, a, ws, rfl, hL, rfl, false, ?_, iteF ?_⟩
    · show V.bl (!decide (V.int (((cs.map V.int).length : Nat) : Int) = V.int ((ws.length : Nat) : Int))) = V.bl false
      rw [lk, decide_eq_true rfl]; rfl
    refine ⟨.ref b, rfl, b, rfl, ⟨_, hS⟩, fun D hD => ?_⟩
    refine lc_tup (xs := cs.map V.int) (fun i H' => Same H H' ∧ H' D = some (.lst ((List.replicate i true).map V.bl))) ⟨same_new hD, upd_same⟩ (fun i H' _ h => Same.tup h.1 hS) (fun i x H' hx h => ?_) (fun H' h => ?_)
    · rw [List.getElem?_map] at hx
      obtain ⟨z, hz, rfl⟩ := Option.map_eq_some_iff.mp hx
      have hzw := h0 z (List.mem_of_getElem? hz)
      have hi := (List.getElem?_eq_some_iff.mp hz).1
      refine ⟨rfl, .int z, rfl, z, 0, 4, rfl, ?_⟩
      rw [decide_eq_true (show (0 : Int) ≤ z by omega), decide_eq_true (show z ≤ 4 by omega)]
      refine ⟨_, h.2, ?_, fun y o e => ?_, ?_⟩
      · rw [List.length_map, List.length_replicate]
        exact small1000 (by omega)
      · rw [upd_ne (ne_of_none e hD)]
        exact h.1 _ _ e
      · rw [upd_same, List.replicate_succ', List.map_append]
        rfl
    · have hall : (List.replicate (cs.map V.int).length true).all id = true := by simp
      refine ⟨D, _, rfl, .of h.2, true, congrArg V.bl hall, iteF ?_⟩
      refine ⟨.ref b, rfl, b, cs, rfl, Same.tup h.1 hS, 1, cs.sum, rfl, rfl, _, rfl, ?_⟩
      rw [decide_eq_true (show (1 : Int) ≤ cs.sum by omega)]
      refine iteT ⟨_, 8, rfl, rfl, _, rfl, ?_⟩
      rw [decide_eq_true (show cs.sum ≤ 8 by omega)]
      exact iteF (q H' h.1)
/-! ### soonest_of -/
def spSoonestOf (K : PySem.W.Frag) (C : Addr) : Sp := fun vs H Q _ => ∃ (a b : Addr) (ws : List (List Int)) (R : Nat) (cs : List Int), vs = [.ref a, .ref b] ∧ LineAt K C H a ws ∧ Reach ws R ∧ NearR ws.length R ∧ H b = some (.tup (cs.map V.int)) ∧ cs.length = ws.length ∧ (∀ x ∈ cs, 0 ≤ x ∧ x ≤ 4) ∧ 1 ≤ cs.sum ∧ cs.sum ≤ 8 ∧
  ∀ H' r plan, Same H H' → BestW ws nxAny cs plan → TkAt H' r plan → Q (.ref r) H'
theorem ok_soonest_of {f nf f1 f2 f3 C : Addr} {fd fd1 fd2 fd3 : FuncData} {k : Nat} {ds : List Value} (F : Fun K "soonest_of" "soonest_of" s_soonest_of f fd) (g0 : mg "_next_of_any" = some (.ref nf))
    (G1 : FnOk P w K mg base CX0 k f1 fd1 ["line", "thing"] (spReqCounts K C)) (kp1 : PySem.W.keepIn K (.ref f1) = true) (b1 : Binds K fd1 ["line", "thing"] []) (g1 : mg "_require_counts" = some (.ref f1))
    (G2 : FnOk P w K mg base CX0 k f2 fd2 ["line", "of_one", "of_several"] (spReqNear K C)) (kp2 : PySem.W.keepIn K (.ref f2) = true) (b2 : Vals [.int 8, .int 5] ds ∧ Binds K fd2 ["line", "of_one", "of_several"] ds) (g2 : mg "require_near" = some (.ref f2))
    (G3 : FnOk P w K mg base CX0 k f3 fd3 ["line", "wanted", "next_of"] (spSoonPlan K C nf (fun ns => ns.length ≤ 100) nxAny)) (kp3 : PySem.W.keepIn K (.ref f3) = true) (b3 : Binds K fd3 ["line", "wanted", "next_of"] []) (g3 : mg "_soonest_plan" = some (.ref f3)) :
    FnOk P w K mg base CX0 (k + 1) f fd ["line", "counts"] (spSoonestOf K C) := by
  refine F.ok sc_soonest_of (fun vs H Q E h => ?_) (fun cdv A outer s H vs Q E hr h => ?_)
  · obtain ⟨a, b, ws, R, cs, rfl, _⟩ := h; rfl
  · obtain ⟨a, b, ws, R, cs, rfl, hL, hR, hN, hb, hl, h0, s1, s8, q⟩ := h
    refine ⟨_, pss_cons (ps_expr (pe_call G1 hr (by rfl) g1 kp1 b1 .nil pass0 (pa_cons (pv 0) (pa_cons (pv 1) pa_nil))))
      (pss_cons (ps_expr (pe_call G2 hr (by rfl) g2 kp2 b2.2 b2.1 pass0 (pa_cons (pv 0) pa_nil)))
      (pss_one (ps_ret (pe_call G3 hr (by rfl) g3 kp3 b3 .nil pass0 (pa_cons (pv 0) (pa_cons (pv 1) (pa_cons (pe_glob (v := .ref nf) (by rfl) g0 rfl) pa_nil))))))), ?_⟩
    have R6 : R ≤ 60 := by rcases hN with ⟨_, h⟩ | ⟨_, h⟩ <;> omega
    have few := hL.good.few
    have nne : nxAny cs ≠ [] := fun z => by
      have hz := nxAny_nil.mp z
      have key : ∀ (l : List Int), (∀ x ∈ l, 0 ≤ x ∧ x ≤ 4) → (∀ i, i < l.length → ¬ 0 < l.getD i 0) → l.sum = 0 := by
        intro l
        induction l with
        | nil => intros; rfl
        | cons x l ih =>
          intro h1 h2
          have a1 := h1 x List.mem_cons_self
          have a2 : ¬ 0 < x := h2 0 (Nat.succ_pos _)
          have a3 := ih (fun y hy => h1 y (List.mem_cons_of_mem _ hy)) fun i hi => h2 (i + 1) (Nat.succ_lt_succ hi)
          rw [List.sum_cons, a3]; omega
      have := key cs h0 hz
      omega
    have F0 := counts_lefts cs.length (by omega)
    have m0 : cs ∈ cntsL cs.length := (cntsL_mem _ cs).mpr ⟨rfl, h0⟩
    refine ⟨.ref a, rfl, .ref b, rfl, a, b, ws, cs, rfl, hL, .of hb, hl, h0, s1, s8, fun H1 e1 => ?_⟩
    refine ⟨.ref a, rfl, a, ws, R, rfl, hL.stay (.of e1), hR, hN, ?_⟩
    refine ⟨.ref a, rfl, .ref b, rfl, a, b, ws, R, cs, szC, cntsL cs.length, rfl, hL.stay (.of e1), hR.rea, hN, e1 _ _ hb, F0, m0, fun Ls O => ?_, fun H2 r Ls n ps plan e2 O hs hp hl ht => ?_⟩
    · refine soon_ex O F0 m0 nne ?_
      have hm := ksUp_meets h0
      obtain ⟨p, hv, hkp⟩ := some_plan hR.rea _ (ksUp cs cs.length) rfl fun k hk => by rw [← hl]; exact hm.1 k hk
      obtain ⟨_, l, ha, hn⟩ := (good_counts (ws := ws) hl (getD_low h0)).mpr ⟨hv, by rw [hkp]; exact hm⟩
      obtain ⟨L, hw⟩ := wd_of hR.rea R6 (nx := nxAny) (left0 := cs) (endT p) l p hv hv.lt ha
      exact ⟨_, L, l, p, hw, hn⟩
    · exact q H2 r plan (e1.trans e2) (best_of hR.rea R6 (soon_is O F0 m0 nne hs) hp hl) ht
end
end Sg
set_option Elab.async false
set_option linter.all false
set_option maxRecDepth 100000
set_option maxHeartbeats 4000000
namespace Sg
open PySem PySem.Spec PyProof.Rows L2 StX
theorem sum_zero : ∀ (l : List Int), (∀ x ∈ l, 0 ≤ x ∧ x ≤ 4) → (∀ i, i < l.length → ¬ 0 < l.getD i 0) → l.sum = 0
  | [], _, _ => rfl
  | x :: l, h1, h2 => by
    have a1 := h1 x List.mem_cons_self
    have a2 : ¬ 0 < x := h2 0 (Nat.succ_pos _)
    have a3 := sum_zero l (fun y hy => h1 y (List.mem_cons_of_mem _ hy)) fun i hi => h2 (i + 1) (Nat.succ_lt_succ hi)
    rw [List.sum_cons, a3]; omega
theorem ksUp_len (cs : List Int) (h0 : ∀ x ∈ cs, 0 ≤ x ∧ x ≤ 4) : ∀ n, (ksUp cs n).length ≤ 4 * n
  | 0 => Nat.zero_le _
  | n + 1 => by
    rw [ksUp_succ, List.length_append, List.length_replicate]
    have := ksUp_len cs h0 n
    have : (cs.getD n 0).toNat ≤ 4 := by
      by_cases hn : n < cs.length
      · have hg : cs.getD n 0 ∈ cs := by rw [List.getD_eq_getElem?_getD, List.getElem?_eq_getElem hn]; exact List.getElem_mem hn
        have := h0 _ hg
        omega
      · rw [List.getD_eq_getElem?_getD, List.getElem?_eq_none (by omega)]; exact Nat.zero_le _
    omega
theorem ksUp_ne {cs : List Int} (h0 : ∀ x ∈ cs, 0 ≤ x ∧ x ≤ 4) (h1 : 1 ≤ cs.sum) : ksUp cs cs.length ≠ [] := fun z => by
  have hm := (ksUp_meets h0).2
  rw [z] at hm
  have := sum_zero cs h0 fun i hi hp => by
    have := hm i hi
    rw [List.count_nil] at this
    omega
  omega
section
variable {P : Program} {w : World} {K : PySem.W.Frag} {mg : Str → Option Value} {base : Heap}
/-! ### _law_is_free, of a list -/
def spFreeL (K : PySem.W.Frag) : Sp := fun vs H Q _ => ∃ (g pn : Addr) (us : List V) (ws : List (List Int)) (p : List Plc) (tk kd : Int), vs = [.ref g, .ref pn, .int tk, .int kd] ∧ SpansAt H g ws ∧ H pn = some (.lst us) ∧ TpAll K H us (plsD p) ∧ (∀ x ∈ p, x.1 < tk ∧ 0 ≤ x.2 ∧ x.2 < (ws.length : Nat)) ∧ 0 ≤ kd ∧ kd < (ws.length : Nat) ∧ (∀ x ∈ p, -1000000 ≤ x.1) ∧ tk ≤ 1000000 ∧
  ∀ H', Same H H' → Q (.bl (freeL ws p (tk, kd))) H'
theorem ok_l_is_freeL {f : Addr} {fd : FuncData} {k : Nat} (F : Fun K "_law_is_free" "_law_is_free" s_l_is_free f fd) : FnOk P w K mg base CX0 (k + 1) f fd ["_law_spans", "_law_plan", "_law_tick", "_law_kind"] (spFreeL K) := by
  refine F.ok sc_l_is_free (fun vs H Q E h => ?_) (fun cdv A outer s H vs Q E hr h => ?_)
  · obtain ⟨g, pn, us, ws, p, tk, kd, rfl, _⟩ := h; rfl
  · obtain ⟨g, pn, us, ws, p, tk, kd, rfl, hS, hU, hT, hx, k0, k1, xl, tl, q⟩ := h
    refine ⟨_, pss_cons (ps_for PassesOwn.never rfl (pi_list (pv 1)) (pg_tup rfl (pgs_cons (pg_name (i := 4) sc_l_is_free.nd rfl (.inl rfl)) (pgs_cons (pg_name (i := 5) sc_l_is_free.nd rfl (.inl rfl)) pgs_nil)))
        (pss_one (ps_if (pt_cmpR (op_inK (K := K) rfl) (pe_op op_sub (pv 2) (pv 4)) (pe_ix ix_list (pe_ix ix_list (pv 0) (pv 5) (fun _ _ => rfl)) (pv 3) (fun _ _ => rfl)) (by with_unfolding_all rfl)) (pss_one (ps_ret pe_bl)) pss_nil)))
      (pss_one (ps_ret pe_bl)), ?_⟩
    have lus : us.length = p.length := by rw [hT.len]; exact List.length_map _
    refine ⟨.ref pn, rfl, pn, rfl, ⟨_, .of hU⟩, ?_⟩
    refine for_list (xs := us) (fun i σ H' => ∃ v4 v5, σ = [some (.ref g), some (.ref pn), some (.int tk), some (.int kd), v4, v5] ∧ Same H H' ∧ freeL ws (p.take i) (tk, kd) = true) ⟨_, _, rfl, fun _ _ z => z, rfl⟩ (fun i σ H' _ h => ?_) (fun i y σ H' hy h => ?_) (fun σ H' h => ?_)
    · obtain ⟨_, _, _, e, _⟩ := h
      exact .of (e _ _ hU)
    · obtain ⟨v4, v5, rfl, e1, hf⟩ := h
      obtain ⟨c, x, hxi, rfl, hc⟩ := plan_at hT hy
      obtain ⟨x1, x2, x3⟩ := hx x (List.mem_of_getElem? hxi)
      have x4 := xl x (List.mem_of_getElem? hxi)
      refine ⟨c, _, rfl, Same.tup e1 hc, rfl, _, _, rfl, _, _, rfl, rfl, ?_⟩
      have hw1 : ws[x.2.toNat]? = some ws[x.2.toNat] := List.getElem?_eq_getElem (by omega)
      have hw2 : ws[kd.toNat]? = some ws[kd.toNat] := List.getElem?_eq_getElem (by omega)
      obtain ⟨uu, r, vs, l, ns, g1, g2, g3, g4, g5, g6, mem⟩ := (hS.same e1).at hw1 hw2
      have ewk1 : wkS ws x.2.toNat = ws[x.2.toNat] := by unfold wkS; rw [List.getD_eq_getElem?_getD, hw1]; rfl
      have ewk2 : wkS ws kd.toNat = ws[kd.toNat] := by unfold wkS; rw [List.getD_eq_getElem?_getD, hw2]; rfl
      refine ⟨.int tk, rfl, .int x.1, rfl, tk, x.1, rfl, rfl, .ref g, rfl, .int x.2, rfl, g, uu, x.2, .ref r, rfl, rfl, .of g1, by rw [← Int.toNat_of_nonneg x2]; exact atI_nat g2, .int kd, rfl, r, vs, kd, .ref l, rfl, rfl, .of g3, by rw [← Int.toNat_of_nonneg k0]; exact atI_nat g4, l, ns.map V.int, rfl, .inl (.of g5), rfl, flat_ints ns, _, rfl, ?_⟩
      have hfr : freeL ws (p.take (i + 1)) (tk, kd) = (freeL ws (p.take i) (tk, kd) && !decide (tk - x.1 ∈ ns)) := by
        unfold freeL
        rw [List.take_add_one, hxi, List.all_append]
        congr 1
        show ((!decide ((tk - x.1).toNat ∈ barsN (wkS ws x.2.toNat) (wkS ws kd.toNat))) && true) = _
        rw [Bool.and_true, ewk1, ewk2]
        congr 1
        congr 1
        refine propext ?_
        rw [mem]
        constructor
        · exact fun h => ⟨_, h, by omega⟩
        · rintro ⟨d, hd, e⟩
          rw [show (tk - x.1).toNat = d from by omega]; exact hd
      show (if (inV (V.int (tk - x.1)) (ns.map V.int)) = true then _ else _)
      rw [inV_int]
      by_cases hb : tk - x.1 ∈ ns
      · rw [decide_eq_true hb] at hfr ⊢
        refine iteT ?_
        have : freeL ws p (tk, kd) = false := by
          rw [Bool.not_true, Bool.and_false] at hfr
          unfold freeL at hfr ⊢
          rw [List.all_eq_false] at hfr ⊢
          obtain ⟨y, hy1, hy2⟩ := hfr
          exact ⟨y, List.mem_of_mem_take hy1, hy2⟩
        rw [this] at q
        exact q H' e1
      · rw [decide_eq_false hb] at hfr ⊢
        exact iteF ⟨_, _, rfl, e1, by rw [hfr, hf]; rfl⟩
    · obtain ⟨v4, v5, rfl, e1, hf⟩ := h
      rw [lus, List.take_length] at hf
      rw [hf] at q
      exact q H' e1
/-! ### _law_early_last -/
def NearP (R : Nat) (p : List Plc) : Prop := ∀ a y b, p = a ++ y :: b → y.1 ≤ ((endT a : Nat) : Int) + (if a = [] then 0 else (R : Nat))
theorem NearP.snoc {R : Nat} {p : List Plc} {z : Plc} (h : NearP R p) (hz : z.1 ≤ ((endT p : Nat) : Int) + (if p = [] then 0 else (R : Nat))) : NearP R (p ++ [z]) := fun a y b e => by
  rcases List.eq_nil_or_concat b with rfl | ⟨b', z', rfl⟩
  · obtain ⟨h1, h2⟩ := List.append_inj' e rfl
    rw [← h1]
    cases h2
    exact hz
  · rw [List.concat_eq_append] at e
    have e : p ++ [z] = (a ++ y :: b') ++ [z'] := by rw [e, List.append_assoc]; rfl
    obtain ⟨h1, _⟩ := List.append_inj' e rfl
    exact h a y b' h1
def spEarlyLast (K : PySem.W.Frag) : Sp := fun vs H Q _ => ∃ (g am : Addr) (ws : List (List Int)) (cs : List Int) (R : Nat), vs = [.ref g, .ref am] ∧ SpansAt H g ws ∧ SqT K H am (cs.map V.int) ∧ cs.length = ws.length ∧ ws.length ≤ 3 ∧ (∀ x ∈ cs, 0 ≤ x ∧ x ≤ 4) ∧ 1 ≤ cs.sum ∧ R ≤ 8 ∧ Rea ws R ∧
  ∀ H' p, Same H H' → VPl ws p → p.map (·.2) = ksUp cs cs.length → endT p ≤ 200 → NearP R p → Q (.int (lastT p)) H'
theorem ok_l_early_last {f f1 : Addr} {fd fd1 : FuncData} {k : Nat} (F : Fun K "_law_early_last" "_law_early_last" s_l_early_last f fd)
    (G1 : FnOk P w K mg base CX0 k f1 fd1 ["_law_spans", "_law_plan", "_law_tick", "_law_kind"] (spFreeL K)) (kp1 : PySem.W.keepIn K (.ref f1) = true) (b1 : Binds K fd1 ["_law_spans", "_law_plan", "_law_tick", "_law_kind"] []) (g1 : mg "_law_is_free" = some (.ref f1))
    (m1 : mg "range" = none) (m2 : mg "enumerate" = none) : FnOk P w K mg base CX0 (k + 1) f fd ["_law_spans", "_law_amounts"] (spEarlyLast K) := by
  refine F.ok sc_l_early_last (fun vs H Q E h => ?_) (fun cdv A outer s H vs Q E hr h => ?_)
  · obtain ⟨g, am, ws, cs, R, rfl, _⟩ := h; rfl
  · obtain ⟨g, am, ws, cs, R, rfl, hS, hA, hl, few, h0, s1, R8, hR, q⟩ := h
    refine ⟨_, pss_cons (ps_par (i := 2) (j := 3) (by rfl) sc_l_early_last.nd rfl rfl (by decide) rfl rfl (pa_cons (pe_lst pa_nil) (pa_cons pe_int pa_nil)) (by rfl))
      (pss_cons (ps_for PassesOwn.never rfl (pi_enumT (by rfl) m2 (pa_cons (pv 1) pa_nil)) (pg_tup rfl (pgs_cons (pg_name (i := 4) sc_l_early_last.nd rfl (.inl rfl)) (pgs_cons (pg_name (i := 5) sc_l_early_last.nd rfl (.inl rfl)) pgs_nil)))
        (pss_one (ps_for PassesOwn.never rfl (pi_range1 (by rfl) m1 (pa_cons (pv 5) pa_nil)) (pg_name (i := 6) sc_l_early_last.nd rfl (.inl rfl))
          (pss_cons (ps_while PassesOwn.never (pt_not (pt_val (pe_call G1 hr (by rfl) g1 kp1 b1 .nil pass0 (pa_cons (pv 0) (pa_cons (pv 2) (pa_cons (pv 3) (pa_cons (pv 4) pa_nil)))))))
            (pss_one (ps_set (i := 3) sc_l_early_last.nd rfl (.inl rfl) (pe_op op_add (pv 3) pe_int))))
          (pss_cons (ps_expr (pe_bm PySem.F.plainAttrs_list PySem.F.slot_list_append PySem.F.type_list_append mt_append (pv 2) (pa_cons (pe_tup (pa_cons (pv 3) (pa_cons (pv 4) pa_nil))) pa_nil)))
          (pss_one (ps_set (i := 3) sc_l_early_last.nd rfl (.inl rfl) (pe_op op_add (pv 3) pe_int))))))))
      (pss_one (ps_ret (pe_ix ix_tup (pe_ix ix_list (pv 2) (pe_un un_neg pe_int) (fun _ _ => rfl)) pe_int (fun _ _ => rfl))))), ?_⟩
    have big : 1000 ≤ sizeLine := by rw [sizeLine_eq]; decide
    have lcs : (cs.map V.int).length = cs.length := List.length_map _
    refine ⟨Nat.zero_le _, fun L nL => ⟨_, _, rfl, ?_⟩⟩
    have e0 := same_new (o := .lst ([] : List V)) nL
    have hL0 : (upd H L (.lst ([] : List V))) L = some (.lst []) := upd_same
    generalize upd H L (.lst ([] : List V)) = H0 at e0 hL0 ⊢
    refine ⟨.ref am, rfl, am, _, rfl, Same.tup e0 hA, ?_⟩
    refine for_it (walk_enumT (xs := cs.map V.int)) (fun i σ H' => ∃ v4 v5 v6 p acc, σ = [some (.ref g), some (.ref am), some (.ref L), some (.int ((endT p : Nat) : Int)), v4, v5, v6] ∧ Same H H' ∧ H' L = some (.lst acc) ∧ TpAll K H' acc (plsD p) ∧ VPl ws p ∧ p.map (·.2) = ksUp cs i ∧ endT p ≤ p.length * (R + 1) ∧ NearP R p)
      ⟨_, _, _, [], [], rfl, e0, hL0, .no, .nil, rfl, Nat.zero_le _, fun a y b e => by cases a <;> exact nomatch e⟩ (fun i σ H' _ h => ?_) (fun i y σ H' H'' hi h hY => ?_) (fun σ H' h => ?_)
    · obtain ⟨_, _, _, _, _, _, e, _⟩ := h
      exact Same.tup e hA
    · obtain ⟨v4, v5, v6, p, acc, rfl, e1, hL1, hT1, hv, hk, he, hnr⟩ := h
      obtain ⟨T, x1, x2, rfl, nT, rfl, f1, f2⟩ := hY
      dsimp only at f1 f2
      cases f1
      rw [List.getElem?_map] at f2
      obtain ⟨c, hc, rfl⟩ := Option.map_eq_some_iff.mp f2
      have hil := (List.getElem?_eq_some_iff.mp hc).1
      have hcw := h0 c (List.mem_of_getElem? hc)
      have eT := same_new (o := .tup [V.int (i : Nat), .int c]) nT
      refine ⟨T, _, rfl, .of upd_same, rfl, _, _, rfl, _, _, rfl, rfl, ?_⟩
      have e2 := e1.trans eT
      have hL2 := eT _ _ hL1
      have hT2 := hT1.stay (.of eT)
      generalize upd H' T (.tup [V.int (i : Nat), .int c]) = H2 at e2 hL2 hT2 ⊢
      have hgd : cs.getD i 0 = c := by rw [List.getD_eq_getElem?_getD, hc]; rfl
      refine ⟨.int c, rfl, c, rfl, by omega, by omega, ?_⟩
      refine for_range (lo := 0) (n := c.toNat) (fun j σ H' => ∃ v6 p acc, σ = [some (.ref g), some (.ref am), some (.ref L), some (.int ((endT p : Nat) : Int)), some (.int (i : Nat)), some (.int c), v6] ∧ Same H H' ∧ H' L = some (.lst acc) ∧ TpAll K H' acc (plsD p) ∧ VPl ws p ∧ p.map (·.2) = ksUp cs i ++ List.replicate j ((i : Nat) : Int) ∧ endT p ≤ p.length * (R + 1) ∧ NearP R p)
        ⟨_, p, acc, rfl, e2, hL2, hT2, hv, by rw [List.replicate_zero, List.append_nil]; exact hk, he, hnr⟩ ?_ ?_
      · rintro j σ H3 hj ⟨v6, p, acc, rfl, e3, hL3, hT3, hv, hk, he, hnr⟩
        have lp : p.length ≤ 16 := by
          have h1 := congrArg List.length hk
          rw [List.length_map, List.length_append, List.length_replicate] at h1
          have := ksUp_len cs h0 i
          omega
        have he2 : p.length * (R + 1) ≤ 16 * 9 := Nat.mul_le_mul lp (by omega)
        have lacc : acc.length = p.length := by rw [hT3.len, List.length_map]
        refine ⟨fun m σ H' => ∃ t : Nat, σ = [some (.ref g), some (.ref am), some (.ref L), some (.int ((t : Nat) : Int)), some (.int (i : Nat)), some (.int c), some (.int (0 + (j : Nat)))] ∧ Same H3 H' ∧ endT p ≤ t ∧ t ≤ endT p + R ∧ ((t : Nat) : Int) ≤ ((endT p : Nat) : Int) + (if p = [] then 0 else (R : Nat)) ∧ m = endT p + R - t, ⟨_, endT p, rfl, fun _ _ z => z, Nat.le_refl _, Nat.le_add_right _ _, by split <;> omega, rfl⟩, ?_⟩
        rintro m σ H4 ⟨t, rfl, e4, t1, t2, t3, rfl⟩
        have hL4 := e4 _ _ hL3
        have hT4 := hT3.stay (.of e4)
        refine ⟨.ref g, rfl, .ref L, rfl, .int (t : Nat), rfl, .int (i : Nat), rfl, g, L, acc, ws, p, (t : Nat), (i : Nat), rfl, hS.same (e3.trans e4), hL4, hT4, fun x hx => ⟨by have := hv.lt x hx; omega, (hv.nn x hx).2⟩, by omega, by omega, fun x hx => by have := (hv.nn x hx).1; omega, by omega, fun H5 e5 => ⟨_, rfl, ?_⟩⟩
        cases hf : freeL ws p (((t : Nat) : Int), ((i : Nat) : Int)) with
        | false =>
          refine iteT ?_
          have pne0 : p ≠ [] := fun z => by
            rw [z] at hf; exact nomatch hf
          have tlt : t < endT p + R := by
            refine Classical.byContradiction fun z => ?_
            have : freeL ws p (((t : Nat) : Int), ((i : Nat) : Int)) = true := freeL_iff.mpr fun x hx => by
              have := hv.lt x hx
              exact hR.far (by show (R : Nat) < ((t : Nat) : Int) - x.1; omega)
            rw [this] at hf; exact nomatch hf
          refine ⟨fun σ' H' => ∃ t' : Nat, σ' = [some (.ref g), some (.ref am), some (.ref L), some (.int ((t' : Nat) : Int)), some (.int (i : Nat)), some (.int c), some (.int (0 + (j : Nat)))] ∧ Same H3 H' ∧ t' = t + 1, fun σ' H' ⟨t', z1, z2, z3⟩ => ⟨_, by omega, t', z1, z2, by omega, by omega, by rw [if_neg pne0]; omega, rfl⟩, ?_⟩
          exact ⟨.int (t : Nat), rfl, _, _, rfl, rfl, t + 1, by show _ = [some (V.ref g), some (.ref am), some (.ref L), some (.int ((t + 1 : Nat) : Int)), some (.int (i : Nat)), some (.int c), some (.int (0 + (j : Nat)))]; rw [Int.natCast_succ]; rfl, e4.trans e5, rfl⟩
        | true =>
          refine iteF ?_
          have hL5 := e5 _ _ hL4
          have hT5 := hT4.stay (.of e5)
          refine ⟨.ref L, rfl, .inl ⟨rfl, _, .of hL5⟩, .int (t : Nat), rfl, .int (i : Nat), rfl, by show 2 ≤ sizeLine; omega, fun a na => ?_⟩
          have ea := same_new (o := .tup [V.int (t : Nat), .int (i : Nat)]) na
          have ha : (upd H5 a (.tup [V.int (t : Nat), .int (i : Nat)])) a = some (.tup [V.int (t : Nat), .int (i : Nat)]) := upd_same
          have hL6 := ea _ _ hL5
          have hT6 := hT5.stay (.of ea)
          have e36 := (e4.trans e5).trans ea
          generalize upd H5 a (.tup [V.int (t : Nat), .int (i : Nat)]) = H6 at ea ha hL6 hT6 e36 ⊢
          have st : St K H6 (upd H6 L (.lst (acc ++ [V.ref a]))) := .but .upd hL6
          have nLH : H L = none := nL
          refine ⟨L, acc, .ref a, rfl, rfl, hL6, by omega, .int (t : Nat), rfl, _, _, rfl, rfl, ?_⟩
          have hend : endT (p ++ [(((t : Nat) : Int), ((i : Nat) : Int))]) = t + 1 := by
            rw [endT_snoc]; show (((t : Nat) : Int) + 1).toNat = t + 1; omega
          refine ⟨_, p ++ [(((t : Nat) : Int), ((i : Nat) : Int))], acc ++ [.ref a], by rw [hend, Int.natCast_succ]; rfl, fun b o z => ?_, upd_same, ?_, ?_, ?_, ?_, hnr.snoc t3⟩
          · rw [upd_ne (ne_of_none z nLH)]; exact e36 _ _ (e3 _ _ z)
          · show TpAll K _ _ ((p ++ [(((t : Nat) : Int), ((i : Nat) : Int))]).map plD)
            rw [List.map_append]
            exact (hT6.stay st).add (.on ((Tp.ofInts (ns := [((t : Nat) : Int), ((i : Nat) : Int)]) (.of ha)).stay st) .no)
          · refine VPl.snoc.mpr ⟨hv, ⟨by show (0 : Int) ≤ (t : Nat); omega, by show (0 : Int) ≤ (i : Nat); omega, by show ((i : Nat) : Int) < (ws.length : Nat); omega⟩, fun x hx => ⟨by have := hv.lt x hx; show x.1 < ((t : Nat) : Int); omega, freeL_iff.mp hf x hx⟩⟩
          · rw [List.map_append, hk, List.append_assoc, List.replicate_succ']; rfl
          · rw [hend, List.length_append]
            show t + 1 ≤ (p.length + 1) * (R + 1)
            rw [Nat.succ_mul]; omega
      · rintro σ H3 ⟨v6, p, acc, rfl, e3, hL3, hT3, hv, hk, he, hnr⟩
        exact ⟨_, _, _, p, acc, rfl, e3, hL3, hT3, hv, by rw [ksUp_succ, hgd]; exact hk, he, hnr⟩
    · obtain ⟨v4, v5, v6, p, acc, rfl, e1, hL1, hT1, hv, hk, he, hnr⟩ := h
      rw [lcs] at hk
      have pne : p ≠ [] := fun z => by
        rw [z] at hk
        exact ksUp_ne h0 s1 hk.symm
      obtain ⟨c, hcl, y, hc⟩ := plan_last hT1 pne fun x hx => (hv.nn x hx).1
      have lp : p.length ≤ 12 := by
        have h1 := congrArg List.length hk
        rw [List.length_map] at h1
        have := ksUp_len cs h0 cs.length
        omega
      have he2 : p.length * (R + 1) ≤ 12 * 9 := Nat.mul_le_mul lp (by omega)
      exact ⟨.ref L, rfl, 1, rfl, L, acc, -1, .ref c, rfl, rfl, .of hL1, hcl, c, _, 0, .int (lastT p), rfl, rfl, hc, atI0, q H' p e1 hv hk (by omega) hnr⟩
end
end Sg
set_option Elab.async false
set_option linter.all false
set_option maxRecDepth 100000
set_option maxHeartbeats 4000000
namespace Sg
open PySem PySem.Spec PyProof.Rows L2 StX
/-! ## the law's plans of counts -/
def ticksC (R E : Nat) (p : List Plc) : Nat := min (endT p + R + 1) E - endT p
def kindC (ws : List (List Int)) (R E : Nat) (p : List Plc) (k : Nat) : List (List Plc) := ((List.range (ticksC R E p)).filter fun i => freeL ws p (((endT p + i : Nat) : Int), ((k : Nat) : Int))).map fun i => p ++ [(((endT p + i : Nat) : Int), ((k : Nat) : Int))]
def oneC (ws : List (List Int)) (R E : Nat) (cs : List Int) (p : List Plc) (k : Nat) : List (List Plc) := if (((p.map (·.2)).count ((k : Nat) : Int) : Nat) : Int) < cs.getD k 0 then kindC ws R E p k else []
def moreC (ws : List (List Int)) (R E : Nat) (cs : List Int) (p : List Plc) : List (List Plc) := (List.range cs.length).flatMap (oneC ws R E cs p)
theorem moreC_mem {ws : List (List Int)} {R E : Nat} {cs : List Int} {p q : List Plc} : q ∈ moreC ws R E cs p ↔ ∃ k i : Nat, k < cs.length ∧ (((p.map (·.2)).count ((k : Nat) : Int) : Nat) : Int) < cs.getD k 0 ∧ i < R + 1 ∧ endT p + i < E ∧ freeL ws p (((endT p + i : Nat) : Int), ((k : Nat) : Int)) = true ∧ q = p ++ [(((endT p + i : Nat) : Int), ((k : Nat) : Int))] := by
  unfold moreC
  rw [List.mem_flatMap]
  constructor
  · rintro ⟨k, hk, h⟩
    unfold oneC at h
    split at h
    · rename_i hc
      obtain ⟨i, hi, rfl⟩ := List.mem_map.mp h
      obtain ⟨h1, h2⟩ := List.mem_filter.mp hi
      have h1 := List.mem_range.mp h1
      unfold ticksC at h1
      exact ⟨k, i, List.mem_range.mp hk, hc, by omega, by omega, h2, rfl⟩
    · exact nomatch h
  · rintro ⟨k, i, hk, hc, h1, h2, h3, rfl⟩
    refine ⟨k, List.mem_range.mpr hk, ?_⟩
    unfold oneC
    rw [if_pos hc]
    exact List.mem_map.mpr ⟨i, List.mem_filter.mpr ⟨List.mem_range.mpr (by unfold ticksC; omega), h3⟩, rfl⟩
theorem kindC_len (ws : List (List Int)) (R E : Nat) (p : List Plc) (k : Nat) : (kindC ws R E p k).length ≤ R + 1 := by
  unfold kindC
  rw [List.length_map]
  refine Nat.le_trans (List.length_filter_le _ _) ?_
  rw [List.length_range]
  unfold ticksC
  omega
theorem oneC_len (ws : List (List Int)) (R E : Nat) (cs : List Int) (p : List Plc) (k : Nat) : (oneC ws R E cs p k).length ≤ R + 1 := by
  unfold oneC
  split
  · exact kindC_len ws R E p k
  · exact Nat.zero_le _
theorem onesC_len (ws : List (List Int)) (R E : Nat) (cs : List Int) (p : List Plc) : ∀ ks : List Nat, (ks.flatMap (oneC ws R E cs p)).length ≤ ks.length * (R + 1)
  | [] => Nat.zero_le _
  | k :: ks => by
    rw [List.flatMap_cons, List.length_append, List.length_cons, Nat.succ_mul]
    have := oneC_len ws R E cs p k
    have := onesC_len ws R E cs p ks
    omega
theorem moreC_len (ws : List (List Int)) (R E : Nat) (cs : List Int) (p : List Plc) : (moreC ws R E cs p).length ≤ cs.length * (R + 1) := by
  have := onesC_len ws R E cs p (List.range cs.length)
  rw [List.length_range] at this
  exact this
section
variable {P : Program} {w : World} {K : PySem.W.Frag} {mg : Str → Option Value} {base : Heap}
/-! ### _law_longer -/
abbrev longN : List Str := ["_law_spans", "_law_plan", "_law_amounts", "_law_reach_here", "_law_most", "_law_begin", "_law_found", "_law_kinds", "_law_start", "_law_one", "_law_kind", "_law_tick"]
def spLonger (K : PySem.W.Frag) : Sp := fun vs H Q _ => ∃ (g pn am : Addr) (ws : List (List Int)) (cs : List Int) (R E : Nat) (p : List Plc), vs = [.ref g, .ref pn, .ref am, .int (R : Nat), .int (((E : Nat) : Int) - 1)] ∧ SpansAt H g ws ∧ Tp K H (.ref pn) (planP p) ∧ SqT K H am (cs.map V.int) ∧ cs.length = ws.length ∧ ws.length ≤ 3 ∧ R ≤ 8 ∧ E ≤ 1000 ∧ VPl ws p ∧ p ≠ [] ∧ p.length ≤ 60 ∧ endT p ≤ 1000 ∧
  ∀ H' l acc, Same H H' → H l = none → H' l = some (.lst acc) → TpAll K H' acc ((moreC ws R E cs p).map planP) → Q (.ref l) H'
theorem ok_l_longer {f f1 : Addr} {fd fd1 : FuncData} {k : Nat} (F : Fun K "_law_longer" "_law_longer" s_l_longer f fd)
    (G1 : FnOk P w K mg base CX0 k f1 fd1 ["_law_spans", "_law_plan", "_law_tick", "_law_kind"] (spFree K)) (kp1 : PySem.W.keepIn K (.ref f1) = true) (b1 : Binds K fd1 ["_law_spans", "_law_plan", "_law_tick", "_law_kind"] []) (g1 : mg "_law_is_free" = some (.ref f1))
    (m1 : mg "range" = none) (m2 : mg "min" = none) (m3 : mg "len" = none) : FnOk P w K mg base CX0 (k + 1) f fd ["_law_spans", "_law_plan", "_law_amounts", "_law_reach_here", "_law_most"] (spLonger K) := by
  refine F.ok sc_l_longer (fun vs H Q E h => ?_) (fun cdv A outer s H vs Q E hr h => ?_)
  · obtain ⟨g, pn, am, ws, cs, R, E, p, rfl, _⟩ := h; rfl
  · obtain ⟨g, pn, am, ws, cs, R, En, p, rfl, hS, hP, hA, hl, few, R8, E1, hv, pne, lp, ep, q⟩ := h
    refine ⟨_, pss_cons (ps_par (i := 5) (j := 6) (by rfl) sc_l_longer.nd rfl rfl (by decide) rfl rfl (pa_cons (pe_op op_add (pe_ix ix_tup (pe_ix ix_tup (pv 1) (pe_un un_neg pe_int) (fun _ _ => rfl)) pe_int (fun _ _ => rfl)) pe_int) (pa_cons (pe_lst pa_nil) pa_nil)) (by rfl))
      (pss_cons (ps_setLc (i := 7) (own := [("_law_start", 8), ("_law_one", 9)]) (g := gTup K 2 (gCons (gName 8) (gCons (gName 9) gNil))) (tt := tYes) rfl sc_l_longer.nd rfl rfl (sw_true rfl rfl rfl (by decide +kernel)) (pi_tup (pv 1)) (blkOk_by (N := longN) (sc := defScope s_l_longer) (by decide +kernel))
          (fun _ _ _ _ _ => pg_tup rfl (pgs_cons (pg_name (i := 8) sc_l_longer.nd rfl (Or.inl rfl)) (pgs_cons (pg_name (i := 9) sc_l_longer.nd rfl (Or.inl rfl)) pgs_nil))) (fun _ _ _ _ _ => pts_nil) (fun _ _ _ _ _ => pv 9))
      (pss_cons (ps_for PassesOwn.never rfl (pi_range1 (by rfl) m1 (pa_cons (pe_callB call_len_seq (by rfl) m3 PySem.boot_len (pa_cons (pv 2) pa_nil)) pa_nil)) (pg_name (i := 10) sc_l_longer.nd rfl (.inl rfl))
        (pss_one (ps_if (pt_cmpR op_lt (pe_bm PySem.F.plainAttrs_list PySem.F.slot_list_count PySem.F.type_list_count mt_lcount (pv 7) (pa_cons (pv 10) pa_nil)) (pe_ix ix_tup (pv 2) (pv 10) (fun _ _ => rfl)) (nomark _))
          (pss_one (ps_for PassesOwn.never rfl (pi_range2 (by rfl) m1 (pa_cons (pv 5) (pa_cons (pe_op op_add (pe_callB (call_min2 rfl) (by rfl) m2 (by decide +kernel) (pa_cons (pe_op op_add (pv 5) (pv 3)) (pa_cons (pv 4) pa_nil))) pe_int) pa_nil))) (pg_name (i := 11) sc_l_longer.nd rfl (.inl rfl))
            (pss_one (ps_if (pt_val (pe_call G1 hr (by rfl) g1 kp1 b1 .nil pass0 (pa_cons (pv 0) (pa_cons (pv 1) (pa_cons (pv 11) (pa_cons (pv 10) pa_nil))))))
              (pss_one (ps_expr (pe_bm PySem.F.plainAttrs_list PySem.F.slot_list_append PySem.F.type_list_append mt_append (pv 6) (pa_cons (pe_op op_catT (pv 1) (pe_tup (pa_cons (pe_tup (pa_cons (pv 11) (pa_cons (pv 10) pa_nil))) pa_nil))) pa_nil)))) pss_nil)))) pss_nil)))
      (pss_one (ps_ret (pv 6))))), ?_⟩
    have big : 1000 ≤ sizeLine := by rw [sizeLine_eq]; decide
    obtain ⟨_, us, e, hU, hT⟩ := hP.toTup
    cases e
    obtain ⟨cl, hcl, yl, hSl⟩ := plan_last hT pne fun x hx => (hv.nn x hx).1
    have lus : us.length = p.length := by rw [hT.len]; exact List.length_map _
    have usne : us ≠ [] := fun z => by
      rw [z] at lus
      exact pne (List.eq_nil_of_length_eq_zero lus.symm)
    have elast : lastT p + 1 = ((endT p : Nat) : Int) := by unfold lastT; omega
    refine ⟨.ref pn, rfl, 1, rfl, pn, us, -1, .ref cl, rfl, rfl, hU, hcl, cl, _, 0, .int (lastT p), rfl, rfl, hSl, atI0, _, _, rfl, rfl, Nat.zero_le _, fun L nL => ⟨_, _, rfl, ?_⟩⟩
    dsimp only
    rw [elast]
    have e0 := same_new (o := .lst ([] : List V)) nL
    have hL0 : (upd H L (.lst ([] : List V))) L = some (.lst []) := upd_same
    generalize upd H L (.lst ([] : List V)) = H0 at e0 hL0 ⊢
    refine ⟨.ref pn, rfl, pn, rfl, ⟨_, Same.tup e0 hU⟩, fun D nD => ?_⟩
    have nLD : L ≠ D := ne_of_none hL0 nD
    have nDH : H D = none := freeS e0 nD
    refine lc_tup (xs := us) (fun i H' => Same H H' ∧ H' L = some (.lst []) ∧ H' D = some (.lst ((p.take i).map fun x => V.int x.2))) ⟨e0.trans (same_new nD), same_new nD _ _ hL0, upd_same⟩ (fun i H' _ h => Same.tup h.1 hU) (fun i y H' hy h => ?_) (fun H1 h => ?_)
    · obtain ⟨e1, hL1, hD1⟩ := h
      obtain ⟨c, x, hx, rfl, hc⟩ := plan_at hT hy
      refine ⟨c, _, rfl, Same.tup e1 hc, rfl, _, _, rfl, _, _, rfl, rfl, rfl, .int x.2, rfl, _, hD1, ?_, fun b o z => ?_, ?_, ?_⟩
      · rw [List.length_map, List.length_take]; omega
      · rw [upd_ne (ne_of_none z nDH)]; exact e1 _ _ z
      · rw [upd_ne nLD]; exact hL1
      · rw [upd_same, List.take_add_one, hx, List.map_append]; rfl
    obtain ⟨e1, hL1, hD1⟩ := h
    rw [lus, List.take_length] at hD1
    have eD : p.map (fun x => V.int x.2) = (p.map (·.2)).map V.int := by rw [List.map_map]; rfl
    rw [eD] at hD1
    have lcs : (cs.map V.int).length = cs.length := List.length_map _
    refine ⟨.ref am, rfl, am, _, rfl, .inr (Same.tup e1 hA), _, rfl, by rw [lcs]; omega, by rw [lcs]; omega, ?_⟩
    refine for_range (lo := 0) (n := (((cs.map V.int).length : Nat) : Int).toNat) (fun i σ H' => ∃ v10 v11 acc v8 v9, σ = [some (.ref g), some (.ref pn), some (.ref am), some (.int (R : Nat)), some (.int (((En : Nat) : Int) - 1)), some (.int ((endT p : Nat) : Int)), some (.ref L), some (.ref D), v8, v9, v10, v11] ∧ Same H H' ∧ H' L = some (.lst acc) ∧ H' D = some (.lst ((p.map (·.2)).map V.int)) ∧ TpAll K H' acc (((List.range i).flatMap (oneC ws R En cs p)).map planP))
      ⟨_, _, [], _, _, rfl, e1, hL1, hD1, .no⟩ ?_ ?_
    · rintro i σ H2 hi ⟨v10, v11, acc, v8, v9, rfl, e2, hL2, hD2, hT2⟩
      rw [lcs, Int.toNat_natCast] at hi
      have hci : cs[i]? = some cs[i] := List.getElem?_eq_getElem hi
      have hgd : cs.getD i 0 = cs[i] := by rw [List.getD_eq_getElem?_getD, hci]; rfl
      have hcv : (cs.map V.int)[i]? = some (.int cs[i]) := by rw [List.getElem?_map, hci]; rfl
      have hsucc : (List.range (i + 1)).flatMap (oneC ws R En cs p) = (List.range i).flatMap (oneC ws R En cs p) ++ oneC ws R En cs p i := by
        rw [List.range_succ, List.flatMap_append]
        show _ ++ (_ ++ []) = _
        rw [List.append_nil]
      have l2 := hT2.len
      rw [List.length_map] at l2
      have l3 := onesC_len ws R En cs p (List.range i)
      rw [List.length_range] at l3
      have l4 : i * (R + 1) ≤ 3 * 9 := Nat.mul_le_mul (by omega) (by omega)
      refine ⟨.ref D, rfl, .inl ⟨rfl, _, .of hD2⟩, .int (0 + (i : Nat)), rfl, D, p.map (·.2), 0 + (i : Nat), rfl, rfl, .of hD2, .ref am, rfl, .int (0 + (i : Nat)), rfl, am, _, 0 + (i : Nat), .int cs[i], rfl, rfl, Same.tup e2 hA, by rw [Int.zero_add]; exact atI_nat hcv, _, _, rfl, rfl, _, rfl, ?_⟩
      rw [Int.zero_add, hsucc]
      unfold oneC
      rw [hgd]
      by_cases hc : (((p.map (·.2)).count ((i : Nat) : Int) : Nat) : Int) < cs[i]
      · rw [decide_eq_true hc, if_pos hc]
        refine iteT ⟨.int ((endT p : Nat) : Int), rfl, .int ((endT p : Nat) : Int), rfl, .int (R : Nat), rfl, _, _, rfl, rfl, .int (((En : Nat) : Int) - 1), rfl, _, _, rfl, _, _, rfl, rfl, _, _, rfl, ?_, ?_⟩
        · split <;> omega
        have ecnt : ((if (((En : Nat) : Int) - 1) < ((endT p : Nat) : Int) + (R : Nat) then (((En : Nat) : Int) - 1) else ((endT p : Nat) : Int) + (R : Nat)) + 1 - ((endT p : Nat) : Int)).toNat = ticksC R En p := by
          unfold ticksC
          split <;> omega
        rw [ecnt]
        have tR : ticksC R En p ≤ 9 := by unfold ticksC; omega
        refine for_range (lo := ((endT p : Nat) : Int)) (n := ticksC R En p) (fun m σ H' => ∃ v11 acc v8 v9, σ = [some (.ref g), some (.ref pn), some (.ref am), some (.int (R : Nat)), some (.int (((En : Nat) : Int) - 1)), some (.int ((endT p : Nat) : Int)), some (.ref L), some (.ref D), v8, v9, some (.int (i : Nat)), v11] ∧ Same H H' ∧ H' L = some (.lst acc) ∧ H' D = some (.lst ((p.map (·.2)).map V.int)) ∧
            TpAll K H' acc ((((List.range i).flatMap (oneC ws R En cs p)) ++ ((List.range m).filter fun i' => freeL ws p (((endT p + i' : Nat) : Int), ((i : Nat) : Int))).map fun i' => p ++ [(((endT p + i' : Nat) : Int), ((i : Nat) : Int))]).map planP))
          ⟨_, acc, _, _, rfl, e2, hL2, hD2, by rw [show (List.range 0).filter _ = ([] : List Nat) from rfl, List.map_nil, List.append_nil]; exact hT2⟩ ?_ ?_
        · rintro m σ H9 hm ⟨v11, acc3, v8, v9, rfl, e9, hL9, hD9, hT93⟩
          have htp9 := hP.stay (.of e9)
          have et : ((endT p : Nat) : Int) + (m : Nat) = ((endT p + m : Nat) : Int) := by omega
          have l5 := hT93.len
          have lb : ((((List.range i).flatMap (oneC ws R En cs p)) ++ ((List.range m).filter fun i' => freeL ws p (((endT p + i' : Nat) : Int), ((i : Nat) : Int))).map fun i' => p ++ [(((endT p + i' : Nat) : Int), ((i : Nat) : Int))]).map planP).length ≤ 100 := by
            rw [List.length_map, List.length_append, List.length_map]
            have h2 := List.length_filter_le (fun i' => freeL ws p (((endT p + i' : Nat) : Int), ((i : Nat) : Int))) (List.range m)
            rw [List.length_range] at h2
            omega
          have esucc : ((List.range (m + 1)).filter fun i' => freeL ws p (((endT p + i' : Nat) : Int), ((i : Nat) : Int))).map (fun i' => p ++ [(((endT p + i' : Nat) : Int), ((i : Nat) : Int))]) = (((List.range m).filter fun i' => freeL ws p (((endT p + i' : Nat) : Int), ((i : Nat) : Int))).map fun i' => p ++ [(((endT p + i' : Nat) : Int), ((i : Nat) : Int))]) ++ if freeL ws p (((endT p + m : Nat) : Int), ((i : Nat) : Int)) = true then [p ++ [(((endT p + m : Nat) : Int), ((i : Nat) : Int))]] else [] := by
            rw [List.range_succ, List.filter_append, List.map_append]
            congr 1
            rw [List.filter_cons]
            split <;> rfl
          refine ⟨.ref g, rfl, .ref pn, rfl, .int (((endT p : Nat) : Int) + (m : Nat)), rfl, .int (i : Nat), rfl, g, pn, ws, p, _, (i : Nat), rfl, hS.same e9, htp9, fun x hx => ⟨by have := hv.lt x hx; omega, (hv.nn x hx).2⟩, by omega, by omega, fun x hx => by have := (hv.nn x hx).1; omega, by omega, fun H10 e10 => ⟨_, rfl, ?_⟩⟩
          rw [et, esucc]
          have hL10 := e10 _ _ hL9
          have hD10 := e10 _ _ hD9
          have hT103 := hT93.stay (.of e10)
          have e90 := e9.trans e10
          cases hf : freeL ws p (((endT p + m : Nat) : Int), ((i : Nat) : Int)) with
          | false =>
            refine iteF ⟨_, acc3, _, _, rfl, e90, hL10, hD10, ?_⟩
            rw [if_neg (by decide), List.append_nil]
            exact hT103
          | true =>
            rw [if_pos rfl]
            refine iteT ⟨.ref L, rfl, .inl ⟨rfl, _, .of hL10⟩, .ref pn, rfl, .int ((endT p + m : Nat) : Int), rfl, .int (i : Nat), rfl, by show 2 ≤ sizeLine; omega, fun a na => ⟨by show 1 ≤ sizeLine; omega, fun b nb => ?_⟩⟩
            have ea := same_new (o := .tup [V.int ((endT p + m : Nat) : Int), .int (i : Nat)]) na
            have ha : (upd H10 a (.tup [V.int ((endT p + m : Nat) : Int), .int (i : Nat)])) a = some (.tup [V.int ((endT p + m : Nat) : Int), .int (i : Nat)]) := upd_same
            generalize upd H10 a (.tup [V.int ((endT p + m : Nat) : Int), .int (i : Nat)]) = H11 at ea ha nb ⊢
            have eb := same_new (o := .tup [V.ref a]) nb
            have hb : (upd H11 b (.tup [V.ref a])) b = some (.tup [V.ref a]) := upd_same
            have ha2 := eb _ _ ha
            have e12 := ea.trans eb
            generalize upd H11 b (.tup [V.ref a]) = H12 at eb hb ha2 e12 ⊢
            refine ⟨pn, b, us, [V.ref a], rfl, rfl, Same.tup (e90.trans e12) hU, .of hb, usne, by show us.length + 1 ≤ sizeLine; omega, (fun z => nomatch z), fun _ np nnp => ?_⟩
            have ep := same_new (o := .tup (us ++ [V.ref a])) nnp
            have hp2 : (upd H12 np (.tup (us ++ [V.ref a]))) np = some (.tup (us ++ [V.ref a])) := upd_same
            have ha3 := ep _ _ ha2
            have e13 := (e90.trans e12).trans ep
            have e103 := e12.trans ep
            generalize upd H12 np (.tup (us ++ [V.ref a])) = H13 at ep hp2 ha3 e13 e103 ⊢
            have hL13 := e103 _ _ hL10
            have hnew : Tp K H13 (.ref np) (planP (p ++ [(((endT p + m : Nat) : Int), ((i : Nat) : Int))])) := by
              refine .tu (.of hp2) ?_
              show TpAll K H13 _ ((p ++ [(((endT p + m : Nat) : Int), ((i : Nat) : Int))]).map plD)
              rw [List.map_append]
              exact (hT.stay (.of e13)).add (.on (Tp.ofInts (ns := [((endT p + m : Nat) : Int), ((i : Nat) : Int)]) (.of ha3)) .no)
            have st : St K H13 (upd H13 L (.lst (acc3 ++ [V.ref np]))) := .but .upd hL13
            refine ⟨L, acc3, .ref np, rfl, rfl, hL13, by omega, _, acc3 ++ [.ref np], _, _, rfl, fun x o z => ?_, upd_same, by rw [upd_ne nLD.symm]; exact e103 _ _ hD10, ?_⟩
            · rw [upd_ne (ne_of_none z nL)]; exact e103 _ _ (e90 _ _ z)
            · rw [← List.append_assoc, List.map_append]
              exact ((hT103.stay (.of e103)).stay st).add (.on (hnew.stay st) .no)
        · rintro σ H9 ⟨v11, acc3, v8, v9, rfl, e9, hL9, hD9, hT93⟩
          exact ⟨_, _, acc3, _, _, rfl, e9, hL9, hD9, hT93⟩
      · rw [decide_eq_false hc, if_neg hc, List.append_nil]
        exact iteF ⟨_, _, acc, _, _, rfl, e2, hL2, hD2, hT2⟩
    · rintro σ H2 ⟨v10, v11, acc, v8, v9, rfl, e2, hL2, hD2, hT2⟩
      rw [lcs, Int.toNat_natCast] at hT2
      exact ⟨.ref L, rfl, q H2 L acc e2 nL hL2 hT2⟩
end
end Sg
set_option Elab.async false
set_option linter.all false
set_option maxRecDepth 100000
set_option maxHeartbeats 4000000
namespace Sg
open PySem PySem.Spec PyProof.Rows L2 StX
/-! ## counts and sums -/
def sumF (f : Nat → Int) : Nat → Int
  | 0 => 0
  | n + 1 => sumF f n + f n
theorem sumF_ext {f g : Nat → Int} : ∀ n, (∀ i, i < n → f i = g i) → sumF f n = sumF g n
  | 0, _ => rfl
  | n + 1, h => by
    show sumF f n + f n = sumF g n + g n
    rw [sumF_ext n fun i hi => h i (by omega), h n (Nat.lt_succ_self n)]
theorem sumF_le {f g : Nat → Int} : ∀ n, (∀ i, i < n → f i ≤ g i) → sumF f n ≤ sumF g n ∧ (sumF f n = sumF g n → ∀ i, i < n → f i = g i)
  | 0, _ => ⟨Int.le_refl _, fun _ i hi => absurd hi (Nat.not_lt_zero i)⟩
  | n + 1, h => by
    obtain ⟨a, b⟩ := sumF_le n fun i hi => h i (by omega)
    have c := h n (Nat.lt_succ_self n)
    show sumF f n + f n ≤ sumF g n + g n ∧ (sumF f n + f n = sumF g n + g n → _)
    refine ⟨by omega, fun e i hi => ?_⟩
    by_cases z : i = n
    · subst z; omega
    · exact b (by omega) i (by omega)
theorem sumF_get : ∀ (l : List Int), l.sum = sumF (fun i => l.getD i 0) l.length := by
  intro l
  have key : ∀ n, n ≤ l.length → (l.take n).sum = sumF (fun i => l.getD i 0) n := by
    intro n
    induction n with
    | zero => intro _; rfl
    | succ n ih =>
      intro hn
      rw [List.take_add_one, List.getElem?_eq_getElem (by omega), List.sum_append, ih (by omega)]
      show _ + [l[n]].sum = _ + l.getD n 0
      rw [List.getD_eq_getElem?_getD, List.getElem?_eq_getElem (by omega)]
      simp
  have := key l.length (Nat.le_refl _)
  rwa [List.take_length] at this
theorem sumF_ind (j : Nat) : ∀ n, sumF (fun i => if j = i then 1 else 0) n = if j < n then 1 else 0
  | 0 => rfl
  | n + 1 => by
    show sumF _ n + (if j = n then 1 else 0) = _
    rw [sumF_ind j n]
    by_cases h : j = n
    · subst h
      rw [if_neg (Nat.lt_irrefl _), if_pos rfl, if_pos (Nat.lt_succ_self _)]; rfl
    · rw [if_neg h]
      by_cases h2 : j < n
      · rw [if_pos h2, if_pos (by omega)]; rfl
      · rw [if_neg h2, if_neg (by omega)]; rfl
theorem sumF_add (f g : Nat → Int) : ∀ n, sumF (fun i => f i + g i) n = sumF f n + sumF g n
  | 0 => rfl
  | n + 1 => by
    show sumF _ n + (f n + g n) = sumF f n + f n + (sumF g n + g n)
    rw [sumF_add f g n]; omega
theorem sumF_count (n : Nat) : ∀ (ks : List Int), (∀ k ∈ ks, 0 ≤ k ∧ k < (n : Nat)) → sumF (fun i => (ks.count ((i : Nat) : Int) : Int)) n = (ks.length : Nat)
  | [], _ => by
    rw [sumF_ext (g := fun _ => 0) n fun i _ => by rw [List.count_nil]; rfl]
    have key : ∀ n, sumF (fun _ => 0) n = 0 := by
      intro n
      induction n with
      | zero => rfl
      | succ n ih => show sumF _ n + 0 = _; rw [ih]; rfl
    rw [key]; rfl
  | k :: ks, h => by
    obtain ⟨k0, k1⟩ := h k List.mem_cons_self
    have ek : k = ((k.toNat : Nat) : Int) := (Int.toNat_of_nonneg k0).symm
    rw [sumF_ext (g := fun i => (ks.count ((i : Nat) : Int) : Int) + if k.toNat = i then 1 else 0) n fun i _ => ?_, sumF_add, sumF_count n ks fun x hx => h x (List.mem_cons_of_mem _ hx), sumF_ind, if_pos (by omega), List.length_cons]
    · omega
    · rw [List.count_cons]
      by_cases e : k.toNat = i
      · rw [if_pos e, if_pos (by rw [← e, ← ek]; exact beq_self_eq_true k)]; rfl
      · have hb : ¬ ((k == ((i : Nat) : Int)) = true) := fun z => e (by have := eq_of_beq z; omega)
        rw [if_neg e, if_neg hb]; rfl
theorem meets_len {cs ks : List Int} (h : Meets cs ks) : ((ks.length : Nat) : Int) = cs.sum := by
  rw [sumF_get, ← sumF_count cs.length ks h.1]
  exact sumF_ext _ fun i hi => h.2 i hi
theorem meets_of {cs ks : List Int} (h1 : ∀ k ∈ ks, 0 ≤ k ∧ k < (cs.length : Nat)) (h2 : ∀ i, i < cs.length → (ks.count ((i : Nat) : Int) : Int) ≤ cs.getD i 0) (h3 : ((ks.length : Nat) : Int) = cs.sum) : Meets cs ks := by
  refine ⟨h1, fun i hi => (sumF_le cs.length (f := fun i => (ks.count ((i : Nat) : Int) : Int)) (g := fun i => cs.getD i 0) h2).2 ?_ i hi⟩
  rw [sumF_count cs.length ks h1, h3, sumF_get]
/-! ## the law's layers of plans -/
def layersC (ws : List (List Int)) (R E : Nat) (cs : List Int) : Nat → List (List Plc)
  | 0 => ((List.range cs.length).filter fun k => decide (cs.getD k 0 > 0)).map fun k => [((0 : Int), ((k : Nat) : Int))]
  | n + 1 => (layersC ws R E cs n).flatMap (moreC ws R E cs)
theorem moreC_all (ws : List (List Int)) (R E : Nat) (cs : List Int) : ∀ ps : List (List Plc), (ps.flatMap (moreC ws R E cs)).length ≤ ps.length * (cs.length * (R + 1))
  | [] => Nat.zero_le _
  | p :: ps => by
    rw [List.flatMap_cons, List.length_append, List.length_cons, Nat.succ_mul]
    have := moreC_len ws R E cs p
    have := moreC_all ws R E cs ps
    omega
theorem layersC_len (ws : List (List Int)) (R E : Nat) (cs : List Int) : ∀ n, (layersC ws R E cs n).length ≤ cs.length * (cs.length * (R + 1)) ^ n
  | 0 => by
    show (List.map _ _).length ≤ _
    rw [List.length_map, Nat.pow_zero, Nat.mul_one]
    exact Nat.le_trans (List.length_filter_le _ _) (by rw [List.length_range]; exact Nat.le_refl _)
  | n + 1 => by
    refine Nat.le_trans (moreC_all ws R E cs _) ?_
    rw [Nat.pow_succ, show cs.length * ((cs.length * (R + 1)) ^ n * (cs.length * (R + 1))) = cs.length * (cs.length * (R + 1)) ^ n * (cs.length * (R + 1)) from (Nat.mul_assoc _ _ _).symm]
    exact Nat.mul_le_mul_right _ (layersC_len ws R E cs n)
structure PartC (ws : List (List Int)) (E : Nat) (cs : List Int) (n : Nat) (p : List Plc) : Prop where
  v : VPl ws p
  len : p.length = n + 1
  few : ∀ i, i < cs.length → (((p.map (·.2)).count ((i : Nat) : Int) : Nat) : Int) ≤ cs.getD i 0
  top : endT p ≤ E
theorem layersC_ok {ws : List (List Int)} {R E : Nat} {cs : List Int} (hl : cs.length = ws.length) (h0 : ∀ i, i < cs.length → 0 ≤ cs.getD i 0) (hE : 1 ≤ E) : ∀ (n : Nat), ∀ p ∈ layersC ws R E cs n, PartC ws E cs n p
  | 0, p, hp => by
    obtain ⟨k, hk, rfl⟩ := List.mem_map.mp hp
    obtain ⟨h1, h2⟩ := List.mem_filter.mp hk
    have h1 := List.mem_range.mp h1
    have h2 := of_decide_eq_true h2
    refine ⟨VPl.snoc (p := []) |>.mpr ⟨.nil, ⟨Int.le_refl _, by show (0 : Int) ≤ (k : Nat); omega, by show ((k : Nat) : Int) < (ws.length : Nat); omega⟩, fun x hx => nomatch hx⟩, rfl, fun i hi => ?_, ?_⟩
    · show ((List.count ((i : Nat) : Int) [((k : Nat) : Int)] : Nat) : Int) ≤ _
      rw [List.count_cons, List.count_nil]
      by_cases e : k = i
      · subst e
        rw [if_pos (beq_self_eq_true _)]
        show (1 : Int) ≤ _
        omega
      · have hb : ¬ ((((k : Nat) : Int) == ((i : Nat) : Int)) = true) := fun z => e (by have := eq_of_beq z; omega)
        rw [if_neg hb]
        exact h0 i hi
    · show (0 + 1 : Int).toNat ≤ E
      exact hE
  | n + 1, p, hp => by
    obtain ⟨p0, hp0, hp⟩ := List.mem_flatMap.mp hp
    obtain ⟨a1, a2, a3, a4⟩ := layersC_ok hl h0 hE n p0 hp0
    obtain ⟨k, i, hk, hc, hi, hiE, hf, rfl⟩ := moreC_mem.mp hp
    refine ⟨VPl.snoc.mpr ⟨a1, ⟨by show (0 : Int) ≤ ((endT p0 + i : Nat) : Int); omega, by show (0 : Int) ≤ (k : Nat); omega, by show ((k : Nat) : Int) < (ws.length : Nat); omega⟩, fun x hx => ⟨by have := a1.lt x hx; show x.1 < ((endT p0 + i : Nat) : Int); omega, freeL_iff.mp hf x hx⟩⟩, by rw [List.length_append, a2]; rfl, fun j hj => ?_, ?_⟩
    · rw [List.map_append, List.count_append]
      have b := a3 j hj
      show (((p0.map (·.2)).count ((j : Nat) : Int) + List.count ((j : Nat) : Int) [((k : Nat) : Int)] : Nat) : Int) ≤ _
      rw [List.count_cons, List.count_nil]
      by_cases e : k = j
      · subst e
        rw [if_pos (beq_self_eq_true _)]
        omega
      · have hb : ¬ ((((k : Nat) : Int) == ((j : Nat) : Int)) = true) := fun z => e (by have := eq_of_beq z; omega)
        rw [if_neg hb]
        omega
    · rw [endT_snoc]
      show (((endT p0 + i : Nat) : Int) + 1).toNat ≤ E
      omega
theorem layersC_has {ws : List (List Int)} {R E : Nat} {cs : List Int} (hl : cs.length = ws.length) : ∀ (n : Nat) (p : List Plc), PartC ws E cs n p → (∀ a y b, p = a ++ y :: b → y.1 ≤ ((endT a : Nat) : Int) + (if a = [] then 0 else (R : Nat))) → p ∈ layersC ws R E cs n
  | 0, p, h, hn => by
    obtain ⟨y, rfl⟩ : ∃ y, p = [y] := by
      have := h.len
      cases p with
      | nil => exact nomatch this
      | cons y p => exact ⟨y, by rw [List.eq_nil_of_length_eq_zero (Nat.succ.inj this)]⟩
    have hy := hn [] y [] rfl
    rw [if_pos rfl] at hy
    have e0 : endT [] = 0 := rfl
    rw [e0] at hy
    have hv := h.v.nn y List.mem_cons_self
    have ey : y = ((0 : Int), ((y.2.toNat : Nat) : Int)) := Prod.ext (by show y.1 = 0; omega) (Int.toNat_of_nonneg hv.2.1).symm
    have hk : y.2.toNat < cs.length := by omega
    refine List.mem_map.mpr ⟨y.2.toNat, List.mem_filter.mpr ⟨List.mem_range.mpr hk, decide_eq_true ?_⟩, by rw [← ey]⟩
    have hf := h.few y.2.toNat hk
    have : ([y].map (·.2)).count ((y.2.toNat : Nat) : Int) = 1 := by
      show List.count _ [y.2] = 1
      rw [Int.toNat_of_nonneg hv.2.1, List.count_cons, List.count_nil, if_pos (beq_self_eq_true _)]
    rw [this] at hf
    show 0 < cs.getD y.2.toNat 0
    omega
  | n + 1, p, h, hn => by
    obtain ⟨p0, y, rfl⟩ : ∃ ks0 k, p = ks0 ++ [k] := by
      rcases List.eq_nil_or_concat p with e | ⟨b0, z, e⟩
      · have := h.len; rw [e] at this; exact nomatch this
      · exact ⟨b0, z, by rw [e, List.concat_eq_append]⟩
    obtain ⟨v, ⟨g1, g2, g3⟩, h3⟩ := VPl.snoc.mp h.v
    have l0 : p0.length = n + 1 := by have := h.len; rw [List.length_append] at this; exact Nat.succ.inj this
    have ne0 : p0 ≠ [] := fun z => by rw [z] at l0; exact nomatch l0
    have hy := hn p0 y [] rfl
    rw [if_neg ne0] at hy
    have et := h.top
    rw [endT_snoc] at et
    have hle : ((endT p0 : Nat) : Int) ≤ y.1 := by
      obtain ⟨q0, z, rfl⟩ : ∃ ks0 k, p0 = ks0 ++ [k] := by
        rcases List.eq_nil_or_concat p0 with e | ⟨b0, z, e⟩
        · exact absurd e ne0
        · exact ⟨b0, z, by rw [e, List.concat_eq_append]⟩
      rw [endT_snoc]
      have := (h3 z (List.mem_append.mpr (.inr (List.mem_singleton.mpr rfl)))).1
      have := (v.nn z (List.mem_append.mpr (.inr (List.mem_singleton.mpr rfl)))).1
      omega
    have cnt : ∀ i : Nat, (((p0 ++ [y]).map (·.2)).count ((i : Nat) : Int)) = (p0.map (·.2)).count ((i : Nat) : Int) + if y.2.toNat = i then 1 else 0 := fun i => by
      rw [List.map_append, List.count_append]
      congr 1
      show List.count _ [y.2] = _
      rw [List.count_cons, List.count_nil]
      by_cases e : y.2.toNat = i
      · rw [if_pos e, if_pos (by rw [← e, Int.toNat_of_nonneg g2]; exact beq_self_eq_true _)]
      · have hb : ¬ ((y.2 == ((i : Nat) : Int)) = true) := fun z => e (by have := eq_of_beq z; omega)
        rw [if_neg e, if_neg hb]
    have ih := layersC_has (R := R) (E := E) hl n p0 ⟨v, l0, fun i hi => by have := h.few i hi; rw [cnt i] at this; split at this <;> omega, by omega⟩ fun a z b e => hn a z (b ++ [y]) (by rw [e, List.append_assoc]; rfl)
    have hk : y.2.toNat < cs.length := by omega
    refine List.mem_flatMap.mpr ⟨p0, ih, moreC_mem.mpr ⟨y.2.toNat, (y.1 - (endT p0 : Nat)).toNat, hk, ?_, by omega, by omega, ?_, ?_⟩⟩
    · have := h.few _ hk
      rw [cnt, if_pos rfl] at this
      omega
    · rw [show (((endT p0 + (y.1 - (endT p0 : Nat)).toNat : Nat) : Int), ((y.2.toNat : Nat) : Int)) = y from Prod.ext (by show ((endT p0 + (y.1 - (endT p0 : Nat)).toNat : Nat) : Int) = y.1; omega) (Int.toNat_of_nonneg g2)]
      exact freeL_iff.mpr fun x hx => (h3 x hx).2
    · rw [show (((endT p0 + (y.1 - (endT p0 : Nat)).toNat : Nat) : Int), ((y.2.toNat : Nat) : Int)) = y from Prod.ext (by show ((endT p0 + (y.1 - (endT p0 : Nat)).toNat : Nat) : Int) = y.1; omega) (Int.toNat_of_nonneg g2)]
/-- the law's least plan is the program's -/
theorem law_bestC {ws : List (List Int)} {R E n : Nat} (hR : Rea ws R) {cs : List Int} (hl : cs.length = ws.length) (h0 : ∀ x ∈ cs, 0 ≤ x ∧ x ≤ 4) (hs : cs.sum = ((n + 1 : Nat) : Int)) {e : List Plc} (hev : VPl ws e) (hek : Meets cs (e.map (·.2))) (hE : endT e = E) (hE1 : 1 ≤ E)
    {p m : List Plc} (hb : BestW ws nxAny cs p) (hm : m ∈ layersC ws R E cs n) (hml : ∀ q ∈ layersC ws R E cs n, endT m ≤ endT q ∧ (endT q = endT m → lexP q m = false)) : m = p := by
  have h00 := getD_low h0
  obtain ⟨hv, hkp⟩ := (good_counts hl h00).mp hb.good
  have hpE : endT p ≤ E := by rw [← hE]; exact hb.soon e ((good_counts hl h00).mpr ⟨hev, hek⟩)
  have lp : p.length = n + 1 := by
    have := meets_len hkp
    rw [List.length_map, hs] at this
    omega
  have hp := layersC_has (R := R) hl n p ⟨hv, lp, fun i hi => by rw [hkp.2 i hi]; exact Int.le_refl _, hpE⟩ fun a y b e => hb.near hR e
  obtain ⟨m1, m2, m3, m4⟩ := layersC_ok hl h00 hE1 n m hm
  have gm : GoodO ws nxAny cs m := (good_counts hl h00).mpr ⟨m1, meets_of (fun k hk => by
    obtain ⟨x, hx, rfl⟩ := List.mem_map.mp hk
    rw [hl]; exact (m1.nn x hx).2) m3 (by rw [List.length_map, m2, hs])⟩
  obtain ⟨l1, l2⟩ := hml p hp
  have ee : endT m = endT p := Nat.le_antisymm l1 (hb.soon m gm)
  exact lexP_eq _ _ (hb.less m gm ee) (l2 ee.symm)
theorem layersC_ne {ws : List (List Int)} {R E n : Nat} (hR : Rea ws R) {cs : List Int} (hl : cs.length = ws.length) (h0 : ∀ x ∈ cs, 0 ≤ x ∧ x ≤ 4) (hs : cs.sum = ((n + 1 : Nat) : Int)) {e : List Plc} (hev : VPl ws e) (hek : Meets cs (e.map (·.2))) (hE : endT e = E)
    (hn : NearP R e) : layersC ws R E cs n ≠ [] := by
  have le : e.length = n + 1 := by
    have := meets_len hek
    rw [List.length_map, hs] at this
    omega
  have := layersC_has (R := R) hl n e ⟨hev, le, fun i hi => by rw [hek.2 i hi]; exact Int.le_refl _, by rw [hE]; exact Nat.le_refl _⟩ hn
  exact List.ne_nil_of_mem this
end Sg
set_option Elab.async false
set_option linter.all false
set_option maxRecDepth 100000
set_option maxHeartbeats 4000000
namespace Sg
open PySem PySem.Spec PyProof.Rows L2 StX
section
variable {P : Program} {w : World} {K : PySem.W.Frag} {mg : Str → Option Value} {base : Heap}
/-! ### _law_soonest -/
abbrev soonC : List Str := ["_law_spans", "_law_amounts", "_law_reach_here", "_law_most", "_law_plans", "_law_kind", "_law_turn", "_law_longer_here", "_law_plan"]
def spLSoon (K : PySem.W.Frag) : Sp := fun vs H Q _ => ∃ (g am : Addr) (ws : List (List Int)) (cs : List Int) (R n : Nat), vs = [.ref g, .ref am, .int (R : Nat)] ∧ SpansAt H g ws ∧ SqT K H am (cs.map V.int) ∧ cs.length = ws.length ∧ ws.length ≤ 3 ∧ (∀ x ∈ cs, 0 ≤ x ∧ x ≤ 4) ∧ cs.sum = ((n + 1 : Nat) : Int) ∧ n ≤ 20 ∧ R ≤ 8 ∧ Rea ws R ∧ (∀ i, i ≤ n → cs.length * (cs.length * (R + 1)) ^ i ≤ 100000) ∧
  ∀ H' r e m, Same H H' → VPl ws e → Meets cs (e.map (·.2)) → NearP R e → m ∈ layersC ws R (endT e) cs n → (∀ q ∈ layersC ws R (endT e) cs n, lpLt q m = false) → Tp K H' (.ref r) (planP m) → Q (.ref r) H'
theorem ok_l_soonest {f f1 f2 : Addr} {fd fd1 fd2 : FuncData} {k : Nat} (F : Fun K "_law_soonest" "_law_soonest" s_l_soonest f fd)
    (G1 : FnOk P w K mg base CX0 k f1 fd1 ["_law_spans", "_law_plan", "_law_amounts", "_law_reach_here", "_law_most"] (spLonger K)) (kp1 : PySem.W.keepIn K (.ref f1) = true) (b1 : Binds K fd1 ["_law_spans", "_law_plan", "_law_amounts", "_law_reach_here", "_law_most"] []) (g1 : mg "_law_longer" = some (.ref f1))
    (G2 : FnOk P w K mg base CX0 k f2 fd2 ["_law_spans", "_law_amounts"] (spEarlyLast K)) (kp2 : PySem.W.keepIn K (.ref f2) = true) (b2 : Binds K fd2 ["_law_spans", "_law_amounts"] []) (g2 : mg "_law_early_last" = some (.ref f2))
    (m1 : mg "range" = none) (m2 : mg "min" = none) (m3 : mg "len" = none) (m4 : mg "sum" = none) : FnOk P w K mg base CX0 (k + 1) f fd ["_law_spans", "_law_amounts", "_law_reach_here"] (spLSoon K) := by
  refine F.ok sc_l_soonest (fun vs H Q E h => ?_) (fun cdv A outer s H vs Q E hr h => ?_)
  · obtain ⟨g, am, ws, cs, R, n, rfl, _⟩ := h; rfl
  · obtain ⟨g, am, ws, cs, R, n, rfl, hS, hA, hl, few, h0, hs, n20, R8, hR, hB, q⟩ := h
    refine ⟨_, pss_cons (ps_set (i := 3) sc_l_soonest.nd rfl (.inl rfl) (pe_call G2 hr (by rfl) g2 kp2 b2 .nil pass0 (pa_cons (pv 0) (pa_cons (pv 1) pa_nil))))
      (pss_cons (ps_setLc (i := 4) (own := [("_law_kind", 5)]) (g := gName 5) (by rfl) sc_l_soonest.nd rfl rfl (sw_true rfl rfl rfl (by decide +kernel)) (pi_range1 (by rfl) m1 (pa_cons (pe_callB call_len_seq (by rfl) m3 PySem.boot_len (pa_cons (pv 1) pa_nil)) pa_nil)) (blkOk_by (N := soonC) (sc := defScope s_l_soonest) (by decide +kernel))
          (fun _ _ _ _ _ => pg_name (i := 5) sc_l_soonest.nd rfl (Or.inl rfl)) (fun _ _ _ _ _ => pts_one (pt_cmpR op_gt (pe_ix (ix_tupK (K := K) rfl) (pv 1) (pv 5) (fun _ _ => rfl)) pe_int (nomark _)))
          (fun _ _ _ _ _ => pe_tup (pa_cons (pe_tup (pa_cons pe_int (pa_cons (pv 5) pa_nil))) pa_nil)))
      (pss_cons (ps_for PassesOwn.never rfl (pi_range1 (by rfl) m1 (pa_cons (pe_op op_sub (pe_callB (cr_sumT rfl) (by rfl) m4 (by decide +kernel) (pa_cons (pv 1) pa_nil)) pe_int) pa_nil)) (pg_name (i := 6) sc_l_soonest.nd rfl (.inl rfl))
        (pss_cons (ps_set (i := 7) sc_l_soonest.nd rfl (.inl rfl) (pe_lst pa_nil))
        (pss_cons (ps_for PassesOwn.never rfl (pi_list (pv 4)) (pg_name (i := 8) sc_l_soonest.nd rfl (.inl rfl))
          (pss_one (ps_set (i := 7) sc_l_soonest.nd rfl (.inl rfl) (pe_op op_cat (pv 7) (pe_call G1 hr (by rfl) g1 kp1 b1 .nil pass0 (pa_cons (pv 0) (pa_cons (pv 8) (pa_cons (pv 1) (pa_cons (pv 2) (pa_cons (pv 3) pa_nil))))))))))
        (pss_one (ps_set (i := 4) sc_l_soonest.nd rfl (.inl rfl) (pv 7))))))
      (pss_one (ps_ret (pe_ix ix_tup (pe_callB (cr_minL rfl hr) (by rfl) m2 (by decide +kernel) (pa_cons
        (pe_lc (own := [("_law_plan", 8)]) (g := gName 8) (tt := tYes) rfl sc_l_soonest.nd (pi_list (pv 4)) (blkOk_by (N := soonC) (sc := defScope s_l_soonest) (by decide +kernel))
          (fun _ _ _ _ _ => pg_name (i := 8) sc_l_soonest.nd rfl (Or.inl rfl)) (fun _ _ _ _ _ => pts_nil)
          (fun _ _ _ _ _ => pe_tup (pa_cons (pe_ix (ix_tupK (K := K) rfl) (pe_ix (ix_tupK (K := K) rfl) (pv 8) (pe_un un_neg pe_int) (fun _ _ => rfl)) pe_int (fun _ _ => rfl)) (pa_cons (pv 8) pa_nil)))) pa_nil)) pe_int (fun _ _ => rfl)))))), ?_⟩
    have big : 1000000 ≤ sizeLine := by rw [sizeLine_eq]; decide
    have lcs : (cs.map V.int).length = cs.length := List.length_map _
    have h00 := getD_low h0
    refine ⟨.ref g, rfl, .ref am, rfl, g, am, ws, cs, R, rfl, hS, hA, hl, few, h0, by omega, R8, hR, fun H1 e e1 hev hke he200 hnr => ?_⟩
    have hek : Meets cs (e.map (·.2)) := by rw [hke]; exact ksUp_meets h0
    have ene : e ≠ [] := fun z => by
      have := meets_len hek
      rw [z, hs] at this
      exact absurd this (by show ¬ ((0 : Nat) : Int) = _; omega)
    have hE1 : 1 ≤ endT e := by
      obtain ⟨x, hx⟩ := List.exists_mem_of_ne_nil _ ene
      have := hev.lt x hx
      have := (hev.nn x hx).1
      omega
    have okL := fun n => layersC_ok (R := R) (E := endT e) hl h00 hE1 n
    have lenL := fun n => layersC_len ws R (endT e) cs n
    -- the first plans
    refine ⟨.ref am, rfl, am, _, rfl, .inr (Same.tup e1 hA), _, rfl, by rw [lcs]; omega, by rw [lcs]; omega, fun D nD => ?_⟩
    have nDH : H D = none := freeS e1 nD
    refine lc_range (lo := 0) (n := (((cs.map V.int).length : Nat) : Int).toNat) (fun i H' => Same H H' ∧ ∃ acc, H' D = some (.lst acc) ∧ TpAll K H' acc ((((List.range i).filter fun k => decide (cs.getD k 0 > 0)).map fun k => [((0 : Int), ((k : Nat) : Int))]).map planP)) ⟨e1.trans (same_new nD), [], upd_same, .no⟩ (fun i H' hi h => ?_) (fun H2 h => ?_)
    · obtain ⟨e2, acc, hD2, hT2⟩ := h
      rw [lcs, Int.toNat_natCast] at hi
      have hci : cs[i]? = some cs[i] := List.getElem?_eq_getElem hi
      have hgd : cs.getD i 0 = cs[i] := by rw [List.getD_eq_getElem?_getD, hci]; rfl
      have hcv : (cs.map V.int)[i]? = some (.int cs[i]) := by rw [List.getElem?_map, hci]; rfl
      have hsucc : ((List.range (i + 1)).filter fun k => decide (cs.getD k 0 > 0)).map (fun k => [((0 : Int), ((k : Nat) : Int))]) = (((List.range i).filter fun k => decide (cs.getD k 0 > 0)).map fun k => [((0 : Int), ((k : Nat) : Int))]) ++ if cs[i] > 0 then [[((0 : Int), ((i : Nat) : Int))]] else [] := by
        rw [List.range_succ, List.filter_append, List.map_append]
        congr 1
        rw [List.filter_cons, hgd]
        by_cases z : cs[i] > 0
        · rw [if_pos (decide_eq_true z), if_pos z]; rfl
        · rw [if_neg (by rw [decide_eq_false z]; decide), if_neg z]; rfl
      refine ⟨rfl, .ref am, rfl, .int (0 + (i : Nat)), rfl, am, _, 0 + (i : Nat), .int cs[i], rfl, rfl, Same.tup e2 hA, by rw [Int.zero_add]; exact atI_nat hcv, _, _, rfl, rfl, _, rfl, ?_⟩
      rw [hsucc]
      have lacc := hT2.len
      rw [List.length_map, List.length_map] at lacc
      have lf := List.length_filter_le (fun k => decide (cs.getD k 0 > 0)) (List.range i)
      rw [List.length_range] at lf
      by_cases hc : cs[i] > 0
      · rw [decide_eq_true hc, if_pos hc]
        refine iteT ⟨.int (0 + (i : Nat)), rfl, by show 2 ≤ sizeLine; omega, fun a na => ⟨by show 1 ≤ sizeLine; omega, fun b nb => ?_⟩⟩
        rw [Int.zero_add] at nb ⊢
        have ea := same_new (o := .tup [V.int 0, .int (i : Nat)]) na
        have ha : (upd H' a (.tup [V.int 0, .int (i : Nat)])) a = some (.tup [V.int 0, .int (i : Nat)]) := upd_same
        generalize upd H' a (.tup [V.int 0, .int (i : Nat)]) = H3 at ea ha nb ⊢
        have eb := same_new (o := .tup [V.ref a]) nb
        have hb : (upd H3 b (.tup [V.ref a])) b = some (.tup [V.ref a]) := upd_same
        have ha2 := eb _ _ ha
        have e24 := ea.trans eb
        generalize upd H3 b (.tup [V.ref a]) = H4 at eb hb ha2 e24 ⊢
        have hD4 := e24 _ _ hD2
        have st : St K H4 (upd H4 D (.lst (acc ++ [V.ref b]))) := .but .upd hD4
        refine ⟨acc, hD4, by omega, fun x o z => by rw [upd_ne (ne_of_none z nDH)]; exact e24 _ _ (e2 _ _ z), acc ++ [.ref b], upd_same, ?_⟩
        rw [List.map_append]
        have hnew : Tp K H4 (.ref b) (planP [((0 : Int), ((i : Nat) : Int))]) := .tu (.of hb) (.on (Tp.ofInts (ns := [0, ((i : Nat) : Int)]) (.of ha2)) .no)
        exact ((hT2.stay (.of e24)).stay st).add (.on (hnew.stay st) .no)
      · rw [decide_eq_false hc, if_neg hc, List.append_nil]
        exact iteF ⟨e2, acc, hD2, hT2⟩
    obtain ⟨e2, acc0, hD2, hT2⟩ := h
    rw [lcs, Int.toNat_natCast] at hT2
    have hT20 : TpAll K H2 acc0 ((layersC ws R (endT e) cs 0).map planP) := hT2
    clear hT2
    refine ⟨.ref am, rfl, am, cs, rfl, Same.tup e2 hA, _, _, rfl, rfl, _, rfl, by rw [hs]; omega, by rw [hs]; omega, ?_⟩
    rw [show (cs.sum - 1).toNat = n from by rw [hs]; omega]
    refine for_range (lo := 0) (n := n) (fun i σ H' => ∃ Pl acc v5 v6 v7 v8, σ = [some (.ref g), some (.ref am), some (.int (R : Nat)), some (.int (lastT e)), some (.ref Pl), v5, v6, v7, v8] ∧ Same H H' ∧ H' Pl = some (.lst acc) ∧ TpAll K H' acc ((layersC ws R (endT e) cs i).map planP))
      ⟨D, acc0, _, _, _, _, rfl, e2, hD2, hT20⟩ ?_ ?_
    · rintro i σ H3 hi ⟨Pl, acc, v5, v6, v7, v8, rfl, e3, hP3, hT3⟩
      have okp := okL i
      have lenp : (layersC ws R (endT e) cs i).length * (cs.length * (R + 1)) ≤ 100000 := by
        have h1 := Nat.mul_le_mul_right (cs.length * (R + 1)) (lenL i)
        rw [Nat.mul_assoc, ← Nat.pow_succ] at h1
        exact Nat.le_trans h1 (hB (i + 1) (by omega))
      show tSeq _ _ _ _ _
      have esucc : layersC ws R (endT e) cs (i + 1) = (layersC ws R (endT e) cs i).flatMap (moreC ws R (endT e) cs) := rfl
      rw [esucc]
      generalize layersC ws R (endT e) cs i = ps at hT3 okp lenp
      refine ⟨Nat.zero_le _, fun L nL => ?_⟩
      have eL := same_new (o := .lst ([] : List V)) nL
      have hL4 : (upd H3 L (.lst ([] : List V))) L = some (.lst []) := upd_same
      have hP4 := eL _ _ hP3
      have hT4 := hT3.stay (.of eL)
      have e4 := e3.trans eL
      generalize upd H3 L (.lst ([] : List V)) = H4 at eL hL4 hP4 hT4 e4 ⊢
      have lacc : acc.length = ps.length := by rw [hT4.len, List.length_map]
      refine ⟨.ref Pl, rfl, Pl, rfl, ⟨_, .of hP4⟩, ?_⟩
      refine for_list (xs := acc) (fun j σ H' => ∃ v8 L acc2, σ = [some (.ref g), some (.ref am), some (.int (R : Nat)), some (.int (lastT e)), some (.ref Pl), v5, some (.int (0 + (i : Nat))), some (.ref L), v8] ∧ Same H H' ∧ H' Pl = some (.lst acc) ∧ TpAll K H' acc (ps.map planP) ∧ H' L = some (.lst acc2) ∧ TpAll K H' acc2 (((ps.take j).flatMap (moreC ws R (endT e) cs)).map planP))
        ⟨_, L, [], rfl, e4, hP4, hT4, hL4, .no⟩ (fun j σ H' _ h => ?_) (fun j y σ H' hy h => ?_) (fun σ H' h => ?_)
      · obtain ⟨_, _, _, _, _, z, _⟩ := h
        exact .of z
      · obtain ⟨v8, L, acc2, rfl, e5, hP5, hT5, hL5, hT52⟩ := h
        obtain ⟨dd, hdd, htp⟩ := hT5.at hy
        rw [List.getElem?_map] at hdd
        obtain ⟨p, hp, rfl⟩ := Option.map_eq_some_iff.mp hdd
        have hpm := List.mem_of_getElem? hp
        obtain ⟨pn, us, rfl, _, _⟩ := htp.toTup
        have hpc := okp p hpm
        refine ⟨.ref L, rfl, .ref g, rfl, .ref pn, rfl, .ref am, rfl, .int (R : Nat), rfl, .int (lastT e), rfl, g, pn, am, ws, cs, R, endT e, p, rfl, hS.same e5, htp, Same.tup e5 hA, hl, few, R8, by omega, hpc.v, (fun z => by have := hpc.len; rw [z] at this; exact (nomatch this)), by rw [hpc.len]; omega, by have := hpc.top; omega, fun H6 l acc3 e6 nl hl6 hT6 => ?_⟩
        have hL6 := e6 _ _ hL5
        have l2 := hT52.len
        have l3 := hT6.len
        rw [List.length_map] at l2 l3
        have h1 := moreC_all ws R (endT e) cs (ps.take j)
        have h2 := moreC_len ws R (endT e) cs p
        have h3 : (ps.take j).length * (cs.length * (R + 1)) ≤ ps.length * (cs.length * (R + 1)) := Nat.mul_le_mul_right _ (by rw [List.length_take]; exact Nat.min_le_right _ _)
        have h4 : cs.length * (R + 1) ≤ 3 * 9 := Nat.mul_le_mul (by omega) (by omega)
        refine ⟨L, l, acc2, acc3, rfl, rfl, hL6, hl6, by omega, fun np nnp => ?_⟩
        have ep := same_new (o := .lst (acc2 ++ acc3)) nnp
        refine ⟨_, np, acc2 ++ acc3, rfl, (e5.trans e6).trans ep, ep _ _ (e6 _ _ hP5), (hT5.stay (.of e6)).stay (.of ep), upd_same, ?_⟩
        rw [List.take_add_one, hp, List.flatMap_append, List.map_append]
        show TpAll K _ _ (_ ++ ((moreC ws R (endT e) cs p ++ []).map planP))
        rw [List.append_nil]
        exact ((hT52.stay (.of e6)).stay (.of ep)).add (hT6.stay (.of ep))
      · obtain ⟨v8, L, acc2, rfl, e5, hP5, hT5, hL5, hT52⟩ := h
        rw [lacc, List.take_length] at hT52
        exact ⟨.ref L, rfl, L, acc2, _, _, _, _, rfl, e5, hL5, hT52⟩
    · rintro σ H' ⟨Pl, acc, v5, v6, v7, v8, rfl, e6, hP6, hT6⟩
      obtain ⟨p0, ps, hps⟩ := List.exists_cons_of_ne_nil (layersC_ne hR hl h0 hs hev hek rfl hnr)
      have ok0 := okL n
      have neP : ∀ p ∈ layersC ws R (endT e) cs n, p ≠ [] := fun p hp z => by
        have := (ok0 p hp).len
        rw [z] at this
        exact nomatch this
      have lenB := Nat.le_trans (lenL n) (hB n (Nat.le_refl _))
      have lacc := hT6.len
      rw [List.length_map] at lacc
      refine ⟨.ref Pl, rfl, Pl, rfl, ⟨_, .of hP6⟩, fun D nD => ?_⟩
      have nDP : Pl ≠ D := ne_of_none hP6 nD
      have nDH : H D = none := freeS e6 nD
      refine lc_list (xs := acc) (fun j H' => Same H H' ∧ H' Pl = some (.lst acc) ∧ TpAll K H' acc ((layersC ws R (endT e) cs n).map planP) ∧ ∃ ys, H' D = some (.lst ys) ∧ ys.length = j ∧ Paired (fun v p => ∃ t pn, v = .ref t ∧ SqT K H' t [.int (lastT p), .ref pn] ∧ Tp K H' (.ref pn) (planP p)) ys ((layersC ws R (endT e) cs n).take j))
        ⟨e6.trans (same_new nD), same_new nD _ _ hP6, hT6.stay (.of (same_new nD)), [], upd_same, rfl, .nil⟩ (fun j H' _ h => .of h.2.1) (fun j y H' hy h => ?_) (fun H' h => ?_)
      · obtain ⟨e7, hP7, hT7, ys, hD7, lys, hY7⟩ := h
        obtain ⟨dd, hdd, htp⟩ := hT7.at hy
        rw [List.getElem?_map] at hdd
        obtain ⟨p, hp, rfl⟩ := Option.map_eq_some_iff.mp hdd
        have hpm := List.mem_of_getElem? hp
        obtain ⟨pn, us, rfl, hSp, hTp⟩ := htp.toTup
        obtain ⟨cl, hcl, yl, hSl⟩ := plan_last hTp (neP p hpm) fun x hx => ((ok0 p hpm).v.nn x hx).1
        have hjl := (List.getElem?_eq_some_iff.mp hp).1
        refine ⟨rfl, .ref pn, rfl, 1, rfl, pn, us, -1, .ref cl, rfl, rfl, hSp, hcl, cl, _, 0, .int (lastT p), rfl, rfl, hSl, atI0, .ref pn, rfl, by show 2 ≤ sizeLine; omega, fun t nt => ?_⟩
        have et := same_new (o := .tup [V.int (lastT p), .ref pn]) nt
        have ht : (upd H' t (.tup [V.int (lastT p), .ref pn])) t = some (.tup [V.int (lastT p), .ref pn]) := upd_same
        generalize upd H' t (.tup [V.int (lastT p), .ref pn]) = H8 at et ht ⊢
        have hD8 := et _ _ hD7
        have st : St K H8 (upd H8 D (.lst (ys ++ [V.ref t]))) := .but .upd hD8
        have st7 : St K H' H8 := .of et
        refine ⟨ys, hD8, by omega, fun b o z => by rw [upd_ne (ne_of_none z nDH)]; exact et _ _ (e7 _ _ z), by rw [upd_ne nDP]; exact et _ _ hP7, (hT7.stay st7).stay st, ys ++ [.ref t], upd_same, by rw [List.length_append, lys]; rfl, ?_⟩
        rw [List.take_add_one, hp]
        refine Paired.snoc (paired_imp hY7 fun v x ⟨t', pn', g1, g2, g3⟩ => ⟨t', pn', g1, st.tu _ _ (st7.tu _ _ g2), (g3.stay st7).stay st⟩) ⟨t, pn, rfl, st.tu _ _ (.of ht), (htp.stay st7).stay st⟩
      · obtain ⟨e7, hP7, hT7, ys, hD7, lys, hY7⟩ := h
        rw [lacc, List.take_length] at hY7
        rw [hps] at hY7
        obtain ⟨m, hm, em, hleast⟩ := minD_lps ps p0
        have dps : ∀ {vs : List V} {qs : List (List Plc)}, Paired (fun v p => ∃ t pn, v = V.ref t ∧ SqT K H' t [.int (lastT p), .ref pn] ∧ Tp K H' (.ref pn) (planP p)) vs qs → DpAll K H' vs (qs.map lpD) := fun {vs qs} h => by
          clear hY7 hD7 lys
          induction h with
          | nil => exact .nil
          | cons a t ih =>
            obtain ⟨t, pn, rfl, g2, g3⟩ := a
            exact .cons (.tup g2 (.cons (.int _) (.cons g3.dp .nil))) ih
        refine ⟨D, ys, lpD p0, ps.map lpD, rfl, .of hD7, dps hY7, lp_alike (p0 :: ps), lp_deep (p0 :: ps), fun i y hy he => ?_⟩
        obtain ⟨x, hx, t, pn, rfl, g2, g3⟩ := paired_get hY7 hy
        rw [em] at he
        have he : ((p0 :: ps).map lpD)[i]? = some (lpD m) := he
        rw [List.getElem?_map, hx] at he
        obtain rfl : x = m := lpD_inj (Option.some.inj he)
        exact ⟨t, _, 1, .ref pn, rfl, rfl, g2, atI1, q _ pn e x e7 hev hek hnr (by rw [hps]; exact hm) (by rw [hps]; exact hleast) g3⟩
end
end Sg
set_option Elab.async false
set_option linter.all false
set_option maxRecDepth 100000
set_option maxHeartbeats 4000000
namespace Sg
open PySem PySem.Spec PyProof.Rows L2 StX
theorem reach_near {ws : List (List Int)} {R : Nat} (hR : Reach ws R) (g : GoodL ws) (h : ∀ x ∈ ws, ∀ z ∈ ws, ∀ d ∈ barsN x z, d ≤ if ws.length = 1 then 8 else 5) : NearR ws.length R := by
  have ht := top_is (allB ws ws)
  have hr := hR.top _ ht
  have key : R ≤ if ws.length = 1 then 8 else 5 := by
    rcases ht.eq with z | z
    · rw [z] at hr
      have : R = 0 := by omega
      rw [this]; exact Nat.zero_le _
    · unfold allB at z
      obtain ⟨x, hx, z⟩ := List.mem_flatMap.mp z
      unfold rowB at z
      obtain ⟨y, hy, z⟩ := List.mem_flatMap.mp z
      obtain ⟨d, hd, e⟩ := List.mem_map.mp z
      have := h x hx y hy d hd
      have e2 : R = d := by
        have : ((d : Nat) : Int) = (R : Int) := e.trans hr
        omega
      rw [e2]; exact this
  have few := g.few
  by_cases e : ws.length = 1
  · rw [if_pos e] at key; exact .inl ⟨e, key⟩
  · rw [if_neg e] at key; exact .inr ⟨few, key⟩
theorem NearR.r8 {n R : Nat} (h : NearR n R) : R ≤ 8 := by rcases h with ⟨_, h⟩ | ⟨_, h⟩ <;> omega
theorem lp_ends {p q : List Plc} (h : lpLt q p = false) : endT p ≤ endT q ∧ (endT q = endT p → lexP q p = false) := by
  unfold lpLt at h
  by_cases e : endT q = endT p
  · rw [if_pos e] at h
    exact ⟨by omega, fun _ => h⟩
  · rw [if_neg e] at h
    have := of_decide_eq_false h
    exact ⟨by omega, fun z => absurd z e⟩
/-! ### plans can be shown -/
theorem pls_small : ∀ (p : List Plc), (∀ x ∈ p, 0 ≤ x.1 ∧ x.1 ≤ 2000 ∧ 0 ≤ x.2 ∧ x.2 ≤ 10) → SmallAll (plsD p) 2 (4 * p.length)
  | [], _ => SmallAll.nil.mono (Nat.le_refl _) (Nat.zero_le _)
  | x :: p, h => by
    have hx := h x List.mem_cons_self
    have a : Small (plD x) 2 2 := (Small.tuple (n := 1) (SmallAll.ints (n := 1) [x.1, x.2] fun y hy => by
      rcases List.mem_cons.mp hy with rfl | hy
      · omega
      · rw [List.mem_singleton.mp hy]; omega)).mono (Nat.le_refl _) (Nat.le_refl _)
    have b := pls_small p fun y hy => h y (List.mem_cons_of_mem _ hy)
    refine (SmallAll.cons a b).mono (Nat.le_refl _) ?_
    rw [List.length_cons]; omega
theorem plan_shows {ws : List (List Int)} {p : List Plc} (hv : VPl ws p) (hw : ws.length ≤ 3) (he : endT p ≤ 2000) (hl : p.length ≤ 60) : Small (planP p) 3 240 :=
  (Small.tuple (n := 2) (pls_small p fun x hx => by
    have := hv.nn x hx
    have := hv.lt x hx
    omega)).mono (by decide) (by omega)
/-! ### how many pieces the law asks for -/
abbrev mostA : List Int := [8, 7, 5, 4, 4, 4, 4, 4, 4]
abbrev mostB : List Int := [6, 5, 4, 4, 4, 4]
def mostAN (R : Nat) : Nat := [8, 7, 5, 4, 4, 4, 4, 4, 4].getD R 4
def mostBN (R : Nat) : Nat := [6, 5, 4, 4, 4, 4].getD R 4
theorem mostA_at {R : Nat} (h : R ≤ 8) : mostA[R]? = some ((mostAN R : Nat) : Int) := by
  have : ∀ R, R < 9 → mostA[R]? = some ((mostAN R : Nat) : Int) := by decide
  exact this R (by omega)
theorem mostB_at {R : Nat} (h : R ≤ 5) : mostB[R]? = some ((mostBN R : Nat) : Int) := by
  have : ∀ R, R < 6 → mostB[R]? = some ((mostBN R : Nat) : Int) := by decide
  exact this R (by omega)
structure ManyC (n R M : Nat) : Prop where
  one : 1 ≤ M
  few : M ≤ 8
  pow : ∀ i, i + 1 ≤ M → n * (n * (R + 1)) ^ i ≤ 100000
theorem manyA {R : Nat} (h : R ≤ 8) : ManyC 1 R (mostAN R) := by
  have : ∀ R, R < 9 → 1 ≤ mostAN R ∧ mostAN R ≤ 8 ∧ ∀ i, i < 8 → i + 1 ≤ mostAN R → 1 * (1 * (R + 1)) ^ i ≤ 100000 := by decide +kernel
  obtain ⟨a, b, c⟩ := this R (by omega)
  exact ⟨a, b, fun i hi => c i (by omega) hi⟩
theorem manyB {n R : Nat} (hn : n ≤ 3) (h : R ≤ 5) : ManyC n R (mostBN R) := by
  have : ∀ n, n < 4 → ∀ R, R < 6 → 1 ≤ mostBN R ∧ mostBN R ≤ 8 ∧ ∀ i, i < 8 → i + 1 ≤ mostBN R → n * (n * (R + 1)) ^ i ≤ 100000 := by decide +kernel
  obtain ⟨a, b, c⟩ := this n (by omega) R (by omega)
  exact ⟨a, b, fun i hi => c i (by omega) hi⟩
/-! ### the one by hand -/
def handA : List Int := [0, 0, -1, -1, -1, -1, 0]
def handP : List Plc := [(0, 0), (3, 0), (7, 0), (10, 0)]
theorem handA_work : IsWork handA := ⟨by decide, by decide, by decide, fun x hx => by cases hx; decide, fun x hx => by cases hx; decide⟩
theorem hand_good : GoodL [handA] := ⟨by decide, by decide, fun w hw => by rw [List.mem_singleton.mp hw]; exact handA_work⟩
theorem hand_top : Top (allB [handA] [handA]) 6 := ⟨by decide, by decide +kernel, .inr (by decide +kernel)⟩
theorem hand_reach : Reach [handA] 6 := by
  obtain ⟨R, hR⟩ := exists_reach [handA]
  have := hR.top _ hand_top
  obtain rfl : 6 = R := by omega
  exact hR
theorem hand_near : NearR 1 6 := .inl ⟨rfl, by decide⟩
theorem hand_in : handP ∈ layersC [handA] 6 11 [4] 3 := by decide +kernel
theorem hand_least : ∀ q ∈ layersC [handA] 6 11 [4] 3, lpLt q handP = false := by decide +kernel
theorem hand_best {p : List Plc} (h : BestW [handA] nxAny [4] p) : handP = p :=
  law_bestC (R := 6) (E := 11) (n := 3) (e := handP) hand_reach.rea rfl (by decide) rfl (layersC_ok (R := 6) (E := 11) rfl (getD_low (by decide)) (by decide) 3 handP hand_in).v ⟨by decide, by decide⟩ (by decide) (by decide) h hand_in fun q hq => lp_ends (hand_least q hq)
theorem flat_zero : ∀ n, (List.replicate n [V.int 0]).flatten = (List.replicate n (0 : Int)).map V.int
  | 0 => rfl
  | n + 1 => by rw [List.replicate_succ, List.replicate_succ, List.flatten_cons, flat_zero n]; rfl
theorem sum_zeros : ∀ n, (List.replicate n (0 : Int)).sum = 0
  | 0 => rfl
  | n + 1 => by rw [List.replicate_succ, List.sum_cons, sum_zeros n]; rfl
def tHand (K : PySem.W.Frag) (C : Addr) : TE := fun σ H Q => ∀ H' a, Same H H' → LineAt K C H' a [handA] → Q (.ref a) H'
section
variable {P : Program} {w : World} {K : PySem.W.Frag} {mg : Str → Option Value} {base : Heap}
/-! ### _law_counts -/
def spCounts : Sp := fun vs H Q _ => ∃ (p : Addr) (n M : Nat), vs = [.ref p, .int (n : Nat), .int (M : Nat)] ∧ PenAt H p ∧ 1 ≤ n ∧ n ≤ 3 ∧ 1 ≤ M ∧ M ≤ 8 ∧
  ∀ H' t (cs : List Int), PenAt H' p → But p H H' → H t = none → H' t = some (.tup (cs.map V.int)) → cs.length = n → (∀ x ∈ cs, 0 ≤ x ∧ x ≤ 4) → 1 ≤ cs.sum → cs.sum ≤ (M : Nat) → Q (.ref t) H'
theorem ok_l_counts {f f1 : Addr} {fd fd1 : FuncData} {k : Nat} (F : Fun K "_law_counts" "_law_counts" s_l_counts f fd)
    (G1 : FnOk P w K mg base CX0 k f1 fd1 ["_law_pen_here", "_law_many"] spDraw) (kp1 : PySem.W.keepIn K (.ref f1) = true) (b1 : Binds K fd1 ["_law_pen_here", "_law_many"] []) (g1 : mg "_law_draw" = some (.ref f1))
    (m1 : mg "range" = none) (m2 : mg "min" = none) (m3 : mg "tuple" = none) : FnOk P w K mg base CX0 (k + 1) f fd ["_law_pen_here", "_law_kinds", "_law_most"] spCounts := by
  refine F.ok sc_l_counts (fun vs H Q E h => ?_) (fun cdv A outer s H vs Q E hr h => ?_)
  · obtain ⟨p, n, M, rfl, _⟩ := h; rfl
  · obtain ⟨p, n, M, rfl, hp, n1, n3, M1, M8, q⟩ := h
    refine ⟨_, pss_cons (ps_set (i := 3) sc_l_counts.nd rfl (.inl rfl) (pe_op op_rep (pe_lst (pa_cons pe_int pa_nil)) (pv 1)))
      (pss_cons (ps_asg pe_int (pg_sub (pv 3) (pe_call G1 hr (by rfl) g1 kp1 b1 .nil pass0 (pa_cons (pv 0) (pa_cons (pv 1) pa_nil))) set_list))
      (pss_cons (ps_for PassesOwn.never rfl (pi_range1 (by rfl) m1 (pa_cons (pe_call G1 hr (by rfl) g1 kp1 b1 .nil pass0 (pa_cons (pv 0) (pa_cons (pv 2) pa_nil))) pa_nil)) (pg_name (i := 4) sc_l_counts.nd rfl (.inl rfl))
        (pss_cons (ps_set (i := 5) sc_l_counts.nd rfl (.inl rfl) (pe_call G1 hr (by rfl) g1 kp1 b1 .nil pass0 (pa_cons (pv 0) (pa_cons (pv 1) pa_nil))))
        (pss_one (ps_asg (pe_callB (call_min2 rfl) (by rfl) m2 (by decide +kernel) (pa_cons pe_int (pa_cons (pe_op op_add (pe_ix ix_list (pv 3) (pv 5) (fun _ _ => rfl)) pe_int) pa_nil))) (pg_sub (pv 3) (pv 5) set_list)))))
      (pss_one (ps_ret (pe_callTy call_tuple_of (by rfl) m3 (by decide +kernel) (pa_cons (pv 3) pa_nil)))))), ?_⟩
    have big : 1000 ≤ sizeLine := by rw [sizeLine_eq]; decide
    refine ⟨by show 1 ≤ sizeLine; omega, fun z nz => ?_⟩
    have ez := same_new (o := .lst [V.int 0]) nz
    have hz : (upd H z (.lst [V.int 0])) z = some (.lst [V.int 0]) := upd_same
    have pz := hp.new (o := .lst [V.int 0]) nz
    generalize upd H z (.lst [V.int 0]) = H0 at ez hz pz ⊢
    refine ⟨.int (n : Nat), rfl, z, (n : Nat), _, rfl, rfl, hz, by omega, by omega, by show 1 * _ ≤ sizeLine; omega, fun S nS => ?_⟩
    have eS := same_new (o := .lst ((List.replicate ((n : Nat) : Int).toNat [V.int 0]).flatten)) nS
    have hS : (upd H0 S (.lst ((List.replicate ((n : Nat) : Int).toNat [V.int 0]).flatten))) S = some (.lst ((List.replicate n (0 : Int)).map V.int)) := by
      rw [upd_same, Int.toNat_natCast, flat_zero]
    have pS := pz.new (o := .lst ((List.replicate ((n : Nat) : Int).toNat [V.int 0]).flatten)) nS
    have nSp : S ≠ p := (pz.ne nS).symm
    have nSH : H S = none := freeS ez nS
    have c1 : But p H (upd H0 S (.lst ((List.replicate ((n : Nat) : Int).toNat [V.int 0]).flatten))) := (But.of ez).trans (.of eS)
    generalize upd H0 S (.lst ((List.replicate ((n : Nat) : Int).toNat [V.int 0]).flatten)) = H1 at hS pS c1 ⊢
    have setOk : ∀ {cs : List Int} {j : Nat} {v : Int}, j < cs.length → ixN (cs.map V.int).length ((j : Nat) : Int) = some j ∧ (cs.map V.int).set j (.int v) = (cs.set j v).map V.int := fun {cs j v} hj => ⟨ixN_nat (by rw [List.length_map]; exact hj), by rw [List.map_set]⟩
    refine ⟨.ref S, rfl, .ref p, rfl, .int (n : Nat), rfl, p, (n : Nat), rfl, pS, by omega, by omega, fun H2 r r0 r1 p2 b2 => ?_⟩
    obtain ⟨j, rfl⟩ : ∃ j : Nat, r = j := ⟨r.toNat, by omega⟩
    have hj : j < (List.replicate n (0 : Int)).length := by rw [List.length_replicate]; omega
    have hS2 := b2 _ _ nSp hS
    refine ⟨S, _, (j : Nat), j, rfl, rfl, hS2, (setOk (v := 1) hj).1, ?_⟩
    rw [(setOk (v := 1) hj).2]
    have s0 := sum_zeros n
    have s1 := sum_set (List.replicate n (0 : Int)) j 1 hj
    have g0 : (List.replicate n (0 : Int)).getD j 0 = 0 := by rw [List.getD_eq_getElem?_getD, List.getElem?_eq_getElem hj, List.getElem_replicate]; rfl
    rw [s0, g0] at s1
    have l1 : ((List.replicate n (0 : Int)).set j 1).length = n := by rw [List.length_set, List.length_replicate]
    have i1 : ∀ x ∈ (List.replicate n (0 : Int)).set j 1, 0 ≤ x ∧ x ≤ 4 := fun x hx => by
      rcases List.mem_or_eq_of_mem_set hx with hx | hx
      · rw [(List.mem_replicate.mp hx).2]; decide
      · rw [hx]; decide
    have hS3 : (upd H2 S (.lst (((List.replicate n (0 : Int)).set j 1).map V.int))) S = some (.lst (((List.replicate n (0 : Int)).set j 1).map V.int)) := upd_same
    have p3 := p2.upd (o := .lst (((List.replicate n (0 : Int)).set j 1).map V.int)) nSp.symm
    have c3 : But p H (upd H2 S (.lst (((List.replicate n (0 : Int)).set j 1).map V.int))) := fun b o m e => by
      rw [upd_ne (ne_of_none e nSH)]; exact b2 _ _ m (c1 _ _ m e)
    generalize (List.replicate n (0 : Int)).set j 1 = cs at hS3 p3 c3 s1 l1 i1 ⊢
    generalize upd H2 S (.lst (cs.map V.int)) = H3 at hS3 p3 c3 ⊢
    refine ⟨.ref p, rfl, .int (M : Nat), rfl, p, (M : Nat), rfl, p3, by omega, by omega, fun H4 m m0 m1' p4 b4 => ⟨m, rfl, by omega, by omega, ?_⟩⟩
    refine for_range (lo := 0) (n := m.toNat) (fun i σ H' => ∃ (v4 v5 : Option V) (cs : List Int), σ = [some (.ref p), some (.int (n : Nat)), some (.int (M : Nat)), some (.ref S), v4, v5] ∧ PenAt H' p ∧ But p H H' ∧ H' S = some (.lst (cs.map V.int)) ∧ cs.length = n ∧ (∀ x ∈ cs, 0 ≤ x ∧ x ≤ 4) ∧ 1 ≤ cs.sum ∧ cs.sum ≤ 1 + ((i : Nat) : Int))
      ⟨_, _, cs, rfl, p4, c3.trans b4, b4 _ _ nSp hS3, l1, i1, by omega, by omega⟩ ?_ ?_
    · rintro i σ H5 hi ⟨v4, v5, cs, rfl, p5, c5, hS5, l5, i5, s5, t5⟩
      refine ⟨.ref p, rfl, .int (n : Nat), rfl, p, (n : Nat), rfl, p5, by omega, by omega, fun H6 r r0 r1 p6 b6 => ?_⟩
      obtain ⟨j, rfl⟩ : ∃ j : Nat, r = j := ⟨r.toNat, by omega⟩
      have hj : j < cs.length := by omega
      have hS6 := b6 _ _ nSp hS5
      have hcj : (cs.map V.int)[j]? = some (.int cs[j]) := by rw [List.getElem?_map, List.getElem?_eq_getElem hj]; rfl
      have hx := i5 _ (List.getElem_mem hj)
      refine ⟨.ref S, rfl, .int (j : Nat), rfl, S, _, (j : Nat), .int cs[j], rfl, rfl, .of hS6, atI_nat hcj, _, _, rfl, rfl, _, _, rfl, .ref S, rfl, .int (j : Nat), rfl, S, _, (j : Nat), j, rfl, rfl, hS6, (setOk (v := 0) hj).1, ?_⟩
      have gd : cs.getD j 0 = cs[j] := by rw [List.getD_eq_getElem?_getD, List.getElem?_eq_getElem hj]; rfl
      obtain ⟨v, hv, v1, v2⟩ : ∃ v : Int, (if cs[j] + 1 < 4 then cs[j] + 1 else 4) = v ∧ cs[j] ≤ v ∧ v ≤ cs[j] + 1 ∧ v ≤ 4 := ⟨_, rfl, by split <;> omega, by split <;> omega⟩
      dsimp only
      rw [hv, (setOk (v := v) hj).2]
      have ss := sum_set cs j v hj
      rw [gd] at ss
      refine ⟨_, _, cs.set j v, rfl, p6.upd nSp.symm, fun b o m e => ?_, upd_same, by rw [List.length_set]; exact l5, fun x hx' => ?_, by omega, by omega⟩
      · rw [upd_ne (ne_of_none e nSH)]; exact b6 _ _ m (c5 _ _ m e)
      · rcases List.mem_or_eq_of_mem_set hx' with h | h
        · exact i5 x h
        · rw [h]; omega
    · rintro σ H5 ⟨v4, v5, cs, rfl, p5, c5, hS5, l5, i5, s5, t5⟩
      refine ⟨.ref S, rfl, S, _, rfl, .inl ⟨.of hS5, fun l nl => ?_⟩⟩
      exact q _ l cs (p5.new nl) (c5.trans (.of (same_new nl))) (hp.free p5 c5 nl) upd_same l5 i5 s5 (by omega)
end
end Sg
set_option Elab.async false
set_option linter.all false
set_option maxRecDepth 100000
set_option maxHeartbeats 4000000
namespace Sg
open PySem PySem.Spec PyProof.Rows L2 StX
def spLaw (K : PySem.W.Frag) : Sp := fun vs H Q _ => ∃ (a : Addr) (ns : List Int), vs = [.ref a] ∧ SqL K H a (ns.map V.int) ∧ ns.length ≤ 63 ∧ ∀ H', Q (.bl true) H'
section
variable {P : Program} {w : World} {K : PySem.W.Frag} {mg : Str → Option Value} {base : Heap}
theorem ok_law {f f1 f2 f3 f4 f5 f6 f7 f8 f9 fs fI C : Addr} {fd fd1 fd2 fd3 fd4 fd5 fd6 fd7 fd8 fd9 fds : FuncData} {k : Nat} (F : Fun K "law" "law" s_law f fd) (T : LC K mg C) (MI : Mk K C fI) (GI : FnR P w K mg base CX0 k fI (spInit K C))
    (G1 : FnOk P w K mg base CX0 (k + 1) f1 fd1 ["_law_script", "_law_k"] (spCell K)) (kp1 : PySem.W.keepIn K (.ref f1) = true) (b1 : Binds K fd1 ["_law_script", "_law_k"] []) (g1 : mg "_law_cell_at" = some (.ref f1))
    (G2 : FnOk P w K mg base CX0 (k + 1) f2 fd2 ["_law_cell"] spPen) (kp2 : PySem.W.keepIn K (.ref f2) = true) (b2 : Binds K fd2 ["_law_cell"] []) (g2 : mg "_law_pen" = some (.ref f2))
    (G3 : FnOk P w K mg base CX0 (k + 1) f3 fd3 ["_law_pen_here", "_law_kinds", "_law_most"] spCounts) (kp3 : PySem.W.keepIn K (.ref f3) = true) (b3 : Binds K fd3 ["_law_pen_here", "_law_kinds", "_law_most"] []) (g3 : mg "_law_counts" = some (.ref f3))
    (G4 : FnOk P w K mg base CX0 (k + 1) f4 fd4 ["_law_pen_here", "_law_one_far", "_law_more_far"] (spWorks K)) (kp4 : PySem.W.keepIn K (.ref f4) = true) (b4 : Binds K fd4 ["_law_pen_here", "_law_one_far", "_law_more_far"] []) (g4 : mg "_law_works" = some (.ref f4))
    (G5 : FnOk P w K mg base CX0 (k + 1) f5 fd5 ["_law_works_here"] (spMade K C)) (kp5 : PySem.W.keepIn K (.ref f5) = true) (b5 : Binds K fd5 ["_law_works_here"] []) (g5 : mg "_law_line" = some (.ref f5))
    (G6 : FnOk P w K mg base CX0 (k + 1) f6 fd6 ["_law_works_here"] (spLBars K)) (kp6 : PySem.W.keepIn K (.ref f6) = true) (b6 : Binds K fd6 ["_law_works_here"] []) (g6 : mg "_law_bars" = some (.ref f6))
    (G7 : FnOk P w K mg base CX0 (k + 1) f7 fd7 ["_law_spans"] spLReach) (kp7 : PySem.W.keepIn K (.ref f7) = true) (b7 : Binds K fd7 ["_law_spans"] []) (g7 : mg "_law_reach" = some (.ref f7))
    (G8 : FnOk P w K mg base CX0 (k + 1) f8 fd8 ["_law_spans", "_law_amounts", "_law_reach_here"] (spLSoon K)) (kp8 : PySem.W.keepIn K (.ref f8) = true) (b8 : Binds K fd8 ["_law_spans", "_law_amounts", "_law_reach_here"] []) (g8 : mg "_law_soonest" = some (.ref f8))
    (G9 : FnOk P w K mg base CX0 (k + 1) f9 fd9 ["line", "counts"] (spSoonestOf K C)) (kp9 : PySem.W.keepIn K (.ref f9) = true) (b9 : Binds K fd9 ["line", "counts"] []) (g9 : mg "soonest_of" = some (.ref f9))
    (Gs : FnG P w K mg base (k + 1) fs fds ["_law_found", "_law_due"] (spSame K)) (kps : PySem.W.keepIn K (.ref fs) = true) (bs : Binds K fds ["_law_found", "_law_due"] []) (gs : mg "_law_same" = some (.ref fs))
    (kb : KBinds K fd9 ["line", "counts"] ["counts", "line"] kwG kwG)
    (m1 : mg "len" = none) (m2 : mg "range" = none) (m5 : mg "max" = none) (m6 : mg "min" = none) : FnG P w K mg base (k + 2) f fd ["_law_script"] (spLaw K) := by
  refine fnG_mk F sc_law (fun vs H Q h => ?_) (fun cdv A outer s H vs Q hgd hr h => ?_)
  · obtain ⟨a, ns, rfl, _⟩ := h; rfl
  · obtain ⟨a, ns, rfl, hS, hlen, q⟩ := h
    have hu := hr.units
    refine ⟨_, pss_cons (ps_for PassesOwn.never rfl (pi_range1 (by rfl) m2 (pa_cons (pe_callB (call_max2 rfl) (by rfl) m5 (by decide +kernel) (pa_cons pe_int (pa_cons (pe_callB (call_min2 rfl) (by rfl) m6 (by decide +kernel) (pa_cons (pe_callB call_len_seq (by rfl) m1 PySem.boot_len (pa_cons (pv 0) pa_nil)) (pa_cons pe_int pa_nil))) pa_nil))) pa_nil)) (pg_name (i := 1) sc_law.nd rfl (.inl rfl))
          (pss_cons (ps_set (i := 2) sc_law.nd rfl (.inl rfl) (pe_call G2 hr (by rfl) g2 kp2 b2 .nil pass0 (pa_cons (pe_call G1 hr (by rfl) g1 kp1 b1 .nil pass0 (pa_cons (pv 0) (pa_cons (pv 1) pa_nil))) pa_nil)))
          (pss_cons (ps_set (i := 3) sc_law.nd rfl (.inl rfl) (pe_call G4 hr (by rfl) g4 kp4 b4 .nil pass0 (pa_cons (pv 2) (pa_cons pe_int (pa_cons pe_int pa_nil)))))
          (pss_cons (ps_par (i := 4) (j := 5) (by rfl) sc_law.nd rfl rfl (by decide) rfl rfl (pa_cons (pe_call G5 hr (by rfl) g5 kp5 b5 .nil pass0 (pa_cons (pv 3) pa_nil)) (pa_cons (pe_call G6 hr (by rfl) g6 kp6 b6 .nil pass0 (pa_cons (pv 3) pa_nil)) pa_nil)) (by rfl))
          (pss_cons (ps_set (i := 6) sc_law.nd rfl (.inl rfl) (pe_call G7 hr (by rfl) g7 kp7 b7 .nil pass0 (pa_cons (pv 5) pa_nil)))
          (pss_cons (ps_set (i := 7) sc_law.nd rfl (.inl rfl) (pe_ix ix_list (pe_lst (pa_cons pe_int (pa_cons pe_int (pa_cons pe_int (pa_cons pe_int (pa_cons pe_int (pa_cons pe_int (pa_cons pe_int (pa_cons pe_int (pa_cons pe_int pa_nil)))))))))) (pv 6) (fun _ _ => rfl)))
          (pss_cons (ps_if (pt_cmpR op_gt (pe_callB call_len_seq (by rfl) m1 PySem.boot_len (pa_cons (pv 3) pa_nil)) pe_int (nomark _)) (pss_one (ps_set (i := 7) sc_law.nd rfl (.inl rfl) (pe_ix ix_list (pe_lst (pa_cons pe_int (pa_cons pe_int (pa_cons pe_int (pa_cons pe_int (pa_cons pe_int (pa_cons pe_int pa_nil))))))) (pv 6) (fun _ _ => rfl)))) pss_nil)
          (pss_one (ps_for PassesOwn.never rfl (pi_range1 (by rfl) m2 (pa_cons pe_int pa_nil)) (pg_name (i := 8) sc_law.nd rfl (.inl rfl))
            (pss_cons (ps_set (i := 9) sc_law.nd rfl (.inl rfl) (pe_call G3 hr (by rfl) g3 kp3 b3 .nil pass0 (pa_cons (pv 2) (pa_cons (pe_callB call_len_seq (by rfl) m1 PySem.boot_len (pa_cons (pv 3) pa_nil)) (pa_cons (pv 7) pa_nil)))))
            (pss_cons (ps_set (i := 10) sc_law.nd rfl (.inl rfl) (pe_call G8 hr (by rfl) g8 kp8 b8 .nil pass0 (pa_cons (pv 5) (pa_cons (pv 9) (pa_cons (pv 6) pa_nil)))))
            (pss_cons (ps_for PassesOwn.never rfl (pi_range1 (by rfl) m2 (pa_cons pe_int pa_nil)) (pg_name (i := 11) sc_law.nd rfl (.inl rfl))
              (pss_one (ps_if (pt_not (pt_val (pe_callG Gs hgd hr (by rfl) gs kps bs (pa_cons (pe_call G9 hr (by rfl) g9 kp9 b9 .nil pass0 (pa_cons (pv 4) (pa_cons (pv 9) pa_nil))) (pa_cons (pv 10) pa_nil))))) (pss_one (ps_ret pe_bl)) pss_nil)))
            (pss_one (ps_if (pt_not (pt_val (pe_callG Gs hgd hr (by rfl) gs kps bs (pa_cons (pe_callK0 G9 hr (by rfl) g9 kp9 kb pass0 (pk_cons (pv 9) (pk_cons (pv 4) pk_nil))) (pa_cons (pv 10) pa_nil))))) (pss_one (ps_ret pe_bl)) pss_nil))))))))))))))
      (pss_cons (ps_set (i := 12) sc_law.nd rfl (.inl rfl) (PE.imp (t' := tHand K C) (pe_makeR MI GI hr (by rfl) T.mgC pass0 (pa_cons (pe_tup (pa_cons pe_int (pa_cons pe_int (pa_cons (pe_un un_neg pe_int) (pa_cons (pe_un un_neg pe_int) (pa_cons (pe_un un_neg pe_int) (pa_cons (pe_un un_neg pe_int) (pa_cons pe_int pa_nil)))))))) pa_nil))
          fun σ H Q h => ⟨1, rfl, 1, rfl, 1, rfl, 1, rfl, by show 7 ≤ sizeLine; rw [sizeLine_eq]; decide, fun t nt => make_line (vs := [V.ref t]) (ws := [handA]) (.on (Tp.ofInts (ns := handA) (.of upd_same)) .no) hand_good fun HL la eL _ hLA => h HL la ((same_new nt).trans eL) hLA⟩))
      (pss_one (ps_ret (pe_cmpR (op_eqD hu) (pe_call G9 hr (by rfl) g9 kp9 b9 .nil pass0 (pa_cons (pv 12) (pa_cons (pe_tup (pa_cons pe_int pa_nil)) pa_nil)))
        (pe_tup (pa_cons (pe_tup (pa_cons pe_int (pa_cons pe_int pa_nil))) (pa_cons (pe_tup (pa_cons pe_int (pa_cons pe_int pa_nil))) (pa_cons (pe_tup (pa_cons pe_int (pa_cons pe_int pa_nil))) (pa_cons (pe_tup (pa_cons pe_int (pa_cons pe_int pa_nil))) pa_nil))))) (nomark _))))), ?_⟩
    have big : 1000 ≤ sizeLine := by rw [sizeLine_eq]; decide
    have l63 : ((ns.map V.int).length : Int) ≤ 63 := by rw [List.length_map]; omega
    refine ⟨.ref a, rfl, a, _, rfl, .inl hS, _, 3, rfl, 1, _, rfl, ?_⟩
    obtain ⟨N, hN, hN0, hN4⟩ : ∃ N : Int, (if (if (3 : Int) < ((ns.map V.int).length : Nat) then (3 : Int) else ((ns.map V.int).length : Nat)) > 1 then (if (3 : Int) < ((ns.map V.int).length : Nat) then (3 : Int) else ((ns.map V.int).length : Nat)) else 1) = N ∧ 0 ≤ N ∧ N ≤ 3 := by
      refine ⟨_, rfl, ?_, ?_⟩
      · split <;> split <;> omega
      · split <;> split <;> omega
    rw [hN]
    refine ⟨N, rfl, by omega, by omega, ?_⟩
    refine for_range (lo := 0) (n := N.toNat) (fun i σ H' => ∃ v1 v2 v3 v4 v5 v6 v7 v8 v9 v10 v11 v12, σ = [some (.ref a), v1, v2, v3, v4, v5, v6, v7, v8, v9, v10, v11, v12] ∧ Same H H') ⟨_, _, _, _, _, _, _, _, _, _, _, _, rfl, fun _ _ z => z⟩ ?_ ?_
    · rintro i σ H1 hi ⟨v1, v2, v3, v4, v5, v6, v7, v8, v9, v10, v11, v12, rfl, e1⟩
      refine ⟨.ref a, rfl, .int (0 + i), rfl, a, ns, i, by rw [Int.zero_add]; rfl, e1.seq hS, fun cell => ?_⟩
      refine ⟨cell, rfl, fun H2 p np s2 p2 => ?_⟩
      have npH : H p = none := freeS e1 np
      have o2 : Same H H2 := e1.trans s2
      refine ⟨.ref p, rfl, p, rfl, p2, fun H3 t ws p3 c3 nt hT3 hg hbd => ?_⟩
      obtain ⟨R, hRe⟩ := exists_reach ws
      have hN := reach_near hRe hg hbd
      have R8 := hN.r8
      have ntp : t ≠ p := fun z => by
        have := p2.ne (q := t) (by rw [z] at nt ⊢; exact nt)
        exact this z.symm
      refine ⟨.ref t, rfl, t, ws, rfl, hT3, hg, fun H4 la e34 nla hL4 => ?_⟩
      refine ⟨.ref t, rfl, t, ws, rfl, hT3.stay (.of e34), hg, fun H5 g e45 hS5 => ⟨_, _, rfl, ?_⟩⟩
      have e35 := e34.trans e45
      refine ⟨.ref g, rfl, g, ws, rfl, hS5.any, fun H6 r e56 hr6 => ?_⟩
      obtain rfl := hRe.top r hr6
      have e36 := e35.trans e56
      refine ⟨by show 9 ≤ sizeLine; omega, fun ml nml => ?_⟩
      have e7 := same_new (o := .lst [V.int 8, .int 7, .int 5, .int 4, .int 4, .int 4, .int 4, .int 4, .int 4]) nml
      have hm7 : (upd H6 ml (.lst [V.int 8, .int 7, .int 5, .int 4, .int 4, .int 4, .int 4, .int 4, .int 4])) ml = some (.lst (mostA.map V.int)) := upd_same
      refine ⟨.int (R : Nat), rfl, ml, mostA.map V.int, (R : Nat), .int ((mostAN R : Nat) : Int), rfl, rfl, .of hm7, atI_nat (by rw [List.getElem?_map, mostA_at R8]; rfl), ?_⟩
      have e37 := e36.trans e7
      generalize upd H6 ml (.lst [V.int 8, .int 7, .int 5, .int 4, .int 4, .int 4, .int 4, .int 4, .int 4]) = H7 at e7 e37 ⊢
      clear hm7
      obtain ⟨_, us7, eus, hSt7, hTt7⟩ := (hT3.stay (.of e37)).toTup
      cases eus
      have lus7 : us7.length = ws.length := by rw [hTt7.len]; exact List.length_map _
      have few := hg.few
      have lst := hg.least
      refine ⟨.ref t, rfl, t, us7, rfl, .inr hSt7, _, _, rfl, rfl, _, rfl, ite2 (fun gt => ?a) (fun ngt => ?b)⟩
      case' a =>
        have w1 : 1 < ws.length := by have := of_decide_eq_true gt; omega
        have R5 : R ≤ 5 := by rcases hN with ⟨h, _⟩ | ⟨_, h⟩ <;> omega
        refine ⟨by show 6 ≤ sizeLine; omega, fun ml2 nml2 => ?_⟩
        have e8 := same_new (o := .lst [V.int 6, .int 5, .int 4, .int 4, .int 4, .int 4]) nml2
        have hm8 : (upd H7 ml2 (.lst [V.int 6, .int 5, .int 4, .int 4, .int 4, .int 4])) ml2 = some (.lst (mostB.map V.int)) := upd_same
        refine ⟨.int (R : Nat), rfl, ml2, mostB.map V.int, (R : Nat), .int ((mostBN R : Nat) : Int), rfl, rfl, .of hm8, atI_nat (by rw [List.getElem?_map, mostB_at R5]; rfl), ?_⟩
        have e38 := e37.trans e8
        have e78 := e7.trans e8
        have hM := manyB (n := ws.length) (R := R) few R5
        generalize upd H7 ml2 (.lst [V.int 6, .int 5, .int 4, .int 4, .int 4, .int 4]) = H8 at e38 e78 ⊢
        generalize mostBN R = M at hM ⊢
      case' b =>
        have w1 : ws.length = 1 := by
          refine Classical.byContradiction fun z => ngt (decide_eq_true ?_)
          rw [lus7]; omega
        have e38 := e37
        have e78 := e7
        have hM : ManyC ws.length R (mostAN R) := by rw [w1]; exact manyA R8
        generalize H7 = H8 at e38 e78 ⊢
        generalize mostAN R = M at hM ⊢
      all_goals
        have p8 := p3.same e38
        have p4 := p3.same e34
        have c8 : But p H2 H8 := c3.trans (.of e38)
        have hT8 := hT3.stay (.of e38)
        have hL8 : LineAt K C H8 la ws := hL4.stay (.of (e45.trans (e56.trans e78)))
        have hS8 : SpansOk (fun b => b ≠ p) H8 g ws := hS5.keep (fun b o _ z => (e56.trans e78) _ _ z) fun b (hb : H4 b = none) (z : b = p) => p4.ne hb z.symm
        refine ⟨3, rfl, by decide, by decide, ?_⟩
        refine for_range (lo := 0) (n := (3 : Int).toNat) (fun j σ H' => ∃ v8 v9 v10 v11 v12, σ = [some (.ref a), some (.int (0 + i)), some (.ref p), some (.ref t), some (.ref la), some (.ref g), some (.int (R : Nat)), some (.int (M : Nat)), v8, v9, v10, v11, v12] ∧ But p H8 H' ∧ PenAt H' p)
          ⟨_, _, _, _, _, rfl, fun _ _ _ z => z, p8⟩ ?_ ?_
        · rintro j σ H9 hj ⟨v8, v9, v10, v11, v12, rfl, c9, p9⟩
          have st8 : ∀ {H'}, But p H8 H' → St K H8 H' := fun c => .pen c p8
          obtain ⟨_, us, eus, hSt, hTt⟩ := (hT8.stay (st8 c9)).toTup
          cases eus
          have lus : us.length = ws.length := by rw [hTt.len]; exact List.length_map _
          have hMo := hM.one
          have hMf := hM.few
          refine ⟨.ref p, rfl, .ref t, rfl, t, us, rfl, .inr hSt, .int (M : Nat), rfl, p, us.length, M, rfl, p9, by omega, by omega, by omega, by omega, fun H11 o cs p11 c9' no ho11 lcs ics s1 sM => ?_⟩
          have c11 : But p H8 H11 := c9.trans c9'
          have hl : cs.length = ws.length := by omega
          have hS11 := hS8.keep (Ok' := fun b => b ≠ p) (fun b o hb z => c11 b o hb z) fun _ h => h
          obtain ⟨n, hn⟩ : ∃ n : Nat, cs.sum = ((n + 1 : Nat) : Int) := ⟨(cs.sum - 1).toNat, by omega⟩
          refine ⟨.ref g, rfl, .ref o, rfl, .int (R : Nat), rfl, g, o, ws, cs, R, n, rfl, hS11.any, .of ho11, hl, few, ics, hn, by omega, R8, hRe.rea, fun i hi => by rw [hl]; exact hM.pow i (by omega), fun H12 due e m e12 hev hek hnr hm hml hdue => ?_⟩
          have ene : e ≠ [] := fun z => by
            have := meets_len hek
            rw [z, hn] at this
            exact absurd this (by show ¬ ((0 : Nat) : Int) = _; omega)
          have hE1 : 1 ≤ endT e := by
            obtain ⟨x, hx⟩ := List.exists_mem_of_ne_nil _ ene
            have := hev.lt x hx
            have := (hev.nn x hx).1
            omega
          have hm2 := layersC_ok (R := R) (E := endT e) hl (getD_low ics) hE1 n m hm
          have he2 : endT e ≤ 2000 := by
            have key : ∀ (p : List Plc), NearP R p → endT p ≤ p.length * (R + 1) := by
              intro p
              induction hlen : p.length generalizing p with
              | zero => intro _; rw [List.eq_nil_of_length_eq_zero hlen]; exact Nat.zero_le _
              | succ k ih =>
                intro hp
                obtain ⟨p0, y, rfl⟩ : ∃ ks0 k, p = ks0 ++ [k] := by
                  rcases List.eq_nil_or_concat p with e | ⟨b0, z, e⟩
                  · rw [e] at hlen; exact nomatch hlen
                  · exact ⟨b0, z, by rw [e, List.concat_eq_append]⟩
                have h1 := hp p0 y [] rfl
                have h2 := ih p0 (by rw [List.length_append] at hlen; exact Nat.succ.inj hlen) fun a z b e => hp a z (b ++ [y]) (by rw [e, List.append_assoc]; rfl)
                rw [endT_snoc, Nat.succ_mul]
                split at h1 <;> omega
            have h1 := key e hnr
            have h2 := meets_len hek
            rw [List.length_map, hn] at h2
            have h3 : e.length * (R + 1) ≤ 8 * 9 := Nat.mul_le_mul (by omega) (by omega)
            omega
          have sh : Shows (planP m) := (plan_shows hm2.v few (by have := hm2.top; omega) (by rw [hm2.len]; omega)).shows (by decide) (by decide)
          obtain ⟨_, usD, eD, hSd, hTd⟩ := hdue.toTup
          cases eD
          have hL12 : LineAt K C H12 la ws := (hL8.stay (st8 c11)).stay (.of e12)
          have same : ∀ {H' H'' : Hp} {r : Addr} {plan : List Plc}, Same H12 H' → BestW ws nxAny cs plan → Same H' H'' → TkAt H'' r plan → Dp K H'' (.ref r) (planP m) := fun e1 hb e2 ht => by
            rw [law_bestC hRe.rea hl ics hn hev hek rfl hE1 hb hm fun q hq => lp_ends (hml q hq)]
            exact ht.dp
          refine ⟨2, rfl, by decide, by decide, ?_⟩
          refine for_range (lo := 0) (n := (2 : Int).toNat) (fun m' σ H' => ∃ v11, σ = [some (.ref a), some (.int (0 + i)), some (.ref p), some (.ref t), some (.ref la), some (.ref g), some (.int (R : Nat)), some (.int (M : Nat)), some (.int (0 + j)), some (.ref o), some (.ref due), v11, v12] ∧ Same H12 H') ⟨_, rfl, fun _ _ z => z⟩ ?_ ?_
          · rintro m' σ H13 hm' ⟨v11, rfl, e13⟩
            refine ⟨.ref la, rfl, .ref o, rfl, la, o, ws, R, cs, rfl, hL12.stay (.of e13), hRe, hN, e13 _ _ (e12 _ _ ho11), hl, ics, s1, by omega, fun H14 r plan e14 hb ht => ?_⟩
            exact ⟨.ref due, rfl, r, due, planP m, rfl, same e13 hb e14 ht, (hdue.stay (.of (e13.trans e14))).dp, sh, true, rfl, iteF ⟨_, rfl, e13.trans e14⟩⟩
          · rintro σ H13 ⟨v11, rfl, e13⟩
            refine ⟨.ref o, rfl, .ref la, rfl, la, o, ws, R, cs, rfl, hL12.stay (.of e13), hRe, hN, e13 _ _ (e12 _ _ ho11), hl, ics, s1, by omega, fun H14 r plan e14 hb ht => ?_⟩
            exact ⟨.ref due, rfl, r, due, planP m, rfl, same e13 hb e14 ht, (hdue.stay (.of (e13.trans e14))).dp, sh, true, rfl, iteF ⟨_, _, _, _, _, rfl, c11.trans (.of ((e12.trans e13).trans e14)), p11.same ((e12.trans e13).trans e14)⟩⟩
        · rintro σ H9 ⟨v8, v9, v10, v11, v12, rfl, c9, p9⟩
          exact ⟨_, _, _, _, _, _, _, _, _, _, _, _, rfl, fun b o h => (c8.trans c9) _ _ (ne_of_none h npH) (o2 _ _ h)⟩
    · rintro σ H1 ⟨v1, v2, v3, v4, v5, v6, v7, v8, v9, v10, v11, v12, rfl, e1⟩
      intro H2 la e12 hL2
      refine ⟨.ref la, rfl, by show 1 ≤ sizeLine; omega, fun o no => ?_⟩
      have eo := same_new (o := .tup [V.int 4]) no
      have ho3 : (upd H2 o (.tup [V.int 4])) o = some (.tup ([4].map V.int)) := upd_same
      have hL3 := hL2.stay (.of eo)
      generalize upd H2 o (.tup [V.int 4]) = H3 at eo ho3 hL3 ⊢
      refine ⟨la, o, [handA], 6, [4], rfl, hL3, hand_reach, hand_near, ho3, rfl, by decide, by decide, by decide, fun H4 r plan e4 hb ht => ?_⟩
      obtain rfl := hand_best hb
      have tk : Dp K H4 (.ref r) (planP handP) := ht.dp
      have hT4 : Tp K H4 (.ref r) (planP handP) := by
        obtain ⟨us, h1, h2⟩ := ht
        exact .tu (.of h1) h2.tp
      refine ⟨by show 2 ≤ sizeLine; omega, fun o1 no1 => ⟨by show 2 ≤ sizeLine; omega, fun o2 no2 => ⟨by show 2 ≤ sizeLine; omega, fun o3 no3 => ⟨by show 2 ≤ sizeLine; omega, fun o4 no4 => ⟨by show 4 ≤ sizeLine; omega, fun o5 no5 => ?_⟩⟩⟩⟩⟩
      have s1 := same_new (o := .tup [V.int 0, .int 0]) no1
      have h1 : (upd H4 o1 (.tup [V.int 0, .int 0])) o1 = some (.tup ([0, 0].map V.int)) := upd_same
      generalize upd H4 o1 (.tup [V.int 0, .int 0]) = H5 at s1 h1 no2 no3 no4 no5 ⊢
      have s2 := same_new (o := .tup [V.int 3, .int 0]) no2
      have h2 : (upd H5 o2 (.tup [V.int 3, .int 0])) o2 = some (.tup ([3, 0].map V.int)) := upd_same
      generalize upd H5 o2 (.tup [V.int 3, .int 0]) = H6 at s2 h2 no3 no4 no5 ⊢
      have s3 := same_new (o := .tup [V.int 7, .int 0]) no3
      have h3 : (upd H6 o3 (.tup [V.int 7, .int 0])) o3 = some (.tup ([7, 0].map V.int)) := upd_same
      generalize upd H6 o3 (.tup [V.int 7, .int 0]) = H7 at s3 h3 no4 no5 ⊢
      have s4 := same_new (o := .tup [V.int 10, .int 0]) no4
      have h4 : (upd H7 o4 (.tup [V.int 10, .int 0])) o4 = some (.tup ([10, 0].map V.int)) := upd_same
      generalize upd H7 o4 (.tup [V.int 10, .int 0]) = H8 at s4 h4 no5 ⊢
      have s5 := same_new (o := .tup [V.ref o1, .ref o2, .ref o3, .ref o4]) no5
      have h5 : (upd H8 o5 (.tup [V.ref o1, .ref o2, .ref o3, .ref o4])) o5 = some (.tup [V.ref o1, .ref o2, .ref o3, .ref o4]) := upd_same
      generalize upd H8 o5 (.tup [V.ref o1, .ref o2, .ref o3, .ref o4]) = H9 at s5 h5 ⊢
      have hd : Dp K H9 (.ref o5) (planP handP) := .tup (.of h5) (.cons (.tup (.of (s5 _ _ (s4 _ _ (s3 _ _ (s2 _ _ h1))))) (dpInts [0, 0])) (.cons (.tup (.of (s5 _ _ (s4 _ _ (s3 _ _ h2)))) (dpInts [3, 0])) (.cons (.tup (.of (s5 _ _ (s4 _ _ h3))) (dpInts [7, 0])) (.cons (.tup (.of (s5 _ _ h4)) (dpInts [10, 0])) .nil))))
      have hsm : SeqAt.shaped (planP handP) = true := (Small.tuple (n := 2) (pls_small handP (by decide))).shaped (by decide)
      refine ⟨planP handP, planP handP, (hT4.stay (.of ((((s1.trans s2).trans s3).trans s4).trans s5))).dp, hd, hsm, hsm, ?_⟩
      have ee : PyData.eqv (planP handP) (planP handP) = true := by
        show PyData.eqv (.tuple (plsD handP)) (.tuple (plsD handP)) = _
        rw [PyData.eqv, eqv_pls]; exact decide_eq_true rfl
      rw [ee]
      exact q _
end
end Sg
set_option Elab.async false
set_option linter.all false
set_option maxRecDepth 100000
set_option maxHeartbeats 4000000
namespace Sg
open PySem PySem.Spec PyProof.Rows L2 StX
theorem all_mk {l : PySem.W.OpenLaw} {w : World} {K : PySem.W.Frag} {h : Heap} {mg : Str → Option Value} {fa fd0 fd1 fd2 fd3 fd4 fd5 fd6 fd7 fd8 fd9 fd10 fd11 Dd11 fd12 fd13 fd14 fd15 fd16 fd17 fd18 fd19 fd20 fd21 fd22 fd23 fd24 fd25 fd26 fd27 fd28 fd29 fd30 fd31 fd32 fd33 fd34 fd35 fd36 fd37 fd38 fd39 fd40 fd41 C fm0 fm1 fm2 fm3 fm4 fm5 fm6 fm7 fm8 pp0 fp0 pp1 fp1 : Addr} {tu_NOWHERE tu_STATIONS tu_MOST_ITEMS tu_MOST_WORKS tu_MOST_OF_A_KIND tu_MOST_PIECES tu_NOTHING : Tok} {rsp0 rsp1 : List Value} {fo ro : Option Value} {odd0 and0 odd1 and1 odd2 and2 odd3 and3 odd4 and4 odd5 and5 odd6 and6 odd7 and7 odd8 and8 odd9 and9 odd10 and10 odd11 and11 odd12 and12 odd13 and13 odd14 and14 odd15 and15 odd16 and16 odd17 and17 odd18 and18 odd19 and19 odd20 and20 odd21 and21 odd22 and22 odd23 and23 odd24 and24 odd25 and25 odd26 and26 odd27 and27 odd28 and28 odd29 and29 odd30 and30 odd31 and31 odd32 and32 odd33 and33 odd34 and34 odd35 and35 odd36 and36 odd37 and37 odd38 and38 odd39 and39 odd40 and40 odd41 and41 odm0 anm0 odm1 anm1 odm2 anm2 odm3 anm3 odm4 anm4 odm5 anm5 odm6 anm6 odm7 anm7 odm8 anm8 odp0 anp0 odp1 anp1 : Option Addr} {sld0 sld1 sld2 sld3 sld4 sld5 sld6 sld7 sld8 sld9 sld10 sld11 sld12 sld13 sld14 sld15 sld16 sld17 sld18 sld19 sld20 sld21 sld22 sld23 sld24 sld25 sld26 sld27 sld28 sld29 sld30 sld31 sld32 sld33 sld34 sld35 sld36 sld37 sld38 sld39 sld40 sld41 slm0 slm1 slm2 slm3 slm4 slm5 slm6 slm7 slm8 slp0 slp1 : Array (Option Value)} {ocd0 kVd0 dcd0 pmd0 cdd0 ctd0 ocd1 kVd1 dcd1 pmd1 cdd1 ctd1 ocd2 kVd2 dcd2 pmd2 cdd2 ctd2 ocd3 kVd3 dcd3 pmd3 cdd3 ctd3 ocd4 kVd4 dcd4 pmd4 cdd4 ctd4 ocd5 kVd5 dcd5 pmd5 cdd5 ctd5 ocd6 kVd6 dcd6 pmd6 cdd6 ctd6 ocd7 kVd7 dcd7 pmd7 cdd7 ctd7 ocd8 kVd8 dcd8 pmd8 cdd8 ctd8 ocd9 kVd9 dcd9 pmd9 cdd9 ctd9 ocd10 kVd10 dcd10 pmd10 cdd10 ctd10 ocd11 kVd11 dcd11 pmd11 cdd11 ctd11 ocd12 kVd12 dcd12 pmd12 cdd12 ctd12 ocd13 kVd13 dcd13 pmd13 cdd13 ctd13 ocd14 kVd14 dcd14 pmd14 cdd14 ctd14 ocd15 kVd15 dcd15 pmd15 cdd15 ctd15 ocd16 kVd16 dcd16 pmd16 cdd16 ctd16 ocd17 kVd17 dcd17 pmd17 cdd17 ctd17 ocd18 kVd18 dcd18 pmd18 cdd18 ctd18 ocd19 kVd19 dcd19 pmd19 cdd19 ctd19 ocd20 kVd20 dcd20 pmd20 cdd20 ctd20 ocd21 kVd21 dcd21 pmd21 cdd21 ctd21 ocd22 kVd22 dcd22 pmd22 cdd22 ctd22 ocd23 kVd23 dcd23 pmd23 cdd23 ctd23 ocd24 kVd24 dcd24 pmd24 cdd24 ctd24 ocd25 kVd25 dcd25 pmd25 cdd25 ctd25 ocd26 kVd26 dcd26 pmd26 cdd26 ctd26 ocd27 kVd27 dcd27 pmd27 cdd27 ctd27 ocd28 kVd28 dcd28 pmd28 cdd28 ctd28 ocd29 kVd29 dcd29 pmd29 cdd29 ctd29 ocd30 kVd30 dcd30 pmd30 cdd30 ctd30 ocd31 kVd31 dcd31 pmd31 cdd31 ctd31 ocd32 kVd32 dcd32 pmd32 cdd32 ctd32 ocd33 kVd33 dcd33 pmd33 cdd33 ctd33 ocd34 kVd34 dcd34 pmd34 cdd34 ctd34 ocd35 kVd35 dcd35 pmd35 cdd35 ctd35 ocd36 kVd36 dcd36 pmd36 cdd36 ctd36 ocd37 kVd37 dcd37 pmd37 cdd37 ctd37 ocd38 kVd38 dcd38 pmd38 cdd38 ctd38 ocd39 kVd39 dcd39 pmd39 cdd39 ctd39 ocd40 kVd40 dcd40 pmd40 cdd40 ctd40 ocd41 kVd41 dcd41 pmd41 cdd41 ctd41 ocm0 kVm0 dcm0 pmm0 cdm0 ctm0 ocm1 kVm1 dcm1 pmm1 cdm1 ctm1 ocm2 kVm2 dcm2 pmm2 cdm2 ctm2 ocm3 kVm3 dcm3 pmm3 cdm3 ctm3 ocm4 kVm4 dcm4 pmm4 cdm4 ctm4 ocm5 kVm5 dcm5 pmm5 cdm5 ctm5 ocm6 kVm6 dcm6 pmm6 cdm6 ctm6 ocm7 kVm7 dcm7 pmm7 cdm7 ctm7 ocm8 kVm8 dcm8 pmm8 cdm8 ctm8 ocp0 kVp0 dcp0 pmp0 cdp0 ctp0 ocp1 kVp1 dcp1 pmp1 cdp1 ctp1 : Value} {ocDd11 : Value} {odDd11 : Option Addr} {nDd11 : Nat} {slDd11 : Array (Option Value)} {tDd11_0 tDd11_1 : Tok} (X : K.In h) (G : h.Ns mainGlobals mg) (hfa : mg "law" = some (.ref fa))
    (ad0 : PySem.W.nsIn K mainGlobals "is_int" = some (some (.ref fd0)))
    (ld0 : K.lookup fd0 = some ⟨ocd0, odd0, .func (PySem.W.fnOf "is_int" "is_int" (defArgs s_is_int) (defBody s_is_int) (defScope s_is_int) .none kVd0 dcd0 pmd0 and0 cdd0 ctd0), sld0⟩)
    (cd0 : PySem.W.codeIn K cdd0 "is_int" = true)
    (kd0 : PySem.W.keepIn K (.ref fd0) = true)
    (ad1 : PySem.W.nsIn K mainGlobals "is_between" = some (some (.ref fd1)))
    (ld1 : K.lookup fd1 = some ⟨ocd1, odd1, .func (PySem.W.fnOf "is_between" "is_between" (defArgs s_is_between) (defBody s_is_between) (defScope s_is_between) .none kVd1 dcd1 pmd1 and1 cdd1 ctd1), sld1⟩)
    (cd1 : PySem.W.codeIn K cdd1 "is_between" = true)
    (kd1 : PySem.W.keepIn K (.ref fd1) = true)
    (ad2 : PySem.W.nsIn K mainGlobals "is_work" = some (some (.ref fd2)))
    (ld2 : K.lookup fd2 = some ⟨ocd2, odd2, .func (PySem.W.fnOf "is_work" "is_work" (defArgs s_is_work) (defBody s_is_work) (defScope s_is_work) .none kVd2 dcd2 pmd2 and2 cdd2 ctd2), sld2⟩)
    (cd2 : PySem.W.codeIn K cdd2 "is_work" = true)
    (kd2 : PySem.W.keepIn K (.ref fd2) = true)
    (ad3 : PySem.W.nsIn K mainGlobals "bars" = some (some (.ref fd3)))
    (ld3 : K.lookup fd3 = some ⟨ocd3, odd3, .func (PySem.W.fnOf "bars" "bars" (defArgs s_bars) (defBody s_bars) (defScope s_bars) .none kVd3 dcd3 pmd3 and3 cdd3 ctd3), sld3⟩)
    (cd3 : PySem.W.codeIn K cdd3 "bars" = true)
    (kd3 : PySem.W.keepIn K (.ref fd3) = true)
    (ad4 : PySem.W.nsIn K mainGlobals "require_work" = some (some (.ref fd4)))
    (ld4 : K.lookup fd4 = some ⟨ocd4, odd4, .func (PySem.W.fnOf "require_work" "require_work" (defArgs s_require_work) (defBody s_require_work) (defScope s_require_work) .none kVd4 dcd4 pmd4 and4 cdd4 ctd4), sld4⟩)
    (cd4 : PySem.W.codeIn K cdd4 "require_work" = true)
    (kd4 : PySem.W.keepIn K (.ref fd4) = true)
    (ad5 : PySem.W.nsIn K mainGlobals "_clashes_behind" = some (some (.ref fd5)))
    (ld5 : K.lookup fd5 = some ⟨ocd5, odd5, .func (PySem.W.fnOf "_clashes_behind" "_clashes_behind" (defArgs s_clashes_behind) (defBody s_clashes_behind) (defScope s_clashes_behind) .none kVd5 dcd5 pmd5 and5 cdd5 ctd5), sld5⟩)
    (cd5 : PySem.W.codeIn K cdd5 "_clashes_behind" = true)
    (kd5 : PySem.W.keepIn K (.ref fd5) = true)
    (ad6 : PySem.W.nsIn K mainGlobals "is_kind" = some (some (.ref fd6)))
    (ld6 : K.lookup fd6 = some ⟨ocd6, odd6, .func (PySem.W.fnOf "is_kind" "is_kind" (defArgs s_is_kind) (defBody s_is_kind) (defScope s_is_kind) .none kVd6 dcd6 pmd6 and6 cdd6 ctd6), sld6⟩)
    (cd6 : PySem.W.codeIn K cdd6 "is_kind" = true)
    (kd6 : PySem.W.keepIn K (.ref fd6) = true)
    (ad7 : PySem.W.nsIn K mainGlobals "require_kind" = some (some (.ref fd7)))
    (ld7 : K.lookup fd7 = some ⟨ocd7, odd7, .func (PySem.W.fnOf "require_kind" "require_kind" (defArgs s_require_kind) (defBody s_require_kind) (defScope s_require_kind) .none kVd7 dcd7 pmd7 and7 cdd7 ctd7), sld7⟩)
    (cd7 : PySem.W.codeIn K cdd7 "require_kind" = true)
    (kd7 : PySem.W.keepIn K (.ref fd7) = true)
    (ad8 : PySem.W.nsIn K mainGlobals "_bars_of_all" = some (some (.ref fd8)))
    (ld8 : K.lookup fd8 = some ⟨ocd8, odd8, .func (PySem.W.fnOf "_bars_of_all" "_bars_of_all" (defArgs s_bars_of_all) (defBody s_bars_of_all) (defScope s_bars_of_all) .none kVd8 dcd8 pmd8 and8 cdd8 ctd8), sld8⟩)
    (cd8 : PySem.W.codeIn K cdd8 "_bars_of_all" = true)
    (kd8 : PySem.W.keepIn K (.ref fd8) = true)
    (ad9 : PySem.W.nsIn K mainGlobals "require_line" = some (some (.ref fd9)))
    (ld9 : K.lookup fd9 = some ⟨ocd9, odd9, .func (PySem.W.fnOf "require_line" "require_line" (defArgs s_require_line) (defBody s_require_line) (defScope s_require_line) .none kVd9 dcd9 pmd9 and9 cdd9 ctd9), sld9⟩)
    (cd9 : PySem.W.codeIn K cdd9 "require_line" = true)
    (kd9 : PySem.W.keepIn K (.ref fd9) = true)
    (ad10 : PySem.W.nsIn K mainGlobals "numbered_moves" = some (some (.ref fd10)))
    (ld10 : K.lookup fd10 = some ⟨ocd10, odd10, .func (PySem.W.fnOf "numbered_moves" "numbered_moves" (defArgs s_numbered_moves) (defBody s_numbered_moves) (defScope s_numbered_moves) .none kVd10 dcd10 pmd10 and10 cdd10 ctd10), sld10⟩)
    (cd10 : PySem.W.codeIn K cdd10 "numbered_moves" = true)
    (kd10 : PySem.W.keepIn K (.ref fd10) = true)
    (ad11 : PySem.W.nsIn K mainGlobals "require_near" = some (some (.ref fd11)))
    (ld11 : K.lookup fd11 = some ⟨ocd11, odd11, .func (PySem.W.fnOf "require_near" "require_near" (defArgs s_require_near) (defBody s_require_near) (defScope s_require_near) (.ref Dd11) kVd11 dcd11 pmd11 and11 cdd11 ctd11), sld11⟩)
    (D_d11 : K.lookup Dd11 = some ⟨ocDd11, odDd11, .seq #[.int 8 tDd11_0, .int 5 tDd11_1] nDd11, slDd11⟩)
    (cd11 : PySem.W.codeIn K cdd11 "require_near" = true)
    (kd11 : PySem.W.keepIn K (.ref fd11) = true)
    (ad12 : PySem.W.nsIn K mainGlobals "_empty_state" = some (some (.ref fd12)))
    (ld12 : K.lookup fd12 = some ⟨ocd12, odd12, .func (PySem.W.fnOf "_empty_state" "_empty_state" (defArgs s_empty_state) (defBody s_empty_state) (defScope s_empty_state) .none kVd12 dcd12 pmd12 and12 cdd12 ctd12), sld12⟩)
    (cd12 : PySem.W.codeIn K cdd12 "_empty_state" = true)
    (kd12 : PySem.W.keepIn K (.ref fd12) = true)
    (ad13 : PySem.W.nsIn K mainGlobals "_open_choices" = some (some (.ref fd13)))
    (ld13 : K.lookup fd13 = some ⟨ocd13, odd13, .func (PySem.W.fnOf "_open_choices" "_open_choices" (defArgs s_open_choices) (defBody s_open_choices) (defScope s_open_choices) .none kVd13 dcd13 pmd13 and13 cdd13 ctd13), sld13⟩)
    (cd13 : PySem.W.codeIn K cdd13 "_open_choices" = true)
    (kd13 : PySem.W.keepIn K (.ref fd13) = true)
    (ad14 : PySem.W.nsIn K mainGlobals "_behind" = some (some (.ref fd14)))
    (ld14 : K.lookup fd14 = some ⟨ocd14, odd14, .func (PySem.W.fnOf "_behind" "_behind" (defArgs s_behind) (defBody s_behind) (defScope s_behind) .none kVd14 dcd14 pmd14 and14 cdd14 ctd14), sld14⟩)
    (cd14 : PySem.W.codeIn K cdd14 "_behind" = true)
    (kd14 : PySem.W.keepIn K (.ref fd14) = true)
    (ad15 : PySem.W.nsIn K mainGlobals "_delays" = some (some (.ref fd15)))
    (ld15 : K.lookup fd15 = some ⟨ocd15, odd15, .func (PySem.W.fnOf "_delays" "_delays" (defArgs s_delays) (defBody s_delays) (defScope s_delays) .none kVd15 dcd15 pmd15 and15 cdd15 ctd15), sld15⟩)
    (cd15 : PySem.W.codeIn K cdd15 "_delays" = true)
    (kd15 : PySem.W.keepIn K (.ref fd15) = true)
    (ad16 : PySem.W.nsIn K mainGlobals "_ascending" = some (some (.ref fd16)))
    (ld16 : K.lookup fd16 = some ⟨ocd16, odd16, .func (PySem.W.fnOf "_ascending" "_ascending" (defArgs s_ascending) (defBody s_ascending) (defScope s_ascending) .none kVd16 dcd16 pmd16 and16 cdd16 ctd16), sld16⟩)
    (cd16 : PySem.W.codeIn K cdd16 "_ascending" = true)
    (kd16 : PySem.W.keepIn K (.ref fd16) = true)
    (ad17 : PySem.W.nsIn K mainGlobals "_moves" = some (some (.ref fd17)))
    (ld17 : K.lookup fd17 = some ⟨ocd17, odd17, .func (PySem.W.fnOf "_moves" "_moves" (defArgs s_moves) (defBody s_moves) (defScope s_moves) .none kVd17 dcd17 pmd17 and17 cdd17 ctd17), sld17⟩)
    (cd17 : PySem.W.codeIn K cdd17 "_moves" = true)
    (kd17 : PySem.W.keepIn K (.ref fd17) = true)
    (ad18 : PySem.W.nsIn K mainGlobals "soonest_of" = some (some (.ref fd18)))
    (ld18 : K.lookup fd18 = some ⟨ocd18, odd18, .func (PySem.W.fnOf "soonest_of" "soonest_of" (defArgs s_soonest_of) (defBody s_soonest_of) (defScope s_soonest_of) .none kVd18 dcd18 pmd18 and18 cdd18 ctd18), sld18⟩)
    (cd18 : PySem.W.codeIn K cdd18 "soonest_of" = true)
    (kd18 : PySem.W.keepIn K (.ref fd18) = true)
    (ad19 : PySem.W.nsIn K mainGlobals "_require_counts" = some (some (.ref fd19)))
    (ld19 : K.lookup fd19 = some ⟨ocd19, odd19, .func (PySem.W.fnOf "_require_counts" "_require_counts" (defArgs s_require_counts) (defBody s_require_counts) (defScope s_require_counts) .none kVd19 dcd19 pmd19 and19 cdd19 ctd19), sld19⟩)
    (cd19 : PySem.W.codeIn K cdd19 "_require_counts" = true)
    (kd19 : PySem.W.keepIn K (.ref fd19) = true)
    (ad20 : PySem.W.nsIn K mainGlobals "_next_of_any" = some (some (.ref fd20)))
    (ld20 : K.lookup fd20 = some ⟨ocd20, odd20, .func (PySem.W.fnOf "_next_of_any" "_next_of_any" (defArgs s_next_of_any) (defBody s_next_of_any) (defScope s_next_of_any) .none kVd20 dcd20 pmd20 and20 cdd20 ctd20), sld20⟩)
    (cd20 : PySem.W.codeIn K cdd20 "_next_of_any" = true)
    (kd20 : PySem.W.keepIn K (.ref fd20) = true)
    (ad21 : PySem.W.nsIn K mainGlobals "_soonest_plan" = some (some (.ref fd21)))
    (ld21 : K.lookup fd21 = some ⟨ocd21, odd21, .func (PySem.W.fnOf "_soonest_plan" "_soonest_plan" (defArgs s_soonest_plan) (defBody s_soonest_plan) (defScope s_soonest_plan) .none kVd21 dcd21 pmd21 and21 cdd21 ctd21), sld21⟩)
    (cd21 : PySem.W.codeIn K cdd21 "_soonest_plan" = true)
    (kd21 : PySem.W.keepIn K (.ref fd21) = true)
    (ad22 : PySem.W.nsIn K mainGlobals "_next_layer" = some (some (.ref fd22)))
    (ld22 : K.lookup fd22 = some ⟨ocd22, odd22, .func (PySem.W.fnOf "_next_layer" "_next_layer" (defArgs s_next_layer) (defBody s_next_layer) (defScope s_next_layer) .none kVd22 dcd22 pmd22 and22 cdd22 ctd22), sld22⟩)
    (cd22 : PySem.W.codeIn K cdd22 "_next_layer" = true)
    (kd22 : PySem.W.keepIn K (.ref fd22) = true)
    (ad23 : PySem.W.nsIn K mainGlobals "_steps" = some (some (.ref fd23)))
    (ld23 : K.lookup fd23 = some ⟨ocd23, odd23, .func (PySem.W.fnOf "_steps" "_steps" (defArgs s_steps) (defBody s_steps) (defScope s_steps) .none kVd23 dcd23 pmd23 and23 cdd23 ctd23), sld23⟩)
    (cd23 : PySem.W.codeIn K cdd23 "_steps" = true)
    (kd23 : PySem.W.keepIn K (.ref fd23) = true)
    (ad24 : PySem.W.nsIn K mainGlobals "_law_cell_at" = some (some (.ref fd24)))
    (ld24 : K.lookup fd24 = some ⟨ocd24, odd24, .func (PySem.W.fnOf "_law_cell_at" "_law_cell_at" (defArgs s_l_cell_at) (defBody s_l_cell_at) (defScope s_l_cell_at) .none kVd24 dcd24 pmd24 and24 cdd24 ctd24), sld24⟩)
    (cd24 : PySem.W.codeIn K cdd24 "_law_cell_at" = true)
    (kd24 : PySem.W.keepIn K (.ref fd24) = true)
    (ad25 : PySem.W.nsIn K mainGlobals "_law_pen" = some (some (.ref fd25)))
    (ld25 : K.lookup fd25 = some ⟨ocd25, odd25, .func (PySem.W.fnOf "_law_pen" "_law_pen" (defArgs s_l_pen) (defBody s_l_pen) (defScope s_l_pen) .none kVd25 dcd25 pmd25 and25 cdd25 ctd25), sld25⟩)
    (cd25 : PySem.W.codeIn K cdd25 "_law_pen" = true)
    (kd25 : PySem.W.keepIn K (.ref fd25) = true)
    (ad26 : PySem.W.nsIn K mainGlobals "_law_draw" = some (some (.ref fd26)))
    (ld26 : K.lookup fd26 = some ⟨ocd26, odd26, .func (PySem.W.fnOf "_law_draw" "_law_draw" (defArgs s_l_draw) (defBody s_l_draw) (defScope s_l_draw) .none kVd26 dcd26 pmd26 and26 cdd26 ctd26), sld26⟩)
    (cd26 : PySem.W.codeIn K cdd26 "_law_draw" = true)
    (kd26 : PySem.W.keepIn K (.ref fd26) = true)
    (ad27 : PySem.W.nsIn K mainGlobals "_law_pick" = some (some (.ref fd27)))
    (ld27 : K.lookup fd27 = some ⟨ocd27, odd27, .func (PySem.W.fnOf "_law_pick" "_law_pick" (defArgs s_l_pick) (defBody s_l_pick) (defScope s_l_pick) .none kVd27 dcd27 pmd27 and27 cdd27 ctd27), sld27⟩)
    (cd27 : PySem.W.codeIn K cdd27 "_law_pick" = true)
    (kd27 : PySem.W.keepIn K (.ref fd27) = true)
    (ad28 : PySem.W.nsIn K mainGlobals "_law_same" = some (some (.ref fd28)))
    (ld28 : K.lookup fd28 = some ⟨ocd28, odd28, .func (PySem.W.fnOf "_law_same" "_law_same" (defArgs s_l_same) (defBody s_l_same) (defScope s_l_same) .none kVd28 dcd28 pmd28 and28 cdd28 ctd28), sld28⟩)
    (cd28 : PySem.W.codeIn K cdd28 "_law_same" = true)
    (kd28 : PySem.W.keepIn K (.ref fd28) = true)
    (ad29 : PySem.W.nsIn K mainGlobals "_law_names" = some (some (.ref fd29)))
    (ld29 : K.lookup fd29 = some ⟨ocd29, odd29, .func (PySem.W.fnOf "_law_names" "_law_names" (defArgs s_l_names) (defBody s_l_names) (defScope s_l_names) .none kVd29 dcd29 pmd29 and29 cdd29 ctd29), sld29⟩)
    (cd29 : PySem.W.codeIn K cdd29 "_law_names" = true)
    (kd29 : PySem.W.keepIn K (.ref fd29) = true)
    (ad30 : PySem.W.nsIn K mainGlobals "_law_work" = some (some (.ref fd30)))
    (ld30 : K.lookup fd30 = some ⟨ocd30, odd30, .func (PySem.W.fnOf "_law_work" "_law_work" (defArgs s_l_work) (defBody s_l_work) (defScope s_l_work) .none kVd30 dcd30 pmd30 and30 cdd30 ctd30), sld30⟩)
    (cd30 : PySem.W.codeIn K cdd30 "_law_work" = true)
    (kd30 : PySem.W.keepIn K (.ref fd30) = true)
    (ad31 : PySem.W.nsIn K mainGlobals "_law_works" = some (some (.ref fd31)))
    (ld31 : K.lookup fd31 = some ⟨ocd31, odd31, .func (PySem.W.fnOf "_law_works" "_law_works" (defArgs s_l_works) (defBody s_l_works) (defScope s_l_works) .none kVd31 dcd31 pmd31 and31 cdd31 ctd31), sld31⟩)
    (cd31 : PySem.W.codeIn K cdd31 "_law_works" = true)
    (kd31 : PySem.W.keepIn K (.ref fd31) = true)
    (ad32 : PySem.W.nsIn K mainGlobals "_law_line" = some (some (.ref fd32)))
    (ld32 : K.lookup fd32 = some ⟨ocd32, odd32, .func (PySem.W.fnOf "_law_line" "_law_line" (defArgs s_l_line) (defBody s_l_line) (defScope s_l_line) .none kVd32 dcd32 pmd32 and32 cdd32 ctd32), sld32⟩)
    (cd32 : PySem.W.codeIn K cdd32 "_law_line" = true)
    (kd32 : PySem.W.keepIn K (.ref fd32) = true)
    (ad33 : PySem.W.nsIn K mainGlobals "_law_between" = some (some (.ref fd33)))
    (ld33 : K.lookup fd33 = some ⟨ocd33, odd33, .func (PySem.W.fnOf "_law_between" "_law_between" (defArgs s_l_between) (defBody s_l_between) (defScope s_l_between) .none kVd33 dcd33 pmd33 and33 cdd33 ctd33), sld33⟩)
    (cd33 : PySem.W.codeIn K cdd33 "_law_between" = true)
    (kd33 : PySem.W.keepIn K (.ref fd33) = true)
    (ad34 : PySem.W.nsIn K mainGlobals "_law_bars" = some (some (.ref fd34)))
    (ld34 : K.lookup fd34 = some ⟨ocd34, odd34, .func (PySem.W.fnOf "_law_bars" "_law_bars" (defArgs s_l_bars) (defBody s_l_bars) (defScope s_l_bars) .none kVd34 dcd34 pmd34 and34 cdd34 ctd34), sld34⟩)
    (cd34 : PySem.W.codeIn K cdd34 "_law_bars" = true)
    (kd34 : PySem.W.keepIn K (.ref fd34) = true)
    (ad35 : PySem.W.nsIn K mainGlobals "_law_reach" = some (some (.ref fd35)))
    (ld35 : K.lookup fd35 = some ⟨ocd35, odd35, .func (PySem.W.fnOf "_law_reach" "_law_reach" (defArgs s_l_reach) (defBody s_l_reach) (defScope s_l_reach) .none kVd35 dcd35 pmd35 and35 cdd35 ctd35), sld35⟩)
    (cd35 : PySem.W.codeIn K cdd35 "_law_reach" = true)
    (kd35 : PySem.W.keepIn K (.ref fd35) = true)
    (ad36 : PySem.W.nsIn K mainGlobals "_law_is_free" = some (some (.ref fd36)))
    (ld36 : K.lookup fd36 = some ⟨ocd36, odd36, .func (PySem.W.fnOf "_law_is_free" "_law_is_free" (defArgs s_l_is_free) (defBody s_l_is_free) (defScope s_l_is_free) .none kVd36 dcd36 pmd36 and36 cdd36 ctd36), sld36⟩)
    (cd36 : PySem.W.codeIn K cdd36 "_law_is_free" = true)
    (kd36 : PySem.W.keepIn K (.ref fd36) = true)
    (ad37 : PySem.W.nsIn K mainGlobals "_law_early_last" = some (some (.ref fd37)))
    (ld37 : K.lookup fd37 = some ⟨ocd37, odd37, .func (PySem.W.fnOf "_law_early_last" "_law_early_last" (defArgs s_l_early_last) (defBody s_l_early_last) (defScope s_l_early_last) .none kVd37 dcd37 pmd37 and37 cdd37 ctd37), sld37⟩)
    (cd37 : PySem.W.codeIn K cdd37 "_law_early_last" = true)
    (kd37 : PySem.W.keepIn K (.ref fd37) = true)
    (ad38 : PySem.W.nsIn K mainGlobals "_law_longer" = some (some (.ref fd38)))
    (ld38 : K.lookup fd38 = some ⟨ocd38, odd38, .func (PySem.W.fnOf "_law_longer" "_law_longer" (defArgs s_l_longer) (defBody s_l_longer) (defScope s_l_longer) .none kVd38 dcd38 pmd38 and38 cdd38 ctd38), sld38⟩)
    (cd38 : PySem.W.codeIn K cdd38 "_law_longer" = true)
    (kd38 : PySem.W.keepIn K (.ref fd38) = true)
    (ad39 : PySem.W.nsIn K mainGlobals "_law_soonest" = some (some (.ref fd39)))
    (ld39 : K.lookup fd39 = some ⟨ocd39, odd39, .func (PySem.W.fnOf "_law_soonest" "_law_soonest" (defArgs s_l_soonest) (defBody s_l_soonest) (defScope s_l_soonest) .none kVd39 dcd39 pmd39 and39 cdd39 ctd39), sld39⟩)
    (cd39 : PySem.W.codeIn K cdd39 "_law_soonest" = true)
    (kd39 : PySem.W.keepIn K (.ref fd39) = true)
    (ad40 : PySem.W.nsIn K mainGlobals "_law_counts" = some (some (.ref fd40)))
    (ld40 : K.lookup fd40 = some ⟨ocd40, odd40, .func (PySem.W.fnOf "_law_counts" "_law_counts" (defArgs s_l_counts) (defBody s_l_counts) (defScope s_l_counts) .none kVd40 dcd40 pmd40 and40 cdd40 ctd40), sld40⟩)
    (cd40 : PySem.W.codeIn K cdd40 "_law_counts" = true)
    (kd40 : PySem.W.keepIn K (.ref fd40) = true)
    (ad41 : PySem.W.nsIn K mainGlobals "law" = some (some (.ref fd41)))
    (ld41 : K.lookup fd41 = some ⟨ocd41, odd41, .func (PySem.W.fnOf "law" "law" (defArgs s_law) (defBody s_law) (defScope s_law) .none kVd41 dcd41 pmd41 and41 cdd41 ctd41), sld41⟩)
    (cd41 : PySem.W.codeIn K cdd41 "law" = true)
    (kd41 : PySem.W.keepIn K (.ref fd41) = true)
    (aC : PySem.W.nsIn K mainGlobals "Line" = some (some (.ref C)))
    (am0 : PySem.W.findIn K (.ref C) "__init__" = some (some (.ref fm0)))
    (im0 : PySem.W.isFn K (.ref fm0) = true)
    (lm0 : K.lookup fm0 = some ⟨ocm0, odm0, .func (PySem.W.fnOf "__init__" "Line.__init__" (defArgs s_Line_init) (defBody s_Line_init) (defScope s_Line_init) .none kVm0 dcm0 pmm0 anm0 cdm0 ctm0), slm0⟩)
    (cm0 : PySem.W.codeIn K cdm0 "Line.__init__" = true)
    (km0 : PySem.W.keepIn K (.ref fm0) = true)
    (am1 : PySem.W.findIn K (.ref C) "__len__" = some (some (.ref fm1)))
    (im1 : PySem.W.isFn K (.ref fm1) = true)
    (lm1 : K.lookup fm1 = some ⟨ocm1, odm1, .func (PySem.W.fnOf "__len__" "Line.__len__" (defArgs s_Line_len) (defBody s_Line_len) (defScope s_Line_len) .none kVm1 dcm1 pmm1 anm1 cdm1 ctm1), slm1⟩)
    (cm1 : PySem.W.codeIn K cdm1 "Line.__len__" = true)
    (km1 : PySem.W.keepIn K (.ref fm1) = true)
    (am2 : PySem.W.findIn K (.ref C) "__call__" = some (some (.ref fm2)))
    (im2 : PySem.W.isFn K (.ref fm2) = true)
    (lm2 : K.lookup fm2 = some ⟨ocm2, odm2, .func (PySem.W.fnOf "__call__" "Line.__call__" (defArgs s_Line_call) (defBody s_Line_call) (defScope s_Line_call) .none kVm2 dcm2 pmm2 anm2 cdm2 ctm2), slm2⟩)
    (cm2 : PySem.W.codeIn K cdm2 "Line.__call__" = true)
    (km2 : PySem.W.keepIn K (.ref fm2) = true)
    (am3 : PySem.W.findIn K (.ref C) "__add__" = some (some (.ref fm3)))
    (im3 : PySem.W.isFn K (.ref fm3) = true)
    (lm3 : K.lookup fm3 = some ⟨ocm3, odm3, .func (PySem.W.fnOf "__add__" "Line.__add__" (defArgs s_Line_add) (defBody s_Line_add) (defScope s_Line_add) .none kVm3 dcm3 pmm3 anm3 cdm3 ctm3), slm3⟩)
    (cm3 : PySem.W.codeIn K cdm3 "Line.__add__" = true)
    (km3 : PySem.W.keepIn K (.ref fm3) = true)
    (am4 : PySem.W.findIn K (.ref C) "__sub__" = some (some (.ref fm4)))
    (im4 : PySem.W.isFn K (.ref fm4) = true)
    (lm4 : K.lookup fm4 = some ⟨ocm4, odm4, .func (PySem.W.fnOf "__sub__" "Line.__sub__" (defArgs s_Line_sub) (defBody s_Line_sub) (defScope s_Line_sub) .none kVm4 dcm4 pmm4 anm4 cdm4 ctm4), slm4⟩)
    (cm4 : PySem.W.codeIn K cdm4 "Line.__sub__" = true)
    (km4 : PySem.W.keepIn K (.ref fm4) = true)
    (am5 : PySem.W.findIn K (.ref C) "__neg__" = some (some (.ref fm5)))
    (im5 : PySem.W.isFn K (.ref fm5) = true)
    (lm5 : K.lookup fm5 = some ⟨ocm5, odm5, .func (PySem.W.fnOf "__neg__" "Line.__neg__" (defArgs s_Line_neg) (defBody s_Line_neg) (defScope s_Line_neg) .none kVm5 dcm5 pmm5 anm5 cdm5 ctm5), slm5⟩)
    (cm5 : PySem.W.codeIn K cdm5 "Line.__neg__" = true)
    (km5 : PySem.W.keepIn K (.ref fm5) = true)
    (am6 : PySem.W.findIn K (.ref C) "__eq__" = some (some (.ref fm6)))
    (im6 : PySem.W.isFn K (.ref fm6) = true)
    (lm6 : K.lookup fm6 = some ⟨ocm6, odm6, .func (PySem.W.fnOf "__eq__" "Line.__eq__" (defArgs s_Line_eq) (defBody s_Line_eq) (defScope s_Line_eq) .none kVm6 dcm6 pmm6 anm6 cdm6 ctm6), slm6⟩)
    (cm6 : PySem.W.codeIn K cdm6 "Line.__eq__" = true)
    (km6 : PySem.W.keepIn K (.ref fm6) = true)
    (am7 : PySem.W.findIn K (.ref C) "__getitem__" = some (some (.ref fm7)))
    (im7 : PySem.W.isFn K (.ref fm7) = true)
    (lm7 : K.lookup fm7 = some ⟨ocm7, odm7, .func (PySem.W.fnOf "__getitem__" "Line.__getitem__" (defArgs s_Line_getitem) (defBody s_Line_getitem) (defScope s_Line_getitem) .none kVm7 dcm7 pmm7 anm7 cdm7 ctm7), slm7⟩)
    (cm7 : PySem.W.codeIn K cdm7 "Line.__getitem__" = true)
    (km7 : PySem.W.keepIn K (.ref fm7) = true)
    (am8 : PySem.W.findIn K (.ref C) "__repr__" = some (some (.ref fm8)))
    (im8 : PySem.W.isFn K (.ref fm8) = true)
    (lm8 : K.lookup fm8 = some ⟨ocm8, odm8, .func (PySem.W.fnOf "__repr__" "Line.__repr__" (defArgs s_Line_repr) (defBody s_Line_repr) (defScope s_Line_repr) .none kVm8 dcm8 pmm8 anm8 cdm8 ctm8), slm8⟩)
    (cm8 : PySem.W.codeIn K cdm8 "Line.__repr__" = true)
    (km8 : PySem.W.keepIn K (.ref fm8) = true)
    (ap0 : PySem.W.findIn K (.ref C) "works" = some (some (.ref pp0)))
    (gp0 : PySem.W.specialIn K (.ref pp0) "__get__" = some (some (.builtin "property.__get__")))
    (tp0 : PySem.W.takesIn K (.ref pp0) = some true)
    (rp0 : PySem.W.recIn K pp0 "property" = some (.ref fp0 :: rsp0))
    (lp0 : K.lookup fp0 = some ⟨ocp0, odp0, .func (PySem.W.fnOf "works" "Line.works" (defArgs s_Line_works) (defBody s_Line_works) (defScope s_Line_works) .none kVp0 dcp0 pmp0 anp0 cdp0 ctp0), slp0⟩)
    (cp0 : PySem.W.codeIn K cdp0 "Line.works" = true)
    (kp0 : PySem.W.keepIn K (.ref fp0) = true)
    (ap1 : PySem.W.findIn K (.ref C) "reach" = some (some (.ref pp1)))
    (gp1 : PySem.W.specialIn K (.ref pp1) "__get__" = some (some (.builtin "property.__get__")))
    (tp1 : PySem.W.takesIn K (.ref pp1) = some true)
    (rp1 : PySem.W.recIn K pp1 "property" = some (.ref fp1 :: rsp1))
    (lp1 : K.lookup fp1 = some ⟨ocp1, odp1, .func (PySem.W.fnOf "reach" "Line.reach" (defArgs s_Line_reach) (defBody s_Line_reach) (defScope s_Line_reach) .none kVp1 dcp1 pmp1 anp1 cdp1 ctp1), slp1⟩)
    (cp1 : PySem.W.codeIn K cdp1 "Line.reach" = true)
    (kp1 : PySem.W.keepIn K (.ref fp1) = true)
    (pg : PySem.W.plainGet K C Str.empty = true)
    (hd : PySem.W.hasDictIn K C = true)
    (po : PySem.W.plainOver K C = true)
    (sa : PySem.W.findIn K (.ref C) "__setattr__" = some (some (.builtin "object.__setattr__")))
    (mk : PySem.W.makesIn K C = true)
    (kc : PySem.W.keepIn K (.ref C) = true)
    (nW : PySem.W.findIn K (.ref C) "_works" = some none)
    (nB : PySem.W.findIn K (.ref C) "_bars" = some none)
    (nR : PySem.W.findIn K (.ref C) "_reach" = some none)
    (ha : PySem.W.findIn K (.ref C) "__class__" = some (some (.builtin "object.__class__")))
    (hn : PySem.W.specialIn K (.builtin "object.__class__") "__get__" = some (some (.builtin "getset_descriptor.__get__")))
    (ht : PySem.W.takesIn K (.builtin "object.__class__") = some true)
    (hm : PySem.W.mroIn K C (.type "object") = some true)
    (sf : PySem.W.selfFirst K C = true)
    (rs : PySem.W.findIn K (.ref C) "__rsub__" = some none)
    (is1 : PySem.W.findIn K (.type "int") "__sub__" = some fo)
    (ir1 : PySem.W.findIn K (.type "int") "__rsub__" = some ro)
    (nsub : PySem.W.subIn K (.type "int") (.ref C) = some false)
    (ne : PySem.W.findIn K (.ref C) "__ne__" = some (some (.builtin "object.__ne__")))
    (ob : PySem.W.subIn K (.ref C) (.type "object") = some true)
    (fi : PySem.W.fnIn K fm2 = true)
    (fg : PySem.W.fnIn K fm7 = true)
    (z_isinstance : PySem.W.nsIn K mainGlobals "isinstance" = some none)
    (z_int : PySem.W.nsIn K mainGlobals "int" = some none)
    (z_bool : PySem.W.nsIn K mainGlobals "bool" = some none)
    (z_tuple : PySem.W.nsIn K mainGlobals "tuple" = some none)
    (z_len : PySem.W.nsIn K mainGlobals "len" = some none)
    (z_all : PySem.W.nsIn K mainGlobals "all" = some none)
    (z_any : PySem.W.nsIn K mainGlobals "any" = some none)
    (z_zip : PySem.W.nsIn K mainGlobals "zip" = some none)
    (z_range : PySem.W.nsIn K mainGlobals "range" = some none)
    (z_max : PySem.W.nsIn K mainGlobals "max" = some none)
    (z_min : PySem.W.nsIn K mainGlobals "min" = some none)
    (z_enumerate : PySem.W.nsIn K mainGlobals "enumerate" = some none)
    (z_sorted : PySem.W.nsIn K mainGlobals "sorted" = some none)
    (z_set : PySem.W.nsIn K mainGlobals "set" = some none)
    (z_list : PySem.W.nsIn K mainGlobals "list" = some none)
    (z_repr : PySem.W.nsIn K mainGlobals "repr" = some none)
    (z_sum : PySem.W.nsIn K mainGlobals "sum" = some none)
    (u_NOWHERE : PySem.W.nsIn K mainGlobals "NOWHERE" = some (some (.int (-1) tu_NOWHERE)))
    (u_STATIONS : PySem.W.nsIn K mainGlobals "STATIONS" = some (some (.int (10) tu_STATIONS)))
    (u_MOST_ITEMS : PySem.W.nsIn K mainGlobals "MOST_ITEMS" = some (some (.int (60) tu_MOST_ITEMS)))
    (u_MOST_WORKS : PySem.W.nsIn K mainGlobals "MOST_WORKS" = some (some (.int (3) tu_MOST_WORKS)))
    (u_MOST_OF_A_KIND : PySem.W.nsIn K mainGlobals "MOST_OF_A_KIND" = some (some (.int (4) tu_MOST_OF_A_KIND)))
    (u_MOST_PIECES : PySem.W.nsIn K mainGlobals "MOST_PIECES" = some (some (.int (8) tu_MOST_PIECES)))
    (u_NOTHING : PySem.W.nsIn K mainGlobals "NOTHING" = some (some (.int (-1) tu_NOTHING))) :
    ∃ fd : FuncData, (∀ (s : Shared) (v : Value), BindsTo s fd ⟨[v], []⟩ [("_law_script", v)]) ∧ ∀ base : Heap, K.In base → base.Ns mainGlobals mg → FnG l.prog w K mg base 19 fa fd ["_law_script"] (spLaw K) := by
  have e := hfa.symm.trans (PySem.W.mg_of X G ad41)
  cases e
  have y_isinstance := PySem.W.mg_none_of X G z_isinstance
  have y_int := PySem.W.mg_none_of X G z_int
  have y_bool := PySem.W.mg_none_of X G z_bool
  have y_tuple := PySem.W.mg_none_of X G z_tuple
  have y_len := PySem.W.mg_none_of X G z_len
  have y_all := PySem.W.mg_none_of X G z_all
  have y_any := PySem.W.mg_none_of X G z_any
  have y_zip := PySem.W.mg_none_of X G z_zip
  have y_range := PySem.W.mg_none_of X G z_range
  have y_max := PySem.W.mg_none_of X G z_max
  have y_min := PySem.W.mg_none_of X G z_min
  have y_enumerate := PySem.W.mg_none_of X G z_enumerate
  have y_sorted := PySem.W.mg_none_of X G z_sorted
  have y_set := PySem.W.mg_none_of X G z_set
  have y_list := PySem.W.mg_none_of X G z_list
  have y_repr := PySem.W.mg_none_of X G z_repr
  have y_sum := PySem.W.mg_none_of X G z_sum
  have Fd0 := fun_mk (st := s_is_int) ld0 cd0 kd0
  have bd0 := Fd0.binds (ps := ["thing"]) fun _ _ _ _ _ _ us hl => match us, hl with | [_], _ => rfl
  have vd0 := PySem.W.mg_of X G ad0
  have Fd1 := fun_mk (st := s_is_between) ld1 cd1 kd1
  have bd1 := Fd1.binds (ps := ["thing", "least", "most"]) fun _ _ _ _ _ _ us hl => match us, hl with | [_, _, _], _ => rfl
  have vd1 := PySem.W.mg_of X G ad1
  have Fd2 := fun_mk (st := s_is_work) ld2 cd2 kd2
  have bd2 := Fd2.binds (ps := ["thing"]) fun _ _ _ _ _ _ us hl => match us, hl with | [_], _ => rfl
  have vd2 := PySem.W.mg_of X G ad2
  have Fd3 := fun_mk (st := s_bars) ld3 cd3 kd3
  have bd3 := Fd3.binds (ps := ["one", "other"]) fun _ _ _ _ _ _ us hl => match us, hl with | [_, _], _ => rfl
  have vd3 := PySem.W.mg_of X G ad3
  have Fd4 := fun_mk (st := s_require_work) ld4 cd4 kd4
  have bd4 := Fd4.binds (ps := ["thing"]) fun _ _ _ _ _ _ us hl => match us, hl with | [_], _ => rfl
  have vd4 := PySem.W.mg_of X G ad4
  have Fd5 := fun_mk (st := s_clashes_behind) ld5 cd5 kd5
  have bd5 := Fd5.binds (ps := ["one", "other", "distance"]) fun _ _ _ _ _ _ us hl => match us, hl with | [_, _, _], _ => rfl
  have vd5 := PySem.W.mg_of X G ad5
  have Fd6 := fun_mk (st := s_is_kind) ld6 cd6 kd6
  have bd6 := Fd6.binds (ps := ["line", "thing"]) fun _ _ _ _ _ _ us hl => match us, hl with | [_, _], _ => rfl
  have vd6 := PySem.W.mg_of X G ad6
  have Fd7 := fun_mk (st := s_require_kind) ld7 cd7 kd7
  have bd7 := Fd7.binds (ps := ["line", "thing"]) fun _ _ _ _ _ _ us hl => match us, hl with | [_, _], _ => rfl
  have vd7 := PySem.W.mg_of X G ad7
  have Fd8 := fun_mk (st := s_bars_of_all) ld8 cd8 kd8
  have bd8 := Fd8.binds (ps := ["works"]) fun _ _ _ _ _ _ us hl => match us, hl with | [_], _ => rfl
  have vd8 := PySem.W.mg_of X G ad8
  have Fd9 := fun_mk (st := s_require_line) ld9 cd9 kd9
  have bd9 := Fd9.binds (ps := ["thing"]) fun _ _ _ _ _ _ us hl => match us, hl with | [_], _ => rfl
  have vd9 := PySem.W.mg_of X G ad9
  have Fd10 := fun_mk (st := s_numbered_moves) ld10 cd10 kd10
  have bd10 := Fd10.binds (ps := ["line"]) fun _ _ _ _ _ _ us hl => match us, hl with | [_], _ => rfl
  have vd10 := PySem.W.mg_of X G ad10
  have Fd11 : FunD K "require_near" "require_near" (defArgs s_require_near) (defBody s_require_near) (defScope s_require_near) [.int 8, .int 5] [] fd11 _ := ⟨⟨_, _, _, _, _, _, _, _, _, _, rfl, ld11, cd11, .inr ⟨(fun z => nomatch z), Dd11, _, [.int 8 tDd11_0, .int 5 tDd11_1], _, rfl, D_d11, rfl, (.cons ⟨_, rfl⟩ (.cons ⟨_, rfl⟩ .nil))⟩, .inl rfl⟩, kd11⟩
  obtain ⟨dsd11, bd11⟩ := FunD.binds1 (ps := ["line", "of_one", "of_several"]) Fd11 1 0 (fun z => nomatch z) rfl fun _ _ _ _ _ _ _ us its h1 h2 => match us, its, h1, h2 with | [_], [_, _], _, _ => ⟨_, rfl, rfl⟩
  have vd11 := PySem.W.mg_of X G ad11
  have Fd12 := fun_mk (st := s_empty_state) ld12 cd12 kd12
  have bd12 := Fd12.binds (ps := ["line"]) fun _ _ _ _ _ _ us hl => match us, hl with | [_], _ => rfl
  have vd12 := PySem.W.mg_of X G ad12
  have Fd13 := fun_mk (st := s_open_choices) ld13 cd13 kd13
  have bd13 := Fd13.binds (ps := ["state"]) fun _ _ _ _ _ _ us hl => match us, hl with | [_], _ => rfl
  have vd13 := PySem.W.mg_of X G ad13
  have Fd14 := fun_mk (st := s_behind) ld14 cd14 kd14
  have bd14 := Fd14.binds (ps := ["line", "state", "choice"]) fun _ _ _ _ _ _ us hl => match us, hl with | [_, _, _], _ => rfl
  have vd14 := PySem.W.mg_of X G ad14
  have Fd15 := fun_mk (st := s_delays) ld15 cd15 kd15
  have bd15 := Fd15.binds (ps := ["line", "started", "kind"]) fun _ _ _ _ _ _ us hl => match us, hl with | [_, _, _], _ => rfl
  have vd15 := PySem.W.mg_of X G ad15
  have Fd16 := fun_mk (st := s_ascending) ld16 cd16 kd16
  have bd16 := Fd16.binds (ps := ["numbers"]) fun _ _ _ _ _ _ us hl => match us, hl with | [_], _ => rfl
  have vd16 := PySem.W.mg_of X G ad16
  have Fd17 := fun_mk (st := s_moves) ld17 cd17 kd17
  have bd17 := Fd17.binds (ps := ["line"]) fun _ _ _ _ _ _ us hl => match us, hl with | [_], _ => rfl
  have vd17 := PySem.W.mg_of X G ad17
  have Fd18 := fun_mk (st := s_soonest_of) ld18 cd18 kd18
  have bd18 := Fd18.binds (ps := ["line", "counts"]) fun _ _ _ _ _ _ us hl => match us, hl with | [_, _], _ => rfl
  have vd18 := PySem.W.mg_of X G ad18
  have Fd19 := fun_mk (st := s_require_counts) ld19 cd19 kd19
  have bd19 := Fd19.binds (ps := ["line", "thing"]) fun _ _ _ _ _ _ us hl => match us, hl with | [_, _], _ => rfl
  have vd19 := PySem.W.mg_of X G ad19
  have Fd20 := fun_mk (st := s_next_of_any) ld20 cd20 kd20
  have bd20 := Fd20.binds (ps := ["counts"]) fun _ _ _ _ _ _ us hl => match us, hl with | [_], _ => rfl
  have vd20 := PySem.W.mg_of X G ad20
  have Fd21 := fun_mk (st := s_soonest_plan) ld21 cd21 kd21
  have bd21 := Fd21.binds (ps := ["line", "wanted", "next_of"]) fun _ _ _ _ _ _ us hl => match us, hl with | [_, _, _], _ => rfl
  have vd21 := PySem.W.mg_of X G ad21
  have Fd22 := fun_mk (st := s_next_layer) ld22 cd22 kd22
  have bd22 := Fd22.binds (ps := ["moves", "layer", "first_ticks", "tick", "next_of"]) fun _ _ _ _ _ _ us hl => match us, hl with | [_, _, _, _, _], _ => rfl
  have vd22 := PySem.W.mg_of X G ad22
  have Fd23 := fun_mk (st := s_steps) ld23 cd23 kd23
  have bd23 := Fd23.binds (ps := ["moves", "left", "plan", "tick", "next_of"]) fun _ _ _ _ _ _ us hl => match us, hl with | [_, _, _, _, _], _ => rfl
  have vd23 := PySem.W.mg_of X G ad23
  have Fd24 := fun_mk (st := s_l_cell_at) ld24 cd24 kd24
  have bd24 := Fd24.binds (ps := ["_law_script", "_law_k"]) fun _ _ _ _ _ _ us hl => match us, hl with | [_, _], _ => rfl
  have vd24 := PySem.W.mg_of X G ad24
  have Fd25 := fun_mk (st := s_l_pen) ld25 cd25 kd25
  have bd25 := Fd25.binds (ps := ["_law_cell"]) fun _ _ _ _ _ _ us hl => match us, hl with | [_], _ => rfl
  have vd25 := PySem.W.mg_of X G ad25
  have Fd26 := fun_mk (st := s_l_draw) ld26 cd26 kd26
  have bd26 := Fd26.binds (ps := ["_law_pen_here", "_law_many"]) fun _ _ _ _ _ _ us hl => match us, hl with | [_, _], _ => rfl
  have vd26 := PySem.W.mg_of X G ad26
  have Fd27 := fun_mk (st := s_l_pick) ld27 cd27 kd27
  have bd27 := Fd27.binds (ps := ["_law_pen_here", "_law_some"]) fun _ _ _ _ _ _ us hl => match us, hl with | [_, _], _ => rfl
  have vd27 := PySem.W.mg_of X G ad27
  have Fd28 := fun_mk (st := s_l_same) ld28 cd28 kd28
  have bd28 := Fd28.binds (ps := ["_law_found", "_law_due"]) fun _ _ _ _ _ _ us hl => match us, hl with | [_, _], _ => rfl
  have vd28 := PySem.W.mg_of X G ad28
  have Fd29 := fun_mk (st := s_l_names) ld29 cd29 kd29
  have bd29 := Fd29.binds (ps := ["_law_pen_here"]) fun _ _ _ _ _ _ us hl => match us, hl with | [_], _ => rfl
  have vd29 := PySem.W.mg_of X G ad29
  have Fd30 := fun_mk (st := s_l_work) ld30 cd30 kd30
  have bd30 := Fd30.binds (ps := ["_law_pen_here", "_law_names_here", "_law_far", "_law_blocks"]) fun _ _ _ _ _ _ us hl => match us, hl with | [_, _, _, _], _ => rfl
  have vd30 := PySem.W.mg_of X G ad30
  have Fd31 := fun_mk (st := s_l_works) ld31 cd31 kd31
  have bd31 := Fd31.binds (ps := ["_law_pen_here", "_law_one_far", "_law_more_far"]) fun _ _ _ _ _ _ us hl => match us, hl with | [_, _, _], _ => rfl
  have vd31 := PySem.W.mg_of X G ad31
  have Fd32 := fun_mk (st := s_l_line) ld32 cd32 kd32
  have bd32 := Fd32.binds (ps := ["_law_works_here"]) fun _ _ _ _ _ _ us hl => match us, hl with | [_], _ => rfl
  have vd32 := PySem.W.mg_of X G ad32
  have Fd33 := fun_mk (st := s_l_between) ld33 cd33 kd33
  have bd33 := Fd33.binds (ps := ["_law_one", "_law_other"]) fun _ _ _ _ _ _ us hl => match us, hl with | [_, _], _ => rfl
  have vd33 := PySem.W.mg_of X G ad33
  have Fd34 := fun_mk (st := s_l_bars) ld34 cd34 kd34
  have bd34 := Fd34.binds (ps := ["_law_works_here"]) fun _ _ _ _ _ _ us hl => match us, hl with | [_], _ => rfl
  have vd34 := PySem.W.mg_of X G ad34
  have Fd35 := fun_mk (st := s_l_reach) ld35 cd35 kd35
  have bd35 := Fd35.binds (ps := ["_law_spans"]) fun _ _ _ _ _ _ us hl => match us, hl with | [_], _ => rfl
  have vd35 := PySem.W.mg_of X G ad35
  have Fd36 := fun_mk (st := s_l_is_free) ld36 cd36 kd36
  have bd36 := Fd36.binds (ps := ["_law_spans", "_law_plan", "_law_tick", "_law_kind"]) fun _ _ _ _ _ _ us hl => match us, hl with | [_, _, _, _], _ => rfl
  have vd36 := PySem.W.mg_of X G ad36
  have Fd37 := fun_mk (st := s_l_early_last) ld37 cd37 kd37
  have bd37 := Fd37.binds (ps := ["_law_spans", "_law_amounts"]) fun _ _ _ _ _ _ us hl => match us, hl with | [_, _], _ => rfl
  have vd37 := PySem.W.mg_of X G ad37
  have Fd38 := fun_mk (st := s_l_longer) ld38 cd38 kd38
  have bd38 := Fd38.binds (ps := ["_law_spans", "_law_plan", "_law_amounts", "_law_reach_here", "_law_most"]) fun _ _ _ _ _ _ us hl => match us, hl with | [_, _, _, _, _], _ => rfl
  have vd38 := PySem.W.mg_of X G ad38
  have Fd39 := fun_mk (st := s_l_soonest) ld39 cd39 kd39
  have bd39 := Fd39.binds (ps := ["_law_spans", "_law_amounts", "_law_reach_here"]) fun _ _ _ _ _ _ us hl => match us, hl with | [_, _, _], _ => rfl
  have vd39 := PySem.W.mg_of X G ad39
  have Fd40 := fun_mk (st := s_l_counts) ld40 cd40 kd40
  have bd40 := Fd40.binds (ps := ["_law_pen_here", "_law_kinds", "_law_most"]) fun _ _ _ _ _ _ us hl => match us, hl with | [_, _, _], _ => rfl
  have vd40 := PySem.W.mg_of X G ad40
  have Fd41 := fun_mk (st := s_law) ld41 cd41 kd41
  have bd41 := Fd41.binds (ps := ["_law_script"]) fun _ _ _ _ _ _ us hl => match us, hl with | [_], _ => rfl
  have vd41 := PySem.W.mg_of X G ad41
  have Fm0 := fun_mk (st := s_Line_init) lm0 cm0 km0
  have Fm1 := fun_mk (st := s_Line_len) lm1 cm1 km1
  have bm1 := Fm1.binds (ps := ["self"]) fun _ _ _ _ _ _ us hl => match us, hl with | [_], _ => rfl
  have Fm2 := fun_mk (st := s_Line_call) lm2 cm2 km2
  have bm2 := Fm2.binds (ps := ["self", "one", "other"]) fun _ _ _ _ _ _ us hl => match us, hl with | [_, _, _], _ => rfl
  have Fm3 := fun_mk (st := s_Line_add) lm3 cm3 km3
  have bm3 := Fm3.binds (ps := ["self", "other"]) fun _ _ _ _ _ _ us hl => match us, hl with | [_, _], _ => rfl
  have Fm4 := fun_mk (st := s_Line_sub) lm4 cm4 km4
  have bm4 := Fm4.binds (ps := ["self", "other"]) fun _ _ _ _ _ _ us hl => match us, hl with | [_, _], _ => rfl
  have Fm5 := fun_mk (st := s_Line_neg) lm5 cm5 km5
  have bm5 := Fm5.binds (ps := ["self"]) fun _ _ _ _ _ _ us hl => match us, hl with | [_], _ => rfl
  have Fm6 := fun_mk (st := s_Line_eq) lm6 cm6 km6
  have bm6 := Fm6.binds (ps := ["self", "other"]) fun _ _ _ _ _ _ us hl => match us, hl with | [_, _], _ => rfl
  have Fm7 := fun_mk (st := s_Line_getitem) lm7 cm7 km7
  have bm7 := Fm7.binds (ps := ["self", "at"]) fun _ _ _ _ _ _ us hl => match us, hl with | [_, _], _ => rfl
  have Fm8 := fun_mk (st := s_Line_repr) lm8 cm8 km8
  have bm8 := Fm8.binds (ps := ["self"]) fun _ _ _ _ _ _ us hl => match us, hl with | [_], _ => rfl
  have Fp0 := fun_mk (st := s_Line_works) lp0 cp0 kp0
  have bp0 := Fp0.binds (ps := ["self"]) fun _ _ _ _ _ _ us hl => match us, hl with | [_], _ => rfl
  have Fp1 := fun_mk (st := s_Line_reach) lp1 cp1 kp1
  have bp1 := Fp1.binds (ps := ["self"]) fun _ _ _ _ _ _ us hl => match us, hl with | [_], _ => rfl
  have N_NOWHERE : ∃ t, mg "NOWHERE" = some (.int (-1) t) := ⟨_, PySem.W.mg_of X G u_NOWHERE⟩
  have N_STATIONS : ∃ t, mg "STATIONS" = some (.int (10) t) := ⟨_, PySem.W.mg_of X G u_STATIONS⟩
  have N_MOST_ITEMS : ∃ t, mg "MOST_ITEMS" = some (.int (60) t) := ⟨_, PySem.W.mg_of X G u_MOST_ITEMS⟩
  have N_MOST_WORKS : ∃ t, mg "MOST_WORKS" = some (.int (3) t) := ⟨_, PySem.W.mg_of X G u_MOST_WORKS⟩
  have N_MOST_OF_A_KIND : ∃ t, mg "MOST_OF_A_KIND" = some (.int (4) t) := ⟨_, PySem.W.mg_of X G u_MOST_OF_A_KIND⟩
  have N_MOST_PIECES : ∃ t, mg "MOST_PIECES" = some (.int (8) t) := ⟨_, PySem.W.mg_of X G u_MOST_PIECES⟩
  have N_NOTHING : ∃ t, mg "NOTHING" = some (.int (-1) t) := ⟨_, PySem.W.mg_of X G u_NOTHING⟩
  have cl : Cls K C := ⟨pg, hd, po, sa⟩
  have T : LC K mg C := ⟨cl, nW, nB, nR, PySem.W.mg_of X G aC⟩
  have kit : PySem.W.kitOne K (.ref C) (.ref C) = some true := by unfold PySem.W.kitOne; simp
  have I : LI K C := ⟨ha, hn, ht, hm, kit⟩
  have O : Ops K C := ⟨sf, ⟨none, rs, .inl rfl⟩, ⟨_, is1⟩, ⟨_, ir1⟩, nsub, ne, ob⟩
  have Mi : Mk K C fm0 := ⟨mk, am0, im0, kc⟩
  refine ⟨PySem.W.fnOf "law" "law" (defArgs s_law) (defBody s_law) (defScope s_law) .none kVd41 dcd41 pmd41 and41 cdd41 ctd41, fun s v => .of_eq rfl, fun base _ _ => ?_⟩
  have Gd0 := ok_is_int (P := l.prog) (w := w) (mg := mg) (base := base) (k := 0) Fd0 y_isinstance y_int y_bool
  have Gd1 := ok_is_between (P := l.prog) (w := w) (mg := mg) (base := base) (k := 1) Fd1 (Gd0.mono (by decide)) kd0 bd0 vd0
  have N : Nums mg := ⟨N_NOWHERE, N_STATIONS, N_MOST_ITEMS⟩
  have Gd2 := ok_is_work (P := l.prog) (w := w) (mg := mg) (base := base) (k := 2) Fd2 N (Gd1.mono (by decide)) kd1 bd1 vd1 y_isinstance y_tuple y_len y_all
  have Gd4 := ok_require_work (P := l.prog) (w := w) (mg := mg) (base := base) (k := 3) Fd4 (Gd2.mono (by decide)) kd2 bd2 vd2
  have Gd5 := ok_clashes_behind (P := l.prog) (w := w) (mg := mg) (base := base) (k := 3) Fd5 N y_any y_zip
  have Gd3 := ok_bars (P := l.prog) (w := w) (mg := mg) (base := base) (k := 4) Fd3 Gd4 kd4 bd4 vd4 Gd5 kd5 bd5 vd5 y_tuple y_range y_len
  have Gd8 := ok_bars_of_all (P := l.prog) (w := w) (mg := mg) (base := base) (k := 5) Fd8 y_tuple Gd3 kd3 bd3 vd3
  have Gi := ok_init (P := l.prog) (w := w) (mg := mg) (base := base) (k := 6) Fm0 T N_MOST_WORKS (Gd2.mono (by decide)) kd2 bd2 vd2 Gd8 kd8 bd8 vd8 y_all y_len y_max
  have Glen := ok_len (P := l.prog) (w := w) (mg := mg) (base := base) (k := 1) Fm1 T y_len
  have Gd6 := ok_is_kind (P := l.prog) (w := w) (mg := mg) (base := base) (k := 2) Fd6 T y_len Gd1 kd1 bd1 vd1 Glen bm1 am1 im1
  have Gd7 := ok_require_kind (P := l.prog) (w := w) (mg := mg) (base := base) (k := 4) Fd7 Gd6 kd6 bd6 vd6
  have Gcall := ok_call (P := l.prog) (w := w) (mg := mg) (base := base) (k := 5) Fm2 T Gd7 kd7 bd7 vd7
  have Gadd := ok_add (P := l.prog) (w := w) (mg := mg) (base := base) (k := 7) Fm3 T I Mi Gi y_isinstance
  have Gsub := ok_sub (P := l.prog) (w := w) (mg := mg) (base := base) (k := 7) Fm4 T Mi Gi (Gd7.mono (by decide)) kd7 bd7 vd7 y_len
  have Gneg := ok_neg (P := l.prog) (w := w) (mg := mg) (base := base) (k := 7) Fm5 T Mi Gi
  have Geq := ok_eq (P := l.prog) (w := w) (mg := mg) (base := base) (k := 0) Fm6 T I y_isinstance
  have Gw := fn_getter (CX := CX0) (P := l.prog) (w := w) (mg := mg) (base := base) (k := 0) lp0 cp0 sc_Line_works rfl rfl cl nW
  have Gr := fn_getter (CX := CX0) (P := l.prog) (w := w) (mg := mg) (base := base) (k := 0) lp1 cp1 sc_Line_reach rfl rfl cl nR
  have M : Meths l.prog w K mg base 10 C := ⟨T, I, O, ⟨_, _, Glen.mono (by decide), bm1, am1, im1⟩, ⟨_, _, ⟨Gcall.mono (by decide), bm2, am2, im2⟩, fi⟩, ⟨_, _, Gadd.mono (by decide), bm3, am3, im3⟩, ⟨_, _, Gsub.mono (by decide), bm4, am4, im4⟩, ⟨_, _, Gneg.mono (by decide), bm5, am5, im5⟩, ⟨_, _, Geq.mono (by decide), bm6, am6, im6⟩, ⟨_, _, _, ⟨ap0, gp0, tp0, _, rp0⟩, Gw.mono (by decide), bp0⟩, ⟨_, _, _, ⟨ap1, gp1, tp1, _, rp1⟩, Gr.mono (by decide), bp1⟩, ⟨_, Mi, Gi.mono (by decide)⟩⟩
  have Gitem := ok_item (P := l.prog) (w := w) (mg := mg) (base := base) (k := 5) Fm7 T Gd7 kd7 bd7 vd7
  have Grepr := ok_repr (P := l.prog) (w := w) (mg := mg) (base := base) (k := 0) Fm8 T y_len
  have M2 : Meths2 l.prog w K mg base 10 C := ⟨M, ⟨_, _, ⟨Gitem.mono (by decide), bm7, am7, im7⟩, fg⟩, ⟨_, _, Grepr.mono (by decide), bm8, am8, im8⟩⟩
  have Gd9 := ok_require_line (P := l.prog) (w := w) (mg := mg) (base := base) (k := 0) Fd9 T I y_isinstance
  have Gd11 := ok_require_near (P := l.prog) (w := w) (mg := mg) (base := base) (k := 10) Fd11 M (Gd9.mono (by decide)) kd9 bd9 vd9 y_len
  have Gd16 := ok_ascending (P := l.prog) (w := w) (mg := mg) (base := base) (k := 0) Fd16 y_tuple y_sorted y_set
  have Gd15 := ok_delays (P := l.prog) (w := w) (mg := mg) (base := base) (k := 10) Fd15 M
  have Gd14 := ok_behind (P := l.prog) (w := w) (mg := mg) (base := base) (k := 13) Fd14 N_NOTHING (Gd15.mono (by decide)) kd15 bd15 vd15 (Gd16.mono (by decide)) kd16 bd16 vd16 y_enumerate y_tuple
  have Gd13 := ok_open_choices (P := l.prog) (w := w) (mg := mg) (base := base) (k := 0) Fd13 N_NOTHING y_enumerate
  have Gd12 := ok_empty_state (P := l.prog) (w := w) (mg := mg) (base := base) (k := 10) Fd12 M y_len
  have Gd17 := ok_moves (P := l.prog) (w := w) (mg := mg) (base := base) (k := 14) Fd17 (Gd12.mono (by decide)) kd12 bd12 vd12 (Gd13.mono (by decide)) kd13 bd13 vd13 (Gd14.mono (by decide)) kd14 bd14 vd14
  have Gd10 := ok_numbered (P := l.prog) (w := w) (mg := mg) (base := base) (k := 15) Fd10 (Gd17.mono (by decide)) kd17 bd17 vd17 y_sorted y_list y_enumerate
  have Gd20 := ok_next_any (P := l.prog) (w := w) (mg := mg) (base := base) (k := 0) Fd20 y_enumerate
  have Gd23 := ok_steps (P := l.prog) (w := w) (mg := mg) (base := base) (k := 1) Fd23 N_NOTHING (Gd20.mono (by decide)) kd20 bd20
  have Gd22 := ok_next_layer (P := l.prog) (w := w) (mg := mg) (base := base) (k := 2) Fd22 (Gd23.mono (by decide)) kd23 bd23 vd23
  have Gd21 := ok_soonest_plan (P := l.prog) (w := w) (mg := mg) (base := base) (k := 16) Fd21 (Gd20.mono (by decide)) kd20 bd20 (Gd10.mono (by decide)) kd10 bd10 vd10 (Gd22.mono (by decide)) kd22 bd22 vd22 y_min
  have Gd19 := ok_require_counts (P := l.prog) (w := w) (mg := mg) (base := base) (k := 10) Fd19 M N_MOST_OF_A_KIND N_MOST_PIECES (Gd9.mono (by decide)) kd9 bd9 vd9 (Gd1.mono (by decide)) kd1 bd1 vd1 y_isinstance y_tuple y_len y_all y_sum
  have Gd18 := ok_soonest_of (P := l.prog) (w := w) (mg := mg) (base := base) (k := 17) Fd18 vd20 (Gd19.mono (by decide)) kd19 bd19 vd19 (Gd11.mono (by decide)) kd11 ⟨bd11.1, bd11.2⟩ vd11 (Gd21.mono (by decide)) kd21 bd21 vd21
  have Gd24 := ok_l_cell_at (P := l.prog) (w := w) (mg := mg) (base := base) (k := 0) Fd24 y_len
  have Gd25 := ok_l_pen (P := l.prog) (w := w) (mg := mg) (base := base) (k := 0) Fd25 y_max
  have Gd26 := ok_l_draw (P := l.prog) (w := w) (mg := mg) (base := base) (k := 0) Fd26
  have Gd27 := ok_pick (P := l.prog) (w := w) (mg := mg) (base := base) (k := 1) Fd27 (Gd26.mono (by decide)) kd26 bd26 vd26 y_len
  have Gd28 := ok_l_same (P := l.prog) (w := w) (mg := mg) (base := base) (k := 0) Fd28 y_repr
  have Gd29 := ok_names (P := l.prog) (w := w) (mg := mg) (base := base) (k := 2) Fd29 (Gd26.mono (by decide)) kd26 bd26 vd26 (Gd27.mono (by decide)) kd27 bd27 vd27 y_range
  have Gd30 := ok_lwork (P := l.prog) (w := w) (mg := mg) (base := base) (k := 2) Fd30 (Gd26.mono (by decide)) kd26 bd26 vd26 (Gd27.mono (by decide)) kd27 bd27 vd27 y_range y_tuple y_len
  have Gd33 := ok_between (P := l.prog) (w := w) (mg := mg) (base := base) (k := 0) Fd33 y_enumerate y_len y_range y_min y_sorted y_set
  have Gd32 := ok_l_line (P := l.prog) (w := w) (mg := mg) (base := base) (k := 7) Fd32 T Mi Gi y_len
  have Gd31 := ok_l_works (P := l.prog) (w := w) (mg := mg) (base := base) (k := 3) Fd31 (Gd26.mono (by decide)) kd26 bd26 vd26 (Gd27.mono (by decide)) kd27 bd27 vd27 (Gd29.mono (by decide)) kd29 bd29 vd29 (Gd30.mono (by decide)) kd30 bd30 vd30 y_range y_tuple
  have Gd34 := ok_l_bars (P := l.prog) (w := w) (mg := mg) (base := base) (k := 1) Fd34 (Gd33.mono (by decide)) kd33 bd33 vd33
  have Gd35 := ok_l_reach (P := l.prog) (w := w) (mg := mg) (base := base) (k := 0) Fd35 y_max
  have Gd36 := ok_l_is_free (P := l.prog) (w := w) (mg := mg) (base := base) (k := 0) Fd36
  have GFL := ok_l_is_freeL (P := l.prog) (w := w) (mg := mg) (base := base) (k := 0) Fd36
  have Gd37 := ok_l_early_last (P := l.prog) (w := w) (mg := mg) (base := base) (k := 1) Fd37 (GFL.mono (by decide)) kd36 bd36 vd36 y_range y_enumerate
  have Gd38 := ok_l_longer (P := l.prog) (w := w) (mg := mg) (base := base) (k := 1) Fd38 (Gd36.mono (by decide)) kd36 bd36 vd36 y_range y_min y_len
  have Gd39 := ok_l_soonest (P := l.prog) (w := w) (mg := mg) (base := base) (k := 2) Fd39 (Gd38.mono (by decide)) kd38 bd38 vd38 (Gd37.mono (by decide)) kd37 bd37 vd37 y_range y_min y_len y_sum
  have Gd40 := ok_l_counts (P := l.prog) (w := w) (mg := mg) (base := base) (k := 1) Fd40 (Gd26.mono (by decide)) kd26 bd26 vd26 y_range y_min y_tuple
  have kb : KBinds K (PySem.W.fnOf "soonest_of" "soonest_of" (defArgs s_soonest_of) (defBody s_soonest_of) (defScope s_soonest_of) .none kVd18 dcd18 pmd18 and18 cdd18 ctd18) ["line", "counts"] ["counts", "line"] kwG kwG := by
    refine ⟨fun s us ws _ hl => ?_, kw_rel⟩
    match us, ws, hl with
    | [], [a, b], _ => exact .of_eq rfl
    | [], [], hl => exact absurd hl (by simp [kwG])
    | [], [_], hl => exact absurd hl (by simp [kwG])
    | [], _ :: _ :: _ :: _, hl => exact absurd hl (by simp [kwG])
    | _ :: _, _, hl => exact absurd hl (by simp [kwG])
  exact ok_law (P := l.prog) (w := w) (mg := mg) (base := base) (k := 17) Fd41 T Mi (Gi.mono (by decide)) (Gd24.mono (by decide)) kd24 bd24 vd24 (Gd25.mono (by decide)) kd25 bd25 vd25 (Gd40.mono (by decide)) kd40 bd40 vd40 (Gd31.mono (by decide)) kd31 bd31 vd31 (Gd32.mono (by decide)) kd32 bd32 vd32 (Gd34.mono (by decide)) kd34 bd34 vd34 (Gd35.mono (by decide)) kd35 bd35 vd35 (Gd39.mono (by decide)) kd39 bd39 vd39 (Gd18.mono (by decide)) kd18 bd18 vd18 (Gd28.mono (by decide)) kd28 bd28 vd28 kb y_len y_range y_max y_min
end Sg
set_option Elab.async false
set_option linter.all false
open PySem PySem.W PyProof.Rows
set_option maxRecDepth 100000 in
set_option maxHeartbeats 0 in
theorem PySem.Challenge.cw_startgaps_k27_soonest_of_counts_holds : PySem.Challenge.rw_startgaps_k27_soonest_of_counts.Holds := by
  w_on; o_law; k_head; (case hw => w_witness2)
  k_fill
  refine Sg.walk_law (l := PySem.Challenge.rw_startgaps_k27_soonest_of_counts) (k := 19) (x := "_law_script") (sp := Sg.spLaw) rfl rfl ⟨rfl, by decide, by decide⟩ (fun w h Y => PySem.W.kIn_of Y) ?F (fun K H a ns hl _ hS => ⟨a, ns, rfl, hS, hl, fun _ => rfl⟩)
  case F =>
    intro w mg fa h KX G hmg
    refine' Sg.all_mk KX G hmg ?ad0 ?ld0 ?cd0 ?kd0 ?ad1 ?ld1 ?cd1 ?kd1 ?ad2 ?ld2 ?cd2 ?kd2 ?ad3 ?ld3 ?cd3 ?kd3 ?ad4 ?ld4 ?cd4 ?kd4 ?ad5 ?ld5 ?cd5 ?kd5 ?ad6 ?ld6 ?cd6 ?kd6 ?ad7 ?ld7 ?cd7 ?kd7 ?ad8 ?ld8 ?cd8 ?kd8 ?ad9 ?ld9 ?cd9 ?kd9 ?ad10 ?ld10 ?cd10 ?kd10 ?ad11 ?ld11 ?D_d11 ?cd11 ?kd11 ?ad12 ?ld12 ?cd12 ?kd12 ?ad13 ?ld13 ?cd13 ?kd13 ?ad14 ?ld14 ?cd14 ?kd14 ?ad15 ?ld15 ?cd15 ?kd15 ?ad16 ?ld16 ?cd16 ?kd16 ?ad17 ?ld17 ?cd17 ?kd17 ?ad18 ?ld18 ?cd18 ?kd18 ?ad19 ?ld19 ?cd19 ?kd19 ?ad20 ?ld20 ?cd20 ?kd20 ?ad21 ?ld21 ?cd21 ?kd21 ?ad22 ?ld22 ?cd22 ?kd22 ?ad23 ?ld23 ?cd23 ?kd23 ?ad24 ?ld24 ?cd24 ?kd24 ?ad25 ?ld25 ?cd25 ?kd25 ?ad26 ?ld26 ?cd26 ?kd26 ?ad27 ?ld27 ?cd27 ?kd27 ?ad28 ?ld28 ?cd28 ?kd28 ?ad29 ?ld29 ?cd29 ?kd29 ?ad30 ?ld30 ?cd30 ?kd30 ?ad31 ?ld31 ?cd31 ?kd31 ?ad32 ?ld32 ?cd32 ?kd32 ?ad33 ?ld33 ?cd33 ?kd33 ?ad34 ?ld34 ?cd34 ?kd34 ?ad35 ?ld35 ?cd35 ?kd35 ?ad36 ?ld36 ?cd36 ?kd36 ?ad37 ?ld37 ?cd37 ?kd37 ?ad38 ?ld38 ?cd38 ?kd38 ?ad39 ?ld39 ?cd39 ?kd39 ?ad40 ?ld40 ?cd40 ?kd40 ?ad41 ?ld41 ?cd41 ?kd41 ?aC ?am0 ?im0 ?lm0 ?cm0 ?km0 ?am1 ?im1 ?lm1 ?cm1 ?km1 ?am2 ?im2 ?lm2 ?cm2 ?km2 ?am3 ?im3 ?lm3 ?cm3 ?km3 ?am4 ?im4 ?lm4 ?cm4 ?km4 ?am5 ?im5 ?lm5 ?cm5 ?km5 ?am6 ?im6 ?lm6 ?cm6 ?km6 ?am7 ?im7 ?lm7 ?cm7 ?km7 ?am8 ?im8 ?lm8 ?cm8 ?km8 ?ap0 ?gp0 ?tp0 ?rp0 ?lp0 ?cp0 ?kp0 ?ap1 ?gp1 ?tp1 ?rp1 ?lp1 ?cp1 ?kp1 ?pg ?hd ?po ?sa ?mk ?kc ?nW ?nB ?nR ?ha ?hn ?ht ?hm ?sf ?rs ?is1 ?ir1 ?nsub ?ne ?ob ?fi ?fg ?z_isinstance ?z_int ?z_bool ?z_tuple ?z_len ?z_all ?z_any ?z_zip ?z_range ?z_max ?z_min ?z_enumerate ?z_sorted ?z_set ?z_list ?z_repr ?z_sum ?u_NOWHERE ?u_STATIONS ?u_MOST_ITEMS ?u_MOST_WORKS ?u_MOST_OF_A_KIND ?u_MOST_PIECES ?u_NOTHING
    (case ad0 => k_is)
    (case ld0 => k_is)
    (case cd0 => k_is)
    (case kd0 => k_is)
    (case ad1 => k_is)
    (case ld1 => k_is)
    (case cd1 => k_is)
    (case kd1 => k_is)
    (case ad2 => k_is)
    (case ld2 => k_is)
    (case cd2 => k_is)
    (case kd2 => k_is)
    (case ad3 => k_is)
    (case ld3 => k_is)
    (case cd3 => k_is)
    (case kd3 => k_is)
    (case ad4 => k_is)
    (case ld4 => k_is)
    (case cd4 => k_is)
    (case kd4 => k_is)
    (case ad5 => k_is)
    (case ld5 => k_is)
    (case cd5 => k_is)
    (case kd5 => k_is)
    (case ad6 => k_is)
    (case ld6 => k_is)
    (case cd6 => k_is)
    (case kd6 => k_is)
    (case ad7 => k_is)
    (case ld7 => k_is)
    (case cd7 => k_is)
    (case kd7 => k_is)
    (case ad8 => k_is)
    (case ld8 => k_is)
    (case cd8 => k_is)
    (case kd8 => k_is)
    (case ad9 => k_is)
    (case ld9 => k_is)
    (case cd9 => k_is)
    (case kd9 => k_is)
    (case ad10 => k_is)
    (case ld10 => k_is)
    (case cd10 => k_is)
    (case kd10 => k_is)
    (case ad11 => k_is)
    (case ld11 => k_is)
    (case D_d11 => k_is)
    (case cd11 => k_is)
    (case kd11 => k_is)
    (case ad12 => k_is)
    (case ld12 => k_is)
    (case cd12 => k_is)
    (case kd12 => k_is)
    (case ad13 => k_is)
    (case ld13 => k_is)
    (case cd13 => k_is)
    (case kd13 => k_is)
    (case ad14 => k_is)
    (case ld14 => k_is)
    (case cd14 => k_is)
    (case kd14 => k_is)
    (case ad15 => k_is)
    (case ld15 => k_is)
    (case cd15 => k_is)
    (case kd15 => k_is)
    (case ad16 => k_is)
    (case ld16 => k_is)
    (case cd16 => k_is)
    (case kd16 => k_is)
    (case ad17 => k_is)
    (case ld17 => k_is)
    (case cd17 => k_is)
    (case kd17 => k_is)
    (case ad18 => k_is)
    (case ld18 => k_is)
    (case cd18 => k_is)
    (case kd18 => k_is)
    (case ad19 => k_is)
    (case ld19 => k_is)
    (case cd19 => k_is)
    (case kd19 => k_is)
    (case ad20 => k_is)
    (case ld20 => k_is)
    (case cd20 => k_is)
    (case kd20 => k_is)
    (case ad21 => k_is)
    (case ld21 => k_is)
    (case cd21 => k_is)
    (case kd21 => k_is)
    (case ad22 => k_is)
    (case ld22 => k_is)
    (case cd22 => k_is)
    (case kd22 => k_is)
    (case ad23 => k_is)
    (case ld23 => k_is)
    (case cd23 => k_is)
    (case kd23 => k_is)
    (case ad24 => k_is)
    (case ld24 => k_is)
    (case cd24 => k_is)
    (case kd24 => k_is)
    (case ad25 => k_is)
    (case ld25 => k_is)
    (case cd25 => k_is)
    (case kd25 => k_is)
    (case ad26 => k_is)
    (case ld26 => k_is)
    (case cd26 => k_is)
    (case kd26 => k_is)
    (case ad27 => k_is)
    (case ld27 => k_is)
    (case cd27 => k_is)
    (case kd27 => k_is)
    (case ad28 => k_is)
    (case ld28 => k_is)
    (case cd28 => k_is)
    (case kd28 => k_is)
    (case ad29 => k_is)
    (case ld29 => k_is)
    (case cd29 => k_is)
    (case kd29 => k_is)
    (case ad30 => k_is)
    (case ld30 => k_is)
    (case cd30 => k_is)
    (case kd30 => k_is)
    (case ad31 => k_is)
    (case ld31 => k_is)
    (case cd31 => k_is)
    (case kd31 => k_is)
    (case ad32 => k_is)
    (case ld32 => k_is)
    (case cd32 => k_is)
    (case kd32 => k_is)
    (case ad33 => k_is)
    (case ld33 => k_is)
    (case cd33 => k_is)
    (case kd33 => k_is)
    (case ad34 => k_is)
    (case ld34 => k_is)
    (case cd34 => k_is)
    (case kd34 => k_is)
    (case ad35 => k_is)
    (case ld35 => k_is)
    (case cd35 => k_is)
    (case kd35 => k_is)
    (case ad36 => k_is)
    (case ld36 => k_is)
    (case cd36 => k_is)
    (case kd36 => k_is)
    (case ad37 => k_is)
    (case ld37 => k_is)
    (case cd37 => k_is)
    (case kd37 => k_is)
    (case ad38 => k_is)
    (case ld38 => k_is)
    (case cd38 => k_is)
    (case kd38 => k_is)
    (case ad39 => k_is)
    (case ld39 => k_is)
    (case cd39 => k_is)
    (case kd39 => k_is)
    (case ad40 => k_is)
    (case ld40 => k_is)
    (case cd40 => k_is)
    (case kd40 => k_is)
    (case ad41 => k_is)
    (case ld41 => k_is)
    (case cd41 => k_is)
    (case kd41 => k_is)
    (case aC => k_is)
    (case am0 => k_is)
    (case im0 => k_is)
    (case lm0 => k_is)
    (case cm0 => k_is)
    (case km0 => k_is)
    (case am1 => k_is)
    (case im1 => k_is)
    (case lm1 => k_is)
    (case cm1 => k_is)
    (case km1 => k_is)
    (case am2 => k_is)
    (case im2 => k_is)
    (case lm2 => k_is)
    (case cm2 => k_is)
    (case km2 => k_is)
    (case am3 => k_is)
    (case im3 => k_is)
    (case lm3 => k_is)
    (case cm3 => k_is)
    (case km3 => k_is)
    (case am4 => k_is)
    (case im4 => k_is)
    (case lm4 => k_is)
    (case cm4 => k_is)
    (case km4 => k_is)
    (case am5 => k_is)
    (case im5 => k_is)
    (case lm5 => k_is)
    (case cm5 => k_is)
    (case km5 => k_is)
    (case am6 => k_is)
    (case im6 => k_is)
    (case lm6 => k_is)
    (case cm6 => k_is)
    (case km6 => k_is)
    (case am7 => k_is)
    (case im7 => k_is)
    (case lm7 => k_is)
    (case cm7 => k_is)
    (case km7 => k_is)
    (case am8 => k_is)
    (case im8 => k_is)
    (case lm8 => k_is)
    (case cm8 => k_is)
    (case km8 => k_is)
    (case ap0 => k_is)
    (case gp0 => k_is)
    (case tp0 => k_is)
    (case rp0 => k_is)
    (case lp0 => k_is)
    (case cp0 => k_is)
    (case kp0 => k_is)
    (case ap1 => k_is)
    (case gp1 => k_is)
    (case tp1 => k_is)
    (case rp1 => k_is)
    (case lp1 => k_is)
    (case cp1 => k_is)
    (case kp1 => k_is)
    (case pg => k_is)
    (case hd => k_is)
    (case po => k_is)
    (case sa => k_is)
    (case mk => k_is)
    (case kc => k_is)
    (case nW => k_is)
    (case nB => k_is)
    (case nR => k_is)
    (case ha => k_is)
    (case hn => k_is)
    (case ht => k_is)
    (case hm => k_is)
    (case sf => k_is)
    (case rs => k_is)
    (case is1 => k_is)
    (case ir1 => k_is)
    (case nsub => k_is)
    (case ne => k_is)
    (case ob => k_is)
    (case fi => k_is)
    (case fg => k_is)
    (case z_isinstance => k_is)
    (case z_int => k_is)
    (case z_bool => k_is)
    (case z_tuple => k_is)
    (case z_len => k_is)
    (case z_all => k_is)
    (case z_any => k_is)
    (case z_zip => k_is)
    (case z_range => k_is)
    (case z_max => k_is)
    (case z_min => k_is)
    (case z_enumerate => k_is)
    (case z_sorted => k_is)
    (case z_set => k_is)
    (case z_list => k_is)
    (case z_repr => k_is)
    (case z_sum => k_is)
    (case u_NOWHERE => k_is)
    (case u_STATIONS => k_is)
    (case u_MOST_ITEMS => k_is)
    (case u_MOST_WORKS => k_is)
    (case u_MOST_OF_A_KIND => k_is)
    (case u_MOST_PIECES => k_is)
    (case u_NOTHING => k_is)
