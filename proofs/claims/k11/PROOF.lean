import PyProof.Rows.All
import HandS.ForMost
import HandS.IsInst
import HandS.TupMul
import HandS.TupAny
import HandS.Walk
import HandS.Zip
import PyProof.ReprRoads
import PyProof.ReprBulk
import KE.GoesMore
import PyProof.EnumMake
import HandS.Star
import HandS.Property
import HandS.SortKw
import KE.KOpsOwn
import KE.DataMinMax
import PyProof.InstNe
import HandS.Style
import HandS.DictTup
import PyProof.DictMoreH
import HandS.Iter
import PyProof.Rows.RowBridgeK
import HandS.Wide
import PyProof.Rows.ReprShort
import PyProof.ReprLen
import HandS.Conv
import HandS.TupSets
import PyProof.P3Statements
import HandS.SetFor
import HandS.Strs
import HandS.Dict
import HandS.More
import HandS.Deep
import KE.KDictKeyed
import KE.SortKeyHeap
import PySem.Challenge.RW_startgaps_k11_whole_states_of_plans
import HandS.FStr
import HandS.Sort
import HandS.Flow
import HandS.Defaults
import KE.KDictPairs
set_option Elab.async false
set_option linter.all false
set_option maxRecDepth 100000
set_option maxHeartbeats 4000000
namespace Sg
open PySem PySem.Spec PyProof.Rows L2

/-! ## defs that may ask for a text of data: they run outside of every such text -/
/-- a promise that holds where no text of data is being made -/
structure FnG (P : Program) (w : World) (K : PySem.W.Frag) (mg : Str → Option Value) (base : Heap) (k : Nat) (f : Addr)
    (fd : FuncData) (ps : List Str) (sp : Sp) : Prop where
  arity : ∀ vs H Q, sp vs H Q E0 → vs.length = ps.length
  go : ∀ (A : Around) (outer : List Env) (s : Shared) (H : Hp) (args : Args) (us : List Value) (vs : List V) (Q : VK),
    A.guards = some [] → Room k A → Env0 P w K mg base A outer s H → BindsTo s fd args (ps.zip us) → Vals vs us →
    sp vs H Q E0 → codeAny (model P w) A (.call (.ref f) args) (CR CX0 outer P w H s Q E0) s

section
variable {P : Program} {w : World} {K : PySem.W.Frag} {mg : Str → Option Value} {base : Heap} {k : Nat} {f : Addr}
variable {fd : FuncData} {ps : List Str} {sp : Sp}

theorem FnG.of (F : FnOk P w K mg base CX0 k f fd ps sp) : FnG P w K mg base k f fd ps sp :=
  ⟨fun vs H Q h => F.len vs H Q E0 h, fun A outer s H args us vs Q _ hr e0 hb hv h =>
    F.run A outer s H args us vs Q E0 hr e0 hb hv h⟩

theorem FnG.mono {j : Nat} (F : FnG P w K mg base j f fd ps sp) (h : j ≤ k) : FnG P w K mg base k f fd ps sp :=
  ⟨F.arity, fun A outer s H args us vs Q hg hr => F.go A outer s H args us vs Q hg (hr.mono h)⟩

/-- a def's body, where no text of data is being made -/
theorem fnG_mk {x qual : Str} {st : Stmt} {N : List Str} (F : Fun K x qual st f fd)
    (S : FnScope N ps (defScope st)) (arity : ∀ vs H Q, sp vs H Q E0 → vs.length = ps.length)
    (hbody : ∀ (cdv : Value) (A : Around) (outer : List Env) (s : Shared) (H : Hp) (vs : List V) (Q : VK),
      (A.deeper (envOfC qual (defScope st) s.heap.objs.size f cdv)).guards = some [] →
      Room k (A.deeper (envOfC qual (defScope st) s.heap.objs.size f cdv)) → sp vs H Q E0 →
      ∃ t, PSs (cxOf CX0 P w K mg base N qual (defScope st) f cdv A outer s H E0).nox (defBody st) t ∧
        t { nx := fun _ H' => Q .non H', rt := Q } (start N vs) H) :
    FnG P w K mg base (k + 1) f fd ps sp := by
  obtain ⟨oc, od, kV, doc, pm, an, cdv, ct, osl, rfl, lk, hcd⟩ := F.ex
  refine ⟨arity, ?_⟩
  intro A outer s H args us vs Q hg hr e0 hb r hsp
  have hl := arity _ _ _ hsp
  have hk0 : ∀ b o, base.get? b = some o → s.heap.get? b = some o := fun b o e => (e0.bs b o e).1
  have KX : K.In s.heap := e0.mod.kin.keeps hk0
  have lim : s.heap.NoLimit := e0.mod.nolimit.keeps hk0
  refine codeAny_call_function hr.depth (KX _ _ lk) rfl S.co S.gen rfl (PySem.W.codeRec_of KX hcd) ?_
  refine hb _ _ _ _ (wpAny_newFunctionEnv_cells S.kind ?_ ?_)
  · rintro ⟨n, v⟩ hy
    have hn := S.par n (List.of_mem_zip hy).1
    cases hn with
    | inl q => exact .inl q
    | inr q => exact .inr ⟨q, PySem.W.cellsFrom_some _ _ _ (.inl q)⟩
  · intro env he s1 x
    subst he
    refine ⟨lim.keeps x.toInCall.keep, ?_⟩
    apply codeAny_func
    obtain ⟨t, ht, hq⟩ := hbody cdv A outer s H vs Q hg (hr.deeper _) hsp
    have ht' := ht.nox
    have I := inv_start (CX := CX0) (E := E0) (cd := cdv) (qual := qual) (f := f) S hr.hd e0 hl r x
    refine wpAny_mono (ht'.run [] s1 (start N vs) H _ I hq) ?_ (fun e s' hs => hs)
    intro fl s' hs
    cases fl with
    | ret u =>
      obtain ⟨v, σ', H', J, rv, q⟩ := hs
      exact ⟨v, H', J.os, J.bare, J.base, J.hok, rv, q⟩
    | next =>
      obtain ⟨σ', H', J, q⟩ := hs
      exact ⟨V.non, H', J.os, J.bare, J.base, J.hok, rfl, q⟩
    | brk => obtain ⟨_, _, _, q⟩ := hs; exact q.elim
    | cont => obtain ⟨_, _, _, q⟩ := hs; exact q.elim
end

section
variable {X : Cx} {k : Nat} {f : Addr} {fd : FuncData} {ps : List Str} {sp : Sp} {dvs : List V} {ds : List Value}
variable {x : Str} {p pos : Pos} {e : Expr} {es : List Expr} {t : TA}
/-- f(a, ..) of such a def -/
theorem pe_callG (F : FnG X.prog X.w X.K X.mg X.base k f fd ps sp) (hgd : X.A.guards = some []) (hr : Room k X.A)
    (hg : Gl X x) (hm : X.mg x = some (.ref f)) (hk : PySem.W.keepIn X.K (.ref f) = true) (hb : Binds X.K fd ps [])
    (ha : PA X (e :: es) t) (hdb : (x == ("__debug__" : Str)) = false := by decide)
    (he : starEach (e :: es) X.env = (false, eval e X.env) :: starEach es X.env := by rfl)
    (hpl : (backTo pos (starEach es X.env)).any (·.1) = false := by rfl) :
    PE X (.Call (.Name x p) (e :: es) [] pos) (tCall sp [] E0 t) := by
  constructor
  intro pins s σ H Q I h
  refine wpAny_Call_Name_kw (ld_glob I hg hm (PySem.W.callWith_K (h₀ := X.base) I.ok.mod.kin hk ?_ he hpl) hdb)
  refine thn (ha.run pos pins s σ H _ I h) ?_
  rintro us s1 ⟨vs, H1, I1, r, q⟩
  refine ⟨I1.kIn, ?_⟩
  rw [List.append_nil] at q
  have hl : (us ++ []).length = ps.length := by rw [List.append_nil, ← r.length]; exact F.arity _ _ _ q
  have hbb := hb s1 us I1.kIn hl
  rw [List.append_nil] at hbb
  refine wpAny_call (codeAny_mono (F.go X.A X.stack s1 H1 ⟨us, []⟩ us vs Q hgd hr I1.env0 hbb r q) ?_)
  intro r' s' hq
  match r', hq with
  | .error _, hq => exact hq.elim
  | .ok (.ret _), hq => exact I1.after hq
  | .ok .next, hq => exact hq.elim
  | .ok .brk, hq => exact hq.elim
  | .ok .cont, hq => exact hq.elim

/-! ## repr of data -/
/-- what may be shown: its ints are not too great, and the text is not too long -/
def Shows (d : PyData) : Prop := d.showable = true ∧ d.hasDict = false ∧ d.depth ≤ 40 ∧ d.shown.length ≤ sizeLine
theorem call_reprD {j : Nat} (hgd : X.A.guards = some []) (hr : Room j X.A) :
    CallR X (.builtin "repr") (fun xs H Q => ∃ a d, xs = [.ref a] ∧ Dp X.K H (.ref a) d ∧ Shows d ∧ Q (.str d.shown) H) := by
  intro pins s σ H xs us Q I r h
  obtain ⟨a, d, rfl, hd, ⟨h1, h2, h3, h4⟩, q⟩ := h
  obtain ⟨u, rfl, rfl⟩ := vals1 r
  obtain ⟨as, rd⟩ := Dp.reads I d (.ref a) (.ref a) hd rfl
  have hu := hr.units
  refine repr_of_reads' (h₀ := s.heap) rd h1 (fun z => ?_) hgd (by omega) (fun _ _ z => z) (fun h' u tk hk => ?_) h4
  · rw [h2] at z; cases z
  · exact ⟨.str d.shown, H, I.kept hk, ⟨u, rfl⟩, q⟩
end
end Sg

set_option Elab.async false
set_option linter.all false
set_option maxRecDepth 100000
set_option maxHeartbeats 4000000
namespace Sg
open PySem PySem.Spec PyProof.Rows L2
/-! ## the law's own call -/
section
variable {P : Program} {w : World} {K : PySem.W.Frag} {mg mb : Str → Option Value} {k : Nat} {fa a : Addr}
variable {fd : FuncData} {x : Str} {sp : Sp} {s₁ : Shared} {vs : List Value} {ns : List Int}

/-- what is asked of the law's call -/
abbrev Ended (s₁ : Shared) : Result → Shared → Prop := fun r s' =>
  r = .ok (.ret (.bool true)) ∧ OldK s₁.heap s'.heap ∧ s'.os = s₁.os ∧ AllBare s'.gens

theorem call_from {H : Hp} (KX : K.In s₁.heap) (hns : s₁.heap.Ns mainGlobals mg) (hb : s₁.heap.Ns builtinsNs mb)
    (hbb : ∀ x : Str, x ≠ "__name__" → mb x = bootBuiltins x) (hlim : s₁.heap.NoLimit) (hg : s₁.gens = #[])
    (ha : s₁.heap.get? a = some { cls := .type "list", data := .seq vs.toArray }) (hr : Room k callerA)
    (F : ∀ base : Heap, K.In base → base.Ns mainGlobals mg → FnG P w K mg base k fa fd [x] sp)
    (hbind : ∀ (s : Shared) (u : Value), BindsTo s fd ⟨[u], []⟩ [(x, u)])
    (hsp : sp [.ref a] H (fun v _ => v = .bl true) E0) (hO : Only H) (hok : HOk P w H s₁.heap)
    (hA : ∀ b, H b ≠ none → b = a) (hK : H a ≠ none → K.lookup a = none) :
    codeAny (model P w) callerA (.call (.ref fa) ⟨[.ref a], []⟩) (Ended s₁) s₁ := by
  have only : ∀ {b : Addr} {u : HO}, H b = some u → b = a := fun z => hA _ (by rw [z]; exact fun q => nomatch q)
  have free : ∀ {b : Addr} {o : Obj} {es : Array DictEntry} {ep : Nat},
      s₁.heap.get? b = some o → o.data = .dict es ep → H b = none := by
    intro b o es ep e d
    rcases q : H b with _ | u
    · rfl
    · rw [only q, ha] at e
      have e' := Option.some.inj e
      rw [← e'] at d
      exact nomatch d
  have nsK : ∀ {b : Addr} {m : Str → Option Value}, s₁.heap.Ns b m → (hidT s₁.heap H).Ns b m := by
    rintro b m ⟨o, es, ep, e, d, r⟩
    exact ⟨o, es, ep, hidT_get e (free e d), d, r⟩
  have hKb : K.In (hidT s₁.heap H) := by
    intro b o e
    refine hidT_get (KX b o e) ?_
    rcases q : H b with _ | u
    · rfl
    · have e' := only q
      subst e'
      have z := hK (by rw [q]; exact fun q => nomatch q)
      rw [z] at e
      exact nomatch e
  have hM : Mod K mg (hidT s₁.heap H) := by
    refine ⟨hKb, nsK hns, ⟨mb, nsK hb, hbb⟩, ?_⟩
    obtain ⟨mc, h1, h2⟩ := hlim
    exact ⟨mc, nsK h1, h2⟩
  have e0 : Env0 P w K mg (hidT s₁.heap H) callerA [] s₁ H := by
    refine ⟨rfl, hM, fun b o e => of_hidT e, Nat.le_of_eq (hidT_size _ _), trivial, ?_, hok, .of_eq hg⟩
    intro b hb
    have hb' : b ∈ ([] : List Addr) := hb
    exact nomatch hb'
  have run := (F _ hKb (nsK hns)).go callerA [] s₁ H ⟨[.ref a], []⟩ [.ref a] [.ref a] _ rfl hr e0
    (hbind s₁ (.ref a)) (.cons rfl .nil) hsp
  refine codeAny_mono run ?_
  intro r s' h
  match r, h with
  | .error _, h => exact h.elim
  | .ok .next, h => exact h.elim
  | .ok .brk, h => exact h.elim
  | .ok .cont, h => exact h.elim
  | .ok (.ret u), h =>
    obtain ⟨v, H', os, bare, un, hok', r', q⟩ := h
    have q' : v = .bl true := q
    subst q'
    have eu : u = Value.bool true := r'
    subst eu
    refine ⟨rfl, OldK.of_keep ?_, os, bare⟩
    intro b o e
    rcases q : H b with _ | u
    · refine un.keep b o e q (fun z => ?_) (fun z => nomatch z)
      have z' : b ∈ ([] : List Addr) := z
      exact nomatch z'
    · rcases hO b with z | ⟨ob, xs, z⟩
      · rw [q] at z; exact nomatch z
      · obtain ⟨e1, _⟩ := hok b _ z
        obtain ⟨e2, _⟩ := hok' b _ (un.frzs b ob _ z)
        rw [e] at e1
        rw [e2, Option.some.inj e1]

theorem call_law (KX : K.In s₁.heap) (hns : s₁.heap.Ns mainGlobals mg) (hb : s₁.heap.Ns builtinsNs mb)
    (hbb : ∀ x : Str, x ≠ "__name__" → mb x = bootBuiltins x) (hlim : s₁.heap.NoLimit) (hg : s₁.gens = #[])
    (ha : s₁.heap.get? a = some { cls := .type "list", data := .seq vs.toArray }) (hi : IntsAre vs ns)
    (hl : ns.length ≤ sizeLine) (hr : Room k callerA)
    (F : ∀ base : Heap, K.In base → base.Ns mainGlobals mg → FnG P w K mg base k fa fd [x] sp)
    (hbind : ∀ (s : Shared) (u : Value), BindsTo s fd ⟨[u], []⟩ [(x, u)])
    (hsp : ∀ H : Hp, Only H → SqL K H a (ns.map V.int) → sp [.ref a] H (fun v _ => v = .bl true) E0) :
    codeAny (model P w) callerA (.call (.ref fa) ⟨[.ref a], []⟩) (Ended s₁) s₁ := by
  have rv := vals_ints hi
  have lenV := hi.length
  rcases hk : K.lookup a with _ | o
  · let H : Hp := fun b => if b = a then some (.frz { cls := .type "list", data := .seq vs.toArray } (.lst (ns.map V.int))) else none
    have at_a : H a = some (.frz { cls := .type "list", data := .seq vs.toArray } (.lst (ns.map V.int))) := if_pos rfl
    have off : ∀ b, b ≠ a → H b = none := fun b hb => if_neg hb
    have onlyH : Only H := by
      intro b
      by_cases hb : b = a
      · exact .inr ⟨_, _, if_pos hb⟩
      · exact .inl (off b hb)
    refine call_from (H := H) KX hns hb hbb hlim hg ha hr F hbind (hsp H onlyH (.inl (.inr ⟨_, at_a⟩))) onlyH ?_ ?_ (fun _ => hk)
    · intro b u z
      by_cases hb : b = a
      · subst hb
        rw [at_a] at z
        obtain rfl := Option.some.inj z
        exact ⟨ha, by rw [List.length_map]; exact hl, vs, _, rv, ha⟩
      · rw [off b hb] at z; exact nomatch z
    · intro b z
      by_cases hb : b = a
      · exact hb
      · exact absurd (off b hb) z
  · have e := KX a o hk
    rw [ha] at e
    obtain rfl := Option.some.inj e
    refine call_from (H := fun _ => none) KX hns hb hbb hlim hg ha hr F hbind (hsp _ (fun _ => .inl rfl) (.inr ?_)) (fun _ => .inl rfl)
      (fun b u z => nomatch z) (fun b z => absurd rfl z) (fun z => absurd rfl z)
    exact ⟨_, vs.toArray, _, hk, rfl, rfl, rfl, by rw [List.size_toArray, lenV]; exact hl, rv⟩
end

/-- the end of a law's proof -/
theorem walk_law {l : PySem.W.OpenLaw} {k : Nat} {q : Program} {loose : List Str} {XP : (Str → Option Value) → Heap → Prop}
    {YP : World → Heap → Prop} {d : DefRec} {K : Params → PySem.W.Frag} {sp : PySem.W.Frag → Sp} {x : Str}
    (hn : l.most = some 63) (hdf : d.params.defaults = []) (hr : Room k callerA)
    (hY : ∀ (w : World) (h : Heap), YP w h → (K w.params).In h)
    (F : ∀ (w : World) (mg : Str → Option Value) (fa : Addr) (h : Heap), (K w.params).In h → h.Ns mainGlobals mg →
      mg d.name = some (.ref fa) → ∃ fd : FuncData, (∀ (s : Shared) (u : Value), BindsTo s fd ⟨[u], []⟩ [(x, u)]) ∧
        ∀ base : Heap, (K w.params).In base → base.Ns mainGlobals mg →
          FnG l.prog w (K w.params) mg base k fa fd [x] (sp (K w.params)))
    (hsp : ∀ (K : PySem.W.Frag) (H : Hp) (a : Addr) (ns : List Int), ns.length ≤ 63 → Only H → SqL K H a (ns.map V.int) →
      sp K [.ref a] H (fun v _ => v = .bl true) E0) :
    PySem.W.WalkO q loose XP YP l.row.toRowW d [] (fun f vs => PySem.call f vs) := by
  refine Att.attach_call hn hdf ?_
  intro w s₀ s₁ mg mb fa o pm cd doc a vs ns G Y ho hd hcd hmg hobj hints hlen hg
  obtain ⟨fd, hb, hF⟩ := F w mg fa _ (hY w _ Y) G.T.g hmg
  exact call_law (hY w _ Y) G.T.g G.T.b G.T.builtins G.T.nolimit hg hobj hints
    (Nat.le_trans hlen (by decide)) hr hF hb (fun H hO hS => hsp _ H a ns hlen hO hS)
end Sg

set_option Elab.async false
set_option linter.all false
set_option maxRecDepth 100000
set_option maxHeartbeats 4000000
namespace PySem
open Sem (wp)
open AutoSeq1 (wpAny_loadPart')
/-- enumerate(t), t a tuple: its two new cells -/
theorem sg_enum_new (l : Addr) (items : Array Value) :
    Meets (Builtin.«enumerate.__new__» ⟨[.type "enumerate", .ref l], []⟩) (fun _ R s => s.heap.IsTuple l items ∧
      R (.ok (.ret (.ref (s.heap.push { cls := .type "tuple_iterator", data := .fields #[.ref l, .int 0 0] }).objs.size)))
        { s with heap := ((s.heap.push { cls := .type "tuple_iterator", data := .fields #[.ref l, .int 0 0] }).push { cls := .type "enumerate", data := .fields #[.none, .bool false, .ref s.heap.objs.size, rawInt 0, .none, .none] }) }) := by
  refine .of_wp ?_
  intro prog w A R s h
  obtain ⟨hp, g, d, tk, os⟩ := s
  obtain ⟨hT, h⟩ := h
  obtain ⟨o, hl, hc, n, hd⟩ := id hT
  have hsub := sub_enumerate
  wp_walk using wpAny_loadPart' hl
  refine wpAny_stack_any fun st => wpAny_pure ?_
  split
  · rename_i c _ _ _ _ _
    rcases hcc : (c == Value.type "enumerate") with _ | _ <;>
    · wp_walk using wpAny_loadPart' hl, wpAny_pyIter_tuple hT
      exact ⟨_, rfl, h⟩
  · wp_walk using wpAny_loadPart' hl, wpAny_pyIter_tuple hT
    exact ⟨_, rfl, h⟩

section
variable {prog : Program} {w : World} {A : Around} {E : Value → Shared → Prop} {s : Shared}
theorem sg_call_enum {l : Addr} {items : Array Value} {Q : Value → Shared → Prop} (hL : s.heap.IsTuple l items)
    (h : ∀ h', IsEnum h' (s.heap.objs.size + 1) s.heap.objs.size 0 .none → h'.IsTupleIter s.heap.objs.size l 0 →
      (∀ b o, s.heap.get? b = some o → h'.get? b = some o) → Q (.ref (s.heap.objs.size + 1)) { s with heap := h' }) :
    wpAny (model prog w) A (call (.type "enumerate") [.ref l]) Q E s := by
  refine callType_new F.called_enumerate (by decide) (F.typeCall_enumerate_1 _) (F.newCall_enumerate_1 _)
    (fun obj => F.args_object_init_2 obj _) F.entry_enumerate_new (sg_enum_new l items) ⟨hL, ?_⟩
  let o1 : Obj := { cls := .type "tuple_iterator", data := .fields #[.ref l, .int 0 0] }
  have hz : (s.heap.push o1).objs.size = s.heap.objs.size + 1 := Heap.size_push ..
  show _ ∧ _
  rw [hz]
  have he : IsEnum ((s.heap.push o1).push { cls := .type "enumerate", data := .fields #[.none, .bool false, .ref s.heap.objs.size, rawInt 0, .none, .none] })
      (s.heap.objs.size + 1) s.heap.objs.size 0 .none := by
    have z := Heap.get?_push_size (s.heap.push o1)
      (o := { cls := .type "enumerate", data := .fields #[.none, .bool false, .ref s.heap.objs.size, rawInt 0, .none, .none] }) rfl
    rw [hz] at z
    exact z
  refine ⟨⟨_, he, rfl⟩, h _ he ⟨_, Heap.get?_push_of_some _ (Heap.get?_push_size _ rfl), rfl, rfl⟩ ?_⟩
  intro b o x
  exact Heap.get?_push_of_some _ (Heap.get?_push_of_some _ x)
end
end PySem
namespace Sg
open PySem PySem.Spec PyProof.Rows L2
/-- the tuple at a, item by item, each in a new pair with its place -/
def ItE (K : PySem.W.Frag) (a : Addr) : It :=
  ⟨fun i H => ∃ (xs : List V) (x : V), SqT K H a xs ∧ xs[i]? = some x,
   fun i H v H' => ∃ T x, v = .ref T ∧ H T = none ∧ H' = upd H T (.tup [.int (i : Nat), x]) ∧ ∀ xs, SqT K H a xs → xs[i]? = some x,
   fun i H => ∃ xs : List V, SqT K H a xs ∧ xs.length ≤ i⟩
theorem turn_enumT {P : Program} {w : World} {K : PySem.W.Frag} {elts : List Expr} {kk : Nat} {tpos : Pos} (a e it : Addr) :
    Turn P w K (.Tuple elts kk tpos) (ItE K a) [e, it] e
      (fun i h => (∃ old, IsEnum h e it ((i : Nat) : Int) old) ∧ h.IsTupleIter it a i ∧ e ≠ it) := by
  have two : ∀ {b : Addr}, b ∈ [e, it] → b = e ∨ b = it := fun {b} hb => by simpa using hb
  refine ⟨by simp, ?_, ?_, ?_, ?_, ?_⟩
  · rintro i h ⟨⟨old, he⟩, ⟨o, ho, hc, hd⟩, _⟩ b hb
    rcases two hb with rfl | rfl
    · exact ⟨_, he, fun v q => nomatch q⟩
    · refine ⟨o, ho, fun v q => ?_⟩
      rw [hd] at q
      exact nomatch q
  · rintro i h h' ⟨⟨old, he⟩, hi, hne⟩ k
    exact ⟨⟨old, k e (by simp) _ he⟩, hi.at fun o q => k it (by simp) o q, hne⟩
  · intro X hP hw hK hc i pins s σ H E I hf st hg
    subst hP hw hK
    obtain ⟨⟨old, he⟩, hit, hne⟩ := st
    obtain ⟨xs, x, hq, hx⟩ := hg
    obtain ⟨its, rv, p, hz⟩ := I.tuple hq
    obtain ⟨u, hu, ru⟩ := rv.get hx
    have hel : e < s.heap.objs.size := Heap.lt_size he
    have hil : it < s.heap.objs.size := by obtain ⟨_, q, _⟩ := hit; exact Heap.lt_size q
    have hai : a ≠ it := by
      rintro rfl
      obtain ⟨o, ho, hcl, _⟩ := p
      obtain ⟨o', ho', hcl', _⟩ := hit
      rw [ho] at ho'
      obtain rfl := Option.some.inj ho'
      rw [hcl] at hcl'
      exact absurd hcl' (by decide)
    have hae : e ≠ a := by
      rintro rfl
      obtain ⟨o, ho, hcl, _⟩ := p
      have he' : s.heap.get? e = _ := he
      rw [ho] at he'
      obtain rfl := Option.some.inj he'
      have z : ("enumerate" : String) = "tuple" := Value.type.inj hcl
      exact absurd z (by decide)
    have hlt : i < its.length := (List.getElem?_eq_some_iff.mp hu).1
    refine wpAny_pyNext_enum_itemD (Draws.tuple (A := X.A.in1) (I.ok.hd hc) it a hai its.toArray) he ⟨hit, p⟩
      (by simpa using hlt) hne (by simp [hne, hae]) ?_
    intro x' h' tk hP ho hs' hT hsz hk
    have hxu : x' = u := by
      have z : its[i]? = some x' := by simpa using hP
      rw [hu] at z
      exact (Option.some.inj z).symm
    subst hxu
    refine ⟨_, rfl, wpAny_letOwnedTupleGo_enum (s := { s with heap := h', toks := tk + 1 }) ho ?_⟩
    intro h'' he' sb
    have hT2 : h''.get? s.heap.objs.size = some { cls := .type "tuple", data := .seq #[.int i tk, x'] } :=
      (sb.2 _ (Nat.ne_of_gt hel)).trans hT
    have new : ObjOk X.prog X.w (upd H s.heap.objs.size (.tup [.int (i : Nat), x])) h'' s.heap.objs.size (.tup [.int (i : Nat), x]) := by
      refine ⟨by show 2 ≤ sizeLine; decide, [.int i tk, x'], .cons ⟨_, rfl⟩ (.cons ru .nil), ⟨_, hT2, rfl, _, rfl⟩⟩
    have I1 : Inv X pins σ (upd H s.heap.objs.size (.tup [.int (i : Nat), x])) { s with heap := h'', toks := tk + 1 } := by
      refine I.turnedNew (ch := [e, it]) ?_ hf (Nat.le_refl _) new
      intro b ob hb q
      have n1 : b ≠ e := fun z => hb (by simp [z])
      have n2 : b ≠ it := fun z => hb (by simp [z])
      exact (sb.2 b n1).trans (hk b ob n1 n2 q)
    refine ⟨.ref s.heap.objs.size, _, I1, rfl, ⟨_, x, rfl, I.hok.fresh (Nat.le_refl _), rfl, ?_⟩, ⟨⟨x', ?_⟩, ?_, hne⟩, ?_⟩
    · intro ys hy
      rw [I.tuple_inj hy hq]
      exact hx
    · have e1 : ((i + 1 : Nat) : Int) = (i : Int) + 1 := by omega
      rw [e1]
      exact he'
    · exact hs'.1.at fun o q => (sb.2 it (Ne.symm hne)).trans q
    · intro b hb
      have hb' : b < s.heap.objs.size := by
        rcases two hb with rfl | rfl
        · exact hel
        · exact hil
      rw [upd_ne (Nat.ne_of_lt hb')]
      exact (hf b hb).1
  · intro X hP hw hK hc i pins s σ H E I hf st hg
    subst hP hw hK
    obtain ⟨⟨old, he⟩, hit, hne⟩ := st
    obtain ⟨xs, hq, hx⟩ := hg
    obtain ⟨its, rv, p, hz⟩ := I.tuple hq
    obtain ⟨f0, f1, f2, f3, f4, f5⟩ := hf it (by simp)
    have hl := rv.length
    have hh : X.A.in1.in1.handled = none := I.ok.hd hc
    have hai : a ≠ it := by
      rintro rfl
      obtain ⟨o, ho, hcl, _⟩ := p
      obtain ⟨o', ho', hcl', _⟩ := hit
      rw [ho] at ho'
      obtain rfl := Option.some.inj ho'
      rw [hcl] at hcl'
      exact absurd hcl' (by decide)
    unfold pyNext
    have hTy : s.TypeIs (.ref e) "enumerate" := ⟨_, he, rfl⟩
    refine wpAny_bind (wpAny_attempt (wpAny_callSpecial?_slot (name := Str.ofString "__next__") hTy F.slot_enumerate_next
      (wpAny_call_entry F.slot_enumerate_next hTy F.entry_enumerate_next ?_ (F.args_enumerate_next_1 _))))
    show wpAny _ _ (field (.ref e) 2 >>= _) _ _ _
    refine wpAny_bind (wpAny_field he rfl (x := .ref it) rfl ?_)
    refine wpAny_bind (wpAny_nextOf_tuple_end hh hit p (by simp; omega) ?_)
    rintro h' x he' ⟨o, ho, hcl⟩
    refine wpAny_bind (wpAny_isInstance (T := "StopIteration") (b := true) ⟨o, ho, hcl⟩ isSubtype_stop (wpAny_pure ?_))
    exact ⟨rfl, I.turned (t' := s.toks) (fun b o hb q => he' b o hb q) f0 f1 f3 f4 f5⟩
  · intro A i s Q E st h
    obtain ⟨⟨_, he⟩, _⟩ := st
    exact wpAny_pyIter_enum he h
def iEnT (K : PySem.W.Frag) (ta : TA) : TI := fun σ H R => ta σ H fun vs H1 => ∃ a xs, vs = [.ref a] ∧ SqT K H1 a xs ∧ R (ItE K a) H1
theorem pi_enumT {X : Cx} {e : Expr} {ta : TA} {p pos tpos : Pos} {elts : List Expr} {kk : Nat} (hg : Gl X "enumerate")
    (hm : X.mg "enumerate" = none) (ha : PA X [e] ta) (hs : starEach [e] X.env = [(false, eval e X.env)] := by rfl) :
    PI X (.Tuple elts kk tpos) (.Call (.Name "enumerate" p) [e] [] pos) (iEnT X.K ta) := by
  constructor
  intro pins s σ H R I h
  refine Call_ (ld_blt I hg hm boot_enumerate (PyProof.Rows.callWith_type1 (thn (ha.run pos pins s σ H _ I h) ?_) hs rfl))
  rintro us s1 ⟨vs, H1, I1, r1, a, xs, rfl, hq, q⟩
  obtain ⟨u, rfl, rfl⟩ := vals1 r1
  obtain ⟨its, rv, p', hz⟩ := I1.tuple hq
  refine sg_call_enum p' ?_
  intro h' he hit hk
  refine wpAny_pyIter_enum he ?_
  have I2 : Inv X pins σ H1 { s1 with heap := h' } := I1.kept (t' := s1.toks) hk
  refine ⟨s1.heap.objs.size + 1, [s1.heap.objs.size + 1, s1.heap.objs.size], _, _, H1, rfl, I2,
    turn_enumT a (s1.heap.objs.size + 1) s1.heap.objs.size, ⟨⟨.none, he⟩, hit, Nat.succ_ne_self _⟩, ?_, q⟩
  intro b hb
  have hle : s1.heap.objs.size ≤ b := by
    have e' : b = s1.heap.objs.size + 1 ∨ b = s1.heap.objs.size := by simpa using hb
    rcases e' with rfl | rfl
    · exact Nat.le_succ _
    · exact Nat.le_refl _
  exact I1.fpOk hle (I1.hok.fresh hle)
end Sg

set_option Elab.async false
set_option linter.all false
set_option maxRecDepth 100000
set_option maxHeartbeats 4000000
namespace Sg
open PySem PySem.Spec PyProof.Rows L2
/-! ## [c for a in t for b in a for c in b], tuples all the way down -/
/-- slots that agree but for those of ws -/
def Ag (ws : List Nat) (σ σ' : L2.St) : Prop := σ'.length = σ.length ∧ ∀ j, j ∉ ws → σ'[j]? = σ[j]?
theorem Ag.refl (ws : List Nat) (σ : L2.St) : Ag ws σ σ := ⟨rfl, fun _ _ => rfl⟩
theorem Ag.trans {ws : List Nat} {a b c : L2.St} (h : Ag ws a b) (k : Ag ws b c) : Ag ws a c := ⟨k.1.trans h.1, fun j hj => (k.2 j hj).trans (h.2 j hj)⟩
theorem Ag.set {ws : List Nat} {σ : L2.St} {k : Nat} {v : Option V} (hk : k ∈ ws) : Ag ws σ (σ.set k v) := ⟨List.length_set, fun j hj => by
  rw [List.getElem?_set_ne]
  rintro rfl
  exact hj hk⟩
theorem Ag.mono {ws us : List Nat} {σ σ' : L2.St} (h : Ag ws σ σ') (k : ∀ j ∈ ws, j ∈ us) : Ag us σ σ' := ⟨h.1, fun j hj => h.2 j fun z => hj (k j z)⟩
/-- a turn of a loop of a comprehension without tests -/
def flatTurn (e : Expr) (d : Nat) (it D : Addr) (n : Str) (p pos : Pos) (bd : Sem Fin → Sem Fin) (env : Env) : Sem Fin :=
  standAt pos >>= fun _ => pyNext (.ref it) >>= fun r => match r with
    | none => pure (.done .next)
    | some v => letOwnedTupleGo (.Name n p) (.ref it) v >>= fun _ => assign (.Name n p) env v >>= fun _ =>
      bd (again (.compLoop e d (.ref it) (.ref D) env))
section
variable {Z : Cx} {elt : Expr} {gens : List Comprehension} {scope : Scope} {cpos p pos : Pos} {d k : Nat} {it D c : Addr} {n : Str} {bd : Sem Fin → Sem Fin}
variable {R : Result → Shared → Prop} {xs : List V} {pins : List (Addr × Obj)} {ws : List Nat}
theorem flat_loop (hxe : Z.xe = fun _ _ => False) (hcalm : Z.calm = true) (hN : Z.N.Nodup)
    (hturn : compTurn (.ListComp elt gens scope cpos) d (.ref it) (.ref D) Z.env = flatTurn (.ListComp elt gens scope cpos) d it D n p pos bd Z.env)
    (hk : Z.N[k]? = some n) (hloc : Loc Z.env.scope n) (hfn : Z.fn n = true ∨ Z.env.scope.names.lookup n = some .local) (hkw : k ∈ ws)
    (σ : L2.St) (G : Nat → Hp → Prop) (hG : ∀ i H, i ≤ xs.length → G i H → SqT Z.K H c xs) (hfp : ∀ H, H it = none → FpOk Z pins H it)
    (hbd : ∀ i x s σ' H, xs[i]? = some x → G i H → H it = none → Inv Z (pins ++ pinsAt [it] s.heap) σ' H s → σ'[k]? = some (some x) → Ag ws σ σ' →
      ∀ (kk : Sem Fin) (Qf : Fin → Shared → Prop) (Ef : Value → Shared → Prop),
        (∀ s' σ'' H', Inv Z (pins ++ pinsAt [it] s.heap) σ'' H' s' → Ag ws σ σ'' → G (i + 1) H' → wpAny (model Z.prog Z.w) Z.A kk Qf Ef s') → wpAny (model Z.prog Z.w) Z.A (bd kk) Qf Ef s)
    (hfin : ∀ s' σ' H', Inv Z pins σ' H' s' → Ag ws σ σ' → G xs.length H' → R (.ok .next) s')
    {s : Shared} {σ₀ : L2.St} {H₀ : Hp} (I₀ : Inv Z pins σ₀ H₀ s) (ag₀ : Ag ws σ σ₀) (g₀ : G 0 H₀) (n₀ : H₀ it = none) (st₀ : s.heap.IsTupleIter it c 0) :
    codeAny (model Z.prog Z.w) Z.A (.compLoop (.ListComp elt gens scope cpos) d (.ref it) (.ref D) Z.env) R s := by
  have T := turn_tuple (P := Z.prog) (w := Z.w) (K := Z.K) (tg := .Name n p) c it
  have hb1 : ∀ {H : Hp}, H it = none → ∀ b ∈ [it], FpOk Z pins H b := by
    intro H hn b hb
    rw [List.mem_singleton.mp hb]
    exact hfp H hn
  refine codeAny_loop rfl (fun m s' => ∃ i σ' H', Inv Z pins σ' H' s' ∧ Ag ws σ σ' ∧ G i H' ∧ H' it = none ∧ s'.heap.IsTupleIter it c i ∧ i ≤ xs.length ∧ m = xs.length - i) ?_ xs.length
    ⟨0, σ₀, H₀, I₀, ag₀, g₀, n₀, st₀, Nat.zero_le _, rfl⟩
  rintro m s1 ⟨i, σ1, H1, I1, ag1, g1, n1, st1, hi, rfl⟩
  show wpAny _ Z.A ((compTurn (.ListComp elt gens scope cpos) d (.ref it) (.ref D) Z.env).onRaise (fun x => do noteFrame x Z.env; theTreesLotGoes x)) _ _ s1
  refine wpAny_noted ?_
  rw [hturn]
  refine wpAny_bind (wpAny_standAt (wpAny_bind ?_))
  have hq := hG i H1 hi g1
  by_cases hlt : i < xs.length
  · have go := T.item Z rfl rfl rfl hcalm i pins s1 σ1 H1 (fun _ _ => False) I1 (hb1 n1) st1 ⟨xs, xs[i], hq, List.getElem?_eq_getElem hlt⟩
    refine thnF go ?_
    rintro r s2 ⟨u, rfl, h2⟩
    refine wpAny_bind (thnF h2 ?_)
    rintro _ s3 ⟨x, H3, I3, r3, ⟨eH, hy⟩, st3, n3⟩
    subst eH
    have hx : xs[i]? = some x := hy xs hq
    have n3' : H3 it = none := n3 it (List.mem_singleton.mpr rfl)
    have I3' := I3.pinned (hb1 n3') (T.obj _ _ st3)
    have ia := (pg_name (X := Z) (pos := p) hN hk hloc hfn).run _ s3 σ1 H3 x u (fun σ' H' => σ' = σ1.set k (some x) ∧ H' = H3) I3' r3 ⟨rfl, rfl⟩
    rw [hxe] at ia
    refine wpAny_bind (thnF ia ?_)
    rintro _ s4 ⟨σ4, H4, I4, rfl, rfl⟩
    obtain ⟨o, ho, hoc⟩ := T.obj _ _ st3 it (List.mem_singleton.mpr rfl)
    have pin4 := I4.pin (it, o) (List.mem_append_right _ (List.mem_append_right _ (mem_pinsAt (List.mem_singleton.mpr rfl) ho)))
    have ep : pinsAt [it] s3.heap = pinsAt [it] s4.heap := by
      unfold pinsAt
      rw [List.filterMap_cons, List.filterMap_cons, ho, pin4.1]
      rfl
    rw [ep] at I4
    have hσ4 : (σ1.set k (some x))[k]? = some (some x) := by
      have hkl : k < σ1.length := by rw [I1.len]; exact (List.getElem?_eq_some_iff.mp hk).1
      rw [List.getElem?_set_self hkl]
    refine hbd i x s4 _ _ hx g1 n3' I4 hσ4 (ag1.trans (Ag.set hkw)) _ _ _ ?_
    intro s5 σ5 H5 I5 ag5 g5
    have pin5 := I5.pin (it, o) (List.mem_append_right _ (List.mem_append_right _ (mem_pinsAt (List.mem_singleton.mpr rfl) pin4.1)))
    have st5 : s5.heap.IsTupleIter it c (i + 1) := T.keep _ _ _ st3 (by
      intro b hb o' e
      rw [List.mem_singleton.mp hb] at e ⊢
      rw [ho] at e
      rw [← Option.some.inj e]
      exact pin5.1)
    exact wpAny_pure ⟨rfl, xs.length - (i + 1), by omega, i + 1, σ5, H5, I5.unpinned, ag5, g5, pin5.2.1, st5, hlt, rfl⟩
  · have e : i = xs.length := by omega
    subst e
    have stop := T.done Z rfl rfl rfl hcalm xs.length pins s1 σ1 H1 (fun _ _ => False) I1 (hb1 n1) st1 ⟨xs, hq, Nat.le_refl _⟩
    refine thnF stop ?_
    rintro r s2 ⟨rfl, I2⟩
    exact wpAny_pure (hfin s2 σ1 H1 I2 ag1 g1)
end
/-! ### the three clauses -/
abbrev flatE (n1 n2 n3 : Str) (iter : Expr) (scope : Scope) (q1 q2 q3 a1 a2 a3 pos : Pos) : Expr :=
  .ListComp (.Name n3 a3) [⟨.Name n1 q1, iter, [], 0⟩, ⟨.Name n2 q2, .Name n1 a1, [], 0⟩, ⟨.Name n3 q3, .Name n2 a2, [], 0⟩] scope pos
section
variable {n1 n2 n3 : Str} {iter : Expr} {scope : Scope} {q1 q2 q3 a1 a2 a3 pos : Pos} {it D : Addr} {env : Env}
abbrev downBody (e i : Expr) (d : Nat) (D : Addr) (env : Env) (kk : Sem Fin) : Sem Fin := eval i env >>= fun x => standAt i.pos >>= fun _ =>
  foldedSetIterable i env x >>= fun x => holding [x] (pyIter x) >>= fun it' => runOwn (.compStart e d it' (.ref D) env) env >>= fun _ => kk
abbrev addBody (elt : Expr) (D : Addr) (env : Env) (kk : Sem Fin) : Sem Fin :=
  (eval elt env >>= fun x => call (.builtin "list.append") [.ref D, x] >>= fun _ => pure ()) >>= fun _ => kk
theorem flat_t0 : compTurn (flatE n1 n2 n3 iter scope q1 q2 q3 a1 a2 a3 pos) 0 (.ref it) (.ref D) env =
    flatTurn (flatE n1 n2 n3 iter scope q1 q2 q3 a1 a2 a3 pos) 0 it D n1 q1 iter.pos (downBody (flatE n1 n2 n3 iter scope q1 q2 q3 a1 a2 a3 pos) (.Name n1 a1) 1 D env) env := by rfl
theorem flat_t1 : compTurn (flatE n1 n2 n3 iter scope q1 q2 q3 a1 a2 a3 pos) 1 (.ref it) (.ref D) env =
    flatTurn (flatE n1 n2 n3 iter scope q1 q2 q3 a1 a2 a3 pos) 1 it D n2 q2 a1 (downBody (flatE n1 n2 n3 iter scope q1 q2 q3 a1 a2 a3 pos) (.Name n2 a2) 2 D env) env := by rfl
theorem flat_t2 : compTurn (flatE n1 n2 n3 iter scope q1 q2 q3 a1 a2 a3 pos) 2 (.ref it) (.ref D) env =
    flatTurn (flatE n1 n2 n3 iter scope q1 q2 q3 a1 a2 a3 pos) 2 it D n3 q3 a2 (addBody (.Name n3 a3) D env) env := by rfl
end
section
variable {prog : Program} {w : World} {A : Around} {R : Result → Shared → Prop} {s : Shared} {n1 n2 n3 : Str} {iter : Expr} {scope : Scope} {q1 q2 q3 a1 a2 a3 pos : Pos} {it acc : Value} {env : Env}
theorem flat_s1 (h0 : codeAny (model prog w) A (.compLoop (flatE n1 n2 n3 iter scope q1 q2 q3 a1 a2 a3 pos) 1 it acc env) R s)
    (h : wpAny (model prog w) A (pyIter it) (fun it' s' => codeAny (model prog w) A (.compLoop (flatE n1 n2 n3 iter scope q1 q2 q3 a1 a2 a3 pos) 1 it' acc env) R s') (notedBy (model prog w) A env fun x s' => R (.error x) s') s) :
    codeAny (model prog w) A (.compStart (flatE n1 n2 n3 iter scope q1 q2 q3 a1 a2 a3 pos) 1 it acc env) R s := by
  apply codeAny_of_tree
  show wpAny _ _ ((compStart (flatE n1 n2 n3 iter scope q1 q2 q3 a1 a2 a3 pos) 1 it acc env).onRaise (fun x => do noteFrame x env; standAt theWindowsPlace)) _ _ s
  apply wpAny_notedAt
  unfold compStart
  show wpAny _ _ (ask >>= _) _ _ s
  refine wpAny_bind (wpAny_askSetting (wpAny_ite ?_))
  split
  · first | exact wpAny_pure (And.intro rfl h0) | exact wpAny_bind (wpAny_pure (wpAny_pure (And.intro rfl h0)))
  · refine wpAny_bind (wpAny_rule ?_)
    show wpAny _ _ (standAt a1 >>= _) _ _ s
    exact wpAny_bind (wpAny_standAt (wpAny_bind (wpAny_mono h (fun it' s' h' => wpAny_pure (And.intro rfl h')) fun _ _ x => x)))
theorem flat_s2 (h0 : codeAny (model prog w) A (.compLoop (flatE n1 n2 n3 iter scope q1 q2 q3 a1 a2 a3 pos) 2 it acc env) R s)
    (h : wpAny (model prog w) A (pyIter it) (fun it' s' => codeAny (model prog w) A (.compLoop (flatE n1 n2 n3 iter scope q1 q2 q3 a1 a2 a3 pos) 2 it' acc env) R s') (notedBy (model prog w) A env fun x s' => R (.error x) s') s) :
    codeAny (model prog w) A (.compStart (flatE n1 n2 n3 iter scope q1 q2 q3 a1 a2 a3 pos) 2 it acc env) R s := by
  apply codeAny_of_tree
  show wpAny _ _ ((compStart (flatE n1 n2 n3 iter scope q1 q2 q3 a1 a2 a3 pos) 2 it acc env).onRaise (fun x => do noteFrame x env; standAt theWindowsPlace)) _ _ s
  apply wpAny_notedAt
  unfold compStart
  show wpAny _ _ (ask >>= _) _ _ s
  refine wpAny_bind (wpAny_askSetting (wpAny_ite ?_))
  split
  · first | exact wpAny_pure (And.intro rfl h0) | exact wpAny_bind (wpAny_pure (wpAny_pure (And.intro rfl h0)))
  · refine wpAny_bind (wpAny_rule ?_)
    show wpAny _ _ (standAt a2 >>= _) _ _ s
    exact wpAny_bind (wpAny_standAt (wpAny_bind (wpAny_mono h (fun it' s' h' => wpAny_pure (And.intro rfl h')) fun _ _ x => x)))
end
end Sg

set_option Elab.async false
set_option linter.all false
set_option maxRecDepth 100000
set_option maxHeartbeats 4000000
namespace Sg
open PySem PySem.Spec PyProof.Rows L2
/-- cells are tuples; xs are all their items -/
inductive FlatL (K : PySem.W.Frag) (H : Hp) : List V → List V → Prop
  | nil : FlatL K H [] []
  | cons {a : Addr} {ys cells xs : List V} : SqT K H a ys → FlatL K H cells xs → FlatL K H (.ref a :: cells) (ys ++ xs)
/-- rows are tuples of tuples; xs are all the items of these -/
inductive FlatR (K : PySem.W.Frag) (H : Hp) : List V → List V → Prop
  | nil : FlatR K H [] []
  | cons {a : Addr} {cells ys rows xs : List V} : SqT K H a cells → FlatL K H cells ys → FlatR K H rows xs → FlatR K H (.ref a :: rows) (ys ++ xs)
section
variable {K : PySem.W.Frag} {H : Hp}
theorem FlatL.snoc {a : Addr} {ys : List V} (h : SqT K H a ys) : ∀ {cells xs : List V}, FlatL K H cells xs → FlatL K H (cells ++ [.ref a]) (xs ++ ys)
  | _, _, .nil => by have z := FlatL.cons h .nil; rwa [List.append_nil] at z
  | _, _, .cons h1 r => by rw [List.append_assoc]; exact .cons h1 (FlatL.snoc h r)
theorem FlatR.snoc {a : Addr} {cells ys : List V} (h : SqT K H a cells) (hl : FlatL K H cells ys) : ∀ {rows xs : List V}, FlatR K H rows xs → FlatR K H (rows ++ [.ref a]) (xs ++ ys)
  | _, _, .nil => by have z := FlatR.cons h hl .nil; rwa [List.append_nil] at z
  | _, _, .cons h1 h2 r => by rw [List.append_assoc]; exact .cons h1 h2 (FlatR.snoc h hl r)
theorem FlatL.same {H' : Hp} (e : Same H H') : ∀ {cells xs : List V}, FlatL K H cells xs → FlatL K H' cells xs
  | _, _, .nil => .nil
  | _, _, .cons h r => .cons (h.imp (fun z => z.imp (e _ _) fun ⟨o, z⟩ => ⟨o, e _ _ z⟩) id) (FlatL.same e r)
theorem FlatR.same {H' : Hp} (e : Same H H') : ∀ {rows xs : List V}, FlatR K H rows xs → FlatR K H' rows xs
  | _, _, .nil => .nil
  | _, _, .cons h l r => .cons (h.imp (fun z => z.imp (e _ _) fun ⟨o, z⟩ => ⟨o, e _ _ z⟩) id) (FlatL.same e l) (FlatR.same e r)
theorem sqT_new {D a : Addr} {o : HO} {ys : List V} (n : H D = none) (h : SqT K H a ys) : SqT K (upd H D o) a ys :=
  h.imp (fun z => z.imp (fun z => by rw [upd_ne (ne_of_none z n)]; exact z) fun ⟨u, z⟩ => ⟨u, by rw [upd_ne (ne_of_none z n)]; exact z⟩) id
end
section
variable {Z : Cx} {n1 n2 n3 : Str} {iter : Expr} {scope : Scope} {q1 q2 q3 a1 a2 a3 pos : Pos} {k1 k2 k3 : Nat}
/-- what the block says of its names -/
structure FlatN (Z : Cx) (n1 n2 n3 : Str) (k1 k2 k3 : Nat) : Prop where
  xe : Z.xe = fun _ _ => False
  calm : Z.calm = true
  nd : Z.N.Nodup
  h1 : Z.N[k1]? = some n1
  h2 : Z.N[k2]? = some n2
  h3 : Z.N[k3]? = some n3
  l1 : Z.env.scope.names.lookup n1 = some .local
  l2 : Z.env.scope.names.lookup n2 = some .local
  l3 : Z.env.scope.names.lookup n3 = some .local
  d1 : (n1 == ("__debug__" : Str)) = false
  d2 : (n2 == ("__debug__" : Str)) = false
  d3 : (n3 == ("__debug__" : Str)) = false
  c1 : (n1 == ("__classdict__" : Str)) = false
  c2 : (n2 == ("__classdict__" : Str)) = false
  c3 : (n3 == ("__classdict__" : Str)) = false
/-- the innermost loop -/
theorem flat_in (B : FlatN Z n1 n2 n3 k1 k2 k3) {pins : List (Addr × Obj)} {σ : L2.St} {H : Hp} {s : Shared} {R : Result → Shared → Prop} {it D c : Addr} {acc xs : List V}
    (hn : H D = none) (hc : SqT Z.K H c xs) (hz : acc.length + xs.length ≤ 1000000) (I : Inv Z pins σ (upd H D (.lst acc)) s) (st : s.heap.IsTupleIter it c 0) (hit : (upd H D (.lst acc)) it = none)
    (hfp : ∀ H, H it = none → FpOk Z pins H it)
    (fin : ∀ s' σ', Inv Z pins σ' (upd H D (.lst (acc ++ xs))) s' → Ag [k3] σ σ' → R (.ok .next) s') :
    codeAny (model Z.prog Z.w) Z.A (.compLoop (flatE n1 n2 n3 iter scope q1 q2 q3 a1 a2 a3 pos) 2 (.ref it) (.ref D) Z.env) R s := by
  refine flat_loop B.xe B.calm B.nd flat_t2 B.h3 (.inl B.l3) (.inr B.l3) (List.mem_singleton.mpr rfl) σ (fun i H' => H' = upd H D (.lst (acc ++ xs.take i)))
    (fun i H' _ e => by rw [e]; exact sqT_new hn hc) hfp (fun i x s1 σ1 H1 hx e hi I1 hk ag kk Qf Ef cont => ?_) (fun s' σ' H' I' ag e => ?_) I (Ag.refl _ _) (by rw [List.take_zero, List.append_nil]) hit st
  · subst e
    have ev := (pe_var (pos := a3) (X := Z) B.h3 (.inl B.l3) B.d3 B.c3).run _ s1 σ1 _ (fun v H2 => v = x ∧ H2 = upd H D (.lst (acc ++ xs.take i))) I1 ⟨x, hk, rfl, rfl⟩
    rw [B.xe] at ev
    refine wpAny_bind (wpAny_bind (thnF ev ?_))
    rintro u s2 ⟨v, H2, I2, r2, rfl, rfl⟩
    have lt : (acc ++ xs.take i).length < sizeLine := by
      have h4 : sizeLine = 16777216 := sizeLine_eq
      rw [List.length_append, List.length_take]
      have := Nat.min_le_right i xs.length
      omega
    refine wpAny_bind (app_ok (X := Z) I2 upd_same lt r2 fun s3 I3 => wpAny_pure ?_)
    rw [upd_upd] at I3
    refine cont s3 σ1 _ I3 ag ?_
    rw [List.take_add_one, hx, List.append_assoc]
    rfl
  · subst e
    rw [List.take_length] at I'
    exact fin s' σ' I' ag
/-- down a level: name, iterator, loop -/
theorem flat_down {pins : List (Addr × Obj)} {σ : L2.St} {H : Hp} {s : Shared} {c : Addr} {ys : List V} {nn : Str} {aa : Pos} {e : Expr} {d k : Nat} {D : Addr} {kk : Sem Fin} {Qf : Fin → Shared → Prop} {Ef : Value → Shared → Prop}
    (hxe : Z.xe = fun _ _ => False) (hN : Z.N[k]? = some nn) (hl : Z.env.scope.names.lookup nn = some .local) (hd : (nn == ("__debug__" : Str)) = false) (hcd : (nn == ("__classdict__" : Str)) = false)
    (I : Inv Z pins σ H s) (hk : σ[k]? = some (some (.ref c))) (hq : SqT Z.K H c ys)
    (go : ∀ s1 it, Inv Z pins σ H s1 → H it = none → (∀ H, H it = none → FpOk Z pins H it) → s1.heap.IsTupleIter it c 0 →
      codeAny (model Z.prog Z.w) Z.A (.compStart e d (.ref it) (.ref D) Z.env) (fun r s' => r = .ok .next ∧ wpAny (model Z.prog Z.w) Z.A kk Qf Ef s') s1) :
    wpAny (model Z.prog Z.w) Z.A (downBody e (.Name nn aa) d D Z.env kk) Qf Ef s := by
  have ev := (pe_var (pos := aa) (X := Z) hN (.inl hl) hd hcd).run _ s σ H (fun v H2 => v = .ref c ∧ H2 = H) I ⟨.ref c, hk, rfl, rfl⟩
  rw [hxe] at ev
  refine wpAny_bind (thnF ev ?_)
  rintro u s2 ⟨v, H2, I2, r2, rfl, rfl⟩
  obtain rfl : u = Value.ref c := r2
  refine wpAny_bind (wpAny_standAt (wpAny_bind (wpAny_of_eq (a := Value.ref c) rfl (wpAny_bind (wpAny_holding ?_)))))
  obtain ⟨its, rv, p, hz⟩ := I2.tuple hq
  refine wpAny_pyIter_tuple (show s2.heap.IsTuple c its.toArray from p) ?_
  refine wpAny_bind (wpAny_runOwn ?_)
  rw [Around.mark_none]
  have I3 : Inv Z pins σ H2 { s2 with heap := s2.heap.push { cls := .type "tuple_iterator", data := .fields #[.ref c, .int 0 0] } } := I2.kept (t' := s2.toks) fun b o e => Heap.get?_push_of_some _ e
  refine codeAny_mono (go _ s2.heap.objs.size I3 (I2.hok.fresh (Nat.le_refl _)) (fun H' h => I2.fpOk (Nat.le_refl _) h) ⟨_, Heap.get?_push_size _ rfl, rfl, rfl⟩) ?_
  rintro r s' ⟨rfl, hkk⟩
  exact hkk
/-- the middle loop -/
theorem flat_mid (B : FlatN Z n1 n2 n3 k1 k2 k3) {pins : List (Addr × Obj)} {σ : L2.St} {H : Hp} {s : Shared} {R : Result → Shared → Prop} {it D c : Addr} {acc cells xs : List V}
    (hn : H D = none) (hc : SqT Z.K H c cells) (hf : FlatL Z.K H cells xs) (hz : acc.length + xs.length ≤ 1000000) (I : Inv Z pins σ (upd H D (.lst acc)) s) (st : s.heap.IsTupleIter it c 0) (hit : (upd H D (.lst acc)) it = none)
    (hfp : ∀ H, H it = none → FpOk Z pins H it)
    (fin : ∀ s' σ', Inv Z pins σ' (upd H D (.lst (acc ++ xs))) s' → Ag [k2, k3] σ σ' → R (.ok .next) s') :
    codeAny (model Z.prog Z.w) Z.A (.compLoop (flatE n1 n2 n3 iter scope q1 q2 q3 a1 a2 a3 pos) 1 (.ref it) (.ref D) Z.env) R s := by
  refine flat_loop (ws := [k2, k3]) B.xe B.calm B.nd flat_t1 B.h2 (.inl B.l2) (.inr B.l2) (List.mem_cons_self) σ
    (fun i H' => ∃ pre suf ys zs, cells = pre ++ suf ∧ pre.length = i ∧ FlatL Z.K H pre ys ∧ FlatL Z.K H suf zs ∧ xs = ys ++ zs ∧ H' = upd H D (.lst (acc ++ ys)))
    (fun i H' _ ⟨_, _, _, _, _, _, _, _, _, e⟩ => by rw [e]; exact sqT_new hn hc) hfp (fun i x s1 σ1 H1 hx e hi I1 hk ag kk Qf Ef cont => ?_) (fun s' σ' H' I' ag e => ?_) I (Ag.refl _ _)
    ⟨[], cells, [], xs, rfl, rfl, .nil, hf, rfl, by rw [List.append_nil]⟩ hit st
  · obtain ⟨pre, suf, ys, zs, ec, el, f1, f2, ex, rfl⟩ := e
    cases f2 with
    | nil =>
      rw [ec, List.append_nil, ← el, List.getElem?_eq_none (Nat.le_refl _)] at hx
      exact nomatch hx
    | @cons b bs suf' zs' hb r =>
      have xb : x = .ref b := by
        rw [ec, ← el, List.getElem?_append_right (Nat.le_refl _), Nat.sub_self] at hx
        exact (Option.some.inj hx).symm
      subst xb
      have zl : acc.length + ys.length + bs.length ≤ 1000000 := by
        rw [ex, List.length_append, List.length_append] at hz
        omega
      refine flat_down B.xe B.h2 B.l2 B.d2 B.c2 I1 hk (sqT_new hn hb) fun s2 it2 I2 n2' fp2 st2 => ?_
      have loop : codeAny (model Z.prog Z.w) Z.A (.compLoop (flatE n1 n2 n3 iter scope q1 q2 q3 a1 a2 a3 pos) 2 (.ref it2) (.ref D) Z.env) (fun r s' => r = .ok .next ∧ wpAny (model Z.prog Z.w) Z.A kk Qf Ef s') s2 := by
        refine flat_in B hn hb (by rw [List.length_append]; exact zl) I2 st2 n2' fp2 fun s3 σ3 I3 ag3 => ⟨rfl, ?_⟩
        refine cont s3 σ3 _ I3 (ag.trans (ag3.mono (by simp))) ⟨pre ++ [.ref b], suf', ys ++ bs, zs', by rw [ec, List.append_assoc]; rfl, by rw [List.length_append, el]; rfl, FlatL.snoc hb f1, r, by rw [ex, List.append_assoc], by rw [List.append_assoc]⟩
      exact flat_s2 loop (wpAny_pyIter_tupleiter st2 loop)
  · obtain ⟨pre, suf, ys, zs, ec, el, f1, f2, ex, rfl⟩ := e
    have es : suf = [] := by
      have z := congrArg List.length ec
      rw [List.length_append, el] at z
      exact List.eq_nil_of_length_eq_zero (by omega)
    subst es
    cases f2
    rw [List.append_nil] at ex
    subst ex
    exact fin s' σ' I' ag
/-- the outer loop -/
theorem flat_out (B : FlatN Z n1 n2 n3 k1 k2 k3) {σ : L2.St} {H : Hp} {s : Shared} {R : Result → Shared → Prop} {it D c : Addr} {rows xs : List V}
    (hn : H D = none) (hc : SqT Z.K H c rows) (hf : FlatR Z.K H rows xs) (hz : xs.length ≤ 1000000) (I : Inv Z [] σ (upd H D (.lst [])) s) (st : s.heap.IsTupleIter it c 0) (hit : (upd H D (.lst [])) it = none)
    (hfp : ∀ H, H it = none → FpOk Z [] H it)
    (fin : ∀ s' σ', Inv Z [] σ' (upd H D (.lst xs)) s' → R (.ok .next) s') :
    codeAny (model Z.prog Z.w) Z.A (.compLoop (flatE n1 n2 n3 iter scope q1 q2 q3 a1 a2 a3 pos) 0 (.ref it) (.ref D) Z.env) R s := by
  refine flat_loop (ws := [k1, k2, k3]) B.xe B.calm B.nd flat_t0 B.h1 (.inl B.l1) (.inr B.l1) (List.mem_cons_self) σ
    (fun i H' => ∃ pre suf ys zs, rows = pre ++ suf ∧ pre.length = i ∧ FlatR Z.K H pre ys ∧ FlatR Z.K H suf zs ∧ xs = ys ++ zs ∧ H' = upd H D (.lst ys))
    (fun i H' _ ⟨_, _, _, _, _, _, _, _, _, e⟩ => by rw [e]; exact sqT_new hn hc) hfp (fun i x s1 σ1 H1 hx e hi I1 hk ag kk Qf Ef cont => ?_) (fun s' σ' H' I' ag e => ?_) I (Ag.refl _ _)
    ⟨[], rows, [], xs, rfl, rfl, .nil, hf, rfl, rfl⟩ hit st
  · obtain ⟨pre, suf, ys, zs, ec, el, f1, f2, ex, rfl⟩ := e
    cases f2 with
    | nil =>
      rw [ec, List.append_nil, ← el, List.getElem?_eq_none (Nat.le_refl _)] at hx
      exact nomatch hx
    | @cons b bcells bs suf' zs' hb hbl r =>
      have xb : x = .ref b := by
        rw [ec, ← el, List.getElem?_append_right (Nat.le_refl _), Nat.sub_self] at hx
        exact (Option.some.inj hx).symm
      subst xb
      have zl : ys.length + bs.length ≤ 1000000 := by
        rw [ex, List.length_append, List.length_append] at hz
        omega
      refine flat_down B.xe B.h1 B.l1 B.d1 B.c1 I1 hk (sqT_new hn hb) fun s2 it2 I2 n2' fp2 st2 => ?_
      have loop : codeAny (model Z.prog Z.w) Z.A (.compLoop (flatE n1 n2 n3 iter scope q1 q2 q3 a1 a2 a3 pos) 1 (.ref it2) (.ref D) Z.env) (fun r s' => r = .ok .next ∧ wpAny (model Z.prog Z.w) Z.A kk Qf Ef s') s2 := by
        refine flat_mid B hn hb hbl zl I2 st2 n2' fp2 fun s3 σ3 I3 ag3 => ⟨rfl, ?_⟩
        refine cont s3 σ3 _ I3 (ag.trans (ag3.mono (by simp))) ⟨pre ++ [.ref b], suf', ys ++ bs, zs', by rw [ec, List.append_assoc]; rfl, by rw [List.length_append, el]; rfl, FlatR.snoc hb hbl f1, r, by rw [ex, List.append_assoc], rfl⟩
      exact flat_s1 loop (wpAny_pyIter_tupleiter st2 loop)
  · obtain ⟨pre, suf, ys, zs, ec, el, f1, f2, ex, rfl⟩ := e
    have es : suf = [] := by
      have z := congrArg List.length ec
      rw [List.length_append, el] at z
      exact List.eq_nil_of_length_eq_zero (by omega)
    subst es
    cases f2
    rw [List.append_nil] at ex
    subst ex
    exact fin s' σ' I'
end
end Sg

set_option Elab.async false
set_option linter.all false
set_option maxRecDepth 100000
set_option maxHeartbeats 4000000
namespace Sg
open PySem PySem.Spec PyProof.Rows L2
/-- [c for a in e for b in a for c in b]: e a tuple of tuples of tuples -/
def tFlat (K : PySem.W.Frag) (te : TE) : TE := fun σ H Q => te σ H fun v H1 => ∃ t rows xs, v = .ref t ∧ SqT K H1 t rows ∧ FlatR K H1 rows xs ∧ xs.length ≤ 1000000 ∧
  ∀ D, H1 D = none → Q (.ref D) (upd H1 D (.lst xs))
section
variable {X : Cx} {n1 n2 n3 : Str} {iter : Expr} {scope : Scope} {q1 q2 q3 a1 a2 a3 pos : Pos} {k1 k2 k3 : Nat} {own : List (Str × Nat)} {te : TE}
theorem pe_flat (hc : X.calm = true) (hN : X.N.Nodup) (hi : PE X iter te) (ok : BlkOk X.N X.env.scope scope own)
    (h1 : X.N[k1]? = some n1) (h2 : X.N[k2]? = some n2) (h3 : X.N[k3]? = some n3)
    (l1 : ∀ (C : Addr) (cl : List (Str × Addr)), (compEnvC scope cl C X.env).scope.names.lookup n1 = some .local)
    (l2 : ∀ (C : Addr) (cl : List (Str × Addr)), (compEnvC scope cl C X.env).scope.names.lookup n2 = some .local)
    (l3 : ∀ (C : Addr) (cl : List (Str × Addr)), (compEnvC scope cl C X.env).scope.names.lookup n3 = some .local)
    (dd : ((n1 == ("__debug__" : Str)) || (n2 == ("__debug__" : Str)) || (n3 == ("__debug__" : Str)) || (n1 == ("__classdict__" : Str)) || (n2 == ("__classdict__" : Str)) || (n3 == ("__classdict__" : Str))) = false := by decide)
    (hs : ∀ x, foldedSetIterable iter X.env x = pure x := by intro _; rfl) :
    PE X (flatE n1 n2 n3 iter scope q1 q2 q3 a1 a2 a3 pos) (tFlat X.K te) := by
  simp only [Bool.or_eq_false_iff] at dd
  obtain ⟨⟨⟨⟨⟨d1, d2⟩, d3⟩, c1⟩, c2⟩, c3⟩ := dd
  constructor
  intro pins s σ H Q I h
  rw [eval_ListComp]
  have hfree : ∀ y ∈ scope.names, y.2 = .free → ∃ c, X.env.cells.lookup y.1 = some c := by
    intro y hy e
    cases ok.free y hy e with
    | inl k => exact I.ok.has _ (.inl k)
    | inr k => exact I.ok.has _ (.inr k)
  refine wpAny_comprehension_free (use := none) rfl hs (closure_ok hfree) ok.kind (fun y hy e => by rw [ok.uniq y hy, e]) (thn (hi.run pins s σ H _ I h) ?_)
  rintro xv s1 ⟨v, H1, I1, r1, t, rows, xs, rfl, hq, hf, hz, q⟩
  obtain rfl : xv = Value.ref t := r1
  obtain ⟨its, rv, p, hzz⟩ := I1.tuple hq
  refine wpAny_pyIter_tuple (show s1.heap.IsTuple t its.toArray from p) ?_
  generalize hs2 : ({ s1 with heap := s1.heap.push { cls := .type "tuple_iterator", data := .fields #[.ref t, .int 0 0] } } : Shared) = s2
  have I2 : Inv X pins σ H1 s2 := by
    rw [← hs2]
    exact I1.kept (t' := s1.toks) fun b o e => Heap.get?_push_of_some _ e
  generalize hit : s1.heap.objs.size = it
  have st2 : s2.heap.IsTupleIter it t 0 := by
    rw [← hs2, ← hit]
    exact ⟨_, Heap.get?_push_size _ rfl, rfl, rfl⟩
  have nn2 : H1 it = none := I1.hok.fresh (Nat.le_of_eq hit)
  have lt2 : it < s2.heap.objs.size := by
    obtain ⟨_, e, _⟩ := st2
    exact Heap.lt_size e
  have f2 : ∀ H', H' it = none → FpOk X pins H' it := fun H' hn => I1.fpOk (Nat.le_of_eq hit) hn
  refine wpAny_newObj_type (newEnv_comp ?_) (by show 0 ≤ sizeLine; decide)
  generalize hD : s2.heap.objs.size = D
  have hDn : H1 D = none := I2.hok.fresh (Nat.le_of_eq hD)
  generalize hs3 : ({ s2 with heap := s2.heap.push { cls := .type "list", data := .seq ([] : List Value).toArray } } : Shared) = s3
  have I3 : Inv X pins σ (upd H1 D (.lst [])) s3 := by
    rw [← hs3]
    refine I2.laid (t' := s2.toks) (fun b o e => Heap.get?_push_of_some _ e) (Nat.le_of_eq hD) ⟨Nat.zero_le _, [], 0, .nil, ?_⟩
    rw [← hD]
    exact Heap.get?_push_size _ rfl
  have k3' : ∀ b o, s2.heap.get? b = some o → s3.heap.get? b = some o := by
    intro b o e
    rw [← hs3]
    exact Heap.get?_push_of_some _ e
  have st3 : s3.heap.IsTupleIter it t 0 := st2.at fun o e => k3' it o e
  have lt3 : it < s3.heap.objs.size := by
    obtain ⟨_, e, _⟩ := st3
    exact Heap.lt_size e
  have nit : (upd H1 D (.lst [])) it = none := by
    rw [upd_ne (by rw [← hD]; exact Nat.ne_of_lt lt2)]
    exact nn2
  have I4 := block_start (fp := [it]) I3 ok hN (by
    intro b hb
    rw [List.mem_singleton.mp hb]
    exact ⟨f2 _ nit, lt3⟩)
  show codeAny _ _ (.compStart (flatE n1 n2 n3 iter scope q1 q2 q3 a1 a2 a3 pos) 0 (.ref it) (.ref D) (compEnvC scope (cellsFrom (s3.heap.objs.size + 1) scope.names (cloFrom X.env.cells scope.names [])) s3.heap.objs.size X.env))
    (compPost (model X.prog X.w) X.A X.xe none (EP X pins σ Q) (.ref D) s3.heap.objs.size) { s3 with heap := pushCells (s3.heap.push { cls := .type "dict", data := .dict #[] }) scope.names }
  have hl1 := l1 s3.heap.objs.size (cellsFrom (s3.heap.objs.size + 1) scope.names (cloFrom X.env.cells scope.names []))
  have hl2 := l2 s3.heap.objs.size (cellsFrom (s3.heap.objs.size + 1) scope.names (cloFrom X.env.cells scope.names []))
  have hl3 := l3 s3.heap.objs.size (cellsFrom (s3.heap.objs.size + 1) scope.names (cloFrom X.env.cells scope.names []))
  have cL : (compEnvC scope (cellsFrom (s3.heap.objs.size + 1) scope.names (cloFrom X.env.cells scope.names [])) s3.heap.objs.size X.env).locals = s3.heap.objs.size := rfl
  generalize compEnvC scope (cellsFrom (s3.heap.objs.size + 1) scope.names (cloFrom X.env.cells scope.names [])) s3.heap.objs.size X.env = ce at I4 hl1 hl2 hl3 cL ⊢
  have st4 : (pushCells (s3.heap.push { cls := .type "dict", data := .dict #[] }) scope.names).IsTupleIter it t 0 :=
    st3.at fun o e => pushCells_keeps _ _ _ _ (Heap.get?_push_of_some _ e)
  generalize hs4 : ({ s3 with heap := pushCells (s3.heap.push { cls := .type "dict", data := .dict #[] }) scope.names } : Shared) = s4 at I4 ⊢
  have st4' : s4.heap.IsTupleIter it t 0 := by rw [← hs4]; exact st4
  have B : FlatN (X.blk s3 (upd H1 D (.lst [])) scope ce [it]) n1 n2 n3 k1 k2 k3 := ⟨rfl, hc, hN, h1, h2, h3, hl1, hl2, hl3, d1, d2, d3, c1, c2, c3⟩
  have fpZ : ∀ H', H' it = none → FpOk (X.blk s3 (upd H1 D (.lst [])) scope ce [it]) [] H' it := by
    intro H' hn
    refine ⟨hn, (I4.ok.exf it (List.mem_singleton.mpr rfl)).1, I4.ok.exfs it (List.mem_singleton.mpr rfl), .inl (List.mem_singleton.mpr rfl), (I4.ok.exf it (List.mem_singleton.mpr rfl)).2, ?_⟩
    intro p hp
    have hp' : p ∈ ([] : List (Addr × Obj)) ++ [] := hp
    exact nomatch hp'
  have loop : codeAny (model X.prog X.w) X.A (.compLoop (flatE n1 n2 n3 iter scope q1 q2 q3 a1 a2 a3 pos) 0 (.ref it) (.ref D) ce)
      (compPost (model X.prog X.w) X.A X.xe none (EP X pins σ Q) (.ref D) s3.heap.objs.size) s4 := by
    refine flat_out B hDn hq hf hz I4 st4' nit fpZ ?_
    intro s' σ' I5
    have I6 : Inv X pins σ (upd H1 D (.lst xs)) s' := by
      refine I3.call' (ch := [it]) I5.os I5.base I5.hok I5.bare ?_
      intro b hb
      rw [List.mem_singleton.mp hb]
      obtain ⟨_, g1, g2, g3, g4, g5⟩ := f2 _ nit
      exact ⟨g3, g1, g4, g5⟩
    have nC : (upd H1 D (.lst xs)) s3.heap.objs.size = none := by
      have z : (upd H1 D (.lst xs)) ce.locals = none := I5.free
      rw [cL] at z
      exact z
    obtain ⟨m, hn, _⟩ := I5.loc
    have hn' : s'.heap.Ns ce.locals m := hn
    rw [cL] at hn'
    refine ⟨m, hn', ?_⟩
    intro h'' sb
    obtain ⟨f0, f1, f2', f3, f4, f5⟩ := I3.fpOk (Nat.le_refl _) nC
    exact ⟨.ref D, _, I6.turned (t' := s'.toks) (fun b o hb e => (sb.2 b hb).trans e) f0 f1 f3 f4 f5, rfl, q D hDn⟩
  exact codeAny_compStart_list loop (wpAny_pyIter_tupleiter st4' loop)
end
end Sg

set_option Elab.async false
set_option linter.all false
set_option maxRecDepth 100000
set_option maxHeartbeats 4000000
namespace Sg
open PySem PySem.Spec PyProof.Rows L2
/-! ## max with a default -/
section
variable {X : Cx}
theorem cr_maxD (hc : X.calm = true) {j : Nat} (hr : Room j X.A) : CallRK X (.builtin "max") ["default"] (fun vs zs H Q => ∃ (a : Addr) (ns : List Int) (d : Int), vs = [.ref a] ∧ zs = [.int d] ∧ SqL X.K H a (ns.map V.int) ∧
    ∀ m : Int, (ns = [] → m = d) → (ns ≠ [] → m ∈ ns ∧ ∀ x ∈ ns, x ≤ m) → Q (.int m) H) := by
  intro pins s σ H xs zs us ws Q I r rz h
  obtain ⟨a, ns, d, rfl, rfl, hs, q⟩ := h
  obtain ⟨u, rfl, rfl⟩ := vals1 r
  obtain ⟨dv, rfl, td, rfl⟩ := vals1 rz
  obtain ⟨its, rv, hl, hzz⟩ := I.list hs
  have dp : DpAll X.K H (ns.map V.int) (ns.map PyData.int) := by
    clear hs q rv hl hzz
    induction ns with
    | nil => exact .nil
    | cons x r ih => exact .cons (.int x) ih
  obtain ⟨as, rd⟩ := Dp.readsAll I (ns.map PyData.int) _ its dp rv
  have al : PySem.W.AlikeAll (ns.map PyData.int) := by
    constructor
    · intro x hx y hy
      obtain ⟨i, _, rfl⟩ := List.mem_map.mp hx
      obtain ⟨j, _, rfl⟩ := List.mem_map.mp hy
      rfl
    · intro x hx z
      obtain ⟨i, _, rfl⟩ := List.mem_map.mp hx
      exact nomatch z
  have dep : PyData.depthAll (ns.map PyData.int) = 0 := by
    clear hs q rv hl rd al dp hzz
    induction ns with
    | nil => rfl
    | cons x r ih =>
      show max (PyData.depth (.int x)) (PyData.depthAll (r.map PyData.int)) = 0
      rw [ih]; rfl
  have hu := hr.units
  refine PySem.W.max_list_default (I.ok.hd hc) hl.isList (by simpa using rd) al (by rw [dep]; omega) (fun e h' tk hk => ?_) (fun y ys i v h' tk bs e hv hrd hk => ?_)
  · exact ⟨.int d, H, I.kept hk, ⟨_, rfl⟩, q d (fun _ => rfl) (fun z => absurd (List.map_eq_nil_iff.mp e) z)⟩
  · cases ns with
    | nil => exact nomatch e
    | cons n ns' =>
      obtain ⟨e1, e2⟩ := List.cons.inj e
      subst e1 e2
      rw [PySem.W.maxD_ints] at hrd
      cases hrd
      refine ⟨.int _, H, I.kept hk, ⟨_, rfl⟩, q _ (fun z => nomatch z) (fun _ => ?_)⟩
      have key : ∀ (l : List Int) (a : Int), (l.foldl max a = a ∨ l.foldl max a ∈ l) ∧ a ≤ l.foldl max a ∧ ∀ x ∈ l, x ≤ l.foldl max a := by
        intro l
        induction l with
        | nil => intro a; exact ⟨.inl rfl, Int.le_refl _, fun x hx => nomatch hx⟩
        | cons b l ih =>
          intro a
          obtain ⟨g1, g2, g3⟩ := ih (max a b)
          refine ⟨?_, by show a ≤ l.foldl max (max a b); omega, fun x hx => ?_⟩
          · show l.foldl max (max a b) = a ∨ l.foldl max (max a b) ∈ b :: l
            rcases g1 with g | g
            · rcases Int.le_total a b with z | z
              · right; rw [g, Int.max_eq_right z]; exact List.mem_cons_self
              · left; rw [g, Int.max_eq_left z]
            · exact .inr (List.mem_cons_of_mem _ g)
          · show x ≤ l.foldl max (max a b)
            rcases List.mem_cons.mp hx with rfl | z
            · omega
            · exact g3 x z
      obtain ⟨g1, g2, g3⟩ := key ns' n
      refine ⟨?_, fun x hx => ?_⟩
      · rcases g1 with g | g
        · rw [g]; exact List.mem_cons_self
        · exact List.mem_cons_of_mem _ g
      · rcases List.mem_cons.mp hx with rfl | z
        · exact g2
        · exact g3 x z
end
/-! ## operators of one's own -/
section
variable {X : Cx} {k : Nat} {C g : Addr} {fd : FuncData} {ps : List Str} {sp : Sp}
theorem back_of {pins : List (Addr × Obj)} {σ : L2.St} {Q : VK} {u : Value} {s : Shared} (h : EP X pins σ Q u s) : PySem.W.CmpBack (EP X pins σ Q) u s := by
  obtain ⟨v, H, I, r, q⟩ := id h
  cases v with
  | non => cases r; exact h
  | bl b => cases r; exact h
  | int i => obtain ⟨t, rfl⟩ := r; exact h
  | str i => obtain ⟨t, rfl⟩ := r; exact h
  | byt i => obtain ⟨t, rfl⟩ := r; exact h
  | flt i => obtain ⟨t, rfl⟩ := r; exact h
  | ref a => cases r; exact h
  | ty n => cases r; exact h
/-- an instance of C -/
def InsAt (H : Hp) (C a : Addr) : Prop := ∃ dx fs, H a = some (.ins C dx fs)
theorem insAt_look {pins : List (Addr × Obj)} {σ : L2.St} {H : Hp} {s : Shared} {a : Addr} (I : Inv X pins σ H s) (h : InsAt H C a) : ∃ ox od, PySem.W.InstAt s.heap a ox C od := by
  obtain ⟨dx, fs, h⟩ := h
  obtain ⟨mA, O, _⟩ := ins_get I.hok h
  obtain ⟨od, J, _⟩ := O.look
  exact ⟨_, _, J⟩
/-- a + b and its like, both instances of C -/
theorem op_own {op : Operator} (F : FnOk X.prog X.w X.K X.mg X.base CX0 k g fd ps sp) (hr : Room k X.A) (hb : Binds X.K fd ps []) (hs : PySem.W.findIn X.K (.ref C) (PySem.dunder op.info.2) = some (some (.ref g)))
    (hf : PySem.W.isFn X.K (.ref g) = true) (hc : PySem.W.selfFirst X.K C = true) :
    OpR X (binaryOp op) (fun x y H Q => ∃ a b, x = .ref a ∧ y = .ref b ∧ InsAt H C a ∧ InsAt H C b ∧ sp [.ref a, .ref b] H Q E0) := by
  intro pins s σ H x y v u Q I rx ry h
  obtain ⟨a, b, rfl, rfl, ha, hb', h⟩ := h
  obtain rfl : v = Value.ref a := rx
  obtain rfl : u = Value.ref b := ry
  obtain ⟨m, hF⟩ := I.fr
  obtain ⟨_, _, J⟩ := insAt_look I ha
  obtain ⟨_, _, J'⟩ := insAt_look I hb'
  refine PySem.W.binop_K hF I.ok.mod.kin J J'.type hc hs hf ?_
  exact thn (run_fn (us := [.ref a, .ref b]) (vs := [.ref a, .ref b]) F hr hb .nil pass0 I (.cons rfl (.cons rfl .nil)) h) fun _ _ z => back_of z
/-- a - n, n a whole number -/
theorem op_ownI {op : Operator} {fo ro rc : Option Value} (F : FnOk X.prog X.w X.K X.mg X.base CX0 k g fd ps sp) (hr : Room k X.A) (hb : Binds X.K fd ps []) (hs : PySem.W.findIn X.K (.ref C) (PySem.dunder op.info.2) = some (some (.ref g)))
    (hf : PySem.W.isFn X.K (.ref g) = true) (hc : PySem.W.selfFirst X.K C = true) (hrr : PySem.W.findIn X.K (.ref C) (dunderR op.info.2) = some rc) (hp : rc = none ∨ ∃ g : Addr, rc = some (.ref g))
    (h1 : PySem.W.findIn X.K (.type "int") (PySem.dunder op.info.2) = some fo) (h2 : PySem.W.findIn X.K (.type "int") (dunderR op.info.2) = some ro) (hsub : PySem.W.subIn X.K (.type "int") (.ref C) = some false) :
    OpR X (binaryOp op) (fun x y H Q => ∃ a i, x = .ref a ∧ y = .int i ∧ InsAt H C a ∧ sp [.ref a, .int i] H Q E0) := by
  intro pins s σ H x y v u Q I rx ry h
  obtain ⟨a, i, rfl, rfl, ha, h⟩ := h
  obtain rfl : v = Value.ref a := rx
  obtain ⟨t, rfl⟩ := ry
  obtain ⟨m, hF⟩ := I.fr
  obtain ⟨_, _, J⟩ := insAt_look I ha
  refine PySem.W.ksp_binT (T := "int") hF I.ok.mod.kin J rfl hc hs hf hrr hp h1 h2 hsub ?_
  exact thn (run_fn (us := [.ref a, .int i t]) (vs := [.ref a, .int i]) F hr hb .nil pass0 I (.cons rfl (.cons ⟨t, rfl⟩ .nil)) h) fun _ _ z => back_of z
/-- -a -/
theorem un_own (F : FnOk X.prog X.w X.K X.mg X.base CX0 k g fd ps sp) (hr : Room k X.A) (hb : Binds X.K fd ps []) (hs : PySem.W.findIn X.K (.ref C) "__neg__" = some (some (.ref g))) (hf : PySem.W.isFn X.K (.ref g) = true) :
    UnR X (unaryOp .USub) (fun x H Q => ∃ a, x = .ref a ∧ InsAt H C a ∧ sp [.ref a] H Q E0) := by
  intro pins s σ H x v Q I rx h
  obtain ⟨a, rfl, ha, h⟩ := h
  obtain rfl : v = Value.ref a := rx
  obtain ⟨m, hF⟩ := I.fr
  obtain ⟨_, _, J⟩ := insAt_look I ha
  exact PySem.W.ksp_neg hF I.ok.mod.kin J hs hf (run_fn (us := [.ref a]) (vs := [.ref a]) F hr hb .nil pass0 I (.cons rfl .nil) h)
/-- a == b, both instances of C -/
theorem op_ownEq (F : FnOk X.prog X.w X.K X.mg X.base CX0 k g fd ps sp) (hr : Room k X.A) (hb : Binds X.K fd ps []) (hs : PySem.W.findIn X.K (.ref C) "__eq__" = some (some (.ref g))) (hf : PySem.W.isFn X.K (.ref g) = true) :
    OpR X (compareOp .Eq) (fun x y H Q => ∃ a b, x = .ref a ∧ y = .ref b ∧ InsAt H C a ∧ InsAt H C b ∧ sp [.ref a, .ref b] H Q E0) := by
  intro pins s σ H x y v u Q I rx ry h
  obtain ⟨a, b, rfl, rfl, ha, hb', h⟩ := h
  obtain rfl : v = Value.ref a := rx
  obtain rfl : u = Value.ref b := ry
  obtain ⟨m, hF⟩ := I.fr
  obtain ⟨_, _, J⟩ := insAt_look I ha
  obtain ⟨_, _, J'⟩ := insAt_look I hb'
  show wpAny (model X.prog X.w) X.A (richCompare .Eq (.ref a) (.ref b)) (EP X pins σ Q) X.xe s
  refine PySem.W.cmp_K (op := .Eq) (tb := .ref C) hr.units0 hF I.ok.mod.kin J J'.type (by simp [PySem.W.notFirst]) hs hf ?_
  exact thn (run_fn (us := [.ref a, .ref b]) (vs := [.ref a, .ref b]) F hr hb .nil pass0 I (.cons rfl (.cons rfl .nil)) h) fun _ _ z => back_of z
/-- a def called one C frame further in -/
theorem run_in1 {pins : List (Addr × Obj)} {σ : L2.St} {H : Hp} {s : Shared} {Q : VK} {us : List Value} {vs : List V} (F : FnOk X.prog X.w X.K X.mg X.base CX0 k g fd ps sp) (hr : Room (k + 1) X.A) (hb : Binds X.K fd ps [])
    (I : Inv X pins σ H s) (r : Vals vs us) (h : sp vs H Q E0) {E : Value → Shared → Prop} : wpAny (model X.prog X.w) X.A.in1 (call (.ref g) us) (EP X pins σ Q) E s := by
  have hl : (us ++ []).length = ps.length := by rw [List.append_nil, ← r.length]; exact F.len _ _ _ _ h
  have hbb := hb s us I.kIn hl
  rw [List.append_nil] at hbb
  refine wpAny_call (codeAny_mono (F.run X.A.in1 X.stack s H ⟨us, []⟩ us vs Q E0 hr.in1 I.env0.in1 hbb r h) ?_)
  intro r' s' hq
  match r', hq with
  | .error _, hq => exact hq.elim
  | .ok (.ret _), hq => exact I.after hq
  | .ok .next, hq => exact hq.elim
  | .ok .brk, hq => exact hq.elim
  | .ok .cont, hq => exact hq.elim
/-- len(a) -/
theorem call_lenO (F : FnOk X.prog X.w X.K X.mg X.base CX0 k g fd ps sp) (hr : Room (k + 1) X.A) (hb : Binds X.K fd ps []) (hs : PySem.W.findIn X.K (.ref C) "__len__" = some (some (.ref g))) (hf : PySem.W.isFn X.K (.ref g) = true) :
    CallR X (.builtin "len") (fun xs H Q => ∃ a, xs = [.ref a] ∧ InsAt H C a ∧ sp [.ref a] H (fun v H' => ∃ n : Nat, v = .int n ∧ n < 1000000 ∧ Q (.int n) H') E0) := by
  intro pins s σ H xs us Q I r h
  obtain ⟨a, rfl, ha, h⟩ := h
  obtain ⟨u, rfl, rfl⟩ := vals1 r
  obtain ⟨m, hF⟩ := I.fr
  obtain ⟨_, _, J⟩ := insAt_look I ha
  refine PySem.W.len_K hF I.ok.mod.kin J hs hf (thn (run_in1 (us := [.ref a]) (vs := [.ref a]) F hr hb I (.cons rfl .nil) h) ?_)
  rintro v s' ⟨x, H', I', rx, n, rfl, hn, q⟩
  obtain ⟨t, rfl⟩ := rx
  exact ⟨⟨by omega, by omega⟩, ⟨.int n, H', I'.tok _, ⟨_, rfl⟩, q⟩⟩
/-- a[i] -/
theorem ix_own (F : FnOk X.prog X.w X.K X.mg X.base CX0 k g fd ps sp) (hr : Room k X.A) (hb : Binds X.K fd ps []) (hs : PySem.W.findIn X.K (.ref C) "__getitem__" = some (some (.ref g))) (hf : PySem.W.isFn X.K (.ref g) = true) (hq : PySem.W.noSeq X.K C = true) :
    ∀ (pins : List (Addr × Obj)) (s : Shared) (σ : L2.St) (H : Hp) (a : Addr) (y : V) (u : Value) (Q : VK), Inv X pins σ H s → RelV y u → InsAt H C a → sp [.ref a, y] H Q E0 →
      wpAny (model X.prog X.w) X.A (getItem (.ref a) u) (EP X pins σ Q) X.xe s := by
  intro pins s σ H a y u Q I ry ha h
  obtain ⟨m, hF⟩ := I.fr
  obtain ⟨_, _, J⟩ := insAt_look I ha
  exact PySem.W.getItem_K hF I.ok.mod.kin J hq hs hf (run_fn (us := [.ref a, u]) (vs := [.ref a, y]) F hr hb .nil pass0 I (.cons rfl (.cons ry .nil)) h)
/-- the same as an FnR -/
theorem fnR_of {P : Program} {w : World} {K : PySem.W.Frag} {mg : Str → Option Value} {base : Heap} (F : FnOk P w K mg base CX0 k g fd ps sp) (hb : Binds K fd ps []) : FnR P w K mg base CX0 k g sp := by
  intro A outer s H us vs Q E hr e0 r h
  have hl : (us ++ []).length = ps.length := by rw [List.append_nil, ← r.length]; exact F.len _ _ _ _ h
  have KX : K.In s.heap := e0.mod.kin.keeps fun b o e => (e0.bs b o e).1
  have hbb := hb s us KX hl
  rw [List.append_nil] at hbb
  exact F.run A outer s H ⟨us, []⟩ us vs Q E hr e0 hbb r h
end
end Sg

set_option Elab.async false
set_option linter.all false
set_option maxRecDepth 100000
set_option maxHeartbeats 4000000
namespace Sg
open PySem PySem.Spec PyProof.Rows L2
/-! ## != by an own __eq__ -/
theorem slot_object_ne : Slot "object" "__ne__" "object.__ne__" :=
  Slot.of (T := "object") (name := "__ne__") (owner := "object") (n := "__ne__") (by rw [typeLookup_type, builtinLookup_eq_fast]; kernel_rfl)
    (by decide +kernel) (by decide +kernel) (by decide +kernel) (.inl (by decide +kernel)) (by rw [isSubtype_type]; kernel_rfl)
section
variable {X : Cx} {k : Nat} {C g : Addr} {fd : FuncData} {ps : List Str} {sp : Sp}
theorem op_ownNe (F : FnOk X.prog X.w X.K X.mg X.base CX0 k g fd ps sp) (hr : Room (k + 2) X.A) (hb : Binds X.K fd ps []) (hs : PySem.W.findIn X.K (.ref C) "__eq__" = some (some (.ref g))) (hf : PySem.W.isFn X.K (.ref g) = true)
    (hne : PySem.W.findIn X.K (.ref C) "__ne__" = some (some (.builtin "object.__ne__"))) (hsub : PySem.W.subIn X.K (.ref C) (.type "object") = some true) :
    OpR X (compareOp .NotEq) (fun x y H Q => ∃ a b, x = .ref a ∧ y = .ref b ∧ InsAt H C a ∧ InsAt H C b ∧ sp [.ref a, .ref b] H (fun v H' => ∃ c, v = .bl c ∧ Q (.bl (!c)) H') E0) := by
  intro pins s σ H x y v u Q I rx ry h
  obtain ⟨a, b, rfl, rfl, ha, hb', h⟩ := h
  obtain rfl : v = Value.ref a := rx
  obtain rfl : u = Value.ref b := ry
  obtain ⟨_, _, J⟩ := insAt_look I ha
  obtain ⟨_, _, J'⟩ := insAt_look I hb'
  have hcall := run_in1 (us := [.ref a, .ref b]) (vs := [.ref a, .ref b]) (E := X.xe) F (hr.mono (by omega)) hb I (.cons rfl (.cons rfl .nil)) h
  have inner : wpAny (model X.prog X.w) X.A.in1 (Builtin.«object.__ne__» ⟨[.ref a, .ref b], []⟩) (fun fin s' => ∃ r, fin = .done (.ret (.bool r)) ∧ EP X pins σ Q (.bool r) s') X.xe s := by
    unfold Builtin.«object.__ne__»
    refine wpAny_bind (m := slotArgs "__ne__" 1 ⟨[.ref a, .ref b], []⟩) (wpAny_of_eq (a := (Value.ref a, [Value.ref b])) (by first | rfl | (simp only [slotArgs]; rfl)) ?_)
    refine wpAny_bind (wpAny_cRoomFor (show X.A.in1.units < cLine from (hr.mono (show k + 1 ≤ k + 2 by omega)).in1.units0) ?_)
    refine wpAny_bind (m := callSpecialIfBound? (.ref a) (Str.ofString "__eq__") [.ref b]) (PySem.W.ifBound_K I.kIn J hs hf (thn hcall ?_))
    rintro w' s' ⟨z, H', I', rz, c, rfl, q⟩
    obtain rfl : w' = Value.bool c := rz
    refine wpAny_bind (wpAny_truthy_bool ?_)
    exact wpAny_pure ⟨!c, rfl, .bl (!c), H', I', rfl, q⟩
  have isI : PySem.W.Looks (model X.prog X.w) s.heap (isInstance (.ref a) (.type "object")) true := J.type.andThen (PySem.W.looks_subIn I.kIn hsub)
  have one : wpAny (model X.prog X.w) X.A (tryCompare (.ref a) "__ne__" (.ref b)) (fun r s' => ∃ c, r = some (.bool c) ∧ EP X pins σ Q (.bool c) s') X.xe s := by
    unfold tryCompare
    have call1 : wpAny (model X.prog X.w) X.A (call (.builtin "object.__ne__") [.ref a, .ref b]) (fun r s' => ∃ c, r = .bool c ∧ EP X pins σ Q (.bool c) s') X.xe s := by
      refine wpAny_call (codeAny_call_builtin slot_object_ne.plain PySem.F.cmpEntry_ne ?_)
      refine PySem.W.check_slot PySem.F.cmpKind_ne PySem.F.cmpSplit_ne isI (PySem.F.cmpArgs_ne _ _) (thn inner ?_)
      rintro fin s' ⟨r, rfl, q⟩
      exact ⟨r, rfl, q⟩
    have call2 : wpAny (model X.prog X.w) X.A (callSpecialIfBound? (.ref a) "__ne__" [.ref b]) (fun r s' => ∃ c, r = some (.bool c) ∧ EP X pins σ Q (.bool c) s') X.xe s := by
      simp only [callSpecialIfBound?, bindSpecialIfBound?]
      refine wpAny_holding (wpAny_bind (wpAny_bind (wpAny_bind (J.type.here ((PySem.W.looks_findIn I.kIn hne).here ?_)))))
      refine wpAny_bind (wpAny_askSetting (wpAny_ite ?_))
      have fin : wpAny (model X.prog X.w) X.A (call (.builtin "object.__ne__") ([.ref a] ++ [.ref b]) >>= fun v => pure (some v)) (fun r s' => ∃ c, r = some (.bool c) ∧ EP X pins σ Q (.bool c) s') X.xe s := by
        refine wpAny_bind (thn call1 ?_)
        rintro r s' ⟨c, rfl, q⟩
        exact wpAny_pure ⟨c, rfl, q⟩
      have bind : (bindSpecial (.builtin "object.__ne__") (.ref a) : Sem _) = pure (.builtin "object.__ne__", [.ref a]) := slot_object_ne.bind (.ref a)
      split
      · rw [bind]; exact wpAny_bind (wpAny_pure (wpAny_pure (by exact fin)))
      · rw [bind]; exact wpAny_tryCatch (wpAny_bind (wpAny_pure (wpAny_pure (by exact fin))))
    refine wpAny_bind (thn call2 ?_)
    rintro r s' ⟨c, rfl, q⟩
    exact wpAny_pure ⟨c, rfl, q⟩
  show wpAny (model X.prog X.w) X.A (richCompare .NotEq (.ref a) (.ref b)) (EP X pins σ Q) X.xe s
  unfold richCompare
  simp only [oneThing_ref]
  refine wpAny_holding (wpAny_bind (wpAny_cRoomFor hr.units0 ?_))
  refine wpAny_bind (J.type.here (wpAny_bind (J'.type.here ?_)))
  rw [show (Value.ref C != Value.ref C) = false from by simp]
  simp only [Bool.false_eq_true, if_false]
  refine wpAny_bind (wpAny_pure ?_)
  simp only [Bool.false_eq_true, if_false]
  refine wpAny_bind (thn one ?_)
  rintro r s' ⟨c, rfl, q⟩
  exact wpAny_pure q
end
end Sg

set_option Elab.async false
set_option linter.all false
set_option maxRecDepth 100000
set_option maxHeartbeats 4000000
namespace Sg
open PySem PySem.Spec PyProof.Rows L2 HT
/-! ## t[::-1] of a tuple -/
section
variable {prog : Program} {w : World} {A : Around} {E : Value → Shared → Prop} {s : Shared}
theorem slicePlaces_rev (n : Nat) : Builtin.Slice.slicePlaces ((n : Int) - 1) (-1) (-1) = n := by
  unfold Builtin.Slice.slicePlaces
  have h1 : ¬ ((-1 : Int) > 0) := by omega
  simp only [h1, if_false, Int.neg_neg, Int.ediv_one]
  split <;> omega
theorem sliceApplied_rev {sl : Addr} {vl vu vs : Value} {n : Nat} {Q : Int × Int × Nat → Shared → Prop} (hs : s.heap.IsSliceOf sl vl vu vs) (pl : IsPart vl none) (pu : IsPart vu none) (ps : IsPart vs (some (-1)))
    (h : Q ((n : Int) - 1, -1, n) s) : wpAny (model prog w) A (Builtin.Slice.sliceApplied (.ref sl) (pure (n : Int))) Q E s := by
  obtain ⟨os, hos, hcs, hds⟩ := id hs
  unfold Builtin.Slice.sliceApplied Builtin.Slice.sliceFields
  refine wpAny_bind (wpAny_bind (wpAny_field hos hds (x := vl) rfl (wpAny_bind (wpAny_field hos hds (x := vu) rfl (wpAny_bind (wpAny_field hos hds (x := vs) rfl (wpAny_pure ?_)))))))
  refine wpAny_bind (slicePart_ ps ?_)
  show wpAny _ _ (if ((-1 : Int) == 0) = true then _ else _) _ _ s
  rw [if_neg (by decide)]
  refine wpAny_bind (slicePart_ pl (wpAny_bind (slicePart_ pu (wpAny_bind (wpAny_pure ?_)))))
  show wpAny _ _ (pure ((n : Int) - 1, (-1 : Int), Builtin.Slice.slicePlaces ((n : Int) - 1) (-1) (-1))) _ _ s
  rw [slicePlaces_rev]
  exact wpAny_pure h
theorem filterMap_on {α β : Type} {f g : α → Option β} : ∀ {l : List α}, (∀ x ∈ l, f x = g x) → l.filterMap f = l.filterMap g
  | [], _ => rfl
  | x :: r, h => by
    rw [List.filterMap_cons, List.filterMap_cons, h x List.mem_cons_self, filterMap_on fun y hy => h y (List.mem_cons_of_mem _ hy)]
theorem pick_rev (xs : Array Value) : ((List.range xs.size).filterMap fun (m : Nat) => xs[(((xs.size : Int) - 1) + (m : Int) * (-1)).toNat]?).toArray = xs.toList.reverse.toArray := by
  have e1 : ∀ m ∈ List.range xs.size, xs[(((xs.size : Int) - 1) + (m : Int) * (-1)).toNat]? = xs[xs.size - 1 - m]? := by
    intro m hm
    have := List.mem_range.mp hm
    rw [show (((xs.size : Int) - 1) + (m : Int) * (-1)).toNat = xs.size - 1 - m from by omega]
  have e2 : ((List.range xs.size).map fun k => xs.size - 1 - k).filterMap (xs[·]?) = xs.toList.reverse := by
    rw [PySem.W.krv_range, List.filterMap_reverse, PySem.W.krv_all]
  rw [List.filterMap_map] at e2
  rw [← e2]
  congr 1
  exact filterMap_on (fun m hm => e1 m hm)
theorem getItem_tuple_rev {t sl : Addr} {items : Array Value} {vl vu vs : Value} {Q : Value → Shared → Prop} (ht : IsTup s.heap t items) (hs : s.heap.IsSliceOf sl vl vu vs) (pl : IsPart vl none) (pu : IsPart vu none) (ps : IsPart vs (some (-1)))
    (h : Q (.ref s.heap.objs.size) { s with heap := s.heap.push { cls := .type "tuple", data := .seq items.toList.reverse.toArray } })
    (hsz : items.size ≤ sizeLine) : wpAny (model prog w) A (getItem (.ref t) (.ref sl)) Q E s := by
  have htake : sizeOk (.seq items.toList.reverse.toArray) := by
    show items.toList.reverse.toArray.size ≤ sizeLine
    rw [List.size_toArray, List.length_reverse, Array.length_toList]
    exact hsz
  obtain ⟨os, hos, hcs, hds⟩ := id hs
  have hTs : s.TypeIs (.ref sl) "slice" := ⟨os, hos, hcs⟩
  unfold getItem
  try with_reducible refine wpAny_holding ?_
  first | refine wpAny_bind (wpAny_pure ?_) | skip
  refine wpAny_bind (wpAny_sequenceKey ht.typeIs (by decide) ?_)
  refine wpAny_bind (wpAny_callSpecial?_slot (name := Str.ofString "__getitem__") ht.typeIs PyProof.Rows.slot_tuple_getitem
    (wpAny_call_entry PyProof.Rows.slot_tuple_getitem ht.typeIs entry_tuple_getitem ?_ (args_tuple_getitem _ _)))
  show wpAny _ _ (Builtin.Tuple.tupleItemsOf (.ref t) >>= _) _ _ s
  refine wpAny_bind (tupleItemsOf_ ht ?_)
  refine wpAny_bind (wpAny_typeOf hTs ?_)
  rw [if_pos (by decide)]
  refine wpAny_bind (sliceApplied_rev hs pl pu ps ?_)
  have hno : ¬ ((((items.size : Int) - 1) == 0 && (-1 : Int) == 1 && items.size == items.size) = true) := by
    rw [show ((-1 : Int) == 1) = false from by decide, Bool.and_false, Bool.false_and]
    exact Bool.false_ne_true
  show wpAny _ _ (if (((items.size : Int) - 1) == 0 && (-1 : Int) == 1 && items.size == items.size) = true then _ else _) _ _ s
  rw [if_neg hno, pick_rev]
  first
    | exact wpAny_bind (m := Builtin.Tuple.tupleExact _) (wpAny_newObj_type (wpAny_pure ⟨_, rfl, wpAny_pure h⟩) htake)
    | exact wpAny_bind (m := Builtin.Tuple.tupleExact _) (wpAny_newObj_type (wpAny_bind (wpAny_pure (wpAny_pure ⟨_, rfl, wpAny_pure h⟩))) htake)
    | exact wpAny_bind (wpAny_bind (m := Builtin.Tuple.tupleExact _) (wpAny_newObj_type (wpAny_pure (wpAny_pure ⟨_, rfl, wpAny_pure h⟩)) htake))
    | exact wpAny_bind (wpAny_bind (m := Builtin.Tuple.tupleExact _) (wpAny_newObj_type (wpAny_pure ⟨_, rfl, wpAny_pure h⟩) htake))
end
def tRevT (K : PySem.W.Frag) (te : TE) : TE := fun σ H Q => te σ H fun x H1 => ∃ a xs, x = .ref a ∧ SqT K H1 a xs ∧ ∀ p, H1 p = none → Q (.ref p) (upd H1 p (.tup xs.reverse))
theorem pe_revT {X : Cx} {K : PySem.W.Frag} {e : Expr} {te : TE} {k : Nat} {p1 p2 p3 pos : Pos} (hK : X.K = K) (he : PE X e te) : PE X (.Subscript e (.Slice none none (some (.UnaryOp .USub (.Constant (.int 1) k p1) p2)) p3) pos) (tRevT K te) := by
  subst hK
  refine ⟨fun pins s σ H Q I h => ?_⟩
  refine Subscript_ (thn (he.run pins s σ H _ I h) fun v s1 ⟨x, H1, I1, r1, q1⟩ => ?_)
  obtain ⟨a, xs, ex, hx, q⟩ := q1
  subst ex
  cases r1
  have hst : PO X (some (.UnaryOp .USub (.Constant (.int 1) k p1) p2)) (tPart (tUn (rU fun i => .int (-i)) (tC (.int 1)))) := po_some (pe_un un_neg pe_int)
  refine wpAny_Slice (thn (po_none.run pins s1 σ H1 (fun o H2 => o = none ∧ H2 = H1) I1 ⟨rfl, rfl⟩) fun vl s2 ⟨l, H2, I2, pl, el, e2⟩ => ?_)
  subst el e2
  refine thn (po_none.run pins s2 σ H2 (fun o H3 => o = none ∧ H3 = H2) I2 ⟨rfl, rfl⟩) fun vu s3 ⟨u, H3, I3, pu, eu, e3⟩ => ?_
  subst eu e3
  refine thn (hst.run pins s3 σ H3 (fun o H4 => o = some (-1) ∧ H4 = H3) I3 ⟨1, rfl, -1, rfl, rfl, rfl⟩) fun vs s4 ⟨o, H4, I4, ps, eo, e4⟩ => ?_
  subst eo e4
  have I5 : Inv X pins σ H4 { s4 with heap := s4.heap.push { cls := .type "slice", data := .fields #[vl, vu, vs] } } := I4.kept (t' := s4.toks) fun b ob q => Heap.get?_push_of_some _ q
  obtain ⟨its, r, ht, hz⟩ := I5.tuple hx
  have hlen := r.length
  show wpAny (model X.prog X.w) X.A (subscriptTail e (.Slice none none (some (.UnaryOp .USub (.Constant (.int 1) k p1) p2)) p3) (.ref a) (.ref s4.heap.objs.size)) (EP X pins σ Q) X.xe { s4 with heap := s4.heap.push { cls := .type "slice", data := .fields #[vl, vu, vs] } }
  refine tail_any (ops := [.ref a, .ref s4.heap.objs.size]) ht.typeIs PyProof.Rows.slot_tuple_getitem.lookup ?_ (by with_unfolding_all rfl)
  refine getItem_tuple_rev ht (Heap.IsSliceOf.new _ vl vu vs) pl pu ps ?_ (by rw [List.size_toArray]; omega)
  refine ⟨.ref _, _, I5.laid (t' := s4.toks) (o := .tup xs.reverse) (fun b ob q => Heap.get?_push_of_some _ q) (Nat.le_refl _) ?_, rfl, q _ (I5.hok.fresh (Nat.le_refl _))⟩
  exact ⟨by rw [List.length_reverse]; exact hz, _, r.reverse, IsTup.new _ _⟩
end Sg

set_option Elab.async false
set_option linter.all false
set_option maxRecDepth 100000
set_option maxHeartbeats 4000000
namespace Sg
open PySem PySem.Spec PyProof.Rows L2
/-! ## d.setdefault(t, v), t a tuple of ints and texts -/
def rSetdT : V → List V → Hp → VK → Prop := fun x xs H Q => ∃ (a : Addr) (kvs : List (List L2.Key × V)) (k : List L2.Key) (b : Addr) (d : V), x = .ref a ∧ xs = [.ref b, d] ∧ H a = some (.dT kvs) ∧ H b = some (.tup (k.map kV)) ∧ kvs.length < sizeLine ∧
  (∀ v, valV kvs k = some v → Q v H) ∧ (valV kvs k = none → Q d (upd H a (.dT (putK kvs k d))))
theorem mt_setdT {X : Cx} (hu : X.A.units + 1 < cLine) : MtR X "dict.setdefault" rSetdT := by
  intro pins s σ H x xs v us Q I rx rxs h
  obtain ⟨a, kvs, k, b, d, rfl, rfl, ha, hb, hl, q1, q2⟩ := h
  cases rx
  obtain ⟨u1, u2, rfl, r1, r2⟩ := vals2 rxs
  cases r1
  obtain ⟨z, hd, xs', rel, dd⟩ := dt_of I.hok ha
  have hz : xs'.length ≤ sizeLine := by rw [← Paired.length rel]; exact z
  refine call_meetsIn PySem.F.slot_dict_setdefault dd.typeIs PySem.F.entry_dict_setdefault (PySem.F.args_dict_setdefault_3 _ _ _) (meetsH_dict_setdefault (tupleKind (mixKind X.prog X.w)) a b hd u2)
    ⟨tupleKind_room_in1 hu, k, xs', key_of I.hok hb, dd, hz, fun p hp => ?_, fun hn h' dd' hs => ?_⟩
  · have r := rel.val k
    rw [hp] at r
    obtain ⟨v0, ev, rv⟩ : ∃ v0, valV kvs k = some v0 ∧ RelV v0 p.2 := by
      cases ev : valV kvs k with
      | none =>
        rw [ev] at r
        exact (show False from r).elim
      | some v0 =>
        rw [ev] at r
        exact ⟨v0, rfl, r⟩
    exact ⟨v0, H, I.tok _, rv, q1 v0 ev⟩
  · have r := rel.val k
    rw [hn] at r
    have e : valV kvs k = none := by
      cases ev : valV kvs k with
      | none => rfl
      | some v0 =>
        rw [ev] at r
        exact (show False from r).elim
    have hl2 : (putK kvs k d).length ≤ sizeLine := by
      have := length_putK kvs k d
      omega
    obtain ⟨o, es, ep, hq, h2, h3, h4, _, h5⟩ := dd'
    refine ⟨d, _, ?_, r2, q2 e⟩
    exact d_write I (by rw [ha]; exact True.intro) hs ⟨o, hq⟩ ⟨hl2, hd, _, (rel.put k hb r2).keeps (fun c ys ec => (by rw [upd_ne (ne_of ec ha (fun z => nomatch z))]; exact ec)), o, es, ep, hq, h2, h3, h4, h5⟩
end Sg

set_option Elab.async false
set_option linter.all false
set_option maxRecDepth 100000
set_option maxHeartbeats 4000000
namespace Sg
open PySem PySem.Spec PyProof.Rows L2
/-! ## for k, v in d.items(), d with tuples as keys -/
theorem pair_at {α β : Type} {G : α → β → Prop} : ∀ {l : List α} {m : List β}, Paired G l m → ∀ {i : Nat} {x : α}, l[i]? = some x → ∃ y, m[i]? = some y ∧ G x y
  | _, _, .nil, i, x, e => nomatch e
  | _, _, .cons r t, 0, x, e => by
    cases e
    exact ⟨_, rfl, r⟩
  | _, _, .cons r t, i + 1, x, e => pair_at t (i := i) (by simpa using e)
/-- the entries, as new pairs of the key's own tuple and the value -/
def IteT (d : Addr) (ob : Obj) (es : List (List L2.Key × V)) : It where
  go := fun j G => G d = some (.frz ob (.dT es)) ∧ j < es.length
  yld := fun j G x G' => ∃ t r k u, es[j]? = some (k, u) ∧ G r = some (.tup (k.map kV)) ∧ x = .ref t ∧ G t = none ∧ G' = upd G t (.tup [.ref r, u])
  stop := fun j G => G d = some (.frz ob (.dT es)) ∧ es.length ≤ j
section
variable {X : Cx} {pins : List (Addr × Obj)} {σ : L2.St} {H : Hp} {s : Shared} {d : Addr} {ob : Obj}
theorem frz_dT {ks : List (List L2.Key × V)} (I : Inv X pins σ H s) (h : H d = some (.frz ob (.dT ks))) : (d == sysModules) = false ∧ ∃ (es : Array DictEntry) (ep : Nat), DT.Raw s.heap d es ep ∧ ob.data = .dict es ep ∧ es.size = ks.length ∧
    ∀ (i : Nat) (k : List L2.Key) (v : V), ks[i]? = some (k, v) → ∃ (en : DictEntry) (q : Addr), es[i]? = some en ∧ en.key = .ref q ∧ RelV v en.val ∧ H q = some (.tup (k.map kV)) := by
  obtain ⟨g, _, ns, ys, pr, o2, es, ep, g2, hx, hdt, he, _⟩ := I.hok d _ h
  rw [g] at g2
  cases g2
  have l1 : es.size = ys.length := by
    have := congrArg List.length he
    rw [List.length_map, Array.length_toList] at this
    exact this
  have l2 : ks.length = ys.length := Paired.length pr
  refine ⟨ns, es, ep, ⟨ob, g, hx, hdt⟩, hdt, by omega, fun i k v e => ?_⟩
  obtain ⟨b, hb, e1, e2, e3⟩ := pair_at pr e
  have q : es[i]? = some (entryOfKey (tupleKind (mixKind X.prog X.w)) b) := by
    rw [← Array.getElem?_toList, he, List.getElem?_map, hb]
    rfl
  exact ⟨_, b.2.1, q, rfl, e3, e2⟩
end
theorem same_dict {o : Obj} {x y : Array DictEntry} {m n : Nat} (h : o.data = .dict x m) (h' : o.data = .dict y n) : y = x ∧ n = m := by
  rw [h] at h'
  cases h'
  exact ⟨rfl, rfl⟩
section
variable {P : Program} {w : World} {K : PySem.W.Frag} {d : Addr} {o : Obj} {es : Array DictEntry} {ep : Nat}
theorem turn_itemsT {ks : List (List L2.Key × V)} {elts : List Expr} {kk : Nat} {tpos : Pos} (it : Addr) (hod : o.data = .dict es ep) (hsz : es.size = ks.length) :
    Turn P w K (.Tuple elts kk tpos) (IteT d o ks) [it] it (fun i h => ∃ x y, IsItemIter h it d i es.size ep x y) where
  mem := List.mem_singleton.mpr rfl
  obj := by
    rintro i h ⟨x, y, e⟩ b hb
    obtain rfl := List.mem_singleton.mp hb
    exact ⟨_, e, fun v z => nomatch z⟩
  keep := by
    rintro i h h' ⟨x, y, e⟩ k
    exact ⟨x, y, k it (List.mem_singleton.mpr rfl) _ e⟩
  item := by
    intro X e1 e2 e3 hc i pins s σ H E I hf ⟨x, y, st⟩ ⟨hd, hi⟩
    subst e1 e2 e3
    obtain ⟨ns, es2, ep2, raw, hdt, hz, ent⟩ := frz_dT I hd
    obtain ⟨rfl, rfl⟩ := same_dict hod hdt
    obtain ⟨⟨k, v⟩, hkv⟩ : ∃ p, ks[i]? = some p := ⟨ks[i], List.getElem?_eq_getElem hi⟩
    obtain ⟨en, q, g1, g2, g3, g4⟩ := ent i k v hkv
    have hi2 : i < es2.size := by omega
    have g5 : es2[i] = en := by
      rw [Array.getElem?_eq_getElem hi2] at g1
      exact Option.some.inj g1
    have below : it < s.heap.objs.size := Heap.lt_size st
    have apart : s.heap.objs.size ≠ it := Nat.ne_of_gt below
    refine DT.nextI st raw hi2 fun h1 ho hT hz1 hk => ?_
    refine ⟨_, rfl, wpAny_letOwnedTupleGo_items (s := { s with heap := h1 }) ho fun h2 he sb => ?_⟩
    rw [g5] at hT he
    rw [g2] at hT
    have hT2 := (sb.2 s.heap.objs.size apart).trans hT
    have new : ObjOk X.prog X.w (upd H s.heap.objs.size (.tup [.ref q, v])) h2 s.heap.objs.size (.tup [.ref q, v]) :=
      ⟨by show 2 ≤ sizeLine; decide, [.ref q, en.val], .cons rfl (.cons g3 .nil), ⟨_, hT2, rfl, _, rfl⟩⟩
    have only : ∀ {b : Addr}, b ∉ [it] → b ≠ it := fun hb z => hb (List.mem_singleton.mpr z)
    have J := I.turnedNew (t' := s.toks) (ch := [it]) (fun b ob hb e => (sb.2 b (only hb)).trans (hk b ob (only hb) e)) hf (Nat.le_refl _) new
    refine ⟨.ref s.heap.objs.size, _, J, rfl, ⟨_, q, k, v, hkv, g4, rfl, I.hok.fresh (Nat.le_refl _), rfl⟩, ⟨_, _, he⟩, fun b hb => ?_⟩
    obtain rfl := List.mem_singleton.mp hb
    rw [upd_ne apart.symm]
    exact (hf b hb).1
  done := by
    intro X e1 e2 e3 hc i pins s σ H E I hf ⟨x, y, st⟩ ⟨hd, hi⟩
    subst e1 e2 e3
    obtain ⟨f0, f1, f2, f3, f4, f5⟩ := hf it (List.mem_singleton.mpr rfl)
    obtain ⟨ns, es2, ep2, raw, hdt, hz, ent⟩ := frz_dT I hd
    obtain ⟨rfl, rfl⟩ := same_dict hod hdt
    exact DT.endI (I.ok.hd hc) st raw (by omega) fun h1 eb => ⟨rfl, I.turned (t' := s.toks) (fun b ob hb e => eb b ob hb e) f0 f1 f3 f4 f5⟩
  self := by
    rintro A i s Q E ⟨x, y, e⟩ h
    exact PySem.W.kcp_self e h
end
def iItemsT (td : TE) : TI := fun σ H R => td σ H fun x H1 => ∃ d ob ks, x = .ref d ∧ H1 d = some (.frz ob (.dT ks)) ∧ R (IteT d ob ks) H1
theorem pi_itemsT {X : Cx} {e : Expr} {td : TE} {p1 p2 : Pos} {elts : List Expr} {kk : Nat} {tpos : Pos} (he : PE X e td) (hb : attributeBase e "items" X.env (eval e X.env) = eval e X.env := by rfl) (hl : (p1.endLine == p2.line) = true := by rfl) :
    PI X (.Tuple elts kk tpos) (.Call (.Attribute e "items" p1) [] [] p2) (iItemsT td) := by
  refine ⟨fun pins s σ H R I h => ?_⟩
  refine wpAny_Call_method (T := "dict") (id := "dict.items") hb rfl hl PySem.F.plainAttrs_dict PySem.F.slot_dict_items PySem.F.type_dict_items (thn (he.run pins s σ H _ I h) fun u s1 ⟨x, H1, I1, rx, d, ob, ks, ex, hd, q⟩ => ?_)
  subst ex
  obtain rfl : u = Value.ref d := rx
  obtain ⟨ns, es, ep, raw, hdt, hz, ent⟩ := frz_dT I1 hd
  obtain ⟨o2, g1, g2, g3⟩ := id raw
  refine ⟨raw.typeIs, ?_, ?_⟩
  · intro b e
    injection e with e
    subst e
    exact ⟨o2, g1, g2.2.1⟩
  have I2 : Inv X pins σ H1 { s1 with heap := s1.heap.push { cls := .type "dict_items", data := .fields #[.ref d] } } := I1.kept (t' := s1.toks) fun b o z => Heap.get?_push_of_some _ z
  have fin : wpAny (model X.prog X.w) X.A (pyIter (.ref s1.heap.objs.size)) (PIE X pins σ (.Tuple elts kk tpos) R) X.xe { s1 with heap := s1.heap.push { cls := .type "dict_items", data := .fields #[.ref d] } } :=
    DT.iterI (d := d) ⟨_, Heap.get?_push_size _ rfl, rfl, rfl⟩ (raw.push _) (pi_one (tk := s1.toks) I2 _ (turn_itemsT _ hdt hz) ⟨_, _, Heap.get?_push_size _ rfl⟩ q)
  show wpAny _ _ (callWith p2 (.builtin "dict.items") [.ref d] [] []) _ X.xe s1
  exact method_meetsIn PySem.F.slot_dict_items PySem.F.entry_dict_items rfl (PySem.evalArgs_none ⟨rfl, raw.typeIs, PySem.F.args_dict_items_1 _, _, DT.meetsItems (es := es) (ep := ep) ns, ⟨raw, fin⟩⟩)
theorem walk_itemsT {d : Addr} {ob : Obj} {ks : List (List L2.Key × V)} : Walk (IteT d ob ks) ks.length (fun G => G d = some (.frz ob (.dT ks)))
    (fun j G x G' => ∃ t r k u, ks[j]? = some (k, u) ∧ G r = some (.tup (k.map kV)) ∧ x = .ref t ∧ G t = none ∧ G' = upd G t (.tup [.ref r, u])) :=
  ⟨fun _ _ h q => ⟨q, h⟩, fun _ q => ⟨q, Nat.le_refl _⟩, fun _ _ _ _ _ _ y => y⟩
end Sg

set_option Elab.async false
set_option linter.all false
set_option maxRecDepth 100000
set_option maxHeartbeats 4000000
namespace Sg
open PySem PySem.Spec PyProof.Rows L2
/-! ## min(xs, default=z), xs a list of data that are alike -/
theorem vals_back : ∀ {ys : List V} {us : List Value}, Vals ys us → ∀ {i : Nat} {v : Value}, us[i]? = some v → ∃ y, ys[i]? = some y ∧ RelV y v
  | _, _, .nil, i, v, e => nomatch e
  | _, _, .cons r t, 0, v, e => by
    cases e
    exact ⟨_, rfl, r⟩
  | _, _, .cons r t, i + 1, v, e => vals_back t (i := i) (by simpa using e)
theorem reads_back {h : Heap} : ∀ {us : List Value} {ds : List PyData} {as : List Addr}, ReadsAll h us ds as → ∀ {i : Nat} {v : Value}, us[i]? = some v → ∃ d bs, ds[i]? = some d ∧ Reads h v d bs
  | _, _, _, .nil, i, v, e => nomatch e
  | _, _, _, .cons r t, 0, v, e => by
    cases e
    exact ⟨_, _, rfl, r⟩
  | _, _, _, .cons r t, i + 1, v, e => reads_back t (i := i) (by simpa using e)
theorem cr_minD {X : Cx} (hc : X.calm = true) {j : Nat} (hr : Room j X.A) : CallRK X (.builtin "min") ["default"] (fun vs zs H Q => ∃ (a : Addr) (ys : List V) (ds : List PyData) (z : V), vs = [.ref a] ∧ zs = [z] ∧ SqL X.K H a ys ∧ DpAll X.K H ys ds ∧
    PySem.W.AlikeAll ds ∧ PyData.depthAll ds ≤ 10 ∧ (ds = [] → Q z H) ∧ (∀ (i : Nat) (y : V) (e : PyData) (es : List PyData), ds = e :: es → ys[i]? = some y → ds[i]? = some (PySem.W.minD e es) → Q y H)) := by
  intro pins s σ H xs zs us ws Q I r rz h
  obtain ⟨a, ys, ds, z, rfl, rfl, hs, dp, al, dep, q1, q2⟩ := h
  obtain ⟨u, rfl, rfl⟩ := vals1 r
  obtain ⟨dv, rfl, rd0⟩ := vals1 rz
  obtain ⟨its, rv, hl, hzz⟩ := I.list hs
  obtain ⟨as, rd⟩ := Dp.readsAll I ds _ its dp rv
  have hu := hr.units
  refine PySem.W.min_list_default (I.ok.hd hc) hl.isList (by simpa using rd) al (by omega) (fun e h' tk hk => ?_) (fun e es i v h' tk bs ee hv hrd hk => ?_)
  · exact ⟨z, H, I.kept hk, rd0, q1 e⟩
  · have hv' : its[i]? = some v := by simpa using hv
    obtain ⟨y, hy, ry⟩ := vals_back rv hv'
    obtain ⟨d, bs2, hd, rd2⟩ := reads_back rd hv'
    obtain ⟨e1, _⟩ := reads_det (fun b o g _ => hk b o g) rd2 hrd
    rw [← e1] at hd
    exact ⟨y, H, I.kept hk, ry, q2 i y e es ee hy hd⟩
end Sg

set_option Elab.async false
set_option linter.all false
set_option maxRecDepth 100000
set_option maxHeartbeats 4000000
namespace Sg
open PySem PySem.Spec PyProof.Rows L2
/-! ## heaps -/
/-- all but p is as it was -/
def But (p : Addr) (H H' : Hp) : Prop := ∀ q o, q ≠ p → H q = some o → H' q = some o
theorem But.refl (p : Addr) (H : Hp) : But p H H := fun _ _ _ h => h
theorem But.trans {p : Addr} {H H1 H2 : Hp} (a : But p H H1) (b : But p H1 H2) : But p H H2 := fun q o n h => b q o n (a q o n h)
theorem But.of {p : Addr} {H H' : Hp} (a : Same H H') : But p H H' := fun q o _ h => a q o h
theorem But.upd {p : Addr} {H : Hp} {o : HO} : But p H (upd H p o) := fun q u n h => by rw [upd_ne n]; exact h
theorem same_new {H : Hp} {p : Addr} {o : HO} (h : H p = none) : Same H (upd H p o) := fun b x e => by
  rw [upd_ne (ne_of_none e h)]
  exact e
/-- what is new behind a But is new ahead -/
theorem But.free {p q : Addr} {H H' : Hp} {u : HO} (e : But p H H') (hp : H p = some u) (hp' : ∃ v, H' p = some v) (h : H' q = none) : H q = none := by
  by_cases n : q = p
  · subst n
    obtain ⟨v, hv⟩ := hp'
    rw [hv] at h
    exact nomatch h
  · rcases z : H q with _ | o
    · rfl
    · rw [e q o n z] at h
      exact nomatch h
theorem But.tup {K : PySem.W.Frag} {p : Addr} {H H' : Hp} {a : Addr} {xs ys : List V} (e : But p H H') (hp : H p = some (.lst ys)) (h : SqT K H a xs) : SqT K H' a xs := by
  rcases h with (h | ⟨o, h⟩) | h
  · exact .inl (.inl (e _ _ (ne_of h hp (fun z => nomatch z)) h))
  · exact .inl (.inr ⟨o, e _ _ (ne_of h hp (fun z => nomatch z)) h⟩)
  · exact .inr h
theorem Same.tup {K : PySem.W.Frag} {H H' : Hp} {a : Addr} {xs : List V} (e : Same H H') (h : SqT K H a xs) : SqT K H' a xs := by
  rcases h with (h | ⟨o, h⟩) | h
  · exact .inl (.inl (e _ _ h))
  · exact .inl (.inr ⟨o, e _ _ h⟩)
  · exact .inr h
/-- a pen at p -/
def PenAt (H : Hp) (p : Addr) : Prop := ∃ a b c : Int, H p = some (.lst [.int a, .int b, .int c]) ∧ 0 ≤ b ∧ b < 2147483648
theorem PenAt.same {H H' : Hp} {p : Addr} (h : PenAt H p) (e : Same H H') : PenAt H' p := by
  obtain ⟨a, b, c, h1, h2⟩ := h
  exact ⟨a, b, c, e _ _ h1, h2⟩
theorem PenAt.tup {K : PySem.W.Frag} {p : Addr} {H H' : Hp} {a : Addr} {xs : List V} (h : PenAt H p) (e : But p H H') (q : SqT K H a xs) : SqT K H' a xs := by
  obtain ⟨_, _, _, h1, _⟩ := h
  exact e.tup h1 q
theorem PenAt.free {p q : Addr} {H H' : Hp} (h : PenAt H p) (h' : PenAt H' p) (e : But p H H') (n : H' q = none) : H q = none := by
  obtain ⟨_, _, _, h1, _⟩ := h
  obtain ⟨_, _, _, h2, _⟩ := h'
  exact e.free h1 ⟨_, h2⟩ n
theorem atI0 {x : V} {r : List V} : atI (x :: r) 0 = some x := atI_nat (j := 0) rfl
theorem atI1 {x y : V} {r : List V} : atI (x :: y :: r) 1 = some y := atI_nat (j := 1) rfl
theorem atI2 {x y z : V} {r : List V} : atI (x :: y :: z :: r) 2 = some z := atI_nat (j := 2) rfl

def atD (ns : List Int) (t : Int) : Int := if 0 ≤ t ∧ t < ns.length then ns.getD t.toNat 0 else -1
end Sg

set_option Elab.async false
set_option linter.all false
set_option maxRecDepth 100000
set_option maxHeartbeats 4000000
namespace Sg
open PySem PySem.Spec PyProof.Rows L2
/-! ## the mathematics of bars -/
/-- a work, as its items -/
structure IsWork (ns : List Int) : Prop where
  pos : 1 ≤ ns.length
  most : ns.length ≤ 60
  items : ∀ x ∈ ns, -1 ≤ x ∧ x ≤ 9
  head : ∀ x, ns[0]? = some x → x ≠ -1
  last : ∀ x, ns[ns.length - 1]? = some x → x ≠ -1
/-- a piece of other, d ticks behind one of one, clashes with it -/
def clashB (one other : List Int) (d : Nat) : Bool := ((one.drop d).zip other).any fun p => p.1 == p.2 && p.1 != -1
def barsN (one other : List Int) : List Nat := (List.range' 1 (one.length - 1)).filter (clashB one other)
/-- as the law looks: tick by tick of the first piece -/
def lawHit (one other : List Int) (d : Nat) (i : Nat) : Bool := match one[i]? with
  | some x => decide (x > -1) && decide (atD other ((i : Int) - d) = x)
  | none => false
def lawCount (one other : List Int) (d : Nat) (n : Nat) : Nat := ((List.range n).filter (lawHit one other d)).length
theorem lawCount_zero {one other : List Int} {d : Nat} : lawCount one other d 0 = 0 := rfl
theorem lawCount_succ {one other : List Int} {d n : Nat} : lawCount one other d (n + 1) = lawCount one other d n + (if lawHit one other d n = true then 1 else 0) := by
  unfold lawCount
  rw [List.range_succ, List.filter_append, List.length_append]
  congr 1
  by_cases h : lawHit one other d n = true
  · rw [if_pos h, List.filter_cons_of_pos h]; rfl
  · rw [if_neg h, List.filter_cons_of_neg h]; rfl
theorem atD_in {ns : List Int} {j : Nat} {x : Int} (h : ns[j]? = some x) : atD ns (j : Int) = x := by
  have hl := (List.getElem?_eq_some_iff.mp h).1
  unfold atD
  rw [if_pos ⟨by omega, by omega⟩, Int.toNat_natCast, List.getD_eq_getElem?_getD, h]; rfl
theorem atD_cases (ns : List Int) (t : Int) : (∃ j : Nat, t = j ∧ ns[j]? = some (atD ns t)) ∨ atD ns t = -1 := by
  by_cases h : 0 ≤ t ∧ t < ns.length
  · obtain ⟨j, rfl⟩ : ∃ j : Nat, t = j := ⟨t.toNat, by omega⟩
    have hj : j < ns.length := by omega
    exact .inl ⟨j, rfl, by rw [atD_in (List.getElem?_eq_getElem hj), List.getElem?_eq_getElem hj]⟩
  · refine .inr ?_
    unfold atD
    rw [if_neg h]
theorem clashB_iff {one other : List Int} {d : Nat} : clashB one other d = true ↔ ∃ j x, one[d + j]? = some x ∧ other[j]? = some x ∧ x ≠ -1 := by
  unfold clashB
  rw [List.any_eq_true]
  constructor
  · rintro ⟨⟨x, y⟩, hm, h⟩
    obtain ⟨j, hj⟩ := List.mem_iff_getElem?.mp hm
    obtain ⟨h1, h2⟩ := List.getElem?_zip_eq_some.mp hj
    simp only [Bool.and_eq_true, beq_iff_eq, bne_iff_ne, ne_eq] at h
    rw [List.getElem?_drop] at h1
    exact ⟨j, x, h1, h.1 ▸ h2, h.2⟩
  · rintro ⟨j, x, h1, h2, h3⟩
    refine ⟨(x, x), List.mem_iff_getElem?.mpr ⟨j, List.getElem?_zip_eq_some.mpr ⟨by rw [List.getElem?_drop]; exact h1, h2⟩⟩, ?_⟩
    simp [h3]
theorem lawCount_iff {one other : List Int} {d : Nat} (hw : IsWork one) : decide (lawCount one other d one.length ≠ 0) = clashB one other d := by
  have key : lawCount one other d one.length ≠ 0 ↔ clashB one other d = true := by
    rw [clashB_iff]
    unfold lawCount
    rw [ne_eq, List.length_eq_zero_iff, List.filter_eq_nil_iff]
    constructor
    · intro h
      have h' : ∃ i ∈ List.range one.length, lawHit one other d i = true := by
        refine Classical.byContradiction fun z => h fun i hi hh => z ⟨i, hi, hh⟩
      obtain ⟨i, hi, hh⟩ := h'
      have hi' : i < one.length := List.mem_range.mp hi
      unfold lawHit at hh
      rw [List.getElem?_eq_getElem hi'] at hh
      simp only [Bool.and_eq_true, decide_eq_true_eq] at hh
      rcases atD_cases other ((i : Int) - d) with ⟨j, ej, hj⟩ | e
      · refine ⟨j, one[i], ?_, ?_, by omega⟩
        · rw [show d + j = i by omega]; exact List.getElem?_eq_getElem hi'
        · rw [hj, hh.2]
      · omega
    · rintro ⟨j, x, h1, h2, h3⟩ z
      have hl := (List.getElem?_eq_some_iff.mp h1).1
      refine z (d + j) (List.mem_range.mpr hl) ?_
      unfold lawHit
      rw [h1]
      have hm : x ∈ one := List.mem_of_getElem? h1
      have := (hw.items x hm).1
      simp only [Bool.and_eq_true, decide_eq_true_eq]
      refine ⟨by omega, ?_⟩
      rw [show (((d + j : Nat) : Int) - d) = (j : Int) by omega]
      exact atD_in h2
  by_cases h : clashB one other d = true
  · rw [h]; exact decide_eq_true (key.mpr h)
  · rw [Bool.eq_false_iff.mpr h]
    exact decide_eq_false fun z => h (key.mp z)
/-! ### lists step by step -/
theorem filter_range'_succ (f : Nat → Bool) (a n : Nat) : (List.range' a (n + 1)).filter f = (List.range' a n).filter f ++ (if f (a + n) = true then [a + n] else []) := by
  rw [List.range'_concat, List.filter_append, Nat.one_mul]
  congr 1
  by_cases h : f (a + n) = true
  · rw [if_pos h, List.filter_cons_of_pos h]; rfl
  · rw [if_neg h, List.filter_cons_of_neg h]; rfl
/-- the bars found below 1 + n -/
def barsTo (one other : List Int) (n : Nat) : List Nat := (List.range' 1 n).filter (clashB one other)
theorem barsTo_len (one other : List Int) (n : Nat) : (barsTo one other n).length ≤ n := by
  unfold barsTo
  refine Nat.le_trans (List.length_filter_le _ _) ?_
  rw [List.length_range']
  exact Nat.le_refl _
abbrev nV (l : List Nat) : List V := l.map fun d => V.int (d : Nat)
theorem barsTo_yes {one other : List Int} {n : Nat} (h : clashB one other (1 + n) = true) : nV (barsTo one other (n + 1)) = nV (barsTo one other n) ++ [.int ((1 : Int) + n)] := by
  unfold nV barsTo
  rw [filter_range'_succ, if_pos h, List.map_append]
  have e : (((1 + n : Nat) : Int)) = (1 : Int) + n := by omega
  simp only [List.map_cons, List.map_nil, e]
theorem barsTo_no {one other : List Int} {n : Nat} (h : clashB one other (1 + n) = false) : barsTo one other (n + 1) = barsTo one other n := by
  unfold barsTo
  rw [filter_range'_succ, if_neg (by rw [h]; exact Bool.false_ne_true), List.append_nil]
/-- the pairs of a zip, looked at in turn -/
def hitsTo (one other : List Int) (d n : Nat) : List Bool := (((one.drop d).zip other).take n).map fun p => p.1 == p.2 && p.1 != -1
theorem hits_any (one other : List Int) (d : Nat) : (hitsTo one other d (min (one.drop d).length other.length)).any id = clashB one other d := by
  unfold hitsTo clashB
  rw [List.take_of_length_le (by rw [List.length_zip]; exact Nat.le_refl _), List.any_map]
  rfl
theorem hits_succ {one other : List Int} {d n : Nat} {x y : Int} (h1 : (one.drop d)[n]? = some x) (h2 : other[n]? = some y) : hitsTo one other d (n + 1) = hitsTo one other d n ++ [x == y && x != -1] := by
  unfold hitsTo
  rw [List.take_add_one, List.getElem?_zip_eq_some (z := (x, y)) |>.mpr ⟨h1, h2⟩, List.map_append]
  rfl
theorem hits_len (one other : List Int) (d n : Nat) : (hitsTo one other d n).length ≤ n := by
  unfold hitsTo
  rw [List.length_map, List.length_take]
  exact Nat.min_le_left _ _
end Sg

set_option Elab.async false
set_option linter.all false
set_option maxRecDepth 100000
set_option maxHeartbeats 4000000
namespace Sg
open PySem PySem.Spec PyProof.Rows L2
theorem walk_zipT {K : PySem.W.Frag} {a b : Addr} {xs ys : List V} {n : Nat} (hn : n = min xs.length ys.length) :
    Walk (RZ.ItzT K a b) n (fun H => SqT K H a xs ∧ SqT K H b ys) (YPair (fun i => xs[i]?) (fun i => ys[i]?)) := by
  subst hn
  constructor
  · intro i H hi q
    have h1 : i < xs.length := by omega
    have h2 : i < ys.length := by omega
    exact ⟨xs, ys, xs[i], ys[i], q.1, q.2, List.getElem?_eq_getElem h1, List.getElem?_eq_getElem h2⟩
  · intro H q
    exact ⟨xs, ys, q.1, q.2, by omega⟩
  · rintro i H v H' hi q ⟨T, x, z, h1, h2, h3, h4, h5⟩
    exact ⟨T, x, z, h1, h2, h3, h4 xs q.1, h5 ys q.2⟩
theorem walk_enumT {K : PySem.W.Frag} {a : Addr} {xs : List V} :
    Walk (ItE K a) xs.length (fun H => SqT K H a xs) (YPair (fun i => some (.int (i : Nat))) (fun i => xs[i]?)) := by
  constructor
  · intro i H hi q
    exact ⟨xs, xs[i], q, List.getElem?_eq_getElem hi⟩
  · intro H q
    exact ⟨xs, q, Nat.le_refl _⟩
  · rintro i H v H' hi q ⟨T, x, h1, h2, h3, h4⟩
    exact ⟨T, .int (i : Nat), x, h1, h2, h3, rfl, h4 xs q⟩
theorem cut_from (xs : List V) (d : Nat) : cutV xs (some (d : Int)) none = xs.drop d := by
  unfold cutV
  rw [HT.sIx_nat, HT.sIx_none]
  rcases Nat.le_total d xs.length with h | h
  · rw [Nat.min_eq_left h]
    exact List.take_of_length_le (by rw [List.length_drop]; exact Nat.le_refl _)
  · rw [Nat.min_eq_right h, List.drop_of_length_le (Nat.le_refl _), List.drop_of_length_le h]
    exact List.take_nil
section
variable {P : Program} {w : World} {K : PySem.W.Frag} {mg : Str → Option Value} {base : Heap}
theorem tyT {H : Hp} {a : Addr} {xs : List V} (h : SqT K H a xs) : TyX K H (.ref a) (.type "tuple") := by
  rcases h with (h | ⟨o, h⟩) | ⟨o, _, _, h, hc, _⟩
  · exact .base (.tup h)
  · exact .fTuple h
  · exact .kTuple h hc
/-- the module's numbers -/
structure Nums (mg : Str → Option Value) : Prop where
  nowhere : ∃ t, mg "NOWHERE" = some (.int (-1) t)
  stations : ∃ t, mg "STATIONS" = some (.int 10 t)
  most : ∃ t, mg "MOST_ITEMS" = some (.int 60 t)
def inR (x : Int) : Bool := decide (-1 ≤ x) && decide (x ≤ 9)
end
end Sg

set_option Elab.async false
set_option linter.all false
set_option maxRecDepth 100000
set_option maxHeartbeats 4000000
namespace Sg
open PySem PySem.Spec PyProof.Rows L2
/-! ## data that is shown -/
/-- data made of small ints, in lists and tuples, no deeper than n, of bulk b at most -/
structure Small (d : PyData) (n b : Nat) : Prop where
  sh : d.showable = true
  nd : d.hasDict = false
  dp : d.depth ≤ n
  lv : d.leavesShort 15 = true
  bk : d.bulk ≤ b
  ly : d.canLay0 = true
structure SmallAll (ds : List PyData) (n b : Nat) : Prop where
  sh : PyData.showableAll ds = true
  nd : PyData.hasDictAll ds = false
  dp : PyData.depthAll ds ≤ n
  lv : PyData.leavesShortAll 15 ds = true
  bk : PyData.bulkAll ds ≤ b
  ly : PyData.canLayAll0 ds = true
theorem Small.shows {d : PyData} {n b : Nat} (h : Small d n b) (hn : n ≤ 40) (hb : b ≤ 900000) : Shows d := by
  refine ⟨h.sh, h.nd, Nat.le_trans h.dp hn, ?_⟩
  have h1 := PyData.shown_le_bulk 15 (by decide) d h.lv
  have h2 := h.bk
  have h3 : (15 + 2) * d.bulk ≤ (15 + 2) * 900000 := Nat.mul_le_mul_left _ (Nat.le_trans h2 hb)
  have h4 : sizeLine = 16777216 := sizeLine_eq
  omega
theorem Small.shaped {d : PyData} {n b : Nat} (h : Small d n b) (hn : n ≤ 64) : SeqAt.shaped d = true := by
  unfold SeqAt.shaped
  rw [h.ly, decide_eq_true (Nat.le_trans h.dp hn)]
  rfl
theorem Small.list {ds : List PyData} {n b : Nat} (h : SmallAll ds n b) : Small (.list ds) (n + 1) b :=
  ⟨by simpa only [PyData.showable] using h.sh, by simpa only [PyData.hasDict] using h.nd, by simpa only [PyData.depth] using Nat.succ_le_succ h.dp,
    by simpa only [PyData.leavesShort] using h.lv, by simpa only [PyData.bulk] using h.bk, by simpa only [PyData.canLay0] using h.ly⟩
theorem Small.tuple {ds : List PyData} {n b : Nat} (h : SmallAll ds n b) : Small (.tuple ds) (n + 1) b :=
  ⟨by simpa only [PyData.showable] using h.sh, by simpa only [PyData.hasDict] using h.nd, by simpa only [PyData.depth] using Nat.succ_le_succ h.dp,
    by simpa only [PyData.leavesShort] using h.lv, by simpa only [PyData.bulk] using h.bk, by simpa only [PyData.canLay0] using h.ly⟩
theorem SmallAll.nil {n b : Nat} : SmallAll [] n b := ⟨by simp only [PyData.showableAll], by simp only [PyData.hasDictAll], by simp only [PyData.depthAll]; exact Nat.zero_le _,
  by simp only [PyData.leavesShortAll], by simp only [PyData.bulkAll]; exact Nat.zero_le _, by simp only [PyData.canLayAll0]⟩
theorem SmallAll.cons {d : PyData} {ds : List PyData} {n b c : Nat} (h : Small d n b) (r : SmallAll ds n c) : SmallAll (d :: ds) n (b + 1 + c) :=
  ⟨by simp only [PyData.showableAll, h.sh, r.sh, Bool.and_self], by simp only [PyData.hasDictAll, h.nd, r.nd, Bool.or_self], by simp only [PyData.depthAll]; exact Nat.max_le.mpr ⟨h.dp, r.dp⟩,
    by simp only [PyData.leavesShortAll, h.lv, r.lv, Bool.and_self], by simp only [PyData.bulkAll]; have h1 := h.bk; have h2 := r.bk; omega, by simp only [PyData.canLayAll0, h.ly, r.ly, Bool.and_self]⟩
theorem Small.int {i : Int} {n b : Nat} (h1 : -99999999999999 ≤ i) (h2 : i ≤ 99999999999999) : Small (.int i) n b := by
  refine ⟨?_, by simp only [PyData.hasDict], by simp only [PyData.depth]; exact Nat.zero_le _, ?_, by simp only [PyData.bulk]; exact Nat.zero_le _, by simp only [PyData.canLay0]⟩
  · simp only [PyData.showable, decide_eq_true_eq]
    have h3 : i.natAbs < 2 ^ 47 := by omega
    have h4 := PySem.Flt.log2_lt_of (show 0 < 47 by decide) h3
    omega
  · simp only [PyData.leavesShort, decide_eq_true_eq]
    have h6 : i.natAbs < 10 ^ 14 := by
      have e : (10 : Nat) ^ 14 = 100000000000000 := by decide
      rw [e]
      omega
    have h5 := int_text_length_le10 (k := 14) (by decide) h6
    show (Str.ofString (toString i)).length ≤ 15
    rw [PySem.ofString_length]
    exact h5
theorem Small.mono {d : PyData} {n m b c : Nat} (h : Small d n b) (hn : n ≤ m) (hb : b ≤ c) : Small d m c := ⟨h.sh, h.nd, Nat.le_trans h.dp hn, h.lv, Nat.le_trans h.bk hb, h.ly⟩
theorem SmallAll.mono {d : List PyData} {n m b c : Nat} (h : SmallAll d n b) (hn : n ≤ m) (hb : b ≤ c) : SmallAll d m c := ⟨h.sh, h.nd, Nat.le_trans h.dp hn, h.lv, Nat.le_trans h.bk hb, h.ly⟩
abbrev iD (ns : List Int) : List PyData := ns.map PyData.int
theorem SmallAll.ints {n : Nat} : ∀ (ns : List Int), (∀ x ∈ ns, -99999999999999 ≤ x ∧ x ≤ 99999999999999) → SmallAll (iD ns) n ns.length
  | [], _ => .nil
  | x :: r, h => by
    have h1 := h x List.mem_cons_self
    have h2 := SmallAll.cons (Small.int (n := n) (b := 0) h1.1 h1.2) (SmallAll.ints r fun y hy => h y (List.mem_cons_of_mem _ hy))
    exact h2.mono (Nat.le_refl _) (by show 0 + 1 + r.length ≤ r.length + 1; omega)
theorem dpInts {K : PySem.W.Frag} {H : Hp} : ∀ (ns : List Int), DpAll K H (ns.map V.int) (iD ns)
  | [] => .nil
  | x :: r => .cons (.int x) (dpInts r)
abbrev nI (l : List Nat) : List Int := l.map fun d => ((d : Nat) : Int)
theorem nV_eq (l : List Nat) : nV l = (nI l).map V.int := by rw [List.map_map]; rfl
theorem IsWork.small {ns : List Int} (h : IsWork ns) {n : Nat} : SmallAll (iD ns) n 60 :=
  (SmallAll.ints ns fun x hx => by have := h.items x hx; omega).mono (Nat.le_refl _) h.most
theorem bars_small {one other : List Int} (h : IsWork one) {n : Nat} : SmallAll (iD (nI (barsN one other))) n 60 := by
  refine (SmallAll.ints _ fun x hx => ?_).mono (Nat.le_refl _) ?_
  · obtain ⟨d, hd, rfl⟩ := List.mem_map.mp hx
    have h1 := (List.mem_filter.mp hd).1
    have h2 := List.mem_range'_1.mp h1
    have := h.most
    omega
  · rw [List.length_map]
    have := barsTo_len one other (one.length - 1)
    have := h.most
    exact Nat.le_trans (barsTo_len one other (one.length - 1)) (by omega)
section
variable {P : Program} {w : World} {K : PySem.W.Frag} {mg : Str → Option Value} {base : Heap}
/-! ### _law_same -/
def spSame (K : PySem.W.Frag) : Sp := fun vs H Q _ => ∃ (a b : Addr) (d : PyData), vs = [.ref a, .ref b] ∧ Dp K H (.ref a) d ∧ Dp K H (.ref b) d ∧ Shows d ∧ Q (.bl true) H
theorem PenAt.upd {H : Hp} {p q : Addr} {o : HO} (h : PenAt H p) (n : p ≠ q) : PenAt (upd H q o) p := by
  obtain ⟨a, b, c, h1, h2⟩ := h
  exact ⟨a, b, c, by rw [upd_ne n]; exact h1, h2⟩
theorem PenAt.ne {H : Hp} {p q : Addr} (h : PenAt H p) (n : H q = none) : p ≠ q := by
  obtain ⟨a, b, c, h1, _⟩ := h
  exact ne_of_none h1 n
end
end Sg

set_option Elab.async false
set_option linter.all false
set_option maxRecDepth 100000
set_option maxHeartbeats 4000000
namespace Sg
open PySem PySem.Spec PyProof.Rows L2
/-! ## data of ints and tuples alone -/
section
variable {K : PySem.W.Frag} {H H' : Hp}
mutual
inductive Tp (K : PySem.W.Frag) (H : Hp) : V → PyData → Prop
  | int (i : Int) : Tp K H (.int i) (.int i)
  | tu {a : Addr} {xs : List V} {ds : List PyData} : SqT K H a xs → TpAll K H xs ds → Tp K H (.ref a) (.tuple ds)
inductive TpAll (K : PySem.W.Frag) (H : Hp) : List V → List PyData → Prop
  | no : TpAll K H [] []
  | on {v : V} {vs : List V} {d : PyData} {ds : List PyData} : Tp K H v d → TpAll K H vs ds → TpAll K H (v :: vs) (d :: ds)
end
mutual
theorem Tp.dp : ∀ {v : V} {d : PyData}, Tp K H v d → Dp K H v d
  | _, _, .int i => .int i
  | _, _, .tu h r => .tup h (TpAll.dp r)
theorem TpAll.dp : ∀ {v : List V} {d : List PyData}, TpAll K H v d → DpAll K H v d
  | _, _, .no => .nil
  | _, _, .on a r => .cons (Tp.dp a) (TpAll.dp r)
end
/-- all tuples and all instances are as they were -/
structure St (K : PySem.W.Frag) (H H' : Hp) : Prop where
  tu : ∀ a xs, SqT K H a xs → SqT K H' a xs
  ob : ∀ a C dx fs, H a = some (.ins C dx fs) → H' a = some (.ins C dx fs)
theorem St.refl : St K H H := ⟨fun _ _ h => h, fun _ _ _ _ h => h⟩
theorem St.trans {H2 : Hp} (a : St K H H') (b : St K H' H2) : St K H H2 := ⟨fun _ _ h => b.tu _ _ (a.tu _ _ h), fun _ _ _ _ h => b.ob _ _ _ _ (a.ob _ _ _ _ h)⟩
theorem St.of (e : Same H H') : St K H H' := ⟨fun _ _ h => Same.tup e h, fun _ _ _ _ h => e _ _ h⟩
theorem St.but {p : Addr} {ys : List V} (e : But p H H') (hp : H p = some (.lst ys)) : St K H H' :=
  ⟨fun _ _ h => But.tup e hp h, fun a C dx fs h => e _ _ (fun z => by rw [z, hp] at h; exact nomatch h) h⟩
theorem St.pen {p : Addr} (e : But p H H') (hp : PenAt H p) : St K H H' := by
  obtain ⟨a, b, c, h, _⟩ := hp
  exact .but e h
mutual
theorem Tp.stayT (e : ∀ a xs, SqT K H a xs → SqT K H' a xs) : ∀ {v : V} {d : PyData}, Tp K H v d → Tp K H' v d
  | _, _, .int i => .int i
  | _, _, .tu h r => .tu (e _ _ h) (TpAll.stayT e r)
theorem TpAll.stayT (e : ∀ a xs, SqT K H a xs → SqT K H' a xs) : ∀ {v : List V} {d : List PyData}, TpAll K H v d → TpAll K H' v d
  | _, _, .no => .no
  | _, _, .on a r => .on (Tp.stayT e a) (TpAll.stayT e r)
end
theorem tu_ins {p C dx : Addr} {fs : List (Str × V)} {o : HO} (hp : H p = some (.ins C dx fs)) : ∀ a xs, SqT K H a xs → SqT K (upd H p o) a xs := by
  intro a xs h
  have ne : ∀ u, H a = some u → (∀ C dx fs, u ≠ .ins C dx fs) → a ≠ p := fun u hu n z => by
    rw [z, hp] at hu
    exact n _ _ _ (Option.some.inj hu).symm
  exact h.imp (fun z => z.imp (fun z => by rw [upd_ne (ne _ z (fun _ _ _ q => nomatch q))]; exact z) fun ⟨u, z⟩ => ⟨u, by rw [upd_ne (ne _ z (fun _ _ _ q => nomatch q))]; exact z⟩) id
mutual
theorem Tp.stay (e : St K H H') : ∀ {v : V} {d : PyData}, Tp K H v d → Tp K H' v d
  | _, _, .int i => .int i
  | _, _, .tu h r => .tu (e.tu _ _ h) (TpAll.stay e r)
theorem TpAll.stay (e : St K H H') : ∀ {v : List V} {d : List PyData}, TpAll K H v d → TpAll K H' v d
  | _, _, .no => .no
  | _, _, .on a r => .on (Tp.stay e a) (TpAll.stay e r)
end
theorem TpAll.len : ∀ {vs : List V} {ds : List PyData}, TpAll K H vs ds → vs.length = ds.length
  | _, _, .no => rfl
  | _, _, .on _ r => congrArg (· + 1) (TpAll.len r)
theorem TpAll.at : ∀ {vs : List V} {ds : List PyData} {i : Nat} {v : V}, TpAll K H vs ds → vs[i]? = some v → ∃ d, ds[i]? = some d ∧ Tp K H v d
  | _, _, 0, _, .on a _, e => by cases e; exact ⟨_, rfl, a⟩
  | _, _, i + 1, _, .on _ r, e => TpAll.at (i := i) r e
theorem TpAll.add : ∀ {vs us : List V} {ds es : List PyData}, TpAll K H vs ds → TpAll K H us es → TpAll K H (vs ++ us) (ds ++ es)
  | _, _, _, _, .no, b => b
  | _, _, _, _, .on a r, b => .on a (TpAll.add r b)
theorem TpAll.cut : ∀ {vs : List V} {ds : List PyData} (n : Nat), TpAll K H vs ds → TpAll K H (vs.take n) (ds.take n)
  | _, _, 0, _ => .no
  | _, _, _ + 1, .no => .no
  | _, _, n + 1, .on a r => .on a (TpAll.cut n r)
theorem TpAll.off : ∀ {vs : List V} {ds : List PyData} (n : Nat), TpAll K H vs ds → TpAll K H (vs.drop n) (ds.drop n)
  | _, _, 0, r => r
  | _, _, _ + 1, .no => .no
  | _, _, n + 1, .on _ r => TpAll.off n r
theorem TpAll.ints : ∀ (ns : List Int), TpAll K H (ns.map V.int) (iD ns)
  | [] => .no
  | x :: r => .on (.int x) (TpAll.ints r)
theorem TpAll.isInts : ∀ {vs : List V} {ns : List Int}, TpAll K H vs (iD ns) → vs = ns.map V.int
  | _, [], .no => rfl
  | _, _ :: _, .on (.int _) r => by rw [TpAll.isInts r]; rfl
theorem Tp.ofInts {a : Addr} {ns : List Int} (h : SqT K H a (ns.map V.int)) : Tp K H (.ref a) (.tuple (iD ns)) := .tu h (TpAll.ints ns)
theorem Tp.toInts {v : V} {ns : List Int} (h : Tp K H v (.tuple (iD ns))) : ∃ a, v = .ref a ∧ SqT K H a (ns.map V.int) := by
  cases h with
  | tu h r => exact ⟨_, rfl, by rw [← TpAll.isInts r]; exact h⟩
theorem Tp.toTup {v : V} {ds : List PyData} (h : Tp K H v (.tuple ds)) : ∃ a xs, v = .ref a ∧ SqT K H a xs ∧ TpAll K H xs ds := by
  cases h with
  | tu h r => exact ⟨_, _, rfl, h, r⟩
end
/-! ## lines -/
/-- one to three works -/
structure GoodL (ws : List (List Int)) : Prop where
  least : 1 ≤ ws.length
  few : ws.length ≤ 3
  work : ∀ w ∈ ws, IsWork w
abbrev tD (ns : List Int) : PyData := .tuple (iD ns)
abbrev tDs (ws : List (List Int)) : List PyData := ws.map tD
abbrev cellD (a b : List Int) : PyData := tD (nI (barsN a b))
abbrev rowD (a : List Int) (ws : List (List Int)) : PyData := .tuple (ws.map (cellD a))
abbrev barD (ws : List (List Int)) : List PyData := ws.map fun a => rowD a ws
/-- the bars of all, row by row -/
def rowB (a : List Int) (ws : List (List Int)) : List Int := ws.flatMap fun b => nI (barsN a b)
def allB (ws vs : List (List Int)) : List Int := ws.flatMap fun a => rowB a vs
/-- the greatest, or 0 -/
structure Top (l : List Int) (m : Int) : Prop where
  pos : 0 ≤ m
  le : ∀ x ∈ l, x ≤ m
  eq : m = 0 ∨ m ∈ l
theorem Top.uniq {l k : List Int} {m n : Int} (h : Top l m) (g : Top k n) (e : ∀ x, x ∈ l ↔ x ∈ k) : m = n := by
  have a : m ≤ n := by
    rcases h.eq with z | z
    · rw [z]; exact g.pos
    · exact g.le _ ((e _).mp z)
  have b : n ≤ m := by
    rcases g.eq with z | z
    · rw [z]; exact h.pos
    · exact h.le _ ((e _).mpr z)
  omega
/-! ### the object -/
def lf (t b : Addr) (r : Int) : List (Str × V) := putF "_reach" (.int r) (putF "_bars" (.ref b) (putF "_works" (.ref t) []))
theorem k1 : ¬ (("_works" : Str) = "_bars") := by decide +kernel
theorem k2 : ¬ (("_works" : Str) = "_reach") := by decide +kernel
theorem k3 : ¬ (("_bars" : Str) = "_reach") := by decide +kernel
theorem lf_works (t b : Addr) (r : Int) : (lf t b r).lookup ("_works" : Str) = some (.ref t) := by
  unfold lf
  rw [lookup_putF, if_neg k2, lookup_putF, if_neg k1, lookup_putF, if_pos rfl]
theorem lf_bars (t b : Addr) (r : Int) : (lf t b r).lookup ("_bars" : Str) = some (.ref b) := by
  unfold lf
  rw [lookup_putF, if_neg k3, lookup_putF, if_pos rfl]
theorem lf_reach (t b : Addr) (r : Int) : (lf t b r).lookup ("_reach" : Str) = some (.int r) := by
  unfold lf
  rw [lookup_putF, if_pos rfl]
/-- a Line of these works stands at a -/
def LineAt (K : PySem.W.Frag) (C : Addr) (H : Hp) (a : Addr) (ws : List (List Int)) : Prop :=
  ∃ (dx t b : Addr) (r : Int), H a = some (.ins C dx (lf t b r)) ∧ Tp K H (.ref t) (.tuple (tDs ws)) ∧ Tp K H (.ref b) (.tuple (barD ws)) ∧ Top (allB ws ws) r ∧ GoodL ws
theorem LineAt.ins {K : PySem.W.Frag} {C a : Addr} {H : Hp} {ws : List (List Int)} (h : LineAt K C H a ws) : InsAt H C a := by
  obtain ⟨dx, t, b, r, h1, _⟩ := h
  exact ⟨_, _, h1⟩
theorem LineAt.good {K : PySem.W.Frag} {C a : Addr} {H : Hp} {ws : List (List Int)} (h : LineAt K C H a ws) : GoodL ws := by
  obtain ⟨dx, t, b, r, _, _, _, _, g⟩ := h
  exact g
theorem LineAt.stay {K : PySem.W.Frag} {C a : Addr} {H H' : Hp} {ws : List (List Int)} (e : St K H H') (h : LineAt K C H a ws) : LineAt K C H' a ws := by
  obtain ⟨dx, t, b, r, h1, h2, h3, h4, h5⟩ := h
  exact ⟨dx, t, b, r, e.ob _ _ _ _ h1, h2.stay e, h3.stay e, h4, h5⟩
theorem TpAll.works {K : PySem.W.Frag} {H : Hp} {vs : List V} {ws : List (List Int)} {i : Nat} {v : V} (h : TpAll K H vs (tDs ws)) (e : vs[i]? = some v) : ∃ w a, ws[i]? = some w ∧ v = .ref a ∧ SqT K H a (w.map V.int) := by
  obtain ⟨d, hd, t⟩ := h.at e
  rw [List.getElem?_map] at hd
  obtain ⟨w, hw, rfl⟩ := Option.map_eq_some_iff.mp hd
  obtain ⟨a, rfl, hs⟩ := t.toInts
  exact ⟨w, a, hw, rfl, hs⟩
end Sg

set_option Elab.async false
set_option linter.all false
set_option maxRecDepth 100000
set_option maxHeartbeats 4000000
namespace Sg
open PySem PySem.Spec PyProof.Rows L2
theorem call_tuple_ofK {X : Cx} {K : PySem.W.Frag} (hK : X.K = K) : CallR X (.type "tuple") (fun xs H Q => ∃ p ys, xs = [.ref p] ∧ ((SqL K H p ys ∧ ∀ l, H l = none → Q (.ref l) (upd H l (.tup ys))) ∨ (SqT K H p ys ∧ Q (.ref p) H))) := by
  subst hK; exact call_tuple_of
theorem pi_tupK {X : Cx} {K : PySem.W.Frag} {tg l : Expr} {tl : TE} (hK : X.K = K) (hl : PE X l tl) : PI X tg l (iTup K tl) := by
  subst hK; exact pi_tup hl
/-! ## a list of tuple data that grows -/
def Grow (K : PySem.W.Frag) (H1 : Hp) (D : Addr) (ds : List PyData) (i : Nat) (H' : Hp) : Prop := Same H1 H' ∧ ∃ acc, H' D = some (.lst acc) ∧ TpAll K H' acc (ds.take i)
theorem Grow.zero {K : PySem.W.Frag} {H1 : Hp} {D : Addr} {ds : List PyData} (hD : H1 D = none) : Grow K H1 D ds 0 (upd H1 D (.lst [])) :=
  ⟨same_new hD, [], upd_same, .no⟩
theorem Grow.next {K : PySem.W.Frag} {H1 H' H'' : Hp} {D : Addr} {ds : List PyData} {i : Nat} {d : PyData} {v : V} (hD : H1 D = none) (hz : ds.length ≤ 1000) (h : Grow K H1 D ds i H') (e : Same H' H'') (hd : ds[i]? = some d) (t : Tp K H'' v d) :
    ∃ acc, H'' D = some (.lst acc) ∧ acc.length < sizeLine ∧ Grow K H1 D ds (i + 1) (upd H'' D (.lst (acc ++ [v]))) := by
  obtain ⟨s1, acc, h1, h2⟩ := h
  have hD2 := e _ _ h1
  have st : St K H'' (upd H'' D (.lst (acc ++ [v]))) := .but (.upd) hD2
  refine ⟨acc, hD2, ?_, fun b o q => ?_, _, upd_same, ?_⟩
  · have z := h2.len
    have z2 : i < ds.length := (List.getElem?_eq_some_iff.mp hd).1
    rw [List.length_take] at z
    exact small1000 (by omega)
  · rw [upd_ne (ne_of_none q hD)]
    exact e _ _ (s1 _ _ q)
  · rw [List.take_add_one, hd]
    exact ((h2.stay (.of e)).stay st).add (.on (t.stay st) .no)
theorem Grow.done {K : PySem.W.Frag} {H1 H' : Hp} {D : Addr} {ds : List PyData} {n : Nat} (h : Grow K H1 D ds n H') (hn : n = ds.length) : Same H1 H' ∧ ∃ acc, H' D = some (.lst acc) ∧ TpAll K H' acc ds := by
  obtain ⟨s1, acc, h1, h2⟩ := h
  rw [hn, List.take_length] at h2
  exact ⟨s1, acc, h1, h2⟩
theorem Tp.new {K : PySem.W.Frag} {H : Hp} {l : Addr} {acc : List V} {ds : List PyData} (nl : H l = none) (t : TpAll K H acc ds) : Tp K (upd H l (.tup acc)) (.ref l) (.tuple ds) :=
  .tu (.of upd_same) (t.stay (.of (same_new nl)))
theorem GoodL.mem {ws : List (List Int)} (h : GoodL ws) {i : Nat} {w : List Int} (e : ws[i]? = Option.some w) : IsWork w := h.work w (List.mem_of_getElem? e)
theorem GoodL.lt {ws : List (List Int)} (h : GoodL ws) : (barD ws).length ≤ 1000 := by
  have := h.few
  rw [List.length_map]
  omega
/-- what the class has -/
structure LC (K : PySem.W.Frag) (mg : Str → Option Value) (C : Addr) : Prop where
  cl : Cls K C
  nW : NoAttr K C "_works"
  nB : NoAttr K C "_bars"
  nR : NoAttr K C "_reach"
  mgC : mg "Line" = some (.ref C)
end Sg

set_option Elab.async false
set_option linter.all false
set_option maxRecDepth 100000
set_option maxHeartbeats 4000000
namespace Sg
open PySem PySem.Spec PyProof.Rows L2
/-! ## a tuple times 0, 1 or more -/
theorem tuple_mulOne (l : Addr) (items : Array Value) (n : Nat) (dd : Option Addr) (sl : Array (Option Value)) (u : Tok) :
    Meets (Builtin.«tuple.__mul__» ⟨[.ref l, .int 1 u], []⟩) (fun _ R s => s.heap.get? l = some { cls := .type "tuple", dict := dd, data := .seq items n, slots := sl } ∧ R (.ok (.ret (Value.ref l))) s) :=
  .of_wp fun prog w A R s h => by
    obtain ⟨hp, g, d, tk, os⟩ := s
    obtain ⟨hl, h⟩ := h
    have f1 := AutoSeq1.idx_int
    have ht : Shared.TypeIs ⟨hp, g, d, tk, os⟩ (.ref l) "tuple" := ⟨_, hl, rfl⟩
    wp_walk using wpAny_loadPart' hl, wpAny_typeOf ht
    repeat (first
      | (refine wpAny_ite_true (by rw [Bool.or_eq_true]; exact .inr rfl) ?_; wp_walk using wpAny_loadPart' hl, wpAny_typeOf ht)
      | (refine wpAny_ite_true rfl ?_; wp_walk using wpAny_loadPart' hl, wpAny_typeOf ht)
      | (refine wpAny_ite_false (by decide) ?_; wp_walk using wpAny_loadPart' hl, wpAny_typeOf ht))
    exact ⟨_, rfl, h⟩
theorem tuple_mulNone (l : Addr) (items : Array Value) (n : Nat) (dd : Option Addr) (sl : Array (Option Value)) (u : Tok) (c1 : items.isEmpty = false) :
    Meets (Builtin.«tuple.__mul__» ⟨[.ref l, .int 0 u], []⟩) (fun _ R s => s.heap.get? l = some { cls := .type "tuple", dict := dd, data := .seq items n, slots := sl } ∧
      R (.ok (.ret (Value.ref s.heap.objs.size))) { s with heap := s.heap.push { cls := Value.type "tuple", data := Data.seq #[] }, toks := s.toks }) :=
  .of_wp fun prog w A R s h => by
    obtain ⟨hp, g, d, tk, os⟩ := s
    obtain ⟨hl, h⟩ := h
    have f1 := AutoSeq1.idx_int
    have c2 : (items.isEmpty || (0 : Int) == 1) = false := by rw [c1]; rfl
    wp_walk using wpAny_loadPart' hl
    repeat (first
      | (refine wpAny_ite_false (by rw [c2]; exact Bool.false_ne_true) ?_; wp_walk using wpAny_loadPart' hl)
      | (refine wpAny_ite_true rfl ?_; wp_walk using wpAny_loadPart' hl)
      | (refine wpAny_ite_false (by decide) ?_; wp_walk using wpAny_loadPart' hl))
    exact ⟨_, rfl, h⟩
def rRepN (K : PySem.W.Frag) : R2 := fun x y H Q => ∃ (l : Addr) (k : Nat) (xs : List V), x = .ref l ∧ y = .int k ∧ SqT K H l xs ∧ xs ≠ [] ∧ k ≤ 1000 ∧ xs.length ≤ 1000 ∧
  (k = 1 → Q (.ref l) H) ∧ (k ≠ 1 → ∀ p, H p = none → Q (.ref p) (upd H p (.tup (List.replicate k xs).flatten)))
theorem op_repN {X : Cx} : OpR X (binaryOp .Mult) (rRepN X.K) := by
  intro pins s σ H x y v u Q I rx ry h
  obtain ⟨l, k, xs, rfl, rfl, hT, hne, h2, hz, q1, q2⟩ := h
  by_cases h1 : 2 ≤ k
  · refine op_repT pins s σ H _ _ v u Q I rx ry ⟨l, k, xs, rfl, rfl, hT, hne, by omega, by omega, hz, fun p np => ?_⟩
    rw [Int.toNat_natCast]
    exact q2 (by omega) p np
  cases rx
  obtain ⟨t, rfl⟩ := ry
  obtain ⟨its, r, ⟨⟨cls, dd, data, sl⟩, ho, hc, n, hd⟩, hs⟩ := I.tuple hT
  simp only at hc hd
  subst hc hd
  have hle : its.length = xs.length := r.length.symm
  have hn : its ≠ [] := fun e => hne (by
    rw [e] at hle
    exact List.eq_nil_of_length_eq_zero hle.symm)
  have hi : its.toArray.isEmpty = false := by
    cases its with
    | nil => exact absurd rfl hn
    | cons a b => rfl
  rcases (show k = 0 ∨ k = 1 by omega) with rfl | rfl
  · refine wpAny_binaryOp_repeat_ref (T := "tuple") (U := "int") (by decide) ⟨_, ho, rfl⟩ (fun s' => typeIs_int s' _ t) noFill_tuple_mul F.fills_int_mul F.slot_int_rmul repeat_tuple PySem.F.slot_int_index.lookup
      (call_meets F.slot_int_rmul (typeIs_int s _ t) F.entry_int_rmul (F.args_int_rmul_2 _ _) (int_rmul_tuple _ t l its.toArray n dd sl)
        ⟨ho, rfl, ⟨_, ho, rfl⟩, call_meets F.slot_tuple_mul ⟨_, ho, rfl⟩ F.entry_tuple_mul (F.args_tuple_mul_2 _ _) (tuple_mulNone l its.toArray n dd sl t hi) ⟨ho, ?_⟩⟩)
    refine ⟨.ref s.heap.objs.size, _, I.laid (t' := s.toks) (o := .tup (List.replicate 0 xs).flatten) (fun b ob q => Heap.get?_push_of_some _ q) (Nat.le_refl _) ?_, rfl, q2 (by decide) _ (I.hok.fresh (Nat.le_refl _))⟩
    exact ⟨Nat.zero_le _, [], .nil, IsTup.new _ _⟩
  · refine wpAny_binaryOp_repeat_ref (T := "tuple") (U := "int") (by decide) ⟨_, ho, rfl⟩ (fun s' => typeIs_int s' _ t) noFill_tuple_mul F.fills_int_mul F.slot_int_rmul repeat_tuple PySem.F.slot_int_index.lookup
      (call_meets F.slot_int_rmul (typeIs_int s _ t) F.entry_int_rmul (F.args_int_rmul_2 _ _) (int_rmul_tuple _ t l its.toArray n dd sl)
        ⟨ho, rfl, ⟨_, ho, rfl⟩, call_meets F.slot_tuple_mul ⟨_, ho, rfl⟩ F.entry_tuple_mul (F.args_tuple_mul_2 _ _) (tuple_mulOne l its.toArray n dd sl t) ⟨ho, ?_⟩⟩)
    exact ⟨.ref l, H, I, rfl, q1 rfl⟩
/-- .. asked once for all -/
def rRepS (K : PySem.W.Frag) : R2 := fun x y H Q => ∃ (l : Addr) (k : Nat) (xs : List V), x = .ref l ∧ y = .int k ∧ SqT K H l xs ∧ xs ≠ [] ∧ k ≤ 1000 ∧ xs.length ≤ 1000 ∧
  ∀ H' u, Same H H' → SqT K H' u (List.replicate k xs).flatten → Q (.ref u) H'
theorem op_repS {X : Cx} : OpR X (binaryOp .Mult) (rRepS X.K) := by
  intro pins s σ H x y v u Q I rx ry h
  obtain ⟨l, k, xs, rfl, rfl, hT, hne, h2, hz, q⟩ := h
  refine op_repN pins s σ H _ _ v u Q I rx ry ⟨l, k, xs, rfl, rfl, hT, hne, h2, hz, fun z => q H l (fun _ _ h => h) ?_, fun _ p np => q _ p (same_new np) (.of upd_same)⟩
  subst z
  rw [show (List.replicate 1 xs).flatten = xs from by simp]
  exact hT
/-! ## a part of a tuple, the whole of it too -/
section
variable {prog : Program} {w : World} {A : Around} {E : Value → Shared → Prop} {s : Shared}
theorem getItem_tuple_whole {t sl : Addr} {items : Array Value} {vl vu : Value} {lo hi : Option Int} {Q : Value → Shared → Prop} (ht : IsTup s.heap t items) (hs : s.heap.IsSliceOf sl vl vu .none) (pl : IsPart vl lo) (pu : IsPart vu hi)
    (hw : HT.sIx items.size 0 lo = 0 ∧ HT.sIx items.size items.size hi = items.size) (h : Q (.ref t) s) : wpAny (model prog w) A (getItem (.ref t) (.ref sl)) Q E s := by
  obtain ⟨os, hos, hcs, hds⟩ := id hs
  have hTs : s.TypeIs (.ref sl) "slice" := ⟨os, hos, hcs⟩
  unfold getItem
  try with_reducible refine wpAny_holding ?_
  first | refine wpAny_bind (wpAny_pure ?_) | skip
  refine wpAny_bind (wpAny_sequenceKey ht.typeIs (by decide) ?_)
  refine wpAny_bind (wpAny_callSpecial?_slot (name := Str.ofString "__getitem__") ht.typeIs PyProof.Rows.slot_tuple_getitem
    (wpAny_call_entry PyProof.Rows.slot_tuple_getitem ht.typeIs entry_tuple_getitem ?_ (args_tuple_getitem _ _)))
  show wpAny _ _ (Builtin.Tuple.tupleItemsOf (.ref t) >>= _) _ _ s
  refine wpAny_bind (PyProof.Rows.tupleItemsOf_ ht ?_)
  refine wpAny_bind (wpAny_typeOf hTs ?_)
  rw [if_pos (by decide)]
  refine wpAny_bind (HT.sliceApplied_gen hs pl pu ?_)
  have hyes : ((((HT.sIx items.size 0 lo : Nat) : Int) == 0 && (1 : Int) == 1 && (HT.sIx items.size items.size hi - HT.sIx items.size 0 lo) == items.size) = true) := by
    rw [hw.1, hw.2]
    simp
  show wpAny _ _ (if (((HT.sIx items.size 0 lo : Nat) : Int) == 0 && (1 : Int) == 1 && (HT.sIx items.size items.size hi - HT.sIx items.size 0 lo) == items.size) = true then _ else _) _ _ s
  rw [if_pos hyes]
  refine wpAny_bind (m := Builtin.Tuple.tupleIsExact _) ?_
  unfold Builtin.Tuple.tupleIsExact
  refine wpAny_bind (wpAny_typeOf ht.typeIs (wpAny_pure ?_))
  rw [if_pos (by decide)]
  exact wpAny_bind (wpAny_rule (wpAny_pure ⟨_, rfl, wpAny_pure h⟩))
end
def rSlN (K : PySem.W.Frag) : V → Option Int → Option Int → Hp → VK → Prop := fun x lo hi H Q => ∃ a xs, x = .ref a ∧ SqT K H a xs ∧
  ((HT.sIx xs.length 0 lo = 0 ∧ HT.sIx xs.length xs.length hi = xs.length) → cutV xs lo hi = xs → Q (.ref a) H) ∧ ∀ p, H p = none → Q (.ref p) (upd H p (.tup (cutV xs lo hi)))
theorem sl_tupN {X : Cx} : SlR X (rSlN X.K) := by
  intro pins s σ H x v vl vu lo hi sl Q I rx hs pl pu h
  obtain ⟨a, xs, rfl, hx, q1, q2⟩ := h
  by_cases hw : HT.sIx xs.length 0 lo = 0 ∧ HT.sIx xs.length xs.length hi = xs.length
  · cases rx
    obtain ⟨its, r, ht, hz⟩ := I.tuple hx
    have hlen : its.toArray.size = xs.length := by rw [List.size_toArray]; exact r.length.symm
    refine ⟨"tuple", _, PyProof.Rows.slot_tuple_getitem.lookup, ht.typeIs, ?_⟩
    refine getItem_tuple_whole ht hs pl pu (by rw [hlen]; exact hw) ⟨.ref a, H, I, rfl, q1 hw ?_⟩
    unfold cutV
    rw [hw.1, hw.2, List.drop_zero, Nat.sub_zero, List.take_length]
  · exact sl_tup pins s σ H _ v vl vu lo hi sl Q I rx hs pl pu ⟨a, xs, rfl, hx, hw, q2⟩
def rSlS (K : PySem.W.Frag) : V → Option Int → Option Int → Hp → VK → Prop := fun x lo hi H Q => ∃ a xs, x = .ref a ∧ SqT K H a xs ∧ ∀ H' u, Same H H' → SqT K H' u (cutV xs lo hi) → Q (.ref u) H'
theorem sl_tupS {X : Cx} : SlR X (rSlS X.K) := by
  intro pins s σ H x v vl vu lo hi sl Q I rx hs pl pu h
  obtain ⟨a, xs, rfl, hx, q⟩ := h
  exact sl_tupN pins s σ H _ v vl vu lo hi sl Q I rx hs pl pu ⟨a, xs, rfl, hx, fun _ e => q H a (fun _ _ h => h) (by rw [e]; exact hx), fun p np => q _ p (same_new np) (.of upd_same)⟩
end Sg

set_option Elab.async false
set_option linter.all false
set_option maxRecDepth 100000
set_option maxHeartbeats 4000000
namespace Sg
open PySem PySem.Spec PyProof.Rows L2
theorem tup_upd {K : PySem.W.Frag} {H : Hp} {p a : Addr} {xs : List V} {u o : HO} (hp : H p = some u) (hu : ∀ ys, HO.tup ys ≠ u) (hv : ∀ ob ys, HO.frz ob (.tup ys) ≠ u) (h : SqT K H a xs) : SqT K (upd H p o) a xs := by
  rcases h with (h | ⟨ob, h⟩) | h
  · exact .inl (.inl (by rw [upd_ne (ne_of h hp (hu _))]; exact h))
  · exact .inl (.inr ⟨ob, by rw [upd_ne (ne_of h hp (hv _ _))]; exact h⟩)
  · exact .inr h
theorem ixN_nat {n j : Nat} (h : j < n) : ixN n (j : Int) = some j := by
  unfold ixN
  rw [if_pos (by omega), if_pos (by omega), Int.toNat_natCast]
theorem ixN_end {n : Nat} (h : 0 < n) : ixN n (-1) = some (n - 1) := by
  unfold ixN
  rw [if_neg (by decide), if_pos (by omega)]
  congr 1
  omega
theorem mem_set {l : List Int} {i : Nat} {v x : Int} (h : x ∈ l.set i v) : x = v ∨ x ∈ l := by
  rcases List.mem_or_eq_of_mem_set h with z | z
  · exact .inr z
  · exact .inl z
theorem eraseIdx_map {f : Int → V} : ∀ (l : List Int) (j : Nat), (l.map f).eraseIdx j = (l.eraseIdx j).map f
  | [], _ => by simp
  | _ :: _, 0 => by simp
  | a :: r, j + 1 => by
    rw [List.map_cons, List.eraseIdx_cons_succ, List.eraseIdx_cons_succ, List.map_cons, eraseIdx_map r j]
theorem set_at {l : List Int} {i j : Nat} {v x : Int} (h : (l.set i v)[j]? = some x) : x = v ∨ (i ≠ j ∧ l[j]? = some x) := by
  by_cases e : i = j
  · have hm := List.mem_of_getElem? h
    subst e
    rw [List.getElem?_set_self'] at h
    left
    cases hl : l[i]? with
    | none =>
      rw [hl] at h
      exact nomatch h
    | some y =>
      rw [hl] at h
      exact (Option.some.inj h).symm
  · rw [List.getElem?_set_ne e] at h
    exact .inr ⟨e, h⟩
theorem PenAt.new {H : Hp} {p l : Addr} {o : HO} (h : PenAt H p) (n : H l = none) : PenAt (L2.upd H l o) p := h.upd (h.ne n)
theorem cut_to (xs : List V) (d : Nat) : cutV xs none (some (d : Int)) = xs.take d := by
  unfold cutV
  rw [HT.sIx_nat, HT.sIx_none]
  show (xs.drop 0).take (min d xs.length - 0) = _
  rw [List.drop_zero, Nat.sub_zero]
  rcases Nat.le_total d xs.length with h | h
  · rw [Nat.min_eq_left h]
  · rw [Nat.min_eq_right h, List.take_of_length_le h, List.take_of_length_le (Nat.le_refl _)]
theorem cut_one (xs : List V) (d : Nat) : cutV xs (some (d : Int)) (some ((d : Int) + 1)) = (xs.drop d).take 1 := by
  unfold cutV
  rw [HT.sIx_nat, show (d : Int) + 1 = ((d + 1 : Nat) : Int) from rfl, HT.sIx_nat]
  rcases Nat.lt_or_ge d xs.length with h | h
  · rw [Nat.min_eq_left (by omega), Nat.min_eq_left (by omega)]
    congr 1
    omega
  · rw [Nat.min_eq_right (by omega), Nat.min_eq_right (by omega), List.drop_of_length_le (Nat.le_refl _), List.drop_of_length_le h, List.take_nil, List.take_nil]
theorem freeS {H H' : Hp} {t : Addr} (e : Same H H') (n : H' t = none) : H t = none := by
  rcases z : H t with _ | o
  · rfl
  · rw [e _ _ z] at n
    exact nomatch n
theorem cr_sumT {X : Cx} (hc : X.calm = true) : CallR X (.builtin "sum") (fun vs H Q => ∃ (a : Addr) (ns : List Int), vs = [.ref a] ∧ SqT X.K H a (ns.map V.int) ∧ Q (.int ns.sum) H) := by
  intro pins s σ H vs us Q I r h
  obtain ⟨a, ns, rfl, hs, q⟩ := h
  obtain ⟨its, rv, ht, hz⟩ := I.tuple hs
  rw [Vals.ref1 r]
  obtain ⟨xs, e⟩ := rv.ints.allInts.items
  have hn : numsOf (intItems xs).toList = ns := by rw [← e]; exact rv.ints.numsOf
  rw [nums_intItems] at hn
  rw [e] at ht
  refine PySem.W.ktm_sumG (I.ok.hd hc) ht fun h' tk t' hk => ?_
  refine ⟨.int ns.sum, H, I.kept hk, ⟨t', ?_⟩, q⟩
  rw [preSum_eq, List.take_of_length_le (by simp), hn]
theorem rep_flat (n : Nat) (x : Int) : (List.replicate n [V.int x]).flatten = (List.replicate n x).map V.int := by
  rw [List.map_replicate]
  induction n with
  | zero => rfl
  | succ n ih => rw [List.replicate_succ, List.flatten_cons, ih, List.replicate_succ]; rfl
/-- a tuple is no pen -/
theorem PenAt.tupNe {H : Hp} {p u : Addr} {zs : List V} (h : PenAt H p) (hu : H u = some (.tup zs)) : u ≠ p := fun z => by
  subst z
  obtain ⟨_, _, _, e, _⟩ := h
  rw [hu] at e
  exact nomatch e
end Sg

set_option Elab.async false
set_option linter.all false
set_option maxRecDepth 100000
set_option maxHeartbeats 4000000
namespace Sg
open PySem PySem.Spec PyProof.Rows L2
/-! ## how many different tuples of ints a list has -/
theorem nodup_len_le {α : Type} [DecidableEq α] : ∀ (l D : List α), l.Nodup → (∀ x ∈ l, x ∈ D) → l.length ≤ D.length
  | [], _, _, _ => Nat.zero_le _
  | x :: r, D, h, s => by
    obtain ⟨h1, h2⟩ := List.nodup_cons.mp h
    have hx := s x List.mem_cons_self
    have := nodup_len_le r (D.erase x) h2 fun y hy => (List.mem_erase_of_ne (fun e => h1 (by rw [← e]; exact hy))).mpr (s y (List.mem_cons_of_mem _ hy))
    rw [List.length_erase_of_mem hx] at this
    have := List.length_pos_of_mem hx
    rw [List.length_cons]
    omega
theorem shorter {α : Type} [DecidableEq α] : ∀ (l : List α), ¬ l.Nodup → ∃ m : List α, m.length < l.length ∧ ∀ x ∈ l, x ∈ m
  | [], h => absurd List.nodup_nil h
  | x :: r, h => by
    by_cases hx : x ∈ r
    · refine ⟨r, Nat.lt_succ_self _, fun y hy => ?_⟩
      rcases List.mem_cons.mp hy with rfl | hy
      · exact hx
      · exact hy
    · obtain ⟨m, h1, h2⟩ := shorter r fun z => h (List.nodup_cons.mpr ⟨hx, z⟩)
      refine ⟨x :: m, Nat.succ_lt_succ h1, fun y hy => ?_⟩
      rcases List.mem_cons.mp hy with rfl | hy
      · exact List.mem_cons_self
      · exact List.mem_cons_of_mem _ (h2 y hy)
theorem met_nodup {α : Type} [DecidableEq α] {M V : List α} (h : M.Nodup) (h1 : ∀ x ∈ M, x ∈ V) (h2 : ∀ x ∈ V, x ∈ M) : M.length = V.length ↔ V.Nodup := by
  constructor
  · intro e
    by_cases z : V.Nodup
    · exact z
    · obtain ⟨m, l1, l2⟩ := shorter V z
      have := nodup_len_le M m h fun x hx => l2 x (h1 x hx)
      omega
  · intro z
    exact Nat.le_antisymm (nodup_len_le M V h h1) (nodup_len_le V M z h2)
def tLenSetT (K : PySem.W.Frag) (ta : TE) : TE := fun σ H Q => ta σ H fun x H1 => ∃ (l : Addr) (ks : List (Addr × List Int)), x = .ref l ∧ SqL K H1 l (ks.map fun p => V.ref p.1) ∧ (∀ p ∈ ks, SqT K H1 p.1 (p.2.map V.int)) ∧ ks.length < 64 ∧
  ∀ n : Nat, (n = ks.length ↔ (ks.map (·.2)).Nodup) → Q (.int n) H1
theorem pe_lenSetT {X : Cx} {K : PySem.W.Frag} {a : Expr} {ta : TE} {p p2 q pos : Pos} (hK : X.K = K) (hu : X.A.units + 3 < cLine) (g1 : Gl X "len") (m1 : X.mg "len" = none) (g2 : Gl X "set") (m2 : X.mg "set" = none) (ha : PE X a ta) (hc : X.calm = true := by rfl)
    (na : starEach [a] X.env = (false, eval a X.env) :: starEach [] X.env := by rfl) : PE X (.Call (.Name "len" p) [.Call (.Name "set" p2) [a] [] q] [] pos) (tLenSetT K ta) := by
  subst hK
  constructor
  intro pins s σ H Q I h
  refine Call_ ?_
  apply ld_blt I g1 m1 boot_len
  apply callWith_builtin1 _ rfl rfl
  apply args_cons _ rfl
  refine Call_ ?_
  apply ld_blt I g2 m2 boot_set
  apply callWith_type1 _ na rfl
  apply args_cons _ na
  refine thn (ha.run pins s σ H _ I h) ?_
  rintro v s1 ⟨x, H1, I1, r1, l, ks, rfl, hq, hk, hl, q1⟩
  cases r1
  apply args_nil
  obtain ⟨its, rv, pl, hz⟩ := I1.list hq
  refine call_set_tups (P := X.prog) (w := X.w) ks (I1.ok.hd hc) pl.isList (by simpa using refs_of_vals rv) (fun p hp => I1.isT (hk p hp)) hl hu fun h' tk L es ep t R g k => ?_
  apply args_nil
  have I2 : Inv X pins σ H1 { s1 with heap := h', toks := tk } := I1.kept k
  obtain ⟨o, ho, hex, hd⟩ := R.ob
  have sz := SetTR.size (s := { s1 with heap := h', toks := tk }) R
  refine call_len_set ho hex hd (SetTR.fits (s := { s1 with heap := h', toks := tk }) R) (by rw [sz]; have := R.few; omega) ⟨.int (L.length : Nat), H1, I2.tok _, ⟨_, by rw [sz]⟩, q1 L.length ?_⟩
  have mn := met_nodup (M := L.map (·.2)) (V := ks.map (·.2)) R.nd (fun x hx => ?_) (fun x hx => ?_)
  · rw [List.length_map, List.length_map] at mn
    exact mn
  · obtain ⟨p, hp, rfl⟩ := List.mem_map.mp hx
    exact List.mem_map.mpr ⟨p, List.mem_of_mem_take (g.sub p hp), rfl⟩
  · obtain ⟨p, hp, rfl⟩ := List.mem_map.mp hx
    exact g.all p (by rw [List.take_length]; exact hp)
end Sg

set_option Elab.async false
set_option linter.all false
set_option maxRecDepth 100000
set_option maxHeartbeats 4000000
namespace Sg
open PySem PySem.Spec PyProof.Rows L2 StX
/-! ## data compared -/
theorem eqv_ints : ∀ (xs ys : List Int), PyData.eqvAll (iD xs) (iD ys) = decide (xs = ys)
  | [], [] => by simp [PyData.eqvAll]
  | [], _ :: _ => by simp [PyData.eqvAll]
  | _ :: _, [] => by simp [PyData.eqvAll]
  | x :: xs, y :: ys => by
    show PyData.eqvAll (.int x :: iD xs) (.int y :: iD ys) = _
    rw [PyData.eqvAll, eqv_ints xs ys, PyData.eqv]
    by_cases h : x = y
    · subst h; simp
    · simp [h]
theorem eqv_tD (xs ys : List Int) : PyData.eqv (tD xs) (tD ys) = decide (xs = ys) := by
  show PyData.eqv (.tuple (iD xs)) (.tuple (iD ys)) = _
  rw [PyData.eqv, eqv_ints]
theorem eqv_tDs : ∀ (xs ys : List (List Int)), PyData.eqvAll (tDs xs) (tDs ys) = decide (xs = ys)
  | [], [] => by simp [PyData.eqvAll]
  | [], _ :: _ => by simp [PyData.eqvAll]
  | _ :: _, [] => by simp [PyData.eqvAll]
  | x :: xs, y :: ys => by
    show PyData.eqvAll (tD x :: tDs xs) (tD y :: tDs ys) = _
    rw [PyData.eqvAll, eqv_tDs xs ys, eqv_tD]
    by_cases h : x = y
    · subst h; simp
    · simp [h]
theorem lay_iD : ∀ (xs : List Int), PyData.canLayAll0 (iD xs) = true
  | [] => by simp [PyData.canLayAll0]
  | x :: r => by
    show PyData.canLayAll0 (.int x :: iD r) = true
    rw [PyData.canLayAll0, lay_iD r, PyData.canLay0]; rfl
theorem dep_iD : ∀ (xs : List Int), PyData.depthAll (iD xs) = 0
  | [] => by simp [PyData.depthAll]
  | x :: r => by
    show PyData.depthAll (.int x :: iD r) = 0
    rw [PyData.depthAll, dep_iD r, PyData.depth]; rfl
theorem shaped_tD (xs : List Int) : SeqAt.shaped (tD xs) = true := by
  unfold SeqAt.shaped
  have a : (tD xs).canLay0 = true := by show PyData.canLay0 (.tuple (iD xs)) = true; rw [PyData.canLay0, lay_iD]
  have b : (tD xs).depth ≤ 64 := by show PyData.depth (.tuple (iD xs)) ≤ 64; rw [PyData.depth, dep_iD]; decide
  rw [a, decide_eq_true b]; rfl
theorem lay_tDs : ∀ (xs : List (List Int)), PyData.canLayAll0 (tDs xs) = true
  | [] => by simp [PyData.canLayAll0]
  | x :: r => by
    show PyData.canLayAll0 (.tuple (iD x) :: tDs r) = true
    rw [PyData.canLayAll0, lay_tDs r, PyData.canLay0, lay_iD]; rfl
theorem dep_tDs : ∀ (xs : List (List Int)), PyData.depthAll (tDs xs) ≤ 1
  | [] => by simp [PyData.depthAll]
  | x :: r => by
    show PyData.depthAll (.tuple (iD x) :: tDs r) ≤ 1
    rw [PyData.depthAll, PyData.depth, dep_iD]
    exact Nat.max_le.mpr ⟨Nat.le_refl _, dep_tDs r⟩
theorem shaped_tDs (xs : List (List Int)) : SeqAt.shaped (.tuple (tDs xs)) = true := by
  unfold SeqAt.shaped
  have a : (PyData.tuple (tDs xs)).canLay0 = true := by rw [PyData.canLay0, lay_tDs]
  have b : (PyData.tuple (tDs xs)).depth ≤ 64 := by rw [PyData.depth]; have := dep_tDs xs; omega
  rw [a, decide_eq_true b]; rfl
end Sg
namespace Sg
open PySem PySem.Spec PyProof.Rows L2 StX
/-- a call of a def by names alone, in their order -/
def kwI {α : Type} : List α → List α → List α
  | [], ws => ws
  | _ :: _, _ => []
theorem kwI_rel {vs : List V} {us : List Value} {zs : List V} {ws : List Value} (r : Vals vs us) (rz : Vals zs ws) : Vals (kwI vs zs) (kwI us ws) := by
  cases r with
  | nil => exact rz
  | cons a r1 => exact .nil
/-- .. two names, the second one first -/
def kwG {α : Type} : List α → List α → List α
  | [], [a, b] => [b, a]
  | _, _ => []
theorem kw_rel {vs : List V} {us : List Value} {zs : List V} {ws : List Value} (r : Vals vs us) (rz : Vals zs ws) : Vals (kwG vs zs) (kwG us ws) := by
  cases r with
  | nil =>
    cases rz with
    | nil => exact .nil
    | cons a r1 =>
      cases r1 with
      | nil => exact .nil
      | cons b r2 =>
        cases r2 with
        | nil => exact .cons b (.cons a .nil)
        | cons c r3 => exact .nil
  | cons a r1 => exact .nil
section
variable {X : Cx} {CX : CXT} {k : Nat} {f : Addr} {fd : FuncData} {ps ks : List Str} {sp : Sp} {E : XK} {x : Str} {p pos : Pos} {kws : List Keyword} {tk : TA} {g : List Value → List Value → List Value} {gV : List V → List V → List V}
theorem pe_callK0 (F : FnOk X.prog X.w X.K X.mg X.base CX k f fd ps sp) (hr : Room k X.A) (hg : Gl X x) (hm : X.mg x = some (.ref f)) (hk : PySem.W.keepIn X.K (.ref f) = true) (hb : KBinds X.K fd ps ks g gV) (hx : Passes CX X E) (hkw : PK X kws tk)
    (ha : (backToKw pos (keywordEach kws X.env)).all (·.1.isSome) = true := by rfl) (hs : (backToKw pos (keywordEach kws X.env)).filterMap (·.1) = ks := by rfl) (hd : (x == ("__debug__" : Str)) = false := by decide)
    (hp : ((backTo pos (starEach [] X.env)).any (·.1) || (backToKw pos (keywordEach kws X.env)).any (·.1.isNone)) = false := by rfl) : PE X (.Call (.Name x p) [] kws pos) (tCallK sp gV E tNil tk) := by
  refine ⟨fun pins s σ H Q I h => wpAny_Call_Name_kw (ld_glob I hg hm ?_ hd)⟩
  refine PySem.W.callWith_KW0 (h₀ := X.base) I.ok.mod.kin hk ha ?_ hp
  refine thn (hkw.run pos pins s σ H _ I h) fun ws s2 ⟨zs, H2, I2, rz, q2⟩ => ⟨I2.kIn, ?_⟩
  rw [hs]
  exact run_fnk (us := []) (vs := []) F hr hb hx I2 .nil rz q2
end
end Sg

set_option Elab.async false
set_option linter.all false
set_option maxRecDepth 100000
set_option maxHeartbeats 4000000
namespace Sg
open PySem PySem.Spec PyProof.Rows L2
/-! ## set(list of ints), and sorted(..) of it -/
section
variable {P : Program} {w : World} {A : Around} {E : Value → Shared → Prop} {s : Shared}
/-- a set just made -/
abbrev noneIn (w : World) : Obj := ⟨.type "set", none, .set #[] 0 (.fresh 0 0 (!w.params.followText "set-order")), #[]⟩
/-- what is there once the list has been gone through -/
def Filled (w : World) (s : Shared) (ns : List Int) (s2 : Shared) : Prop :=
  ∃ (g : Heap) (u m : Nat), s2 = { s with heap := g, toks := u } ∧ m ≤ ns.length ∧ SetR w g s.heap.objs.size (fun j => decide (j ∈ ns)) m ∧ ∀ b o, s.heap.get? b = some o → g.get? b = some o
theorem fill_list {l : Addr} {its : Array Value} {ns : List Int} (hh : A.handled = none) (hl : s.heap.IsList l its) (hi : IntsAre its.toList ns) (hb : ns.length + 1 < scanBound) :
    wpAny (model P w) A (Builtin.«set.__init__» ⟨[.ref s.heap.objs.size, .ref l], []⟩) (fun r s2 => r = Fin.done (.ret .none) ∧ Filled w s ns s2) E { s with heap := s.heap.push (noneIn w) } := by
  have size : its.size = ns.length := by rw [← Array.length_toList]; exact hi.length
  obtain ⟨⟨c0, d0, q0, z0⟩, ho, e1, m0, e2⟩ := hl
  cases e1
  cases e2
  have at1 := Heap.get?_push_of_some (noneIn w) ho
  have atS : (s.heap.push (noneIn w)).get? s.heap.objs.size = some (noneIn w) := Heap.get?_push_size _ rfl
  have more : l < s.heap.objs.size := Heap.lt_size ho
  have k1 := F.sub_list_set
  have k2 := F.sub_list_frozenset
  have k3 : (Value.type "list" == Value.type "dict") = false := by decide
  have isL : (s.heap.push (noneIn w)).IsList l its := ⟨_, at1, rfl, m0, rfl⟩
  have long : (s.heap.push (noneIn w)).objs.size = s.heap.objs.size + 1 := Heap.size_push ..
  unfold Builtin.«set.__init__» noKeywords Builtin.Frozenset.updateFrom
  generalize gI : pyIter = PI
  wp_walk
  subst gI
  refine wpAny_pyIter_list isL (wpAny_bind (wpAny_runValue ?_))
  have apart : l ≠ (s.heap.push (noneIn w)).objs.size := by
    rw [long]
    exact fun z => Nat.ne_of_lt (Nat.lt_succ_of_lt more) z
  have off : s.heap.objs.size ∉ [(s.heap.push (noneIn w)).objs.size, l] := by
    rw [long]
    intro z
    rcases List.mem_cons.mp z with z | z
    · exact Nat.ne_of_lt (Nat.lt_succ_self _) z
    · exact Nat.ne_of_gt more (List.mem_singleton.mp z)
  have each : ∀ (i : Nat) (v : Value), its[i]? = some v → ∃ k t, ns[i]? = some k ∧ v = .int k t := fun i v hv => by
    have lt : i < ns.length := size ▸ (Array.getElem?_eq_some_iff.mp hv).1
    obtain ⟨t, e⟩ := hi.int_at i v (by rw [Array.getElem?_toList]; exact hv)
    refine ⟨ns[i], t, List.getElem?_eq_getElem lt, ?_⟩
    rw [e, List.getD_eq_getElem?_getD, List.getElem?_eq_getElem lt]; rfl
  refine set_update_ints ((Walks.list (by simp [hh]) _ l apart its).toS) s.heap.objs.size off ns size hb each its.size 0 _ (Nat.sub_zero _) (Nat.zero_le _)
    ⟨⟨_, Heap.get?_push_size _ rfl, rfl, rfl⟩, isL.push _⟩ ⟨0, Nat.le_refl 0, setR_new_at (Heap.get?_push_of_some _ atS)⟩ ?_
  rintro ⟨g, g2, d2, u2, o2⟩ m mv hm R
  obtain rfl : g2 = s.gens := mv.gens
  obtain rfl : d2 = s.drawn := mv.drawn
  obtain rfl : o2 = s.os := mv.os
  refine wpAny_pure (wpAny_pure ⟨rfl, g, u2, m, rfl, size ▸ hm, R, fun b o e => ?_⟩)
  have lt := Heap.lt_size e
  refine mv.heap b o (fun z => ?_) (Heap.get?_push_of_some _ (Heap.get?_push_of_some _ e))
  rcases List.mem_cons.mp z with z | z
  · exact Nat.ne_of_lt lt z
  · have y := List.mem_singleton.mp z
    rw [long] at y
    exact Nat.ne_of_lt (Nat.lt_succ_of_lt lt) y
theorem call_set_ints {l : Addr} {its : Array Value} {ns : List Int} {Q : Value → Shared → Prop} (hh : A.handled = none) (hl : s.heap.IsList l its) (hi : IntsAre its.toList ns) (hb : ns.length + 1 < scanBound)
    (q : ∀ s2, Filled w s ns s2 → Q (.ref s.heap.objs.size) s2) : wpAny (model P w) A (call (.type "set") [.ref l]) Q E s := by
  obtain ⟨top, rest, line⟩ := F.called_set.mro
  have c1 := F.called_set.made
  have c2 := F.called_set.sub
  have c3 := F.called_set.notType
  have c4 := F.called_set.canCreate
  have c5 := F.typeCall_set_1 (.ref l)
  have c6 := F.called_set.init.lookup
  refine wpAny_call (codeAny_of_tree (wpAny_pure ⟨Code.quiet_builtin _ (by decide +kernel), codeAny_builtin F.entry_type_call ?_⟩))
  rw [Around.under_plain (weight_type_call_type "set" [.ref l] []) rfl]
  repeat any_goals first | assumption | wp_step
  have made : (s.heap.push (noneIn w)).get? s.heap.objs.size = some (noneIn w) := Heap.get?_push_size _ rfl
  refine codeAny_mono (code_set_led1 (.ref l) (E := E) (Q₁ := fun v s1 => v = .ref s.heap.objs.size ∧ s1 = { s with heap := s.heap.push (noneIn w) }) ⟨rfl, rfl⟩) fun r s1 hr => ?_
  rcases r with e | fl
  · exact hr
  cases fl
  case ret v =>
    obtain ⟨rfl, rfl⟩ := hr
    have c7 := F.called_set.init.bind (.ref s.heap.objs.size)
    have isS : Shared.TypeIs { s with heap := s.heap.push (noneIn w) } (.ref s.heap.objs.size) "set" := ⟨_, made, rfl⟩
    repeat any_goals first | assumption | wp_step
    refine codeAny_mono (codeAny_call_builtin (R := wants (fun r s2 => r = .none ∧ Filled w s ns s2) E) F.called_set.init.plain F.entry_set_init (check_set_init_1 isS ?_)) fun r s2 hr => ?_
    · refine thn (fill_list (by simp [hh]) hl hi hb) ?_
      rintro v s3 ⟨rfl, f⟩
      exact ⟨rfl, f⟩
    rcases r with e | fl
    · exact hr
    cases fl
    case ret v =>
      obtain ⟨rfl, f⟩ := hr
      repeat any_goals first | assumption | wp_step
      exact q _ f
    all_goals exact hr.elim
  all_goals exact hr.elim
end
section
variable {X : Cx}
/-- no more members than any list that has them all -/
theorem setR_most {w : World} {h : Heap} {a : Addr} {S : Int → Bool} {n : Nat} (R : SetR w h a S n) (D : List Int) (hD : ∀ k, S k = true → k ∈ D) : n ≤ D.length := by
  obtain ⟨o, es, ep, t, _, _, _, _, nd, mem, _, _, rfl, _⟩ := R
  have := nodup_len_le (es.toList.map keyOf) D nd fun k hk => hD k ((mem k).mpr hk)
  rwa [List.length_map, Array.length_toList] at this
def rSetL (K : PySem.W.Frag) (w : World) : List V → Hp → VK → Prop := fun xs H Q => ∃ (l : Addr) (ns : List Int), xs = [V.ref l] ∧ SqL K H l (ns.map V.int) ∧ ns.length ≤ 4000 ∧
  ∀ (p : Addr) (n : Nat), H p = none → (∀ D : List Int, (∀ k ∈ ns, k ∈ D) → n ≤ D.length) → Q (.ref p) (upd H p (SetO w p (fun j => decide (j ∈ ns)) n))
theorem cr_setL (hc : X.calm = true) : CallR X (.type "set") (rSetL X.K X.w) := by
  intro pins s σ H xs us Q I r h
  obtain ⟨l, ns, rfl, hl, lt, q⟩ := h
  rw [Vals.ref1 r]
  obtain ⟨its, rv, pl, hz⟩ := I.list hl
  refine call_set_ints (P := X.prog) (w := X.w) (ns := ns) (I.ok.hd hc) pl.isList (by simpa using ints_of_vals rv) (by unfold scanBound; omega) ?_
  rintro _ ⟨g, u, m, rfl, hm, R, k⟩
  exact ⟨.ref _, _, I.laid (t' := u) k (Nat.le_refl _) (setO_new R), rfl, q _ m (I.hok.fresh (Nat.le_refl _)) fun D hD => setR_most R D fun j hj => hD j (of_decide_eq_true hj)⟩
end
end Sg

set_option Elab.async false
set_option linter.all false
set_option maxRecDepth 100000
set_option maxHeartbeats 4000000
namespace Sg
open PySem PySem.Spec PyProof.Rows L2
/-! ## keys that are tuples of tuples -/
mutual
/-- the value v is the key k: an int, or a tuple of keys -/
inductive KeyAt (H : Hp) : NestedKey → V → Prop
  | int (i : Int) : KeyAt H (.num i) (.int i)
  | tup {a : Addr} {us : List V} {ks : List NestedKey} : H a = some (.tup us) → KeyAll H ks us → KeyAt H (.tup ks) (.ref a)
inductive KeyAll (H : Hp) : List NestedKey → List V → Prop
  | no : KeyAll H [] []
  | on {k : NestedKey} {v : V} {ks : List NestedKey} {us : List V} : KeyAt H k v → KeyAll H ks us → KeyAll H (k :: ks) (v :: us)
end
mutual
theorem KeyAt.keep {H H' : Hp} (e : ∀ a us, H a = some (.tup us) → H' a = some (.tup us)) : ∀ {k : NestedKey} {v : V}, KeyAt H k v → KeyAt H' k v
  | _, _, .int i => .int i
  | _, _, .tup h r => .tup (e _ _ h) (KeyAll.keep e r)
theorem KeyAll.keep {H H' : Hp} (e : ∀ a us, H a = some (.tup us) → H' a = some (.tup us)) : ∀ {ks : List NestedKey} {us : List V}, KeyAll H ks us → KeyAll H' ks us
  | _, _, .no => .no
  | _, _, .on a r => .on (KeyAt.keep e a) (KeyAll.keep e r)
end
mutual
theorem KeyAt.is {P : Program} {w : World} {H : Hp} {h : Heap} (ok : HOk P w H h) : ∀ {k : NestedKey} {v : V} {u : Value}, KeyAt H k v → RelV v u → NestedIs h k u
  | _, _, u, .int i, r => by
    obtain ⟨t, rfl⟩ := r
    exact .int i t
  | _, _, u, .tup (a := a) h' q, r => by
    obtain rfl : u = Value.ref a := r
    obtain ⟨_, its, rv, o, h1, h2, n, h3⟩ := (show ObjOk P w H h a (.tup _) from ok a _ h')
    exact .tup h1 h2 h3 (by rw [List.toList_toArray]; exact KeyAll.is ok q rv)
theorem KeyAll.is {P : Program} {w : World} {H : Hp} {h : Heap} (ok : HOk P w H h) : ∀ {ks : List NestedKey} {us : List V} {its : List Value}, KeyAll H ks us → Vals us its → NestedAll h ks its
  | _, _, _, .no, .nil => .nil
  | _, _, _, .on a r, .cons b q => .cons (KeyAt.is ok a b) (KeyAll.is ok r q)
end
/-! ## a dict with such keys: its rows (key, where the key stands, value) -/
abbrev Row := NestedKey × Addr × V
def DN (P : Program) (w : World) (a : Addr) (rs : List Row) : HO := .ext fun h => rs.length ≤ sizeLine ∧ (a == sysModules) = false ∧
  ∃ ys : List (NestedKey × Addr × Value), Paired (fun r y => r.1 = y.1 ∧ r.2.1 = y.2.1 ∧ RelV r.2.2 y.2.2) rs ys ∧
    ∃ o es ep, h.get? a = some o ∧ o.ExactDict ∧ o.data = .dict es ep ∧ es.toList = ys.map (entryOfKey (nestedKind P w)) ∧ (ys.map (·.1)).Nodup
def KeysIn (H : Hp) (rs : List Row) : Prop := ∀ r ∈ rs, KeyAt H r.1 (.ref r.2.1) ∧ r.1.depth ≤ 8
theorem KeysIn.keep {H H' : Hp} {rs : List Row} (h : KeysIn H rs) (e : ∀ a us, H a = some (.tup us) → H' a = some (.tup us)) : KeysIn H' rs := fun r hr => ⟨(h r hr).1.keep e, (h r hr).2⟩
def atN (rs : List Row) (k : NestedKey) : Option V := (rs.find? fun r => decide (r.1 = k)).map (·.2.2)
def storeN (rs : List Row) (k : NestedKey) (b : Addr) (v : V) : List Row := if (atN rs k).isSome then rs.map fun r => if r.1 = k then (r.1, r.2.1, v) else r else rs ++ [(k, b, v)]
abbrev RowRel : Row → NestedKey × Addr × Value → Prop := fun r y => r.1 = y.1 ∧ r.2.1 = y.2.1 ∧ RelV r.2.2 y.2.2
theorem atN_rel {rs : List Row} {ys : List (NestedKey × Addr × Value)} (r : Paired RowRel rs ys) (k : NestedKey) : RelO (atN rs k) ((atKey ys k).map (·.2)) := by
  induction r with
  | nil => exact True.intro
  | @cons p q ps qs h t ih =>
    by_cases e : p.1 = k
    · have e' : q.1 = k := h.1.symm.trans e
      have a : atN (p :: ps) k = some p.2.2 := by simp [atN, List.find?_cons, e]
      have b : atKey (q :: qs) k = some q.2 := by simp [atKey, List.find?_cons, e']
      rw [a, b]; exact h.2.2
    · have e' : ¬ q.1 = k := fun z => e (h.1.trans z)
      have a : atN (p :: ps) k = atN ps k := by simp [atN, List.find?_cons, e]
      have b : atKey (q :: qs) k = atKey qs k := by simp [atKey, List.find?_cons, e']
      rw [a, b]; exact ih
theorem storeN_rel {rs : List Row} {ys : List (NestedKey × Addr × Value)} (r : Paired RowRel rs ys) (k : NestedKey) (b : Addr) {v : V} {u : Value} (rv : RelV v u) : Paired RowRel (storeN rs k b v) (storedH ys k b u) := by
  have e : (atN rs k).isSome = (atKey ys k).isSome := by
    rw [(atN_rel r k).isSome_eq, Option.isSome_map]
  unfold storeN storedH
  rw [e]
  by_cases q : (atKey ys k).isSome = true
  · rw [if_pos q, if_pos q]
    clear e q
    induction r with
    | nil => exact .nil
    | @cons p z ps zs h t ih =>
      rw [List.map_cons, List.map_cons]
      refine .cons ?_ ih
      unfold putAt
      by_cases c : p.1 = k
      · rw [if_pos c, if_pos (h.1.symm.trans c)]; exact ⟨h.1, h.2.1, rv⟩
      · rw [if_neg c, if_neg (fun y => c (h.1.trans y))]; exact h
  · rw [if_neg q, if_neg q]
    exact Paired.snoc r ⟨rfl, rfl, rv⟩
theorem storeN_len (rs : List Row) (k : NestedKey) (b : Addr) (v : V) : (storeN rs k b v).length ≤ rs.length + 1 := by
  unfold storeN
  split
  · rw [List.length_map]; omega
  · rw [List.length_append]; exact Nat.le_refl _
theorem storeN_new {rs : List Row} {k : NestedKey} (h : atN rs k = none) (b : Addr) (v : V) : storeN rs k b v = rs ++ [(k, b, v)] := by
  unfold storeN
  rw [h]; rfl
section
variable {P : Program} {w : World} {H : Hp} {h : Heap} {a : Addr} {rs : List Row}
theorem dn_of (ok : HOk P w H h) (e : H a = some (DN P w a rs)) (ks : KeysIn H rs) : rs.length ≤ sizeLine ∧ (a == sysModules) = false ∧ ∃ ys, Paired RowRel rs ys ∧ h.DictOfH (nestedKind P w) a ys := by
  obtain ⟨z, y, ys, r, o, es, ep, h1, h2, h3, h4, h5⟩ := (ok a _ e).1
  refine ⟨z, y, ys, r, o, es, ep, h1, h2, h3, h4, ?_, h5⟩
  have all : ∀ {l : List Row} {m : List (NestedKey × Addr × Value)}, Paired RowRel l m → KeysIn H l → ∀ x ∈ m, (nestedKind P w).is h x.1 x.2.1 := by
    intro l m q
    induction q with
    | nil => intro _ x hx; exact nomatch hx
    | @cons p q ps qs hq t ih =>
      intro hk x hx
      rcases List.mem_cons.mp hx with e | hx
      · subst e
        obtain ⟨k1, k2⟩ := hk p List.mem_cons_self
        have := k1.is ok (u := .ref p.2.1) rfl
        rw [hq.1, hq.2.1] at this
        exact ⟨this, by rw [← hq.1]; exact k2⟩
      · exact ih (fun r hr => hk r (List.mem_cons_of_mem _ hr)) x hx
  exact all r ks
theorem dn_ok {h' : Heap} {H' : Hp} {ys : List (NestedKey × Addr × Value)} (z : rs.length ≤ sizeLine) (hd : (a == sysModules) = false) (r : Paired RowRel rs ys) (dd : h'.DictOfH (nestedKind P w) a ys) : ObjOk P w H' h' a (DN P w a rs) := by
  obtain ⟨o, es, ep, h1, h2, h3, h4, _, h5⟩ := dd
  exact ⟨⟨z, hd, ys, r, o, es, ep, h1, h2, h3, h4, h5⟩, ⟨o, h1⟩, fun g1 g2 ⟨z, hd, ys, r, o, es, ep, q1, q2⟩ k => ⟨z, hd, ys, r, o, es, ep, k o q1, q2⟩⟩
end
section
variable {X : Cx} {pins : List (Addr × Obj)} {σ : L2.St} {H : Hp} {s : Shared} {a b : Addr} {k : NestedKey} {rs : List Row} {v : V} {r : Value} {A : Around} {E : Value → Shared → Prop}
/-- the key at b is looked for in the dict at a -/
structure NAt (P : Program) (w : World) (H : Hp) (a b : Addr) (k : NestedKey) (rs : List Row) : Prop where
  at_ : H a = some (DN P w a rs)
  keys : KeysIn H rs
  key : KeyAt H k (.ref b)
  deep : k.depth ≤ 8
theorem NAt.is {P : Program} {w : World} {h : Heap} (n : NAt P w H a b k rs) (ok : HOk P w H h) : (nestedKind P w).is h k b := ⟨n.key.is ok rfl, n.deep⟩
theorem roomN (hu : A.units + 64 < cLine) (P : Program) (w : World) : (nestedKind P w).room A.in1 := by
  show A.units + 1 + 8 < cLine
  omega
theorem n_get {Q : Value → Shared → Prop} (hu : A.units + 64 < cLine) (I : Inv X pins σ H s) (n : NAt X.prog X.w H a b k rs) (l : atN rs k = some v) (h : ∀ u s', Inv X pins σ H s' → RelV v u → Q u s') : wpAny (model X.prog X.w) A (getItem (.ref a) (.ref b)) Q E s := by
  obtain ⟨_, _, ys, rel, dd⟩ := dn_of I.hok n.at_ n.keys
  obtain ⟨u, hu', ru⟩ := RelO.some_of (v := v) (o := (atKey ys k).map (·.2)) (by rw [← l]; exact atN_rel rel k)
  obtain ⟨p, hp, hp2⟩ := Option.map_eq_some_iff.mp hu'
  refine wpAny_getItem_heap (roomN hu _ _) (n.is I.hok) dd hp ?_
  rw [hp2]
  exact h u _ (I.tok _) ru
theorem n_in {Q : Value → Shared → Prop} (hu : A.units + 64 < cLine) (I : Inv X pins σ H s) (n : NAt X.prog X.w H a b k rs) (h : ∀ s', Inv X pins σ H s' → Q (.bool (atN rs k).isSome) s') : wpAny (model X.prog X.w) A (compareOp .In (.ref b) (.ref a)) Q E s := by
  obtain ⟨_, hd, ys, rel, dd⟩ := dn_of I.hok n.at_ n.keys
  refine wpAny_in_heap (roomN hu _ _) (n.is I.hok) hd dd ?_
  have q := (atN_rel rel k).isSome_eq
  rw [Option.isSome_map] at q
  rw [← q]
  exact h _ (I.tok _)
theorem n_notIn {Q : Value → Shared → Prop} (hu : A.units + 64 < cLine) (I : Inv X pins σ H s) (n : NAt X.prog X.w H a b k rs) (h : ∀ s', Inv X pins σ H s' → Q (.bool (!(atN rs k).isSome)) s') : wpAny (model X.prog X.w) A (compareOp .NotIn (.ref b) (.ref a)) Q E s := by
  obtain ⟨_, hd, ys, rel, dd⟩ := dn_of I.hok n.at_ n.keys
  refine wpAny_notIn_heap (roomN hu _ _) (n.is I.hok) hd dd ?_
  have q := (atN_rel rel k).isSome_eq
  rw [Option.isSome_map] at q
  rw [← q]
  exact h _ (I.tok _)
theorem n_set {Q : Unit → Shared → Prop} (hu : A.units + 64 < cLine) (I : Inv X pins σ H s) (n : NAt X.prog X.w H a b k rs) (hl : rs.length < sizeLine) (rv : RelV v r) (h : ∀ s', Inv X pins σ (upd H a (DN X.prog X.w a (storeN rs k b v))) s' → Q () s') :
    wpAny (model X.prog X.w) A (setItem (.ref a) (.ref b) r) Q E s := by
  obtain ⟨z, hd, ys, rel, dd⟩ := dn_of I.hok n.at_ n.keys
  have hz : ys.length ≤ sizeLine := by rw [← Paired.length rel]; exact z
  refine wpAny_setItem_heap (hsz := hz) (roomN hu _ _) (n.is I.hok) dd fun h' dd' hs => h _ ?_
  have he : ∃ q, h'.get? a = some q := let ⟨q, _, _, hq, _⟩ := dd'; ⟨q, hq⟩
  exact d_write I (by rw [n.at_]; exact True.intro) hs he (dn_ok (by have := storeN_len rs k b v; omega) hd (storeN_rel rel k b rv) dd')
end
/-! ### as rules -/
def tNGet (P : Program) (w : World) (td ty : TE) : TE := fun σ H Q => td σ H fun x H1 => ty σ H1 fun y H2 => ∃ a b k rs v, x = .ref a ∧ y = .ref b ∧ NAt P w H2 a b k rs ∧ atN rs k = some v ∧ Q v H2
def tNNotIn (P : Program) (w : World) (ty td : TE) : TE := fun σ H Q => ty σ H fun y H1 => td σ H1 fun x H2 => ∃ a b k rs, x = .ref a ∧ y = .ref b ∧ NAt P w H2 a b k rs ∧ Q (.bl (!(atN rs k).isSome)) H2
def tNIn (P : Program) (w : World) (ty td : TE) : TE := fun σ H Q => ty σ H fun y H1 => td σ H1 fun x H2 => ∃ a b k rs, x = .ref a ∧ y = .ref b ∧ NAt P w H2 a b k rs ∧ Q (.bl (atN rs k).isSome) H2
def sNPut (P : Program) (w : World) (td ty tv : TE) : TS := fun D σ H => tv σ H fun v H1 => td σ H1 fun x H2 => ty σ H2 fun y H3 => ∃ a b k rs, x = .ref a ∧ y = .ref b ∧ NAt P w H3 a b k rs ∧ rs.length < sizeLine ∧
  D.nx σ (upd H3 a (DN P w a (storeN rs k b v)))
section
variable {X : Cx} {o i e value : Expr} {pos pos' : Pos} {td ty tv : TE}
theorem NAt.typeIs {pins : List (Addr × Obj)} {σ : L2.St} {H : Hp} {s : Shared} {a b : Addr} {k : NestedKey} {rs : List Row} (n : NAt X.prog X.w H a b k rs) (I : Inv X pins σ H s) : s.TypeIs (.ref a) "dict" := by
  obtain ⟨_, _, ys, _, dd⟩ := dn_of I.hok n.at_ n.keys
  exact dd.typeIs
theorem pe_nget (hu : X.A.units + 64 < cLine) (ho : PE X o td) (hi : PE X i ty) (hs : NoSl i) : PE X (.Subscript o i pos) (tNGet X.prog X.w td ty) := by
  refine ⟨fun pins s σ H Q I h => ?_⟩
  refine subD_of PySem.F.slot_dict_getitem.lookup hs (thn (ho.run pins s σ H _ I h) fun u s1 ⟨x, H1, I1, rx, q1⟩ => thn (hi.run pins s1 σ H1 _ I1 q1) fun iv s2 ⟨y, H2, I2, ry, a, b, k, rs, v, ex, ey, n, l, q2⟩ => ?_)
  subst ex ey
  obtain rfl : u = Value.ref a := rx
  obtain rfl : iv = Value.ref b := ry
  exact ⟨n.typeIs I2, n_get hu I2 n l fun u s3 I3 ru => ⟨v, H2, I3, ru, q2⟩⟩
theorem pc_nnotin (hu : X.A.units + 64 < cLine) (hi : PE X i ty) (ho : PE X o td) : PC X .NotIn i o (tNNotIn X.prog X.w ty td) := by
  refine ⟨fun pins s σ H Q I h => ?_⟩
  refine thn (hi.run pins s σ H _ I h) fun iv s1 ⟨y, H1, I1, ry, q1⟩ => thn (ho.run pins s1 σ H1 _ I1 q1) fun u s2 ⟨x, H2, I2, rx, a, b, k, rs, ex, ey, n, q2⟩ => ?_
  subst ex ey
  obtain rfl : u = Value.ref a := rx
  obtain rfl : iv = Value.ref b := ry
  exact n_notIn hu I2 n fun s3 I3 => ⟨.bl _, H2, I3, rfl, q2⟩
theorem pc_nin (hu : X.A.units + 64 < cLine) (hi : PE X i ty) (ho : PE X o td) : PC X .In i o (tNIn X.prog X.w ty td) := by
  refine ⟨fun pins s σ H Q I h => ?_⟩
  refine thn (hi.run pins s σ H _ I h) fun iv s1 ⟨y, H1, I1, ry, q1⟩ => thn (ho.run pins s1 σ H1 _ I1 q1) fun u s2 ⟨x, H2, I2, rx, a, b, k, rs, ex, ey, n, q2⟩ => ?_
  subst ex ey
  obtain rfl : u = Value.ref a := rx
  obtain rfl : iv = Value.ref b := ry
  exact n_in hu I2 n fun s3 I3 => ⟨.bl _, H2, I3, rfl, q2⟩
theorem ps_nput (hu : X.A.units + 64 < cLine) (ho : PE X o td) (hi : PE X i ty) (hv : PE X value tv) (hs : swapsWith value (some (.Subscript o i pos')) pos.line X.env = pure false) :
    PS X (.Assign [.Subscript o i pos'] value pos) (sNPut X.prog X.w td ty tv) := by
  refine ⟨fun pins s σ H D I h => ?_⟩
  refine wpAny_Assign_Subscript (thn (hv.run pins s σ H _ I h) fun r s1 ⟨v, H1, I1, rv, q1⟩ => thn (ho.run pins s1 σ H1 _ I1 q1) fun u s2 ⟨x, H2, I2, rx, q2⟩ => thn (hi.run pins s2 σ H2 _ I2 q2) fun iv s3 ⟨y, H3, I3, ry, a, b, k, rs, ex, ey, n, hl, q3⟩ => ?_) hs
  subst ex ey
  obtain rfl : u = Value.ref a := rx
  obtain rfl : iv = Value.ref b := ry
  exact n_set hu I3 n hl rv fun s4 I4 => ⟨σ, _, I4, q3⟩
/-- {} -/
def tNNew (P : Program) (w : World) : TE := fun _ H Q => ∀ p, H p = none → Q (.ref p) (upd H p (DN P w p []))
theorem dn_empty {P : Program} {w : World} {H : Hp} (h : Heap) (hb : sysModules < h.objs.size) : ObjOk P w H (h.push { cls := .type "dict", data := .dict #[] }) h.objs.size (DN P w h.objs.size []) :=
  dn_ok (Nat.zero_le _) (beq_eq_false_iff_ne.mpr (Nat.ne_of_gt hb)) .nil (Heap.DictOfH.new h)
end
section
variable {X : Cx} {pos : Pos}
theorem pe_nnew : PE X (.Dict [] [] pos) (tNNew X.prog X.w) := ⟨fun pins s σ H Q I h =>
  wpAny_Dict_empty ⟨.ref s.heap.objs.size, _, I.laid (a := s.heap.objs.size) (o := DN X.prog X.w s.heap.objs.size []) (t' := s.toks) (fun _ _ q => Heap.get?_push_of_some _ q) (Nat.le_refl _) (dn_empty s.heap I.big), rfl, h _ (I.hok.fresh (Nat.le_refl _))⟩⟩
/-- list(d): where its keys stand -/
def rListN (P : Program) (w : World) : List V → Hp → VK → Prop := fun xs H Q => ∃ (a : Addr) (rs : List Row), xs = [.ref a] ∧ H a = some (DN P w a rs) ∧ KeysIn H rs ∧ ∀ p, H p = none → Q (.ref p) (upd H p (.lst (rs.map fun r => V.ref r.2.1)))
theorem cr_listN (hc : X.calm = true) : CallR X (.type "list") (rListN X.prog X.w) := by
  intro pins s σ H xs us Q I r q
  obtain ⟨a, rs, rfl, ha, hk, q⟩ := q
  rw [Vals.ref1 r]
  obtain ⟨z, hd, ys, rel, dd⟩ := dn_of I.hok ha hk
  obtain ⟨es, ep, hraw, hes⟩ := (show ∃ es ep, s.heap.DictRaw a es ep ∧ es.toList = ys.map (entryOfKey (nestedKind X.prog X.w)) from by
    obtain ⟨o, es, ep, h1, h2, h3, h4, _, _⟩ := dd
    exact ⟨es, ep, ⟨o, h1, h2, h3⟩, h4⟩)
  have hsz : es.size = ys.length := size_of_entries hes
  have hlen := Paired.length rel
  refine PySem.W.kdl_call (KdlSrc.rawDict (es := es) (ep := ep) hd) (I.ok.hd hc) hraw (by rw [hsz, ← hlen]; exact z) fun h' tk acc c' hk2 hD hacc => ?_
  have hv : Vals (rs.map fun r => V.ref r.2.1) acc.toList := by
    have key : ∀ (j : Nat) (u : Value), acc.toList[j]? = some u → ∃ y, ys[j]? = some y ∧ u = .ref y.2.1 := fun j u e => by
      obtain ⟨hi, e2⟩ := hacc.2 j u (by rw [← Array.getElem?_toList]; exact e)
      have h3 := entry_at hes j
      rw [Array.getElem?_eq_getElem hi] at h3
      obtain ⟨y, hy, h4⟩ := Option.map_eq_some_iff.mp h3.symm
      refine ⟨y, hy, ?_⟩
      rw [e2, ← h4]; rfl
    have hl : acc.toList.length = rs.length := by rw [Array.length_toList, hacc.1, hsz, hlen]
    clear hraw hes dd hacc hD hk2 hk ha q
    have gen : ∀ (rs : List Row) (ys : List (NestedKey × Addr × Value)) (us : List Value), Paired RowRel rs ys → us.length = rs.length → (∀ (j : Nat) (u : Value), us[j]? = some u → ∃ y, ys[j]? = some y ∧ u = .ref y.2.1) → Vals (rs.map fun r => V.ref r.2.1) us := by
      intro rs ys us r
      induction r generalizing us with
      | nil =>
        intro hl _
        rw [List.eq_nil_of_length_eq_zero hl]
        exact .nil
      | @cons p q ps qs hpq t ih =>
        intro hl hk
        cases us with
        | nil => exact nomatch hl
        | cons u us =>
          obtain ⟨y, hy, e⟩ := hk 0 u rfl
          obtain rfl : q = y := Option.some.inj hy
          refine .cons ?_ (ih us (Nat.succ.inj hl) fun j u' e' => hk (j + 1) u' e')
          rw [e, ← hpq.2.1]; rfl
    exact gen rs ys _ rel hl key
  exact ⟨.ref s.heap.objs.size, _, I.laid (t' := tk) hk2 (Nat.le_refl _)
    (show ObjOk X.prog X.w _ _ _ (.lst (rs.map fun r => V.ref r.2.1)) from ⟨by rw [List.length_map]; exact z, acc.toList, c', hv, by rw [Array.toArray_toList]; exact hD⟩), rfl, q _ (I.hok.fresh (Nat.le_refl _))⟩
/-! ## sorted(list of data that are alike) -/
theorem each_vals {pins : List (Addr × Obj)} {σ : L2.St} {H : Hp} {s : Shared} (I : Inv X pins σ H s) : ∀ {ys : List V} {ds : List PyData} {its : List Value}, DpAll X.K H ys ds → Vals ys its →
    PySem.W.EachIs (fun u (b : V × PyData) => RelV b.1 u) its (ys.zip ds) ∧ PySem.W.EachIs (fun u (b : V × PyData) => ∃ as, Reads s.heap u b.2 as) its (ys.zip ds)
  | _, _, _, .nil, .nil => ⟨.nil, .nil⟩
  | _, _, _, .cons a r, .cons b q => by
    obtain ⟨h1, h2⟩ := each_vals I r q
    exact ⟨.cons b h1, .cons (Dp.reads I _ _ _ a b) h2⟩
theorem vals_each {its : List Value} {bs : List (V × PyData)} (h : PySem.W.EachIs (fun u (b : V × PyData) => RelV b.1 u) its bs) : Vals (bs.map (·.1)) its := by
  induction h with
  | nil => exact .nil
  | cons a r ih => exact .cons a ih
def rSortedD (K : PySem.W.Frag) : List V → Hp → VK → Prop := fun xs H Q => ∃ (a : Addr) (ys : List V) (ds : List PyData), xs = [.ref a] ∧ SqL K H a ys ∧ DpAll K H ys ds ∧ PySem.W.AllAlike ds ∧ PySem.W.Sortable ds ∧ (∀ d ∈ ds, d.depth ≤ 40) ∧
  ∀ (bs : List (V × PyData)) (p : Addr), bs = (ys.zip ds).mergeSort (PySem.W.dataLe false (·.2)) → H p = none → Q (.ref p) (upd H p (.lst (bs.map (·.1))))
theorem dpAll_len {K : PySem.W.Frag} {H : Hp} : ∀ {ys : List V} {ds : List PyData}, DpAll K H ys ds → ys.length = ds.length
  | _, _, .nil => rfl
  | _, _, .cons _ r => congrArg (· + 1) (dpAll_len r)
theorem zip_snd {α β : Type} : ∀ {xs : List α} {ys : List β}, xs.length = ys.length → (xs.zip ys).map (·.2) = ys
  | [], [], _ => rfl
  | x :: xs, y :: ys, h => by
    show y :: (xs.zip ys).map (·.2) = y :: ys
    rw [zip_snd (Nat.succ.inj h)]
theorem zip_fst {α β : Type} : ∀ {xs : List α} {ys : List β}, xs.length = ys.length → (xs.zip ys).map (·.1) = xs
  | [], [], _ => rfl
  | x :: xs, y :: ys, h => by
    show x :: (xs.zip ys).map (·.1) = x :: xs
    rw [zip_fst (Nat.succ.inj h)]
theorem cr_sortedD {j : Nat} (hr : Room j X.A) : CallR X (.builtin "sorted") (rSortedD X.K) := by
  intro pins s σ H xs us Q I r h
  obtain ⟨a, ys, ds, rfl, hs, hd, hal, hso, hdp, q⟩ := h
  rw [Vals.ref1 r]
  obtain ⟨its, rv, hl, hz⟩ := I.list hs
  obtain ⟨h1, h2⟩ := each_vals I hd rv
  have ln := dpAll_len hd
  have e2 := zip_snd ln
  have hu := hr.units
  refine PySem.W.sorted_data (enc := fun b : V × PyData => b.2) hl.isList h1 h2 (by rw [e2]; exact hal) (by rw [e2]; exact hso) (by rw [List.length_zip, ← ln, Nat.min_self]; exact hz) (fun b hb => ?_) fun out lo eo => ?_
  · have := hdp b.2 (by rw [← e2]; exact List.mem_map.mpr ⟨b, hb, rfl⟩)
    omega
  obtain ⟨c, hc⟩ := sortedAll_at s.heap its out.toArray
  have hv := vals_each eo
  have hlen : (((ys.zip ds).mergeSort (PySem.W.dataLe false fun b : V × PyData => b.2)).map (·.1)).length ≤ sizeLine := by
    rw [List.length_map, List.length_mergeSort, List.length_zip, ← ln, Nat.min_self]; exact hz
  exact ⟨.ref (s.heap.objs.size + 1), _, I.laid (t' := s.toks) (fun _ _ e => sortedAll_old e) (Nat.le_succ _) (show ObjOk X.prog X.w _ _ _ (.lst _) from ⟨hlen, out, c, hv, hc⟩), rfl, q _ _ rfl (I.hok.fresh (Nat.le_succ _))⟩
/-! ## in, not in a tuple of data -/
def rInTD (K : PySem.W.Frag) (neg : Bool) : R2 := fun x y H Q => ∃ d ds, Dp K H x d ∧ Dp K H y (.tuple ds) ∧ SeqAt.shaped d = true ∧ SeqAt.shaped (.tuple ds) = true ∧ Q (.bl (if neg then !(ds.any fun z => PyData.eqv z d) else ds.any fun z => PyData.eqv z d)) H
theorem in_tuple_eq {pins : List (Addr × Obj)} {σ : L2.St} {H : Hp} {s : Shared} {A : Around} {x y : V} {v u : Value} {d : PyData} {ds : List PyData} (hu : A.units + 65 < cLine) (I : Inv X pins σ H s) (rx : RelV x v) (ry : RelV y u) (hd : Dp X.K H x d) (he : Dp X.K H y (.tuple ds)) (sd : SeqAt.shaped d = true) (se : SeqAt.shaped (.tuple ds) = true) :
    ∃ (c : Addr) (vs : Array Value) (f : Value → Bool), u = .ref c ∧ s.heap.IsTuple c vs ∧ (∀ z, z ∈ vs → SeqAt.EqAt A.in1 s z v (f z)) ∧ vs.any f = ds.any fun z => PyData.eqv z d := by
  obtain ⟨as, r1⟩ := Dp.reads I d x v hd rx
  obtain ⟨bs, r2⟩ := Dp.reads I (.tuple ds) y u he ry
  have c1 : PyData.canLayAll0 ds = true := by have := SeqAt.canLay_of_shaped se; rwa [PyData.canLay0] at this
  cases r2 with
  | tuple h1 h2 h3 h4 =>
    have hh := SeqAt.depth_of_shaped sd
    exact ⟨_, _, fun y => PyData.eqv (SeqAt.readOf s.heap y) d, rfl, ⟨_, h1, h2, _, h3⟩, SeqAt.items_eqAt h4 r1 c1 (SeqAt.canLay_of_shaped sd) (by omega), SeqAt.any_by_data h4 c1⟩
theorem op_inTD (hu : X.A.units + 65 < cLine) : OpR X (compareOp .In) (rInTD X.K false) := by
  intro pins s σ H x y v u Q I rx ry h
  obtain ⟨d, ds, hd, he, sd, se, q⟩ := h
  obtain ⟨c, vs, f, rfl, ht, hf, e⟩ := in_tuple_eq hu I rx ry hd he sd se
  exact SeqAt.in_tupleAt f ht hf (by rw [e]; exact ⟨.bl _, H, I, rfl, q⟩)
theorem op_notInTD (hu : X.A.units + 65 < cLine) : OpR X (compareOp .NotIn) (rInTD X.K true) := by
  intro pins s σ H x y v u Q I rx ry h
  obtain ⟨d, ds, hd, he, sd, se, q⟩ := h
  obtain ⟨c, vs, f, rfl, ht, hf, e⟩ := in_tuple_eq hu I rx ry hd he sd se
  exact SeqAt.notIn_tupleAt f ht hf (by rw [e]; exact ⟨.bl _, H, I, rfl, q⟩)
end
section
variable {X : Cx} {P : Program} {w : World} {o i e value : Expr} {pos pos' : Pos} {td ty tv : TE}
/-! the same, with program and world named -/
theorem pe_nnewK (hP : X.prog = P) (hw : X.w = w) : PE X (.Dict [] [] pos) (tNNew P w) := by subst hP hw; exact pe_nnew
theorem pe_ngetK (hP : X.prog = P) (hw : X.w = w) (hu : X.A.units + 64 < cLine) (ho : PE X o td) (hi : PE X i ty) (hs : NoSl i) : PE X (.Subscript o i pos) (tNGet P w td ty) := by subst hP hw; exact pe_nget hu ho hi hs
theorem pc_nnotinK (hP : X.prog = P) (hw : X.w = w) (hu : X.A.units + 64 < cLine) (hi : PE X i ty) (ho : PE X o td) : PC X .NotIn i o (tNNotIn P w ty td) := by subst hP hw; exact pc_nnotin hu hi ho
theorem pc_ninK (hP : X.prog = P) (hw : X.w = w) (hu : X.A.units + 64 < cLine) (hi : PE X i ty) (ho : PE X o td) : PC X .In i o (tNIn P w ty td) := by subst hP hw; exact pc_nin hu hi ho
theorem ps_nputK (hP : X.prog = P) (hw : X.w = w) (hu : X.A.units + 64 < cLine) (ho : PE X o td) (hi : PE X i ty) (hv : PE X value tv) (hs : swapsWith value (some (.Subscript o i pos')) pos.line X.env = pure false) :
    PS X (.Assign [.Subscript o i pos'] value pos) (sNPut P w td ty tv) := by subst hP hw; exact ps_nput hu ho hi hv hs
theorem cr_listNK (hP : X.prog = P) (hw : X.w = w) (hc : X.calm = true) : CallR X (.type "list") (rListN P w) := by subst hP hw; exact cr_listN hc
end
end Sg

set_option Elab.async false
set_option linter.all false
set_option maxRecDepth 100000
set_option maxHeartbeats 4000000
namespace Sg
open PySem PySem.Spec PyProof.Rows L2
/-! the places of the text -/
def topS (i : Nat) : Stmt := PySem.Challenge.pw_startgaps_k11_whole_states_of_plans.main.body.getD i (.Pass ⟨0, 0, 0, 0⟩)
abbrev s_TooMany_init : Stmt := inClass (topS 10) 0
theorem sc_TooMany_init : FnScope ["self", "amount", "limit"] ["self", "amount", "limit"] (defScope s_TooMany_init) := ⟨rfl, rfl, rfl, by decide +kernel, rfl, by decide +kernel, by decide +kernel⟩
abbrev s_TooMany_str : Stmt := inClass (topS 10) 1
theorem sc_TooMany_str : FnScope ["self"] ["self"] (defScope s_TooMany_str) := ⟨rfl, rfl, rfl, by decide +kernel, rfl, by decide +kernel, by decide +kernel⟩
abbrev s_TooFar_init : Stmt := inClass (topS 11) 0
theorem sc_TooFar_init : FnScope ["self", "bar", "limit"] ["self", "bar", "limit"] (defScope s_TooFar_init) := ⟨rfl, rfl, rfl, by decide +kernel, rfl, by decide +kernel, by decide +kernel⟩
abbrev s_TooFar_str : Stmt := inClass (topS 11) 1
theorem sc_TooFar_str : FnScope ["self"] ["self"] (defScope s_TooFar_str) := ⟨rfl, rfl, rfl, by decide +kernel, rfl, by decide +kernel, by decide +kernel⟩
abbrev s_is_int : Stmt := topS 13
theorem sc_is_int : FnScope ["thing"] ["thing"] (defScope s_is_int) := ⟨rfl, rfl, rfl, by decide +kernel, rfl, by decide +kernel, by decide +kernel⟩
abbrev s_is_between : Stmt := topS 14
theorem sc_is_between : FnScope ["thing", "least", "most"] ["thing", "least", "most"] (defScope s_is_between) := ⟨rfl, rfl, rfl, by decide +kernel, rfl, by decide +kernel, by decide +kernel⟩
abbrev s_is_work : Stmt := topS 19
theorem sc_is_work : FnScope ["thing", "item"] ["thing"] (defScope s_is_work) := ⟨rfl, rfl, rfl, by decide +kernel, rfl, by decide +kernel, by decide +kernel⟩
abbrev s_bars : Stmt := topS 20
theorem sc_bars : FnScope ["one", "other", "distance"] ["one", "other"] (defScope s_bars) := ⟨rfl, rfl, rfl, by decide +kernel, rfl, by decide +kernel, by decide +kernel⟩
abbrev s_require_work : Stmt := topS 21
theorem sc_require_work : FnScope ["thing"] ["thing"] (defScope s_require_work) := ⟨rfl, rfl, rfl, by decide +kernel, rfl, by decide +kernel, by decide +kernel⟩
abbrev s_clashes_behind : Stmt := topS 22
theorem sc_clashes_behind : FnScope ["one", "other", "distance", "here", "there"] ["one", "other", "distance"] (defScope s_clashes_behind) := ⟨rfl, rfl, rfl, by decide +kernel, rfl, by decide +kernel, by decide +kernel⟩
abbrev s_is_kind : Stmt := topS 25
theorem sc_is_kind : FnScope ["line", "thing"] ["line", "thing"] (defScope s_is_kind) := ⟨rfl, rfl, rfl, by decide +kernel, rfl, by decide +kernel, by decide +kernel⟩
abbrev s_require_kind : Stmt := topS 26
theorem sc_require_kind : FnScope ["line", "thing"] ["line", "thing"] (defScope s_require_kind) := ⟨rfl, rfl, rfl, by decide +kernel, rfl, by decide +kernel, by decide +kernel⟩
abbrev s_bars_of_all : Stmt := topS 27
theorem sc_bars_of_all : FnScope ["works", "other", "one"] ["works"] (defScope s_bars_of_all) := ⟨rfl, rfl, rfl, by decide +kernel, rfl, by decide +kernel, by decide +kernel⟩
abbrev s_Line_init : Stmt := inClass (topS 28) 0
theorem sc_Line_init : FnScope ["self", "works", "work", "row", "pair", "bar"] ["self", "works"] (defScope s_Line_init) := ⟨rfl, rfl, rfl, by decide +kernel, rfl, by decide +kernel, by decide +kernel⟩
abbrev s_Line_works : Stmt := inClass (topS 28) 1
theorem sc_Line_works : FnScope ["self"] ["self"] (defScope s_Line_works) := ⟨rfl, rfl, rfl, by decide +kernel, rfl, by decide +kernel, by decide +kernel⟩
abbrev s_Line_reach : Stmt := inClass (topS 28) 2
theorem sc_Line_reach : FnScope ["self"] ["self"] (defScope s_Line_reach) := ⟨rfl, rfl, rfl, by decide +kernel, rfl, by decide +kernel, by decide +kernel⟩
abbrev s_Line_len : Stmt := inClass (topS 28) 3
theorem sc_Line_len : FnScope ["self"] ["self"] (defScope s_Line_len) := ⟨rfl, rfl, rfl, by decide +kernel, rfl, by decide +kernel, by decide +kernel⟩
abbrev s_Line_getitem : Stmt := inClass (topS 28) 4
theorem sc_Line_getitem : FnScope ["self", "at"] ["self", "at"] (defScope s_Line_getitem) := ⟨rfl, rfl, rfl, by decide +kernel, rfl, by decide +kernel, by decide +kernel⟩
abbrev s_Line_iter : Stmt := inClass (topS 28) 5
theorem sc_Line_iter : FnScope ["self"] ["self"] (defScope s_Line_iter) := ⟨rfl, rfl, rfl, by decide +kernel, rfl, by decide +kernel, by decide +kernel⟩
abbrev s_Line_call : Stmt := inClass (topS 28) 6
theorem sc_Line_call : FnScope ["self", "one", "other"] ["self", "one", "other"] (defScope s_Line_call) := ⟨rfl, rfl, rfl, by decide +kernel, rfl, by decide +kernel, by decide +kernel⟩
abbrev s_Line_add : Stmt := inClass (topS 28) 7
theorem sc_Line_add : FnScope ["self", "other", "works"] ["self", "other"] (defScope s_Line_add) := ⟨rfl, rfl, rfl, by decide +kernel, rfl, by decide +kernel, by decide +kernel⟩
abbrev s_Line_radd : Stmt := inClass (topS 28) 8
theorem sc_Line_radd : FnScope ["self", "other"] ["self", "other"] (defScope s_Line_radd) := ⟨rfl, rfl, rfl, by decide +kernel, rfl, by decide +kernel, by decide +kernel⟩
abbrev s_Line_sub : Stmt := inClass (topS 28) 9
theorem sc_Line_sub : FnScope ["self", "other", "works"] ["self", "other"] (defScope s_Line_sub) := ⟨rfl, rfl, rfl, by decide +kernel, rfl, by decide +kernel, by decide +kernel⟩
abbrev s_Line_neg : Stmt := inClass (topS 28) 10
theorem sc_Line_neg : FnScope ["self", "works", "work"] ["self"] (defScope s_Line_neg) := ⟨rfl, rfl, rfl, by decide +kernel, rfl, by decide +kernel, by decide +kernel⟩
abbrev s_Line_eq : Stmt := inClass (topS 28) 11
theorem sc_Line_eq : FnScope ["self", "other"] ["self", "other"] (defScope s_Line_eq) := ⟨rfl, rfl, rfl, by decide +kernel, rfl, by decide +kernel, by decide +kernel⟩
abbrev s_Line_repr : Stmt := inClass (topS 28) 12
theorem sc_Line_repr : FnScope ["self"] ["self"] (defScope s_Line_repr) := ⟨rfl, rfl, rfl, by decide +kernel, rfl, by decide +kernel, by decide +kernel⟩
abbrev s_require_line : Stmt := topS 29
theorem sc_require_line : FnScope ["thing"] ["thing"] (defScope s_require_line) := ⟨rfl, rfl, rfl, by decide +kernel, rfl, by decide +kernel, by decide +kernel⟩
abbrev s_is_plan : Stmt := topS 32
theorem sc_is_plan : FnScope ["line", "thing", "least", "pair"] ["line", "thing"] (defScope s_is_plan) := ⟨rfl, rfl, rfl, by decide +kernel, rfl, by decide +kernel, by decide +kernel⟩
abbrev s_clash : Stmt := topS 33
theorem sc_clash : FnScope ["line", "plan", "visits", "clashes", "place", "pieces"] ["line", "plan"] (defScope s_clash) := ⟨rfl, rfl, rfl, by decide +kernel, rfl, by decide +kernel, by decide +kernel⟩
abbrev s_require_plan : Stmt := topS 34
theorem sc_require_plan : FnScope ["line", "thing"] ["line", "thing"] (defScope s_require_plan) := ⟨rfl, rfl, rfl, by decide +kernel, rfl, by decide +kernel, by decide +kernel⟩
abbrev s_is_start : Stmt := topS 35
theorem sc_is_start : FnScope ["line", "thing", "least"] ["line", "thing", "least"] (defScope s_is_start) := ⟨rfl, rfl, rfl, by decide +kernel, rfl, by decide +kernel, by decide +kernel⟩
abbrev s_visits : Stmt := topS 36
theorem sc_visits : FnScope ["line", "plan", "visits", "piece", "start", "kind", "passed", "station"] ["line", "plan"] (defScope s_visits) := ⟨rfl, rfl, rfl, by decide +kernel, rfl, by decide +kernel, by decide +kernel⟩
abbrev s_choices : Stmt := topS 41
theorem sc_choices : FnScope ["line", "state"] ["line", "state"] (defScope s_choices) := ⟨rfl, rfl, rfl, by decide +kernel, rfl, by decide +kernel, by decide +kernel⟩
abbrev s_after : Stmt := topS 42
theorem sc_after : FnScope ["line", "state", "choice"] ["line", "state", "choice"] (defScope s_after) := ⟨rfl, rfl, rfl, by decide +kernel, rfl, by decide +kernel, by decide +kernel⟩
abbrev s_states : Stmt := topS 43
theorem sc_states : FnScope ["line"] ["line"] (defScope s_states) := ⟨rfl, rfl, rfl, by decide +kernel, rfl, by decide +kernel, by decide +kernel⟩
abbrev s_state_at : Stmt := topS 44
theorem sc_state_at : FnScope ["line", "plan", "tick", "started", "start", "kind"] ["line", "plan", "tick"] (defScope s_state_at) := ⟨rfl, rfl, rfl, by decide +kernel, rfl, by decide +kernel, by decide +kernel⟩
abbrev s_require_near : Stmt := topS 45
theorem sc_require_near : FnScope ["line", "of_one", "of_several", "limit"] ["line", "of_one", "of_several"] (defScope s_require_near) := ⟨rfl, rfl, rfl, by decide +kernel, rfl, by decide +kernel, by decide +kernel⟩
abbrev s_require_state : Stmt := topS 46
theorem sc_require_state : FnScope ["line", "thing"] ["line", "thing"] (defScope s_require_state) := ⟨rfl, rfl, rfl, by decide +kernel, rfl, by decide +kernel, by decide +kernel⟩
abbrev s_has_form : Stmt := topS 47
theorem sc_has_form : FnScope ["line", "thing", "delays"] ["line", "thing"] (defScope s_has_form) := ⟨rfl, rfl, rfl, by decide +kernel, rfl, by decide +kernel, by decide +kernel⟩
abbrev s_is_form_of_delays : Stmt := topS 48
theorem sc_is_form_of_delays : FnScope ["line", "thing", "delay"] ["line", "thing"] (defScope s_is_form_of_delays) := ⟨rfl, rfl, rfl, by decide +kernel, rfl, by decide +kernel, by decide +kernel⟩
abbrev s_is_reached : Stmt := topS 49
theorem sc_is_reached : FnScope ["line", "wanted", "layer", "ticks", "found", "state", "choice", "behind"] ["line", "wanted"] (defScope s_is_reached) := ⟨rfl, rfl, rfl, by decide +kernel, rfl, by decide +kernel, by decide +kernel⟩
abbrev s_bars_only : Stmt := topS 50
theorem sc_bars_only : FnScope ["state", "wanted", "ticks", "now", "then", "delay"] ["state", "wanted", "ticks"] (defScope s_bars_only) := ⟨rfl, rfl, rfl, by decide +kernel, rfl, by decide +kernel, by decide +kernel⟩
abbrev s_empty_state : Stmt := topS 51
theorem sc_empty_state : FnScope ["line"] ["line"] (defScope s_empty_state) := ⟨rfl, rfl, rfl, by decide +kernel, rfl, by decide +kernel, by decide +kernel⟩
abbrev s_open_choices : Stmt := topS 52
theorem sc_open_choices : FnScope ["state", "kinds", "kind", "delays"] ["state"] (defScope s_open_choices) := ⟨rfl, rfl, rfl, by decide +kernel, rfl, by decide +kernel, by decide +kernel⟩
abbrev s_behind : Stmt := topS 53
theorem sc_behind : FnScope ["line", "state", "choice", "started", "found", "kind", "delays", "kept", "delay"] ["line", "state", "choice"] (defScope s_behind) := ⟨rfl, rfl, rfl, by decide +kernel, rfl, by decide +kernel, by decide +kernel⟩
abbrev s_delays : Stmt := topS 54
theorem sc_delays : FnScope ["line", "started", "kind", "ago", "other", "bar"] ["line", "started", "kind"] (defScope s_delays) := ⟨rfl, rfl, rfl, by decide +kernel, rfl, by decide +kernel, by decide +kernel⟩
abbrev s_ascending : Stmt := topS 55
theorem sc_ascending : FnScope ["numbers"] ["numbers"] (defScope s_ascending) := ⟨rfl, rfl, rfl, by decide +kernel, rfl, by decide +kernel, by decide +kernel⟩
abbrev s_moves : Stmt := topS 56
theorem sc_moves : FnScope ["line", "moves", "waiting", "state", "choice", "_", "behind"] ["line"] (defScope s_moves) := ⟨rfl, rfl, rfl, by decide +kernel, rfl, by decide +kernel, by decide +kernel⟩
abbrev s_l_cell : Stmt := topS 58
theorem sc_l_cell : FnScope ["_law_script", "_law_k"] ["_law_script", "_law_k"] (defScope s_l_cell) := ⟨rfl, rfl, rfl, by decide +kernel, rfl, by decide +kernel, by decide +kernel⟩
abbrev s_l_pen : Stmt := topS 59
theorem sc_l_pen : FnScope ["_law_cell_here"] ["_law_cell_here"] (defScope s_l_pen) := ⟨rfl, rfl, rfl, by decide +kernel, rfl, by decide +kernel, by decide +kernel⟩
abbrev s_l_draw : Stmt := topS 60
theorem sc_l_draw : FnScope ["_law_pen_here", "_law_many", "_law_found", "_law_stirred"] ["_law_pen_here", "_law_many"] (defScope s_l_draw) := ⟨rfl, rfl, rfl, by decide +kernel, rfl, by decide +kernel, by decide +kernel⟩
abbrev s_l_work : Stmt := topS 61
theorem sc_l_work : FnScope ["_law_pen_here", "_law_most", "_law_stations", "_law_way", "_law_long", "_law_items", "_law_turn"] ["_law_pen_here", "_law_most", "_law_stations"] (defScope s_l_work) := ⟨rfl, rfl, rfl, by decide +kernel, rfl, by decide +kernel, by decide +kernel⟩
abbrev s_l_made : Stmt := topS 62
theorem sc_l_made : FnScope ["_law_works_here"] ["_law_works_here"] (defScope s_l_made) := ⟨rfl, rfl, rfl, by decide +kernel, rfl, by decide +kernel, by decide +kernel⟩
abbrev s_l_works : Stmt := topS 63
theorem sc_l_works : FnScope ["_law_pen_here", "_law_many", "_law_stations", "_law_turn"] ["_law_pen_here"] (defScope s_l_works) := ⟨rfl, rfl, rfl, by decide +kernel, rfl, by decide +kernel, by decide +kernel⟩
abbrev s_l_plan : Stmt := topS 64
theorem sc_l_plan : FnScope ["_law_pen_here", "_law_works_here", "_law_found", "_law_tick", "_law_turn"] ["_law_pen_here", "_law_works_here"] (defScope s_l_plan) := ⟨rfl, rfl, rfl, by decide +kernel, rfl, by decide +kernel, by decide +kernel⟩
abbrev s_l_walk_right : Stmt := topS 65
theorem sc_l_walk_right : FnScope ["_law_made_here", "_law_plan_here", "_law_state", "_law_starts", "_law_known", "_law_tick", "_law_choice", "_law_one"] ["_law_made_here", "_law_plan_here"] (defScope s_l_walk_right) := ⟨rfl, rfl, rfl, by decide +kernel, rfl, by decide +kernel, by decide +kernel⟩
abbrev s_l_next_right : Stmt := topS 66
theorem sc_l_next_right : FnScope ["_law_made_here", "_law_plan_here", "_law_tick", "_law_state", "_law_kind", "_law_delay", "_law_alone", "_law_one"] ["_law_made_here", "_law_plan_here"] (defScope s_l_next_right) := ⟨rfl, rfl, rfl, by decide +kernel, rfl, by decide +kernel, by decide +kernel⟩
abbrev s_law : Stmt := topS 67
theorem sc_law : FnScope ["_law_script", "_law_cell_here", "_law_pen_here", "_law_lap", "_law_works_here", "_law_made_here", "_law_plan_here"] ["_law_script"] (defScope s_law) := ⟨rfl, rfl, rfl, by decide +kernel, rfl, by decide +kernel, by decide +kernel⟩
end Sg

set_option Elab.async false
set_option linter.all false
set_option maxRecDepth 100000
set_option maxHeartbeats 4000000
namespace Sg
open PySem PySem.Spec PyProof.Rows L2
section
variable {P : Program} {w : World} {K : PySem.W.Frag} {mg : Str → Option Value} {base : Heap}
/-! ### is_int, is_between: of ints -/
def spIsInt : Sp := fun vs H Q _ => ∃ i : Int, vs = [.int i] ∧ Q (.bl true) H
theorem ok_is_int {f : Addr} {fd : FuncData} {k : Nat} (F : Fun K "is_int" "is_int" s_is_int f fd) (m1 : mg "isinstance" = none) (m2 : mg "int" = none) (m3 : mg "bool" = none) :
    FnOk P w K mg base CX0 (k + 1) f fd ["thing"] spIsInt := by
  refine F.ok sc_is_int (fun vs H Q E h => ?_) (fun cdv A outer s H vs Q E hr h => ?_)
  · obtain ⟨i, rfl, _⟩ := h; rfl
  · obtain ⟨i, rfl, q⟩ := h
    refine ⟨_, pss_one (ps_ret (pe_and
      (pe_callB call_isi (by rfl) m1 (by decide +kernel) (pa_cons (pv 0) (pa_cons (pe_bltn (v := .ty "int") (by rfl) m2 (by decide +kernel) rfl) pa_nil)))
      (pe_one (pe_not (pe_callB call_isi (by rfl) m1 (by decide +kernel) (pa_cons (pv 0) (pa_cons (pe_bltn (v := .ty "bool") (by rfl) m3 (by decide +kernel) rfl) pa_nil))))))), ?_⟩
    refine ⟨.int i, rfl, .int i, .ty "int", _, _, true, rfl, .ty _, .base (.int i), kit_ty (by decide +kernel), true, rfl, iteT ?_⟩
    exact ⟨.int i, rfl, .int i, .ty "bool", _, _, false, rfl, .ty _, .base (.int i), kit_ty (by decide +kernel), false, rfl, q⟩
def spIsBetween : Sp := fun vs H Q _ => ∃ i l m : Int, vs = [.int i, .int l, .int m] ∧ Q (.bl (decide (l ≤ i) && decide (i ≤ m))) H
theorem ok_is_between {f f1 : Addr} {fd fd1 : FuncData} {k : Nat} (F : Fun K "is_between" "is_between" s_is_between f fd)
    (G1 : FnOk P w K mg base CX0 k f1 fd1 ["thing"] spIsInt) (kp1 : PySem.W.keepIn K (.ref f1) = true) (b1 : Binds K fd1 ["thing"] []) (g1 : mg "is_int" = some (.ref f1)) :
    FnOk P w K mg base CX0 (k + 1) f fd ["thing", "least", "most"] spIsBetween := by
  refine F.ok sc_is_between (fun vs H Q E h => ?_) (fun cdv A outer s H vs Q E hr h => ?_)
  · obtain ⟨i, l, m, rfl, _⟩ := h; rfl
  · obtain ⟨i, l, m, rfl, q⟩ := h
    refine ⟨_, pss_one (ps_ret (pe_and (pe_call G1 hr (by rfl) g1 kp1 b1 .nil pass0 (pa_cons (pv 0) pa_nil)) (pe_one (pe_chain op_le op_le (pv 1) (pv 0) (pv 2))))), ?_⟩
    refine ⟨.int i, rfl, i, rfl, true, rfl, iteT ?_⟩
    refine ⟨.int l, rfl, .int i, rfl, l, i, rfl, rfl, decide (l ≤ i), rfl, ?_⟩
    by_cases h1 : l ≤ i
    · rw [decide_eq_true h1] at q ⊢
      exact iteT ⟨.int m, rfl, i, m, rfl, rfl, q⟩
    · rw [decide_eq_false h1] at q ⊢
      exact iteF q
/-! ### the script's cells, the pen -/
def spCell (K : PySem.W.Frag) : Sp := fun vs H Q _ => ∃ (a : Addr) (ns : List Int) (k : Nat), vs = [.ref a, .int k] ∧ SqL K H a (ns.map V.int) ∧ ∀ r : Int, Q (.int r) H
theorem ok_l_cell {f : Addr} {fd : FuncData} {k : Nat} (F : Fun K "_law_cell" "_law_cell" s_l_cell f fd) (m1 : mg "len" = none) :
    FnOk P w K mg base CX0 (k + 1) f fd ["_law_script", "_law_k"] (spCell K) := by
  refine F.ok sc_l_cell (fun vs H Q E h => ?_) (fun cdv A outer s H vs Q E hr h => ?_)
  · obtain ⟨a, ns, j, rfl, _⟩ := h; rfl
  · obtain ⟨a, ns, j, rfl, hS, q⟩ := h
    refine ⟨_, pss_one (ps_ret (pe_ifExp (pt_cmpR op_lt (pv 1) (pe_callB call_len_seq (by rfl) m1 PySem.boot_len (pa_cons (pv 0) pa_nil)) (nomark _))
      (pe_ix ix_list (pv 0) (pv 1) (fun _ _ => rfl)) pe_int)), ?_⟩
    refine ⟨.int j, rfl, .ref a, rfl, a, ns.map V.int, rfl, .inl hS, _, _, rfl, rfl, _, rfl, ite2 (fun e => ?_) (fun e => ?_)⟩
    · have e1 : (j : Int) < ((ns.map V.int).length : Nat) := of_decide_eq_true e
      have e2 : j < ns.length := by rw [List.length_map] at e1; omega
      refine ⟨.ref a, rfl, .int j, rfl, a, ns.map V.int, (j : Int), .int ns[j], rfl, rfl, hS, atI_nat ?_, q _⟩
      rw [List.getElem?_map, List.getElem?_eq_getElem e2]; rfl
    · exact q 0
def spPen : Sp := fun vs H Q _ => ∃ c : Int, vs = [.int c] ∧ ∀ H' p, H p = none → Same H H' → PenAt H' p → Q (.ref p) H'
theorem ok_l_pen {f : Addr} {fd : FuncData} {k : Nat} (F : Fun K "_law_pen" "_law_pen" s_l_pen f fd) (m1 : mg "max" = none) :
    FnOk P w K mg base CX0 (k + 1) f fd ["_law_cell_here"] spPen := by
  refine F.ok sc_l_pen (fun vs H Q E h => ?_) (fun cdv A outer s H vs Q E hr h => ?_)
  · obtain ⟨c, rfl, _⟩ := h; rfl
  · obtain ⟨c, rfl, q⟩ := h
    refine ⟨_, pss_one (ps_ret (pe_lst (pa_cons (pe_callB (call_max2 rfl) (by rfl) m1 (by decide +kernel) (pa_cons pe_int (pa_cons (pe_op op_sub (pv 0) (pe_op op_pow pe_int pe_int)) pa_nil)))
      (pa_cons (pe_op op_add (pe_op op_mod (pv 0) pe_int) pe_int) (pa_cons pe_int pa_nil))))), ?_⟩
    refine ⟨.int c, rfl, 10, 18, rfl, rfl, (by show (0 : Int) ≤ 18 ∧ (18 : Int) ≤ 1000000 ∧ _; decide), c, _, rfl, rfl, _, _, rfl, ?_⟩
    refine ⟨.int c, rfl, c, 2147483629, rfl, rfl, (by show (0 : Int) < 2147483629; decide), _, _, rfl, rfl, ?_⟩
    refine ⟨by show 3 ≤ sizeLine; decide, fun p hp => q _ p hp (same_new hp) ⟨_, _, _, upd_same, ?_⟩⟩
    have h1 := Int.emod_nonneg c (show (2147483629 : Int) ≠ 0 by decide)
    have h2 := Int.emod_lt_of_pos c (show (0 : Int) < 2147483629 by decide)
    constructor <;> omega
/-! ### a draw -/
def spDraw : Sp := fun vs H Q _ => ∃ (p : Addr) (m : Int), vs = [.ref p, .int m] ∧ PenAt H p ∧ 0 < m ∧ m < 1000000 ∧
  ∀ H' (r : Int), 0 ≤ r → r < m → PenAt H' p → But p H H' → Q (.int r) H'
theorem ok_l_draw {f : Addr} {fd : FuncData} {k : Nat} (F : Fun K "_law_draw" "_law_draw" s_l_draw f fd) :
    FnOk P w K mg base CX0 (k + 1) f fd ["_law_pen_here", "_law_many"] spDraw := by
  refine F.ok sc_l_draw (fun vs H Q E h => ?_) (fun cdv A outer s H vs Q E hr h => ?_)
  · obtain ⟨p, m, rfl, _⟩ := h; rfl
  · obtain ⟨p, m, rfl, ⟨a, b, c, hp, hb0, hb1⟩, hm0, hm1, q⟩ := h
    refine ⟨_, pss_cons (ps_if (pt_cmpR op_gt (pe_ix ix_list (pv 0) pe_int (fun _ _ => rfl)) pe_int (nomark _))
        (pss_cons (ps_set (i := 2) sc_l_draw.nd rfl (.inl rfl) (pe_op op_mod (pe_ix ix_list (pv 0) pe_int (fun _ _ => rfl)) (pv 1)))
        (pss_cons (ps_asg (pe_op op_fdiv (pe_ix ix_list (pv 0) pe_int (fun _ _ => rfl)) (pv 1)) (pg_sub (pv 0) pe_int set_list))
        (pss_one (ps_ret (pv 2))))) pss_nil)
      (pss_cons (ps_asg (pe_op op_add (pe_ix ix_list (pv 0) pe_int (fun _ _ => rfl)) pe_int) (pg_sub (pv 0) pe_int set_list))
      (pss_cons (ps_asg (pe_op op_mod (pe_op op_add (pe_op op_add (pe_op op_mul (pe_ix ix_list (pv 0) pe_int (fun _ _ => rfl)) pe_int)
            (pe_op op_mul pe_int (pe_ix ix_list (pv 0) pe_int (fun _ _ => rfl)))) pe_int) pe_int) (pg_sub (pv 0) pe_int set_list))
      (pss_cons (ps_set (i := 3) sc_l_draw.nd rfl (.inl rfl) (pe_op op_mod (pe_op op_add (pe_op op_add (pe_op op_mul (pe_ix ix_list (pv 0) pe_int (fun _ _ => rfl)) (pe_ix ix_list (pv 0) pe_int (fun _ _ => rfl)))
            (pe_op op_mul pe_int (pe_ix ix_list (pv 0) pe_int (fun _ _ => rfl)))) pe_int) pe_int))
      (pss_cons (ps_set (i := 3) sc_l_draw.nd rfl (.inl rfl) (pe_op op_mod (pe_op op_add (pe_op op_mul (pv 3) (pv 3)) (pe_op op_mul pe_int (pv 3))) pe_int))
      (pss_one (ps_ret (pe_op op_mod (pe_op op_fdiv (pv 3) pe_int) (pv 1)))))))), ?_⟩
    refine ⟨.ref p, rfl, p, _, 0, .int a, rfl, rfl, .of hp, atI0, a, 0, rfl, rfl, _, rfl, ite2 (fun e => ?_) (fun e => ?_)⟩
    · have ha : 0 < a := of_decide_eq_true e
      refine ⟨.ref p, rfl, p, _, 0, .int a, rfl, rfl, .of hp, atI0, .int m, rfl, a, m, rfl, rfl, hm0, ?_⟩
      refine ⟨.ref p, rfl, p, _, 0, .int a, rfl, rfl, .of hp, atI0, .int m, rfl, a, m, rfl, rfl, ⟨hm0, (by omega)⟩, ?_⟩
      refine ⟨.ref p, rfl, p, _, 0, 0, rfl, rfl, hp, rfl, ?_⟩
      refine ⟨.int (a % m), rfl, q _ _ (Int.emod_nonneg a (by omega)) (Int.emod_lt_of_pos a hm0) ⟨a / m, b, c, upd_same, hb0, hb1⟩ But.upd⟩
    · refine ⟨.ref p, rfl, p, _, 2, .int c, rfl, rfl, .of hp, atI2, c, 1, rfl, rfl, ?_⟩
      refine ⟨.ref p, rfl, p, _, 2, 2, rfl, rfl, hp, rfl, ?_⟩
      have hp1 : (upd H p (.lst [.int a, .int b, .int (c + 1)])) p = some (.lst [.int a, .int b, .int (c + 1)]) := upd_same
      refine ⟨.ref p, rfl, p, _, 1, .int b, rfl, rfl, .of hp1, atI1, b, 48271, rfl, rfl, .inl ⟨by omega, by omega⟩, ?_⟩
      refine ⟨.ref p, rfl, p, _, 2, .int (c + 1), rfl, rfl, .of hp1, atI2, 1009, c + 1, rfl, rfl, .inl (by decide), ?_⟩
      refine ⟨_, _, rfl, rfl, _, _, rfl, rfl, _, 2147483647, rfl, rfl, (by show (0 : Int) < 2147483647; decide), ?_⟩
      refine ⟨.ref p, rfl, p, _, 1, 1, rfl, rfl, hp1, rfl, ?_⟩
      dsimp only [List.set]
      generalize hb' : (b * 48271 + 1009 * (c + 1) + 7) % 2147483647 = b'
      have g1 : 0 ≤ b' := by rw [← hb']; exact Int.emod_nonneg _ (by decide)
      have g2 : b' < 2147483647 := by rw [← hb']; exact Int.emod_lt_of_pos _ (by decide)
      have hp2 : (upd (upd H p (.lst [.int a, .int b, .int (c + 1)])) p (.lst [.int a, .int b', .int (c + 1)])) p = some (.lst [.int a, .int b', .int (c + 1)]) := upd_same
      refine ⟨.ref p, rfl, p, _, 1, .int b', rfl, rfl, .of hp2, atI1, .ref p, rfl, p, _, 1, .int b', rfl, rfl, .of hp2, atI1, b', b', rfl, rfl, .inl ⟨by omega, by omega⟩, ?_⟩
      refine ⟨.ref p, rfl, p, _, 1, .int b', rfl, rfl, .of hp2, atI1, 69621, b', rfl, rfl, .inl (by decide), ?_⟩
      refine ⟨_, _, rfl, rfl, _, _, rfl, rfl, _, 2147483629, rfl, rfl, (by show (0 : Int) < 2147483629; decide), ?_⟩
      dsimp only
      generalize ht : (b' * b' + 69621 * b' + 11) % 2147483629 = t
      have t1 : 0 ≤ t := by rw [← ht]; exact Int.emod_nonneg _ (by decide)
      have t2 : t < 2147483629 := by rw [← ht]; exact Int.emod_lt_of_pos _ (by decide)
      refine ⟨.int t, rfl, .int t, rfl, t, t, rfl, rfl, .inl ⟨by omega, by omega⟩, .int t, rfl, 40014, t, rfl, rfl, .inl (by decide), _, _, rfl, rfl, _, 2147483587, rfl, rfl, (by show (0 : Int) < 2147483587; decide), ?_⟩
      refine ⟨_, rfl, _, 16, rfl, rfl, ⟨by decide, by decide⟩, .int m, rfl, _, m, rfl, rfl, hm0, ?_⟩
      refine q _ _ (Int.emod_nonneg _ (by omega)) (Int.emod_lt_of_pos _ hm0) ⟨a, b', c + 1, upd_same, by omega, by omega⟩ ?_
      exact But.upd.trans But.upd
end
end Sg

set_option Elab.async false
set_option linter.all false
set_option maxRecDepth 100000
set_option maxHeartbeats 4000000
namespace Sg
open PySem PySem.Spec PyProof.Rows L2
section
variable {P : Program} {w : World} {K : PySem.W.Frag} {mg : Str → Option Value} {base : Heap}
/-! ### is_work, of a work -/
def spIsWork (K : PySem.W.Frag) : Sp := fun vs H Q _ => ∃ (a : Addr) (ns : List Int), vs = [.ref a] ∧ SqT K H a (ns.map V.int) ∧ IsWork ns ∧ ∀ H', Same H H' → Q (.bl true) H'
theorem ok_is_work {f f1 : Addr} {fd fd1 : FuncData} {k : Nat} (F : Fun K "is_work" "is_work" s_is_work f fd) (N : Nums mg)
    (G1 : FnOk P w K mg base CX0 k f1 fd1 ["thing", "least", "most"] spIsBetween) (kp1 : PySem.W.keepIn K (.ref f1) = true) (b1 : Binds K fd1 ["thing", "least", "most"] []) (g1 : mg "is_between" = some (.ref f1))
    (m1 : mg "isinstance" = none) (m2 : mg "tuple" = none) (m3 : mg "len" = none) (m4 : mg "all" = none) :
    FnOk P w K mg base CX0 (k + 1) f fd ["thing"] (spIsWork K) := by
  obtain ⟨t1, n1⟩ := N.nowhere
  obtain ⟨t2, n2⟩ := N.stations
  obtain ⟨t3, n3⟩ := N.most
  refine F.ok sc_is_work (fun vs H Q E h => ?_) (fun cdv A outer s H vs Q E hr h => ?_)
  · obtain ⟨a, ns, rfl, _⟩ := h; rfl
  · obtain ⟨a, ns, rfl, hS, hw, q⟩ := h
    refine ⟨_, pss_cons (ps_if (PW.pt (pw_or (pt_not (pt_val (pe_callB call_isi (by rfl) m1 (by decide +kernel) (pa_cons (pv 0) (pa_cons (pe_bltn (v := .ty "tuple") (by rfl) m2 (by decide +kernel) rfl) pa_nil)))))
          (pw_or1 (pt_not (pt_chain op_le op_le pe_int (pe_callB call_len_seq (by rfl) m3 PySem.boot_len (pa_cons (pv 0) pa_nil)) (pe_glob (v := .int 60) (by rfl) n3 ⟨_, rfl⟩))))))
        (pss_one (ps_ret pe_bl)) pss_nil)
      (pss_cons (ps_if (pt_not (pt_val (pe_callB (cr_all rfl) (by rfl) m4 (by decide +kernel) (pa_cons
          (pe_lc (own := [("item", 1)]) (g := gName 1) (tt := tYes) rfl sc_is_work.nd (pi_tup (pv 0)) (blkOk_by (N := ["thing", "item"]) (sc := defScope s_is_work) (by decide +kernel))
            (fun _ _ _ _ _ => pg_name (i := 1) sc_is_work.nd rfl (Or.inl rfl)) (fun _ _ _ _ _ => pts_nil)
            (fun _ _ _ _ _ => pe_call G1 hr (by rfl) g1 kp1 b1 .nil pass0 (pa_cons (pv 1) (pa_cons (pe_glob (v := .int (-1)) (by rfl) n1 ⟨_, rfl⟩) (pa_cons (pe_op op_sub (pe_glob (v := .int 10) (by rfl) n2 ⟨_, rfl⟩) pe_int) pa_nil))))) pa_nil))))
        (pss_one (ps_ret pe_bl)) pss_nil)
      (pss_one (ps_ret (pe_and (pe_cmpR op_ne (pe_ix ix_tup (pv 0) pe_int (fun _ _ => rfl)) (pe_glob (v := .int (-1)) (by rfl) n1 ⟨_, rfl⟩) (nomark _))
        (pe_one (pe_cmpR op_ne (pe_ix ix_tup (pv 0) (pe_un un_neg pe_int) (fun _ _ => rfl)) (pe_glob (v := .int (-1)) (by rfl) n1 ⟨_, rfl⟩) (nomark _))))))), ?_⟩
    have l1 : ((ns.map V.int).length : Int) = ns.length := by rw [List.length_map]
    refine ⟨.ref a, rfl, .ref a, .ty "tuple", _, _, true, rfl, .ty _, tyT hS, kit_ty (by decide +kernel), true, rfl, iteF ?_⟩
    refine ⟨.ref a, rfl, a, ns.map V.int, rfl, .inr hS, 1, _, rfl, rfl, _, rfl, ?_⟩
    have c1 : decide ((1 : Int) ≤ ((ns.map V.int).length : Nat)) = true := decide_eq_true (by rw [List.length_map]; have := hw.pos; omega)
    rw [c1]
    refine iteT ⟨_, 60, rfl, rfl, _, rfl, ?_⟩
    have c2 : decide ((((ns.map V.int).length : Nat) : Int) ≤ 60) = true := decide_eq_true (by rw [List.length_map]; have := hw.most; omega)
    rw [c2]
    refine iteF ?_
    refine ⟨.ref a, rfl, a, rfl, ⟨_, hS⟩, fun D hD => ?_⟩
    refine lc_tup (xs := ns.map V.int) (fun i H' => Same H H' ∧ H' D = some (.lst ((((ns.take i).map inR)).map V.bl))) ⟨same_new hD, upd_same⟩ (fun i H' _ h => Same.tup h.1 hS) (fun i x H' hx h => ?_) (fun H' h => ?_)
    · rw [List.getElem?_map] at hx
      obtain ⟨z, hz, rfl⟩ := Option.map_eq_some_iff.mp hx
      have hl : i < ns.length := (List.getElem?_eq_some_iff.mp hz).1
      refine ⟨rfl, .int z, rfl, 10, 1, rfl, rfl, z, -1, _, rfl, ?_⟩
      refine ⟨_, h.2, ?_, fun b o e => ?_, ?_⟩
      · rw [List.length_map, List.length_map, List.length_take]
        have := hw.most
        exact small1000 (by omega)
      · rw [upd_ne (ne_of_none e hD)]
        exact h.1 _ _ e
      · rw [upd_same, List.take_add_one, hz, List.map_append, List.map_append]
        rfl
    · have hall : (((ns.take ns.length).map inR)).all id = true := by
        rw [List.take_length, List.all_map, List.all_eq_true]
        intro x hx
        have := hw.items x hx
        simp [inR, this.1, this.2]
      have h2 := h.2
      rw [List.length_map] at h2
      refine ⟨D, _, rfl, .of h2, true, congrArg V.bl hall, iteF ?_⟩
      have hS' : SqT K H' a (ns.map V.int) := Same.tup h.1 hS
      obtain ⟨x, hx⟩ : ∃ x, ns[0]? = some x := ⟨ns[0]'(hw.pos), List.getElem?_eq_getElem _⟩
      have hpos := hw.pos
      obtain ⟨y, hy⟩ : ∃ y, ns[ns.length - 1]? = some y := ⟨ns[ns.length - 1]'(by omega), List.getElem?_eq_getElem _⟩
      have gx : (ns.map V.int)[0]? = some (.int x) := by rw [List.getElem?_map, hx]; rfl
      have gy : atI (ns.map V.int) (-1) = some (.int y) := by
        have hne : ns ≠ [] := fun z => by rw [z] at hpos; exact absurd hpos (by decide)
        have e1 : ns = ns.dropLast ++ [y] := by
          have e2 : ns.getLast hne = y := by
            have := List.getLast_eq_getElem hne
            rw [this]
            exact (List.getElem?_eq_some_iff.mp hy).2
          rw [← e2, List.dropLast_concat_getLast]
        rw [e1, List.map_append]
        exact atI_last _ _
      refine ⟨.ref a, rfl, a, _, 0, .int x, rfl, rfl, hS', atI_nat (j := 0) gx, rfl, ?_⟩
      have d1 : decide (V.int x = V.int (-1)) = false := decide_eq_false fun z => hw.head x hx (V.int.inj z)
      rw [d1]
      refine ⟨true, rfl, iteT ?_⟩
      refine ⟨.ref a, rfl, 1, rfl, a, _, -1, .int y, rfl, rfl, hS', gy, rfl, ?_⟩
      have d2 : decide (V.int y = V.int (-1)) = false := decide_eq_false fun z => hw.last y hy (V.int.inj z)
      rw [d2]
      exact q H' h.1
def spReq (K : PySem.W.Frag) : Sp := fun vs H Q _ => ∃ (a : Addr) (ns : List Int), vs = [.ref a] ∧ SqT K H a (ns.map V.int) ∧ IsWork ns ∧ ∀ H', Same H H' → Q .non H'
theorem ok_require_work {f f1 : Addr} {fd fd1 : FuncData} {k : Nat} (F : Fun K "require_work" "require_work" s_require_work f fd)
    (G1 : FnOk P w K mg base CX0 k f1 fd1 ["thing"] (spIsWork K)) (kp1 : PySem.W.keepIn K (.ref f1) = true) (b1 : Binds K fd1 ["thing"] []) (g1 : mg "is_work" = some (.ref f1)) :
    FnOk P w K mg base CX0 (k + 1) f fd ["thing"] (spReq K) := by
  refine F.ok sc_require_work (fun vs H Q E h => ?_) (fun cdv A outer s H vs Q E hr h => ?_)
  · obtain ⟨a, ns, rfl, _⟩ := h; rfl
  · obtain ⟨a, ns, rfl, hS, hw, q⟩ := h
    refine ⟨_, pss_one (ps_if (pt_not (pt_val (pe_call G1 hr (by rfl) g1 kp1 b1 .nil pass0 (pa_cons (pv 0) pa_nil)))) (pss_one ps_never) pss_nil), ?_⟩
    exact ⟨.ref a, rfl, a, ns, rfl, hS, hw, fun H' sm => ⟨true, rfl, iteF (q H' sm)⟩⟩
/-! ### _clashes_behind -/
def spClash (K : PySem.W.Frag) : Sp := fun vs H Q _ => ∃ (a b : Addr) (one other : List Int) (d : Nat), vs = [.ref a, .ref b, .int d] ∧ SqT K H a (one.map V.int) ∧ SqT K H b (other.map V.int) ∧ one.length ≤ 60 ∧ 1 ≤ d ∧ d < one.length ∧
  ∀ H', Same H H' → Q (.bl (clashB one other d)) H'
theorem ok_clashes_behind {f : Addr} {fd : FuncData} {k : Nat} (F : Fun K "_clashes_behind" "_clashes_behind" s_clashes_behind f fd) (N : Nums mg) (m1 : mg "any" = none) (m2 : mg "zip" = none) :
    FnOk P w K mg base CX0 (k + 1) f fd ["one", "other", "distance"] (spClash K) := by
  obtain ⟨t1, n1⟩ := N.nowhere
  refine F.ok sc_clashes_behind (fun vs H Q E h => ?_) (fun cdv A outer s H vs Q E hr h => ?_)
  · obtain ⟨a, b, o1, o2, d, rfl, _⟩ := h; rfl
  · obtain ⟨a, b, one, other, d, rfl, hA, hB, hm, hd1, hd2, q⟩ := h
    refine ⟨_, pss_one (ps_ret (pe_callB (cr_any rfl) (by rfl) m1 (by decide +kernel) (pa_cons
      (pe_lc (own := [("here", 3), ("there", 4)]) (g := gTup K 2 (gCons (gName 3) (gCons (gName 4) gNil))) (tt := tYes) rfl sc_clashes_behind.nd (RZ.pi_zipA (by rfl) m2 (pa_cons (pe_slice sl_tup (pv 0) (po_some (pv 2)) po_none) (pa_cons (pv 1) pa_nil)))
        (blkOk_by (N := ["one", "other", "distance", "here", "there"]) (sc := defScope s_clashes_behind) (by decide +kernel))
        (fun _ _ _ _ _ => pg_tup rfl (pgs_cons (pg_name (i := 3) sc_clashes_behind.nd rfl (Or.inl rfl)) (pgs_cons (pg_name (i := 4) sc_clashes_behind.nd rfl (Or.inl rfl)) pgs_nil)))
        (fun _ _ _ _ _ => pts_nil)
        (fun _ _ _ _ _ => pe_and (pe_cmpR op_eq (pv 3) (pv 4) (nomark _)) (pe_one (pe_cmpR op_ne (pv 3) (pe_glob (v := .int (-1)) (by rfl) n1 ⟨_, rfl⟩) (nomark _))))) pa_nil))), ?_⟩
    have hcut : cutV (one.map V.int) (some (d : Int)) none = (one.drop d).map V.int := by rw [cut_from, List.map_drop]
    refine ⟨.ref a, rfl, .int d, rfl, d, rfl, a, _, rfl, hA, ?_, fun c nc => ?_⟩
    · rintro ⟨z, _⟩
      rw [HT.sIx_nat, List.length_map] at z
      omega
    rw [hcut]
    have s1 : Same H (upd H c (.tup ((one.drop d).map V.int))) := same_new nc
    refine ⟨.ref b, rfl, c, b, _, _, rfl, .inr ⟨.of upd_same, Same.tup s1 hB, fun D hD => ?_⟩⟩
    have s2 : Same (upd H c (.tup ((one.drop d).map V.int))) (upd (upd H c (.tup ((one.drop d).map V.int))) D (.lst [])) := same_new hD
    have hc0 : (upd H c (.tup ((one.drop d).map V.int))) c = some (.tup ((one.drop d).map V.int)) := upd_same
    refine lc_it (walk_zipT (xs := (one.drop d).map V.int) (ys := other.map V.int) (n := min (one.drop d).length other.length) (by rw [List.length_map, List.length_map]))
      (fun i H' => Same (upd H c (.tup ((one.drop d).map V.int))) H' ∧ H' D = some (.lst ((hitsTo one other d i).map V.bl))) ⟨s2, upd_same⟩
      (fun i H' _ h => ⟨.of (h.1 _ _ hc0), Same.tup (s1.trans h.1) hB⟩) (fun i x H' H'' hi h hY => ?_) (fun H' h => ?_)
    · obtain ⟨T, x1, x2, rfl, nT, rfl, f1, f2⟩ := hY
      dsimp only at f1 f2
      rw [List.getElem?_map] at f1 f2
      obtain ⟨z1, hz1, rfl⟩ := Option.map_eq_some_iff.mp f1
      obtain ⟨z2, hz2, rfl⟩ := Option.map_eq_some_iff.mp f2
      have nTD : D ≠ T := ne_of_none h.2 nT
      refine ⟨T, _, rfl, .of upd_same, rfl, _, _, rfl, _, _, rfl, rfl, rfl, ?_⟩
      have fin : ∀ bb : Bool, bb = (z1 == z2 && z1 != -1) → ∃ acc, (upd H' T (.tup [V.int z1, V.int z2])) D = some (.lst acc) ∧ acc.length < sizeLine ∧
          (Same (upd H c (.tup ((one.drop d).map V.int))) (upd (upd H' T (.tup [V.int z1, V.int z2])) D (.lst (acc ++ [V.bl bb]))) ∧ (upd (upd H' T (.tup [V.int z1, V.int z2])) D (.lst (acc ++ [V.bl bb]))) D = some (.lst ((hitsTo one other d (i + 1)).map V.bl))) := by
        rintro bb rfl
        refine ⟨_, by rw [upd_ne nTD]; exact h.2, ?_, fun y o e => ?_, ?_⟩
        · rw [List.length_map]
          have := hits_len one other d i
          exact small1000 (by rw [List.length_drop] at hi; omega)
        · rw [upd_ne (ne_of_none e hD)]
          exact same_new nT _ _ (h.1 _ _ e)
        · rw [upd_same, hits_succ hz1 hz2, List.map_append]
          rfl
      refine ⟨.int z1, rfl, .int z2, rfl, rfl, ?_⟩
      by_cases hz : z1 = z2
      · subst hz
        rw [decide_eq_true (rfl : V.int z1 = V.int z1)]
        refine ⟨true, rfl, iteT ⟨.int z1, rfl, rfl, ?_⟩⟩
        refine fin _ ?_
        by_cases hn : z1 = -1
        · subst hn; rfl
        · rw [decide_eq_false fun z => hn (V.int.inj z)]
          simp [hn]
      · rw [decide_eq_false fun z => hz (V.int.inj z)]
        refine ⟨false, rfl, iteF (fin _ ?_)⟩
        simp [hz]
    · refine ⟨D, _, rfl, .of h.2, ?_⟩
      rw [hits_any]
      exact q H' (s1.trans h.1)
/-! ### bars -/
def spBars (K : PySem.W.Frag) : Sp := fun vs H Q _ => ∃ (a b : Addr) (one other : List Int), vs = [.ref a, .ref b] ∧ SqT K H a (one.map V.int) ∧ SqT K H b (other.map V.int) ∧ IsWork one ∧ IsWork other ∧
  ∀ H' p, Same H H' → H p = none → H' p = some (.tup (nV (barsN one other))) → Q (.ref p) H'
theorem ok_bars {f f1 f2 : Addr} {fd fd1 fd2 : FuncData} {k : Nat} (F : Fun K "bars" "bars" s_bars f fd)
    (G1 : FnOk P w K mg base CX0 k f1 fd1 ["thing"] (spReq K)) (kp1 : PySem.W.keepIn K (.ref f1) = true) (b1 : Binds K fd1 ["thing"] []) (g1 : mg "require_work" = some (.ref f1))
    (G2 : FnOk P w K mg base CX0 k f2 fd2 ["one", "other", "distance"] (spClash K)) (kp2 : PySem.W.keepIn K (.ref f2) = true) (b2 : Binds K fd2 ["one", "other", "distance"] []) (g2 : mg "_clashes_behind" = some (.ref f2))
    (m1 : mg "tuple" = none) (m2 : mg "range" = none) (m3 : mg "len" = none) :
    FnOk P w K mg base CX0 (k + 1) f fd ["one", "other"] (spBars K) := by
  refine F.ok sc_bars (fun vs H Q E h => ?_) (fun cdv A outer s H vs Q E hr h => ?_)
  · obtain ⟨a, b, o1, o2, rfl, _⟩ := h; rfl
  · obtain ⟨a, b, one, other, rfl, hA, hB, w1, w2, q⟩ := h
    refine ⟨_, pss_cons (ps_expr (pe_call G1 hr (by rfl) g1 kp1 b1 .nil pass0 (pa_cons (pv 0) pa_nil))) (pss_cons (ps_expr (pe_call G1 hr (by rfl) g1 kp1 b1 .nil pass0 (pa_cons (pv 1) pa_nil)))
      (pss_one (ps_ret (pe_callTy call_tuple_of (by rfl) m1 (by decide +kernel) (pa_cons
        (pe_lc (own := [("distance", 2)]) (g := gName 2) rfl sc_bars.nd (pi_range2 (by rfl) m2 (pa_cons pe_int (pa_cons (pe_callB call_len_seq (by rfl) m3 PySem.boot_len (pa_cons (pv 0) pa_nil)) pa_nil)))
          (blkOk_by (N := ["one", "other", "distance"]) (sc := defScope s_bars) (by decide +kernel))
          (fun _ _ _ _ _ => pg_name (i := 2) sc_bars.nd rfl (Or.inl rfl))
          (fun _ _ _ _ _ => pts_one (pt_val (pe_call G2 hr (by rfl) g2 kp2 b2 .nil pass0 (pa_cons (pv 0) (pa_cons (pv 1) (pa_cons (pv 2) pa_nil))))))
          (fun _ _ _ _ _ => pv 2)) pa_nil))))), ?_⟩
    refine ⟨.ref a, rfl, a, one, rfl, hA, w1, fun H1 e1 => ?_⟩
    refine ⟨.ref b, rfl, b, other, rfl, Same.tup e1 hB, w2, fun H2 e2 => ?_⟩
    have e12 : Same H H2 := e1.trans e2
    have hA2 := Same.tup e12 hA
    have hB2 := Same.tup e12 hB
    refine ⟨.ref a, rfl, a, one.map V.int, rfl, .inr hA2, 1, _, rfl, ?_, fun D hD => ?_⟩
    · rw [List.length_map]
      have := w1.most
      omega
    have en : (((one.map V.int).length : Int) - 1).toNat = one.length - 1 := by rw [List.length_map]; omega
    rw [en]
    refine lc_range (lo := 1) (n := one.length - 1) (fun i H' => Same H2 H' ∧ H' D = some (.lst (nV (barsTo one other i)))) ⟨same_new hD, upd_same⟩ (fun i H' hi h => ?_) (fun H' h => ?_)
    · refine ⟨rfl, ?_⟩
      have ed : ((1 : Int) + (i : Int)) = ((1 + i : Nat) : Int) := by omega
      refine ⟨.ref a, rfl, .ref b, rfl, .int (1 + i), rfl, a, b, one, other, 1 + i, by rw [ed]; rfl, Same.tup h.1 hA2, Same.tup h.1 hB2, w1.most, by omega, by omega, fun H'' e3 => ?_⟩
      refine ⟨_, rfl, ?_⟩
      have hD3 := e3 _ _ h.2
      cases hc : clashB one other (1 + i) with
      | true =>
        refine iteT ⟨_, rfl, _, hD3, ?_, fun y o e => ?_, ?_⟩
        · rw [List.length_map]
          have := barsTo_len one other i
          have := w1.most
          exact small1000 (by omega)
        · rw [upd_ne (ne_of_none e hD)]
          exact e3 _ _ (h.1 _ _ e)
        · rw [upd_same, barsTo_yes hc]
      | false =>
        refine iteF ⟨h.1.trans e3, ?_⟩
        rw [barsTo_no hc]
        exact hD3
    · refine ⟨D, _, rfl, .inl ⟨.of h.2, fun l hl => ?_⟩⟩
      have e3 : Same H H' := e12.trans h.1
      exact q _ l (e3.trans (same_new hl)) (Same.free e3 hl) upd_same
end
end Sg

set_option Elab.async false
set_option linter.all false
set_option maxRecDepth 100000
set_option maxHeartbeats 4000000
namespace Sg
open PySem PySem.Spec PyProof.Rows L2
section
variable {P : Program} {w : World} {K : PySem.W.Frag} {mg : Str → Option Value} {base : Heap}
/-! ### len -/
def spLen (K : PySem.W.Frag) (C : Addr) : Sp := fun vs H Q _ => ∃ (a : Addr) (ws : List (List Int)), vs = [.ref a] ∧ LineAt K C H a ws ∧ Q (.int (ws.length : Nat)) H
theorem ok_len {f C : Addr} {fd : FuncData} {k : Nat} (F : Fun K "__len__" "Line.__len__" s_Line_len f fd) (T : LC K mg C) (m1 : mg "len" = none) :
    FnOk P w K mg base CX0 (k + 1) f fd ["self"] (spLen K C) := by
  refine F.ok sc_Line_len (fun vs H Q E h => ?_) (fun cdv A outer s H vs Q E hr h => ?_)
  · obtain ⟨a, ws, rfl, _⟩ := h; rfl
  · obtain ⟨a, ws, rfl, ⟨dx, t, b, r, h1, h2, h3, h4, h5⟩, q⟩ := h
    refine ⟨_, pss_one (ps_ret (pe_callB call_len_seq (by rfl) m1 PySem.boot_len (pa_cons (pe_fld (pv 0) rfl) pa_nil))), ?_⟩
    obtain ⟨t', xs, e, hS, hT⟩ := h2.toTup
    cases e
    refine ⟨.ref a, rfl, a, C, dx, _, _, rfl, h1, T.cl, T.nW, lf_works _ _ _, t, xs, rfl, .inr hS, ?_⟩
    have e := hT.len
    rw [List.length_map] at e
    rw [e]
    exact q
/-! ### is_kind -/
def spIsKind (K : PySem.W.Frag) (C : Addr) : Sp := fun vs H Q _ => ∃ (a : Addr) (ws : List (List Int)) (i : Int), vs = [.ref a, .int i] ∧ LineAt K C H a ws ∧ Q (.bl (decide (0 ≤ i) && decide (i ≤ (ws.length : Nat) - 1))) H
theorem ok_is_kind {f f1 f2 C : Addr} {fd fd1 fd2 : FuncData} {k : Nat} (F : Fun K "is_kind" "is_kind" s_is_kind f fd) (T : LC K mg C) (m1 : mg "len" = none)
    (G1 : FnOk P w K mg base CX0 k f1 fd1 ["thing", "least", "most"] spIsBetween) (kp1 : PySem.W.keepIn K (.ref f1) = true) (b1 : Binds K fd1 ["thing", "least", "most"] []) (g1 : mg "is_between" = some (.ref f1))
    (G2 : FnOk P w K mg base CX0 k f2 fd2 ["self"] (spLen K C)) (b2 : Binds K fd2 ["self"] []) (s2 : PySem.W.findIn K (.ref C) "__len__" = some (some (.ref f2))) (i2 : PySem.W.isFn K (.ref f2) = true) :
    FnOk P w K mg base CX0 (k + 2) f fd ["line", "thing"] (spIsKind K C) := by
  refine F.ok sc_is_kind (fun vs H Q E h => ?_) (fun cdv A outer s H vs Q E hr h => ?_)
  · obtain ⟨a, ws, i, rfl, _⟩ := h; rfl
  · obtain ⟨a, ws, i, rfl, hL, q⟩ := h
    refine ⟨_, pss_one (ps_ret (pe_call G1 (hr.mono (Nat.le_succ k)) (by rfl) g1 kp1 b1 .nil pass0 (pa_cons (pv 1) (pa_cons pe_int (pa_cons (pe_op op_sub (pe_callB (call_lenO G2 hr b2 s2 i2) (by rfl) m1 PySem.boot_len (pa_cons (pv 0) pa_nil)) pe_int) pa_nil))))), ?_⟩
    refine ⟨.int i, rfl, .ref a, rfl, a, rfl, hL.ins, a, ws, rfl, hL, ws.length, rfl, ?_, _, 1, rfl, rfl, i, 0, _, rfl, q⟩
    have := hL.good.few
    omega
def spReqKind (K : PySem.W.Frag) (C : Addr) : Sp := fun vs H Q _ => ∃ (a : Addr) (ws : List (List Int)) (i : Nat), vs = [.ref a, .int i] ∧ LineAt K C H a ws ∧ i < ws.length ∧ Q .non H
theorem ok_require_kind {f f1 C : Addr} {fd fd1 : FuncData} {k : Nat} (F : Fun K "require_kind" "require_kind" s_require_kind f fd)
    (G1 : FnOk P w K mg base CX0 k f1 fd1 ["line", "thing"] (spIsKind K C)) (kp1 : PySem.W.keepIn K (.ref f1) = true) (b1 : Binds K fd1 ["line", "thing"] []) (g1 : mg "is_kind" = some (.ref f1)) :
    FnOk P w K mg base CX0 (k + 1) f fd ["line", "thing"] (spReqKind K C) := by
  refine F.ok sc_require_kind (fun vs H Q E h => ?_) (fun cdv A outer s H vs Q E hr h => ?_)
  · obtain ⟨a, ws, i, rfl, _⟩ := h; rfl
  · obtain ⟨a, ws, i, rfl, hL, hi, q⟩ := h
    refine ⟨_, pss_one (ps_if (pt_not (pt_val (pe_call G1 hr (by rfl) g1 kp1 b1 .nil pass0 (pa_cons (pv 0) (pa_cons (pv 1) pa_nil))))) (pss_one ps_never) pss_nil), ?_⟩
    refine ⟨.ref a, rfl, .int i, rfl, a, ws, i, rfl, hL, ?_⟩
    rw [decide_eq_true (show (0 : Int) ≤ i by omega), decide_eq_true (show (i : Int) ≤ (ws.length : Nat) - 1 by omega)]
    exact ⟨true, rfl, iteF q⟩
/-! ### _bars_of_all -/
def spBarsAll (K : PySem.W.Frag) : Sp := fun vs H Q _ => ∃ (a : Addr) (ws : List (List Int)), vs = [.ref a] ∧ Tp K H (.ref a) (.tuple (tDs ws)) ∧ GoodL ws ∧
  ∀ H' p, Same H H' → Tp K H' (.ref p) (.tuple (barD ws)) → Q (.ref p) H'
theorem ok_bars_of_all {f f1 : Addr} {fd fd1 : FuncData} {k : Nat} (F : Fun K "_bars_of_all" "_bars_of_all" s_bars_of_all f fd) (m1 : mg "tuple" = none)
    (G1 : FnOk P w K mg base CX0 k f1 fd1 ["one", "other"] (spBars K)) (kp1 : PySem.W.keepIn K (.ref f1) = true) (b1 : Binds K fd1 ["one", "other"] []) (g1 : mg "bars" = some (.ref f1)) :
    FnOk P w K mg base CX0 (k + 1) f fd ["works"] (spBarsAll K) := by
  refine F.ok sc_bars_of_all (fun vs H Q E h => ?_) (fun cdv A outer s H vs Q E hr h => ?_)
  · obtain ⟨a, ws, rfl, _⟩ := h; rfl
  · obtain ⟨a, ws, rfl, hW, hg, q⟩ := h
    refine ⟨_, pss_one (ps_ret (pe_callTy call_tuple_of (by rfl) m1 (by decide +kernel) (pa_cons
      (pe_lc (own := [("one", 2)]) (g := gName 2) (tt := tYes) rfl sc_bars_of_all.nd (pi_tup (pv 0)) (blkOk_by (N := ["works", "other", "one"]) (sc := defScope s_bars_of_all) (by decide +kernel))
        (fun _ _ _ _ _ => pg_name (i := 2) sc_bars_of_all.nd rfl (Or.inr rfl)) (fun _ _ _ _ _ => pts_nil)
        (fun s' H' C' cl fp => pe_callTy (call_tuple_ofK (K := K) rfl) (by rfl) m1 (by decide +kernel) (pa_cons
          (pe_lc (own := [("other", 1)]) (g := gName 1) (tt := tYes) rfl sc_bars_of_all.nd (pi_tupK (K := K) rfl (pv 0)) (blkOk_by (by rfl))
            (fun _ _ _ _ _ => pg_name (i := 1) sc_bars_of_all.nd rfl (Or.inl rfl)) (fun _ _ _ _ _ => pts_nil)
            (fun _ _ _ _ _ => pe_call G1 hr (by rfl) g1 kp1 b1 .nil pass0 (pa_cons (pv 2) (pa_cons (pv 1) pa_nil)))) pa_nil))) pa_nil))), ?_⟩
    obtain ⟨a', xs, ea, hS, hT⟩ := hW.toTup
    cases ea
    have hlen := hT.len
    rw [List.length_map] at hlen
    refine ⟨.ref a, rfl, a, rfl, ⟨_, hS⟩, fun D hD => ?_⟩
    refine lc_tup (xs := xs) (fun i H' => Grow K H D (barD ws) i H') (.zero hD) (fun i H' _ h => Same.tup h.1 hS) (fun i x H' hx h => ?_) (fun H' h => ?_)
    · obtain ⟨o, c1, ho, rfl, hc1⟩ := hT.works hx
      have fewr : (ws.map (cellD o)).length ≤ 1000 := by
        have := hg.few
        rw [List.length_map]
        omega
      refine ⟨rfl, ?_⟩
      refine ⟨.ref a, rfl, a, rfl, ⟨_, Same.tup h.1 hS⟩, fun D2 hD2 => ?_⟩
      refine lc_tup (xs := xs) (fun j H2 => Grow K H' D2 (ws.map (cellD o)) j H2) (.zero hD2) (fun i H2 _ h2 => Same.tup (h.1.trans h2.1) hS) (fun j y H2 hy h2 => ?_) (fun H2 h2 => ?_)
      · obtain ⟨o2, c2, ho2, rfl, hc2⟩ := hT.works hy
        refine ⟨rfl, .ref c1, rfl, .ref c2, rfl, c1, c2, o, o2, rfl, Same.tup (h.1.trans h2.1) hc1, Same.tup (h.1.trans h2.1) hc2, hg.mem ho, hg.mem ho2, fun H3 p e3 np hp => ?_⟩
        refine h2.next hD2 fewr e3 (by rw [List.getElem?_map, ho2]; rfl) (.ofInts ?_)
        rw [← nV_eq]
        exact .of hp
      · obtain ⟨e2, acc, g1, g2⟩ := h2.done (by rw [List.length_map, hlen])
        refine ⟨D2, acc, rfl, .inl ⟨.of g1, fun l nl => ?_⟩⟩
        exact h.next hD hg.lt (e2.trans (same_new nl)) (by rw [List.getElem?_map, ho]; rfl) (.new nl g2)
    · obtain ⟨e2, acc, g1, g2⟩ := h.done (by rw [List.length_map, hlen])
      exact ⟨D, acc, rfl, .inl ⟨.of g1, fun l nl => q _ l (e2.trans (same_new nl)) (.new nl g2)⟩⟩
end
end Sg

set_option Elab.async false
set_option linter.all false
set_option maxRecDepth 100000
set_option maxHeartbeats 4000000
namespace Sg
open PySem PySem.Spec PyProof.Rows L2 StX
/-! ## the bars of a line, flat -/
theorem flatL_of {K : PySem.W.Frag} {H : Hp} {a : List Int} : ∀ {cells : List V} {ws : List (List Int)}, TpAll K H cells (ws.map (cellD a)) → FlatL K H cells ((rowB a ws).map V.int)
  | _, [], .no => .nil
  | _, b :: ws, .on t r => by
    obtain ⟨c, rfl, hs⟩ := t.toInts
    show FlatL K H _ ((nI (barsN a b) ++ rowB a ws).map V.int)
    rw [List.map_append]
    exact .cons hs (flatL_of r)
theorem flatR_of {K : PySem.W.Frag} {H : Hp} {vs : List (List Int)} : ∀ {rows : List V} {ws : List (List Int)}, TpAll K H rows (ws.map fun a => rowD a vs) → FlatR K H rows ((allB ws vs).map V.int)
  | _, [], .no => .nil
  | _, b :: ws, .on t r => by
    obtain ⟨c, xs, rfl, hs, ht⟩ := t.toTup
    show FlatR K H _ ((rowB b vs ++ allB ws vs).map V.int)
    rw [List.map_append]
    exact .cons hs (flatL_of ht) (flatR_of r)
theorem bars_le {a b : List Int} (h : IsWork a) : (nI (barsN a b)).length ≤ 60 := by
  rw [List.length_map]
  have := h.most
  exact Nat.le_trans (barsTo_len a b (a.length - 1)) (by omega)
theorem rowB_len {a : List Int} (h : IsWork a) : ∀ (ws : List (List Int)), (rowB a ws).length ≤ 60 * ws.length
  | [] => Nat.le_refl _
  | b :: ws => by
    show (nI (barsN a b) ++ rowB a ws).length ≤ _
    rw [List.length_append, List.length_cons]
    have := bars_le h (b := b)
    have := rowB_len h ws
    omega
theorem allB_len {vs : List (List Int)} : ∀ (ws : List (List Int)), (∀ w ∈ ws, IsWork w) → (allB ws vs).length ≤ 60 * vs.length * ws.length
  | [], _ => Nat.zero_le _
  | b :: ws, h => by
    show (rowB b vs ++ allB ws vs).length ≤ _
    rw [List.length_append, List.length_cons, Nat.mul_succ]
    have := rowB_len (h b List.mem_cons_self) vs
    have := allB_len (vs := vs) ws fun w hw => h w (List.mem_cons_of_mem _ hw)
    omega
theorem mem_allB {ws vs : List (List Int)} {x : Int} : x ∈ allB ws vs ↔ ∃ a ∈ ws, ∃ b ∈ vs, x ∈ nI (barsN a b) := by
  unfold allB rowB
  simp only [List.mem_flatMap]
theorem bar_pos {a b : List Int} {x : Int} (h : x ∈ nI (barsN a b)) : 1 ≤ x := by
  obtain ⟨d, hd, rfl⟩ := List.mem_map.mp h
  have := (List.mem_range'_1.mp (List.mem_filter.mp hd).1).1
  omega
theorem top_of {l : List Int} {m : Int} (hp : ∀ x ∈ l, 1 ≤ x) (h0 : l = [] → m = 0) (h1 : l ≠ [] → m ∈ l ∧ ∀ x ∈ l, x ≤ m) : Top l m := by
  by_cases z : l = []
  · have e := h0 z
    subst z
    exact ⟨by omega, fun x hx => (nomatch hx), .inl e⟩
  · obtain ⟨g1, g2⟩ := h1 z
    exact ⟨by have := hp _ g1; omega, g2, .inr g1⟩
section
variable {P : Program} {w : World} {K : PySem.W.Frag} {mg : Str → Option Value} {base : Heap}
/-! ### __init__ -/
def spInit (K : PySem.W.Frag) (C : Addr) : Sp := fun vs H Q _ => ∃ (x dx : Addr) (rest : List V) (ws : List (List Int)), vs = .ref x :: rest ∧ H x = some (.ins C dx []) ∧ TpAll K H rest (tDs ws) ∧ GoodL ws ∧
  ∀ H', (∀ b o, H b = some o → b ≠ x → H' b = some o) → LineAt K C H' x ws → Q .non H'
theorem ok_init {f f1 f2 C : Addr} {fd fd1 fd2 : FuncData} {k : Nat} (F : Fun K "__init__" "Line.__init__" s_Line_init f fd) (T : LC K mg C) (hM : ∃ t, mg "MOST_WORKS" = some (.int 3 t))
    (G1 : FnOk P w K mg base CX0 k f1 fd1 ["thing"] (spIsWork K)) (kp1 : PySem.W.keepIn K (.ref f1) = true) (b1 : Binds K fd1 ["thing"] []) (g1 : mg "is_work" = some (.ref f1))
    (G2 : FnOk P w K mg base CX0 k f2 fd2 ["works"] (spBarsAll K)) (kp2 : PySem.W.keepIn K (.ref f2) = true) (b2 : Binds K fd2 ["works"] []) (g2 : mg "_bars_of_all" = some (.ref f2))
    (m1 : mg "all" = none) (m2 : mg "len" = none) (m3 : mg "max" = none) : FnR P w K mg base CX0 (k + 1) f (spInit K C) := by
  obtain ⟨tM, nM⟩ := hM
  obtain ⟨oc, od, kV, doc, pm, an, cdv, ct, osl, rfl, lk, hcd⟩ := F.ex
  have R := fn_star (CX := CX0) (P := P) (w := w) (mg := mg) (base := base) (k := k) (ps := ["self"]) (pv := "works") (sp := fun vs H Q _ => ∃ (x dx p : Addr) (rest : List V) (ws : List (List Int)), vs = [.ref x, .ref p] ∧ H x = some (.ins C dx []) ∧ H p = some (.tup rest) ∧ TpAll K H rest (tDs ws) ∧ GoodL ws ∧
    ∀ H', (∀ b o, H b = some o → b ≠ x → H' b = some o) → LineAt K C H' x ws → Q .non H') lk hcd sc_Line_init cxUp_none (bind_star1 (B := fun us => bindArgs (PySem.W.fnOf "__init__" "Line.__init__" (defArgs s_Line_init) (defBody s_Line_init) (defScope s_Line_init) .none kV doc pm an cdv ct) ⟨us, []⟩) (fun _ => rfl) (fun _ _ _ => rfl)) ?_
  · refine R.imp fun vs H Q E h => ?_
    obtain ⟨x, dx, rest, ws, rfl, hx, hT, hg, q⟩ := h
    have hl := hT.len
    have := hg.few
    rw [List.length_map] at hl
    refine ⟨[.ref x], rest, rfl, rfl, Nat.le_of_lt (small1000 (by omega)), fun p np => ⟨x, dx, p, rest, ws, rfl, same_new np _ _ hx, upd_same, hT.stay (.of (same_new np)), hg, fun H' hk hL => q H' (fun b o e hb => hk b o (same_new np _ _ e) hb) hL⟩⟩
  · intro A outer s H vs Q E hr h
    obtain ⟨x, dx, p, rest, ws, rfl, hx, hp, hT, hg, q⟩ := h
    refine ⟨_, pss_cons (ps_if (PW.pt (pw_or (pt_not (pt_truth (pv 1) (fun _ => rfl))) (pw_or1 (pt_not (pt_val (pe_callB (cr_all rfl) (by rfl) m1 (by decide +kernel) (pa_cons
        (pe_lc (own := [("work", 2)]) (g := gName 2) (tt := tYes) rfl sc_Line_init.nd (pi_tup (pv 1)) (blkOk_by (N := ["self", "works", "work", "row", "pair", "bar"]) (sc := defScope s_Line_init) (by decide +kernel))
          (fun _ _ _ _ _ => pg_name (i := 2) sc_Line_init.nd rfl (Or.inl rfl)) (fun _ _ _ _ _ => pts_nil)
          (fun _ _ _ _ _ => pe_call G1 hr (by rfl) g1 kp1 b1 .nil pass0 (pa_cons (pv 2) pa_nil))) pa_nil))))))) (pss_one ps_never) pss_nil)
      (pss_cons (ps_if (pt_cmpR op_gt (pe_callB call_len_seq (by rfl) m2 PySem.boot_len (pa_cons (pv 1) pa_nil)) (pe_glob (v := .int 3) (by rfl) nM ⟨_, rfl⟩) (nomark _)) (pss_one ps_never) pss_nil)
      (pss_cons (ps_fld (pv 0) (pv 1) rfl)
      (pss_cons (ps_fld (pv 0) (pe_call G2 hr (by rfl) g2 kp2 b2 .nil pass0 (pa_cons (pv 1) pa_nil)) rfl)
      (pss_one (ps_fld (pv 0) (pe_callBK (cr_maxD rfl hr) (by rfl) m3 (by decide +kernel) (pa_cons (pe_flat (k1 := 3) (k2 := 4) (k3 := 5) (own := [("row", 3), ("pair", 4), ("bar", 5)]) rfl sc_Line_init.nd (pe_fld (pv 0) rfl)
          (blkOk_by (N := ["self", "works", "work", "row", "pair", "bar"]) (sc := defScope s_Line_init) (by decide +kernel)) rfl rfl rfl (fun _ _ => rfl) (fun _ _ => rfl) (fun _ _ => rfl)) pa_nil) (pk_cons pe_int pk_nil)) rfl))))), ?_⟩
    have hl := hT.len
    rw [List.length_map] at hl
    have hp' : SqT K H p rest := .of hp
    have hemp : (!rest.isEmpty) = true := by
      have := hg.least
      cases rest with
      | nil => rw [← hl] at this; exact absurd this (by decide)
      | cons => rfl
    refine ⟨.ref p, rfl, !rest.isEmpty, .inr (.inl ⟨rest, hp', rfl⟩), ?_⟩
    rw [hemp]
    refine iteF ?_
    refine ⟨.ref p, rfl, p, rfl, ⟨_, hp'⟩, fun D hD => ?_⟩
    refine lc_tup (xs := rest) (fun i H' => Same H H' ∧ H' D = some (.lst (((List.replicate i true)).map V.bl))) ⟨same_new hD, upd_same⟩ (fun i H' _ h => Same.tup h.1 hp') (fun i y H' hy h => ?_) (fun H' h => ?_)
    · obtain ⟨w1, c, hw, rfl, hc⟩ := hT.works hy
      refine ⟨rfl, .ref c, rfl, c, w1, rfl, Same.tup h.1 hc, hg.mem hw, fun H2 e2 => ?_⟩
      refine ⟨_, e2 _ _ h.2, ?_, fun b o e => ?_, ?_⟩
      · rw [List.length_map, List.length_replicate]
        have := hg.few
        have := (List.getElem?_eq_some_iff.mp hw).1
        exact small1000 (by omega)
      · rw [upd_ne (ne_of_none e hD)]
        exact e2 _ _ (h.1 _ _ e)
      · rw [upd_same, List.replicate_succ', List.map_append]
        rfl
    · have hall : (List.replicate rest.length true).all id = true := by simp
      refine ⟨D, _, rfl, .of h.2, true, congrArg V.bl hall, iteF ?_⟩
      have hpH : SqT K H' p rest := Same.tup h.1 hp'
      refine ⟨.ref p, rfl, p, rest, rfl, .inr hpH, _, 3, rfl, rfl, _, rfl, ?_⟩
      have c3 : decide ((((rest.length : Nat) : Int)) > 3) = false := decide_eq_false (by have := hg.few; omega)
      rw [c3]
      refine iteF ?_
      have hx1 := h.1 _ _ hx
      refine ⟨.ref p, rfl, .ref x, rfl, x, C, dx, [], rfl, hx1, T.cl, T.nW, (by show 0 < 1000; decide), ?_⟩
      have hW1 : Tp K H' (.ref p) (.tuple (tDs ws)) := .tu hpH (hT.stay (.of h.1))
      have hW2 := hW1.stayT (tu_ins hx1 (o := .ins C dx (putF "_works" (.ref p) [])))
      generalize hH2 : upd H' x (.ins C dx (putF "_works" (.ref p) [])) = H2 at hW2 ⊢
      have hx2 : H2 x = some (.ins C dx (putF "_works" (.ref p) [])) := by rw [← hH2]; exact upd_same
      refine ⟨.ref p, rfl, p, ws, rfl, hW2, hg, fun H3 b e3 hb => ?_⟩
      have hx3 := e3 _ _ hx2
      refine ⟨.ref x, rfl, x, C, dx, _, rfl, hx3, T.cl, T.nB, (by show 1 < 1000; decide), ?_⟩
      have hW4 := (hW2.stay (.of e3)).stayT (tu_ins hx3 (o := .ins C dx (putF "_bars" (.ref b) (putF "_works" (.ref p) []))))
      have hB4 := hb.stayT (tu_ins hx3 (o := .ins C dx (putF "_bars" (.ref b) (putF "_works" (.ref p) []))))
      generalize hH4 : upd H3 x (.ins C dx (putF "_bars" (.ref b) (putF "_works" (.ref p) []))) = H4 at hW4 hB4 ⊢
      have hx4 : H4 x = some (.ins C dx (putF "_bars" (.ref b) (putF "_works" (.ref p) []))) := by rw [← hH4]; exact upd_same
      obtain ⟨b', rows, eb, hbS, hbT⟩ := hB4.toTup
      cases eb
      have lb : (putF "_bars" (.ref b) (putF "_works" (.ref p) [])).lookup ("_bars" : Str) = some (.ref b) := by rw [lookup_putF, if_pos rfl]
      have lenB : ((allB ws ws).map V.int).length ≤ 1000000 := by
        rw [List.length_map]
        have z := allB_len (vs := ws) ws hg.work
        have := hg.few
        have z2 : 60 * ws.length * ws.length ≤ 60 * 3 * 3 := Nat.mul_le_mul (Nat.mul_le_mul (Nat.le_refl _) this) this
        omega
      refine ⟨.ref x, rfl, x, C, dx, _, _, rfl, hx4, T.cl, T.nB, lb, b, rows, _, rfl, hbS, flatR_of hbT, lenB, fun D2 nD2 => ?_⟩
      have s5 : Same H4 (upd H4 D2 (.lst ((allB ws ws).map V.int))) := same_new nD2
      refine ⟨D2, allB ws ws, 0, rfl, rfl, .of upd_same, fun m h0 h1 => ?_⟩
      have hx5 := s5 _ _ hx4
      refine ⟨.ref x, rfl, x, C, dx, _, rfl, hx5, T.cl, T.nR, (by show 2 < 1000; decide), ?_⟩
      have hW6 := (hW4.stay (.of s5)).stayT (tu_ins hx5 (o := .ins C dx (lf p b m)))
      have hB6 := (hB4.stay (.of s5)).stayT (tu_ins hx5 (o := .ins C dx (lf p b m)))
      refine q _ (fun c o e hc => ?_) ⟨dx, p, b, m, upd_same, hW6, hB6, top_of (fun y hy => ?_) h0 h1, hg⟩
      · rw [upd_ne hc]
        refine s5 _ _ ?_
        rw [← hH4, upd_ne hc]
        refine e3 _ _ ?_
        rw [← hH2, upd_ne hc]
        exact h.1 _ _ e
      · obtain ⟨_, _, _, _, z⟩ := mem_allB.mp hy
        exact bar_pos z
end
end Sg

set_option Elab.async false
set_option linter.all false
set_option maxRecDepth 100000
set_option maxHeartbeats 4000000
namespace Sg
open PySem PySem.Spec PyProof.Rows L2 StX
/-! ## a Line is made -/
theorem make_line {K : PySem.W.Frag} {C : Addr} {H1 : Hp} {vs : List V} {ws : List (List Int)} {Q : VK} (hT : TpAll K H1 vs (tDs ws)) (hg : GoodL ws)
    (q : ∀ H' a, Same H1 H' → H1 a = none → LineAt K C H' a ws → Q (.ref a) H') :
    ∀ x dx, H1 x = none → H1 dx = none → dx ≠ x → spInit K C (V.ref x :: vs) (upd (upd H1 dx (.own x)) x (.ins C dx [])) (fun v H2 => v = .non ∧ Q (.ref x) H2) E0 := by
  intro x dx nx ndx ne
  have s0 : Same H1 (upd (upd H1 dx (.own x)) x (.ins C dx [])) := fun b o e => by
    rw [upd_ne (ne_of_none e nx), upd_ne (ne_of_none e ndx)]
    exact e
  exact ⟨x, dx, vs, ws, rfl, upd_same, hT.stay (.of s0), hg, fun H' hk hL => ⟨rfl, q H' x (fun b o e => hk b o (s0 b o e) (ne_of_none e nx)) nx hL⟩⟩
/-- C(*e) -/
theorem pe_makeS {X : Cx} {CX : CXT} {k : Nat} {f C : Addr} {sp : Sp} {E : XK} {x : Str} {e : Expr} {te : TE} {p pos sp_ : Pos} (M : Mk X.K C f) (F : FnR X.prog X.w X.K X.mg X.base CX k f sp) (hr : Room (k + 1) X.A)
    (hg : Gl X x) (hm : X.mg x = some (.ref C)) (hx : Passes CX X E) (he : PE X e te) (hd : (x == ("__debug__" : Str)) = false := by decide) (hst : starEach [.Starred e sp_] X.env = [(true, eval e X.env)] := by rfl) :
    PE X (.Call (.Name x p) [.Starred e sp_] [] pos) (fun σ H Q => te σ H fun y H1 => ∃ a xs, y = V.ref a ∧ (SqT X.K H1 a xs ∨ SqL X.K H1 a xs) ∧
      ∀ z dz, H1 z = none → H1 dz = none → dz ≠ z → sp (V.ref z :: xs) (upd (upd H1 dz (.own z)) z (.ins C dz [])) (fun v H2 => v = .non ∧ Q (.ref z) H2) E) := by
  refine ⟨fun pins s σ H Q I h => wpAny_Call_Name_kw (ld_glob I hg hm ?_ hd)⟩
  refine PySem.W.callWith_S (h₀ := X.base) I.ok.mod.kin M.kp (thn (he.run pins s σ H _ I h) fun v s1 ⟨y, H1, I1, ry, a, xs, ey, hxs, q⟩ => ?_) hst
  subst ey
  obtain rfl : v = Value.ref a := ry
  exact star_any I1 hxs fun us s2 I2 rv => ⟨I2.kIn, run_makeR M F hr hx I2 rv q⟩
theorem GoodL.back {ws : List (List Int)} (h : GoodL ws) : GoodL (ws.map List.reverse) := by
  refine ⟨by rw [List.length_map]; exact h.least, by rw [List.length_map]; exact h.few, fun w hw => ?_⟩
  obtain ⟨v, hv, rfl⟩ := List.mem_map.mp hw
  have i := h.work v hv
  refine ⟨by rw [List.length_reverse]; exact i.pos, by rw [List.length_reverse]; exact i.most, fun x hx => i.items x (List.mem_reverse.mp hx), fun x hx => ?_, fun x hx => ?_⟩
  · have := i.pos
    rw [List.getElem?_reverse (by omega)] at hx
    exact i.last x (by rw [← hx]; congr 1)
  · have := i.pos
    rw [List.length_reverse, List.getElem?_reverse (by omega)] at hx
    exact i.head x (by rw [← hx]; congr 1; omega)
theorem cut_upto (xs : List V) (d : Nat) : cutV xs none (some (d : Int)) = xs.take d := by
  unfold cutV
  rw [HT.sIx_nat, HT.sIx_none, List.drop_zero, Nat.sub_zero]
  rcases Nat.le_total d xs.length with h | h
  · rw [Nat.min_eq_left h]
  · rw [Nat.min_eq_right h, List.take_of_length_le h, List.take_length]
end Sg

set_option Elab.async false
set_option linter.all false
set_option maxRecDepth 100000
set_option maxHeartbeats 4000000
namespace Sg
open PySem PySem.Spec PyProof.Rows L2 StX
/-- what isinstance asks of the class -/
structure LI (K : PySem.W.Frag) (C : Addr) : Prop where
  ha : PySem.W.findIn K (.ref C) "__class__" = some (some (.builtin "object.__class__"))
  hn : PySem.W.specialIn K (.builtin "object.__class__") "__get__" = some (some (.builtin "getset_descriptor.__get__"))
  ht : PySem.W.takesIn K (.builtin "object.__class__") = some true
  hm : PySem.W.mroIn K C (.type "object") = some true
  kit : PySem.W.kitOne K (.ref C) (.ref C) = some true
section
variable {P : Program} {w : World} {K : PySem.W.Frag} {mg : Str → Option Value} {base : Heap}
theorem isLine {C a : Addr} {H : Hp} {ws : List (List Int)} (c : Cls K C) (T : LI K C) (h : LineAt K C H a ws) : TyX K H (.ref a) (.ref C) := by
  obtain ⟨dx, t, b, r, h1, _⟩ := h
  exact .base (.ins h1 c T.ha T.hn T.ht T.hm)
/-! ### line(one, other) -/
def spCall (K : PySem.W.Frag) (C : Addr) : Sp := fun vs H Q _ => ∃ (a : Addr) (ws : List (List Int)) (i j : Nat) (x y : List Int), vs = [.ref a, .int i, .int j] ∧ LineAt K C H a ws ∧ ws[i]? = some x ∧ ws[j]? = some y ∧
  ∀ c, SqT K H c (nV (barsN x y)) → Q (.ref c) H
theorem ok_call {f f1 C : Addr} {fd fd1 : FuncData} {k : Nat} (F : Fun K "__call__" "Line.__call__" s_Line_call f fd) (T : LC K mg C)
    (G1 : FnOk P w K mg base CX0 k f1 fd1 ["line", "thing"] (spReqKind K C)) (kp1 : PySem.W.keepIn K (.ref f1) = true) (b1 : Binds K fd1 ["line", "thing"] []) (g1 : mg "require_kind" = some (.ref f1)) :
    FnOk P w K mg base CX0 (k + 1) f fd ["self", "one", "other"] (spCall K C) := by
  refine F.ok sc_Line_call (fun vs H Q E h => ?_) (fun cdv A outer s H vs Q E hr h => ?_)
  · obtain ⟨a, ws, i, j, x, y, rfl, _⟩ := h; rfl
  · obtain ⟨a, ws, i, j, x, y, rfl, hL, hx, hy, q⟩ := h
    refine ⟨_, pss_cons (ps_expr (pe_call G1 hr (by rfl) g1 kp1 b1 .nil pass0 (pa_cons (pv 0) (pa_cons (pv 1) pa_nil))))
      (pss_cons (ps_expr (pe_call G1 hr (by rfl) g1 kp1 b1 .nil pass0 (pa_cons (pv 0) (pa_cons (pv 2) pa_nil))))
      (pss_one (ps_ret (pe_ix ix_tup (pe_ix ix_tup (pe_fld (pv 0) rfl) (pv 1) (fun _ _ => rfl)) (pv 2) (fun _ _ => rfl))))), ?_⟩
    have hi := (List.getElem?_eq_some_iff.mp hx).1
    have hj := (List.getElem?_eq_some_iff.mp hy).1
    refine ⟨.ref a, rfl, .int i, rfl, a, ws, i, rfl, hL, hi, .ref a, rfl, .int j, rfl, a, ws, j, rfl, hL, hj, ?_⟩
    obtain ⟨dx, t, b, r, h1, h2, h3, h4, h5⟩ := hL
    obtain ⟨b', rows, eb, hS, hT⟩ := h3.toTup
    cases eb
    have lr := hT.len
    rw [List.length_map] at lr
    obtain ⟨ro, hro⟩ : ∃ ro, rows[i]? = some ro := ⟨rows[i]'(by omega), List.getElem?_eq_getElem _⟩
    obtain ⟨d, hd, tr⟩ := hT.at hro
    rw [List.getElem?_map, hx] at hd
    cases hd
    obtain ⟨b2, cells, rfl, hS2, hT2⟩ := tr.toTup
    have lc := hT2.len
    rw [List.length_map] at lc
    obtain ⟨ce, hce⟩ : ∃ ce, cells[j]? = some ce := ⟨cells[j]'(by omega), List.getElem?_eq_getElem _⟩
    obtain ⟨d, hd, tc⟩ := hT2.at hce
    rw [List.getElem?_map, hy] at hd
    cases hd
    obtain ⟨c, rfl, hc⟩ := tc.toInts
    refine ⟨.ref a, rfl, a, C, dx, _, _, rfl, h1, T.cl, T.nB, lf_bars _ _ _, .int i, rfl, b, rows, i, .ref b2, rfl, rfl, hS, atI_nat hro, ?_⟩
    refine ⟨.int j, rfl, b2, cells, j, .ref c, rfl, rfl, hS2, atI_nat hce, q c ?_⟩
    rw [nV_eq]
    exact hc
/-! ### one == other -/
def spEq (K : PySem.W.Frag) (C : Addr) : Sp := fun vs H Q _ => ∃ (a b : Addr) (ws us : List (List Int)), vs = [.ref a, .ref b] ∧ LineAt K C H a ws ∧ LineAt K C H b us ∧ Q (.bl (decide (ws = us))) H
theorem ok_eq {f C : Addr} {fd : FuncData} {k : Nat} (F : Fun K "__eq__" "Line.__eq__" s_Line_eq f fd) (T : LC K mg C) (I : LI K C) (m1 : mg "isinstance" = none) :
    FnOk P w K mg base CX0 (k + 1) f fd ["self", "other"] (spEq K C) := by
  refine F.ok sc_Line_eq (fun vs H Q E h => ?_) (fun cdv A outer s H vs Q E hr h => ?_)
  · obtain ⟨a, b, ws, us, rfl, _⟩ := h; rfl
  · obtain ⟨a, b, ws, us, rfl, hL, hR, q⟩ := h
    have hu := hr.units
    refine ⟨_, pss_one (ps_ret (pe_and (pe_callB call_isi (by rfl) m1 (by decide +kernel) (pa_cons (pv 1) (pa_cons (pe_glob (v := .ref C) (by rfl) T.mgC rfl) pa_nil)))
      (pe_one (pe_cmpR (op_eqD hu) (pe_fld (pv 0) rfl) (pe_fld (pv 1) rfl) (nomark _))))), ?_⟩
    refine ⟨.ref b, rfl, .ref b, .ref C, .ref C, .ref C, true, rfl, .own C, isLine T.cl I hR, I.kit, ?_⟩
    obtain ⟨dx, t, b1, r, h1, h2, h3, h4, h5⟩ := hL
    obtain ⟨dx', t', b1', r', h1', h2', h3', h4', h5'⟩ := hR
    refine ⟨true, rfl, iteT ?_⟩
    refine ⟨.ref a, rfl, a, C, dx, _, _, rfl, h1, T.cl, T.nW, lf_works _ _ _, .ref b, rfl, b, C, dx', _, _, rfl, h1', T.cl, T.nW, lf_works _ _ _, _, _, h2.dp, h2'.dp, shaped_tDs _, shaped_tDs _, ?_⟩
    rw [show PyData.eqv (.tuple (tDs ws)) (.tuple (tDs us)) = decide (ws = us) from by rw [PyData.eqv, eqv_tDs]]
    exact q
end
end Sg

set_option Elab.async false
set_option linter.all false
set_option maxRecDepth 100000
set_option maxHeartbeats 4000000
namespace Sg
open PySem PySem.Spec PyProof.Rows L2 StX
section
variable {P : Program} {w : World} {K : PySem.W.Frag} {mg : Str → Option Value} {base : Heap}
theorem GoodL.plus {ws us : List (List Int)} (h : GoodL ws) (g : GoodL us) (hl : ws.length + us.length ≤ 3) : GoodL (ws ++ us) := by
  refine ⟨by have := h.least; rw [List.length_append]; omega, by rw [List.length_append]; exact hl, fun w hw => ?_⟩
  rcases List.mem_append.mp hw with z | z
  · exact h.work w z
  · exact g.work w z
theorem GoodL.less {ws : List (List Int)} (h : GoodL ws) {i : Nat} (hi : i < ws.length) (h2 : 2 ≤ ws.length) : GoodL (ws.take i ++ ws.drop (i + 1)) := by
  have := h.few
  refine ⟨by rw [List.length_append, List.length_take, List.length_drop]; omega, by rw [List.length_append, List.length_take, List.length_drop]; omega, fun w hw => ?_⟩
  rcases List.mem_append.mp hw with z | z
  · exact h.work w (List.mem_of_mem_take z)
  · exact h.work w (List.mem_of_mem_drop z)
/-! ### one + other -/
def spAdd (K : PySem.W.Frag) (C : Addr) : Sp := fun vs H Q _ => ∃ (a b : Addr) (ws us : List (List Int)), vs = [.ref a, .ref b] ∧ LineAt K C H a ws ∧ LineAt K C H b us ∧ ws.length + us.length ≤ 3 ∧
  ∀ H' x, Same H H' → H x = none → LineAt K C H' x (ws ++ us) → Q (.ref x) H'
theorem ok_add {f f1 C : Addr} {fd : FuncData} {k : Nat} (F : Fun K "__add__" "Line.__add__" s_Line_add f fd) (T : LC K mg C) (I : LI K C) (M : Mk K C f1) (G : FnR P w K mg base CX0 k f1 (spInit K C)) (m1 : mg "isinstance" = none) :
    FnOk P w K mg base CX0 (k + 2) f fd ["self", "other"] (spAdd K C) := by
  refine F.ok sc_Line_add (fun vs H Q E h => ?_) (fun cdv A outer s H vs Q E hr h => ?_)
  · obtain ⟨a, b, ws, us, rfl, _⟩ := h; rfl
  · obtain ⟨a, b, ws, us, rfl, hL, hR, hl, q⟩ := h
    refine ⟨_, pss_cons (ps_if (pt_not (pt_val (pe_callB call_isi (by rfl) m1 (by decide +kernel) (pa_cons (pv 1) (pa_cons (pe_glob (v := .ref C) (by rfl) T.mgC rfl) pa_nil))))) (pss_one ps_never) pss_nil)
      (pss_cons (ps_set (i := 2) sc_Line_add.nd rfl (Or.inl rfl) (pe_op op_catA (pe_fld (pv 0) rfl) (pe_fld (pv 1) rfl)))
      (pss_one (ps_ret (pe_makeS M G hr (by rfl) T.mgC pass0 (pv 2))))), ?_⟩
    refine ⟨.ref b, rfl, .ref b, .ref C, .ref C, .ref C, true, rfl, .own C, isLine T.cl I hR, I.kit, true, rfl, iteF ?_⟩
    obtain ⟨dx, t, b1, r, h1, h2, h3, h4, h5⟩ := id hL
    obtain ⟨dx', t', b1', r', h1', h2', h3', h4', h5'⟩ := id hR
    obtain ⟨_, xs, e, hS, hT⟩ := h2.toTup
    cases e
    obtain ⟨_, ys, e, hS', hT'⟩ := h2'.toTup
    cases e
    have l1 := hT.len
    have l2 := hT'.len
    rw [List.length_map] at l1 l2
    have p1 := h5.least
    have p2 := h5'.least
    refine ⟨.ref a, rfl, a, C, dx, _, _, rfl, h1, T.cl, T.nW, lf_works _ _ _, .ref b, rfl, b, C, dx', _, _, rfl, h1', T.cl, T.nW, lf_works _ _ _, t, t', xs, ys, rfl, rfl, hS, hS', Nat.le_of_lt (small1000 (by omega)),
      (fun z => ?_), (fun _ z => ?_), (fun _ _ p np => ?_)⟩
    · rw [z] at l1; rw [← l1] at p1; exact absurd p1 (by decide)
    · rw [z] at l2; rw [← l2] at p2; exact absurd p2 (by decide)
    · refine ⟨.ref p, rfl, p, xs ++ ys, rfl, .inl (.of upd_same), ?_⟩
      have st : St K H (upd H p (.tup (xs ++ ys))) := .of (same_new np)
      refine make_line (ws := ws ++ us) ?_ (h5.plus h5' hl) (fun H' x e3 nx hLx => ?_)
      · have z := (hT.stay st).add (hT'.stay st)
        rw [← List.map_append] at z
        exact z
      · exact q H' x ((same_new np).trans e3) (Same.free (same_new np) nx) hLx
/-! ### line - kind -/
def spSub (K : PySem.W.Frag) (C : Addr) : Sp := fun vs H Q _ => ∃ (a : Addr) (ws : List (List Int)) (i : Nat), vs = [.ref a, .int i] ∧ LineAt K C H a ws ∧ i < ws.length ∧ 2 ≤ ws.length ∧
  ∀ H' x, Same H H' → H x = none → LineAt K C H' x (ws.take i ++ ws.drop (i + 1)) → Q (.ref x) H'
theorem ok_sub {f f1 f2 C : Addr} {fd fd2 : FuncData} {k : Nat} (F : Fun K "__sub__" "Line.__sub__" s_Line_sub f fd) (T : LC K mg C) (M : Mk K C f1) (G : FnR P w K mg base CX0 k f1 (spInit K C))
    (G2 : FnOk P w K mg base CX0 k f2 fd2 ["line", "thing"] (spReqKind K C)) (kp2 : PySem.W.keepIn K (.ref f2) = true) (b2 : Binds K fd2 ["line", "thing"] []) (g2 : mg "require_kind" = some (.ref f2)) (m1 : mg "len" = none) :
    FnOk P w K mg base CX0 (k + 2) f fd ["self", "other"] (spSub K C) := by
  refine F.ok sc_Line_sub (fun vs H Q E h => ?_) (fun cdv A outer s H vs Q E hr h => ?_)
  · obtain ⟨a, ws, i, rfl, _⟩ := h; rfl
  · obtain ⟨a, ws, i, rfl, hL, hi, h2w, q⟩ := h
    refine ⟨_, pss_cons (ps_expr (pe_call G2 (hr.mono (Nat.le_succ k)) (by rfl) g2 kp2 b2 .nil pass0 (pa_cons (pv 0) (pa_cons (pv 1) pa_nil))))
      (pss_cons (ps_if (pt_cmpR op_eq (pe_callB call_len_seq (by rfl) m1 PySem.boot_len (pa_cons (pe_fld (pv 0) rfl) pa_nil)) pe_int (nomark _)) (pss_one ps_never) pss_nil)
      (pss_cons (ps_set (i := 2) sc_Line_sub.nd rfl (Or.inl rfl) (pe_op op_catA (pe_slice sl_tup (pe_fld (pv 0) rfl) po_none (po_some (pv 1))) (pe_slice sl_tup (pe_fld (pv 0) rfl) (po_some (pe_op op_add (pv 1) pe_int)) po_none)))
      (pss_one (ps_ret (pe_makeS M G hr (by rfl) T.mgC pass0 (pv 2)))))), ?_⟩
    refine ⟨.ref a, rfl, .int i, rfl, a, ws, i, rfl, hL, hi, ?_⟩
    obtain ⟨dx, t, b1, r, h1, h2, h3, h4, h5⟩ := id hL
    obtain ⟨_, xs, e, hS, hT⟩ := h2.toTup
    cases e
    have l1 := hT.len
    rw [List.length_map] at l1
    have few := h5.few
    refine ⟨.ref a, rfl, a, C, dx, _, _, rfl, h1, T.cl, T.nW, lf_works _ _ _, t, xs, rfl, .inr hS, rfl, ?_⟩
    have c1 : decide (V.int ((xs.length : Nat) : Int) = V.int 1) = false := decide_eq_false fun z => by have := V.int.inj z; omega
    rw [c1]
    refine ⟨false, rfl, iteF ?_⟩
    have w1 : ¬ (HT.sIx xs.length 0 none = 0 ∧ HT.sIx xs.length xs.length (some (i : Int)) = xs.length) := by
      rintro ⟨_, z⟩
      rw [HT.sIx_nat] at z
      omega
    refine ⟨.ref a, rfl, a, C, dx, _, _, rfl, h1, T.cl, T.nW, lf_works _ _ _, .int i, rfl, i, rfl, t, xs, rfl, hS, w1, fun p np => ?_⟩
    have s1 : Same H (upd H p (.tup (cutV xs none (some (i : Int))))) := same_new np
    have e1 : ((i : Int) + 1) = ((i + 1 : Nat) : Int) := by omega
    have w2 : ¬ (HT.sIx xs.length 0 (some ((i : Int) + 1)) = 0 ∧ HT.sIx xs.length xs.length none = xs.length) := by
      rintro ⟨z, _⟩
      rw [e1, HT.sIx_nat] at z
      omega
    have hp1 : (upd H p (.tup (cutV xs none (some (i : Int))))) p = some (.tup (xs.take i)) := by rw [upd_same, cut_upto]
    generalize hH1 : upd H p (.tup (cutV xs none (some (i : Int)))) = H1 at s1 hp1 ⊢
    refine ⟨.ref a, rfl, a, C, dx, _, _, rfl, s1 _ _ h1, T.cl, T.nW, lf_works _ _ _, .int i, rfl, i, 1, rfl, rfl, (i : Int) + 1, rfl, t, xs, rfl, Same.tup s1 hS, w2, fun p2 np2 => ?_⟩
    have s2 : Same H1 (upd H1 p2 (.tup (cutV xs (some ((i : Int) + 1)) none))) := same_new np2
    have hp2 : (upd H1 p2 (.tup (cutV xs (some ((i : Int) + 1)) none))) p2 = some (.tup (xs.drop (i + 1))) := by rw [upd_same, e1, cut_from]
    generalize hH2 : upd H1 p2 (.tup (cutV xs (some ((i : Int) + 1)) none)) = H2 at s2 hp2 ⊢
    have hp1' := s2 _ _ hp1
    have s12 := s1.trans s2
    have tt : TpAll K H (xs.take i ++ xs.drop (i + 1)) (tDs (ws.take i ++ ws.drop (i + 1))) := by
      have z := (hT.cut i).add (hT.off (i + 1))
      rw [← List.map_take, ← List.map_drop, ← List.map_append] at z
      exact z
    have fin : ∀ (H3 : Hp) (l : Addr), Same H H3 → SqT K H3 l (xs.take i ++ xs.drop (i + 1)) →
        ∃ a' xs', V.ref l = V.ref a' ∧ (SqT K H3 a' xs' ∨ SqL K H3 a' xs') ∧ ∀ z dz, H3 z = none → H3 dz = none → dz ≠ z → spInit K C (V.ref z :: xs') (upd (upd H3 dz (.own z)) z (.ins C dz [])) (fun v H2 => v = .non ∧ Q (.ref z) H2) E0 := by
      intro H3 l e3 hl
      refine ⟨l, _, rfl, .inl hl, make_line (ws := ws.take i ++ ws.drop (i + 1)) (tt.stay (.of e3)) (h5.less hi h2w) fun H' x e4 nx hLx => q H' x (e3.trans e4) (Same.free e3 nx) hLx⟩
    have len2 : (xs.take i).length + (xs.drop (i + 1)).length ≤ sizeLine := by
      rw [List.length_take, List.length_drop]
      exact Nat.le_of_lt (small1000 (by omega))
    refine ⟨p, p2, _, _, rfl, rfl, .of hp1', .of hp2, len2, (fun z => ?_), (fun _ z => ?_), (fun _ _ p3 np3 => ?_)⟩
    · refine ⟨.ref p2, rfl, fin H2 p2 s12 ?_⟩
      rw [z, List.nil_append]
      exact .of hp2
    · refine ⟨.ref p, rfl, fin H2 p s12 ?_⟩
      rw [z, List.append_nil]
      exact .of hp1'
    · exact ⟨.ref p3, rfl, fin _ p3 (s12.trans (same_new np3)) (.of upd_same)⟩
/-! ### -line -/
def spNeg (K : PySem.W.Frag) (C : Addr) : Sp := fun vs H Q _ => ∃ (a : Addr) (ws : List (List Int)), vs = [.ref a] ∧ LineAt K C H a ws ∧
  ∀ H' x, Same H H' → H x = none → LineAt K C H' x (ws.map List.reverse) → Q (.ref x) H'
theorem ok_neg {f f1 C : Addr} {fd : FuncData} {k : Nat} (F : Fun K "__neg__" "Line.__neg__" s_Line_neg f fd) (T : LC K mg C) (M : Mk K C f1) (G : FnR P w K mg base CX0 k f1 (spInit K C)) :
    FnOk P w K mg base CX0 (k + 2) f fd ["self"] (spNeg K C) := by
  refine F.ok sc_Line_neg (fun vs H Q E h => ?_) (fun cdv A outer s H vs Q E hr h => ?_)
  · obtain ⟨a, ws, rfl, _⟩ := h; rfl
  · obtain ⟨a, ws, rfl, hL, q⟩ := h
    refine ⟨_, pss_cons (ps_setLc (i := 1) (own := [("work", 2)]) (g := gName 2) (tt := tYes) rfl sc_Line_neg.nd rfl rfl (sw_true rfl rfl rfl (by decide +kernel)) (pi_tup (pe_fld (pv 0) rfl))
          (blkOk_by (N := ["self", "works", "work"]) (sc := defScope s_Line_neg) (by decide +kernel))
          (fun _ _ _ _ _ => pg_name (i := 2) sc_Line_neg.nd rfl (Or.inl rfl)) (fun _ _ _ _ _ => pts_nil) (fun _ _ _ _ _ => pe_revT (K := K) rfl (pv 2)))
      (pss_one (ps_ret (pe_makeS M G hr (by rfl) T.mgC pass0 (pv 1)))), ?_⟩
    obtain ⟨dx, t, b1, r, h1, h2, h3, h4, h5⟩ := id hL
    obtain ⟨_, xs, e, hS, hT⟩ := h2.toTup
    cases e
    have l1 := hT.len
    rw [List.length_map] at l1
    have few := h5.few
    have lz : (tDs (ws.map List.reverse)).length ≤ 1000 := by rw [List.length_map, List.length_map]; omega
    refine ⟨.ref a, rfl, a, C, dx, _, _, rfl, h1, T.cl, T.nW, lf_works _ _ _, t, rfl, ⟨_, hS⟩, fun D hD => ?_⟩
    refine lc_tup (xs := xs) (fun i H' => Grow K H D (tDs (ws.map List.reverse)) i H') (.zero hD) (fun i H' _ h => Same.tup h.1 hS) (fun i x H' hx h => ?_) (fun H' h => ?_)
    · obtain ⟨o, c1, ho, rfl, hc1⟩ := hT.works hx
      refine ⟨rfl, .ref c1, rfl, c1, _, rfl, Same.tup h.1 hc1, fun p np => ?_⟩
      refine h.next hD lz (same_new np) (d := tD o.reverse) (by rw [List.getElem?_map, List.getElem?_map, ho]; rfl) (.ofInts ?_)
      rw [List.map_reverse]
      exact .of upd_same
    · obtain ⟨e2, acc, g1, g2⟩ := h.done (by rw [List.length_map, List.length_map, l1])
      exact ⟨.ref D, rfl, D, acc, rfl, .inr (.of g1), make_line (ws := ws.map List.reverse) g2 h5.back fun H3 x e3 nx hLx => q H3 x (e2.trans e3) (Same.free e2 nx) hLx⟩
end
end Sg

set_option Elab.async false
set_option linter.all false
set_option maxRecDepth 100000
set_option maxHeartbeats 4000000
namespace Sg
open PySem PySem.Spec PyProof.Rows L2 StX
/-- what a class has under a name: a def that keeps sp -/
structure Has (P : Program) (w : World) (K : PySem.W.Frag) (mg : Str → Option Value) (base : Heap) (k : Nat) (C : Addr) (n : Str) (f : Addr) (fd : FuncData) (ps : List Str) (sp : Sp) : Prop where
  ok : FnOk P w K mg base CX0 k f fd ps sp
  bi : Binds K fd ps []
  at_ : PySem.W.findIn K (.ref C) n = some (some (.ref f))
  fn : PySem.W.isFn K (.ref f) = true
/-- what the operators ask of the class beside their defs -/
structure Ops (K : PySem.W.Frag) (C : Addr) : Prop where
  sf : PySem.W.selfFirst K C = true
  rs : ∃ rc, PySem.W.findIn K (.ref C) "__rsub__" = some rc ∧ (rc = none ∨ ∃ g : Addr, rc = some (.ref g))
  is : ∃ fo, PySem.W.findIn K (.type "int") "__sub__" = some fo
  ir : ∃ ro, PySem.W.findIn K (.type "int") "__rsub__" = some ro
  nsub : PySem.W.subIn K (.type "int") (.ref C) = some false
  ne : PySem.W.findIn K (.ref C) "__ne__" = some (some (.builtin "object.__ne__"))
  ob : PySem.W.subIn K (.ref C) (.type "object") = some true
/-- Line's methods, as they are promised -/
structure Meths (P : Program) (w : World) (K : PySem.W.Frag) (mg : Str → Option Value) (base : Heap) (k : Nat) (C : Addr) : Prop where
  lc : LC K mg C
  li : LI K C
  op : Ops K C
  len : ∃ f fd, Has P w K mg base k C "__len__" f fd ["self"] (spLen K C)
  call : ∃ f fd, Has P w K mg base k C "__call__" f fd ["self", "one", "other"] (spCall K C) ∧ PySem.W.fnIn K f = true
  add : ∃ f fd, Has P w K mg base k C "__add__" f fd ["self", "other"] (spAdd K C)
  sub : ∃ f fd, Has P w K mg base k C "__sub__" f fd ["self", "other"] (spSub K C)
  neg : ∃ f fd, Has P w K mg base k C "__neg__" f fd ["self"] (spNeg K C)
  eq : ∃ f fd, Has P w K mg base k C "__eq__" f fd ["self", "other"] (spEq K C)
  works : ∃ p g fd, PropOf K C "works" p g ∧ FnOk P w K mg base CX0 k g fd ["self"] (getSp C "_works") ∧ Binds K fd ["self"] []
  reach : ∃ p g fd, PropOf K C "reach" p g ∧ FnOk P w K mg base CX0 k g fd ["self"] (getSp C "_reach") ∧ Binds K fd ["self"] []
  init : ∃ f, Mk K C f ∧ FnR P w K mg base CX0 k f (spInit K C)
section
variable {X : Cx} {k : Nat} {C : Addr}
theorem Meths.cLen (M : Meths X.prog X.w X.K X.mg X.base k C) (hr : Room (k + 2) X.A) : CallR X (.builtin "len") (fun xs H Q => ∃ a ws, xs = [.ref a] ∧ LineAt X.K C H a ws ∧ Q (.int (ws.length : Nat)) H) := by
  obtain ⟨f, fd, h⟩ := M.len
  intro pins s σ H xs us Q I r q
  obtain ⟨a, ws, rfl, hL, q⟩ := q
  refine call_lenO h.ok (hr.mono (Nat.le_succ _)) h.bi h.at_ h.fn pins s σ H _ us Q I r ⟨a, rfl, hL.ins, a, ws, rfl, hL, ws.length, rfl, ?_, q⟩
  have := hL.good.few
  omega
theorem Meths.oAdd (M : Meths X.prog X.w X.K X.mg X.base k C) (hr : Room (k + 2) X.A) : OpR X (binaryOp .Add) (fun x y H Q => ∃ a b ws us, x = .ref a ∧ y = .ref b ∧ LineAt X.K C H a ws ∧ LineAt X.K C H b us ∧ ws.length + us.length ≤ 3 ∧
    ∀ H' z, Same H H' → H z = none → LineAt X.K C H' z (ws ++ us) → Q (.ref z) H') := by
  obtain ⟨f, fd, h⟩ := M.add
  intro pins s σ H x y v u Q I rx ry q
  obtain ⟨a, b, ws, us, rfl, rfl, h1, h2, h3, q⟩ := q
  exact op_own (op := .Add) h.ok (hr.mono (Nat.le_add_right _ _)) h.bi h.at_ h.fn M.op.sf pins s σ H _ _ v u Q I rx ry ⟨a, b, rfl, rfl, h1.ins, h2.ins, a, b, ws, us, rfl, h1, h2, h3, q⟩
theorem Meths.oSub (M : Meths X.prog X.w X.K X.mg X.base k C) (hr : Room (k + 2) X.A) : OpR X (binaryOp .Sub) (fun x y H Q => ∃ a ws, ∃ i : Nat, x = .ref a ∧ y = .int i ∧ LineAt X.K C H a ws ∧ i < ws.length ∧ 2 ≤ ws.length ∧
    ∀ H' z, Same H H' → H z = none → LineAt X.K C H' z (ws.take i ++ ws.drop (i + 1)) → Q (.ref z) H') := by
  obtain ⟨f, fd, h⟩ := M.sub
  intro pins s σ H x y v u Q I rx ry q
  obtain ⟨a, ws, i, rfl, rfl, h1, h2, h3, q⟩ := q
  obtain ⟨rc, r1, r2⟩ := M.op.rs
  obtain ⟨fo, r3⟩ := M.op.is
  obtain ⟨ro, r4⟩ := M.op.ir
  exact op_ownI (op := .Sub) h.ok (hr.mono (Nat.le_add_right _ _)) h.bi h.at_ h.fn M.op.sf r1 r2 r3 r4 M.op.nsub pins s σ H _ _ v u Q I rx ry ⟨a, i, rfl, rfl, h1.ins, a, ws, i, rfl, h1, h2, h3, q⟩
theorem Meths.uNeg (M : Meths X.prog X.w X.K X.mg X.base k C) (hr : Room (k + 2) X.A) : UnR X (unaryOp .USub) (fun x H Q => ∃ a ws, x = .ref a ∧ LineAt X.K C H a ws ∧
    ∀ H' z, Same H H' → H z = none → LineAt X.K C H' z (ws.map List.reverse) → Q (.ref z) H') := by
  obtain ⟨f, fd, h⟩ := M.neg
  intro pins s σ H x v Q I rx q
  obtain ⟨a, ws, rfl, h1, q⟩ := q
  exact un_own h.ok (hr.mono (Nat.le_add_right _ _)) h.bi h.at_ h.fn pins s σ H _ v Q I rx ⟨a, rfl, h1.ins, a, ws, rfl, h1, q⟩
theorem Meths.oEq (M : Meths X.prog X.w X.K X.mg X.base k C) (hr : Room (k + 2) X.A) : OpR X (compareOp .Eq) (fun x y H Q => ∃ a b ws us, x = .ref a ∧ y = .ref b ∧ LineAt X.K C H a ws ∧ LineAt X.K C H b us ∧ Q (.bl (decide (ws = us))) H) := by
  obtain ⟨f, fd, h⟩ := M.eq
  intro pins s σ H x y v u Q I rx ry q
  obtain ⟨a, b, ws, us, rfl, rfl, h1, h2, q⟩ := q
  exact op_ownEq h.ok (hr.mono (Nat.le_add_right _ _)) h.bi h.at_ h.fn pins s σ H _ _ v u Q I rx ry ⟨a, b, rfl, rfl, h1.ins, h2.ins, a, b, ws, us, rfl, h1, h2, q⟩
theorem Meths.oNe (M : Meths X.prog X.w X.K X.mg X.base k C) (hr : Room (k + 2) X.A) : OpR X (compareOp .NotEq) (fun x y H Q => ∃ a b ws us, x = .ref a ∧ y = .ref b ∧ LineAt X.K C H a ws ∧ LineAt X.K C H b us ∧ Q (.bl (!decide (ws = us))) H) := by
  obtain ⟨f, fd, h⟩ := M.eq
  intro pins s σ H x y v u Q I rx ry q
  obtain ⟨a, b, ws, us, rfl, rfl, h1, h2, q⟩ := q
  exact op_ownNe h.ok hr h.bi h.at_ h.fn M.op.ne M.op.ob pins s σ H _ _ v u Q I rx ry ⟨a, b, rfl, rfl, h1.ins, h2.ins, a, b, ws, us, rfl, h1, h2, _, rfl, q⟩
def tWorks (K : PySem.W.Frag) (C : Addr) (te : TE) : TE := fun σ H Q => te σ H fun x H1 => ∃ a ws, x = .ref a ∧ LineAt K C H1 a ws ∧ ∀ t, Tp K H1 (.ref t) (.tuple (tDs ws)) → Q (.ref t) H1
def tReach (K : PySem.W.Frag) (C : Addr) (te : TE) : TE := fun σ H Q => te σ H fun x H1 => ∃ a ws, x = .ref a ∧ LineAt K C H1 a ws ∧ ∀ r, Top (allB ws ws) r → Q (.int r) H1
theorem Meths.pWorks {K : PySem.W.Frag} {e : Expr} {te : TE} {pos : Pos} (M : Meths X.prog X.w K X.mg X.base k C) (hK : X.K = K) (hr : Room (k + 2) X.A) (he : PE X e te) (hab : attributeBase e "works" X.env (eval e X.env) = eval e X.env := by rfl) :
    PE X (.Attribute e "works" pos) (tWorks K C te) := by
  subst hK
  obtain ⟨p, g, fd, h1, h2, h3⟩ := M.works
  refine ⟨fun pins s σ H Q I h => attr_of hab (thn (he.run pins s σ H _ I h) fun u s1 ⟨x, H1, I1, rx, a, ws, ex, ea, q⟩ => ?_)⟩
  subst ex
  obtain rfl : u = Value.ref a := rx
  obtain ⟨dx, t, b, r, g1, g2, g3, g4, g5⟩ := ea
  exact getprop_ok I1 g1 M.lc.cl h1 h2 (hr.mono (Nat.le_succ _)) h3 .nil pass0 ⟨a, dx, _, _, rfl, g1, lf_works _ _ _, q t g2⟩
theorem Meths.pReach {K : PySem.W.Frag} {e : Expr} {te : TE} {pos : Pos} (M : Meths X.prog X.w K X.mg X.base k C) (hK : X.K = K) (hr : Room (k + 2) X.A) (he : PE X e te) (hab : attributeBase e "reach" X.env (eval e X.env) = eval e X.env := by rfl) :
    PE X (.Attribute e "reach" pos) (tReach K C te) := by
  subst hK
  obtain ⟨p, g, fd, h1, h2, h3⟩ := M.reach
  refine ⟨fun pins s σ H Q I h => attr_of hab (thn (he.run pins s σ H _ I h) fun u s1 ⟨x, H1, I1, rx, a, ws, ex, ea, q⟩ => ?_)⟩
  subst ex
  obtain rfl : u = Value.ref a := rx
  obtain ⟨dx, t, b, r, g1, g2, g3, g4, g5⟩ := ea
  exact getprop_ok I1 g1 M.lc.cl h1 h2 (hr.mono (Nat.le_succ _)) h3 .nil pass0 ⟨a, dx, _, _, rfl, g1, lf_reach _ _ _, q r g4⟩
def tCallL (K : PySem.W.Frag) (C : Addr) (tf : TE) (t : TA) : TE := fun σ H Q => tf σ H fun y H1 => ∃ a, y = V.ref a ∧ t σ H1 fun vs H2 => ∃ ws, ∃ i j : Nat, ∃ x y, vs = [.int i, .int j] ∧ LineAt K C H2 a ws ∧ ws[i]? = some x ∧ ws[j]? = some y ∧
  ∀ c, SqT K H2 c (nV (barsN x y)) → Q (.ref c) H2
theorem Meths.pCall {K : PySem.W.Frag} {fe e : Expr} {es : List Expr} {tf : TE} {t : TA} {pos : Pos} (M : Meths X.prog X.w K X.mg X.base k C) (hK : X.K = K) (hr : Room (k + 2) X.A) (hf : PE X fe tf) (ha : PA X (e :: es) t)
    (ht : eval (.Call fe (e :: es) [] pos) X.env = (do callWith pos (← eval fe X.env) [] (backTo pos (starEach (e :: es) X.env)) (backToKw pos (keywordEach [] X.env))) := by rfl)
    (he : starEach (e :: es) X.env = (false, eval e X.env) :: starEach es X.env := by rfl) (hpl : (backTo pos (starEach es X.env)).any (·.1) = false := by rfl) :
    PE X (.Call fe (e :: es) [] pos) (tCallL K C tf t) := by
  subst hK
  obtain ⟨g, fd, h, hg⟩ := M.call
  have c : CallO X.K C g := ⟨h.at_, h.fn, hg⟩
  refine ⟨fun pins s σ H Q I h' => Call_ (thn (hf.run pins s σ H _ I h') fun u s1 ⟨y, H1, I1, ry, a, ey, q⟩ => ?_) ht⟩
  subst ey
  obtain rfl : u = Value.ref a := ry
  refine callO_with (thn (ha.run pos pins s1 σ H1 _ I1 q) fun us s2 ⟨vs, H2, I2, r, ws, i, j, x, y, ev, hL, hx, hy, q2⟩ => ?_) he hpl
  subst ev
  have hi' : InsC X H2 a C := .inr hL.ins
  obtain ⟨ox, od, J, hd⟩ := insC_at I2 hi'
  exact ⟨⟨C, ox, od, J, hd⟩, run_callO c (fnR_of h.ok h.bi) (hr.mono (Nat.le_add_right _ _)) pass0 I2 hi' r ⟨a, ws, i, j, x, y, rfl, hL, hx, hy, q2⟩⟩
/-- Line(e, ..) -/
def tNewL (K : PySem.W.Frag) (C : Addr) (t : TA) : TE := fun σ H Q => t σ H fun vs H1 => ∃ ws, TpAll K H1 vs (tDs ws) ∧ GoodL ws ∧ ∀ H' a, Same H1 H' → H1 a = none → LineAt K C H' a ws → Q (.ref a) H'
theorem Meths.pNew {K : PySem.W.Frag} {e : Expr} {es : List Expr} {t : TA} {p pos : Pos} (M : Meths X.prog X.w K X.mg X.base k C) (hK : X.K = K) (hr : Room (k + 2) X.A) (hg : Gl X "Line") (ha : PA X (e :: es) t)
    (he : starEach (e :: es) X.env = (false, eval e X.env) :: starEach es X.env := by rfl) (hpl : (backTo pos (starEach es X.env)).any (·.1) = false := by rfl) : PE X (.Call (.Name "Line" p) (e :: es) [] pos) (tNewL K C t) := by
  subst hK
  obtain ⟨f, m, h⟩ := M.init
  refine ⟨fun pins s σ H Q I h' => ?_⟩
  refine wpAny_Call_Name_kw (ld_glob I hg M.lc.mgC ?_ (by decide))
  refine PySem.W.callWith_K (h₀ := X.base) I.ok.mod.kin m.kp (thn (ha.run pos pins s σ H _ I h') fun us s1 ⟨vs, H1, I1, r, ws, hT, hgd, q⟩ => ⟨I1.kIn, ?_⟩) he hpl
  exact run_makeR m h (hr.mono (Nat.le_succ _)) pass0 I1 r (make_line hT hgd q)
end
end Sg

set_option Elab.async false
set_option linter.all false
set_option maxRecDepth 100000
set_option maxHeartbeats 4000000
namespace Sg
open PySem PySem.Spec PyProof.Rows L2 StX
/-! ## plans -/
abbrev startD (s : Int × Nat) : PyData := .tuple [.int s.1, .int s.2]
abbrev planD (ps : List (Int × Nat)) : List PyData := ps.map startD
/-- the least tick that may follow the first i starts -/
def leastAt (ps : List (Int × Nat)) (i : Nat) : Int := match ps[i - 1]? with
  | none => 0
  | some s => if i = 0 then 0 else s.1 + 1
theorem leastAt_zero (ps : List (Int × Nat)) : leastAt ps 0 = 0 := by
  unfold leastAt
  split <;> rfl
theorem leastAt_succ {ps : List (Int × Nat)} {i : Nat} {s : Int × Nat} (h : ps[i]? = some s) : leastAt ps (i + 1) = s.1 + 1 := by
  unfold leastAt
  rw [Nat.add_sub_cancel, h]
  show (if i + 1 = 0 then (0 : Int) else s.1 + 1) = s.1 + 1
  rw [if_neg (Nat.succ_ne_zero i)]
/-- a plan of a line of n works -/
structure GoodP (n : Nat) (ps : List (Int × Nat)) : Prop where
  few : ps.length ≤ 60
  kinds : ∀ s ∈ ps, s.2 < n
  asc : ∀ (i : Nat) (s : Int × Nat), ps[i]? = some s → leastAt ps i ≤ s.1
section
variable {P : Program} {w : World} {K : PySem.W.Frag} {mg : Str → Option Value} {base : Heap}
def spReqLine (K : PySem.W.Frag) (C : Addr) : Sp := fun vs H Q _ => ∃ (a : Addr) (ws : List (List Int)), vs = [.ref a] ∧ LineAt K C H a ws ∧ Q .non H
theorem ok_require_line {f C : Addr} {fd : FuncData} {k : Nat} (F : Fun K "require_line" "require_line" s_require_line f fd) (T : LC K mg C) (I : LI K C) (m1 : mg "isinstance" = none) :
    FnOk P w K mg base CX0 (k + 1) f fd ["thing"] (spReqLine K C) := by
  refine F.ok sc_require_line (fun vs H Q E h => ?_) (fun cdv A outer s H vs Q E hr h => ?_)
  · obtain ⟨a, ws, rfl, _⟩ := h; rfl
  · obtain ⟨a, ws, rfl, hL, q⟩ := h
    refine ⟨_, pss_one (ps_if (pt_not (pt_val (pe_callB call_isi (by rfl) m1 (by decide +kernel) (pa_cons (pv 0) (pa_cons (pe_glob (v := .ref C) (by rfl) T.mgC rfl) pa_nil))))) (pss_one ps_never) pss_nil), ?_⟩
    exact ⟨.ref a, rfl, .ref a, .ref C, .ref C, .ref C, true, rfl, .own C, isLine T.cl I hL, I.kit, true, rfl, iteF q⟩
/-! ### _is_start, of a start -/
def spStart (K : PySem.W.Frag) (C : Addr) : Sp := fun vs H Q _ => ∃ (a b : Addr) (ws : List (List Int)) (t l : Int) (k : Nat), vs = [.ref a, .ref b, .int l] ∧ LineAt K C H a ws ∧ SqT K H b [.int t, .int k] ∧ l ≤ t ∧ k < ws.length ∧ Q (.bl true) H
theorem ok_is_start {f f1 f2 C : Addr} {fd fd1 fd2 : FuncData} {k : Nat} (F : Fun K "_is_start" "_is_start" s_is_start f fd)
    (G1 : FnOk P w K mg base CX0 k f1 fd1 ["thing"] spIsInt) (kp1 : PySem.W.keepIn K (.ref f1) = true) (b1 : Binds K fd1 ["thing"] []) (g1 : mg "is_int" = some (.ref f1))
    (G2 : FnOk P w K mg base CX0 k f2 fd2 ["line", "thing"] (spIsKind K C)) (kp2 : PySem.W.keepIn K (.ref f2) = true) (b2 : Binds K fd2 ["line", "thing"] []) (g2 : mg "is_kind" = some (.ref f2))
    (m1 : mg "isinstance" = none) (m2 : mg "tuple" = none) (m3 : mg "len" = none) : FnOk P w K mg base CX0 (k + 1) f fd ["line", "thing", "least"] (spStart K C) := by
  refine F.ok sc_is_start (fun vs H Q E h => ?_) (fun cdv A outer s H vs Q E hr h => ?_)
  · obtain ⟨a, b, ws, t, l, k, rfl, _⟩ := h; rfl
  · obtain ⟨a, b, ws, t, l, i, rfl, hL, hS, hl, hi, q⟩ := h
    refine ⟨_, pss_cons (ps_if (PW.pt (pw_or (pt_not (pt_val (pe_callB call_isi (by rfl) m1 (by decide +kernel) (pa_cons (pv 1) (pa_cons (pe_bltn (v := .ty "tuple") (by rfl) m2 (by decide +kernel) rfl) pa_nil)))))
        (pw_or1 (pt_cmpR op_ne (pe_callB call_len_seq (by rfl) m3 PySem.boot_len (pa_cons (pv 1) pa_nil)) pe_int (nomark _))))) (pss_one (ps_ret pe_bl)) pss_nil)
      (pss_one (ps_ret (pe_and (pe_call G1 hr (by rfl) g1 kp1 b1 .nil pass0 (pa_cons (pe_ix ix_tup (pv 1) pe_int (fun _ _ => rfl)) pa_nil))
        (pe_and (pe_cmpR op_ge (pe_ix ix_tup (pv 1) pe_int (fun _ _ => rfl)) (pv 2) (nomark _))
          (pe_one (pe_call G2 hr (by rfl) g2 kp2 b2 .nil pass0 (pa_cons (pv 0) (pa_cons (pe_ix ix_tup (pv 1) pe_int (fun _ _ => rfl)) pa_nil)))))))), ?_⟩
    refine ⟨.ref b, rfl, .ref b, .ty "tuple", _, _, true, rfl, .ty _, tyT hS, kit_ty (by decide +kernel), true, rfl, iteF ?_⟩
    refine ⟨.ref b, rfl, b, _, rfl, .inr hS, rfl, ?_⟩
    rw [show decide (V.int (([V.int t, V.int (i : Nat)].length : Nat) : Int) = V.int 2) = true from rfl]
    refine ⟨false, rfl, iteF ?_⟩
    refine ⟨.ref b, rfl, b, _, 0, .int t, rfl, rfl, hS, atI0, t, rfl, true, rfl, iteT ?_⟩
    refine ⟨.ref b, rfl, b, _, 0, .int t, rfl, rfl, hS, atI0, .int l, rfl, t, l, rfl, rfl, ?_⟩
    refine ⟨decide (l ≤ t), rfl, ?_⟩
    rw [decide_eq_true hl]
    refine iteT ?_
    refine ⟨.ref a, rfl, .ref b, rfl, b, _, 1, .int (i : Nat), rfl, rfl, hS, atI1, a, ws, i, rfl, hL, ?_⟩
    rw [decide_eq_true (show (0 : Int) ≤ i by omega), decide_eq_true (show (i : Int) ≤ (ws.length : Nat) - 1 by omega)]
    exact q
/-! ### is_plan, of a plan -/
def spIsPlan (K : PySem.W.Frag) (C : Addr) : Sp := fun vs H Q _ => ∃ (a b : Addr) (ws : List (List Int)) (ps : List (Int × Nat)), vs = [.ref a, .ref b] ∧ LineAt K C H a ws ∧ Tp K H (.ref b) (.tuple (planD ps)) ∧ GoodP ws.length ps ∧ Q (.bl true) H
theorem ok_is_plan {f f1 f2 C : Addr} {fd fd1 fd2 : FuncData} {k : Nat} (F : Fun K "is_plan" "is_plan" s_is_plan f fd) (hM : ∃ t, mg "MOST_STARTS" = some (.int 60 t))
    (G1 : FnOk P w K mg base CX0 k f1 fd1 ["thing"] (spReqLine K C)) (kp1 : PySem.W.keepIn K (.ref f1) = true) (b1 : Binds K fd1 ["thing"] []) (g1 : mg "require_line" = some (.ref f1))
    (G2 : FnOk P w K mg base CX0 k f2 fd2 ["line", "thing", "least"] (spStart K C)) (kp2 : PySem.W.keepIn K (.ref f2) = true) (b2 : Binds K fd2 ["line", "thing", "least"] []) (g2 : mg "_is_start" = some (.ref f2))
    (m1 : mg "isinstance" = none) (m2 : mg "tuple" = none) (m3 : mg "len" = none) : FnOk P w K mg base CX0 (k + 1) f fd ["line", "thing"] (spIsPlan K C) := by
  obtain ⟨tM, nM⟩ := hM
  refine F.ok sc_is_plan (fun vs H Q E h => ?_) (fun cdv A outer s H vs Q E hr h => ?_)
  · obtain ⟨a, b, ws, ps, rfl, _⟩ := h; rfl
  · obtain ⟨a, b, ws, ps, rfl, hL, hP, hg, q⟩ := h
    refine ⟨_, pss_cons (ps_expr (pe_call G1 hr (by rfl) g1 kp1 b1 .nil pass0 (pa_cons (pv 0) pa_nil)))
      (pss_cons (ps_if (PW.pt (pw_or (pt_not (pt_val (pe_callB call_isi (by rfl) m1 (by decide +kernel) (pa_cons (pv 1) (pa_cons (pe_bltn (v := .ty "tuple") (by rfl) m2 (by decide +kernel) rfl) pa_nil)))))
        (pw_or1 (pt_cmpR op_gt (pe_callB call_len_seq (by rfl) m3 PySem.boot_len (pa_cons (pv 1) pa_nil)) (pe_glob (v := .int 60) (by rfl) nM ⟨_, rfl⟩) (nomark _))))) (pss_one (ps_ret pe_bl)) pss_nil)
      (pss_cons (ps_set (i := 2) sc_is_plan.nd rfl (.inl rfl) pe_int)
      (pss_cons (ps_for PassesOwn.never rfl (pi_tup (pv 1)) (pg_name (i := 3) sc_is_plan.nd rfl (.inl rfl))
        (pss_cons (ps_if (pt_not (pt_val (pe_call G2 hr (by rfl) g2 kp2 b2 .nil pass0 (pa_cons (pv 0) (pa_cons (pv 3) (pa_cons (pv 2) pa_nil)))))) (pss_one (ps_ret pe_bl)) pss_nil)
        (pss_one (ps_set (i := 2) sc_is_plan.nd rfl (.inl rfl) (pe_op op_add (pe_ix ix_tup (pv 3) pe_int (fun _ _ => rfl)) pe_int)))))
      (pss_one (ps_ret pe_bl))))), ?_⟩
    obtain ⟨_, xs, e, hS, hT⟩ := hP.toTup
    cases e
    have lx := hT.len
    rw [List.length_map] at lx
    have few := hg.few
    refine ⟨.ref a, rfl, a, ws, rfl, hL, ?_⟩
    refine ⟨.ref b, rfl, .ref b, .ty "tuple", _, _, true, rfl, .ty _, tyT hS, kit_ty (by decide +kernel), true, rfl, iteF ?_⟩
    refine ⟨.ref b, rfl, b, xs, rfl, .inr hS, _, 60, rfl, rfl, _, rfl, ?_⟩
    rw [show decide (((xs.length : Nat) : Int) > 60) = false from decide_eq_false (by omega)]
    refine iteF ?_
    refine ⟨.ref b, rfl, b, rfl, ⟨_, hS⟩, ?_⟩
    refine for_tup (xs := xs) (fun i σ H' => ∃ v3, σ = [some (.ref a), some (.ref b), some (.int (leastAt ps i)), v3] ∧ H' = H) ⟨none, by rw [leastAt_zero]; rfl, rfl⟩ (fun i σ H' _ h => by obtain ⟨_, _, rfl⟩ := h; exact hS) ?_ ?_
    · rintro i x σ H' hx ⟨v3, rfl, rfl⟩
      obtain ⟨d, hd, t⟩ := hT.at hx
      rw [List.getElem?_map] at hd
      obtain ⟨s, hs, rfl⟩ := Option.map_eq_some_iff.mp hd
      obtain ⟨c, cs, rfl, hc, ht⟩ := t.toTup
      obtain ⟨u, v, rfl⟩ : ∃ u v, cs = [u, v] := by
        have := ht.len
        match cs, this with
        | [u, v], _ => exact ⟨u, v, rfl⟩
      cases ht with
      | on t1 r =>
        cases r with
        | on t2 r2 =>
          cases t1
          cases t2
          refine ⟨.ref a, rfl, .ref c, rfl, .int (leastAt ps i), rfl, a, c, ws, s.1, leastAt ps i, s.2, rfl, hL, hc, hg.asc i s hs, hg.kinds s (List.mem_of_getElem? hs), true, rfl, iteF ?_⟩
          refine ⟨.ref c, rfl, c, _, 0, .int s.1, rfl, rfl, hc, atI0, s.1, 1, rfl, rfl, ?_⟩
          refine ⟨some (.ref c), ?_, rfl⟩
          rw [leastAt_succ hs]
          rfl
    · rintro σ H' ⟨v3, rfl, rfl⟩
      exact q
/-! ### require_plan, of a plan -/
def spReqPlan (K : PySem.W.Frag) (C : Addr) : Sp := fun vs H Q _ => ∃ (a b : Addr) (ws : List (List Int)) (ps : List (Int × Nat)), vs = [.ref a, .ref b] ∧ LineAt K C H a ws ∧ Tp K H (.ref b) (.tuple (planD ps)) ∧ GoodP ws.length ps ∧ Q .non H
theorem ok_require_plan {f f1 C : Addr} {fd fd1 : FuncData} {k : Nat} (F : Fun K "require_plan" "require_plan" s_require_plan f fd)
    (G1 : FnOk P w K mg base CX0 k f1 fd1 ["line", "thing"] (spIsPlan K C)) (kp1 : PySem.W.keepIn K (.ref f1) = true) (b1 : Binds K fd1 ["line", "thing"] []) (g1 : mg "is_plan" = some (.ref f1)) :
    FnOk P w K mg base CX0 (k + 1) f fd ["line", "thing"] (spReqPlan K C) := by
  refine F.ok sc_require_plan (fun vs H Q E h => ?_) (fun cdv A outer s H vs Q E hr h => ?_)
  · obtain ⟨a, b, ws, ps, rfl, _⟩ := h; rfl
  · obtain ⟨a, b, ws, ps, rfl, hL, hP, hg, q⟩ := h
    refine ⟨_, pss_one (ps_if (pt_not (pt_val (pe_call G1 hr (by rfl) g1 kp1 b1 .nil pass0 (pa_cons (pv 0) (pa_cons (pv 1) pa_nil))))) (pss_one ps_never) pss_nil), ?_⟩
    exact ⟨.ref a, rfl, .ref b, rfl, a, b, ws, ps, rfl, hL, hP, hg, true, rfl, iteF q⟩
end
end Sg

set_option Elab.async false
set_option linter.all false
set_option maxRecDepth 100000
set_option maxHeartbeats 4000000
namespace Sg
open PySem PySem.Spec PyProof.Rows L2 StX
/-- a whole number as it is written -/
def num (i : Int) : Str := toString i
def word (n : Nat) : Str := (("Line(" : Str) ++ num n) ++ (" works)" : Str)
section
variable {P : Program} {w : World} {K : PySem.W.Frag} {mg : Str → Option Value} {base : Heap}
/-! ### line[kind] -/
def spItem (K : PySem.W.Frag) (C : Addr) : Sp := fun vs H Q _ => ∃ (a : Addr) (ws : List (List Int)) (i : Nat) (x : List Int), vs = [.ref a, .int i] ∧ LineAt K C H a ws ∧ ws[i]? = some x ∧ ∀ c, SqT K H c (x.map V.int) → Q (.ref c) H
theorem ok_item {f f1 C : Addr} {fd fd1 : FuncData} {k : Nat} (F : Fun K "__getitem__" "Line.__getitem__" s_Line_getitem f fd) (T : LC K mg C)
    (G1 : FnOk P w K mg base CX0 k f1 fd1 ["line", "thing"] (spReqKind K C)) (kp1 : PySem.W.keepIn K (.ref f1) = true) (b1 : Binds K fd1 ["line", "thing"] []) (g1 : mg "require_kind" = some (.ref f1)) :
    FnOk P w K mg base CX0 (k + 1) f fd ["self", "at"] (spItem K C) := by
  refine F.ok sc_Line_getitem (fun vs H Q E h => ?_) (fun cdv A outer s H vs Q E hr h => ?_)
  · obtain ⟨a, ws, i, x, rfl, _⟩ := h; rfl
  · obtain ⟨a, ws, i, x, rfl, hL, hx, q⟩ := h
    refine ⟨_, pss_cons (ps_expr (pe_call G1 hr (by rfl) g1 kp1 b1 .nil pass0 (pa_cons (pv 0) (pa_cons (pv 1) pa_nil))))
      (pss_one (ps_ret (pe_ix ix_tup (pe_fld (pv 0) rfl) (pv 1) (fun _ _ => rfl)))), ?_⟩
    have hi := (List.getElem?_eq_some_iff.mp hx).1
    refine ⟨.ref a, rfl, .int i, rfl, a, ws, i, rfl, hL, hi, ?_⟩
    obtain ⟨dx, t, b, r, h1, h2, h3, h4, h5⟩ := hL
    obtain ⟨_, xs, e, hS, hT⟩ := h2.toTup
    cases e
    have l := hT.len
    rw [List.length_map] at l
    obtain ⟨y, hy⟩ : ∃ y, xs[i]? = some y := ⟨xs[i]'(by omega), List.getElem?_eq_getElem _⟩
    obtain ⟨x', c, hx', rfl, hc⟩ := hT.works hy
    obtain rfl : x = x' := Option.some.inj (hx.symm.trans hx')
    exact ⟨.ref a, rfl, a, C, dx, _, _, rfl, h1, T.cl, T.nW, lf_works _ _ _, .int i, rfl, t, xs, i, .ref c, rfl, rfl, hS, atI_nat hy, q c hc⟩
/-! ### repr -/
def spRepr (K : PySem.W.Frag) (C : Addr) : Sp := fun vs H Q _ => ∃ (a : Addr) (ws : List (List Int)), vs = [.ref a] ∧ LineAt K C H a ws ∧ Q (.str (word ws.length)) H
theorem word_join (n : Nat) (h1 : 1 ≤ n) (h2 : n ≤ 3) : ((Str.empty ++ ("Line(" : Str)) ++ num n) ++ (" works)" : Str) = word n := by
  have : n = 1 ∨ n = 2 ∨ n = 3 := by omega
  rcases this with rfl | rfl | rfl <;> decide +kernel
theorem num_len (n : Nat) (h1 : 1 ≤ n) (h2 : n ≤ 3) : ((Str.empty ++ ("Line(" : Str)) ++ num n).length ≤ 100 ∧ (((Str.empty ++ ("Line(" : Str)) ++ num n) ++ (" works)" : Str)).length ≤ 100 := by
  have : n = 1 ∨ n = 2 ∨ n = 3 := by omega
  rcases this with rfl | rfl | rfl <;> decide +kernel
theorem log_small (n : Nat) (h2 : n ≤ 3) : ((n : Int)).natAbs.log2 < 1920 := by
  have : n = 0 ∨ n = 1 ∨ n = 2 ∨ n = 3 := by omega
  rcases this with rfl | rfl | rfl | rfl <;> decide +kernel
theorem ok_repr {f C : Addr} {fd : FuncData} {k : Nat} (F : Fun K "__repr__" "Line.__repr__" s_Line_repr f fd) (T : LC K mg C) (m1 : mg "len" = none) :
    FnOk P w K mg base CX0 (k + 1) f fd ["self"] (spRepr K C) := by
  refine F.ok sc_Line_repr (fun vs H Q E h => ?_) (fun cdv A outer s H vs Q E hr h => ?_)
  · obtain ⟨a, ws, rfl, _⟩ := h; rfl
  · obtain ⟨a, ws, rfl, ⟨dx, t, b, r, h1, h2, h3, h4, h5⟩, q⟩ := h
    refine ⟨_, pss_one (ps_ret (pe_joined (.cons pe_str (.cons (pe_fmt (pe_callB call_len_seq (by rfl) m1 PySem.boot_len (pa_cons (pe_fld (pv 0) rfl) pa_nil))) (.cons pe_str .nil))))), ?_⟩
    obtain ⟨t', xs, e, hS, hT⟩ := h2.toTup
    cases e
    have l := hT.len
    rw [List.length_map] at l
    have big : 100 ≤ sizeLine := by rw [sizeLine_eq]; decide
    obtain ⟨z1, z2⟩ := num_len ws.length h5.least h5.few
    refine ⟨_, rfl, Nat.le_trans (by decide +kernel) big, ?_⟩
    refine ⟨.ref a, rfl, a, C, dx, _, _, rfl, h1, T.cl, T.nW, lf_works _ _ _, t, xs, rfl, .inr hS, ?_⟩
    rw [l]
    refine .inr ⟨((ws.length : Nat) : Int), rfl, log_small _ h5.few, ?_⟩
    refine ⟨_, rfl, Nat.le_trans z1 big, ?_⟩
    refine ⟨_, rfl, Nat.le_trans z2 big, ?_⟩
    have e := word_join ws.length h5.least h5.few
    show Q (.str (((Str.empty ++ ("Line(" : Str)) ++ num ws.length) ++ (" works)" : Str))) H
    rw [e]
    exact q
end
/-- the two more -/
structure Meths2 (P : Program) (w : World) (K : PySem.W.Frag) (mg : Str → Option Value) (base : Heap) (k : Nat) (C : Addr) : Prop where
  m : Meths P w K mg base k C
  item : ∃ f fd, Has P w K mg base k C "__getitem__" f fd ["self", "at"] (spItem K C) ∧ PySem.W.fnIn K f = true
  rep : ∃ f fd, Has P w K mg base k C "__repr__" f fd ["self"] (spRepr K C)
section
variable {X : Cx} {k : Nat} {C : Addr}
theorem Meths2.cRepr (M : Meths2 X.prog X.w X.K X.mg X.base k C) (hr : Room (k + 2) X.A) : CallR X (.builtin "repr") (fun xs H Q => ∃ a ws, xs = [.ref a] ∧ LineAt X.K C H a ws ∧ Q (.str (word ws.length)) H) := by
  obtain ⟨f, fd, h⟩ := M.rep
  intro pins s σ H xs us Q I r q
  obtain ⟨a, ws, rfl, hL, q⟩ := q
  obtain ⟨u, rfl, rfl⟩ := vals1 r
  obtain ⟨m, hF⟩ := I.fr
  obtain ⟨_, _, J⟩ := insAt_look I hL.ins
  refine PySem.W.repr_K (show X.A.in1.units < cLine from (hr.mono (show k + 1 ≤ k + 2 by omega)).in1.units0) hF I.ok.mod.kin J h.at_ h.fn (thn (run_in1 (Q := fun v H' => v = .str (word ws.length) ∧ Q (.str (word ws.length)) H') (us := [.ref a]) (vs := [.ref a]) h.ok (hr.mono (Nat.le_succ _)) h.bi I (.cons rfl .nil) ⟨a, ws, rfl, hL, rfl, q⟩) ?_)
  rintro v s' ⟨x, H', I', rx, rfl, q'⟩
  obtain ⟨t, rfl⟩ := rx
  exact ⟨.str _, H', I', ⟨_, rfl⟩, q'⟩
def tItem (K : PySem.W.Frag) (C : Addr) (ta tb : TE) : TE := fun σ H Q => ta σ H fun y H1 => tb σ H1 fun z H2 => ∃ a ws, ∃ i : Nat, ∃ x, y = .ref a ∧ z = .int i ∧ LineAt K C H2 a ws ∧ ws[i]? = some x ∧ ∀ c, SqT K H2 c (x.map V.int) → Q (.ref c) H2
theorem Meths2.pItem {K : PySem.W.Frag} {a b : Expr} {ta tb : TE} {pos : Pos} (M : Meths2 X.prog X.w K X.mg X.base k C) (hK : X.K = K) (hr : Room (k + 2) X.A) (ha : PE X a ta) (hb : PE X b tb)
    (hsl : ∀ x i, subscripted b true (.ref x) i = runValue (.builtin "lifetime.subscript" ⟨[.ref x, i], []⟩) := by intro _ _; rfl) : PE X (.Subscript a b pos) (tItem K C ta tb) := by
  subst hK
  obtain ⟨f, fd, h, hf⟩ := M.item
  refine ⟨fun pins s σ H Q I h' => Subscript_ (binT ha hb I h' fun v u s2 x y H2 I2 rx ry q => ?_)⟩
  obtain ⟨o, ws, i, z, rfl, rfl, hL, hz, q⟩ := q
  obtain rfl : v = Value.ref o := rx
  obtain ⟨m, hF⟩ := I2.fr
  obtain ⟨_, _, J⟩ := insAt_look I2 hL.ins
  exact PySem.W.sub_K hF I2.ok.mod.kin J h.at_ hf h.fn (run_in1 (us := [.ref o, u]) (vs := [.ref o, .int i]) h.ok (hr.mono (Nat.le_succ _)) h.bi I2 (.cons rfl (.cons ry .nil)) ⟨o, ws, i, z, rfl, hL, hz, q⟩) (hsl _ _)
end
end Sg

set_option Elab.async false
set_option linter.all false
set_option maxRecDepth 100000
set_option maxHeartbeats 4000000
namespace Sg
open PySem PySem.Spec PyProof.Rows L2
/-! ## who is where: a dict from spots to lists of pieces -/
abbrev Spot := Int × Int
def keyS (p : Spot) : List L2.Key := [.inl p.1, .inl p.2]
theorem keyS_inj {p q : Spot} (h : keyS p = keyS q) : p = q := by
  obtain ⟨a, b⟩ := p
  obtain ⟨c, d⟩ := q
  unfold keyS at h
  injection h with h1 h2
  injection h2 with h2 _
  injection h1 with h1
  injection h2 with h2
  simp only at h1 h2
  rw [h1, h2]
/-- a spot, its list's place, its pieces -/
abbrev Grp := Spot × Addr × List Nat
def iV (ns : List Nat) : List V := ns.map fun n => V.int (n : Nat)
def entS (g : Grp) : List L2.Key × V := (keyS g.1, V.ref g.2.1)
abbrev Ev := Spot × Nat
def who (E : List Ev) (p : Spot) : List Nat := (E.filter fun e => decide (e.1 = p)).map (·.2)
theorem who_snoc (E : List Ev) (p q : Spot) (i : Nat) : who (E ++ [(q, i)]) p = who E p ++ (if q = p then [i] else []) := by
  unfold who
  rw [List.filter_append, List.map_append]
  congr 1
  by_cases h : q = p
  · simp [h]
  · simp [h]
/-- the spots, by their first time -/
def firsts (E : List Ev) : List Spot := E.foldl (fun acc e => if e.1 ∈ acc then acc else acc ++ [e.1]) []
theorem firsts_snoc (E : List Ev) (e : Ev) : firsts (E ++ [e]) = if e.1 ∈ firsts E then firsts E else firsts E ++ [e.1] := by
  unfold firsts
  rw [List.foldl_append]
  rfl
structure VisG (gs : List Grp) (E : List Ev) : Prop where
  ord : gs.map (·.1) = firsts E
  told : ∀ g ∈ gs, g.2.2 = who E g.1
  full : ∀ e ∈ E, ∃ g ∈ gs, g.1 = e.1
  keys : (gs.map (·.1)).Nodup
  few : gs.length ≤ E.length
structure VisAt (H0 H : Hp) (d : Addr) (gs : List Grp) : Prop where
  at_ : H d = some (.dT (gs.map entS))
  lists : ∀ g ∈ gs, H g.2.1 = some (.lst (iV g.2.2))
  apart : (gs.map (·.2.1)).Nodup
  fresh : H0 d = none ∧ ∀ g ∈ gs, H0 g.2.1 = none
  old : Same H0 H
theorem who_len (E : List Ev) (p : Spot) : (who E p).length ≤ E.length := by
  unfold who
  rw [List.length_map]
  exact List.length_filter_le _ _
/-! ### a spot is there, or not -/
theorem val_ent (p : Spot) : ∀ gs : List Grp, (∀ v, valV (gs.map entS) (keyS p) = some v → ∃ g ∈ gs, g.1 = p ∧ v = .ref g.2.1) ∧ (valV (gs.map entS) (keyS p) = none → ∀ g ∈ gs, g.1 ≠ p)
  | [] => ⟨fun v h => (nomatch h), fun _ g h => (nomatch h)⟩
  | g :: r => by
    obtain ⟨i1, i2⟩ := val_ent p r
    by_cases h : g.1 = p
    · have e : valV ((g :: r).map entS) (keyS p) = some (.ref g.2.1) := by
        rw [List.map_cons]
        exact valV_pos (by unfold entS; rw [h])
      refine ⟨fun v hv => ?_, fun hn => ?_⟩
      · rw [e] at hv
        exact ⟨g, List.mem_cons_self, h, (Option.some.inj hv).symm⟩
      · rw [e] at hn
        exact nomatch hn
    · have e : valV ((g :: r).map entS) (keyS p) = valV (r.map entS) (keyS p) := by
        rw [List.map_cons]
        exact valV_neg (fun z => h (keyS_inj z))
      rw [e]
      refine ⟨fun v hv => ?_, fun hn x hx => ?_⟩
      · obtain ⟨y, hy, q⟩ := i1 v hv
        exact ⟨y, List.mem_cons_of_mem _ hy, q⟩
      · rcases List.mem_cons.mp hx with rfl | hx
        · exact h
        · exact i2 hn x hx
/-- the piece comes to a list that is there -/
def more (gs : List Grp) (p : Spot) (i : Nat) : List Grp := gs.map fun g => if g.1 = p then (g.1, g.2.1, g.2.2 ++ [i]) else g
theorem more_ent (gs : List Grp) (p : Spot) (i : Nat) : (more gs p i).map entS = gs.map entS := by
  unfold more
  rw [List.map_map]
  refine List.map_congr_left fun g _ => ?_
  show entS (if g.1 = p then _ else g) = entS g
  split <;> rfl
theorem more_fst (gs : List Grp) (p : Spot) (i : Nat) : (more gs p i).map (·.1) = gs.map (·.1) := by
  unfold more
  rw [List.map_map]
  refine List.map_congr_left fun g _ => ?_
  show (if g.1 = p then (g.1, g.2.1, g.2.2 ++ [i]) else g).1 = g.1
  split <;> rfl
theorem more_snd (gs : List Grp) (p : Spot) (i : Nat) : (more gs p i).map (·.2.1) = gs.map (·.2.1) := by
  unfold more
  rw [List.map_map]
  refine List.map_congr_left fun g _ => ?_
  show (if g.1 = p then (g.1, g.2.1, g.2.2 ++ [i]) else g).2.1 = g.2.1
  split <;> rfl
theorem VisG.more {gs : List Grp} {E : List Ev} (h : VisG gs E) {g : Grp} (hg : g ∈ gs) (i : Nat) : VisG (more gs g.1 i) (E ++ [(g.1, i)]) := by
  refine ⟨?_, fun x hx => ?_, fun e he => ?_, by rw [more_fst]; exact h.keys, ?_⟩
  · rw [more_fst, h.ord, firsts_snoc, if_pos]
    rw [← h.ord]
    exact List.mem_map.mpr ⟨g, hg, rfl⟩
  · obtain ⟨y, hy, rfl⟩ := List.mem_map.mp hx
    rw [who_snoc]
    by_cases q : y.1 = g.1
    · rw [if_pos q]
      show y.2.2 ++ [i] = who E y.1 ++ _
      rw [if_pos q.symm, h.told y hy]
    · rw [if_neg q, if_neg (fun z => q z.symm), List.append_nil]
      exact h.told y hy
  · have key : ∀ y ∈ gs, ∃ x ∈ Sg.more gs g.1 i, x.1 = y.1 := fun y hy => by
      refine ⟨_, List.mem_map.mpr ⟨y, hy, rfl⟩, ?_⟩
      show (if y.1 = g.1 then (y.1, y.2.1, y.2.2 ++ [i]) else y).1 = y.1
      split <;> rfl
    rcases List.mem_append.mp he with he | he
    · obtain ⟨y, hy, e1⟩ := h.full e he
      obtain ⟨x, hx, e2⟩ := key y hy
      exact ⟨x, hx, e2.trans e1⟩
    · rcases List.mem_singleton.mp he with rfl
      exact key g hg
  · unfold Sg.more
    rw [List.length_map, List.length_append]
    have := h.few
    omega
theorem VisG.new {gs : List Grp} {E : List Ev} (h : VisG gs E) {p : Spot} (hp : ∀ g ∈ gs, g.1 ≠ p) (l : Addr) (i : Nat) : VisG (gs ++ [(p, l, [i])]) (E ++ [(p, i)]) := by
  refine ⟨?_, fun x hx => ?_, fun e he => ?_, ?_, ?_⟩
  · rw [List.map_append, h.ord, firsts_snoc, if_neg]
    · rfl
    · rw [← h.ord]
      intro z
      obtain ⟨g, hg, e⟩ := List.mem_map.mp z
      exact hp g hg e
  · rw [who_snoc]
    rcases List.mem_append.mp hx with hx | hx
    · rw [if_neg (fun z => hp x hx z.symm), List.append_nil]
      exact h.told x hx
    · rcases List.mem_singleton.mp hx with rfl
      have : who E p = [] := by
        unfold who
        rw [List.filter_eq_nil_iff.mpr]
        · rfl
        · intro e he z
          obtain ⟨g, hg, q⟩ := h.full e he
          exact hp g hg (q.trans (of_decide_eq_true z))
      show [i] = who E p ++ (if p = p then [i] else [])
      rw [this, if_pos rfl]
      rfl
  · rcases List.mem_append.mp he with he | he
    · obtain ⟨y, hy, q⟩ := h.full e he
      exact ⟨y, List.mem_append_left _ hy, q⟩
    · rcases List.mem_singleton.mp he with rfl
      exact ⟨_, List.mem_append_right _ (List.mem_singleton.mpr rfl), rfl⟩
  · rw [List.map_append]
    refine List.nodup_append.mpr ⟨h.keys, by simp, fun a ha b hb => ?_⟩
    obtain ⟨g, hg, rfl⟩ := List.mem_map.mp ha
    rcases List.mem_singleton.mp hb with rfl
    exact hp g hg
  · rw [List.length_append, List.length_append]
    exact Nat.add_le_add_right h.few _
/-! ### the heap -/
theorem nodup_at {α β : Type} {f : α → β} : ∀ {l : List α}, (l.map f).Nodup → ∀ {x y : α}, x ∈ l → y ∈ l → f x = f y → x = y
  | [], _, _, _, hx, _, _ => nomatch hx
  | a :: r, h, x, y, hx, hy, e => by
    rw [List.map_cons] at h
    obtain ⟨h1, h2⟩ := List.nodup_cons.mp h
    rcases List.mem_cons.mp hx with ex | hx2 <;> rcases List.mem_cons.mp hy with ey | hy2
    · rw [ex, ey]
    · exact (h1 (List.mem_map.mpr ⟨y, hy2, by rw [← ex]; exact e.symm⟩)).elim
    · exact (h1 (List.mem_map.mpr ⟨x, hx2, by rw [← ey]; exact e⟩)).elim
    · exact nodup_at h2 hx2 hy2 e
theorem VisAt.same {H0 H H' : Hp} {d : Addr} {gs : List Grp} (h : VisAt H0 H d gs) (e : Same H H') : VisAt H0 H' d gs :=
  ⟨e _ _ h.at_, fun g hg => e _ _ (h.lists g hg), h.apart, h.fresh, h.old.trans e⟩
theorem VisAt.more {H0 H : Hp} {d : Addr} {gs : List Grp} (h : VisAt H0 H d gs) (hk : (gs.map (·.1)).Nodup) {g : Grp} (hg : g ∈ gs) (i : Nat) :
    VisAt H0 (upd H g.2.1 (.lst (iV g.2.2 ++ [.int (i : Nat)]))) d (more gs g.1 i) := by
  have hd : d ≠ g.2.1 := ne_of h.at_ (h.lists g hg) (fun z => nomatch z)
  refine ⟨?_, fun x hx => ?_, by rw [more_snd]; exact h.apart, ⟨h.fresh.1, fun x hx => ?_⟩, fun b o e => ?_⟩
  · rw [upd_ne hd, more_ent]
    exact h.at_
  · obtain ⟨y, hy, rfl⟩ := List.mem_map.mp hx
    by_cases q : y.1 = g.1
    · obtain rfl := nodup_at hk hy hg q
      rw [if_pos rfl]
      show (upd H y.2.1 _) y.2.1 = _
      rw [upd_same]
      unfold iV
      rw [List.map_append]
      rfl
    · rw [if_neg q, upd_ne (fun z => q (by rw [nodup_at h.apart hy hg z]))]
      exact h.lists y hy
  · obtain ⟨y, hy, rfl⟩ := List.mem_map.mp hx
    have : (if y.1 = g.1 then (y.1, y.2.1, y.2.2 ++ [i]) else y).2.1 = y.2.1 := by split <;> rfl
    rw [this]
    exact h.fresh.2 y hy
  · rw [upd_ne (ne_of_none e (h.fresh.2 g hg))]
    exact h.old b o e
theorem VisAt.new {H0 H : Hp} {d l : Addr} {gs : List Grp} {p : Spot} {u : HO} (h : VisAt H0 H d gs) (hl : H l = some u) (hl0 : H0 l = none) (hdl : d ≠ l) (hgl : ∀ g ∈ gs, g.2.1 ≠ l) (i : Nat) :
    VisAt H0 (upd (upd H d (.dT (gs.map entS ++ [(keyS p, .ref l)]))) l (.lst [.int (i : Nat)])) d (gs ++ [(p, l, [i])]) := by
  refine ⟨?_, fun x hx => ?_, ?_, ⟨h.fresh.1, fun x hx => ?_⟩, fun b o e => ?_⟩
  · rw [upd_ne hdl, upd_same, List.map_append]
    rfl
  · rcases List.mem_append.mp hx with hx | hx
    · rw [upd_ne (hgl x hx), upd_ne (ne_of (h.lists x hx) h.at_ (fun z => nomatch z))]
      exact h.lists x hx
    · rcases List.mem_singleton.mp hx with rfl
      exact upd_same
  · rw [List.map_append]
    refine List.nodup_append.mpr ⟨h.apart, by simp, fun a ha b hb => ?_⟩
    obtain ⟨g, hg, rfl⟩ := List.mem_map.mp ha
    rcases List.mem_singleton.mp hb with rfl
    exact hgl g hg
  · rcases List.mem_append.mp hx with hx | hx
    · exact h.fresh.2 x hx
    · rcases List.mem_singleton.mp hx with rfl
      exact hl0
  · rw [upd_ne (ne_of_none e hl0), upd_ne (ne_of_none e h.fresh.1)]
    exact h.old b o e
end Sg

set_option Elab.async false
set_option linter.all false
set_option maxRecDepth 100000
set_option maxHeartbeats 4000000
namespace Sg
open PySem PySem.Spec PyProof.Rows L2
/-! ## the visits of a plan -/
theorem atD_iff {ns : List Int} {t s : Int} (hs : s ≠ -1) : atD ns t = s ↔ ∃ j : Nat, t = j ∧ ns[j]? = some s := by
  constructor
  · intro h
    rcases atD_cases ns t with ⟨j, e, hj⟩ | e
    · exact ⟨j, e, by rw [← h]; exact hj⟩
    · exact absurd (h.symm.trans e) hs
  · rintro ⟨j, rfl, hj⟩
    exact atD_in hj
/-- the first m ticks of a piece that begins in t -/
def evTo (t : Int) (x : List Int) (i : Nat) : Nat → List Ev
  | 0 => []
  | m + 1 => evTo t x i m ++ (match x[m]? with
    | some s => if s = -1 then [] else [((t + (m : Nat), s), i)]
    | none => [])
theorem who_nil (p : Spot) : who [] p = [] := rfl
theorem who_app (E F : List Ev) (p : Spot) : who (E ++ F) p = who E p ++ who F p := by
  unfold who
  rw [List.filter_append, List.map_append]
theorem who_one (q p : Spot) (i : Nat) : who [(q, i)] p = if q = p then [i] else [] := by
  have := who_snoc [] p q i
  rw [List.nil_append, who_nil, List.nil_append] at this
  exact this
theorem who_evTo (t : Int) (x : List Int) (i : Nat) (p : Spot) (m : Nat) : who (evTo t x i m) p = if ∃ j, j < m ∧ x[j]? = some p.2 ∧ p.2 ≠ -1 ∧ p.1 = t + (j : Nat) then [i] else [] := by
  induction m with
  | zero => rw [if_neg (fun ⟨j, h, _⟩ => absurd h (Nat.not_lt_zero _))]; rfl
  | succ m ih =>
    unfold evTo
    rw [who_app, ih]
    by_cases h : ∃ j, j < m ∧ x[j]? = some p.2 ∧ p.2 ≠ -1 ∧ p.1 = t + (j : Nat)
    · have h' : ∃ j, j < m + 1 ∧ x[j]? = some p.2 ∧ p.2 ≠ -1 ∧ p.1 = t + (j : Nat) := by
        obtain ⟨j, a, b⟩ := h
        exact ⟨j, Nat.lt_succ_of_lt a, b⟩
      rw [if_pos h, if_pos h']
      obtain ⟨j, a, _, _, e⟩ := h
      cases hm : x[m]? with
      | none => exact List.append_nil _
      | some s =>
        show [i] ++ who (if s = -1 then [] else [((t + (m : Nat), s), i)]) p = [i]
        by_cases hs : s = -1
        · rw [if_pos hs]; rfl
        · have hz : ¬ (t + (m : Nat), s) = p := by
            intro z
            have := congrArg Prod.fst z
            simp only at this
            omega
          rw [if_neg hs, who_one, if_neg hz]
          rfl
    · rw [if_neg h, List.nil_append]
      cases hm : x[m]? with
      | none =>
        have hz : ¬ ∃ j, j < m + 1 ∧ x[j]? = some p.2 ∧ p.2 ≠ -1 ∧ p.1 = t + (j : Nat) := by
          rintro ⟨j, a, b, c⟩
          rcases Nat.lt_succ_iff_lt_or_eq.mp a with a | rfl
          · exact h ⟨j, a, b, c⟩
          · rw [hm] at b
            exact nomatch b
        rw [if_neg hz]
        rfl
      | some s =>
        show who (if s = -1 then [] else [((t + (m : Nat), s), i)]) p = _
        by_cases hs : s = -1
        · have hz : ¬ ∃ j, j < m + 1 ∧ x[j]? = some p.2 ∧ p.2 ≠ -1 ∧ p.1 = t + (j : Nat) := by
            rintro ⟨j, a, b, c, e⟩
            rcases Nat.lt_succ_iff_lt_or_eq.mp a with a | rfl
            · exact h ⟨j, a, b, c, e⟩
            · rw [hm] at b
              exact c ((Option.some.inj b).symm.trans hs)
          rw [if_pos hs, if_neg hz]
          rfl
        · rw [if_neg hs, who_one]
          by_cases q : (t + (m : Nat), s) = p
          · rw [if_pos q, if_pos]
            subst q
            exact ⟨m, Nat.lt_succ_self _, hm, hs, rfl⟩
          · have hz : ¬ ∃ j, j < m + 1 ∧ x[j]? = some p.2 ∧ p.2 ≠ -1 ∧ p.1 = t + (j : Nat) := by
              rintro ⟨j, a, b, c, e⟩
              rcases Nat.lt_succ_iff_lt_or_eq.mp a with a | rfl
              · exact h ⟨j, a, b, c, e⟩
              · rw [hm] at b
                exact q (Prod.ext e.symm (Option.some.inj b))
            rw [if_neg q, if_neg hz]
abbrev wk (ws : List (List Int)) (k : Nat) : List Int := ws.getD k []
/-- the first n pieces -/
def evPlan (ws : List (List Int)) (ps : List (Int × Nat)) : Nat → List Ev
  | 0 => []
  | n + 1 => evPlan ws ps n ++ (match ps[n]? with
    | some st => evTo st.1 (wk ws st.2) n (wk ws st.2).length
    | none => [])
/-- piece i is at this spot -/
def here (ws : List (List Int)) (ps : List (Int × Nat)) (p : Spot) (i : Nat) : Bool := match ps[i]? with
  | some st => p.2 != -1 && decide (atD (wk ws st.2) (p.1 - st.1) = p.2)
  | none => false
theorem who_full (t : Int) (x : List Int) (i : Nat) (p : Spot) : who (evTo t x i x.length) p = if (p.2 != -1 && decide (atD x (p.1 - t) = p.2)) = true then [i] else [] := by
  rw [who_evTo]
  have key : (∃ j, j < x.length ∧ x[j]? = some p.2 ∧ p.2 ≠ -1 ∧ p.1 = t + (j : Nat)) ↔ (p.2 != -1 && decide (atD x (p.1 - t) = p.2)) = true := by
    rw [Bool.and_eq_true, bne_iff_ne, decide_eq_true_eq]
    constructor
    · rintro ⟨j, _, b, c, e⟩
      exact ⟨c, (atD_iff c).mpr ⟨j, by omega, b⟩⟩
    · rintro ⟨c, h⟩
      obtain ⟨j, e, b⟩ := (atD_iff c).mp h
      exact ⟨j, (List.getElem?_eq_some_iff.mp b).1, b, c, by omega⟩
  by_cases h : (p.2 != -1 && decide (atD x (p.1 - t) = p.2)) = true
  · rw [if_pos h, if_pos (key.mpr h)]
  · rw [if_neg h, if_neg (fun z => h (key.mp z))]
theorem who_plan (ws : List (List Int)) (ps : List (Int × Nat)) (p : Spot) (n : Nat) : who (evPlan ws ps n) p = (List.range n).filter (here ws ps p) := by
  induction n with
  | zero => rfl
  | succ n ih =>
    unfold evPlan
    rw [who_app, ih, List.range_succ, List.filter_append]
    congr 1
    unfold here
    cases hp : ps[n]? with
    | none => simp [hp, who_nil]
    | some st =>
      show who (evTo st.1 (wk ws st.2) n (wk ws st.2).length) p = _
      rw [who_full]
      by_cases h : (p.2 != -1 && decide (atD (wk ws st.2) (p.1 - st.1) = p.2)) = true
      · rw [if_pos h, List.filter_cons_of_pos (by rw [hp]; exact h)]; rfl
      · rw [if_neg h, List.filter_cons_of_neg (by rw [hp]; exact h)]; rfl
theorem evTo_len (t : Int) (x : List Int) (i m : Nat) : (evTo t x i m).length ≤ m := by
  induction m with
  | zero => exact Nat.le_refl _
  | succ m ih =>
    unfold evTo
    rw [List.length_append]
    have : (match x[m]? with | some s => if s = -1 then ([] : List Ev) else [((t + (m : Nat), s), i)] | none => []).length ≤ 1 := by
      split
      · split <;> simp
      · simp
    omega
theorem evPlan_len (ws : List (List Int)) (ps : List (Int × Nat)) (hw : ∀ x ∈ ws, x.length ≤ 60) (n : Nat) : (evPlan ws ps n).length ≤ 60 * n := by
  have hk : ∀ k, (wk ws k).length ≤ 60 := fun k => by
    unfold wk
    rw [List.getD_eq_getElem?_getD]
    cases h : ws[k]? with
    | none => simp
    | some x => exact hw x (List.mem_of_getElem? h)
  induction n with
  | zero => exact Nat.le_refl _
  | succ n ih =>
    unfold evPlan
    rw [List.length_append]
    have : (match ps[n]? with | some st => evTo st.1 (wk ws st.2) n (wk ws st.2).length | none => []).length ≤ 60 := by
      split
      · exact Nat.le_trans (evTo_len _ _ _ _) (hk _)
      · simp
    omega
theorem evTo_succ {t : Int} {x : List Int} {i m : Nat} {s : Int} (h : x[m]? = some s) : evTo t x i (m + 1) = evTo t x i m ++ (if s = -1 then [] else [((t + (m : Nat), s), i)]) := by
  show evTo t x i m ++ _ = _
  rw [h]
theorem evPlan_succ {ws : List (List Int)} {ps : List (Int × Nat)} {n : Nat} {st : Int × Nat} (h : ps[n]? = some st) : evPlan ws ps (n + 1) = evPlan ws ps n ++ evTo st.1 (wk ws st.2) n (wk ws st.2).length := by
  show evPlan ws ps n ++ _ = _
  rw [h]
/-! ### where two are at once -/
def crowd1 (E : List Ev) (p : Spot) : Option PyData := match who E p with
  | x :: y :: _ => some (.tuple [.int p.1, .int p.2, .int (x : Nat), .int (y : Nat)])
  | _ => none
def crowdD (E : List Ev) : List PyData := (firsts E).filterMap (crowd1 E)
theorem firsts_acc : ∀ (E : List Ev) (acc : List Spot), (∀ p ∈ acc, p ∈ E.foldl (fun acc e => if e.1 ∈ acc then acc else acc ++ [e.1]) acc) ∧ ∀ e ∈ E, e.1 ∈ E.foldl (fun acc e => if e.1 ∈ acc then acc else acc ++ [e.1]) acc
  | [], acc => ⟨fun p hp => hp, fun e he => (nomatch he)⟩
  | f :: r, acc => by
    rw [List.foldl_cons]
    obtain ⟨h1, h2⟩ := firsts_acc r (if f.1 ∈ acc then acc else acc ++ [f.1])
    have h3 : ∀ p ∈ acc, p ∈ (if f.1 ∈ acc then acc else acc ++ [f.1]) := fun p hp => by
      split
      · exact hp
      · exact List.mem_append_left _ hp
    have h4 : f.1 ∈ (if f.1 ∈ acc then acc else acc ++ [f.1]) := by
      split
      · assumption
      · exact List.mem_append_right _ (List.mem_singleton.mpr rfl)
    refine ⟨fun p hp => h1 p (h3 p hp), fun e he => ?_⟩
    rcases List.mem_cons.mp he with rfl | he
    · exact h1 _ h4
    · exact h2 e he
theorem mem_firsts {E : List Ev} {p : Spot} (hp : who E p ≠ []) : p ∈ firsts E := by
  obtain ⟨i, hi⟩ := List.exists_mem_of_ne_nil _ hp
  unfold who at hi
  obtain ⟨e, he, rfl⟩ := List.mem_map.mp hi
  obtain ⟨h1, h2⟩ := List.mem_filter.mp he
  have := (firsts_acc E []).2 e h1
  rw [of_decide_eq_true h2] at this
  exact this
theorem crowd_some {E : List Ev} {p : Spot} {x y : Nat} {r : List Nat} (hp : who E p = x :: y :: r) : crowdD E ≠ [] := by
  intro z
  have m := mem_firsts (p := p) (E := E) (by rw [hp]; exact List.cons_ne_nil _ _)
  have : PyData.tuple [.int p.1, .int p.2, .int (x : Nat), .int (y : Nat)] ∈ crowdD E := by
    refine List.mem_filterMap.mpr ⟨p, m, ?_⟩
    unfold crowd1
    rw [hp]
  rw [z] at this
  exact nomatch this
theorem crowd_mem {E : List Ev} {d : PyData} (h : d ∈ crowdD E) : ∃ p x y r, who E p = x :: y :: r ∧ d = .tuple [.int p.1, .int p.2, .int (x : Nat), .int (y : Nat)] := by
  obtain ⟨p, _, e⟩ := List.mem_filterMap.mp h
  unfold crowd1 at e
  split at e
  · rename_i x y r hw
    exact ⟨p, x, y, r, hw, (Option.some.inj e).symm⟩
  · exact nomatch e
/-! ### two pieces -/
theorem two_who {x y : List Int} {t : Int} {d : Nat} {p : Spot} : who (evPlan [x, y] [(t, 0), (t + d, 1)] 2) p = (if p.2 ≠ -1 ∧ atD x (p.1 - t) = p.2 then [0] else []) ++ (if p.2 ≠ -1 ∧ atD y (p.1 - (t + d)) = p.2 then [1] else []) := by
  rw [who_plan]
  have e : List.range 2 = [0] ++ [1] := rfl
  rw [e, List.filter_append]
  congr 1
  · by_cases h : p.2 ≠ -1 ∧ atD x (p.1 - t) = p.2
    · rw [if_pos h, List.filter_cons_of_pos]
      · rfl
      · show (p.2 != -1 && decide (atD x (p.1 - t) = p.2)) = true
        rw [Bool.and_eq_true, bne_iff_ne, decide_eq_true_eq]; exact h
    · rw [if_neg h, List.filter_cons_of_neg]
      · rfl
      · show ¬ (p.2 != -1 && decide (atD x (p.1 - t) = p.2)) = true
        rw [Bool.and_eq_true, bne_iff_ne, decide_eq_true_eq]; exact h
  · by_cases h : p.2 ≠ -1 ∧ atD y (p.1 - (t + d)) = p.2
    · rw [if_pos h, List.filter_cons_of_pos]
      · rfl
      · show (p.2 != -1 && decide (atD y (p.1 - (t + d)) = p.2)) = true
        rw [Bool.and_eq_true, bne_iff_ne, decide_eq_true_eq]; exact h
    · rw [if_neg h, List.filter_cons_of_neg]
      · rfl
      · show ¬ (p.2 != -1 && decide (atD y (p.1 - (t + d)) = p.2)) = true
        rw [Bool.and_eq_true, bne_iff_ne, decide_eq_true_eq]; exact h
theorem two_many {x y : List Int} {t : Int} {d : Nat} {p : Spot} {a b : Nat} {r : List Nat} (h : who (evPlan [x, y] [(t, 0), (t + d, 1)] 2) p = a :: b :: r) :
    a = 0 ∧ b = 1 ∧ atD x (p.1 - t) = p.2 ∧ atD y (p.1 - (t + d)) = p.2 ∧ clashB x y d = true := by
  rw [two_who] at h
  by_cases h1 : p.2 ≠ -1 ∧ atD x (p.1 - t) = p.2
  · by_cases h2 : p.2 ≠ -1 ∧ atD y (p.1 - (t + d)) = p.2
    · rw [if_pos h1, if_pos h2] at h
      cases h
      refine ⟨rfl, rfl, h1.2, h2.2, clashB_iff.mpr ?_⟩
      obtain ⟨j, e1, g1⟩ := (atD_iff h1.1).mp h1.2
      obtain ⟨m, e2, g2⟩ := (atD_iff h1.1).mp h2.2
      exact ⟨m, p.2, by rw [show d + m = j by omega]; exact g1, g2, h1.1⟩
    · rw [if_pos h1, if_neg h2] at h
      exact nomatch h
  · rw [if_neg h1] at h
    split at h <;> exact nomatch h
theorem two_some {x y : List Int} {t : Int} {d : Nat} (h : clashB x y d = true) : ∃ p, who (evPlan [x, y] [(t, 0), (t + d, 1)] 2) p = [0, 1] := by
  obtain ⟨j, s, h1, h2, h3⟩ := clashB_iff.mp h
  refine ⟨(t + d + j, s), ?_⟩
  rw [two_who, if_pos, if_pos]
  · rfl
  · exact ⟨h3, (atD_iff h3).mpr ⟨j, by show t + (d : Int) + j - (t + d) = j; omega, h2⟩⟩
  · exact ⟨h3, (atD_iff h3).mpr ⟨d + j, by show t + (d : Int) + j - t = ((d + j : Nat) : Int); omega, h1⟩⟩
/-- two starts: no spot is crowded, or what is told -/
theorem two_none {x y : List Int} {t : Int} {d : Nat} (h : crowdD (evPlan [x, y] [(t, 0), (t + d, 1)] 2) = []) : clashB x y d = false := by
  cases hc : clashB x y d with
  | false => rfl
  | true =>
    obtain ⟨p, hp⟩ := two_some (t := t) hc
    exact absurd h (crowd_some hp)
theorem two_told {x y : List Int} {t : Int} {d : Nat} {z : PyData} (h : z ∈ crowdD (evPlan [x, y] [(t, 0), (t + d, 1)] 2)) :
    clashB x y d = true ∧ ∃ a s : Int, z = .tuple [.int a, .int s, .int 0, .int 1] ∧ atD x (a - t) = s ∧ atD y (a - (t + d)) = s := by
  obtain ⟨p, a, b, r, hw, rfl⟩ := crowd_mem h
  obtain ⟨rfl, rfl, h1, h2, hc⟩ := two_many hw
  exact ⟨hc, p.1, p.2, rfl, h1, h2⟩
theorem mem_bars {x y : List Int} {d : Nat} (hd : 1 ≤ d) : d ∈ barsN x y ↔ clashB x y d = true := by
  unfold barsN
  rw [List.mem_filter, List.mem_range'_1]
  constructor
  · exact fun h => h.2
  · intro h
    obtain ⟨j, s, h1, _⟩ := clashB_iff.mp h
    have := (List.getElem?_eq_some_iff.mp h1).1
    exact ⟨⟨hd, by omega⟩, h⟩
end Sg

set_option Elab.async false
set_option linter.all false
set_option maxRecDepth 100000
set_option maxHeartbeats 4000000
namespace Sg
open PySem PySem.Spec PyProof.Rows L2
/-! ## ascending lists, and how many there are -/
theorem asc_eq : ∀ {xs ys : List Int}, xs.Pairwise (· < ·) → ys.Pairwise (· < ·) → (∀ z, z ∈ xs ↔ z ∈ ys) → xs = ys
  | [], [], _, _, _ => rfl
  | [], y :: _, _, _, h => nomatch (h y).mpr List.mem_cons_self
  | x :: _, [], _, _, h => nomatch (h x).mp List.mem_cons_self
  | x :: xs, y :: ys, h1, h2, h => by
    obtain ⟨a1, b1⟩ := List.pairwise_cons.mp h1
    obtain ⟨a2, b2⟩ := List.pairwise_cons.mp h2
    have e : x = y := by
      rcases List.mem_cons.mp ((h x).mp List.mem_cons_self) with e | e
      · exact e
      · rcases List.mem_cons.mp ((h y).mpr List.mem_cons_self) with g | g
        · exact g.symm
        · have := a2 x e; have := a1 y g; omega
    subst e
    rw [asc_eq b1 b2 fun z => ?_]
    constructor
    · intro hz
      rcases List.mem_cons.mp ((h z).mp (List.mem_cons_of_mem _ hz)) with e | e
      · have := a1 z hz; omega
      · exact e
    · intro hz
      rcases List.mem_cons.mp ((h z).mpr (List.mem_cons_of_mem _ hz)) with e | e
      · have := a2 z hz; omega
      · exact e
theorem range_asc (n : Nat) : (List.range n).Pairwise (· < ·) := by
  induction n with
  | zero => exact .nil
  | succ n ih =>
    rw [List.range_succ, List.pairwise_append]
    exact ⟨ih, List.pairwise_singleton _ _, fun a ha b hb => by rw [List.mem_singleton.mp hb]; exact List.mem_range.mp ha⟩
/-- the numbers of ns, ascending, each once -/
def ascL (ns : List Int) : List Nat := (List.range 60).filter fun d => decide (((d : Nat) : Int) ∈ ns)
theorem ascL_mem {ns : List Int} {d : Nat} : d ∈ ascL ns ↔ d < 60 ∧ ((d : Nat) : Int) ∈ ns := by
  unfold ascL
  rw [List.mem_filter, List.mem_range, decide_eq_true_eq]
theorem ascL_uniq {ns ms : List Int} (h1 : ms.Pairwise (· < ·)) (h2 : ∀ z, z ∈ ms ↔ z ∈ ns) (h3 : ∀ z ∈ ns, 0 ≤ z ∧ z < 60) : ms = nI (ascL ns) := by
  refine asc_eq h1 ?_ fun z => ?_
  · unfold nI ascL
    rw [List.pairwise_map]
    exact ((range_asc 60).filter _).imp fun h => by omega
  · rw [h2]
    constructor
    · intro hz
      have := h3 z hz
      exact List.mem_map.mpr ⟨z.toNat, ascL_mem.mpr ⟨by omega, by rw [Int.toNat_of_nonneg this.1]; exact hz⟩, Int.toNat_of_nonneg this.1⟩
    · intro hz
      obtain ⟨d, hd, rfl⟩ := List.mem_map.mp hz
      exact (ascL_mem.mp hd).2
def subs : List Nat → List (List Nat)
  | [] => [[]]
  | a :: l => subs l ++ (subs l).map (a :: ·)
theorem subs_mem : ∀ {x l : List Nat}, x.Sublist l → x ∈ subs l
  | _, _, .slnil => List.mem_singleton.mpr rfl
  | _, _, .cons a h => List.mem_append.mpr (.inl (subs_mem h))
  | _, _, .cons₂ a h => List.mem_append.mpr (.inr (List.mem_map.mpr ⟨_, subs_mem h, rfl⟩))
theorem subs_len : ∀ l, (subs l).length = 2 ^ l.length
  | [] => rfl
  | a :: l => by
    show (subs l ++ (subs l).map (a :: ·)).length = _
    rw [List.length_append, List.length_map, subs_len l, List.length_cons, Nat.pow_succ]; omega
/-- all lists of n members of D -/
def tuplesOf (D : List (List Nat)) : Nat → List (List (List Nat))
  | 0 => [[]]
  | n + 1 => D.flatMap fun x => (tuplesOf D n).map (x :: ·)
theorem tuplesOf_mem {D : List (List Nat)} : ∀ {n : Nat} {L : List (List Nat)}, L.length = n → (∀ x ∈ L, x ∈ D) → L ∈ tuplesOf D n
  | 0, [], _, _ => List.mem_singleton.mpr rfl
  | n + 1, x :: L, h, g => List.mem_flatMap.mpr ⟨x, g x List.mem_cons_self, List.mem_map.mpr ⟨L, tuplesOf_mem (Nat.succ.inj h) fun y hy => g y (List.mem_cons_of_mem _ hy), rfl⟩⟩
theorem flatMap_len {α β : Type} (f : α → List β) (m : Nat) : ∀ (l : List α), (∀ x ∈ l, (f x).length = m) → (l.flatMap f).length = l.length * m
  | [], _ => by rw [List.flatMap_nil, List.length_nil, List.length_nil, Nat.zero_mul]
  | x :: l, h => by
    rw [List.flatMap_cons, List.length_append, h x List.mem_cons_self, flatMap_len f m l fun y hy => h y (List.mem_cons_of_mem _ hy), List.length_cons, Nat.succ_mul, Nat.add_comm]
theorem tuplesOf_len (D : List (List Nat)) : ∀ n, (tuplesOf D n).length = D.length ^ n
  | 0 => rfl
  | n + 1 => by
    unfold tuplesOf
    rw [flatMap_len _ (D.length ^ n) D fun x _ => by rw [List.length_map, tuplesOf_len D n], Nat.pow_succ, Nat.mul_comm]
/-! ## states: which delays of each kind are barred -/
abbrev Sta := List (List Nat)
def rowS (L : Sta) (k : Nat) : List Nat := L.getD k []
abbrev wkS (ws : List (List Int)) (k : Nat) : List Int := ws.getD k []
/-- is kind k barred d ticks behind the next tick -/
def nextB (ws : List (List Int)) (L : Sta) (c : Option Nat) (k d : Nat) : Bool := decide (d + 1 ∈ rowS L k) || (match c with | some o => decide (d + 1 ∈ barsN (wkS ws o) (wkS ws k)) | none => false)
def nextL (ws : List (List Int)) (L : Sta) (c : Option Nat) : Sta := (List.range ws.length).map fun k => (List.range 60).filter (nextB ws L c k)
def emptyL (ws : List (List Int)) : Sta := List.replicate ws.length []
def openL (ws : List (List Int)) (L : Sta) : List Nat := (List.range ws.length).filter fun k => !decide (0 ∈ rowS L k)
/-- a choice that can be made -/
def CanL (ws : List (List Int)) (L : Sta) : Option Nat → Prop
  | none => True
  | some k => k ∈ openL ws L
theorem nextL_len (ws : List (List Int)) (L : Sta) (c : Option Nat) : (nextL ws L c).length = ws.length := by unfold nextL; rw [List.length_map, List.length_range]
theorem nextL_row {ws : List (List Int)} {L : Sta} {c : Option Nat} {k : Nat} (h : k < ws.length) : rowS (nextL ws L c) k = (List.range 60).filter (nextB ws L c k) := by
  unfold rowS nextL
  rw [List.getD_eq_getElem?_getD, List.getElem?_map, List.getElem?_range h]; rfl
theorem emptyL_row (ws : List (List Int)) (k : Nat) : rowS (emptyL ws) k = [] := by
  unfold rowS emptyL
  rw [List.getD_eq_getElem?_getD, List.getElem?_replicate]
  split <;> rfl
/-- all bars are at most R -/
def Rea (ws : List (List Int)) (R : Nat) : Prop := ∀ o k b, b ∈ barsN (wkS ws o) (wkS ws k) → b ≤ R
/-- what a state may be -/
structure FormL (ws : List (List Int)) (R : Nat) (L : Sta) : Prop where
  len : L.length = ws.length
  rows : ∀ x ∈ L, ∃ f : Nat → Bool, x = (List.range 60).filter f
  lt : ∀ x ∈ L, ∀ d ∈ x, d < R
theorem FormL.empty (ws : List (List Int)) (R : Nat) : FormL ws R (emptyL ws) := by
  refine ⟨List.length_replicate, fun x hx => ⟨fun _ => false, ?_⟩, fun x hx d hd => ?_⟩
  · rw [(List.mem_replicate.mp hx).2]
    have e : (List.range 60).filter (fun _ => false) = [] := List.filter_eq_nil_iff.mpr fun _ _ h => Bool.false_ne_true h
    exact e.symm
  · rw [(List.mem_replicate.mp hx).2] at hd
    exact nomatch hd
theorem rowS_mem {L : Sta} {k d : Nat} (h : d ∈ rowS L k) : rowS L k ∈ L ∧ k < L.length := by
  unfold rowS at h ⊢
  rw [List.getD_eq_getElem?_getD] at h ⊢
  rcases e : L[k]? with _ | x
  · rw [e] at h; exact nomatch h
  · exact ⟨List.mem_of_getElem? e, (List.getElem?_eq_some_iff.mp e).1⟩
theorem FormL.next {ws : List (List Int)} {R : Nat} {L : Sta} (h : FormL ws R L) (hR : Rea ws R) (c : Option Nat) : FormL ws R (nextL ws L c) := by
  refine ⟨nextL_len _ _ _, fun x hx => ?_, fun x hx d hd => ?_⟩
  · obtain ⟨k, _, rfl⟩ := List.mem_map.mp hx
    exact ⟨_, rfl⟩
  · obtain ⟨k, _, rfl⟩ := List.mem_map.mp hx
    have hb := (List.mem_filter.mp hd).2
    unfold nextB at hb
    rw [Bool.or_eq_true, decide_eq_true_eq] at hb
    rcases hb with hb | hb
    · have := h.lt _ (rowS_mem hb).1 _ hb
      omega
    · cases c with
      | none => cases hb
      | some o =>
        have := hR o k (d + 1) (of_decide_eq_true hb)
        omega
theorem filter_cut {f : Nat → Bool} {R : Nat} (hR : R ≤ 60) (h : ∀ d ∈ (List.range 60).filter f, d < R) : ((List.range 60).filter f).Sublist (List.range R) := by
  have e : List.range 60 = List.range R ++ (List.range (60 - R)).map (R + ·) := by
    rw [← List.range_add, show R + (60 - R) = 60 by omega]
  have e2 : (List.range 60).filter f = (List.range R).filter f := by
    rw [e, List.filter_append]
    have : ((List.range (60 - R)).map (R + ·)).filter f = [] := by
      refine List.filter_eq_nil_iff.mpr fun d hd hf => ?_
      obtain ⟨i, hi, rfl⟩ := List.mem_map.mp hd
      have := h (R + i) (List.mem_filter.mpr ⟨by rw [e]; exact List.mem_append.mpr (.inr hd), hf⟩)
      omega
    rw [this, List.append_nil]
  rw [e2]
  exact List.filter_sublist
theorem FormL.row_len {ws : List (List Int)} {R : Nat} {L : Sta} (h : FormL ws R L) (hR : R ≤ 60) : ∀ x ∈ L, x.length ≤ R := fun x hx => by
  obtain ⟨f, rfl⟩ := h.rows x hx
  have := (filter_cut hR (h.lt _ hx)).length_le
  rwa [List.length_range] at this
/-- all that may be states -/
def allL (ws : List (List Int)) (R : Nat) : List Sta := tuplesOf (subs (List.range R)) ws.length
theorem FormL.mem_all {ws : List (List Int)} {R : Nat} {L : Sta} (h : FormL ws R L) (hR : R ≤ 60) : L ∈ allL ws R :=
  tuplesOf_mem h.len fun x hx => by
    obtain ⟨f, rfl⟩ := h.rows x hx
    exact subs_mem (filter_cut hR (h.lt _ hx))
/-- as many ticks as can be gone through -/
def NearR (n R : Nat) : Prop := (n = 1 ∧ R ≤ 8) ∨ (n ≤ 3 ∧ R ≤ 5)
theorem allL_len {ws : List (List Int)} {R : Nat} (h : NearR ws.length R) : (allL ws R).length ≤ 32768 := by
  unfold allL
  rw [tuplesOf_len, subs_len, List.length_range, ← Nat.pow_mul]
  have key : R * ws.length ≤ 15 := by
    rcases h with ⟨h1, h2⟩ | ⟨h1, h2⟩
    · rw [h1]; omega
    · have := Nat.mul_le_mul h2 h1; omega
  exact Nat.le_trans (Nat.pow_le_pow_right (by decide) key) (by decide)
end Sg

set_option Elab.async false
set_option linter.all false
set_option maxRecDepth 100000
set_option maxHeartbeats 4000000
namespace Sg
open PySem PySem.Spec PyProof.Rows L2
/-! ## the states that choices lead to -/
def runS (ws : List (List Int)) (cs : List (Option Nat)) : Sta := cs.foldl (nextL ws) (emptyL ws)
theorem runS_snoc (ws : List (List Int)) (cs : List (Option Nat)) (c : Option Nat) : runS ws (cs ++ [c]) = nextL ws (runS ws cs) c := by
  unfold runS
  rw [List.foldl_append]; rfl
theorem runS_form {ws : List (List Int)} {R : Nat} (hR : Rea ws R) (cs : List (Option Nat)) : FormL ws R (runS ws cs) := by
  unfold runS
  have key : ∀ (cs : List (Option Nat)) (L : Sta), FormL ws R L → FormL ws R (cs.foldl (nextL ws) L) := by
    intro cs
    induction cs with
    | nil => exact fun L h => h
    | cons c r ih => exact fun L h => ih _ (h.next hR c)
  exact key cs _ (FormL.empty ws R)
/-- what bars kind k after d ticks, behind these choices -/
def Due1 (ws : List (List Int)) (cs : List (Option Nat)) (k d : Nat) : Prop := k < ws.length ∧ ∃ i o, cs[i]? = some (some o) ∧ d + (cs.length - i) ∈ barsN (wkS ws o) (wkS ws k)
theorem row_runN {ws : List (List Int)} {R : Nat} (hR : Rea ws R) (R6 : R ≤ 60) : ∀ (n : Nat) (cs : List (Option Nat)), cs.length = n → ∀ (k d : Nat), d ∈ rowS (runS ws cs) k ↔ Due1 ws cs k d := by
  intro n
  induction n with
  | zero =>
    intro cs h k d
    rw [List.eq_nil_of_length_eq_zero h]
    show d ∈ rowS (emptyL ws) k ↔ _
    rw [emptyL_row]
    exact ⟨fun z => (nomatch z), fun ⟨_, i, o, z, _⟩ => (nomatch z)⟩
  | succ n ih =>
    intro cs h k d
    obtain ⟨ds, c, rfl⟩ : ∃ ds c, cs = ds ++ [c] := ⟨cs.dropLast, cs.getLast (by intro z; rw [z] at h; exact nomatch h), (List.dropLast_concat_getLast _).symm⟩
    have hn : ds.length = n := by rw [List.length_append] at h; exact Nat.succ.inj h
    rw [runS_snoc]
    have ihd : ∀ {k d : Nat}, d ∈ rowS (runS ws ds) k ↔ Due1 ws ds k d := fun {k d} => ih ds hn k d
    constructor
    · intro hd
      obtain ⟨_, hk⟩ := rowS_mem hd
      rw [nextL_len] at hk
      rw [nextL_row hk] at hd
      have hb := (List.mem_filter.mp hd).2
      unfold nextB at hb
      rw [Bool.or_eq_true, decide_eq_true_eq] at hb
      refine ⟨hk, ?_⟩
      rcases hb with hb | hb
      · obtain ⟨_, i, o, hi, hm⟩ := ihd.mp hb
        have hl := (List.getElem?_eq_some_iff.mp hi).1
        refine ⟨i, o, by rw [List.getElem?_append_left hl]; exact hi, ?_⟩
        rw [List.length_append, show d + (ds.length + [c].length - i) = d + 1 + (ds.length - i) by show d + (ds.length + 1 - i) = _; omega]
        exact hm
      · cases c with
        | none => cases hb
        | some o =>
          refine ⟨ds.length, o, by rw [List.getElem?_append_right (Nat.le_refl _), Nat.sub_self]; rfl, ?_⟩
          rw [List.length_append, show d + (ds.length + [some o].length - ds.length) = d + 1 by show d + (ds.length + 1 - ds.length) = _; omega]
          exact of_decide_eq_true hb
    · rintro ⟨hk, i, o, hi, hm⟩
      rw [nextL_row hk]
      have hbd := hR o k _ hm
      have hl := (List.getElem?_eq_some_iff.mp hi).1
      rw [List.length_append] at hl hm hbd
      have hl' : i < ds.length + 1 := hl
      have e1 : ds.length + [c].length = ds.length + 1 := rfl
      rw [e1] at hm hbd
      refine List.mem_filter.mpr ⟨List.mem_range.mpr (by omega), ?_⟩
      unfold nextB
      rw [Bool.or_eq_true, decide_eq_true_eq]
      by_cases z : i < ds.length
      · left
        refine ihd.mpr ⟨hk, i, o, by rw [List.getElem?_append_left z] at hi; exact hi, ?_⟩
        rw [show d + 1 + (ds.length - i) = d + (ds.length + 1 - i) by omega]
        exact hm
      · have e : i = ds.length := by omega
        subst e
        rw [List.getElem?_append_right (Nat.le_refl _), Nat.sub_self] at hi
        obtain rfl : c = some o := Option.some.inj hi
        right
        rw [show d + (ds.length + 1 - ds.length) = d + 1 by omega] at hm
        exact decide_eq_true hm
theorem row_run {ws : List (List Int)} {R : Nat} (hR : Rea ws R) (R6 : R ≤ 60) (cs : List (Option Nat)) {k d : Nat} : d ∈ rowS (runS ws cs) k ↔ Due1 ws cs k d := row_runN hR R6 _ cs rfl k d
theorem row_eq {ws : List (List Int)} {R R' : Nat} {L L' : Sta} (h : FormL ws R L) (h' : FormL ws R' L') (e : ∀ k d, d ∈ rowS L k ↔ d ∈ rowS L' k) : L = L' := by
  refine List.ext_getElem (by rw [h.len, h'.len]) fun k hk hk' => ?_
  have r1 : rowS L k = L[k] := by unfold rowS; rw [List.getD_eq_getElem?_getD, List.getElem?_eq_getElem hk]; rfl
  have r2 : rowS L' k = L'[k] := by unfold rowS; rw [List.getD_eq_getElem?_getD, List.getElem?_eq_getElem hk']; rfl
  obtain ⟨f, hf⟩ := h.rows _ (List.getElem_mem hk)
  obtain ⟨g, hg⟩ := h'.rows _ (List.getElem_mem hk')
  have e' := e k
  rw [r1, r2, hf, hg] at e'
  rw [hf, hg]
  refine List.filter_congr fun d hd => ?_
  have := e' d
  rw [List.mem_filter, List.mem_filter] at this
  rw [Bool.eq_iff_iff]
  constructor
  · intro z; exact (this.mp ⟨hd, z⟩).2
  · intro z; exact (this.mpr ⟨hd, z⟩).2
/-- choices each of which can be made -/
def Way (ws : List (List Int)) (cs : List (Option Nat)) : Prop := ∀ i c, cs[i]? = some c → CanL ws (runS ws (cs.take i)) c
theorem Way.snoc {ws : List (List Int)} {cs : List (Option Nat)} {c : Option Nat} (h : Way ws cs) (g : CanL ws (runS ws cs) c) : Way ws (cs ++ [c]) := by
  intro i d hi
  rcases Nat.lt_or_ge i cs.length with z | z
  · rw [List.getElem?_append_left z] at hi
    rw [List.take_append_of_le_length (by omega)]
    exact h i d hi
  · have hl := (List.getElem?_eq_some_iff.mp hi).1
    rw [List.length_append] at hl
    have e : i = cs.length := by have : i < cs.length + 1 := hl; omega
    subst e
    rw [List.getElem?_append_right (Nat.le_refl _), Nat.sub_self] at hi
    obtain rfl : c = d := Option.some.inj hi
    rw [List.take_left]
    exact g
/-- a state that is reached -/
def Rchd (ws : List (List Int)) (L : Sta) : Prop := ∃ cs, Way ws cs ∧ runS ws cs = L
theorem Rchd.empty (ws : List (List Int)) : Rchd ws (emptyL ws) := ⟨[], fun i c h => (nomatch h), rfl⟩
theorem Rchd.next {ws : List (List Int)} {L : Sta} {c : Option Nat} (h : Rchd ws L) (g : CanL ws L c) : Rchd ws (nextL ws L c) := by
  obtain ⟨cs, hw, rfl⟩ := h
  exact ⟨cs ++ [c], hw.snoc g, runS_snoc _ _ _⟩
/-- from the empty state on, all that is reached is in a set that is closed -/
theorem Rchd.closed {ws : List (List Int)} {L : Sta} (h : Rchd ws L) (Pd : Sta → Prop) (h0 : Pd (emptyL ws)) (hs : ∀ L c, Pd L → CanL ws L c → Pd (nextL ws L c)) : Pd L := by
  obtain ⟨cs, hw, rfl⟩ := h
  have key : ∀ n, n ≤ cs.length → Pd (runS ws (cs.take n)) := by
    intro n
    induction n with
    | zero => exact fun _ => h0
    | succ n ih =>
      intro hn
      have e : cs.take (n + 1) = cs.take n ++ [cs[n]] := by rw [List.take_add_one, List.getElem?_eq_getElem (by omega)]; rfl
      rw [e, runS_snoc]
      exact hs _ _ (ih (by omega)) (hw n _ (List.getElem?_eq_getElem (by omega)))
  have := key cs.length (Nat.le_refl _)
  rwa [List.take_length] at this
/-! ## the last choices tell all of a state -/
/-- the last r choices, nothing before them -/
def lastC (r : Nat) (cs : List (Option Nat)) : List (Option Nat) := List.replicate (r - cs.length) none ++ cs.drop (cs.length - r)
theorem lastC_len (r : Nat) (cs : List (Option Nat)) : (lastC r cs).length = r := by
  unfold lastC
  rw [List.length_append, List.length_replicate, List.length_drop]
  omega
theorem lastC_at {r : Nat} {cs : List (Option Nat)} {i o : Nat} (h : (lastC r cs)[i]? = some (some o)) : ∃ j, cs[j]? = some (some o) ∧ cs.length - j = r - i ∧ i < r := by
  have hl := (List.getElem?_eq_some_iff.mp h).1
  rw [lastC_len] at hl
  unfold lastC at h
  rcases Nat.lt_or_ge i (r - cs.length) with z | z
  · rw [List.getElem?_append_left (by rw [List.length_replicate]; exact z), List.getElem?_replicate, if_pos z] at h
    exact nomatch h
  · rw [List.getElem?_append_right (by rw [List.length_replicate]; exact z), List.length_replicate, List.getElem?_drop] at h
    have hj := (List.getElem?_eq_some_iff.mp h).1
    exact ⟨_, h, by omega, hl⟩
theorem lastC_of {r : Nat} {cs : List (Option Nat)} {j : Nat} {c : Option Nat} (h : cs[j]? = some c) (hr : cs.length - j ≤ r) : (lastC r cs)[r - (cs.length - j)]? = some c := by
  have hl := (List.getElem?_eq_some_iff.mp h).1
  unfold lastC
  rw [List.getElem?_append_right (by rw [List.length_replicate]; omega), List.length_replicate, List.getElem?_drop, ← h]
  congr 1
  omega
/-- what is barred now is barred by what is wanted then -/
def OnlyB (L W : Sta) (t : Nat) : Prop := ∀ k d, d ∈ rowS L k → d < t ∨ d - t ∈ rowS W k
/-- the steps of the last choices -/
theorem last_steps {ws : List (List Int)} {R : Nat} (hR : Rea ws R) (R6 : R ≤ 60) {cs : List (Option Nat)} (hw : Way ws cs) :
    (∀ j, j < R → ∃ c, CanL ws (runS ws ((lastC R cs).take j)) c ∧ runS ws ((lastC R cs).take (j + 1)) = nextL ws (runS ws ((lastC R cs).take j)) c ∧ OnlyB (runS ws ((lastC R cs).take (j + 1))) (runS ws cs) (R - 1 - j)) ∧
    runS ws ((lastC R cs).take R) = runS ws cs := by
  have ll := lastC_len R cs
  refine ⟨fun j hj => ?_, ?_⟩
  · have hj' : j < (lastC R cs).length := by omega
    have e : (lastC R cs).take (j + 1) = (lastC R cs).take j ++ [(lastC R cs)[j]] := by rw [List.take_add_one, List.getElem?_eq_getElem hj']; rfl
    have hat := List.getElem?_eq_getElem hj'
    refine ⟨(lastC R cs)[j], ?_, by rw [e, runS_snoc], fun k d hd => ?_⟩
    · rcases hc : (lastC R cs)[j] with _ | o
      · exact True.intro
      · rw [hc] at hat
        obtain ⟨i, hi, hij, _⟩ := lastC_at hat
        have hcan := hw i _ hi
        have hil := (List.getElem?_eq_some_iff.mp hi).1
        show o ∈ openL ws _
        have hcan' : o ∈ openL ws (runS ws (cs.take i)) := hcan
        unfold openL at hcan' ⊢
        rw [List.mem_filter] at hcan' ⊢
        refine ⟨hcan'.1, ?_⟩
        rw [Bool.not_eq_true', decide_eq_false_iff_not]
        intro hz
        have hn : ¬ 0 ∈ rowS (runS ws (cs.take i)) o := by
          have := hcan'.2
          rwa [Bool.not_eq_true', decide_eq_false_iff_not] at this
        refine hn ((row_run hR R6 _).mpr ?_)
        obtain ⟨hk, a, o2, ha, hm⟩ := (row_run hR R6 _).mp hz
        have hal := (List.getElem?_eq_some_iff.mp ha).1
        rw [List.length_take] at hal hm
        rw [List.getElem?_take_of_lt (by omega)] at ha
        obtain ⟨b, hb, hab, _⟩ := lastC_at ha
        have hbl := (List.getElem?_eq_some_iff.mp hb).1
        refine ⟨hk, b, o2, by rw [List.getElem?_take_of_lt (by omega)]; exact hb, ?_⟩
        rw [List.length_take]
        rw [show 0 + (min i cs.length - b) = 0 + (min j (lastC R cs).length - a) by omega]
        exact hm
    · obtain ⟨hk, a, o, ha, hm⟩ := (row_run hR R6 _).mp hd
      have hal := (List.getElem?_eq_some_iff.mp ha).1
      rw [List.length_take] at hal hm
      rw [List.getElem?_take_of_lt (by omega)] at ha
      obtain ⟨b, hb, hab, _⟩ := lastC_at ha
      by_cases z : d < R - 1 - j
      · exact .inl z
      · right
        refine (row_run hR R6 _).mpr ⟨hk, b, o, hb, ?_⟩
        rw [show d - (R - 1 - j) + (cs.length - b) = d + (min (j + 1) (lastC R cs).length - a) by omega]
        exact hm
  · rw [List.take_of_length_le (by omega)]
    refine row_eq (runS_form hR _) (runS_form hR _) fun k d => ?_
    rw [row_run hR R6, row_run hR R6]
    constructor
    · rintro ⟨hk, a, o, ha, hm⟩
      obtain ⟨b, hb, hab, _⟩ := lastC_at ha
      exact ⟨hk, b, o, hb, by rw [hab, ← ll]; exact hm⟩
    · rintro ⟨hk, b, o, hb, hm⟩
      have hbl := (List.getElem?_eq_some_iff.mp hb).1
      have := hR o k _ hm
      refine ⟨hk, R - (cs.length - b), o, lastC_of hb (by omega), ?_⟩
      rw [ll, show R - (R - (cs.length - b)) = cs.length - b by omega]
      exact hm
end Sg


set_option Elab.async false
set_option linter.all false
set_option maxRecDepth 100000
set_option maxHeartbeats 4000000
namespace Sg
open PySem PySem.Spec PyProof.Rows L2
/-! ### the least of some crowds -/
structure Quad where
  t : Int
  s : Int
  a : Nat
  b : Nat
deriving DecidableEq
def Quad.toD (q : Quad) : PyData := .tuple [.int q.t, .int q.s, .int (q.a : Nat), .int (q.b : Nat)]
def Quad.lt (p q : Quad) : Prop := p.t < q.t ∨ p.t = q.t ∧ (p.s < q.s ∨ p.s = q.s ∧ (p.a < q.a ∨ p.a = q.a ∧ p.b < q.b))
theorem Quad.tri {p q : Quad} (h1 : ¬ p.lt q) (h2 : ¬ q.lt p) : p = q := by
  obtain ⟨a, b, c, d⟩ := p
  obtain ⟨a', b', c', d'⟩ := q
  unfold Quad.lt at h1 h2
  simp only at h1 h2
  have e1 : a = a' := by omega
  have e2 : b = b' := by omega
  have e3 : c = c' := by omega
  have e4 : d = d' := by omega
  subst e1 e2 e3 e4
  rfl
theorem Quad.tr {p q r : Quad} (h1 : p.lt q) (h2 : q.lt r) : p.lt r := by
  unfold Quad.lt at *
  omega
theorem Quad.irr {p : Quad} : ¬ p.lt p := by
  unfold Quad.lt
  omega
theorem Quad.ge {p q r : Quad} (h1 : ¬ q.lt p) (h2 : ¬ r.lt q) : ¬ r.lt p := by
  unfold Quad.lt at *
  omega
theorem lex_ints (a b : Int) (xs ys : List PyData) : PyProof.Rows.lexLt itemOrd (PySem.W.keyToksAll (.int a :: xs)) (PySem.W.keyToksAll (.int b :: ys)) = (decide (a < b) || (decide (a = b) && PyProof.Rows.lexLt itemOrd (PySem.W.keyToksAll xs) (PySem.W.keyToksAll ys))) := by
  by_cases h : a = b
  · subst h
    rw [PySem.W.dataLt_all_yes (by simp [PySem.W.alike]) (by simp [PyData.eqv])]
    simp
  · rw [PySem.W.dataLt_all_no (by simp [PySem.W.alike]) (by simp [PyData.eqv, h]), PySem.W.dataLt_int]
    simp [h]
theorem dataLt_quad (p q : Quad) : PySem.W.dataLt p.toD q.toD = true ↔ p.lt q := by
  unfold Quad.toD Quad.lt
  rw [PySem.W.dataLt_tuple, lex_ints, lex_ints, lex_ints, lex_ints]
  have e : PyProof.Rows.lexLt itemOrd (PySem.W.keyToksAll []) (PySem.W.keyToksAll []) = false := by decide +kernel
  rw [e]
  simp only [Bool.or_eq_true, Bool.and_eq_true, decide_eq_true_eq, Bool.and_false, Bool.or_false]
  omega
theorem minD_quads : ∀ (qs : List Quad) (q : Quad), ∃ m : Quad, PySem.W.minD q.toD (qs.map Quad.toD) = m.toD ∧ m ∈ q :: qs ∧ ∀ x ∈ q :: qs, ¬ x.lt m
  | [], q => ⟨q, rfl, List.mem_cons_self, fun x hx => by rw [List.mem_singleton.mp hx]; exact Quad.irr⟩
  | r :: qs, q => by
    show ∃ m : Quad, PySem.W.minD (if PySem.W.dataLt r.toD q.toD = true then r.toD else q.toD) (qs.map Quad.toD) = m.toD ∧ _
    by_cases h : PySem.W.dataLt r.toD q.toD = true
    · rw [if_pos h]
      obtain ⟨m, e, hm, hle⟩ := minD_quads qs r
      refine ⟨m, e, List.mem_cons_of_mem _ hm, fun x hx => ?_⟩
      rcases List.mem_cons.mp hx with rfl | hx
      · exact fun z => hle r List.mem_cons_self (Quad.tr ((dataLt_quad _ _).mp h) z)
      · exact hle x hx
    · rw [if_neg h]
      obtain ⟨m, e, hm, hle⟩ := minD_quads qs q
      have hr : ¬ r.lt q := fun z => h ((dataLt_quad _ _).mpr z)
      refine ⟨m, e, ?_, fun x hx => ?_⟩
      · rcases List.mem_cons.mp hm with rfl | hm
        · exact List.mem_cons_self
        · exact List.mem_cons_of_mem _ (List.mem_cons_of_mem _ hm)
      · rcases List.mem_cons.mp hx with rfl | hx
        · exact hle x List.mem_cons_self
        · rcases List.mem_cons.mp hx with rfl | hx
          · exact Quad.ge (hle q List.mem_cons_self) hr
          · exact hle x (List.mem_cons_of_mem _ hx)
/-! ### the first clash of a plan -/
/-- two pieces at one spot -/
structure Meet (ws : List (List Int)) (ps : List (Int × Nat)) (q : Quad) : Prop where
  one : here ws ps (q.t, q.s) q.a = true
  two : here ws ps (q.t, q.s) q.b = true
  asc : q.a < q.b
/-- the first clash -/
structure First (ws : List (List Int)) (ps : List (Int × Nat)) (m : Quad) : Prop where
  meet : Meet ws ps m
  least : ∀ q, Meet ws ps q → ¬ q.lt m
theorem First.eq {ws : List (List Int)} {ps : List (Int × Nat)} {m n : Quad} (h : First ws ps m) (g : First ws ps n) : m = n :=
  Quad.tri (g.least m h.meet) (h.least n g.meet)
theorem here_lt {ws : List (List Int)} {ps : List (Int × Nat)} {p : Spot} {i : Nat} (h : here ws ps p i = true) : i < ps.length := by
  unfold here at h
  cases e : ps[i]? with
  | none => rw [e] at h; exact nomatch h
  | some st => exact (List.getElem?_eq_some_iff.mp e).1
def crowdQ1 (E : List Ev) (p : Spot) : Option Quad := match who E p with
  | x :: y :: _ => some ⟨p.1, p.2, x, y⟩
  | _ => none
def crowdQ (E : List Ev) : List Quad := (firsts E).filterMap (crowdQ1 E)
theorem crowdD_quads (E : List Ev) : crowdD E = (crowdQ E).map Quad.toD := by
  unfold crowdD crowdQ
  rw [List.map_filterMap]
  congr 1
  funext p
  unfold crowd1 crowdQ1
  split <;> simp [Quad.toD, *]
theorem filter_two {f : Nat → Bool} {n x y : Nat} {r : List Nat} (h : (List.range n).filter f = x :: y :: r) : f x = true ∧ f y = true ∧ x < y ∧ ∀ a b, f a = true → f b = true → a < b → a < n → b < n → ¬ (a < x ∨ a = x ∧ b < y) := by
  have hs : ((List.range n).filter f).Pairwise (· < ·) := List.Pairwise.filter _ List.pairwise_lt_range
  rw [h] at hs
  obtain ⟨h1, h2⟩ := List.pairwise_cons.mp hs
  obtain ⟨h3, _⟩ := List.pairwise_cons.mp h2
  have mem : ∀ a, a < n → f a = true → a ∈ x :: y :: r := fun a ha hf => by rw [← h]; exact List.mem_filter.mpr ⟨List.mem_range.mpr ha, hf⟩
  have fx := (List.mem_filter.mp (show x ∈ (List.range n).filter f by rw [h]; exact List.mem_cons_self)).2
  have fy := (List.mem_filter.mp (show y ∈ (List.range n).filter f by rw [h]; exact List.mem_cons_of_mem _ List.mem_cons_self)).2
  refine ⟨fx, fy, h1 y List.mem_cons_self, fun a b ha hb hab la lb z => ?_⟩
  rcases z with z | ⟨rfl, z⟩
  · rcases List.mem_cons.mp (mem a la ha) with rfl | m
    · omega
    · have := h1 a m
      omega
  · rcases List.mem_cons.mp (mem b lb hb) with rfl | m
    · omega
    · rcases List.mem_cons.mp m with rfl | m
      · omega
      · have := h3 b m
        omega
theorem crowd_meets {ws : List (List Int)} {ps : List (Int × Nat)} {q : Quad} (h : q ∈ crowdQ (evPlan ws ps ps.length)) : Meet ws ps q := by
  obtain ⟨p, _, e⟩ := List.mem_filterMap.mp h
  unfold crowdQ1 at e
  split at e
  · rename_i x y r hw
    rw [who_plan] at hw
    obtain ⟨a, b, c, _⟩ := filter_two hw
    cases e
    exact ⟨a, b, c⟩
  · exact nomatch e
theorem meet_crowd {ws : List (List Int)} {ps : List (Int × Nat)} {q : Quad} (h : Meet ws ps q) : ∃ m ∈ crowdQ (evPlan ws ps ps.length), m.t = q.t ∧ m.s = q.s ∧ ¬ (q.a < m.a ∨ q.a = m.a ∧ q.b < m.b) := by
  have la := here_lt h.one
  have lb := here_lt h.two
  have ma : q.a ∈ (List.range ps.length).filter (here ws ps (q.t, q.s)) := List.mem_filter.mpr ⟨List.mem_range.mpr la, h.one⟩
  have mb : q.b ∈ (List.range ps.length).filter (here ws ps (q.t, q.s)) := List.mem_filter.mpr ⟨List.mem_range.mpr lb, h.two⟩
  have asc := h.asc
  cases hw : (List.range ps.length).filter (here ws ps (q.t, q.s)) with
  | nil => rw [hw] at ma; exact nomatch ma
  | cons x r =>
    cases r with
    | nil =>
      rw [hw] at ma mb
      have e1 := List.mem_singleton.mp ma
      have e2 := List.mem_singleton.mp mb
      omega
    | cons y r =>
      have hwho : who (evPlan ws ps ps.length) (q.t, q.s) = x :: y :: r := by rw [who_plan]; exact hw
      refine ⟨⟨q.t, q.s, x, y⟩, List.mem_filterMap.mpr ⟨(q.t, q.s), mem_firsts (by rw [hwho]; exact List.cons_ne_nil _ _), ?_⟩, rfl, rfl, (filter_two hw).2.2.2 q.a q.b h.one h.two h.asc la lb⟩
      unfold crowdQ1
      rw [hwho]
/-- what clash tells: nothing if no two pieces meet, else the first clash -/
theorem due_first {ws : List (List Int)} {ps : List (Int × Nat)} : (crowdD (evPlan ws ps ps.length) = [] ∧ ∀ q, ¬ Meet ws ps q) ∨ ∃ e es m, crowdD (evPlan ws ps ps.length) = e :: es ∧ PySem.W.minD e es = m.toD ∧ First ws ps m := by
  cases hq : crowdQ (evPlan ws ps ps.length) with
  | nil =>
    refine .inl ⟨by rw [crowdD_quads, hq]; rfl, fun q h => ?_⟩
    obtain ⟨m, hm, _⟩ := meet_crowd h
    rw [hq] at hm
    exact nomatch hm
  | cons q qs =>
    obtain ⟨m, e, hm, hle⟩ := minD_quads qs q
    refine .inr ⟨q.toD, qs.map Quad.toD, m, by rw [crowdD_quads, hq]; rfl, e, crowd_meets (by rw [hq]; exact hm), fun r hr z => ?_⟩
    obtain ⟨n, hn, e1, e2, e3⟩ := meet_crowd hr
    rw [hq] at hn
    have h1 := hle n hn
    unfold Quad.lt at h1 z
    omega
end Sg


set_option Elab.async false
set_option linter.all false
set_option maxRecDepth 100000
set_option maxHeartbeats 4000000
namespace Sg
open PySem PySem.Spec PyProof.Rows L2 StX
theorem tup_new {K : PySem.W.Frag} {H : Hp} {p a : Addr} {xs : List V} {o : HO} (hp : H p = none) (h : SqT K H a xs) : SqT K (upd H p o) a xs := Same.tup (same_new hp) h
section
variable {P : Program} {w : World} {K : PySem.W.Frag} {mg : Str → Option Value} {base : Heap}
def spVisits (K : PySem.W.Frag) (C : Addr) : Sp := fun vs H Q _ => ∃ (a b : Addr) (ws : List (List Int)) (ps : List (Int × Nat)), vs = [.ref a, .ref b] ∧ LineAt K C H a ws ∧ Tp K H (.ref b) (.tuple (planD ps)) ∧ GoodP ws.length ps ∧
  ∀ H' d gs, VisAt H H' d gs → VisG gs (evPlan ws ps ps.length) → Q (.ref d) H'
theorem ok_visits {f C : Addr} {fd : FuncData} {k : Nat} (F : Fun K "_visits" "_visits" s_visits f fd) (M : Meths2 P w K mg base k C) (N : Nums mg) (m1 : mg "enumerate" = none) :
    FnOk P w K mg base CX0 (k + 3) f fd ["line", "plan"] (spVisits K C) := by
  obtain ⟨t1, n1⟩ := N.nowhere
  refine F.ok sc_visits (fun vs H Q E h => ?_) (fun cdv A outer s H vs Q E hr h => ?_)
  · obtain ⟨a, b, ws, ps, rfl, _⟩ := h; rfl
  · obtain ⟨a, b, ws, ps, rfl, hL, hP, hg, q⟩ := h
    have hu := hr.units
    refine ⟨_, pss_cons (ps_set (i := 2) sc_visits.nd rfl (.inl rfl) pe_dnewT)
      (pss_cons (ps_for PassesOwn.never rfl (pi_enumT (by rfl) m1 (pa_cons (pv 1) pa_nil))
        (pg_tup rfl (pgs_cons (pg_name (i := 3) sc_visits.nd rfl (.inl rfl)) (pgs_cons (pg_tup rfl (pgs_cons (pg_name (i := 4) sc_visits.nd rfl (.inl rfl)) (pgs_cons (pg_name (i := 5) sc_visits.nd rfl (.inl rfl)) pgs_nil))) pgs_nil)))
      (pss_one (ps_for PassesOwn.never rfl (pi_enumT (by rfl) m1 (pa_cons (M.pItem (K := K) rfl hr (pv 0) (pv 5)) pa_nil))
        (pg_tup rfl (pgs_cons (pg_name (i := 6) sc_visits.nd rfl (.inl rfl)) (pgs_cons (pg_name (i := 7) sc_visits.nd rfl (.inl rfl)) pgs_nil)))
        (pss_one (ps_if (pt_cmpR op_ne (pv 7) (pe_glob (v := .int (-1)) (by rfl) n1 ⟨_, rfl⟩) (nomark _))
          (pss_one (ps_expr (pe_bm PySem.F.plainAttrs_list PySem.F.slot_list_append PySem.F.type_list_append mt_append
            (pe_bm PySem.F.plainAttrs_dict PySem.F.slot_dict_setdefault PySem.F.type_dict_setdefault (mt_setdT (Nat.lt_of_le_of_lt (Nat.add_le_add_left (by decide) _) hu)) (pv 2) (pa_cons (pe_tup (pa_cons (pe_op op_add (pv 4) (pv 6)) (pa_cons (pv 7) pa_nil))) (pa_cons (pe_lst pa_nil) pa_nil)))
            (pa_cons (pv 3) pa_nil)))) pss_nil)))))
    (pss_one (ps_ret (pv 2)))), ?_⟩
    obtain ⟨_, xs, e, hS, hT⟩ := hP.toTup
    cases e
    have lx := hT.len
    rw [List.length_map] at lx
    have few := hg.few
    have w60 : ∀ x ∈ ws, x.length ≤ 60 := fun x hx => (hL.good.work x hx).most
    intro d hd
    have V0 : VisAt H (upd H d (.dT [])) d [] := ⟨upd_same, fun g z => (nomatch z), List.nodup_nil, ⟨hd, fun g z => (nomatch z)⟩, same_new hd⟩
    refine ⟨.ref b, rfl, b, xs, rfl, tup_new hd hS, ?_⟩
    refine for_it (walk_enumT (K := K) (a := b) (xs := xs)) (fun i σ H' => ∃ v3 v4 v5 v6 v7, σ = [some (.ref a), some (.ref b), some (.ref d), v3, v4, v5, v6, v7] ∧ ∃ gs, VisAt H H' d gs ∧ VisG gs (evPlan ws ps i))
      ⟨none, none, none, none, none, rfl, [], V0, ⟨rfl, fun g z => (nomatch z), fun g z => (nomatch z), List.nodup_nil, Nat.le_refl _⟩⟩
      (fun i σ H' _ h => ?_) (fun i x σ H' H'' hi h hY => ?_) (fun σ H' h => ?_)
    · obtain ⟨_, _, _, _, _, _, gs, hv, _⟩ := h
      exact Same.tup hv.old hS
    · obtain ⟨v3, v4, v5, v6, v7, rfl, gs, hv, hG⟩ := h
      obtain ⟨T, x1, x2, rfl, nT, rfl, f1, f2⟩ := hY
      dsimp only at f1 f2
      cases f1
      obtain ⟨dd, hdd, tt⟩ := hT.at f2
      rw [List.getElem?_map] at hdd
      obtain ⟨st, hst, rfl⟩ := Option.map_eq_some_iff.mp hdd
      obtain ⟨c, cs, rfl, hc, ht⟩ := tt.toTup
      obtain ⟨u, v, rfl⟩ : ∃ u v, cs = [u, v] := by
        have := ht.len
        match cs, this with
        | [u, v], _ => exact ⟨u, v, rfl⟩
      cases ht with
      | on g1 r =>
        cases r with
        | on g2 r2 =>
          cases g1
          cases g2
          have hk := hg.kinds st (List.mem_of_getElem? hst)
          obtain ⟨x, hx⟩ : ∃ x, ws[st.2]? = some x := ⟨ws[st.2], List.getElem?_eq_getElem hk⟩
          have exk : wk ws st.2 = x := by unfold wk; rw [List.getD_eq_getElem?_getD, hx]; rfl
          have s1 : Same H' (upd H' T (.tup [V.int (i : Nat), .ref c])) := same_new nT
          have hv1 := hv.same s1
          refine ⟨T, _, rfl, .of upd_same, rfl, _, _, rfl, _, _, rfl, ⟨c, _, rfl, Same.tup hv1.old hc, rfl, _, _, rfl, _, _, rfl, rfl, rfl, ?_⟩⟩
          refine ⟨.ref a, rfl, .int (st.2 : Nat), rfl, a, ws, st.2, x, rfl, rfl, hL.stay (.of hv1.old), hx, fun cw hcw => ?_⟩
          refine ⟨cw, x.map V.int, rfl, hcw, ?_⟩
          have lm : (x.map V.int).length = x.length := List.length_map _
          refine for_it (walk_enumT (K := K) (a := cw) (xs := x.map V.int)) (fun m σ H2 => ∃ v6 v7, σ = [some (.ref a), some (.ref b), some (.ref d), some (.int (i : Nat)), some (.int st.1), some (.int (st.2 : Nat)), v6, v7] ∧ SqT K H2 cw (x.map V.int) ∧
              ∃ gs, VisAt H H2 d gs ∧ VisG gs (evPlan ws ps i ++ evTo st.1 x i m)) ⟨_, _, rfl, hcw, gs, hv1, by rw [show evTo st.1 x i 0 = [] from rfl, List.append_nil]; exact hG⟩
            (fun m σ H2 _ h => ?_) (fun m y σ H2 H3 hm h hY => ?_) (fun σ H2 h => ?_)
          · obtain ⟨_, _, _, h, _⟩ := h
            exact h
          · obtain ⟨v6, v7, rfl, hcw2, gs2, hv2, hG2⟩ := h
            obtain ⟨T2, z1, z2, rfl, nT2, rfl, k1, k2⟩ := hY
            dsimp only at k1 k2
            cases k1
            rw [List.getElem?_map] at k2
            obtain ⟨s0, hs0, rfl⟩ := Option.map_eq_some_iff.mp k2
            have s2 : Same H2 (upd H2 T2 (.tup [V.int (m : Nat), .int s0])) := same_new nT2
            have hv3 := hv2.same s2
            have hcw3 := Same.tup s2 hcw2
            refine ⟨T2, _, rfl, .of upd_same, rfl, _, _, rfl, _, _, rfl, rfl, ?_⟩
            generalize upd H2 T2 (.tup [V.int (m : Nat), .int s0]) = H3 at hv3 hcw3 ⊢
            rw [evTo_succ hs0]
            refine ⟨.int s0, rfl, rfl, _, rfl, ?_⟩
            by_cases hs : s0 = -1
            · subst hs
              rw [decide_eq_true (rfl : V.int (-1) = V.int (-1))]
              refine iteF ⟨_, _, rfl, hcw3, gs2, hv3, ?_⟩
              rw [if_pos rfl, List.append_nil]
              exact hG2
            · rw [decide_eq_false fun z => hs (V.int.inj z)]
              refine iteT ?_
              rw [if_neg hs, ← List.append_assoc]
              have hE : (evPlan ws ps i ++ evTo st.1 x i m).length < sizeLine := by
                rw [List.length_append]
                have a1 := evPlan_len ws ps w60 i
                have a2 := evTo_len st.1 x i m
                have a3 := w60 x (List.mem_of_getElem? hx)
                have a4 : 3700 < sizeLine := by rw [sizeLine_eq]; decide
                omega
              generalize evPlan ws ps i ++ evTo st.1 x i m = E0 at hG2 hE ⊢
              refine ⟨.ref d, rfl, .inr (.inr (.inl ⟨rfl, .inr ⟨_, hv3.at_⟩⟩)), ?_⟩
              refine ⟨.int st.1, rfl, .int (m : Nat), rfl, st.1, m, rfl, rfl, .int s0, rfl, by show 2 ≤ sizeLine; decide, fun bq nbq => ⟨by show 0 ≤ sizeLine; decide, fun l nl => ?_⟩⟩
              have e4 : Same H3 (upd H3 bq (.tup [V.int (st.1 + (m : Nat)), .int s0])) := same_new nbq
              have hb4 : (upd H3 bq (.tup [V.int (st.1 + (m : Nat)), .int s0])) bq = some (.tup ((keyS (st.1 + (m : Nat), s0)).map kV)) := upd_same
              generalize upd H3 bq (.tup [V.int (st.1 + (m : Nat)), .int s0]) = H4 at e4 hb4 nl ⊢
              have hv4 := hv3.same e4
              have hcw4 := Same.tup e4 hcw3
              have e5 : Same H4 (upd H4 l (.lst [])) := same_new nl
              have hl5 : (upd H4 l (.lst [])) l = some (.lst []) := upd_same
              have hv5 := hv4.same e5
              have hcw5 := Same.tup e5 hcw4
              have hb5 := e5 _ _ hb4
              have nlH : H l = none := hv4.old.free nl
              have ndl : d ≠ l := ne_of_none hv4.at_ nl
              have ngl : ∀ g ∈ gs2, g.2.1 ≠ l := fun g hg' => ne_of_none (hv4.lists g hg') nl
              generalize upd H4 l (.lst []) = H5 at e5 hl5 hv5 hcw5 hb5 ⊢
              have lenk : (gs2.map entS).length < sizeLine := by
                rw [List.length_map]
                exact Nat.lt_of_le_of_lt hG2.few hE
              obtain ⟨q1, q2⟩ := val_ent (st.1 + (m : Nat), s0) gs2
              refine ⟨d, gs2.map entS, keyS (st.1 + (m : Nat), s0), bq, .ref l, rfl, rfl, hv5.at_, hb5, lenk, fun v hval => ?_, fun hval => ?_⟩
              · obtain ⟨g, hgm, hgp, rfl⟩ := q1 v hval
                refine ⟨.inl ⟨rfl, _, .of (hv5.lists g hgm)⟩, .int (i : Nat), rfl, g.2.1, _, _, rfl, rfl, hv5.lists g hgm, ?_, ?_⟩
                · unfold iV
                  rw [List.length_map, hG2.told g hgm]
                  exact Nat.lt_of_le_of_lt (who_len _ _) hE
                · refine ⟨_, _, rfl, tup_upd (hv5.lists g hgm) (fun _ z => nomatch z) (fun _ _ z => nomatch z) hcw5, _, hv5.more hG2.keys hgm i, ?_⟩
                  rw [← hgp]
                  exact hG2.more hgm i
              · rw [putK_new _ hval]
                have hnew := hv5.new (p := (st.1 + (m : Nat), s0)) hl5 nlH ndl ngl i
                have hd6 : d ≠ l := ndl
                have hl6 : (upd H5 d (.dT (gs2.map entS ++ [(keyS (st.1 + (m : Nat), s0), .ref l)]))) l = some (.lst []) := by rw [upd_ne hd6.symm]; exact hl5
                have hcw6 : SqT K (upd H5 d (.dT (gs2.map entS ++ [(keyS (st.1 + (m : Nat), s0), .ref l)]))) cw (x.map V.int) := tup_upd hv5.at_ (fun _ z => nomatch z) (fun _ _ z => nomatch z) hcw5
                refine ⟨.inl ⟨rfl, _, .of hl6⟩, .int (i : Nat), rfl, l, _, _, rfl, rfl, hl6, by show 0 < sizeLine; decide, ?_⟩
                exact ⟨_, _, rfl, tup_upd hl6 (fun _ z => nomatch z) (fun _ _ z => nomatch z) hcw6, _, hnew, hG2.new (q2 hval) l i⟩
          · obtain ⟨v6, v7, rfl, hcw2, gs2, hv2, hG2⟩ := h
            refine ⟨_, _, _, _, _, rfl, gs2, hv2, ?_⟩
            rw [evPlan_succ hst, exk, ← lm]
            exact hG2
    · obtain ⟨v3, v4, v5, v6, v7, rfl, gs, hv, hG⟩ := h
      refine ⟨.ref d, rfl, q H' d gs hv ?_⟩
      rw [← lx]
      exact hG
end
end Sg


set_option Elab.async false
set_option linter.all false
set_option maxRecDepth 100000
set_option maxHeartbeats 4000000
namespace Sg
open PySem PySem.Spec PyProof.Rows L2 StX
theorem call_lenK {X : Cx} {K : PySem.W.Frag} (hK : X.K = K) : CallR X (.builtin "len") (fun xs H Q => ∃ p ys, xs = [.ref p] ∧ (SqL K H p ys ∨ SqT K H p ys) ∧ Q (.int ys.length) H) := by
  subst hK
  exact call_len_seq
theorem ix_listK {X : Cx} {K : PySem.W.Frag} (hK : X.K = K) : IxR X (rIxL K) := by
  subst hK
  exact ix_list
theorem pa_starK {X : Cx} {K : PySem.W.Frag} {e : Expr} {es : List Expr} {te : TE} {t : TA} {p : Pos} (hK : X.K = K) (he : PE X e te) (hr : PA X es t) (hs : starEach (.Starred e p :: es) X.env = (true, eval e X.env) :: starEach es X.env := by rfl) : PA X (.Starred e p :: es) (tStar K te t) := by
  subst hK
  exact pa_star he hr hs
theorem quad_alike {ds : List PyData} (h : ∀ d ∈ ds, ∃ a b c e : Int, d = .tuple [.int a, .int b, .int c, .int e]) : PySem.W.AlikeAll ds := by
  refine ⟨fun x hx y hy => ?_, fun x hx z => ?_⟩
  · obtain ⟨a, b, c, e, rfl⟩ := h x hx
    obtain ⟨a2, b2, c2, e2, rfl⟩ := h y hy
    simp only [PySem.W.alike, PySem.W.alikeAll, Bool.and_self]
  · obtain ⟨a, b, c, e, rfl⟩ := h x hx
    exact nomatch z
theorem quad_depth {ds : List PyData} (h : ∀ d ∈ ds, ∃ a b c e : Int, d = .tuple [.int a, .int b, .int c, .int e]) : PyData.depthAll ds ≤ 10 := by
  induction ds with
  | nil => exact Nat.zero_le _
  | cons d r ih =>
    obtain ⟨a, b, c, e, rfl⟩ := h d List.mem_cons_self
    show max (PyData.depth (.tuple [.int a, .int b, .int c, .int e])) (PyData.depthAll r) ≤ 10
    refine Nat.max_le.mpr ⟨?_, ih fun x hx => h x (List.mem_cons_of_mem _ hx)⟩
    exact Nat.le_trans (show PyData.depth (.tuple [.int a, .int b, .int c, .int e]) ≤ 1 from Nat.le_refl _) (by decide)
/-- what is due of a list of crowds: None, or the least of them -/
def Due (K : PySem.W.Frag) (H : Hp) (cs : List PyData) (y : V) : Prop := (cs = [] ∧ y = .non) ∨ ∃ e es, cs = e :: es ∧ Tp K H y (PySem.W.minD e es)
theorem Due.stay {K : PySem.W.Frag} {H H' : Hp} {cs : List PyData} {y : V} (h : Due K H cs y) (e : Same H H') : Due K H' cs y := by
  rcases h with h | ⟨x, xs, h, t⟩
  · exact .inl h
  · exact .inr ⟨x, xs, h, t.stay (.of e)⟩
theorem due_two {K : PySem.W.Frag} {H : Hp} {cs : List PyData} {Q : VK} (q : ∀ H' y, Same H H' → Due K H' cs y → Q y H') : ∀ H', Same H H' → (cs = [] → Q .non H') ∧ ∀ e es c, cs = e :: es → Tp K H' c (PySem.W.minD e es) → Q c H' :=
  fun H' e => ⟨fun h => q H' .non e (.inl ⟨h, rfl⟩), fun z zs c h t => q H' c e (.inr ⟨z, zs, h, t⟩)⟩
section
variable {P : Program} {w : World} {K : PySem.W.Frag} {mg : Str → Option Value} {base : Heap}
/-! ### clash, of a plan -/
def spClashP (K : PySem.W.Frag) (C : Addr) : Sp := fun vs H Q _ => ∃ (a b : Addr) (ws : List (List Int)) (ps : List (Int × Nat)), vs = [.ref a, .ref b] ∧ LineAt K C H a ws ∧ Tp K H (.ref b) (.tuple (planD ps)) ∧ GoodP ws.length ps ∧
  ∀ H' y, Same H H' → Due K H' (crowdD (evPlan ws ps ps.length)) y → Q y H'
theorem ok_clash {f f1 f2 C : Addr} {fd fd1 fd2 : FuncData} {k : Nat} (F : Fun K "clash" "clash" s_clash f fd)
    (G1 : FnOk P w K mg base CX0 k f1 fd1 ["line", "thing"] (spReqPlan K C)) (kp1 : PySem.W.keepIn K (.ref f1) = true) (b1 : Binds K fd1 ["line", "thing"] []) (g1 : mg "require_plan" = some (.ref f1))
    (G2 : FnOk P w K mg base CX0 k f2 fd2 ["line", "plan"] (spVisits K C)) (kp2 : PySem.W.keepIn K (.ref f2) = true) (b2 : Binds K fd2 ["line", "plan"] []) (g2 : mg "_visits" = some (.ref f2))
    (m1 : mg "len" = none) (m2 : mg "min" = none) : FnOk P w K mg base CX0 (k + 1) f fd ["line", "plan"] (spClashP K C) := by
  refine F.ok sc_clash (fun vs H Q E h => ?_) (fun cdv A outer s H vs Q E hr h => ?_)
  · obtain ⟨a, b, ws, ps, rfl, _⟩ := h; rfl
  · obtain ⟨a, b, ws, ps, rfl, hL, hP, hg, q⟩ := h
    refine ⟨_, pss_cons (ps_expr (pe_call G1 hr (by rfl) g1 kp1 b1 .nil pass0 (pa_cons (pv 0) (pa_cons (pv 1) pa_nil))))
      (pss_cons (ps_set (i := 2) sc_clash.nd rfl (.inl rfl) (pe_call G2 hr (by rfl) g2 kp2 b2 .nil pass0 (pa_cons (pv 0) (pa_cons (pv 1) pa_nil))))
      (pss_cons (ps_lock (ps_setLc (i := 3) (own := [("place", 4), ("pieces", 5)]) (g := gTup K 2 (gCons (gName 4) (gCons (gName 5) gNil))) (by rfl) sc_clash.nd rfl rfl (sw_true rfl rfl rfl (by decide +kernel)) (pi_itemsT (pv 2))
        (blkOk_by (N := ["line", "plan", "visits", "clashes", "place", "pieces"]) (sc := defScope s_clash) (by decide +kernel))
        (fun _ _ _ _ _ => pg_tup rfl (pgs_cons (pg_name (i := 4) sc_clash.nd rfl (Or.inl rfl)) (pgs_cons (pg_name (i := 5) sc_clash.nd rfl (Or.inl rfl)) pgs_nil)))
        (fun _ _ _ _ _ => pts_one (pt_cmpR op_gt (pe_callB (call_lenK (K := K) rfl) (by rfl) m1 PySem.boot_len (pa_cons (pv 5) pa_nil)) pe_int (nomark _)))
        (fun _ _ _ _ _ => pe_tup (pa_starK (K := K) rfl (pv 4) (pa_cons (pe_ix (ix_listK (K := K) rfl) (pv 5) pe_int (fun _ _ => rfl)) (pa_cons (pe_ix (ix_listK (K := K) rfl) (pv 5) pe_int (fun _ _ => rfl)) pa_nil))))))
      (pss_one (ps_ret (pe_callBK (cr_minD rfl hr) (by rfl) m2 (by decide +kernel) (pa_cons (pv 3) pa_nil) (pk_cons pe_non pk_nil)))))), ?_⟩
    refine ⟨.ref a, rfl, .ref b, rfl, a, b, ws, ps, rfl, hL, hP, hg, ?_⟩
    refine ⟨.ref a, rfl, .ref b, rfl, a, b, ws, ps, rfl, hL, hP, hg, fun H1 d gs hv hG => ?_⟩
    have hE : (evPlan ws ps ps.length).length < sizeLine := by
      have a1 := evPlan_len ws ps (fun x hx => (hL.good.work x hx).most) ps.length
      have a2 := hg.few
      have a4 : 3700 < sizeLine := by rw [sizeLine_eq]; decide
      omega
    have ec : crowdD (evPlan ws ps ps.length) = gs.filterMap (fun g => crowd1 (evPlan ws ps ps.length) g.1) := by
      unfold crowdD
      rw [← hG.ord, List.filterMap_map]
      rfl
    have q' : ∀ H', Same H H' → (gs.filterMap (fun g => crowd1 (evPlan ws ps ps.length) g.1) = [] → Q .non H') ∧ ∀ e es c, gs.filterMap (fun g => crowd1 (evPlan ws ps ps.length) g.1) = e :: es → Tp K H' c (PySem.W.minD e es) → Q c H' := by
      rw [← ec]
      exact due_two q
    generalize evPlan ws ps ps.length = E0 at hG hE q'
    clear q ec
    refine ⟨d, _, hv.at_, trivial, fun ob => ?_⟩
    have hd0 : (upd H1 d (.frz ob (.dT (gs.map entS)))) d = some (.frz ob (.dT (gs.map entS))) := upd_same
    have hls : ∀ g ∈ gs, (upd H1 d (.frz ob (.dT (gs.map entS)))) g.2.1 = some (.lst (iV g.2.2)) := fun g hg' => by
      rw [upd_ne (ne_of (hv.lists g hg') hv.at_ (fun z => nomatch z))]
      exact hv.lists g hg'
    refine ⟨.ref d, rfl, d, ob, _, rfl, hd0, fun D hD => ?_⟩
    refine lc_it walk_itemsT (fun j H' => Same (upd H1 d (.frz ob (.dT (gs.map entS)))) H' ∧ ∃ acc, H' D = some (.lst acc) ∧ TpAll K H' acc ((gs.take j).filterMap (fun g => crowd1 E0 g.1))) ⟨same_new hD, [], upd_same, .no⟩
      (fun j H' _ h => h.1 _ _ hd0) (fun j x H' H'' hj h hY => ?_) (fun H' h => ?_)
    · obtain ⟨e1, acc, hacc, hTA⟩ := h
      obtain ⟨T, r, kk, u, hk, hr', rfl, nT, rfl⟩ := hY
      rw [List.getElem?_map] at hk
      obtain ⟨g, hgj, eg⟩ := Option.map_eq_some_iff.mp hk
      obtain ⟨rfl, rfl⟩ : keyS g.1 = kk ∧ V.ref g.2.1 = u := ⟨congrArg Prod.fst eg, congrArg Prod.snd eg⟩
      have hgm : g ∈ gs := List.mem_of_getElem? hgj
      have eT : Same H' (upd H' T (.tup [V.ref r, V.ref g.2.1])) := same_new nT
      have hl1 := eT _ _ (e1 _ _ (hls g hgm))
      have hr1 := eT _ _ hr'
      have hacc1 := eT _ _ hacc
      have e11 := e1.trans eT
      have hTA1 := hTA.stay (.of eT)
      have nDH : H1 D = none ∨ True := .inr trivial
      refine ⟨T, _, rfl, .of upd_same, rfl, _, _, rfl, _, _, rfl, rfl, rfl, ?_⟩
      generalize upd H' T (.tup [V.ref r, V.ref g.2.1]) = H2 at hl1 hr1 hacc1 e11 hTA1 ⊢
      have step : gs.take (j + 1) = gs.take j ++ [g] := by rw [List.take_add_one, hgj]; rfl
      have hw := hG.told g hgm
      have lj : acc.length < sizeLine := by
        have b1 := hTA.len
        have b2 := List.length_filterMap_le (fun g : Grp => crowd1 E0 g.1) (gs.take j)
        rw [List.length_take] at b2
        have b3 := hG.few
        omega
      refine ⟨.ref g.2.1, rfl, g.2.1, _, rfl, .inl (.of hl1), _, 1, rfl, rfl, _, rfl, ite2 (fun e => ?_) (fun e => ?_)⟩
      · have e2 : ((iV g.2.2).length : Int) > 1 := of_decide_eq_true e
        obtain ⟨a1, b1, r1, ew⟩ : ∃ a1 b1 r1, g.2.2 = a1 :: b1 :: r1 := by
          unfold iV at e2
          rw [List.length_map] at e2
          match g.2.2, e2 with
          | a1 :: b1 :: r1, _ => exact ⟨a1, b1, r1, rfl⟩
          | [_], z => exact absurd z (by show ¬ ((1 : Nat) : Int) > 1; decide)
          | [], z => exact absurd z (by show ¬ ((0 : Nat) : Int) > 1; decide)
        have hl2 : H2 g.2.1 = some (.lst (V.int (a1 : Nat) :: V.int (b1 : Nat) :: iV r1)) := by rw [hl1, ew]; rfl
        refine ⟨.ref r, rfl, r, _, rfl, .inl (.of hr1), .ref g.2.1, rfl, g.2.1, _, 0, .int (a1 : Nat), rfl, rfl, .of hl2, atI0, .ref g.2.1, rfl, g.2.1, _, 1, .int (b1 : Nat), rfl, rfl, .of hl2, atI1, by show 4 ≤ sizeLine; decide, fun t nt => ?_⟩
        have et : Same H2 (upd H2 t (.tup ((keyS g.1).map kV ++ [V.int (a1 : Nat), V.int (b1 : Nat)]))) := same_new nt
        have ht3 : (upd H2 t (.tup ((keyS g.1).map kV ++ [V.int (a1 : Nat), V.int (b1 : Nat)]))) t = some (.tup ([g.1.1, g.1.2, ((a1 : Nat) : Int), ((b1 : Nat) : Int)].map V.int)) := upd_same
        generalize upd H2 t (.tup ((keyS g.1).map kV ++ [V.int (a1 : Nat), V.int (b1 : Nat)])) = H3 at et ht3 ⊢
        have hacc3 := et _ _ hacc1
        have c1 : crowd1 E0 g.1 = some (.tuple (iD [g.1.1, g.1.2, ((a1 : Nat) : Int), ((b1 : Nat) : Int)])) := by
          unfold crowd1
          rw [← hw, ew]
          rfl
        have all3 : TpAll K H3 (acc ++ [.ref t]) ((gs.take (j + 1)).filterMap (fun g => crowd1 E0 g.1)) := by
          rw [step, List.filterMap_append, List.filterMap_cons_some (f := fun g : Grp => crowd1 E0 g.1) (a := g) (l := []) c1, List.filterMap_nil]
          exact (hTA1.stay (.of et)).add (.on (.ofInts (.of ht3)) .no)
        refine ⟨acc, hacc3, lj, fun y o e => ?_, _, upd_same, all3.stayT (fun _ _ z => tup_upd hacc3 (fun _ z => nomatch z) (fun _ _ z => nomatch z) z)⟩
        rw [upd_ne (ne_of_none e hD)]
        exact et _ _ (e11 _ _ e)
      · refine ⟨e11, acc, hacc1, ?_⟩
        have e2 : ¬ ((iV g.2.2).length : Int) > 1 := fun z => e (decide_eq_true z)
        have c1 : crowd1 E0 g.1 = none := by
          unfold crowd1
          rw [← hw]
          unfold iV at e2
          rw [List.length_map] at e2
          match g.2.2, e2 with
          | a1 :: b1 :: r1, z => exact absurd (show (((a1 :: b1 :: r1).length : Nat) : Int) > 1 by rw [List.length_cons, List.length_cons]; omega) z
          | [_], _ => rfl
          | [], _ => rfl
        rw [step, List.filterMap_append, List.filterMap_cons_none (f := fun g : Grp => crowd1 E0 g.1) (a := g) (l := []) c1, List.filterMap_nil, List.append_nil]
        exact hTA1
    · obtain ⟨e1, acc, hacc, hTA⟩ := h
      have eln : gs.take (gs.map entS).length = gs := by rw [List.length_map, List.take_length]
      rw [eln] at hTA
      have hd1 := e1 _ _ hd0
      refine ⟨hd1, ?_⟩
      have nDd : D ≠ d := ne_of hacc hd1 (fun z => nomatch z)
      have hacc4 : (upd H' d (.dT (gs.map entS))) D = some (.lst acc) := by rw [upd_ne nDd]; exact hacc
      have hTA4 : TpAll K (upd H' d (.dT (gs.map entS))) acc (gs.filterMap (fun g => crowd1 E0 g.1)) := hTA.stayT (fun _ _ z => tup_upd hd1 (fun _ z => nomatch z) (fun _ _ z => nomatch z) z)
      have e4 : Same H (upd H' d (.dT (gs.map entS))) := fun y o e => by
        have n := ne_of_none e hv.fresh.1
        rw [upd_ne n]
        refine e1 _ _ ?_
        rw [upd_ne n]
        exact hv.old _ _ e
      generalize upd H' d (.dT (gs.map entS)) = H4 at hacc4 hTA4 e4 ⊢
      obtain ⟨q1, q2⟩ := q' H4 e4
      have quads : ∀ z ∈ gs.filterMap (fun g => crowd1 E0 g.1), ∃ a b c e : Int, z = .tuple [.int a, .int b, .int c, .int e] := by
        intro z hz
        obtain ⟨g, _, eg⟩ := List.mem_filterMap.mp hz
        unfold crowd1 at eg
        split at eg
        · exact ⟨_, _, _, _, (Option.some.inj eg).symm⟩
        · exact nomatch eg
      refine ⟨.ref D, rfl, D, acc, _, .non, rfl, rfl, .of hacc4, hTA4.dp, quad_alike quads, quad_depth quads, q1, fun i y e es ee hy hd => ?_⟩
      obtain ⟨d2, hd2, t2⟩ := hTA4.at hy
      rw [hd] at hd2
      cases hd2
      exact q2 e es y ee t2
end
end Sg

set_option Elab.async false
set_option linter.all false
set_option maxRecDepth 100000
set_option maxHeartbeats 4000000
namespace Sg
open PySem PySem.Spec PyProof.Rows L2
/-- a piece is at this spot -/
def hereS (ws : List (List Int)) (p : Spot) (st : Int × Nat) : Bool := p.2 != -1 && decide (atD (wk ws st.2) (p.1 - st.1) = p.2)
theorem here_at {ws : List (List Int)} {ps : List (Int × Nat)} {p : Spot} {i : Nat} : here ws ps p i = true ↔ ∃ st, ps[i]? = some st ∧ hereS ws p st = true := by
  unfold here hereS
  cases e : ps[i]? with
  | none => simp
  | some st => simp
theorem hereS_iff {ws : List (List Int)} {p : Spot} {st : Int × Nat} : hereS ws p st = true ↔ p.2 ≠ -1 ∧ ∃ j : Nat, p.1 = st.1 + (j : Nat) ∧ (wk ws st.2)[j]? = some p.2 := by
  unfold hereS
  rw [Bool.and_eq_true, bne_iff_ne, decide_eq_true_eq]
  constructor
  · rintro ⟨c, h⟩
    obtain ⟨j, e, b⟩ := (atD_iff c).mp h
    exact ⟨c, j, by omega, b⟩
  · rintro ⟨c, j, e, b⟩
    exact ⟨c, (atD_iff c).mpr ⟨j, by omega, b⟩⟩
theorem GoodP.up {n : Nat} {ps : List (Int × Nat)} (h : GoodP n ps) : ∀ (j i : Nat) (s t : Int × Nat), i < j → ps[i]? = some s → ps[j]? = some t → s.1 < t.1
  | 0, i, s, t, hi, _, _ => absurd hi (Nat.not_lt_zero _)
  | j + 1, i, s, t, hi, hs, ht => by
    have hj : j < ps.length := by
      have := (List.getElem?_eq_some_iff.mp ht).1
      omega
    have h1 := h.asc (j + 1) t ht
    rw [leastAt_succ (s := ps[j]) (List.getElem?_eq_getElem hj)] at h1
    by_cases e : i = j
    · subst e
      rw [List.getElem?_eq_getElem hj] at hs
      cases hs
      omega
    · have := GoodP.up h j i s ps[j] (by omega) hs (List.getElem?_eq_getElem hj)
      omega
/-- two pieces meet somewhere: the bars tell it -/
theorem meet_bars {n : Nat} {ws : List (List Int)} {ps : List (Int × Nat)} (hg : GoodP n ps) {a b : Nat} {s t : Int × Nat} (ha : ps[a]? = some s) (hb : ps[b]? = some t) (hab : a < b) :
    (∃ x y, Meet ws ps ⟨x, y, a, b⟩) ↔ ∃ d : Nat, t.1 - s.1 = (d : Nat) ∧ d ∈ barsN (wk ws s.2) (wk ws t.2) := by
  have up := hg.up b a s t hab ha hb
  constructor
  · rintro ⟨x, y, h⟩
    obtain ⟨s', e1, h1⟩ := here_at.mp h.one
    obtain ⟨t', e2, h2⟩ := here_at.mp h.two
    have e1' : s' = s := by rw [ha] at e1; exact (Option.some.inj e1).symm
    have e2' : t' = t := by rw [hb] at e2; exact (Option.some.inj e2).symm
    subst e1' e2'
    obtain ⟨c, j, g1, g2⟩ := hereS_iff.mp h1
    obtain ⟨_, j2, g3, g4⟩ := hereS_iff.mp h2
    simp only at g1 g2 g3 g4 c
    refine ⟨(t'.1 - s'.1).toNat, by omega, (mem_bars (by omega)).mpr (clashB_iff.mpr ⟨j2, y, ?_, g4, c⟩)⟩
    rw [show (t'.1 - s'.1).toNat + j2 = j by omega]
    exact g2
  · rintro ⟨d, e, hd⟩
    obtain ⟨j, x, g1, g2, c⟩ := clashB_iff.mp ((mem_bars (by omega)).mp hd)
    refine ⟨t.1 + (j : Nat), x, here_at.mpr ⟨s, ha, hereS_iff.mpr ⟨c, d + j, by simp only; omega, g1⟩⟩, here_at.mpr ⟨t, hb, hereS_iff.mpr ⟨c, j, rfl, g2⟩⟩, hab⟩
theorem two_sub {α : Type} {ps : List α} {a b : Nat} {s t : α} (hab : a < b) (e1 : ps[a]? = some s) (e2 : ps[b]? = some t) : [s, t].Sublist ps := by
  have h1 : [s].Sublist (ps.take b) := List.singleton_sublist.mpr (List.mem_of_getElem? (i := a) (by rw [List.getElem?_take_of_lt hab]; exact e1))
  have h2 : [t].Sublist (ps.drop b) := List.singleton_sublist.mpr (List.mem_of_getElem? (i := 0) (by rw [List.getElem?_drop]; exact e2))
  have := h1.append h2
  rw [List.take_append_drop] at this
  exact this
theorem two_of {ws : List (List Int)} {p : Spot} {l : List (Int × Nat)} : 2 ≤ (l.filter (hereS ws p)).length → ∃ (a b : Nat) (s t : Int × Nat), a < b ∧ l[a]? = some s ∧ l[b]? = some t ∧ hereS ws p s = true ∧ hereS ws p t = true := by
  induction l with
  | nil => intro h; exact absurd h (by simp)
  | cons x r ih =>
    intro h
    by_cases hx : hereS ws p x = true
    · rw [List.filter_cons_of_pos hx] at h
      have : (r.filter (hereS ws p)) ≠ [] := by
        intro z
        rw [z] at h
        simp at h
      obtain ⟨y, hy⟩ := List.exists_mem_of_ne_nil _ this
      obtain ⟨hy1, hy2⟩ := List.mem_filter.mp hy
      obtain ⟨b, hb⟩ := List.mem_iff_getElem?.mp hy1
      exact ⟨0, b + 1, x, y, by omega, rfl, by simpa using hb, hx, hy2⟩
    · rw [List.filter_cons_of_neg hx] at h
      obtain ⟨a, b, s, t, h1, h2, h3, h4, h5⟩ := ih h
      exact ⟨a + 1, b + 1, s, t, by omega, by simpa using h2, by simpa using h3, h4, h5⟩
/-- some two pieces meet: the same, by counting -/
theorem meets_count {ws : List (List Int)} {ps : List (Int × Nat)} : (∃ q, Meet ws ps q) ↔ ∃ p, 2 ≤ ps.countP (hereS ws p) := by
  constructor
  · rintro ⟨⟨x, y, a, b⟩, h⟩
    refine ⟨(x, y), ?_⟩
    obtain ⟨s, e1, h1⟩ := here_at.mp h.one
    obtain ⟨t, e2, h2⟩ := here_at.mp h.two
    have hab : a < b := h.asc
    have sub := two_sub hab e1 e2
    have := sub.countP_le (p := hereS ws (x, y))
    rw [List.countP_cons_of_pos h1, List.countP_cons_of_pos h2] at this
    simp only [List.countP_nil] at this
    omega
  · rintro ⟨p, h⟩
    rw [List.countP_eq_length_filter] at h
    obtain ⟨a, b, s, t, h1, h2, h3, h4, h5⟩ := two_of h
    exact ⟨⟨p.1, p.2, a, b⟩, here_at.mpr ⟨s, h2, h4⟩, here_at.mpr ⟨t, h3, h5⟩, h1⟩
/-- fewer pieces -/
theorem meets_fewer {ws : List (List Int)} {ps qs : List (Int × Nat)} (h : qs.Sublist ps) (n : ∀ q, ¬ Meet ws ps q) : ∀ q, ¬ Meet ws qs q := fun q hq => by
  obtain ⟨p, hp⟩ := meets_count.mp ⟨q, hq⟩
  obtain ⟨r, hr⟩ := meets_count.mpr ⟨p, Nat.le_trans hp h.countP_le⟩
  exact n r hr
theorem meet_count {ws : List (List Int)} {ps : List (Int × Nat)} {q : Quad} (h : Meet ws ps q) : 2 ≤ ps.countP (hereS ws (q.t, q.s)) := by
  obtain ⟨s, e1, h1⟩ := here_at.mp h.one
  obtain ⟨t, e2, h2⟩ := here_at.mp h.two
  have hab : q.a < q.b := h.asc
  have sub := two_sub hab e1 e2
  have := sub.countP_le (p := hereS ws (q.t, q.s))
  rw [List.countP_cons_of_pos h1, List.countP_cons_of_pos h2] at this
  simp only [List.countP_nil] at this
  omega
end Sg

set_option Elab.async false
set_option linter.all false
set_option maxRecDepth 100000
set_option maxHeartbeats 4000000
namespace Sg
open PySem PySem.Spec PyProof.Rows L2 StX
theorem op_inK {X : Cx} {K : PySem.W.Frag} (hK : X.K = K) : OpR X (compareOp .In) (rIn K false) := by subst hK; exact op_in_seq
theorem op_notInK {X : Cx} {K : PySem.W.Frag} (hK : X.K = K) : OpR X (compareOp .NotIn) (rIn K true) := by subst hK; exact op_notIn_seq
theorem pi_listK {X : Cx} {K : PySem.W.Frag} {tg l : Expr} {tl : TE} (hK : X.K = K) (hl : PE X l tl) : PI X tg l (iList K tl) := by
  subst hK; exact pi_list hl
theorem cLenK {X : Cx} {K : PySem.W.Frag} {k : Nat} {C : Addr} (M : Meths X.prog X.w K X.mg X.base k C) (hK : X.K = K) (hr : Room (k + 2) X.A) : CallR X (.builtin "len") (fun xs H Q => ∃ a ws, xs = [.ref a] ∧ LineAt K C H a ws ∧ Q (.int (ws.length : Nat)) H) := by
  subst hK
  exact M.cLen hr
/-- a walk, whatever is done in its turns -/
theorem it_any {J : It} {n : Nat} {G : Hp → Prop} {Y : Nat → Hp → V → Hp → Prop} (wk : Walk J n G Y) {g : TG} {σ0 : L2.St} {H0 : Hp} {Qd : Hp → Prop} (B : (Hp → Prop) → L2.St → Hp → Prop) (Pv : Nat → Hp → Prop) (h0 : Pv 0 H0) (hG : ∀ i H, i ≤ n → Pv i H → G H)
    (hs : ∀ i x H H', i < n → Pv i H → Y i H x H' → g x σ0 H' (B (Pv (i + 1)))) (hd : ∀ H, Pv n H → Qd H) :
    ∃ W : Nat → Nat → Hp → Prop, (∃ m, W 0 m H0) ∧ ∀ i m H, W i m H → (J.stop i H ∧ Qd H) ∨ (J.go i H ∧ ∃ Nx : Hp → Prop, (∀ H', Nx H' → ∃ m', m' < m ∧ W (i + 1) m' H') ∧ ∀ x H', J.yld i H x H' → g x σ0 H' (B Nx)) := by
  refine ⟨fun i m H => m = n - i ∧ i ≤ n ∧ Pv i H, ⟨n, by simp, Nat.zero_le _, h0⟩, ?_⟩
  rintro i m H ⟨rfl, hi, hp⟩
  have hg := hG i H hi hp
  rcases Nat.lt_or_eq_of_le hi with hlt | rfl
  · exact .inr ⟨wk.goes i H hlt hg, Pv (i + 1), fun H' p' => ⟨n - (i + 1), by omega, rfl, hlt, p'⟩, fun x H' y => hs i x H H' hlt hp (wk.yields i H x H' hlt hg y)⟩
  · exact .inl ⟨wk.stops H hg, hd H hp⟩
theorem nV_len' (l : List Nat) : (nV l).length = l.length := List.length_map _
/-! ## a state in the heap: a tuple of its own, of tuples of its own -/
def RowsAt (H : Hp) : List V → Sta → Prop := Paired fun u r => ∃ c : Addr, u = .ref c ∧ H c = some (.tup (nV r))
def StaAt (H : Hp) (a : Addr) (L : Sta) : Prop := ∃ us, H a = some (.tup us) ∧ RowsAt H us L
theorem RowsAt.keep {H H' : Hp} (e : ∀ a us, H a = some (.tup us) → H' a = some (.tup us)) {us : List V} {L : Sta} (h : RowsAt H us L) : RowsAt H' us L := by
  unfold RowsAt at h ⊢
  induction h with
  | nil => exact .nil
  | cons a r ih =>
    obtain ⟨c, rfl, hc⟩ := a
    exact .cons ⟨c, rfl, e _ _ hc⟩ ih
theorem StaAt.keep {H H' : Hp} (e : ∀ a us, H a = some (.tup us) → H' a = some (.tup us)) {a : Addr} {L : Sta} (h : StaAt H a L) : StaAt H' a L := by
  obtain ⟨us, h1, h2⟩ := h
  exact ⟨us, e _ _ h1, h2.keep e⟩
theorem StaAt.same {H H' : Hp} {a : Addr} {L : Sta} (h : StaAt H a L) (e : Same H H') : StaAt H' a L := h.keep fun _ _ z => e _ _ z
theorem RowsAt.len {H : Hp} {us : List V} {L : Sta} (h : RowsAt H us L) : us.length = L.length := Paired.length h
theorem RowsAt.at {H : Hp} {us : List V} {L : Sta} (h : RowsAt H us L) : ∀ {i : Nat} {u : V}, us[i]? = some u → ∃ c r, L[i]? = some r ∧ u = .ref c ∧ H c = some (.tup (nV r)) := by
  unfold RowsAt at h
  induction h with
  | nil => intro i u e; exact nomatch e
  | @cons v r vs rs a t ih =>
    intro i u e
    cases i with
    | zero =>
      obtain rfl : v = u := Option.some.inj e
      obtain ⟨c, h1, h2⟩ := a
      exact ⟨c, r, rfl, h1, h2⟩
    | succ i => exact ih e
theorem RowsAt.add {H : Hp} {us : List V} {L : Sta} (h : RowsAt H us L) {c : Addr} {r : List Nat} (hc : H c = some (.tup (nV r))) : RowsAt H (us ++ [.ref c]) (L ++ [r]) := Paired.snoc h ⟨c, rfl, hc⟩
abbrev sD (L : Sta) : PyData := .tuple (tDs (L.map nI))
theorem RowsAt.dp {H : Hp} {K : PySem.W.Frag} {us : List V} {L : Sta} (h : RowsAt H us L) : DpAll K H us (tDs (L.map nI)) := by
  unfold RowsAt at h
  induction h with
  | nil => exact .nil
  | cons a r ih =>
    obtain ⟨c, rfl, hc⟩ := a
    rw [nV_eq] at hc
    exact .cons (.tup (.inl (.inl hc)) (dpInts _)) ih
theorem StaAt.dp {H : Hp} {K : PySem.W.Frag} {a : Addr} {L : Sta} (h : StaAt H a L) : Dp K H (.ref a) (sD L) := by
  obtain ⟨us, h1, h2⟩ := h
  exact .tup (.inl (.inl h1)) h2.dp
theorem nI_inj : ∀ {x y : List Nat}, nI x = nI y → x = y
  | [], [], _ => rfl
  | [], _ :: _, h => nomatch h
  | _ :: _, [], h => nomatch h
  | a :: x, b :: y, h => by
    obtain ⟨h1, h2⟩ := List.cons.inj h
    have h1 : (a : Int) = (b : Int) := h1
    rw [nI_inj h2, show a = b by omega]
theorem mapI_inj : ∀ {x y : Sta}, x.map nI = y.map nI → x = y
  | [], [], _ => rfl
  | [], _ :: _, h => nomatch h
  | _ :: _, [], h => nomatch h
  | a :: x, b :: y, h => by
    obtain ⟨h1, h2⟩ := List.cons.inj h
    rw [mapI_inj h2, nI_inj h1]
theorem eqv_sD (L M : Sta) : PyData.eqv (sD L) (sD M) = decide (L = M) := by
  rw [PyData.eqv, eqv_tDs]
  by_cases h : L = M
  · rw [h, decide_eq_true rfl, decide_eq_true rfl]
  · rw [decide_eq_false h, decide_eq_false fun z => h (mapI_inj z)]
theorem shaped_sD (L : Sta) : SeqAt.shaped (sD L) = true := shaped_tDs _
/-! ### as a key -/
def nk (L : Sta) : NestedKey := .tup (L.map fun r => .tup (r.map fun d : Nat => .num (d : Int)))
theorem keys_num (H : Hp) : ∀ (r : List Nat), KeyAll H (r.map fun d : Nat => NestedKey.num (d : Int)) (nV r)
  | [] => .no
  | d :: r => .on (.int (d : Int)) (keys_num H r)
theorem RowsAt.keys {H : Hp} {us : List V} {L : Sta} (h : RowsAt H us L) : KeyAll H (L.map fun r => NestedKey.tup (r.map fun d : Nat => .num (d : Int))) us := by
  unfold RowsAt at h
  induction h with
  | nil => exact .no
  | cons a r ih =>
    obtain ⟨c, rfl, hc⟩ := a
    exact .on (.tup hc (keys_num H _)) ih
theorem StaAt.key {H : Hp} {a : Addr} {L : Sta} (h : StaAt H a L) : KeyAt H (nk L) (.ref a) := by
  obtain ⟨us, h1, h2⟩ := h
  exact .tup h1 h2.keys
theorem depth_nums : ∀ (r : List Nat), NestedKey.depthAll (r.map fun d : Nat => NestedKey.num (d : Int)) = 0
  | [] => by rw [List.map_nil, NestedKey.depthAll]
  | d :: r => by rw [List.map_cons, NestedKey.depthAll, depth_nums r, NestedKey.depth]; rfl
theorem depth_rows : ∀ (L : Sta), NestedKey.depthAll (L.map fun r => NestedKey.tup (r.map fun d : Nat => .num (d : Int))) ≤ 1
  | [] => by rw [List.map_nil, NestedKey.depthAll]; omega
  | r :: L => by
    rw [List.map_cons, NestedKey.depthAll, NestedKey.depth, depth_nums r]
    exact Nat.max_le.mpr ⟨Nat.le_refl _, depth_rows L⟩
theorem nk_deep (L : Sta) : (nk L).depth ≤ 8 := by
  unfold nk
  rw [NestedKey.depth]
  have := depth_rows L
  omega
theorem num_inj : ∀ {x y : List Nat}, (x.map fun d : Nat => NestedKey.num (d : Int)) = (y.map fun d : Nat => NestedKey.num (d : Int)) → x = y
  | [], [], _ => rfl
  | [], _ :: _, h => nomatch h
  | _ :: _, [], h => nomatch h
  | a :: x, b :: y, h => by
    obtain ⟨h1, h2⟩ := List.cons.inj h
    have := NestedKey.num.inj h1
    rw [num_inj h2, show a = b by omega]
theorem rows_inj : ∀ {x y : Sta}, (x.map fun r => NestedKey.tup (r.map fun d : Nat => .num (d : Int))) = (y.map fun r => NestedKey.tup (r.map fun d : Nat => .num (d : Int))) → x = y
  | [], [], _ => rfl
  | [], _ :: _, h => nomatch h
  | _ :: _, [], h => nomatch h
  | a :: x, b :: y, h => by
    obtain ⟨h1, h2⟩ := List.cons.inj h
    rw [rows_inj h2, num_inj (NestedKey.tup.inj h1)]
theorem nk_inj {L M : Sta} (h : nk L = nk M) : L = M := rows_inj (NestedKey.tup.inj h)
section
variable {P : Program} {w : World} {K : PySem.W.Frag} {mg : Str → Option Value} {base : Heap}
/-! ### _ascending -/
def spAsc (K : PySem.W.Frag) : Sp := fun vs H Q _ => ∃ (l : Addr) (ns : List Int), vs = [.ref l] ∧ SqL K H l (ns.map V.int) ∧ ns.length ≤ 4000 ∧ (∀ z ∈ ns, 0 ≤ z ∧ z < 60) ∧ ∀ H' t, Same H H' → H t = none → H' t = some (.tup (nV (ascL ns))) → Q (.ref t) H'
theorem ok_ascending {f : Addr} {fd : FuncData} {k : Nat} (F : Fun K "_ascending" "_ascending" s_ascending f fd) (m1 : mg "tuple" = none) (m2 : mg "sorted" = none) (m3 : mg "set" = none) : FnOk P w K mg base CX0 (k + 1) f fd ["numbers"] (spAsc K) := by
  refine F.ok sc_ascending (fun vs H Q E h => ?_) (fun cdv A outer s H vs Q E hr h => ?_)
  · obtain ⟨l, ns, rfl, _⟩ := h; rfl
  · obtain ⟨l, ns, rfl, hl, ln, hz, q⟩ := h
    refine ⟨_, pss_one (ps_ret (pe_callTy call_tuple_of (by rfl) m1 (by decide +kernel) (pa_cons (pe_callB (cr_sortedSet rfl) (by rfl) m2 (by decide +kernel) (pa_cons (pe_callTy (cr_setL rfl) (by rfl) m3 (by decide +kernel) (pa_cons (pv 0) pa_nil)) pa_nil)) pa_nil))), ?_⟩
    refine ⟨.ref l, rfl, l, ns, rfl, hl, ln, fun p n np hn => ?_⟩
    have e1 := same_new (o := SetO w p (fun j => decide (j ∈ ns)) n) np
    have hn60 : n ≤ 60 := by
      have := hn ((List.range 60).map fun d : Nat => (d : Int)) fun k hk => by
        have := hz k hk
        exact List.mem_map.mpr ⟨k.toNat, List.mem_range.mpr (by omega), Int.toNat_of_nonneg this.1⟩
      rw [List.length_map, List.length_range] at this
      exact this
    refine ⟨p, _, n, rfl, upd_same, by omega, fun ms r hms hmem hlen nr => ?_⟩
    have e2 := same_new (o := .lst (ms.map V.int)) nr
    have em : ms = nI (ascL ns) := ascL_uniq hms (fun z => by rw [hmem, decide_eq_true_eq]) hz
    refine ⟨r, _, rfl, .inl ⟨.of upd_same, fun t nt => ?_⟩⟩
    have e3 := same_new (o := .tup (ms.map V.int)) nt
    refine q _ t ((e1.trans e2).trans e3) (freeS (e1.trans e2) nt) ?_
    rw [upd_same, em, ← nV_eq]
/-! ### _delays -/
abbrev delOne (k : Nat) (ago : Int) (bs : List Nat) : List Int := (bs.filter fun b : Nat => decide (ago ≤ (b : Int))).map fun b : Nat => (b : Int) - ago
def delAll (ws : List (List Int)) (k : Nat) (sts : List (Int × Nat)) : List Int := sts.flatMap fun s => delOne k s.1 (barsN (wkS ws s.2) (wkS ws k))
abbrev pairD (s : Int × Nat) : PyData := .tuple [.int s.1, .int (s.2 : Nat)]
def spDelays (K : PySem.W.Frag) (C : Addr) : Sp := fun vs H Q _ => ∃ (a l : Addr) (ws : List (List Int)) (sts : List (Int × Nat)) (us : List V) (k : Nat), vs = [.ref a, .ref l, .int k] ∧ LineAt K C H a ws ∧ H l = some (.lst us) ∧ TpAll K H us (sts.map pairD) ∧ (∀ s ∈ sts, s.2 < ws.length) ∧ k < ws.length ∧ sts.length ≤ 60 ∧
  ∀ H' D, Same H H' → H D = none → H' D = some (.lst ((delAll ws k sts).map V.int)) → Q (.ref D) H'
theorem barsN_len60 {one other : List Int} (h : one.length ≤ 60) : (barsN one other).length ≤ 60 := by
  have := barsTo_len one other (one.length - 1)
  exact Nat.le_trans this (by omega)
abbrev delN : List Str := ["line", "started", "kind", "ago", "other", "bar"]
theorem ok_delays {f C : Addr} {fd : FuncData} {k : Nat} (F : Fun K "_delays" "_delays" s_delays f fd) (M : Meths P w K mg base k C) : FnOk P w K mg base CX0 (k + 3) f fd ["line", "started", "kind"] (spDelays K C) := by
  refine F.ok sc_delays (fun vs H Q E h => ?_) (fun cdv A outer s H vs Q E hr h => ?_)
  · obtain ⟨a, l, ws, sts, us, kk, rfl, _⟩ := h; rfl
  · obtain ⟨a, l, ws, sts, us, kk, rfl, hL, hl, hT, hs, hk, l60, q⟩ := h
    refine ⟨_, pss_one (ps_ret (pe_lc2 (own := [("ago", 3), ("other", 4), ("bar", 5)]) (vs1 := [5]) (g := gTup K 2 (gCons (gName 3) (gCons (gName 4) gNil))) (g1 := gName 5) (tt := tYes) rfl sc_delays.nd (pi_list (pv 1))
          (blkOk_by (N := delN) (sc := defScope s_delays) (by decide +kernel)) (by decide)
          (fun _ _ _ _ _ => pg_tup rfl (pgs_cons (pg_name (i := 3) sc_delays.nd rfl (Or.inl rfl)) (pgs_cons (pg_name (i := 4) sc_delays.nd rfl (Or.inl rfl)) pgs_nil)))
          (fun _ _ _ _ _ => pts_nil)
          (fun _ _ _ _ _ => pi_tupK (K := K) rfl (M.pCall (K := K) rfl hr (pv 0) (pa_cons (pv 4) (pa_cons (pv 2) pa_nil))))
          (fun _ _ _ _ _ => pg_name (i := 5) sc_delays.nd rfl (Or.inl rfl))
          (fun _ _ _ _ _ => pts_one (pt_cmpR op_ge (pv 5) (pv 3) (nomark _)))
          (fun _ _ _ _ _ => pe_op op_sub (pv 5) (pv 3)))), ?_⟩
    have big : 4000 ≤ sizeLine := by rw [sizeLine_eq]; decide
    have w60 : ∀ o, (barsN (wkS ws o) (wkS ws kk)).length ≤ 60 := fun o => by
      refine barsN_len60 ?_
      unfold wkS
      rw [List.getD_eq_getElem?_getD]
      rcases e : ws[o]? with _ | x
      · exact Nat.zero_le _
      · exact (hL.good.work x (List.mem_of_getElem? e)).most
    have lus : us.length = sts.length := by have := hT.len; rwa [List.length_map] at this
    have lall : ∀ (ss : List (Int × Nat)), (delAll ws kk ss).length ≤ 60 * ss.length := by
      intro ss
      induction ss with
      | nil => exact Nat.le_refl _
      | cons s r ih =>
        show (delOne kk s.1 (barsN (wkS ws s.2) (wkS ws kk)) ++ delAll ws kk r).length ≤ _
        rw [List.length_append, List.length_cons]
        have h1 : (delOne kk s.1 (barsN (wkS ws s.2) (wkS ws kk))).length ≤ 60 := by
          rw [List.length_map]
          exact Nat.le_trans (List.length_filter_le _ _) (w60 _)
        omega
    refine ⟨.ref l, rfl, l, rfl, ⟨_, .of hl⟩, fun D nD => ?_⟩
    refine it_any (walk_list (K := K) (a := l) (xs := us)) _ (fun i H' => Same H H' ∧ H' D = some (.lst ((delAll ws kk (sts.take i)).map V.int))) ⟨same_new nD, upd_same⟩ (fun i H' _ h => .of (h.1 _ _ hl)) (fun i x H2 H' hi h hY => ?_) (fun H' h => ?_)
    · obtain ⟨e2, hD2⟩ := h
      obtain ⟨rfl, hx⟩ := hY
      obtain ⟨dd, hdd, tt⟩ := hT.at hx
      rw [List.getElem?_map] at hdd
      obtain ⟨s, hs2, rfl⟩ := Option.map_eq_some_iff.mp hdd
      obtain ⟨c, rfl, hc⟩ := Tp.toInts (ns := [s.1, (s.2 : Nat)]) tt
      have hso := hs s (List.mem_of_getElem? hs2)
      have hil := (List.getElem?_eq_some_iff.mp hs2).1
      obtain ⟨x1, hx1⟩ : ∃ x, ws[s.2]? = some x := ⟨ws[s.2], List.getElem?_eq_getElem hso⟩
      obtain ⟨x2, hx2⟩ : ∃ x, ws[kk]? = some x := ⟨ws[kk], List.getElem?_eq_getElem hk⟩
      have ex1 : wkS ws s.2 = x1 := by unfold wkS; rw [List.getD_eq_getElem?_getD, hx1]; rfl
      have ex2 : wkS ws kk = x2 := by unfold wkS; rw [List.getD_eq_getElem?_getD, hx2]; rfl
      have etk : delAll ws kk (sts.take (i + 1)) = delAll ws kk (sts.take i) ++ delOne kk s.1 (barsN x1 x2) := by
        rw [List.take_add_one, hs2]
        unfold delAll
        rw [List.flatMap_append, ← ex1, ← ex2]
        show _ ++ (delOne kk s.1 _ ++ []) = _
        rw [List.append_nil]
      have l1 := lall (sts.take i)
      rw [List.length_take] at l1
      refine ⟨c, _, rfl, Same.tup e2 hc, rfl, _, _, rfl, _, _, rfl, rfl, rfl, .ref a, rfl, a, rfl, .int (s.2 : Nat), rfl, .int (kk : Nat), rfl, ws, s.2, kk, x1, x2, rfl, hL.stay (.of e2), hx1, hx2, fun b hb => ?_⟩
      refine ⟨b, rfl, ⟨_, hb⟩, ?_⟩
      refine it_any (walk_tup (K := K) (a := b) (xs := nV (barsN x1 x2))) _ (fun j H' => Same H H' ∧ SqT K H' b (nV (barsN x1 x2)) ∧ H' D = some (.lst ((delAll ws kk (sts.take i) ++ delOne kk s.1 ((barsN x1 x2).take j)).map V.int)))
        ⟨e2, hb, by rw [show delOne kk s.1 ((barsN x1 x2).take 0) = [] from rfl, List.append_nil]; exact hD2⟩ (fun j H' _ h => h.2.1) (fun j x H3 H' hj h hY => ?_) (fun H' h => ?_)
      · obtain ⟨e3, hb3, hD3⟩ := h
        obtain ⟨rfl, hx⟩ := hY
        rw [List.getElem?_map] at hx
        obtain ⟨d, hd, rfl⟩ := Option.map_eq_some_iff.mp hx
        have hjl := (List.getElem?_eq_some_iff.mp hd).1
        have htk : (barsN x1 x2).take (j + 1) = (barsN x1 x2).take j ++ [d] := by rw [List.take_add_one, hd]; rfl
        have hb60 : (barsN x1 x2).length ≤ 60 := by rw [← ex1, ← ex2]; exact w60 _
        refine ⟨rfl, .int (d : Nat), rfl, .int s.1, rfl, _, _, rfl, rfl, _, rfl, ite2 (fun e => ?_) (fun e => ?_)⟩
        · have e' : s.1 ≤ (d : Int) := of_decide_eq_true e
          have edel : delOne kk s.1 ((barsN x1 x2).take (j + 1)) = delOne kk s.1 ((barsN x1 x2).take j) ++ [(d : Int) - s.1] := by
            rw [htk]
            show (((barsN x1 x2).take j ++ [d]).filter _).map _ = _
            rw [List.filter_append, List.map_append, show [d].filter (fun b : Nat => decide (s.1 ≤ (b : Int))) = [d] from List.filter_cons_of_pos (decide_eq_true e')]
            rfl
          refine ⟨.int (d : Nat), rfl, .int s.1, rfl, _, _, rfl, rfl, _, hD3, ?_, fun y o z => ?_, tup_upd hD3 (fun _ z => nomatch z) (fun _ _ z => nomatch z) hb3, ?_⟩
          · rw [List.length_map, List.length_append, List.length_map]
            have := List.length_filter_le (fun b : Nat => decide (s.1 ≤ (b : Int))) ((barsN x1 x2).take j)
            rw [List.length_take] at this
            omega
          · rw [upd_ne (ne_of_none z nD)]
            exact e3 _ _ z
          · rw [upd_same, edel, ← List.append_assoc, List.map_append (l₂ := [(d : Int) - s.1])]
            rfl
        · have e' : ¬ s.1 ≤ (d : Int) := fun z => e (decide_eq_true z)
          have edel : delOne kk s.1 ((barsN x1 x2).take (j + 1)) = delOne kk s.1 ((barsN x1 x2).take j) := by
            rw [htk]
            show (((barsN x1 x2).take j ++ [d]).filter _).map _ = _
            rw [List.filter_append, show [d].filter (fun b : Nat => decide (s.1 ≤ (b : Int))) = [] from List.filter_cons_of_neg (by rw [decide_eq_true_eq]; exact e'), List.append_nil]
          refine ⟨e3, hb3, ?_⟩
          rw [edel]
          exact hD3
      · obtain ⟨e3, _, hD3⟩ := h
        refine ⟨e3, ?_⟩
        rw [nV_len', List.take_length] at hD3
        rw [etk]
        exact hD3
    · rw [lus, List.take_length] at h
      exact q H' D h.1 nD h.2
end
end Sg

set_option Elab.async false
set_option linter.all false
set_option maxRecDepth 100000
set_option maxHeartbeats 4000000
namespace Sg
open PySem PySem.Spec PyProof.Rows L2 StX
/-! ## one tick on -/
def chI : Option Nat → Int
  | none => -1
  | some k => k
def stsOf : Option Nat → List (Int × Nat)
  | none => []
  | some k => [(1, k)]
def keptI (r : List Nat) : List Int := (r.filter fun d => decide (0 < d)).map fun d : Nat => (d : Int) - 1
theorem keptI_mem {r : List Nat} {z : Int} : z ∈ keptI r ↔ ∃ d ∈ r, 0 < d ∧ z = (d : Int) - 1 := by
  unfold keptI
  constructor
  · intro h
    obtain ⟨d, hd, rfl⟩ := List.mem_map.mp h
    obtain ⟨h1, h2⟩ := List.mem_filter.mp hd
    exact ⟨d, h1, of_decide_eq_true h2, rfl⟩
  · rintro ⟨d, h1, h2, rfl⟩
    exact List.mem_map.mpr ⟨d, List.mem_filter.mpr ⟨h1, decide_eq_true h2⟩, rfl⟩
theorem delAll_mem {ws : List (List Int)} {k : Nat} {sts : List (Int × Nat)} {z : Int} : z ∈ delAll ws k sts ↔ ∃ s ∈ sts, ∃ b ∈ barsN (wkS ws s.2) (wkS ws k), s.1 ≤ (b : Int) ∧ z = (b : Int) - s.1 := by
  unfold delAll
  rw [List.mem_flatMap]
  constructor
  · rintro ⟨s, hs, h⟩
    obtain ⟨b, hb, rfl⟩ := List.mem_map.mp h
    obtain ⟨h1, h2⟩ := List.mem_filter.mp hb
    exact ⟨s, hs, b, h1, of_decide_eq_true h2, rfl⟩
  · rintro ⟨s, hs, b, hb, h1, rfl⟩
    exact ⟨s, hs, List.mem_map.mpr ⟨b, List.mem_filter.mpr ⟨hb, decide_eq_true h1⟩, rfl⟩⟩
theorem next_asc {ws : List (List Int)} {L : Sta} {c : Option Nat} {k : Nat} : (List.range 60).filter (nextB ws L c k) = ascL (keptI (rowS L k) ++ delAll ws k (stsOf c)) := by
  unfold ascL
  refine List.filter_congr fun d _ => ?_
  rw [Bool.eq_iff_iff]
  unfold nextB
  rw [Bool.or_eq_true, decide_eq_true_eq, decide_eq_true_eq, List.mem_append, keptI_mem, delAll_mem]
  constructor
  · rintro (h | h)
    · exact .inl ⟨d + 1, h, by omega, by omega⟩
    · right
      cases c with
      | none => cases h
      | some o => exact ⟨(1, o), List.mem_singleton.mpr rfl, d + 1, of_decide_eq_true h, by show (1 : Int) ≤ _; omega, by show _ = _ - (1 : Int); omega⟩
  · rintro (⟨e, h1, h2, h3⟩ | ⟨s, hs, b, hb, h1, h2⟩)
    · left
      rw [show d + 1 = e by omega]; exact h1
    · right
      cases c with
      | none => exact nomatch hs
      | some o =>
        obtain rfl := List.mem_singleton.mp hs
        have h1 : (1 : Int) ≤ (b : Int) := h1
        have h2 : (d : Int) = (b : Int) - 1 := h2
        refine decide_eq_true ?_
        rw [show d + 1 = b by omega]
        exact hb
theorem rowS_at {L : Sta} {k : Nat} {r : List Nat} (h : L[k]? = some r) : rowS L k = r := by
  unfold rowS
  rw [List.getD_eq_getElem?_getD, h]; rfl
section
variable {P : Program} {w : World} {K : PySem.W.Frag} {mg : Str → Option Value} {base : Heap}
/-! ### _behind -/
def spBehind (K : PySem.W.Frag) (C : Addr) : Sp := fun vs H Q _ => ∃ (a s : Addr) (ws : List (List Int)) (L : Sta) (c : Option Nat) (R : Nat), vs = [.ref a, .ref s, .int (chI c)] ∧ LineAt K C H a ws ∧ StaAt H s L ∧ Rea ws R ∧ R ≤ 60 ∧ FormL ws R L ∧ (∀ k, c = some k → k < ws.length) ∧
  ∀ H' t, Same H H' → H t = none → StaAt H' t (nextL ws L c) → Q (.ref t) H'
abbrev behN : List Str := ["line", "state", "choice", "started", "found", "kind", "delays", "kept", "delay"]
theorem ok_behind {f f1 f2 C : Addr} {fd fd1 fd2 : FuncData} {k : Nat} (F : Fun K "_behind" "_behind" s_behind f fd) (nN : ∃ t, mg "NOTHING" = some (.int (-1) t))
    (G1 : FnOk P w K mg base CX0 k f1 fd1 ["line", "started", "kind"] (spDelays K C)) (kp1 : PySem.W.keepIn K (.ref f1) = true) (b1 : Binds K fd1 ["line", "started", "kind"] []) (g1 : mg "_delays" = some (.ref f1))
    (G2 : FnOk P w K mg base CX0 k f2 fd2 ["numbers"] (spAsc K)) (kp2 : PySem.W.keepIn K (.ref f2) = true) (b2 : Binds K fd2 ["numbers"] []) (g2 : mg "_ascending" = some (.ref f2))
    (m1 : mg "enumerate" = none) (m2 : mg "tuple" = none) : FnOk P w K mg base CX0 (k + 1) f fd ["line", "state", "choice"] (spBehind K C) := by
  obtain ⟨tN, nN⟩ := nN
  refine F.ok sc_behind (fun vs H Q E h => ?_) (fun cdv A outer s H vs Q E hr h => ?_)
  · obtain ⟨a, s, ws, L, c, R, rfl, _⟩ := h; rfl
  · obtain ⟨a, st, ws, L, c, R, rfl, hL, hS, hR, R6, hF, hc, q⟩ := h
    refine ⟨_, pss_cons (ps_set (i := 3) sc_behind.nd rfl (.inl rfl) (pe_ifExp (pt_cmpR op_eq (pv 2) (pe_glob (v := .int (-1)) (by rfl) nN ⟨_, rfl⟩) (nomark _)) (pe_lst pa_nil) (pe_lst (pa_cons (pe_tup (pa_cons pe_int (pa_cons (pv 2) pa_nil))) pa_nil))))
      (pss_cons (ps_set (i := 4) sc_behind.nd rfl (.inl rfl) (pe_lst pa_nil))
      (pss_cons (ps_for PassesOwn.never rfl (pi_enumT (by rfl) m1 (pa_cons (pv 1) pa_nil)) (pg_tup rfl (pgs_cons (pg_name (i := 5) sc_behind.nd rfl (.inl rfl)) (pgs_cons (pg_name (i := 6) sc_behind.nd rfl (.inl rfl)) pgs_nil)))
        (pss_cons (ps_setLc (i := 7) (own := [("delay", 8)]) (g := gName 8) (by rfl) sc_behind.nd rfl rfl (sw_true rfl rfl rfl (by decide +kernel)) (pi_tup (pv 6)) (blkOk_by (N := behN) (sc := defScope s_behind) (by decide +kernel))
          (fun _ _ _ _ _ => pg_name (i := 8) sc_behind.nd rfl (Or.inl rfl)) (fun _ _ _ _ _ => pts_one (pt_cmpR op_gt (pv 8) pe_int (nomark _))) (fun _ _ _ _ _ => pe_op op_sub (pv 8) pe_int))
        (pss_one (ps_expr (pe_bm PySem.F.plainAttrs_list PySem.F.slot_list_append PySem.F.type_list_append mt_append (pv 4) (pa_cons (pe_call G2 hr (by rfl) g2 kp2 b2 .nil pass0 (pa_cons
          (pe_op op_cat (pv 7) (pe_call G1 hr (by rfl) g1 kp1 b1 .nil pass0 (pa_cons (pv 0) (pa_cons (pv 3) (pa_cons (pv 5) pa_nil))))) pa_nil)) pa_nil))))))
      (pss_one (ps_ret (pe_callTy call_tuple_of (by rfl) m2 (by decide +kernel) (pa_cons (pv 4) pa_nil)))))), ?_⟩
    have big : 4000 ≤ sizeLine := by rw [sizeLine_eq]; decide
    have few := hL.good.few
    obtain ⟨us, hus, hrows⟩ := hS
    have lus := hrows.len
    have ll := hF.len
    -- the started pieces
    refine ⟨.int (chI c), rfl, rfl, _, rfl, ite2 (fun e => ?a) (fun e => ?b)⟩
    case' a =>
      have c0 : c = none := by
        cases c with
        | none => rfl
        | some k => have h : ((k : Nat) : Int) = -1 := V.int.inj (of_decide_eq_true e); omega
      refine ⟨by show 0 ≤ sizeLine; omega, fun l nl => ?_⟩
      have e1 : Same H (L2.upd H l (.lst [])) := same_new nl
      have hl1 := upd_same (H := H) (a := l) (o := .lst [])
      have hT1 : TpAll K (L2.upd H l (.lst [])) [] ((stsOf c).map pairD) := by rw [c0]; exact .no
      generalize L2.upd H l (.lst []) = H1 at e1 hl1 hT1 ⊢
      obtain ⟨vs1, hv1⟩ : ∃ vs1 : List V, vs1 = [] := ⟨_, rfl⟩
      rw [← hv1] at hl1 hT1
    case' b =>
      obtain ⟨kk, ck⟩ : ∃ kk, c = some kk := by
        cases c with
        | none => exact absurd (decide_eq_true rfl) e
        | some k => exact ⟨k, rfl⟩
      refine ⟨.int (chI c), rfl, by show 2 ≤ sizeLine; omega, fun t nt => ?_⟩
      have s1 := same_new (o := .tup [V.int 1, .int (chI c)]) nt
      have ht1 := upd_same (H := H) (a := t) (o := .tup [V.int 1, .int (chI c)])
      generalize L2.upd H t (.tup [V.int 1, .int (chI c)]) = H0 at s1 ht1 ⊢
      refine ⟨by show 1 ≤ sizeLine; omega, fun l nl => ?_⟩
      have s2 := same_new (o := .lst [V.ref t]) nl
      have hl1 := upd_same (H := H0) (a := l) (o := .lst [V.ref t])
      have ht2 := s2 _ _ ht1
      have e1 := s1.trans s2
      generalize L2.upd H0 l (.lst [V.ref t]) = H1 at s2 hl1 ht2 e1 ⊢
      have hT1 : TpAll K H1 [V.ref t] ((stsOf c).map pairD) := by
        rw [ck] at ht2 ⊢
        exact .on (Tp.ofInts (ns := [1, (kk : Nat)]) (.of ht2)) .no
      obtain ⟨vs1, hv1⟩ : ∃ vs1 : List V, vs1 = [V.ref t] := ⟨_, rfl⟩
      rw [← hv1] at hl1 hT1
      clear nl ht1 ht2 s1 s2 nt
    all_goals
      refine ⟨by show 0 ≤ sizeLine; omega, fun D nD => ?_⟩
      have e2 := same_new (o := .lst []) nD
      have hD2 := upd_same (H := H1) (a := D) (o := .lst [])
      have nDH : H D = none := freeS e1 nD
      have nDl : l ≠ D := ne_of_none hl1 nD
      have hl2 := e2 _ _ hl1
      have e12 := e1.trans e2
      have hT2 := hT1.stay (.of e2)
      generalize L2.upd H1 D (.lst []) = H2 at e2 hD2 hl2 e12 hT2 ⊢
      refine ⟨.ref st, rfl, st, us, rfl, .inl (.inl (e12 _ _ hus)), ?_⟩
      refine for_it (walk_enumT (xs := us)) (fun i σ H' => ∃ v5 v6 v7 v8 vs, σ = [some (.ref a), some (.ref st), some (.int (chI c)), some (.ref l), some (.ref D), v5, v6, v7, v8] ∧ Same H H' ∧ H' l = some (.lst vs1) ∧ TpAll K H' vs1 ((stsOf c).map pairD) ∧ H' D = some (.lst vs) ∧ RowsAt H' vs ((nextL ws L c).take i) ∧ vs.length = i)
        ⟨_, _, _, _, [], rfl, e12, hl2, hT2, hD2, .nil, rfl⟩ (fun i σ H' _ h => ?_) (fun i y σ H' H'' hi h hY => ?_) (fun σ H' h => ?_)
      · obtain ⟨_, _, _, _, _, _, e, _⟩ := h
        exact .inl (.inl (e _ _ hus))
      · obtain ⟨v5, v6, v7, v8, vs, rfl, e3, hl3, hT3, hD3, hr3, lv⟩ := h
        obtain ⟨T, x1, x2, rfl, nT, rfl, f1', f2'⟩ := hY
        dsimp only at f1' f2'
        cases f1'
        obtain ⟨cr, r, hr1, rfl, hcr⟩ := hrows.at f2'
        have hil := (List.getElem?_eq_some_iff.mp hr1).1
        have hrow := rowS_at hr1
        have hrlen := hF.row_len R6 r (List.mem_of_getElem? hr1)
        have hrlt := hF.lt r (List.mem_of_getElem? hr1)
        have eT : Same H' (upd H' T (.tup [V.int (i : Nat), .ref cr])) := same_new nT
        refine ⟨T, _, rfl, .of upd_same, rfl, _, _, rfl, _, _, rfl, rfl, ?_⟩
        have e4 := e3.trans eT
        have hl4 := eT _ _ hl3
        have hT4 := hT3.stay (.of eT)
        have hD4 := eT _ _ hD3
        have hr4 := hr3.keep fun _ _ z => eT _ _ z
        have hcr4 := e4 _ _ hcr
        generalize upd H' T (.tup [V.int (i : Nat), .ref cr]) = H4 at e4 hl4 hT4 hD4 hr4 hcr4 ⊢
        refine ⟨.ref cr, rfl, cr, rfl, ⟨_, .inl (.inl hcr4)⟩, fun G nG => ?_⟩
        refine lc_tup (xs := nV r) (fun j H' => Same H4 H' ∧ H' G = some (.lst ((keptI (r.take j)).map V.int))) ⟨same_new nG, upd_same⟩ (fun j H' _ h => .inl (.inl (h.1 _ _ hcr4))) (fun j y H' hy h => ?_) (fun H5 h => ?_)
        · rw [List.getElem?_map] at hy
          obtain ⟨d, hd, rfl⟩ := Option.map_eq_some_iff.mp hy
          have hj := (List.getElem?_eq_some_iff.mp hd).1
          have htk : r.take (j + 1) = r.take j ++ [d] := by rw [List.take_add_one, hd]; rfl
          refine ⟨rfl, .int (d : Nat), rfl, _, _, rfl, rfl, _, rfl, ite2 (fun e => ?_) (fun e => ?_)⟩
          · have e' : 0 < d := by have : (0 : Int) < (d : Int) := of_decide_eq_true e; omega
            have ek : keptI (r.take (j + 1)) = keptI (r.take j) ++ [(d : Int) - 1] := by
              unfold keptI
              rw [htk, List.filter_append, List.map_append, show [d].filter (fun d => decide (0 < d)) = [d] from List.filter_cons_of_pos (decide_eq_true e')]; rfl
            refine ⟨.int (d : Nat), rfl, _, _, rfl, rfl, _, h.2, ?_, fun b o z => ?_, ?_⟩
            · unfold keptI
              rw [List.length_map, List.length_map]
              have := List.length_filter_le (fun d => decide (0 < d)) (r.take j)
              rw [List.length_take] at this
              omega
            · rw [upd_ne (ne_of_none z nG)]
              exact h.1 _ _ z
            · rw [upd_same, ek, List.map_append]; rfl
          · have e' : ¬ 0 < d := fun z => e (decide_eq_true (by show (0 : Int) < (d : Int); omega))
            have ek : keptI (r.take (j + 1)) = keptI (r.take j) := by
              unfold keptI
              rw [htk, List.filter_append, show [d].filter (fun d => decide (0 < d)) = [] from List.filter_cons_of_neg (by rw [decide_eq_true_eq]; exact e'), List.append_nil]
            refine ⟨h.1, ?_⟩
            rw [ek]; exact h.2
        · obtain ⟨e5, hG5⟩ := h
          rw [nV_len', List.take_length] at hG5
          have e45 := e4.trans e5
          have hD5 := e5 _ _ hD4
          have hl5 := e5 _ _ hl4
          have hT5 := hT4.stay (.of e5)
          have kI : (keptI r).length ≤ R := by
            unfold keptI
            rw [List.length_map]
            exact Nat.le_trans (List.length_filter_le _ _) hrlen
          have lst1 : (stsOf c).length ≤ 1 := by cases c <;> simp [stsOf]
          have hin : i < ws.length := by omega
          refine ⟨.ref D, rfl, .inl ⟨rfl, _, .of hD5⟩, .ref G, rfl, .ref a, rfl, .ref l, rfl, .int (i : Nat), rfl, a, l, ws, stsOf c, vs1, i, rfl, hL.stay (.of e45), hl5, hT5, fun s hs => ?_, hin, by omega, fun H6 D6 e6 n6 hD6 => ?_⟩
          · cases c with
            | none => exact nomatch hs
            | some k =>
              rw [List.mem_singleton.mp hs]
              exact hc k rfl
          have ldel : (delAll ws i (stsOf c)).length ≤ 60 := by
            cases c with
            | none => exact Nat.zero_le _
            | some k =>
              show (delOne i 1 _ ++ []).length ≤ 60
              rw [List.append_nil, List.length_map]
              refine Nat.le_trans (List.length_filter_le _ _) (barsN_len60 ?_)
              unfold wkS
              rw [List.getD_eq_getElem?_getD]
              rcases e : ws[k]? with _ | x
              · exact Nat.zero_le _
              · exact (hL.good.work x (List.mem_of_getElem? e)).most
          refine ⟨G, D6, _, _, rfl, rfl, e6 _ _ hG5, hD6, by rw [List.length_map, List.length_map]; omega, fun p np => ?_⟩
          rw [← List.map_append]
          have e7 := same_new (o := .lst ((keptI r ++ delAll ws i (stsOf c)).map V.int)) np
          have hp7 := upd_same (H := H6) (a := p) (o := .lst ((keptI r ++ delAll ws i (stsOf c)).map V.int))
          generalize L2.upd H6 p (.lst ((keptI r ++ delAll ws i (stsOf c)).map V.int)) = H7 at e7 hp7 ⊢
          refine ⟨p, keptI r ++ delAll ws i (stsOf c), rfl, .of hp7, by rw [List.length_append]; omega, fun z hz => ?_, fun H8 t e8 nt8 ht8 => ?_⟩
          · rcases List.mem_append.mp hz with h | h
            · obtain ⟨d, hd, h0, rfl⟩ := keptI_mem.mp h
              have := hrlt d hd
              omega
            · obtain ⟨s, hs, b, hb, h1, rfl⟩ := delAll_mem.mp h
              have hb2 := hR _ _ _ hb
              cases c with
              | none => exact nomatch hs
              | some k =>
                obtain rfl := List.mem_singleton.mp hs
                show 0 ≤ (b : Int) - 1 ∧ (b : Int) - 1 < 60
                have h1 : (1 : Int) ≤ (b : Int) := h1
                omega
          have e58 := (e6.trans e7).trans e8
          have hD8 := e58 _ _ hD5
          have hl8 := e58 _ _ hl5
          have e48 := e45.trans e58
          rw [← hrow, ← next_asc] at ht8
          refine ⟨D, _, _, rfl, rfl, hD8, by rw [lv]; omega, ?_⟩
          have keepT : ∀ b us, H8 b = some (.tup us) → (L2.upd H8 D (.lst (vs ++ [.ref t]))) b = some (.tup us) := fun b us z => by
            rw [upd_ne (ne_of z hD8 (fun c => nomatch c))]
            exact z
          refine ⟨_, _, _, _, vs ++ [.ref t], rfl, fun b o z => ?_, ?_, ?_, upd_same, ?_, by rw [List.length_append, lv]; rfl⟩
          · rw [upd_ne (ne_of_none z nDH)]
            exact e48 _ _ z
          · rw [upd_ne nDl]; exact hl8
          · refine (hT5.stay (.of e58)).stayT fun b xs z => tup_upd hD8 (fun _ z => nomatch z) (fun _ _ z => nomatch z) z
          · have etk : (nextL ws L c).take (i + 1) = (nextL ws L c).take i ++ [(List.range 60).filter (nextB ws L c i)] := by
              rw [List.take_add_one]
              unfold nextL
              rw [List.getElem?_map, List.getElem?_range hin]; rfl
            rw [etk]
            exact ((hr4.keep fun _ _ z => e58 _ _ (e5 _ _ z)).keep keepT).add (keepT _ _ ht8)
      · obtain ⟨v5, v6, v7, v8, vs, rfl, e3, hl3, hT3, hD3, hr3, lv⟩ := h
        rw [lus, ll, List.take_of_length_le (by rw [nextL_len]; exact Nat.le_refl _)] at hr3
        refine ⟨.ref D, rfl, D, _, rfl, .inl ⟨.of hD3, fun t nt => ?_⟩⟩
        have et := same_new (o := .tup vs) nt
        exact q _ t (e3.trans et) (freeS e3 nt) ⟨vs, upd_same, hr3.keep fun _ _ z => et _ _ z⟩
end
end Sg

set_option Elab.async false
set_option linter.all false
set_option maxRecDepth 100000
set_option maxHeartbeats 4000000
namespace Sg
open PySem PySem.Spec PyProof.Rows L2 StX
section
variable {P : Program} {w : World} {K : PySem.W.Frag} {mg : Str → Option Value} {base : Heap}
/-! ### _open_choices -/
/-- the choices as values -/
abbrev chV (ks : List Nat) : List V := V.int (-1) :: nV ks
def spOpen (K : PySem.W.Frag) : Sp := fun vs H Q _ => ∃ (s : Addr) (ws : List (List Int)) (L : Sta) (R : Nat), vs = [.ref s] ∧ StaAt H s L ∧ FormL ws R L ∧ R ≤ 60 ∧ ws.length ≤ 3 ∧
  ∀ H' t, Same H H' → H t = none → H' t = some (.tup (chV (openL ws L))) → Q (.ref t) H'
abbrev openN : List Str := ["state", "kinds", "kind", "delays"]
theorem openL_take {ws : List (List Int)} {L : Sta} (i : Nat) : ((List.range (i + 1)).filter fun k => !decide (0 ∈ rowS L k)) = ((List.range i).filter fun k => !decide (0 ∈ rowS L k)) ++ (if 0 ∈ rowS L i then [] else [i]) := by
  rw [List.range_succ, List.filter_append]
  congr 1
  by_cases h : 0 ∈ rowS L i
  · rw [if_pos h, List.filter_cons_of_neg (by rw [decide_eq_true h]; decide)]; rfl
  · rw [if_neg h, List.filter_cons_of_pos (by rw [decide_eq_false h]; rfl)]; rfl
theorem inV_zero (r : List Nat) : inV (.int 0) (nV r) = decide (0 ∈ r) := by
  unfold inV
  rw [Bool.eq_iff_iff, List.any_eq_true, decide_eq_true_eq]
  constructor
  · rintro ⟨v, hv, e⟩
    obtain ⟨b, hb, rfl⟩ := List.mem_map.mp hv
    have : (b : Int) = 0 := by simpa [eqV] using e
    rw [show 0 = b by omega]
    exact hb
  · intro h
    exact ⟨_, List.mem_map.mpr ⟨0, h, rfl⟩, by simp [eqV]⟩
theorem flat_nV (bs : List Nat) : (nV bs).all flatV = true := by
  rw [List.all_eq_true]
  intro v hv
  obtain ⟨b, _, rfl⟩ := List.mem_map.mp hv
  rfl
theorem ok_open_choices {f : Addr} {fd : FuncData} {k : Nat} (F : Fun K "_open_choices" "_open_choices" s_open_choices f fd) (nN : ∃ t, mg "NOTHING" = some (.int (-1) t)) (m1 : mg "enumerate" = none) :
    FnOk P w K mg base CX0 (k + 1) f fd ["state"] (spOpen K) := by
  obtain ⟨tN, nN⟩ := nN
  refine F.ok sc_open_choices (fun vs H Q E h => ?_) (fun cdv A outer s H vs Q E hr h => ?_)
  · obtain ⟨s, ws, L, R, rfl, _⟩ := h; rfl
  · obtain ⟨st, ws, L, R, rfl, hS, hF, R6, few, q⟩ := h
    refine ⟨_, pss_cons (ps_setLc (i := 1) (own := [("kind", 2), ("delays", 3)]) (g := gTup K 2 (gCons (gName 2) (gCons (gName 3) gNil))) (by rfl) sc_open_choices.nd rfl rfl (sw_true rfl rfl rfl (by decide +kernel)) (pi_enumT (by rfl) m1 (pa_cons (pv 0) pa_nil))
          (blkOk_by (N := openN) (sc := defScope s_open_choices) (by decide +kernel))
          (fun _ _ _ _ _ => pg_tup rfl (pgs_cons (pg_name (i := 2) sc_open_choices.nd rfl (Or.inl rfl)) (pgs_cons (pg_name (i := 3) sc_open_choices.nd rfl (Or.inl rfl)) pgs_nil)))
          (fun _ _ _ _ _ => pts_one (pt_cmpR (op_notInK (K := K) rfl) pe_int (pv 3) (by with_unfolding_all rfl)))
          (fun _ _ _ _ _ => pv 2))
      (pss_one (ps_ret (pe_tup (pa_cons (pe_glob (v := .int (-1)) (by rfl) nN ⟨_, rfl⟩) (pa_star (pv 1) pa_nil))))), ?_⟩
    have big : 4000 ≤ sizeLine := by rw [sizeLine_eq]; decide
    obtain ⟨us, hus, hrows⟩ := hS
    have lus := hrows.len
    have ll := hF.len
    refine ⟨.ref st, rfl, st, us, rfl, .inl (.inl hus), fun D nD => ?_⟩
    refine it_any (walk_enumT (xs := us)) _ (fun i H' => Same H H' ∧ H' D = some (.lst (nV ((List.range i).filter fun k => !decide (0 ∈ rowS L k))))) ⟨same_new nD, upd_same⟩ (fun i H' _ h => .inl (.inl (h.1 _ _ hus))) (fun i x H2 H' hi h hY => ?_) (fun H' h => ?_)
    · obtain ⟨e2, hD2⟩ := h
      obtain ⟨T, x1, x2, rfl, nT, rfl, f1', f2'⟩ := hY
      dsimp only at f1' f2'
      cases f1'
      obtain ⟨cr, r, hr1, rfl, hcr⟩ := hrows.at f2'
      have hrow := rowS_at hr1
      have eT : Same H2 (upd H2 T (.tup [V.int (i : Nat), .ref cr])) := same_new nT
      have hTT : (upd H2 T (.tup [V.int (i : Nat), .ref cr])) T = some (.tup [V.int (i : Nat), .ref cr]) := upd_same
      have hD3 := eT _ _ hD2
      have e3 := e2.trans eT
      have hcr3 := e3 _ _ hcr
      generalize upd H2 T (.tup [V.int (i : Nat), .ref cr]) = H3 at eT hTT hD3 e3 hcr3 ⊢
      refine ⟨T, _, rfl, .of hTT, rfl, _, _, rfl, _, _, rfl, rfl, rfl, .ref cr, rfl, cr, _, rfl, .inr (.inl (.inl hcr3)), rfl, flat_nV r, ?_⟩
      rw [if_pos rfl, inV_zero, ← hrow]
      refine ⟨_, rfl, ite2 (fun e => ?_) (fun e => ?_)⟩
      · have e' : ¬ 0 ∈ rowS L i := by rwa [Bool.not_eq_true', decide_eq_false_iff_not] at e
        refine ⟨.int (i : Nat), rfl, _, hD3, ?_, fun b o z => ?_, ?_⟩
        · unfold nV
          rw [List.length_map]
          have := List.length_filter_le (fun k => !decide (0 ∈ rowS L k)) (List.range i)
          rw [List.length_range] at this
          omega
        · rw [upd_ne (ne_of_none z nD)]
          exact e3 _ _ z
        · rw [upd_same, openL_take (ws := ws), if_neg e']
          unfold nV
          rw [List.map_append]; rfl
      · have e' : 0 ∈ rowS L i := by
          rw [Bool.not_eq_true', decide_eq_false_iff_not] at e
          exact Classical.byContradiction e
        refine ⟨e3, ?_⟩
        rw [openL_take (ws := ws), if_pos e', List.append_nil]
        exact hD3
    · obtain ⟨e2, hD2⟩ := h
      rw [lus, ll] at hD2
      refine ⟨.ref D, rfl, D, _, rfl, .inr (.of hD2), ?_, fun t nt => ?_⟩
      · unfold nV
        rw [List.append_nil, List.length_cons, List.length_map]
        have := List.length_filter_le (fun k => !decide (0 ∈ rowS L k)) (List.range ws.length)
        rw [List.length_range] at this
        omega
      · have et := same_new (o := .tup (V.int (-1) :: (nV ((List.range ws.length).filter fun k => !decide (0 ∈ rowS L k)) ++ []))) nt
        refine q _ t (e2.trans et) (freeS e2 nt) ?_
        rw [upd_same, List.append_nil]
        rfl
/-! ### _empty_state -/
def spEmpty (K : PySem.W.Frag) (C : Addr) : Sp := fun vs H Q _ => ∃ (a : Addr) (ws : List (List Int)), vs = [.ref a] ∧ LineAt K C H a ws ∧ ∀ H' t, Same H H' → H t = none → StaAt H' t (emptyL ws) → Q (.ref t) H'
theorem rows_rep {H : Hp} {c : Addr} (hc : H c = some (.tup [])) : ∀ n, RowsAt H (List.replicate n (V.ref c)) (List.replicate n [])
  | 0 => .nil
  | n + 1 => .cons ⟨c, rfl, hc⟩ (rows_rep hc n)
theorem flat_one (n : Nat) (v : V) : (List.replicate n [v]).flatten = List.replicate n v := by
  induction n with
  | zero => rfl
  | succ n ih => rw [List.replicate_succ, List.flatten_cons, ih]; rfl
theorem ok_empty_state {f C : Addr} {fd : FuncData} {k : Nat} (F : Fun K "_empty_state" "_empty_state" s_empty_state f fd) (M : Meths P w K mg base k C) (m1 : mg "len" = none) : FnOk P w K mg base CX0 (k + 3) f fd ["line"] (spEmpty K C) := by
  refine F.ok sc_empty_state (fun vs H Q E h => ?_) (fun cdv A outer s H vs Q E hr h => ?_)
  · obtain ⟨a, ws, rfl, _⟩ := h; rfl
  · obtain ⟨a, ws, rfl, hL, q⟩ := h
    refine ⟨_, pss_one (ps_ret (pe_op op_repN (pe_tup (pa_cons (pe_tup pa_nil) pa_nil)) (pe_callB (cLenK (K := K) M rfl hr) (by rfl) m1 PySem.boot_len (pa_cons (pv 0) pa_nil)))), ?_⟩
    have few := hL.good.few
    refine ⟨by show 0 ≤ sizeLine; decide, fun c nc => ?_⟩
    have e1 : Same H (L2.upd H c (.tup [])) := same_new nc
    have hc1 := upd_same (H := H) (a := c) (o := .tup [])
    generalize L2.upd H c (.tup []) = H1 at e1 hc1 ⊢
    refine ⟨by show 1 ≤ sizeLine; decide, fun t nt => ?_⟩
    have e2 : Same H1 (L2.upd H1 t (.tup [V.ref c])) := same_new nt
    have ht2 := upd_same (H := H1) (a := t) (o := .tup [V.ref c])
    have hc2 := e2 _ _ hc1
    have ntH : H t = none := freeS e1 nt
    generalize L2.upd H1 t (.tup [V.ref c]) = H2 at e2 ht2 hc2 ⊢
    have e12 := e1.trans e2
    refine ⟨.ref a, rfl, a, ws, rfl, hL.stay (.of e12), t, ws.length, [V.ref c], rfl, rfl, .inl (.inl ht2), by simp, by omega, by show 1 ≤ 1000; decide, fun h1 => ?_, fun h1 p np => ?_⟩
    · refine q H2 t e12 ntH ⟨_, ht2, ?_⟩
      unfold emptyL
      rw [h1]
      exact rows_rep hc2 1
    · have e3 := same_new (o := .tup (List.replicate ws.length [V.ref c]).flatten) np
      refine q _ p (e12.trans e3) (freeS e12 np) ⟨_, upd_same, ?_⟩
      have hh := rows_rep (e3 _ _ hc2) ws.length
      rw [flat_one] at hh ⊢
      exact hh
end
end Sg

set_option Elab.async false
set_option linter.all false
set_option maxRecDepth 100000
set_option maxHeartbeats 4000000
namespace Sg
open PySem PySem.Spec PyProof.Rows L2 StX
/-! ## rows and lists of states -/
def HasL (rs : List Row) (L : Sta) : Prop := ∃ r ∈ rs, r.1 = nk L
theorem atN_some {rs : List Row} {L : Sta} : (atN rs (nk L)).isSome = true ↔ HasL rs L := by
  unfold atN HasL
  rw [Option.isSome_map, List.find?_isSome]
  constructor
  · rintro ⟨r, hr, e⟩; exact ⟨r, hr, of_decide_eq_true e⟩
  · rintro ⟨r, hr, e⟩; exact ⟨r, hr, decide_eq_true e⟩
theorem atN_none {rs : List Row} {L : Sta} (h : ¬ HasL rs L) : atN rs (nk L) = none := by
  rcases e : atN rs (nk L) with _ | v
  · rfl
  · exact absurd (atN_some.mp (by rw [e]; rfl)) h
structure RowsOk (H : Hp) (rs : List Row) (ws : List (List Int)) (R : Nat) : Prop where
  row : ∀ r ∈ rs, ∃ L, r.1 = nk L ∧ StaAt H r.2.1 L ∧ FormL ws R L
  nd : (rs.map (·.1)).Nodup
theorem RowsOk.keep {H H' : Hp} {rs : List Row} {ws : List (List Int)} {R : Nat} (h : RowsOk H rs ws R) (e : ∀ a us, H a = some (.tup us) → H' a = some (.tup us)) : RowsOk H' rs ws R :=
  ⟨fun r hr => let ⟨L, h1, h2, h3⟩ := h.row r hr; ⟨L, h1, h2.keep e, h3⟩, h.nd⟩
theorem RowsOk.keys {H : Hp} {rs : List Row} {ws : List (List Int)} {R : Nat} (h : RowsOk H rs ws R) : KeysIn H rs := fun r hr => by
  obtain ⟨L, h1, h2, h3⟩ := h.row r hr
  rw [h1]
  exact ⟨h2.key, nk_deep L⟩
theorem RowsOk.few {H : Hp} {rs : List Row} {ws : List (List Int)} {R : Nat} (h : RowsOk H rs ws R) (hn : NearR ws.length R) : rs.length ≤ 32768 := by
  have := nodup_len_le (rs.map (·.1)) ((allL ws R).map nk) h.nd fun k hk => by
    obtain ⟨r, hr, rfl⟩ := List.mem_map.mp hk
    obtain ⟨L, h1, _, h3⟩ := h.row r hr
    have R6 : R ≤ 60 := by rcases hn with ⟨_, h⟩ | ⟨_, h⟩ <;> omega
    exact List.mem_map.mpr ⟨L, h3.mem_all R6, h1.symm⟩
  rw [List.length_map, List.length_map] at this
  have := allL_len hn
  omega
theorem RowsOk.add {H : Hp} {rs : List Row} {ws : List (List Int)} {R : Nat} (h : RowsOk H rs ws R) {L : Sta} {b : Addr} {v : V} (hL : StaAt H b L) (hF : FormL ws R L) (n : ¬ HasL rs L) : RowsOk H (rs ++ [(nk L, b, v)]) ws R := by
  refine ⟨fun r hr => ?_, ?_⟩
  · rcases List.mem_append.mp hr with z | z
    · exact h.row r z
    · rw [List.mem_singleton.mp z]; exact ⟨L, rfl, hL, hF⟩
  · rw [List.map_append, List.nodup_append]
    refine ⟨h.nd, List.nodup_cons.mpr ⟨List.not_mem_nil, List.nodup_nil⟩, fun k hk k' hk' e => ?_⟩
    obtain ⟨r, hr, rfl⟩ := List.mem_map.mp hk
    obtain rfl := List.mem_singleton.mp hk'
    exact n ⟨r, hr, e⟩
/-- states in a list: where each stands -/
def StasAt (H : Hp) : List V → List Sta → Prop := Paired fun u L => ∃ b : Addr, u = .ref b ∧ StaAt H b L
theorem StasAt.keep {H H' : Hp} (e : ∀ a us, H a = some (.tup us) → H' a = some (.tup us)) {us : List V} {Ls : List Sta} (h : StasAt H us Ls) : StasAt H' us Ls := by
  unfold StasAt at h ⊢
  induction h with
  | nil => exact .nil
  | cons a r ih =>
    obtain ⟨c, rfl, hc⟩ := a
    exact .cons ⟨c, rfl, hc.keep e⟩ ih
theorem StasAt.add {H : Hp} {us : List V} {Ls : List Sta} (h : StasAt H us Ls) {b : Addr} {L : Sta} (hb : StaAt H b L) : StasAt H (us ++ [.ref b]) (Ls ++ [L]) := Paired.snoc h ⟨b, rfl, hb⟩
theorem StasAt.app {H : Hp} {us vs : List V} {Ls Ms : List Sta} (h : StasAt H us Ls) (g : StasAt H vs Ms) : StasAt H (us ++ vs) (Ls ++ Ms) := by
  unfold StasAt at h g ⊢
  induction h with
  | nil => exact g
  | cons a r ih => exact .cons a ih
theorem StasAt.len {H : Hp} {us : List V} {Ls : List Sta} (h : StasAt H us Ls) : us.length = Ls.length := Paired.length h
theorem StasAt.at {H : Hp} {us : List V} {Ls : List Sta} (h : StasAt H us Ls) : ∀ {i : Nat} {u : V}, us[i]? = some u → ∃ b L, Ls[i]? = some L ∧ u = .ref b ∧ StaAt H b L := by
  unfold StasAt at h
  induction h with
  | nil => intro i u e; exact nomatch e
  | @cons v r vs rs a t ih =>
    intro i u e
    cases i with
    | zero =>
      obtain rfl : v = u := Option.some.inj e
      obtain ⟨b, h1, h2⟩ := a
      exact ⟨b, r, rfl, h1, h2⟩
    | succ i => exact ih e
theorem StasAt.pop {H : Hp} {us : List V} {Ls : List Sta} (h : StasAt H us Ls) (h0 : us ≠ []) : ∃ ms b L, Ls = ms ++ [L] ∧ us[us.length - 1]? = some (.ref b) ∧ StaAt H b L ∧ StasAt H us.dropLast ms := by
  unfold StasAt at h ⊢
  induction h with
  | nil => exact absurd rfl h0
  | @cons v r vs rs a t ih =>
    obtain ⟨b, rfl, hb⟩ := a
    cases t with
    | nil => exact ⟨[], b, r, rfl, rfl, hb, .nil⟩
    | @cons v2 r2 vs2 rs2 a2 t2 =>
      obtain ⟨ms, b', L', e1, e2, h3, h4⟩ := ih (List.cons_ne_nil _ _)
      refine ⟨r :: ms, b', L', by rw [e1]; rfl, ?_, h3, .cons ⟨b, rfl, hb⟩ h4⟩
      exact e2
/-- all choices of a state -/
def chs (ws : List (List Int)) (L : Sta) : List (Option Nat) := none :: (openL ws L).map some
theorem chs_can {ws : List (List Int)} {L : Sta} {c : Option Nat} : c ∈ chs ws L ↔ CanL ws L c := by
  unfold chs
  rw [List.mem_cons]
  cases c with
  | none => exact ⟨fun _ => True.intro, fun _ => .inl rfl⟩
  | some k =>
    constructor
    · rintro (h | h)
      · exact nomatch h
      · obtain ⟨j, hj, e⟩ := List.mem_map.mp h
        obtain rfl := Option.some.inj e
        exact hj
    · intro h
      exact .inr (List.mem_map.mpr ⟨k, h, rfl⟩)
theorem chs_len {ws : List (List Int)} {L : Sta} : (chs ws L).length ≤ ws.length + 1 := by
  unfold chs openL
  rw [List.length_cons, List.length_map]
  have := List.length_filter_le (fun k => !decide (0 ∈ rowS L k)) (List.range ws.length)
  rw [List.length_range] at this
  omega
theorem chV_chs (ws : List (List Int)) (L : Sta) : chV (openL ws L) = (chs ws L).map fun c => V.int (chI c) := by
  unfold chs
  rw [List.map_cons, List.map_map]
  rfl
theorem CanL.lt {ws : List (List Int)} {L : Sta} {c : Option Nat} (h : CanL ws L c) : ∀ k, c = some k → k < ws.length := fun k e => by
  subst e
  exact List.mem_range.mp (List.mem_filter.mp h).1
/-- pairs (choice, state behind it) -/
def PairsAt (H : Hp) (ws : List (List Int)) (L : Sta) : List V → List (Option Nat) → Prop := Paired fun u c => ∃ t b : Addr, u = .ref t ∧ H t = some (.tup [V.int (chI c), .ref b]) ∧ StaAt H b (nextL ws L c)
theorem PairsAt.keep {H H' : Hp} {ws : List (List Int)} {L : Sta} (e : ∀ a us, H a = some (.tup us) → H' a = some (.tup us)) {us : List V} {cs : List (Option Nat)} (h : PairsAt H ws L us cs) : PairsAt H' ws L us cs := by
  unfold PairsAt at h ⊢
  induction h with
  | nil => exact .nil
  | cons a r ih =>
    obtain ⟨t, b, rfl, ht, hb⟩ := a
    exact .cons ⟨t, b, rfl, e _ _ ht, hb.keep e⟩ ih
theorem PairsAt.at {H : Hp} {ws : List (List Int)} {L : Sta} {us : List V} {cs : List (Option Nat)} (h : PairsAt H ws L us cs) : ∀ {i : Nat} {u : V}, us[i]? = some u → ∃ t b c, cs[i]? = some c ∧ u = .ref t ∧ H t = some (.tup [V.int (chI c), .ref b]) ∧ StaAt H b (nextL ws L c) := by
  unfold PairsAt at h
  induction h with
  | nil => intro i u e; exact nomatch e
  | @cons v r vs rs a t ih =>
    intro i u e
    cases i with
    | zero =>
      obtain rfl : v = u := Option.some.inj e
      obtain ⟨t, b, h1, h2, h3⟩ := a
      exact ⟨t, b, r, rfl, h1, h2, h3⟩
    | succ i => exact ih e
section
variable {P : Program} {w : World} {K : PySem.W.Frag} {mg : Str → Option Value} {base : Heap}
/-! ### _moves -/
def spMoves (P : Program) (w : World) (K : PySem.W.Frag) (C : Addr) : Sp := fun vs H Q _ => ∃ (a : Addr) (ws : List (List Int)) (R : Nat), vs = [.ref a] ∧ LineAt K C H a ws ∧ Rea ws R ∧ NearR ws.length R ∧
  ∀ H' m rs, Same H H' → H' m = some (DN P w m rs) → RowsOk H' rs ws R → (∀ L, Rchd ws L → HasL rs L) → Q (.ref m) H'
structure MInv (ws : List (List Int)) (rs : List Row) (Ls : List Sta) : Prop where
  first : HasL rs (emptyL ws) ∨ emptyL ws ∈ Ls
  closed : ∀ L c, HasL rs L → CanL ws L c → HasL rs (nextL ws L c) ∨ nextL ws L c ∈ Ls
abbrev movN : List Str := ["line", "moves", "waiting", "state", "choice", "_", "behind"]
theorem ok_moves {f f1 f2 f3 C : Addr} {fd fd1 fd2 fd3 : FuncData} {k : Nat} (F : Fun K "_moves" "_moves" s_moves f fd)
    (G1 : FnOk P w K mg base CX0 k f1 fd1 ["line"] (spEmpty K C)) (kp1 : PySem.W.keepIn K (.ref f1) = true) (b1 : Binds K fd1 ["line"] []) (g1 : mg "_empty_state" = some (.ref f1))
    (G2 : FnOk P w K mg base CX0 k f2 fd2 ["state"] (spOpen K)) (kp2 : PySem.W.keepIn K (.ref f2) = true) (b2 : Binds K fd2 ["state"] []) (g2 : mg "_open_choices" = some (.ref f2))
    (G3 : FnOk P w K mg base CX0 k f3 fd3 ["line", "state", "choice"] (spBehind K C)) (kp3 : PySem.W.keepIn K (.ref f3) = true) (b3 : Binds K fd3 ["line", "state", "choice"] []) (g3 : mg "_behind" = some (.ref f3)) :
    FnOk P w K mg base CX0 (k + 1) f fd ["line"] (spMoves P w K C) := by
  refine F.ok sc_moves (fun vs H Q E h => ?_) (fun cdv A outer s H vs Q E hr h => ?_)
  · obtain ⟨a, ws, R, rfl, _⟩ := h; rfl
  · obtain ⟨a, ws, R, rfl, hL, hR, hN, q⟩ := h
    have hu := hr.units
    refine ⟨_, pss_cons (ps_set (i := 1) sc_moves.nd rfl (.inl rfl) (pe_nnewK (P := P) (w := w) rfl rfl))
      (pss_cons (ps_set (i := 2) sc_moves.nd rfl (.inl rfl) (pe_lst (pa_cons (pe_call G1 hr (by rfl) g1 kp1 b1 .nil pass0 (pa_cons (pv 0) pa_nil)) pa_nil)))
      (pss_cons (ps_while PassesOwn.never (pt_truth (pv 2) (by intro _; rfl))
        (pss_cons (ps_set (i := 3) sc_moves.nd rfl (.inr rfl) (pe_bm0 PySem.F.plainAttrs_list PySem.F.slot_list_pop PySem.F.type_list_pop mt_pop (pv 2)))
        (pss_one (ps_if (pt_cmp (pc_nnotinK (P := P) (w := w) rfl rfl hu (pv 3) (pv 1)))
          (pss_cons (ps_nputK (P := P) (w := w) rfl rfl hu (pv 1) (pv 3) (pe_lc (own := [("choice", 4)]) (g := gName 4) (tt := tYes) rfl sc_moves.nd (pi_tup (pe_call G2 hr (by rfl) g2 kp2 b2 .nil pass0 (pa_cons (pv 3) pa_nil))) (blkOk_by (N := movN) (sc := defScope s_moves) (by decide +kernel))
              (fun _ _ _ _ _ => pg_name (i := 4) sc_moves.nd rfl (Or.inl rfl)) (fun _ _ _ _ _ => pts_nil)
              (fun _ _ _ _ _ => pe_tup (pa_cons (pv 4) (pa_cons (pe_call G3 hr (by rfl) g3 kp3 b3 .nil pass0 (pa_cons (pv 0) (pa_cons (pv 3) (pa_cons (pv 4) pa_nil)))) pa_nil)))) (by rfl))
          (pss_one (ps_expr (pe_bm PySem.F.plainAttrs_list PySem.F.slot_list_extend PySem.F.type_list_extend mt_extend (pv 2) (pa_cons
              (pe_lc (own := [("_", 5), ("behind", 6)]) (g := gTup K 2 (gCons (gName 5) (gCons (gName 6) gNil))) (tt := tYes) rfl sc_moves.nd (pi_list (pe_ngetK (P := P) (w := w) rfl rfl hu (pv 1) (pv 3) (fun _ _ => rfl))) (blkOk_by (N := movN) (sc := defScope s_moves) (by decide +kernel))
                (fun _ _ _ _ _ => pg_tup rfl (pgs_cons (pg_name (i := 5) sc_moves.nd rfl (Or.inl rfl)) (pgs_cons (pg_name (i := 6) sc_moves.nd rfl (Or.inl rfl)) pgs_nil))) (fun _ _ _ _ _ => pts_nil)
                (fun _ _ _ _ _ => pv 6)) pa_nil))))) pss_nil))))
      (pss_one (ps_ret (pv 1))))), ?_⟩
    have big : 400000 ≤ sizeLine := by rw [sizeLine_eq]; decide
    have few := hL.good.few
    have R6 : R ≤ 60 := by rcases hN with ⟨_, h⟩ | ⟨_, h⟩ <;> omega
    refine fun Mv nM => ?_
    have e1 : Same H (L2.upd H Mv (DN P w Mv [])) := same_new nM
    have hM1 := upd_same (H := H) (a := Mv) (o := DN P w Mv [])
    have hL1 : LineAt K C (L2.upd H Mv (DN P w Mv [])) a ws := hL.stay (.of e1)
    generalize L2.upd H Mv (DN P w Mv []) = H1 at e1 hM1 hL1 ⊢
    refine ⟨.ref a, rfl, a, ws, rfl, hL1, fun H2 t0 e2 _ ht0 => ⟨by show 1 ≤ sizeLine; omega, fun W nW => ?_⟩⟩
    have e12 := e1.trans e2
    have e3 : Same H2 (L2.upd H2 W (.lst [.ref t0])) := same_new nW
    have hW3 := upd_same (H := H2) (a := W) (o := .lst [V.ref t0])
    have hM2 := e2 _ _ hM1
    have nMW : Mv ≠ W := ne_of_none hM2 nW
    have nWH : H W = none := freeS e12 nW
    have hM3 := e3 _ _ hM2
    have ht3 := ht0.same e3
    have e13 := e12.trans e3
    generalize L2.upd H2 W (.lst [.ref t0]) = H3 at e3 hW3 hM3 ht3 e13 ⊢
    refine ⟨fun m σ H' => ∃ v3 v4 v5 v6 rs wv Ls, σ = [some (.ref a), some (.ref Mv), some (.ref W), v3, v4, v5, v6] ∧ Same H H' ∧ H' Mv = some (DN P w Mv rs) ∧ RowsOk H' rs ws R ∧ H' W = some (.lst wv) ∧ StasAt H' wv Ls ∧ (∀ L ∈ Ls, FormL ws R L) ∧ MInv ws rs Ls ∧ wv.length + 4 * (32768 - rs.length) ≤ 200000 ∧ m = 5 * (32768 - rs.length) + wv.length,
      ⟨_, _, _, _, _, [], [.ref t0], [emptyL ws], rfl, e13, hM3, ⟨(fun r hr => nomatch hr), List.nodup_nil⟩, hW3, .cons ⟨t0, rfl, ht3⟩ .nil, fun L h => by rw [List.mem_singleton.mp h]; exact FormL.empty ws R, ⟨.inr (List.mem_singleton.mpr rfl), (fun L c ⟨r, hr, _⟩ => nomatch hr)⟩, by show 1 + 4 * 32768 ≤ 200000; decide, rfl⟩, ?_⟩
    rintro m σ H4 ⟨v3, v4, v5, v6, rs, wv, Ls, rfl, e4, hM4, hrs, hW4, hLs, hfs, hinv, hmax, rfl⟩
    have rfew := hrs.few hN
    refine ⟨.ref W, rfl, !wv.isEmpty, .inl ⟨wv, .of hW4, rfl⟩, ?_⟩
    rcases hwv : wv with _ | ⟨u0, ur⟩
    · refine iteF ⟨.ref Mv, rfl, q H4 Mv rs e4 hM4 hrs fun L hRc => ?_⟩
      have l0 : Ls = [] := List.eq_nil_of_length_eq_zero (by rw [← hLs.len, hwv]; rfl)
      refine hRc.closed (HasL rs) ?_ fun L c hL hc => ?_
      · exact hinv.first.resolve_right (by rw [l0]; exact fun z => nomatch z)
      · exact (hinv.closed L c hL hc).resolve_right (by rw [l0]; exact fun z => nomatch z)
    · rw [← hwv, show (!wv.isEmpty) = true from by rw [hwv]; rfl]
      refine iteT ?_
      have wne : wv ≠ [] := by rw [hwv]; exact List.cons_ne_nil _ _
      obtain ⟨ms, b, L, eLs, hlast, hbL, hms⟩ := hLs.pop wne
      have hFL := hfs L (by rw [eLs]; exact List.mem_append.mpr (.inr (List.mem_singleton.mpr rfl)))
      have hdl : wv.dropLast.length = wv.length - 1 := List.length_dropLast
      have wpos : 0 < wv.length := List.length_pos_iff.mpr wne
      refine ⟨fun σ' H' => ∃ v3 v4 v5 v6 rs' wv' Ls', σ' = [some (.ref a), some (.ref Mv), some (.ref W), v3, v4, v5, v6] ∧ Same H H' ∧ H' Mv = some (DN P w Mv rs') ∧ RowsOk H' rs' ws R ∧ H' W = some (.lst wv') ∧ StasAt H' wv' Ls' ∧ (∀ L ∈ Ls', FormL ws R L) ∧ MInv ws rs' Ls' ∧ wv'.length + 4 * (32768 - rs'.length) ≤ 200000 ∧ 5 * (32768 - rs'.length) + wv'.length < 5 * (32768 - rs.length) + wv.length,
        fun σ' H' ⟨v3, v4, v5, v6, rs', wv', Ls', z1, z2, z3, z4, z5, z6, z7, z8, z9, z10⟩ => ⟨_, z10, v3, v4, v5, v6, rs', wv', Ls', z1, z2, z3, z4, z5, z6, z7, z8, z9, rfl⟩, ?_⟩
      refine ⟨.ref W, rfl, .inl ⟨rfl, _, .of hW4⟩, W, wv, .ref b, rfl, rfl, hW4, hlast, ?_⟩
      have keepT : ∀ c us, H4 c = some (.tup us) → (L2.upd H4 W (.lst wv.dropLast)) c = some (.tup us) := fun c us z => by
        rw [upd_ne (ne_of z hW4 (fun c => nomatch c))]; exact z
      have e5 : Same H (L2.upd H4 W (.lst wv.dropLast)) := fun c o z => by
        rw [upd_ne (ne_of_none z nWH)]; exact e4 _ _ z
      have hM5 : (L2.upd H4 W (.lst wv.dropLast)) Mv = some (DN P w Mv rs) := by rw [upd_ne nMW]; exact hM4
      have hW5 := upd_same (H := H4) (a := W) (o := .lst wv.dropLast)
      have hrs5 := hrs.keep keepT
      have hb5 := hbL.keep keepT
      have hms5 := hms.keep keepT
      generalize L2.upd H4 W (.lst wv.dropLast) = H5 at keepT e5 hM5 hW5 hrs5 hb5 hms5 ⊢
      refine ⟨.ref b, rfl, .ref Mv, rfl, Mv, b, nk L, rs, rfl, rfl, ⟨hM5, hrs5.keys, hb5.key, nk_deep L⟩, _, rfl, ?_⟩
      by_cases hin : HasL rs L
      · rw [atN_some.mpr hin]
        refine iteF ⟨_, _, _, _, rs, wv.dropLast, ms, rfl, e5, hM5, hrs5, hW5, hms5, fun L' h => hfs L' (by rw [eLs]; exact List.mem_append.mpr (.inl h)), ⟨?_, fun L' c h1 h2 => ?_⟩, by omega, by omega⟩
        · rcases hinv.first with h | h
          · exact .inl h
          · rw [eLs] at h
            rcases List.mem_append.mp h with h | h
            · exact .inr h
            · rw [List.mem_singleton.mp h]; exact .inl hin
        · rcases hinv.closed L' c h1 h2 with h | h
          · exact .inl h
          · rw [eLs] at h
            rcases List.mem_append.mp h with h | h
            · exact .inr h
            · rw [List.mem_singleton.mp h]; exact .inl hin
      · rw [atN_none hin]
        refine iteT ?_
        refine ⟨.ref b, rfl, b, ws, L, R, rfl, hb5, hFL, R6, few, fun H6 tc e6 _ htc => ⟨tc, rfl, ⟨_, .inl (.inl htc)⟩, fun G nG => ?_⟩⟩
        have e56 := e5.trans e6
        have nGH : H G = none := freeS e56 nG
        have lch := chs_len (ws := ws) (L := L)
        refine lc_tup (xs := chV (openL ws L)) (fun i H' => Same H6 H' ∧ ∃ gs, H' G = some (.lst gs) ∧ PairsAt H' ws L gs ((chs ws L).take i) ∧ gs.length = i) ⟨same_new nG, [], upd_same, .nil, rfl⟩ (fun i H' _ h => .inl (.inl (h.1 _ _ htc))) (fun i y H' hy h => ?_) (fun H7 h => ?_)
        · obtain ⟨e7, gs, hG7, hP7, lg⟩ := h
          rw [chV_chs, List.getElem?_map] at hy
          obtain ⟨c, hc, rfl⟩ := Option.map_eq_some_iff.mp hy
          have hil := (List.getElem?_eq_some_iff.mp hc).1
          have hcan := chs_can.mp (List.mem_of_getElem? hc)
          refine ⟨rfl, .int (chI c), rfl, .ref a, rfl, .ref b, rfl, .int (chI c), rfl, a, b, ws, L, c, R, rfl, hL.stay (.of (e56.trans e7)), hb5.same (e6.trans e7), hR, R6, hFL, hcan.lt, fun H8 t8 e8 _ ht8 => ⟨by show 2 ≤ sizeLine; omega, fun T nT => ?_⟩⟩
          have hG8 := e8 _ _ hG7
          have eT := same_new (o := .tup [V.int (chI c), .ref t8]) nT
          have hT9 := upd_same (H := H8) (a := T) (o := .tup [V.int (chI c), .ref t8])
          generalize L2.upd H8 T (.tup [V.int (chI c), .ref t8]) = H9 at eT hT9 ⊢
          have hG9 := eT _ _ hG8
          have keep9 : ∀ c us, H9 c = some (.tup us) → (L2.upd H9 G (.lst (gs ++ [.ref T]))) c = some (.tup us) := fun c us z => by
            rw [upd_ne (ne_of z hG9 (fun c => nomatch c))]; exact z
          refine ⟨gs, hG9, by rw [lg]; omega, fun x o z => ?_, gs ++ [.ref T], upd_same, ?_, by rw [List.length_append, lg]; rfl⟩
          · rw [upd_ne (ne_of_none z nG)]
            exact eT _ _ (e8 _ _ (e7 _ _ z))
          · rw [List.take_add_one, hc]
            exact Paired.snoc ((hP7.keep fun _ _ z => eT _ _ (e8 _ _ z)).keep keep9) ⟨T, t8, rfl, keep9 _ _ hT9, (ht8.same eT).keep keep9⟩
        · obtain ⟨e7, gs, hG7, hP7, lg⟩ := h
          rw [chV_chs, List.length_map] at hP7 lg
          rw [List.take_length] at hP7
          have e57 := e6.trans e7
          have eH7 := e5.trans e57
          have hM7 := e57 _ _ hM5
          have hW7 := e57 _ _ hW5
          have hrs7 := hrs5.keep fun _ _ z => e57 _ _ z
          have hb7 := hb5.same e57
          have hms7 := hms5.keep fun _ _ z => e57 _ _ z
          refine ⟨.ref Mv, rfl, .ref b, rfl, Mv, b, nk L, rs, rfl, rfl, ⟨hM7, hrs7.keys, hb7.key, nk_deep L⟩, by omega, ?_⟩
          rw [storeN_new (atN_none hin)]
          have nMG : Mv ≠ G := ne_of_none (e6 _ _ hM5) nG
          have nWG : W ≠ G := ne_of_none (e6 _ _ hW5) nG
          have keep8 : ∀ c us, H7 c = some (.tup us) → (L2.upd H7 Mv (DN P w Mv (rs ++ [(nk L, b, .ref G)]))) c = some (.tup us) := fun c us z => by
            rw [upd_ne (ne_of z hM7 (fun c => nomatch c))]; exact z
          have e8 : Same H (L2.upd H7 Mv (DN P w Mv (rs ++ [(nk L, b, .ref G)]))) := fun c o z => by
            rw [upd_ne (ne_of_none z nM)]; exact eH7 _ _ z
          have hM8 := upd_same (H := H7) (a := Mv) (o := DN P w Mv (rs ++ [(nk L, b, .ref G)]))
          have hW8 : (L2.upd H7 Mv (DN P w Mv (rs ++ [(nk L, b, .ref G)]))) W = some (.lst wv.dropLast) := by rw [upd_ne nMW.symm]; exact hW7
          have hG8 : (L2.upd H7 Mv (DN P w Mv (rs ++ [(nk L, b, .ref G)]))) G = some (.lst gs) := by rw [upd_ne nMG.symm]; exact hG7
          have hb8 := hb7.keep keep8
          have hrs8 := (hrs7.keep keep8).add (v := .ref G) hb8 hFL hin
          have hms8 := hms7.keep keep8
          have hP8 := hP7.keep keep8
          generalize L2.upd H7 Mv (DN P w Mv (rs ++ [(nk L, b, .ref G)])) = H8 at keep8 e8 hM8 hW8 hG8 hb8 hrs8 hms8 hP8 ⊢
          have rfew8 := hrs8.few hN
          rw [List.length_append] at rfew8
          have rfew8 : rs.length + 1 ≤ 32768 := rfew8
          have hat : atN (rs ++ [(nk L, b, V.ref G)]) (nk L) = some (.ref G) := by
            have h0 : rs.find? (fun r => decide (r.1 = nk L)) = none := by
              have := atN_none hin
              unfold atN at this
              exact Option.map_eq_none_iff.mp this
            unfold atN
            rw [List.find?_append, h0, Option.none_or, show [(nk L, b, V.ref G)].find? (fun r => decide (r.1 = nk L)) = some (nk L, b, V.ref G) from List.find?_cons_of_pos (decide_eq_true rfl)]
            rfl
          refine ⟨.ref W, rfl, .inl ⟨rfl, _, .of hW8⟩, .ref Mv, rfl, .ref b, rfl, Mv, b, nk L, _, .ref G, rfl, rfl, ⟨hM8, hrs8.keys, hb8.key, nk_deep L⟩, hat, G, rfl, ⟨_, .of hG8⟩, fun D nD => ?_⟩
          have nWD : W ≠ D := ne_of_none hW8 nD
          refine lc_list (K := K) (a := G) (xs := gs) (fun i H' => Same H8 H' ∧ ∃ ds, H' D = some (.lst ds) ∧ StasAt H' ds (((chs ws L).take i).map (nextL ws L)) ∧ ds.length = i) ⟨same_new nD, [], upd_same, .nil, rfl⟩ (fun i H' _ h => .of (h.1 _ _ hG8)) (fun i y H' hy h => ?_) (fun H9 h => ?_)
          · obtain ⟨e9, ds, hD9, hS9, ld⟩ := h
            obtain ⟨t, bb, c, hc, rfl, ht, hbb⟩ := hP8.at hy
            have hil := (List.getElem?_eq_some_iff.mp hc).1
            refine ⟨t, _, rfl, .of (e9 _ _ ht), rfl, _, _, rfl, _, _, rfl, rfl, rfl, .ref bb, rfl, ds, hD9, by rw [ld]; omega, fun x o z => ?_, ds ++ [.ref bb], upd_same, ?_, by rw [List.length_append, ld]; rfl⟩
            · rw [upd_ne (ne_of_none z nD)]
              exact e9 _ _ z
            · have keepD : ∀ c us, H' c = some (.tup us) → (L2.upd H' D (.lst (ds ++ [.ref bb]))) c = some (.tup us) := fun c us z => by
                rw [upd_ne (ne_of z hD9 (fun c => nomatch c))]; exact z
              rw [List.take_add_one, hc, List.map_append]
              exact (hS9.keep keepD).add ((hbb.same e9).keep keepD)
          · obtain ⟨e9, ds, hD9, hS9, ld⟩ := h
            rw [lg] at hS9 ld
            rw [List.take_length] at hS9
            have hW9 := e9 _ _ hW8
            refine ⟨W, D, wv.dropLast, ds, rfl, rfl, hW9, hD9, by omega, ?_⟩
            have keepW : ∀ c us, H9 c = some (.tup us) → (L2.upd H9 W (.lst (wv.dropLast ++ ds))) c = some (.tup us) := fun c us z => by
              rw [upd_ne (ne_of z hW9 (fun c => nomatch c))]; exact z
            refine ⟨_, _, _, _, _, wv.dropLast ++ ds, ms ++ (chs ws L).map (nextL ws L), rfl, fun c o z => ?_, ?_, (hrs8.keep fun _ _ z => e9 _ _ z).keep keepW, upd_same, ((hms8.keep fun _ _ z => e9 _ _ z).app hS9).keep keepW, fun L' h => ?_, ⟨?_, fun L' c h1 h2 => ?_⟩, ?_, ?_⟩
            · rw [upd_ne (ne_of_none z nWH)]
              exact e9 _ _ (e8 _ _ z)
            · rw [upd_ne nMW]; exact e9 _ _ hM8
            · rcases List.mem_append.mp h with h | h
              · exact hfs L' (by rw [eLs]; exact List.mem_append.mpr (.inl h))
              · obtain ⟨c, _, rfl⟩ := List.mem_map.mp h
                exact hFL.next hR c
            · rcases hinv.first with ⟨r, hr, e⟩ | h
              · exact .inl ⟨r, List.mem_append.mpr (.inl hr), e⟩
              · rw [eLs] at h
                rcases List.mem_append.mp h with h | h
                · exact .inr (List.mem_append.mpr (.inl h))
                · rw [List.mem_singleton.mp h]
                  exact .inl ⟨_, List.mem_append.mpr (.inr (List.mem_singleton.mpr rfl)), rfl⟩
            · obtain ⟨r, hr, e⟩ := h1
              rcases List.mem_append.mp hr with hr | hr
              · rcases hinv.closed L' c ⟨r, hr, e⟩ h2 with ⟨r', hr', e'⟩ | h
                · exact .inl ⟨r', List.mem_append.mpr (.inl hr'), e'⟩
                · rw [eLs] at h
                  rcases List.mem_append.mp h with h | h
                  · exact .inr (List.mem_append.mpr (.inl h))
                  · rw [List.mem_singleton.mp h]
                    exact .inl ⟨_, List.mem_append.mpr (.inr (List.mem_singleton.mpr rfl)), rfl⟩
              · rw [List.mem_singleton.mp hr] at e
                obtain rfl := nk_inj e
                exact .inr (List.mem_append.mpr (.inr (List.mem_map.mpr ⟨c, chs_can.mpr h2, rfl⟩)))
            · rw [List.length_append, List.length_append]
              show _ + 4 * (32768 - (rs.length + 1)) ≤ _
              omega
            · rw [List.length_append, List.length_append]
              show 5 * (32768 - (rs.length + 1)) + _ < _
              omega
end
end Sg

set_option Elab.async false
set_option linter.all false
set_option maxRecDepth 100000
set_option maxHeartbeats 4000000
namespace Sg
open PySem PySem.Spec PyProof.Rows L2 StX
/-! ## the reach -/
structure Reach (ws : List (List Int)) (R : Nat) : Prop where
  top : ∀ r, Top (allB ws ws) r → r = (R : Int)
  rea : Rea ws R
theorem max_key : ∀ (l : List Int) (a : Int), (l.foldl max a = a ∨ l.foldl max a ∈ l) ∧ a ≤ l.foldl max a ∧ ∀ x ∈ l, x ≤ l.foldl max a
  | [], a => ⟨.inl rfl, Int.le_refl _, fun x hx => nomatch hx⟩
  | b :: l, a => by
    obtain ⟨g1, g2, g3⟩ := max_key l (max a b)
    refine ⟨?_, by show a ≤ l.foldl max (max a b); omega, fun x hx => ?_⟩
    · show l.foldl max (max a b) = a ∨ l.foldl max (max a b) ∈ b :: l
      rcases g1 with g | g
      · rcases Int.le_total a b with z | z
        · right; rw [g, Int.max_eq_right z]; exact List.mem_cons_self
        · left; rw [g, Int.max_eq_left z]
      · exact .inr (List.mem_cons_of_mem _ g)
    · show x ≤ l.foldl max (max a b)
      rcases List.mem_cons.mp hx with rfl | z
      · omega
      · exact g3 x z
theorem top_is (l : List Int) : Top l (l.foldl max 0) := by
  obtain ⟨g1, g2, g3⟩ := max_key l 0
  exact ⟨g2, g3, g1⟩
theorem wkS_some {ws : List (List Int)} {o : Nat} {b : Nat} {x : List Int} (h : b ∈ barsN (wkS ws o) x) : ∃ y, ws[o]? = some y ∧ wkS ws o = y := by
  rcases e : ws[o]? with _ | y
  · have : wkS ws o = [] := by unfold wkS; rw [List.getD_eq_getElem?_getD, e]; rfl
    rw [this] at h
    exact nomatch h
  · exact ⟨y, rfl, by unfold wkS; rw [List.getD_eq_getElem?_getD, e]; rfl⟩
theorem bars_all {ws : List (List Int)} {o k b : Nat} (h : b ∈ barsN (wkS ws o) (wkS ws k)) : ((b : Nat) : Int) ∈ allB ws ws := by
  obtain ⟨y, hy, ey⟩ := wkS_some h
  have hz : ∃ z, ws[k]? = some z ∧ wkS ws k = z := by
    rcases e : ws[k]? with _ | z
    · have e0 : wkS ws k = [] := by unfold wkS; rw [List.getD_eq_getElem?_getD, e]; rfl
      rw [e0] at h
      have hc := (List.mem_filter.mp h).2
      obtain ⟨j, x, _, h2, _⟩ := clashB_iff.mp hc
      exact nomatch h2
    · exact ⟨z, rfl, by unfold wkS; rw [List.getD_eq_getElem?_getD, e]; rfl⟩
  obtain ⟨z, hz, ez⟩ := hz
  rw [ey, ez] at h
  unfold allB
  refine List.mem_flatMap.mpr ⟨y, List.mem_of_getElem? hy, ?_⟩
  unfold rowB
  exact List.mem_flatMap.mpr ⟨z, List.mem_of_getElem? hz, List.mem_map.mpr ⟨b, h, rfl⟩⟩
theorem exists_reach (ws : List (List Int)) : ∃ R, Reach ws R := by
  have h := top_is (allB ws ws)
  refine ⟨((allB ws ws).foldl max 0).toNat, fun r hr => ?_, fun o k b hb => ?_⟩
  · rw [Int.toNat_of_nonneg h.pos]
    exact hr.uniq h fun _ => Iff.rfl
  · have := h.le _ (bars_all hb)
    omega
section
variable {P : Program} {w : World} {K : PySem.W.Frag} {mg : Str → Option Value} {base : Heap}
/-! ### require_near -/
def spReqNear (K : PySem.W.Frag) (C : Addr) : Sp := fun vs H Q _ => ∃ (a : Addr) (ws : List (List Int)) (R : Nat), vs = [.ref a, .int 8, .int 5] ∧ LineAt K C H a ws ∧ Reach ws R ∧ NearR ws.length R ∧ Q .non H
theorem ok_require_near {f f1 C : Addr} {fd fd1 : FuncData} {k : Nat} {dvs : List V} {kws : List (Str × V)} (F : FunD K "require_near" "require_near" (defArgs s_require_near) (defBody s_require_near) (defScope s_require_near) dvs kws f fd) (M : Meths P w K mg base k C)
    (G1 : FnOk P w K mg base CX0 (k + 2) f1 fd1 ["thing"] (spReqLine K C)) (kp1 : PySem.W.keepIn K (.ref f1) = true) (b1 : Binds K fd1 ["thing"] []) (g1 : mg "require_line" = some (.ref f1)) (m1 : mg "len" = none) :
    FnOk P w K mg base CX0 (k + 3) f fd ["line", "of_one", "of_several"] (spReqNear K C) := by
  refine F.ok sc_require_near (fun vs H Q E h => ?_) (fun cdv A outer s H vs Q E hr h => ?_)
  · obtain ⟨a, ws, R, rfl, _⟩ := h; rfl
  · obtain ⟨a, ws, R, rfl, hL, hR, hN, q⟩ := h
    refine ⟨_, pss_cons (ps_expr (pe_call G1 hr (by rfl) g1 kp1 b1 .nil pass0 (pa_cons (pv 0) pa_nil)))
      (pss_cons (ps_set (i := 3) sc_require_near.nd rfl (.inl rfl) (pe_ifExp (pt_cmpR op_eq (pe_callB (cLenK (K := K) M rfl hr) (by rfl) m1 PySem.boot_len (pa_cons (pv 0) pa_nil)) pe_int (nomark _)) (pv 1) (pv 2)))
      (pss_one (ps_if (pt_cmpR op_gt (M.pReach (K := K) rfl hr (pv 0)) (pv 3) (nomark _)) (pss_one ps_never) pss_nil))), ?_⟩
    have few := hL.good.few
    refine ⟨.ref a, rfl, a, _, rfl, hL, .ref a, rfl, a, _, rfl, hL, rfl, _, rfl, ite2 (fun e => ?_) (fun e => ?_)⟩
    · refine ⟨.int 8, rfl, .ref a, rfl, a, _, rfl, hL, fun r hr => ⟨.int 8, rfl, _, _, rfl, rfl, _, rfl, ite2 (fun e2 => ?_) (fun _ => q)⟩⟩
      have h8 := of_decide_eq_true e2
      have := hR.top r hr
      rcases hN with ⟨_, h⟩ | ⟨_, h⟩ <;> omega
    · have n1 : ws.length ≠ 1 := fun z => e (decide_eq_true (by rw [z]; rfl))
      refine ⟨.int 5, rfl, .ref a, rfl, a, _, rfl, hL, fun r hr => ⟨.int 5, rfl, _, _, rfl, rfl, _, rfl, ite2 (fun e2 => ?_) (fun _ => q)⟩⟩
      have h8 := of_decide_eq_true e2
      have := hR.top r hr
      rcases hN with ⟨h, _⟩ | ⟨_, h⟩
      · exact absurd h n1
      · omega
/-! ### states -/
theorem rows_list {H : Hp} {ws : List (List Int)} {R : Nat} : ∀ {rs : List Row}, (∀ r ∈ rs, ∃ L, r.1 = nk L ∧ StaAt H r.2.1 L ∧ FormL ws R L) → ∃ Ls, StasAt H (rs.map fun r => V.ref r.2.1) Ls ∧ (∀ L, HasL rs L → L ∈ Ls) ∧ ∀ L ∈ Ls, FormL ws R L
  | [], _ => ⟨[], .nil, (fun L ⟨r, hr, _⟩ => nomatch hr), fun L h => nomatch h⟩
  | r :: rs, h => by
    obtain ⟨Ls, h1, h2, h3⟩ := rows_list (rs := rs) fun x hx => h x (List.mem_cons_of_mem _ hx)
    obtain ⟨L, g1, g2, g3⟩ := h r List.mem_cons_self
    refine ⟨L :: Ls, .cons ⟨_, rfl, g2⟩ h1, fun M ⟨x, hx, e⟩ => ?_, fun M hM => ?_⟩
    · rcases List.mem_cons.mp hx with rfl | hx
      · rw [nk_inj (g1.symm.trans e)]; exact List.mem_cons_self
      · exact List.mem_cons_of_mem _ (h2 M ⟨x, hx, e⟩)
    · rcases List.mem_cons.mp hM with rfl | hM
      · exact g3
      · exact h3 M hM
theorem StasAt.dp {H : Hp} {K : PySem.W.Frag} {us : List V} {Ls : List Sta} (h : StasAt H us Ls) : DpAll K H us (Ls.map sD) := by
  unfold StasAt at h
  induction h with
  | nil => exact .nil
  | cons a r ih =>
    obtain ⟨b, rfl, hb⟩ := a
    exact .cons hb.dp ih
theorem alike_tDs : ∀ (xs ys : List (List Int)), PySem.W.alikeAll (tDs xs) (tDs ys) = true
  | [], _ => by simp [PySem.W.alikeAll]
  | _ :: _, [] => by simp [PySem.W.alikeAll]
  | x :: xs, y :: ys => by
    show PySem.W.alikeAll (tD x :: tDs xs) (tD y :: tDs ys) = true
    rw [PySem.W.alikeAll, alike_tDs xs ys]
    show (PySem.W.alike (.tuple (iD x)) (.tuple (iD y)) && true) = true
    rw [PySem.W.alike, PySem.W.alike_ints]; rfl
theorem depth_sD (L : Sta) : (sD L).depth ≤ 2 := by
  show PyData.depth (.tuple (tDs _)) ≤ 2
  rw [PyData.depth]
  have := dep_tDs (L.map nI)
  omega
theorem stas_of {H : Hp} {Ls : List Sta} : ∀ (bs : List (V × PyData)), (∀ x ∈ bs, ∃ b L, x.1 = .ref b ∧ StaAt H b L ∧ x.2 = sD L ∧ L ∈ Ls) → ∃ Ms, StasAt H (bs.map (·.1)) Ms ∧ bs.map (·.2) = Ms.map sD ∧ ∀ M ∈ Ms, M ∈ Ls
  | [], _ => ⟨[], .nil, rfl, fun M h => nomatch h⟩
  | x :: bs, h => by
    obtain ⟨Ms, h1, h2, h3⟩ := stas_of bs fun y hy => h y (List.mem_cons_of_mem _ hy)
    obtain ⟨b, L, g1, g2, g3, g4⟩ := h x List.mem_cons_self
    refine ⟨L :: Ms, .cons ⟨b, g1, g2⟩ h1, by rw [List.map_cons, List.map_cons, g3, h2], fun M hM => ?_⟩
    rcases List.mem_cons.mp hM with rfl | hM
    · exact g4
    · exact h3 M hM
theorem sD_inj {L M : Sta} (h : sD L = sD M) : L = M := by
  have := eqv_sD L M
  rw [h, eqv_sD, decide_eq_true rfl] at this
  exact of_decide_eq_true this.symm
theorem zip_stas {H : Hp} {us : List V} {Ls : List Sta} (h : StasAt H us Ls) : ∀ x ∈ us.zip (Ls.map sD), ∃ b L, x.1 = .ref b ∧ StaAt H b L ∧ x.2 = sD L ∧ L ∈ Ls := by
  unfold StasAt at h
  induction h with
  | nil => intro x hx; exact nomatch hx
  | @cons v r vs rs a t ih =>
    intro x hx
    obtain ⟨b, rfl, hb⟩ := a
    rcases List.mem_cons.mp hx with rfl | hx
    · exact ⟨b, r, rfl, hb, rfl, List.mem_cons_self⟩
    · obtain ⟨b', L, g1, g2, g3, g4⟩ := ih x hx
      exact ⟨b', L, g1, g2, g3, List.mem_cons_of_mem _ g4⟩
def spStates (K : PySem.W.Frag) (C : Addr) : Sp := fun vs H Q _ => ∃ (a : Addr) (ws : List (List Int)) (R : Nat), vs = [.ref a] ∧ LineAt K C H a ws ∧ Reach ws R ∧ NearR ws.length R ∧
  ∀ H' t us Ls, Same H H' → H' t = some (.tup us) → StasAt H' us Ls → (∀ L, Rchd ws L → L ∈ Ls) → (∀ L ∈ Ls, FormL ws R L) → Ls.length ≤ 32768 → Q (.ref t) H'
theorem ok_states {f f1 f2 C : Addr} {fd fd1 fd2 : FuncData} {k : Nat} {ds : List Value} (F : Fun K "states" "states" s_states f fd)
    (G1 : FnOk P w K mg base CX0 k f1 fd1 ["line", "of_one", "of_several"] (spReqNear K C)) (kp1 : PySem.W.keepIn K (.ref f1) = true) (b1 : Vals [.int 8, .int 5] ds ∧ Binds K fd1 ["line", "of_one", "of_several"] ds) (g1 : mg "require_near" = some (.ref f1))
    (G2 : FnOk P w K mg base CX0 k f2 fd2 ["line"] (spMoves P w K C)) (kp2 : PySem.W.keepIn K (.ref f2) = true) (b2 : Binds K fd2 ["line"] []) (g2 : mg "_moves" = some (.ref f2))
    (m1 : mg "tuple" = none) (m2 : mg "sorted" = none) (m3 : mg "list" = none) : FnOk P w K mg base CX0 (k + 1) f fd ["line"] (spStates K C) := by
  refine F.ok sc_states (fun vs H Q E h => ?_) (fun cdv A outer s H vs Q E hr h => ?_)
  · obtain ⟨a, ws, R, rfl, _⟩ := h; rfl
  · obtain ⟨a, ws, R, rfl, hL, hR, hN, q⟩ := h
    refine ⟨_, pss_cons (ps_expr (pe_call G1 hr (by rfl) g1 kp1 b1.2 b1.1 pass0 (pa_cons (pv 0) pa_nil)))
      (pss_one (ps_ret (pe_callTy call_tuple_of (by rfl) m1 (by decide +kernel) (pa_cons (pe_callB (cr_sortedD hr) (by rfl) m2 (by decide +kernel) (pa_cons
        (pe_callTy (cr_listNK (P := P) (w := w) rfl rfl rfl) (by rfl) m3 (by decide +kernel) (pa_cons (pe_call G2 hr (by rfl) g2 kp2 b2 .nil pass0 (pa_cons (pv 0) pa_nil)) pa_nil)) pa_nil)) pa_nil)))), ?_⟩
    refine ⟨.ref a, rfl, a, ws, R, rfl, hL, hR, hN, .ref a, rfl, a, ws, R, rfl, hL, hR.rea, hN, fun H1 m rs e1 hm hrs hall => ?_⟩
    refine ⟨m, rs, rfl, hm, hrs.keys, fun p np => ?_⟩
    have few := hrs.few hN
    have e2 := same_new (o := .lst (rs.map fun r => V.ref r.2.1)) np
    have hp2 := upd_same (H := H1) (a := p) (o := .lst (rs.map fun r => V.ref r.2.1))
    have hrs2 := hrs.keep fun _ _ z => e2 _ _ z
    have e12 := e1.trans e2
    generalize L2.upd H1 p (.lst (rs.map fun r => V.ref r.2.1)) = H2 at e2 hp2 hrs2 e12 ⊢
    obtain ⟨Ls, hS, hin, hF⟩ := rows_list hrs2.row
    have lLs : Ls.length = rs.length := by rw [← hS.len, List.length_map]
    have pos : 1 ≤ ws.length := hL.good.least
    refine ⟨p, _, Ls.map sD, rfl, .of hp2, hS.dp, PySem.W.AllAlike.of fun L M => ?_, .inl fun d hd => ?_, fun d hd => ?_, fun bs r eb nr => ?_⟩
    · show PySem.W.alike (.tuple (tDs _)) (.tuple (tDs _)) = true
      rw [PySem.W.alike, alike_tDs]
    · obtain ⟨L, hL2, rfl⟩ := List.mem_map.mp hd
      have := (hF L hL2).len
      rcases L with _ | ⟨x, r⟩
      · exact absurd this (by rw [List.length_nil]; omega)
      · exact ⟨_, _, rfl⟩
    · obtain ⟨L, _, rfl⟩ := List.mem_map.mp hd
      have := depth_sD L
      omega
    · have hperm : bs.Perm ((rs.map fun r => V.ref r.2.1).zip (Ls.map sD)) := by rw [eb]; exact List.mergeSort_perm _ _
      have e3 := same_new (o := .lst (bs.map (·.1))) nr
      obtain ⟨Ms, h1, h2, h3⟩ := stas_of bs fun x hx => zip_stas hS x (hperm.mem_iff.mp hx)
      refine ⟨r, _, rfl, .inl ⟨.of upd_same, fun t nt => ?_⟩⟩
      have e4 := same_new (o := .tup (bs.map (·.1))) nt
      have hz : ((rs.map fun r => V.ref r.2.1).zip (Ls.map sD)).map (·.2) = Ls.map sD := zip_snd (by rw [List.length_map, List.length_map, lLs])
      refine q _ t _ Ms ((e12.trans e3).trans e4) upd_same ((h1.keep fun _ _ z => e3 _ _ z).keep fun _ _ z => e4 _ _ z) (fun L hRc => ?_) (fun L h => hF L (h3 L h)) ?_
      · have h5 : sD L ∈ bs.map (·.2) := by
          have := (hperm.map (·.2)).mem_iff (a := sD L)
          rw [hz] at this
          exact this.mpr (List.mem_map.mpr ⟨L, hin L (hall L hRc), rfl⟩)
        rw [h2] at h5
        obtain ⟨M, hM, e⟩ := List.mem_map.mp h5
        rw [← sD_inj e]; exact hM
      · have h5 := h1.len
        have h6 := hperm.length_eq
        rw [List.length_map] at h5
        rw [List.length_zip, List.length_map, List.length_map] at h6
        omega
end
end Sg

set_option Elab.async false
set_option linter.all false
set_option maxRecDepth 100000
set_option maxHeartbeats 4000000
namespace Sg
open PySem PySem.Spec PyProof.Rows L2 StX
section
variable {P : Program} {w : World} {K : PySem.W.Frag} {mg : Str → Option Value} {base : Heap}
theorem all_true {n : Nat} : (List.replicate n true).all id = true := by rw [List.all_eq_true]; intro y hy; exact (List.mem_replicate.mp hy).2
/-! ### _is_form_of_delays -/
def spIsForm (K : PySem.W.Frag) (C : Addr) : Sp := fun vs H Q _ => ∃ (a c : Addr) (ws : List (List Int)) (R : Nat) (r : List Nat), vs = [.ref a, .ref c] ∧ LineAt K C H a ws ∧ Reach ws R ∧ H c = some (.tup (nV r)) ∧ r.length ≤ R ∧ R ≤ 60 ∧ ∀ H', Same H H' → Q (.bl true) H'
theorem ok_is_form {f f1 C : Addr} {fd fd1 : FuncData} {k : Nat} (F : Fun K "_is_form_of_delays" "_is_form_of_delays" s_is_form_of_delays f fd) (M : Meths P w K mg base k C)
    (G1 : FnOk P w K mg base CX0 (k + 2) f1 fd1 ["thing"] spIsInt) (kp1 : PySem.W.keepIn K (.ref f1) = true) (b1 : Binds K fd1 ["thing"] []) (g1 : mg "is_int" = some (.ref f1))
    (m1 : mg "isinstance" = none) (m2 : mg "tuple" = none) (m3 : mg "len" = none) (m4 : mg "all" = none) : FnOk P w K mg base CX0 (k + 3) f fd ["line", "thing"] (spIsForm K C) := by
  refine F.ok sc_is_form_of_delays (fun vs H Q E h => ?_) (fun cdv A outer s H vs Q E hr h => ?_)
  · obtain ⟨a, c, ws, R, r, rfl, _⟩ := h; rfl
  · obtain ⟨a, c, ws, R, r, rfl, hL, hR, hc, lr, R6, q⟩ := h
    refine ⟨_, pss_cons (ps_if (PW.pt (pw_or (pt_not (pt_val (pe_callB call_isi (by rfl) m1 (by decide +kernel) (pa_cons (pv 1) (pa_cons (pe_bltn (v := .ty "tuple") (by rfl) m2 (by decide +kernel) rfl) pa_nil)))))
          (pw_or1 (pt_cmpR op_gt (pe_callB call_len_seq (by rfl) m3 PySem.boot_len (pa_cons (pv 1) pa_nil)) (M.pReach (K := K) rfl hr (pv 0)) (nomark _)))))
        (pss_one (ps_ret pe_bl)) pss_nil)
      (pss_one (ps_ret (pe_callB (cr_all rfl) (by rfl) m4 (by decide +kernel) (pa_cons
          (pe_lc (own := [("delay", 2)]) (g := gName 2) (tt := tYes) rfl sc_is_form_of_delays.nd (pi_tup (pv 1)) (blkOk_by (N := ["line", "thing", "delay"]) (sc := defScope s_is_form_of_delays) (by decide +kernel))
            (fun _ _ _ _ _ => pg_name (i := 2) sc_is_form_of_delays.nd rfl (Or.inl rfl)) (fun _ _ _ _ _ => pts_nil)
            (fun _ _ _ _ _ => pe_call G1 hr (by rfl) g1 kp1 b1 .nil pass0 (pa_cons (pv 2) pa_nil))) pa_nil)))), ?_⟩
    have hS : SqT K H c (nV r) := .inl (.inl hc)
    refine ⟨.ref c, rfl, .ref c, .ty "tuple", _, _, true, rfl, .ty _, tyT hS, kit_ty (by decide +kernel), true, rfl, iteF ?_⟩
    refine ⟨.ref c, rfl, c, _, rfl, .inr hS, .ref a, rfl, a, ws, rfl, hL, fun rr hrr => ⟨_, _, rfl, rfl, _, rfl, ite2 (fun e => ?_) (fun _ => ?_)⟩⟩
    · have h1 := of_decide_eq_true e
      have := hR.top rr hrr
      rw [nV_len'] at h1
      omega
    refine ⟨.ref c, rfl, c, rfl, ⟨_, hS⟩, fun D hD => ?_⟩
    refine lc_tup (xs := nV r) (fun i H' => Same H H' ∧ H' D = some (.lst ((List.replicate i true).map V.bl))) ⟨same_new hD, upd_same⟩ (fun i H' _ h => Same.tup h.1 hS) (fun i y H' hy h => ?_) (fun H1 h => ?_)
    · rw [List.getElem?_map] at hy
      obtain ⟨z, hz, rfl⟩ := Option.map_eq_some_iff.mp hy
      have hi := (List.getElem?_eq_some_iff.mp hz).1
      refine ⟨rfl, .int (z : Nat), rfl, (z : Nat), rfl, _, h.2, ?_, fun y o e => ?_, ?_⟩
      · rw [List.length_map, List.length_replicate]
        exact small1000 (by omega)
      · rw [upd_ne (ne_of_none e hD)]
        exact h.1 _ _ e
      · rw [upd_same, List.replicate_succ', List.map_append]
        rfl
    · refine ⟨D, _, rfl, .of h.2, ?_⟩
      rw [all_true]
      exact q H1 h.1
/-! ### _has_form -/
def spHasForm (K : PySem.W.Frag) (C : Addr) : Sp := fun vs H Q _ => ∃ (a s : Addr) (ws : List (List Int)) (R : Nat) (L : Sta), vs = [.ref a, .ref s] ∧ LineAt K C H a ws ∧ Reach ws R ∧ StaAt H s L ∧ FormL ws R L ∧ R ≤ 60 ∧ ∀ H', Same H H' → Q (.bl true) H'
theorem ok_has_form {f f1 C : Addr} {fd fd1 : FuncData} {k : Nat} (F : Fun K "_has_form" "_has_form" s_has_form f fd) (M : Meths P w K mg base k C)
    (G1 : FnOk P w K mg base CX0 (k + 3) f1 fd1 ["line", "thing"] (spIsForm K C)) (kp1 : PySem.W.keepIn K (.ref f1) = true) (b1 : Binds K fd1 ["line", "thing"] []) (g1 : mg "_is_form_of_delays" = some (.ref f1))
    (m1 : mg "isinstance" = none) (m2 : mg "tuple" = none) (m3 : mg "len" = none) (m4 : mg "all" = none) : FnOk P w K mg base CX0 (k + 4) f fd ["line", "thing"] (spHasForm K C) := by
  refine F.ok sc_has_form (fun vs H Q E h => ?_) (fun cdv A outer s H vs Q E hr h => ?_)
  · obtain ⟨a, st, ws, R, L, rfl, _⟩ := h; rfl
  · obtain ⟨a, st, ws, R, L, rfl, hL, hR, hS0, hF, R6, q⟩ := h
    refine ⟨_, pss_cons (ps_if (PW.pt (pw_or (pt_not (pt_val (pe_callB call_isi (by rfl) m1 (by decide +kernel) (pa_cons (pv 1) (pa_cons (pe_bltn (v := .ty "tuple") (by rfl) m2 (by decide +kernel) rfl) pa_nil)))))
          (pw_or1 (pt_cmpR op_ne (pe_callB call_len_seq (by rfl) m3 PySem.boot_len (pa_cons (pv 1) pa_nil)) (pe_callB (cLenK (K := K) M rfl (hr.mono (Nat.le_succ _))) (by rfl) m3 PySem.boot_len (pa_cons (pv 0) pa_nil)) (nomark _)))))
        (pss_one (ps_ret pe_bl)) pss_nil)
      (pss_one (ps_ret (pe_callB (cr_all rfl) (by rfl) m4 (by decide +kernel) (pa_cons
          (pe_lc (own := [("delays", 2)]) (g := gName 2) (tt := tYes) rfl sc_has_form.nd (pi_tup (pv 1)) (blkOk_by (N := ["line", "thing", "delays"]) (sc := defScope s_has_form) (by decide +kernel))
            (fun _ _ _ _ _ => pg_name (i := 2) sc_has_form.nd rfl (Or.inl rfl)) (fun _ _ _ _ _ => pts_nil)
            (fun _ _ _ _ _ => pe_call G1 hr (by rfl) g1 kp1 b1 .nil pass0 (pa_cons (pv 0) (pa_cons (pv 2) pa_nil)))) pa_nil)))), ?_⟩
    obtain ⟨us, hus, hrows⟩ := hS0
    have lus := hrows.len
    have ll := hF.len
    have few := hL.good.few
    have hS : SqT K H st us := .inl (.inl hus)
    refine ⟨.ref st, rfl, .ref st, .ty "tuple", _, _, true, rfl, .ty _, tyT hS, kit_ty (by decide +kernel), true, rfl, iteF ?_⟩
    refine ⟨.ref st, rfl, st, _, rfl, .inr hS, .ref a, rfl, a, ws, rfl, hL, rfl, _, rfl, ?_⟩
    rw [show (!decide (V.int (us.length : Nat) = V.int (ws.length : Nat))) = false from by rw [lus, ll, decide_eq_true rfl]; rfl]
    refine iteF ?_
    refine ⟨.ref st, rfl, st, rfl, ⟨_, hS⟩, fun D hD => ?_⟩
    refine lc_tup (xs := us) (fun i H' => Same H H' ∧ H' D = some (.lst ((List.replicate i true).map V.bl))) ⟨same_new hD, upd_same⟩ (fun i H' _ h => Same.tup h.1 hS) (fun i y H' hy h => ?_) (fun H1 h => ?_)
    · obtain ⟨c, r, hr1, rfl, hc⟩ := hrows.at hy
      have hi := (List.getElem?_eq_some_iff.mp hr1).1
      refine ⟨rfl, .ref a, rfl, .ref c, rfl, a, c, ws, R, r, rfl, hL.stay (.of h.1), hR, h.1 _ _ hc, hF.row_len R6 r (List.mem_of_getElem? hr1), R6, fun H2 e2 => ⟨_, e2 _ _ h.2, ?_, fun y o e => ?_, ?_⟩⟩
      · rw [List.length_map, List.length_replicate]
        exact small1000 (by omega)
      · rw [upd_ne (ne_of_none e hD)]
        exact e2 _ _ (h.1 _ _ e)
      · rw [upd_same, List.replicate_succ', List.map_append]
        rfl
    · refine ⟨D, _, rfl, .of h.2, ?_⟩
      rw [all_true]
      exact q H1 h.1
/-! ### _bars_only -/
def spBarsOnly (K : PySem.W.Frag) : Sp := fun vs H Q _ => ∃ (s g : Addr) (ws : List (List Int)) (R : Nat) (L W : Sta) (t : Nat), vs = [.ref s, .ref g, .int t] ∧ StaAt H s L ∧ StaAt H g W ∧ FormL ws R L ∧ FormL ws R W ∧ R ≤ 60 ∧ ws.length ≤ 3 ∧ ∀ H' b, Same H H' → (OnlyB L W t → b = true) → Q (.bl b) H'
abbrev bonN : List Str := ["state", "wanted", "ticks", "now", "then", "delay"]
theorem inV_sub {r : List Nat} {d t : Nat} (h : d - t ∈ r) (g : t ≤ d) : inV (.int ((d : Int) - (t : Nat))) (nV r) = true := by
  unfold inV
  rw [List.any_eq_true]
  have e : (((d - t : Nat)) : Int) = (d : Int) - (t : Nat) := by omega
  rw [← e]
  exact ⟨_, List.mem_map.mpr ⟨d - t, h, rfl⟩, by simp [eqV]⟩
theorem ok_bars_only {f : Addr} {fd : FuncData} {k : Nat} (F : Fun K "_bars_only" "_bars_only" s_bars_only f fd) (m1 : mg "all" = none) (m2 : mg "zip" = none) : FnOk P w K mg base CX0 (k + 1) f fd ["state", "wanted", "ticks"] (spBarsOnly K) := by
  refine F.ok sc_bars_only (fun vs H Q E h => ?_) (fun cdv A outer s H vs Q E hr h => ?_)
  · obtain ⟨st, g, ws, R, L, W, t, rfl, _⟩ := h; rfl
  · obtain ⟨st, g, ws, R, L, W, t, rfl, hS, hG, hF, hE, R6, few, q⟩ := h
    refine ⟨_, pss_one (ps_ret (pe_callB (cr_all rfl) (by rfl) m1 (by decide +kernel) (pa_cons
        (pe_lc2 (own := [("now", 3), ("then", 4), ("delay", 5)]) (vs1 := [5]) (g := gTup K 2 (gCons (gName 3) (gCons (gName 4) gNil))) (g1 := gName 5) (tt := tYes) (tt1 := tYes) rfl sc_bars_only.nd (RZ.pi_zipA (by rfl) m2 (pa_cons (pv 0) (pa_cons (pv 1) pa_nil)))
          (blkOk_by (N := bonN) (sc := defScope s_bars_only) (by decide +kernel)) (by decide)
          (fun _ _ _ _ _ => pg_tup rfl (pgs_cons (pg_name (i := 3) sc_bars_only.nd rfl (Or.inl rfl)) (pgs_cons (pg_name (i := 4) sc_bars_only.nd rfl (Or.inl rfl)) pgs_nil)))
          (fun _ _ _ _ _ => pts_nil)
          (fun _ _ _ _ _ => pi_tupK (K := K) rfl (pv 3))
          (fun _ _ _ _ _ => pg_name (i := 5) sc_bars_only.nd rfl (Or.inl rfl))
          (fun _ _ _ _ _ => pts_nil)
          (fun _ _ _ _ _ => pe_or (pe_cmpR op_lt (pv 5) (pv 2) (nomark _)) (pe_one (pe_cmpR (op_inK (K := K) rfl) (pe_op op_sub (pv 5) (pv 2)) (pv 4) (by with_unfolding_all rfl))))) pa_nil))), ?_⟩
    have big : 4000 ≤ sizeLine := by rw [sizeLine_eq]; decide
    obtain ⟨us, hus, hr1⟩ := hS
    obtain ⟨vs, hvs, hr2⟩ := hG
    have l1 := hr1.len
    have l2 := hr2.len
    have f1 := hF.len
    have f2 := hE.len
    refine ⟨.ref st, rfl, .ref g, rfl, st, g, us, vs, rfl, .inr ⟨.inl (.inl hus), .inl (.inl hvs), fun D nD => ?_⟩⟩
    refine it_any (walk_zipT (xs := us) (ys := vs) (n := ws.length) (by omega)) _ (fun i H' => Same H H' ∧ ∃ bs : List Bool, H' D = some (.lst (bs.map V.bl)) ∧ (OnlyB L W t → bs.all id = true) ∧ bs.length ≤ 60 * i) ⟨same_new nD, [], upd_same, fun _ => rfl, Nat.zero_le _⟩
      (fun i H' _ h => ⟨.inl (.inl (h.1 _ _ hus)), .inl (.inl (h.1 _ _ hvs))⟩) (fun i x H2 H' hi h hY => ?_) (fun H' h => ?_)
    · obtain ⟨e2, bs, hD2, hb2, lb⟩ := h
      obtain ⟨T, x1, x2, rfl, nT, rfl, f1', f2'⟩ := hY
      dsimp only at f1' f2'
      obtain ⟨c1, r1, hx1, rfl, hc1⟩ := hr1.at f1'
      obtain ⟨c2, r2, hx2, rfl, hc2⟩ := hr2.at f2'
      have eT : Same H2 (upd H2 T (.tup [V.ref c1, .ref c2])) := same_new nT
      have hTT : (upd H2 T (.tup [V.ref c1, .ref c2])) T = some (.tup [V.ref c1, .ref c2]) := upd_same
      have hD3 := eT _ _ hD2
      have e3 := e2.trans eT
      generalize upd H2 T (.tup [V.ref c1, .ref c2]) = H3 at eT hTT hD3 e3 ⊢
      have hc13 := e3 _ _ hc1
      have hc23 := e3 _ _ hc2
      have lr := hF.row_len R6 r1 (List.mem_of_getElem? hx1)
      refine ⟨T, _, rfl, .of hTT, rfl, _, _, rfl, _, _, rfl, rfl, rfl, ?_⟩
      refine ⟨.ref c1, rfl, c1, rfl, ⟨_, .inl (.inl hc13)⟩, ?_⟩
      refine it_any (walk_tup (K := K) (a := c1) (xs := nV r1)) _ (fun j H' => Same H H' ∧ ∃ bs : List Bool, H' D = some (.lst (bs.map V.bl)) ∧ (OnlyB L W t → bs.all id = true) ∧ bs.length ≤ 60 * i + j) ⟨e3, bs, hD3, hb2, lb⟩
        (fun j H' _ h => .inl (.inl (h.1 _ _ hc1))) (fun j x H4 H' hj h hY => ?_) (fun H' h => ?_)
      · obtain ⟨e4, bs4, hD4, hb4, lb4⟩ := h
        obtain ⟨rfl, hx⟩ := hY
        rw [List.getElem?_map] at hx
        obtain ⟨d, hd, rfl⟩ := Option.map_eq_some_iff.mp hx
        have hjl := (List.getElem?_eq_some_iff.mp hd).1
        have fin : ∀ b : Bool, (OnlyB L W t → b = true) → ∃ acc, H' D = some (.lst acc) ∧ acc.length < sizeLine ∧ (Same H (upd H' D (.lst (acc ++ [V.bl b]))) ∧ ∃ bs : List Bool, (upd H' D (.lst (acc ++ [V.bl b]))) D = some (.lst (bs.map V.bl)) ∧ (OnlyB L W t → bs.all id = true) ∧ bs.length ≤ 60 * i + (j + 1)) := by
          intro b hb
          refine ⟨_, hD4, by rw [List.length_map]; omega, fun y o z => ?_, bs4 ++ [b], by rw [upd_same, List.map_append]; rfl, fun ho => ?_, by rw [List.length_append]; show _ + 1 ≤ _; omega⟩
          · rw [upd_ne (ne_of_none z nD)]
            exact e4 _ _ z
          · rw [List.all_append, hb4 ho, hb ho]; rfl
        refine ⟨rfl, .int (d : Nat), rfl, .int (t : Nat), rfl, _, _, rfl, rfl, ?_⟩
        by_cases hdt : d < t
        · dsimp only
          rw [show (decide ((d : Int) < (t : Int))) = true from decide_eq_true (by omega)]
          exact ⟨true, rfl, iteT (fin true fun _ => rfl)⟩
        · dsimp only
          rw [show (decide ((d : Int) < (t : Int))) = false from decide_eq_false (by omega)]
          refine ⟨false, rfl, iteF ?_⟩
          refine ⟨.int (d : Nat), rfl, .int (t : Nat), rfl, _, _, rfl, rfl, .ref c2, rfl, c2, _, rfl, .inr (.inl (.inl (e4 _ _ hc2))), rfl, flat_nV r2, ?_⟩
          rw [if_neg Bool.false_ne_true]
          refine fin _ fun ho => ?_
          have h1 : d ∈ rowS L i := by rw [rowS_at hx1]; exact List.mem_of_getElem? hd
          rcases ho i d h1 with z | z
          · exact absurd z hdt
          · rw [rowS_at hx2] at z
            exact inV_sub z (by omega)
      · obtain ⟨e4, bs4, hD4, hb4, lb4⟩ := h
        rw [nV_len'] at lb4
        exact ⟨e4, bs4, hD4, hb4, by omega⟩
    · obtain ⟨e2, bs, hD2, hb2, lb⟩ := h
      exact ⟨D, _, rfl, .of hD2, q H' _ e2 hb2⟩
end
end Sg

set_option Elab.async false
set_option linter.all false
set_option maxRecDepth 100000
set_option maxHeartbeats 4000000
namespace Sg
open PySem PySem.Spec PyProof.Rows L2 StX
theorem storeN_has {rs : List Row} {L M : Sta} {b : Addr} {v : V} : HasL (storeN rs (nk L) b v) M ↔ HasL rs M ∨ M = L := by
  unfold storeN
  by_cases h : (atN rs (nk L)).isSome = true
  · rw [if_pos h]
    constructor
    · rintro ⟨r, hr, e⟩
      obtain ⟨x, hx, rfl⟩ := List.mem_map.mp hr
      refine .inl ⟨x, hx, ?_⟩
      rw [← e]
      split <;> rfl
    · rintro (⟨r, hr, e⟩ | rfl)
      · refine ⟨_, List.mem_map.mpr ⟨r, hr, rfl⟩, ?_⟩
        rw [← e]
        split <;> rfl
      · obtain ⟨r, hr, e⟩ := atN_some.mp h
        refine ⟨_, List.mem_map.mpr ⟨r, hr, rfl⟩, ?_⟩
        rw [← e]
        split <;> rfl
  · rw [if_neg h]
    constructor
    · rintro ⟨r, hr, e⟩
      rcases List.mem_append.mp hr with hr | hr
      · exact .inl ⟨r, hr, e⟩
      · rw [List.mem_singleton.mp hr] at e
        exact .inr (nk_inj e).symm
    · rintro (⟨r, hr, e⟩ | rfl)
      · exact ⟨r, List.mem_append.mpr (.inl hr), e⟩
      · exact ⟨_, List.mem_append.mpr (.inr (List.mem_singleton.mpr rfl)), rfl⟩
theorem RowsOk.store {H : Hp} {rs : List Row} {ws : List (List Int)} {R : Nat} (h : RowsOk H rs ws R) {L : Sta} {b : Addr} {v : V} (hL : StaAt H b L) (hF : FormL ws R L) : RowsOk H (storeN rs (nk L) b v) ws R := by
  by_cases n : HasL rs L
  · unfold storeN
    rw [if_pos (atN_some.mpr n)]
    refine ⟨fun r hr => ?_, ?_⟩
    · obtain ⟨x, hx, rfl⟩ := List.mem_map.mp hr
      obtain ⟨M, h1, h2, h3⟩ := h.row x hx
      refine ⟨M, ?_, ?_, h3⟩
      · split
        · exact h1
        · exact h1
      · split
        · exact h2
        · exact h2
    · have e : ((rs.map fun r => if r.1 = nk L then (r.1, r.2.1, v) else r).map (·.1)) = rs.map (·.1) := by
        rw [List.map_map]
        refine List.map_congr_left fun r _ => ?_
        show (if r.1 = nk L then (r.1, r.2.1, v) else r).1 = r.1
        split <;> rfl
      rw [e]; exact h.nd
  · rw [storeN_new (atN_none n)]
    exact h.add hL hF n
theorem lay_sDs : ∀ (Ls : List Sta), PyData.canLayAll0 (Ls.map sD) = true
  | [] => by simp [PyData.canLayAll0]
  | L :: r => by
    show PyData.canLayAll0 (.tuple (tDs (L.map nI)) :: r.map sD) = true
    rw [PyData.canLayAll0, lay_sDs r, PyData.canLay0, lay_tDs]; rfl
theorem dep_sDs : ∀ (Ls : List Sta), PyData.depthAll (Ls.map sD) ≤ 2
  | [] => by simp [PyData.depthAll]
  | L :: r => by
    show PyData.depthAll (sD L :: r.map sD) ≤ 2
    rw [PyData.depthAll]
    exact Nat.max_le.mpr ⟨depth_sD L, dep_sDs r⟩
theorem shaped_sDs (Ls : List Sta) : SeqAt.shaped (.list (Ls.map sD)) = true ∧ SeqAt.shaped (.tuple (Ls.map sD)) = true := by
  have := dep_sDs Ls
  constructor
  · unfold SeqAt.shaped
    have a : (PyData.list (Ls.map sD)).canLay0 = true := by rw [PyData.canLay0, lay_sDs]
    have b : (PyData.list (Ls.map sD)).depth ≤ 64 := by rw [PyData.depth]; omega
    rw [a, decide_eq_true b]; rfl
  · unfold SeqAt.shaped
    have a : (PyData.tuple (Ls.map sD)).canLay0 = true := by rw [PyData.canLay0, lay_sDs]
    have b : (PyData.tuple (Ls.map sD)).depth ≤ 64 := by rw [PyData.depth]; omega
    rw [a, decide_eq_true b]; rfl
theorem any_sD {Ls : List Sta} {W : Sta} : ((Ls.map sD).any fun z => PyData.eqv z (sD W)) = true ↔ W ∈ Ls := by
  rw [List.any_eq_true]
  constructor
  · rintro ⟨z, hz, e⟩
    obtain ⟨L, hL, rfl⟩ := List.mem_map.mp hz
    rw [eqv_sD] at e
    rw [← of_decide_eq_true e]; exact hL
  · intro h
    exact ⟨_, List.mem_map.mpr ⟨W, h, rfl⟩, by rw [eqv_sD]; exact decide_eq_true rfl⟩
theorem pow4 {i : Nat} (h : i ≤ 8) : 4 ^ i ≤ 65536 := Nat.le_trans (Nat.pow_le_pow_right (by decide) h) (by decide)
section
variable {P : Program} {w : World} {K : PySem.W.Frag} {mg : Str → Option Value} {base : Heap}
/-! ### _is_reached -/
def spReached (K : PySem.W.Frag) (C : Addr) : Sp := fun vs H Q _ => ∃ (a g : Addr) (ws : List (List Int)) (R : Nat) (W : Sta), vs = [.ref a, .ref g] ∧ LineAt K C H a ws ∧ Reach ws R ∧ NearR ws.length R ∧ StaAt H g W ∧ Rchd ws W ∧ ∀ H', Same H H' → Q (.bl true) H'
theorem ok_is_reached {f f1 f2 f3 f4 C : Addr} {fd fd1 fd2 fd3 fd4 : FuncData} {k : Nat} (F : Fun K "_is_reached" "_is_reached" s_is_reached f fd) (M : Meths P w K mg base k C)
    (G1 : FnOk P w K mg base CX0 (k + 3) f1 fd1 ["line"] (spEmpty K C)) (kp1 : PySem.W.keepIn K (.ref f1) = true) (b1 : Binds K fd1 ["line"] []) (g1 : mg "_empty_state" = some (.ref f1))
    (G2 : FnOk P w K mg base CX0 (k + 3) f2 fd2 ["state"] (spOpen K)) (kp2 : PySem.W.keepIn K (.ref f2) = true) (b2 : Binds K fd2 ["state"] []) (g2 : mg "_open_choices" = some (.ref f2))
    (G3 : FnOk P w K mg base CX0 (k + 3) f3 fd3 ["line", "state", "choice"] (spBehind K C)) (kp3 : PySem.W.keepIn K (.ref f3) = true) (b3 : Binds K fd3 ["line", "state", "choice"] []) (g3 : mg "_behind" = some (.ref f3))
    (G4 : FnOk P w K mg base CX0 (k + 3) f4 fd4 ["state", "wanted", "ticks"] (spBarsOnly K)) (kp4 : PySem.W.keepIn K (.ref f4) = true) (b4 : Binds K fd4 ["state", "wanted", "ticks"] []) (g4 : mg "_bars_only" = some (.ref f4))
    (m1 : mg "range" = none) (m2 : mg "list" = none) : FnOk P w K mg base CX0 (k + 4) f fd ["line", "wanted"] (spReached K C) := by
  refine F.ok sc_is_reached (fun vs H Q E h => ?_) (fun cdv A outer s H vs Q E hr h => ?_)
  · obtain ⟨a, g, ws, R, W, rfl, _⟩ := h; rfl
  · obtain ⟨a, g, ws, R, W, rfl, hL, hR, hN, hG, hW, q⟩ := h
    have hu := hr.units
    have hu65 : (A.deeper (envOfC "_is_reached" (defScope s_is_reached) s.heap.objs.size f cdv)).units + 65 < cLine := by have := hr.un; omega
    refine ⟨_, pss_cons (ps_set (i := 2) sc_is_reached.nd rfl (.inl rfl) (pe_lst (pa_cons (pe_call G1 hr (by rfl) g1 kp1 b1 .nil pass0 (pa_cons (pv 0) pa_nil)) pa_nil)))
      (pss_cons (ps_for PassesOwn.never rfl (pi_range3 (by rfl) m1 (pa_cons (pe_op op_sub (M.pReach (K := K) rfl (hr.mono (Nat.le_succ _)) (pv 0)) pe_int) (pa_cons (pe_un un_neg pe_int) (pa_cons (pe_un un_neg pe_int) pa_nil)))) (pg_name (i := 3) sc_is_reached.nd rfl (.inl rfl))
        (pss_cons (ps_set (i := 4) sc_is_reached.nd rfl (.inl rfl) (pe_nnewK (P := P) (w := w) rfl rfl))
        (pss_cons (ps_for PassesOwn.never rfl (pi_list (pv 2)) (pg_name (i := 5) sc_is_reached.nd rfl (.inl rfl))
          (pss_one (ps_for PassesOwn.never rfl (pi_tup (pe_call G2 hr (by rfl) g2 kp2 b2 .nil pass0 (pa_cons (pv 5) pa_nil))) (pg_name (i := 6) sc_is_reached.nd rfl (.inl rfl))
            (pss_cons (ps_set (i := 7) sc_is_reached.nd rfl (.inl rfl) (pe_call G3 hr (by rfl) g3 kp3 b3 .nil pass0 (pa_cons (pv 0) (pa_cons (pv 5) (pa_cons (pv 6) pa_nil)))))
            (pss_one (ps_if (pt_val (pe_call G4 hr (by rfl) g4 kp4 b4 .nil pass0 (pa_cons (pv 7) (pa_cons (pv 1) (pa_cons (pv 3) pa_nil)))))
              (pss_one (ps_nputK (P := P) (w := w) rfl rfl hu (pv 4) (pv 7) pe_bl (by rfl))) pss_nil))))))
        (pss_one (ps_set (i := 2) sc_is_reached.nd rfl (.inl rfl) (pe_callTy (cr_listNK (P := P) (w := w) rfl rfl rfl) (by rfl) m2 (by decide +kernel) (pa_cons (pv 4) pa_nil)))))))
      (pss_one (ps_ret (pe_cmpR (op_inD hu65) (pv 1) (pv 2) (by with_unfolding_all rfl))))), ?_⟩
    have big : 400000 ≤ sizeLine := by rw [sizeLine_eq]; decide
    have few := hL.good.few
    have R8 : R ≤ 8 := by rcases hN with ⟨_, h⟩ | ⟨_, h⟩ <;> omega
    have R6 : R ≤ 60 := by omega
    obtain ⟨cs, hway, rfl⟩ := hW
    obtain ⟨steps, last⟩ := last_steps hR.rea R6 hway
    have hFW := runS_form hR.rea cs
    refine ⟨.ref a, rfl, a, ws, rfl, hL, fun H1 t0 e1 _ ht0 => ⟨by show 1 ≤ sizeLine; omega, fun Ly nLy => ?_⟩⟩
    have e2 := same_new (o := .lst [V.ref t0]) nLy
    have hLy2 := upd_same (H := H1) (a := Ly) (o := .lst [V.ref t0])
    have ht2 := ht0.same e2
    have e12 := e1.trans e2
    generalize L2.upd H1 Ly (.lst [V.ref t0]) = H2 at e2 hLy2 ht2 e12 ⊢
    refine ⟨.ref a, rfl, a, ws, rfl, hL.stay (.of e12), fun r hr => ?_⟩
    obtain rfl := hR.top r hr
    refine ⟨_, _, rfl, rfl, 1, rfl, 1, rfl, (R : Int) - 1, -1, -1, R, rfl, ?_, ?_⟩
    · have h := RgC.neg (i := (R : Int) - 1) (j := -1) (by omega) (by omega) (by decide) (by decide)
      rwa [show ((R : Int) - 1 - (-1)).toNat = R by omega] at h
    refine for_rangeC (n := R) (fun i σ H' => ∃ Ly lv Ls v3 v4 v5 v6 v7, σ = [some (.ref a), some (.ref g), some (.ref Ly), v3, v4, v5, v6, v7] ∧ Same H H' ∧ H' Ly = some (.lst lv) ∧ StasAt H' lv Ls ∧ (∀ L ∈ Ls, FormL ws R L) ∧ runS ws ((lastC R cs).take i) ∈ Ls ∧ Ls.length ≤ 4 ^ i)
      ⟨Ly, _, [emptyL ws], _, _, _, _, _, rfl, e12, hLy2, .cons ⟨t0, rfl, ht2⟩ .nil, fun L h => by rw [List.mem_singleton.mp h]; exact FormL.empty ws R, List.mem_singleton.mpr rfl, Nat.le_refl _⟩ (fun i σ H3 hi h => ?_) (fun σ H3 h => ?_)
    · obtain ⟨Ly, lv, Ls, v3, v4, v5, v6, v7, rfl, e3, hLy3, hS3, hF3, hX, hlen⟩ := h
      have lLs := hS3.len
      have p4 := pow4 (show i ≤ 8 by omega)
      obtain ⟨cx, hcan, hnx, hob⟩ := steps i hi
      have et : (R : Int) - 1 + (i : Nat) * (-1) = ((R - 1 - i : Nat) : Int) := by omega
      rw [et]
      refine fun Fd nF => ?_
      have e4 : Same H3 (L2.upd H3 Fd (DN P w Fd [])) := same_new nF
      have hF4 := upd_same (H := H3) (a := Fd) (o := DN P w Fd [])
      have nLF : Ly ≠ Fd := ne_of_none hLy3 nF
      have nFH : H Fd = none := freeS e3 nF
      have e34 := e3.trans e4
      have hLy4 := e4 _ _ hLy3
      have hS4 := hS3.keep fun _ _ z => e4 _ _ z
      generalize L2.upd H3 Fd (DN P w Fd []) = H4 at e4 hF4 e34 hLy4 hS4 ⊢
      refine ⟨.ref Ly, rfl, Ly, rfl, ⟨_, .of hLy4⟩, ?_⟩
      refine for_list (xs := lv) (fun m σ H' => ∃ v5 v6 v7 rs, σ = [some (.ref a), some (.ref g), some (.ref Ly), some (.int ((R - 1 - i : Nat) : Int)), some (.ref Fd), v5, v6, v7] ∧ Same H H' ∧ H' Ly = some (.lst lv) ∧ StasAt H' lv Ls ∧ H' Fd = some (DN P w Fd rs) ∧ RowsOk H' rs ws R ∧ rs.length ≤ 4 * m ∧
          ∀ n L c, n < m → Ls[n]? = some L → CanL ws L c → OnlyB (nextL ws L c) (runS ws cs) (R - 1 - i) → HasL rs (nextL ws L c))
        ⟨_, _, _, [], rfl, e34, hLy4, hS4, hF4, ⟨(fun r hr => nomatch hr), List.nodup_nil⟩, Nat.le_refl _, fun n L c hn => absurd hn (by omega)⟩ (fun m σ H' _ h => ?_) (fun m x σ H5 hx h => ?_) (fun σ H5 h => ?_)
      · obtain ⟨_, _, _, _, _, _, h, _⟩ := h
        exact .of h
      · obtain ⟨v5, v6, v7, rs, rfl, e5, hLy5, hS5, hF5, hrs5, lrs, cov⟩ := h
        obtain ⟨b, L, hLs, rfl, hb⟩ := hS5.at hx
        have hml := (List.getElem?_eq_some_iff.mp hLs).1
        have hFL := hF3 L (List.mem_of_getElem? hLs)
        refine ⟨.ref b, rfl, b, ws, L, R, rfl, hb, hFL, R6, few, fun H6 tc e6 _ htc => ⟨tc, rfl, ⟨_, .inl (.inl htc)⟩, ?_⟩⟩
        have lch := chs_len (ws := ws) (L := L)
        have e56 := e5.trans e6
        refine for_tup (xs := chV (openL ws L)) (fun j σ H' => ∃ v6 v7 rs, σ = [some (.ref a), some (.ref g), some (.ref Ly), some (.int ((R - 1 - i : Nat) : Int)), some (.ref Fd), some (.ref b), v6, v7] ∧ Same H H' ∧ H' tc = some (.tup (chV (openL ws L))) ∧ StaAt H' b L ∧ H' Ly = some (.lst lv) ∧ StasAt H' lv Ls ∧ H' Fd = some (DN P w Fd rs) ∧ RowsOk H' rs ws R ∧ rs.length ≤ 4 * m + j ∧
            (∀ n L c, n < m → Ls[n]? = some L → CanL ws L c → OnlyB (nextL ws L c) (runS ws cs) (R - 1 - i) → HasL rs (nextL ws L c)) ∧ ∀ c ∈ (chs ws L).take j, OnlyB (nextL ws L c) (runS ws cs) (R - 1 - i) → HasL rs (nextL ws L c))
          ⟨_, _, rs, rfl, e56, htc, hb.same e6, e6 _ _ hLy5, hS5.keep (fun _ _ z => e6 _ _ z), e6 _ _ hF5, hrs5.keep (fun _ _ z => e6 _ _ z), by omega, cov, fun c hc => nomatch hc⟩ (fun j σ H' _ h => ?_) (fun j x σ H7 hx h => ?_) (fun σ H7 h => ?_)
        · obtain ⟨_, _, _, _, _, h, _⟩ := h
          exact .inl (.inl h)
        · obtain ⟨v6, v7, rs7, rfl, e7, htc7, hb7, hLy7, hS7, hF7, hrs7, lrs7, cov7, cur7⟩ := h
          rw [chV_chs, List.getElem?_map] at hx
          obtain ⟨c, hc, rfl⟩ := Option.map_eq_some_iff.mp hx
          have hjl := (List.getElem?_eq_some_iff.mp hc).1
          have hcan2 := chs_can.mp (List.mem_of_getElem? hc)
          have etk : (chs ws L).take (j + 1) = (chs ws L).take j ++ [c] := by rw [List.take_add_one, hc]; rfl
          refine ⟨.ref a, rfl, .ref b, rfl, .int (chI c), rfl, a, b, ws, L, c, R, rfl, hL.stay (.of e7), hb7, hR.rea, R6, hFL, hcan2.lt, fun H8 t8 e8 _ ht8 => ?_⟩
          have hFn := hFL.next hR.rea c
          have e78 := e7.trans e8
          refine ⟨.ref t8, rfl, .ref g, rfl, .int ((R - 1 - i : Nat) : Int), rfl, t8, g, ws, R, _, _, R - 1 - i, rfl, ht8, hG.same e78, hFn, hFW, R6, few, fun H9 bb e9 hbb => ⟨bb, rfl, ?_⟩⟩
          have e89 := e8.trans e9
          have hF9 := e89 _ _ hF7
          have hLy9 := e89 _ _ hLy7
          have htc9 := e89 _ _ htc7
          have hb9 := hb7.same e89
          have hS9 := hS7.keep fun _ _ z => e89 _ _ z
          have hrs9 := hrs7.keep fun _ _ z => e89 _ _ z
          have ht9 := ht8.same e9
          have e79 := e7.trans e89
          cases bb with
          | true =>
            refine iteT ⟨.ref Fd, rfl, .ref t8, rfl, Fd, t8, nk (nextL ws L c), rs7, rfl, rfl, ⟨hF9, hrs9.keys, ht9.key, nk_deep _⟩, by omega, ?_⟩
            have keepF : ∀ x us, H9 x = some (.tup us) → (L2.upd H9 Fd (DN P w Fd (storeN rs7 (nk (nextL ws L c)) t8 (.bl true)))) x = some (.tup us) := fun x us z => by
              rw [upd_ne (ne_of z hF9 (fun c => nomatch c))]; exact z
            refine ⟨_, _, storeN rs7 (nk (nextL ws L c)) t8 (.bl true), rfl, fun x o z => ?_, keepF _ _ htc9, hb9.keep keepF, ?_, hS9.keep keepF, upd_same, (hrs9.store ht9 hFn).keep keepF, ?_, fun n L' c' h1 h2 h3 h4 => ?_, fun c' h1 h2 => ?_⟩
            · rw [upd_ne (ne_of_none z nFH)]
              exact e79 _ _ z
            · rw [upd_ne nLF]; exact hLy9
            · have := storeN_len rs7 (nk (nextL ws L c)) t8 (.bl true)
              omega
            · exact storeN_has.mpr (.inl (cov7 n L' c' h1 h2 h3 h4))
            · rw [etk] at h1
              rcases List.mem_append.mp h1 with h1 | h1
              · exact storeN_has.mpr (.inl (cur7 c' h1 h2))
              · rw [List.mem_singleton.mp h1]
                exact storeN_has.mpr (.inr rfl)
          | false =>
            refine iteF ⟨_, _, rs7, rfl, e79, htc9, hb9, hLy9, hS9, hF9, hrs9, by omega, cov7, fun c' h1 h2 => ?_⟩
            rw [etk] at h1
            rcases List.mem_append.mp h1 with h1 | h1
            · exact cur7 c' h1 h2
            · rw [List.mem_singleton.mp h1] at h2
              exact absurd (hbb h2) (by decide)
        · obtain ⟨v6, v7, rs7, rfl, e7, htc7, hb7, hLy7, hS7, hF7, hrs7, lrs7, cov7, cur7⟩ := h
          rw [chV_chs, List.length_map] at lrs7 cur7
          rw [List.take_length] at cur7
          refine ⟨_, _, _, rs7, rfl, e7, hLy7, hS7, hF7, hrs7, by omega, fun n L' c' h1 h2 h3 h4 => ?_⟩
          by_cases hn : n < m
          · exact cov7 n L' c' hn h2 h3 h4
          · have hnm : n = m := by omega
            subst hnm
            rw [hLs] at h2
            obtain rfl := Option.some.inj h2
            exact cur7 c' (chs_can.mpr h3) h4
      · obtain ⟨v5, v6, v7, rs, rfl, e5, hLy5, hS5, hF5, hrs5, lrs, cov⟩ := h
        rw [lLs] at lrs cov
        refine ⟨.ref Fd, rfl, Fd, rs, rfl, hF5, hrs5.keys, fun p np => ?_⟩
        have ep := same_new (o := .lst (rs.map fun r => V.ref r.2.1)) np
        obtain ⟨Ms, h1, h2, h3⟩ := rows_list hrs5.row
        have lMs : Ms.length = rs.length := by rw [← h1.len, List.length_map]
        obtain ⟨n, hn⟩ := List.mem_iff_getElem?.mp hX
        have hnl := (List.getElem?_eq_some_iff.mp hn).1
        refine ⟨p, _, Ms, _, _, _, _, _, rfl, e5.trans ep, upd_same, h1.keep (fun _ _ z => ep _ _ z), h3, ?_, ?_⟩
        · rw [hnx]
          rw [hnx] at hob
          exact h2 _ (cov n _ cx hnl hn hcan hob)
        · rw [Nat.pow_succ]
          omega
    · obtain ⟨Ly, lv, Ls, v3, v4, v5, v6, v7, rfl, e3, hLy3, hS3, hF3, hX, hlen⟩ := h
      rw [last] at hX
      have hG3 := (hG.same e3).dp (K := K)
      refine ⟨.ref g, rfl, .ref Ly, rfl, _, _, hG3, .lst (.of hLy3) hS3.dp, shaped_sD _, (shaped_sDs Ls).1, ?_⟩
      rw [any_sD.mpr hX]
      exact q H3 e3
end
end Sg

set_option Elab.async false
set_option linter.all false
set_option maxRecDepth 100000
set_option maxHeartbeats 4000000
namespace Sg
open PySem PySem.Spec PyProof.Rows L2 StX
/-! ## x in t, x not in t: t a tuple of data -/
def rInDT (K : PySem.W.Frag) (neg : Bool) : R2 := fun x y H Q => ∃ d ds, Dp K H x d ∧ Dp K H y (.tuple ds) ∧ SeqAt.shaped d = true ∧ SeqAt.shaped (.tuple ds) = true ∧ Q (.bl (if neg then !ds.any fun z => PyData.eqv z d else ds.any fun z => PyData.eqv z d)) H
theorem op_notInDT {X : Cx} {K : PySem.W.Frag} (hK : X.K = K) (hu : X.A.units + 65 < cLine) : OpR X (compareOp .NotIn) (rInDT K true) := by
  subst hK
  intro pins s σ H x y v u Q I rx ry h
  obtain ⟨d, ds, hd, he, sd, se, q⟩ := h
  obtain ⟨as, r1⟩ := Dp.reads I d x v hd rx
  obtain ⟨bs, r2⟩ := Dp.reads I (.tuple ds) y u he ry
  exact SeqAt.notIn_tuple_reads r2 r1 (SeqAt.canLay_of_shaped se) (SeqAt.canLay_of_shaped sd) (room_in_shaped sd hu) ⟨.bl _, H, I, rfl, q⟩
theorem Reach.r60 {ws : List (List Int)} {R : Nat} (hN : NearR ws.length R) : R ≤ 60 := by
  rcases hN with ⟨_, h⟩ | ⟨_, h⟩ <;> omega
theorem Rchd.form {ws : List (List Int)} {R : Nat} {L : Sta} (hR : Rea ws R) (h : Rchd ws L) : FormL ws R L := by
  obtain ⟨cs, _, rfl⟩ := h
  exact runS_form hR cs
section
variable {P : Program} {w : World} {K : PySem.W.Frag} {mg : Str → Option Value} {base : Heap}
/-! ### _require_state, of a state -/
def spReqState (K : PySem.W.Frag) (C : Addr) : Sp := fun vs H Q _ => ∃ (a g : Addr) (ws : List (List Int)) (R : Nat) (W : Sta), vs = [.ref a, .ref g] ∧ LineAt K C H a ws ∧ Reach ws R ∧ NearR ws.length R ∧ StaAt H g W ∧ Rchd ws W ∧ ∀ H', Same H H' → Q .non H'
theorem ok_require_state {f f1 f2 f3 C : Addr} {fd fd1 fd2 fd3 : FuncData} {k : Nat} {ds : List Value} (F : Fun K "_require_state" "_require_state" s_require_state f fd)
    (G1 : FnOk P w K mg base CX0 k f1 fd1 ["line", "of_one", "of_several"] (spReqNear K C)) (kp1 : PySem.W.keepIn K (.ref f1) = true) (b1 : Vals [.int 8, .int 5] ds ∧ Binds K fd1 ["line", "of_one", "of_several"] ds) (g1 : mg "require_near" = some (.ref f1))
    (G2 : FnOk P w K mg base CX0 k f2 fd2 ["line", "thing"] (spHasForm K C)) (kp2 : PySem.W.keepIn K (.ref f2) = true) (b2 : Binds K fd2 ["line", "thing"] []) (g2 : mg "_has_form" = some (.ref f2))
    (G3 : FnOk P w K mg base CX0 k f3 fd3 ["line", "wanted"] (spReached K C)) (kp3 : PySem.W.keepIn K (.ref f3) = true) (b3 : Binds K fd3 ["line", "wanted"] []) (g3 : mg "_is_reached" = some (.ref f3)) :
    FnOk P w K mg base CX0 (k + 1) f fd ["line", "thing"] (spReqState K C) := by
  refine F.ok sc_require_state (fun vs H Q E h => ?_) (fun cdv A outer s H vs Q E hr h => ?_)
  · obtain ⟨a, g, ws, R, W, rfl, _⟩ := h; rfl
  · obtain ⟨a, g, ws, R, W, rfl, hL, hR, hN, hG, hW, q⟩ := h
    refine ⟨_, pss_cons (ps_expr (pe_call G1 hr (by rfl) g1 kp1 b1.2 b1.1 pass0 (pa_cons (pv 0) pa_nil)))
      (pss_one (ps_if (PW.pt (pw_or (pt_not (pt_val (pe_call G2 hr (by rfl) g2 kp2 b2 .nil pass0 (pa_cons (pv 0) (pa_cons (pv 1) pa_nil)))))
        (pw_or1 (pt_not (pt_val (pe_call G3 hr (by rfl) g3 kp3 b3 .nil pass0 (pa_cons (pv 0) (pa_cons (pv 1) pa_nil)))))))) (pss_one ps_never) pss_nil)), ?_⟩
    have R6 := Reach.r60 hN
    refine ⟨.ref a, rfl, a, ws, R, rfl, hL, hR, hN, .ref a, rfl, .ref g, rfl, a, g, ws, R, W, rfl, hL, hR, hG, hW.form hR.rea, R6, fun H1 e1 => ⟨true, rfl, iteF ?_⟩⟩
    exact ⟨.ref a, rfl, .ref g, rfl, a, g, ws, R, W, rfl, hL.stay (.of e1), hR, hN, hG.same e1, hW, fun H2 e2 => ⟨true, rfl, iteF (q H2 (e1.trans e2))⟩⟩
/-! ### choices, after -/
def spChoices (K : PySem.W.Frag) (C : Addr) : Sp := fun vs H Q _ => ∃ (a g : Addr) (ws : List (List Int)) (R : Nat) (W : Sta), vs = [.ref a, .ref g] ∧ LineAt K C H a ws ∧ Reach ws R ∧ NearR ws.length R ∧ StaAt H g W ∧ Rchd ws W ∧
  ∀ H' t, Same H H' → H' t = some (.tup (chV (openL ws W))) → Q (.ref t) H'
theorem ok_choices {f f1 f2 C : Addr} {fd fd1 fd2 : FuncData} {k : Nat} (F : Fun K "choices" "choices" s_choices f fd)
    (G1 : FnOk P w K mg base CX0 k f1 fd1 ["line", "thing"] (spReqState K C)) (kp1 : PySem.W.keepIn K (.ref f1) = true) (b1 : Binds K fd1 ["line", "thing"] []) (g1 : mg "_require_state" = some (.ref f1))
    (G2 : FnOk P w K mg base CX0 k f2 fd2 ["state"] (spOpen K)) (kp2 : PySem.W.keepIn K (.ref f2) = true) (b2 : Binds K fd2 ["state"] []) (g2 : mg "_open_choices" = some (.ref f2)) :
    FnOk P w K mg base CX0 (k + 1) f fd ["line", "state"] (spChoices K C) := by
  refine F.ok sc_choices (fun vs H Q E h => ?_) (fun cdv A outer s H vs Q E hr h => ?_)
  · obtain ⟨a, g, ws, R, W, rfl, _⟩ := h; rfl
  · obtain ⟨a, g, ws, R, W, rfl, hL, hR, hN, hG, hW, q⟩ := h
    refine ⟨_, pss_cons (ps_expr (pe_call G1 hr (by rfl) g1 kp1 b1 .nil pass0 (pa_cons (pv 0) (pa_cons (pv 1) pa_nil))))
      (pss_one (ps_ret (pe_call G2 hr (by rfl) g2 kp2 b2 .nil pass0 (pa_cons (pv 1) pa_nil)))), ?_⟩
    have R6 := Reach.r60 hN
    have few := hL.good.few
    refine ⟨.ref a, rfl, .ref g, rfl, a, g, ws, R, W, rfl, hL, hR, hN, hG, hW, fun H1 e1 => ?_⟩
    exact ⟨.ref g, rfl, g, ws, W, R, rfl, hG.same e1, hW.form hR.rea, R6, few, fun H2 t e2 _ ht => q H2 t (e1.trans e2) ht⟩
def spAfter (K : PySem.W.Frag) (C : Addr) : Sp := fun vs H Q _ => ∃ (a g : Addr) (ws : List (List Int)) (R : Nat) (W : Sta) (c : Option Nat), vs = [.ref a, .ref g, .int (chI c)] ∧ LineAt K C H a ws ∧ Reach ws R ∧ NearR ws.length R ∧ StaAt H g W ∧ Rchd ws W ∧ CanL ws W c ∧
  ∀ H' t, Same H H' → StaAt H' t (nextL ws W c) → Q (.ref t) H'
theorem inV_chs {ws : List (List Int)} {L : Sta} {c : Option Nat} : inV (.int (chI c)) (chV (openL ws L)) = true ↔ CanL ws L c := by
  rw [chV_chs, ← chs_can]
  unfold inV
  rw [List.any_eq_true]
  constructor
  · rintro ⟨v, hv, e⟩
    obtain ⟨b, hb, rfl⟩ := List.mem_map.mp hv
    have e' : chI b = chI c := by simpa [eqV] using e
    have : b = c := by
      cases b with
      | none => cases c with
        | none => rfl
        | some k => have h : (-1 : Int) = (k : Nat) := e'; omega
      | some j => cases c with
        | none => have h : ((j : Nat) : Int) = -1 := e'; omega
        | some k => have h : ((j : Nat) : Int) = (k : Nat) := e'; rw [show j = k by omega]
    rw [← this]; exact hb
  · intro h
    exact ⟨_, List.mem_map.mpr ⟨c, h, rfl⟩, by simp [eqV]⟩
theorem flat_chV (ks : List Nat) : (chV ks).all flatV = true := by
  show (flatV (V.int (-1)) && (nV ks).all flatV) = true
  rw [flat_nV]; rfl
theorem ok_after {f f1 f2 f3 f4 C : Addr} {fd fd1 fd2 fd3 fd4 : FuncData} {k : Nat} (F : Fun K "after" "after" s_after f fd)
    (G1 : FnOk P w K mg base CX0 k f1 fd1 ["line", "thing"] (spReqState K C)) (kp1 : PySem.W.keepIn K (.ref f1) = true) (b1 : Binds K fd1 ["line", "thing"] []) (g1 : mg "_require_state" = some (.ref f1))
    (G2 : FnOk P w K mg base CX0 k f2 fd2 ["thing"] spIsInt) (kp2 : PySem.W.keepIn K (.ref f2) = true) (b2 : Binds K fd2 ["thing"] []) (g2 : mg "is_int" = some (.ref f2))
    (G3 : FnOk P w K mg base CX0 k f3 fd3 ["state"] (spOpen K)) (kp3 : PySem.W.keepIn K (.ref f3) = true) (b3 : Binds K fd3 ["state"] []) (g3 : mg "_open_choices" = some (.ref f3))
    (G4 : FnOk P w K mg base CX0 k f4 fd4 ["line", "state", "choice"] (spBehind K C)) (kp4 : PySem.W.keepIn K (.ref f4) = true) (b4 : Binds K fd4 ["line", "state", "choice"] []) (g4 : mg "_behind" = some (.ref f4)) :
    FnOk P w K mg base CX0 (k + 1) f fd ["line", "state", "choice"] (spAfter K C) := by
  refine F.ok sc_after (fun vs H Q E h => ?_) (fun cdv A outer s H vs Q E hr h => ?_)
  · obtain ⟨a, g, ws, R, W, c, rfl, _⟩ := h; rfl
  · obtain ⟨a, g, ws, R, W, c, rfl, hL, hR, hN, hG, hW, hc, q⟩ := h
    refine ⟨_, pss_cons (ps_expr (pe_call G1 hr (by rfl) g1 kp1 b1 .nil pass0 (pa_cons (pv 0) (pa_cons (pv 1) pa_nil))))
      (pss_cons (ps_if (PW.pt (pw_or (pt_not (pt_val (pe_call G2 hr (by rfl) g2 kp2 b2 .nil pass0 (pa_cons (pv 2) pa_nil))))
        (pw_or1 (pt_cmpR (op_notInK (K := K) rfl) (pv 2) (pe_call G3 hr (by rfl) g3 kp3 b3 .nil pass0 (pa_cons (pv 1) pa_nil)) (by with_unfolding_all rfl))))) (pss_one ps_never) pss_nil)
      (pss_one (ps_ret (pe_call G4 hr (by rfl) g4 kp4 b4 .nil pass0 (pa_cons (pv 0) (pa_cons (pv 1) (pa_cons (pv 2) pa_nil))))))), ?_⟩
    have R6 := Reach.r60 hN
    have few := hL.good.few
    have hF := hW.form hR.rea
    refine ⟨.ref a, rfl, .ref g, rfl, a, g, ws, R, W, rfl, hL, hR, hN, hG, hW, fun H1 e1 => ?_⟩
    refine ⟨.int (chI c), rfl, chI c, rfl, true, rfl, iteF ?_⟩
    refine ⟨.int (chI c), rfl, .ref g, rfl, g, ws, W, R, rfl, hG.same e1, hF, R6, few, fun H2 t e2 _ ht => ?_⟩
    have e12 := e1.trans e2
    refine ⟨t, _, rfl, .inr (.inl (.inl ht)), rfl, flat_chV _, ?_⟩
    rw [if_pos rfl, inV_chs.mpr hc]
    refine ⟨false, rfl, iteF ?_⟩
    exact ⟨.ref a, rfl, .ref g, rfl, .int (chI c), rfl, a, g, ws, W, c, R, rfl, hL.stay (.of e12), hG.same e12, hR.rea, R6, hF, hc.lt, fun H3 t3 e3 _ ht3 => q H3 t3 (e12.trans e3) ht3⟩
end
end Sg

set_option Elab.async false
set_option linter.all false
set_option maxRecDepth 100000
set_option maxHeartbeats 4000000
namespace Sg
open PySem PySem.Spec PyProof.Rows L2 StX
/-! ## plans as choices -/
theorem good_of {n : Nat} {ps : List (Int × Nat)} (h1 : ps.length ≤ 60) (h2 : ∀ s ∈ ps, s.2 < n) (h3 : ∀ s ∈ ps, 0 ≤ s.1) (h4 : ps.Pairwise fun s t => s.1 < t.1) : GoodP n ps := by
  refine ⟨h1, h2, fun i s hi => ?_⟩
  cases i with
  | zero =>
    rw [leastAt_zero]
    exact h3 s (List.mem_of_getElem? hi)
  | succ i =>
    have hl := (List.getElem?_eq_some_iff.mp hi).1
    have hu : ps[i]? = some ps[i] := List.getElem?_eq_getElem (by omega)
    rw [leastAt_succ hu]
    have := List.pairwise_iff_getElem.mp h4 i (i + 1) (by omega) hl (by omega)
    rw [(List.getElem?_eq_some_iff.mp hi).2] at this
    omega
theorem GoodP.low0 {n : Nat} {ps : List (Int × Nat)} (h : GoodP n ps) : ∀ s ∈ ps, 0 ≤ s.1 := fun s hs => by
  obtain ⟨i, hi⟩ := List.mem_iff_getElem?.mp hs
  have key : ∀ (i : Nat) (s : Int × Nat), ps[i]? = some s → 0 ≤ s.1 := by
    intro i
    induction i with
    | zero => intro s hi; have := h.asc 0 s hi; rwa [leastAt_zero] at this
    | succ i ih =>
      intro s hi
      have hl := (List.getElem?_eq_some_iff.mp hi).1
      have hu : ps[i]? = some ps[i] := List.getElem?_eq_getElem (by omega)
      have h1 := h.asc (i + 1) s hi
      rw [leastAt_succ hu] at h1
      have := ih _ hu
      omega
  exact key i s hi
theorem GoodP.pw {n : Nat} {ps : List (Int × Nat)} (h : GoodP n ps) : ps.Pairwise fun s t => s.1 < t.1 := by
  rw [List.pairwise_iff_getElem]
  intro i j hi hj hij
  exact h.up j i _ _ hij (List.getElem?_eq_getElem hi) (List.getElem?_eq_getElem hj)
theorem GoodP.sub {n : Nat} {ps qs : List (Int × Nat)} (h : GoodP n ps) (s : qs.Sublist ps) : GoodP n qs :=
  good_of (Nat.le_trans s.length_le h.few) (fun x hx => h.kinds x (s.mem hx)) (fun x hx => h.low0 x (s.mem hx)) (h.pw.sublist s)
/-- what a plan starts in tick i -/
def chAt (ps : List (Int × Nat)) (i : Nat) : Option Nat := (ps.find? fun s => decide (s.1 = ((i : Nat) : Int))).map (·.2)
theorem chAt_iff {n : Nat} {ps : List (Int × Nat)} (h : GoodP n ps) {i o : Nat} : chAt ps i = some o ↔ (((i : Nat) : Int), o) ∈ ps := by
  unfold chAt
  constructor
  · intro e
    obtain ⟨s, hs, rfl⟩ := Option.map_eq_some_iff.mp e
    have h1 := List.find?_some hs
    have h2 := List.mem_of_find?_eq_some hs
    rw [decide_eq_true_eq] at h1
    rw [← h1]
    exact h2
  · intro hm
    have hs : (ps.find? fun s => decide (s.1 = ((i : Nat) : Int))).isSome = true := by
      rw [List.find?_isSome]
      exact ⟨_, hm, decide_eq_true rfl⟩
    obtain ⟨s, hs⟩ := Option.isSome_iff_exists.mp hs
    have h1 := List.find?_some hs
    have h2 := List.mem_of_find?_eq_some hs
    rw [decide_eq_true_eq] at h1
    rw [hs]
    have e : s = (((i : Nat) : Int), o) := by
      obtain ⟨a, ha⟩ := List.mem_iff_getElem?.mp h2
      obtain ⟨b, hb⟩ := List.mem_iff_getElem?.mp hm
      rcases Nat.lt_trichotomy a b with z | z | z
      · have := h.up b a _ _ z ha hb
        simp only at this
        omega
      · subst z
        rw [ha] at hb
        exact Option.some.inj hb
      · have := h.up a b _ _ z hb ha
        simp only at this
        omega
    rw [e]; rfl
def csOf (ps : List (Int × Nat)) (t : Nat) : List (Option Nat) := (List.range t).map (chAt ps)
theorem csOf_len (ps : List (Int × Nat)) (t : Nat) : (csOf ps t).length = t := by unfold csOf; rw [List.length_map, List.length_range]
theorem csOf_succ (ps : List (Int × Nat)) (t : Nat) : csOf ps (t + 1) = csOf ps t ++ [chAt ps t] := by unfold csOf; rw [List.range_succ, List.map_append]; rfl
theorem csOf_at {ps : List (Int × Nat)} {t i : Nat} {c : Option Nat} : (csOf ps t)[i]? = some c ↔ i < t ∧ chAt ps i = c := by
  unfold csOf
  rw [List.getElem?_map]
  by_cases h : i < t
  · rw [List.getElem?_range h]
    simp [h]
  · rw [List.getElem?_eq_none (by rw [List.length_range]; omega)]
    simp [h]
/-- the pieces before a tick: how many ticks ago, which kind -/
def agosOf (ps : List (Int × Nat)) (t : Int) : List (Int × Nat) := (ps.filter fun s => decide (s.1 < t)).map fun s => (t - s.1, s.2)
def stAt (ws : List (List Int)) (ps : List (Int × Nat)) (t : Nat) : Sta := (List.range ws.length).map fun k => ascL (delAll ws k (agosOf ps t))
theorem agos_mem {ps : List (Int × Nat)} {t : Int} {x : Int × Nat} : x ∈ agosOf ps t ↔ ∃ s ∈ ps, s.1 < t ∧ x = (t - s.1, s.2) := by
  unfold agosOf
  rw [List.mem_map]
  constructor
  · rintro ⟨s, hs, rfl⟩
    obtain ⟨h1, h2⟩ := List.mem_filter.mp hs
    exact ⟨s, h1, of_decide_eq_true h2, rfl⟩
  · rintro ⟨s, h1, h2, rfl⟩
    exact ⟨s, List.mem_filter.mpr ⟨h1, decide_eq_true h2⟩, rfl⟩
theorem del_in {ws : List (List Int)} {R : Nat} (hR : Rea ws R) {ps : List (Int × Nat)} {t : Int} {k : Nat} : ∀ z ∈ delAll ws k (agosOf ps t), 0 ≤ z ∧ z < R := by
  intro z hz
  obtain ⟨s, hs, b, hb, h1, rfl⟩ := delAll_mem.mp hz
  obtain ⟨u, hu, h2, rfl⟩ := agos_mem.mp hs
  have := hR _ _ _ hb
  simp only at h1 ⊢
  omega
theorem stAt_form {ws : List (List Int)} {R : Nat} (hR : Rea ws R) (ps : List (Int × Nat)) (t : Nat) : FormL ws R (stAt ws ps t) := by
  unfold stAt
  refine ⟨by rw [List.length_map, List.length_range], fun x hx => ?_, fun x hx d hd => ?_⟩
  · obtain ⟨k, _, rfl⟩ := List.mem_map.mp hx
    exact ⟨_, rfl⟩
  · obtain ⟨k, _, rfl⟩ := List.mem_map.mp hx
    have := del_in hR _ (ascL_mem.mp hd).2
    omega
theorem stAt_row {ws : List (List Int)} {ps : List (Int × Nat)} {t k : Nat} (h : k < ws.length) : rowS (stAt ws ps t) k = ascL (delAll ws k (agosOf ps t)) := by
  unfold rowS stAt
  rw [List.getD_eq_getElem?_getD, List.getElem?_map, List.getElem?_range h]; rfl
/-- what is barred in a tick: by each piece before it -/
theorem stAt_mem {ws : List (List Int)} {R : Nat} (hR : Rea ws R) (R6 : R ≤ 60) {ps : List (Int × Nat)} {t k d : Nat} : d ∈ rowS (stAt ws ps t) k ↔ k < ws.length ∧ ∃ s ∈ ps, s.1 < t ∧ ∃ b ∈ barsN (wkS ws s.2) (wkS ws k), (b : Int) = d + (t - s.1) := by
  constructor
  · intro hd
    obtain ⟨_, hk⟩ := rowS_mem hd
    rw [(stAt_form hR ps t).len] at hk
    rw [stAt_row hk] at hd
    obtain ⟨x, hx, b, hb, h1, h2⟩ := delAll_mem.mp (ascL_mem.mp hd).2
    obtain ⟨s, hs, h3, rfl⟩ := agos_mem.mp hx
    exact ⟨hk, s, hs, h3, b, hb, by simp only at h1 h2; omega⟩
  · rintro ⟨hk, s, hs, h3, b, hb, e⟩
    rw [stAt_row hk]
    have := hR _ _ _ hb
    refine ascL_mem.mpr ⟨by omega, delAll_mem.mpr ⟨(t - s.1, s.2), agos_mem.mpr ⟨s, hs, h3, rfl⟩, b, hb, ?_, ?_⟩⟩
    · simp only; omega
    · simp only; omega
theorem stAt_run {n : Nat} {ws : List (List Int)} {R : Nat} (hR : Rea ws R) (R6 : R ≤ 60) {ps : List (Int × Nat)} (hg : GoodP n ps) (t : Nat) : stAt ws ps t = runS ws (csOf ps t) := by
  refine row_eq (stAt_form hR ps t) (runS_form hR _) fun k d => ?_
  rw [stAt_mem hR R6, row_run hR R6]
  unfold Due1
  rw [csOf_len]
  refine and_congr_right fun hk => ?_
  constructor
  · rintro ⟨s, hs, h1, b, hb, e⟩
    have h0 := hg.low0 s hs
    refine ⟨s.1.toNat, s.2, csOf_at.mpr ⟨by omega, (chAt_iff hg).mpr ?_⟩, ?_⟩
    · rw [Int.toNat_of_nonneg h0]; exact hs
    · rw [show d + (t - s.1.toNat) = b by omega]; exact hb
  · rintro ⟨i, o, h1, h2⟩
    obtain ⟨h3, h4⟩ := csOf_at.mp h1
    exact ⟨_, (chAt_iff hg).mp h4, by simp only; omega, _, h2, by simp only; omega⟩
theorem take_csOf {ps : List (Int × Nat)} {t i : Nat} (h : i ≤ t) : (csOf ps t).take i = csOf ps i := by
  unfold csOf
  rw [← List.map_take, List.take_range, Nat.min_eq_left h]
section
variable {P : Program} {w : World} {K : PySem.W.Frag} {mg : Str → Option Value} {base : Heap}
/-! ### state_at -/
theorem start_at {K : PySem.W.Frag} {H : Hp} {us : List V} {ps : List (Int × Nat)} {i : Nat} {x : V} (hT : TpAll K H us (planD ps)) (hx : us[i]? = some x) : ∃ c s, ps[i]? = some s ∧ x = .ref c ∧ SqT K H c [.int s.1, .int (s.2 : Nat)] := by
  obtain ⟨dd, hdd, tt⟩ := hT.at hx
  rw [List.getElem?_map] at hdd
  obtain ⟨s, hs, rfl⟩ := Option.map_eq_some_iff.mp hdd
  obtain ⟨c, rfl, hc⟩ := Tp.toInts (ns := [s.1, (s.2 : Nat)]) tt
  exact ⟨c, s, hs, rfl, hc⟩
def spStateAt (K : PySem.W.Frag) (C : Addr) : Sp := fun vs H Q _ => ∃ (a b : Addr) (ws : List (List Int)) (R : Nat) (ps : List (Int × Nat)) (t : Nat), vs = [.ref a, .ref b, .int (t : Nat)] ∧ LineAt K C H a ws ∧ Reach ws R ∧ R ≤ 60 ∧ Tp K H (.ref b) (.tuple (planD ps)) ∧ GoodP ws.length ps ∧
  ∀ H' x, Same H H' → StaAt H' x (stAt ws ps t) → Q (.ref x) H'
abbrev staN : List Str := ["line", "plan", "tick", "started", "start", "kind"]
theorem ok_state_at {f f1 f2 f3 f4 C : Addr} {fd fd1 fd2 fd3 fd4 : FuncData} {k : Nat} (F : Fun K "state_at" "state_at" s_state_at f fd) (M : Meths P w K mg base k C)
    (G1 : FnOk P w K mg base CX0 (k + 3) f1 fd1 ["line", "thing"] (spReqPlan K C)) (kp1 : PySem.W.keepIn K (.ref f1) = true) (b1 : Binds K fd1 ["line", "thing"] []) (g1 : mg "require_plan" = some (.ref f1))
    (G2 : FnOk P w K mg base CX0 (k + 3) f2 fd2 ["thing"] spIsInt) (kp2 : PySem.W.keepIn K (.ref f2) = true) (b2 : Binds K fd2 ["thing"] []) (g2 : mg "is_int" = some (.ref f2))
    (G3 : FnOk P w K mg base CX0 (k + 3) f3 fd3 ["line", "started", "kind"] (spDelays K C)) (kp3 : PySem.W.keepIn K (.ref f3) = true) (b3 : Binds K fd3 ["line", "started", "kind"] []) (g3 : mg "_delays" = some (.ref f3))
    (G4 : FnOk P w K mg base CX0 (k + 3) f4 fd4 ["numbers"] (spAsc K)) (kp4 : PySem.W.keepIn K (.ref f4) = true) (b4 : Binds K fd4 ["numbers"] []) (g4 : mg "_ascending" = some (.ref f4))
    (m1 : mg "tuple" = none) (m2 : mg "range" = none) (m3 : mg "len" = none) : FnOk P w K mg base CX0 (k + 4) f fd ["line", "plan", "tick"] (spStateAt K C) := by
  refine F.ok sc_state_at (fun vs H Q E h => ?_) (fun cdv A outer s H vs Q E hr h => ?_)
  · obtain ⟨a, b, ws, R, ps, t, rfl, _⟩ := h; rfl
  · obtain ⟨a, b, ws, R, ps, t, rfl, hL, hR, R6, hP, hg, q⟩ := h
    refine ⟨_, pss_cons (ps_expr (pe_call G1 hr (by rfl) g1 kp1 b1 .nil pass0 (pa_cons (pv 0) (pa_cons (pv 1) pa_nil))))
      (pss_cons (ps_if (PW.pt (pw_or (pt_not (pt_val (pe_call G2 hr (by rfl) g2 kp2 b2 .nil pass0 (pa_cons (pv 2) pa_nil)))) (pw_or1 (pt_cmpR op_lt (pv 2) pe_int (nomark _))))) (pss_one ps_never) pss_nil)
      (pss_cons (ps_set (i := 3) sc_state_at.nd rfl (.inr rfl) (pe_lc (own := [("start", 4), ("kind", 5)]) (g := gTup K 2 (gCons (gName 4) (gCons (gName 5) gNil))) rfl sc_state_at.nd (pi_tup (pv 1))
          (blkOk_by (N := staN) (sc := defScope s_state_at) (by decide +kernel))
          (fun _ _ _ _ _ => pg_tup rfl (pgs_cons (pg_name (i := 4) sc_state_at.nd rfl (Or.inl rfl)) (pgs_cons (pg_name (i := 5) sc_state_at.nd rfl (Or.inl rfl)) pgs_nil)))
          (fun _ _ _ _ _ => pts_one (pt_cmpR op_lt (pv 4) (pv 2) (nomark _)))
          (fun _ _ _ _ _ => pe_tup (pa_cons (pe_op op_sub (pv 2) (pv 4)) (pa_cons (pv 5) pa_nil)))))
      (pss_one (ps_ret (pe_callTy call_tuple_of (by rfl) m1 (by decide +kernel) (pa_cons
        (pe_lc (own := [("kind", 5)]) (g := gName 5) (tt := tYes) rfl sc_state_at.nd (pi_range1 (by rfl) m2 (pa_cons (pe_callB (cLenK (K := K) M rfl (hr.mono (by omega))) (by rfl) m3 PySem.boot_len (pa_cons (pv 0) pa_nil)) pa_nil))
          (blkOk_by (N := staN) (sc := defScope s_state_at) (by decide +kernel))
          (fun _ _ _ _ _ => pg_name (i := 5) sc_state_at.nd rfl (Or.inl rfl)) (fun _ _ _ _ _ => pts_nil)
          (fun _ _ _ _ _ => pe_call G4 hr (by rfl) g4 kp4 b4 .nil pass0 (pa_cons (pe_call G3 hr (by rfl) g3 kp3 b3 .nil pass0 (pa_cons (pv 0) (pa_cons (pv 3) (pa_cons (pv 5) pa_nil)))) pa_nil))) pa_nil)))))), ?_⟩
    have big : 4000 ≤ sizeLine := by rw [sizeLine_eq]; decide
    have few := hL.good.few
    have f60 := hg.few
    obtain ⟨_, xs, e0, hS, hT⟩ := hP.toTup
    cases e0
    have lx := hT.len
    rw [List.length_map] at lx
    refine ⟨.ref a, rfl, .ref b, rfl, a, b, ws, ps, rfl, hL, hP, hg, ?_⟩
    refine ⟨.int (t : Nat), rfl, (t : Nat), rfl, true, rfl, iteF ?_⟩
    refine ⟨.int (t : Nat), rfl, _, _, rfl, rfl, false, congrArg V.bl (decide_eq_false (show ¬ ((t : Nat) : Int) < 0 by omega)), iteF ?_⟩
    -- the started ones
    refine ⟨.ref b, rfl, b, rfl, ⟨_, hS⟩, fun D nD => ?_⟩
    refine lc_tup (xs := xs) (fun i H' => Same H H' ∧ ∃ us, H' D = some (.lst us) ∧ TpAll K H' us ((agosOf (ps.take i) t).map pairD)) ⟨same_new nD, [], upd_same, .no⟩ (fun i H' _ h => Same.tup h.1 hS) (fun i x H2 hx h => ?_) (fun H2 h => ?_)
    · obtain ⟨e2, us, hD2, hTA⟩ := h
      obtain ⟨c, s, hs, rfl, hc⟩ := start_at hT hx
      have hil := (List.getElem?_eq_some_iff.mp hs).1
      have lus : us.length ≤ 60 := by
        rw [hTA.len, List.length_map]
        unfold agosOf
        rw [List.length_map]
        refine Nat.le_trans (List.length_filter_le _ _) ?_
        rw [List.length_take]; omega
      refine ⟨c, _, rfl, Same.tup e2 hc, rfl, _, _, rfl, _, _, rfl, rfl, rfl, .int s.1, rfl, .int (t : Nat), rfl, _, _, rfl, rfl, _, rfl, ite2 (fun e => ?_) (fun e => ?_)⟩
      · have e' : s.1 < (t : Nat) := of_decide_eq_true e
        have etk : agosOf (ps.take (i + 1)) t = agosOf (ps.take i) t ++ [(((t : Nat) : Int) - s.1, s.2)] := by
          rw [List.take_add_one, hs]
          unfold agosOf
          rw [List.filter_append, List.map_append]
          congr 1
          show List.map _ (List.filter (fun s : Int × Nat => decide (s.1 < ((t : Nat) : Int))) [s]) = _
          rw [List.filter_cons_of_pos (a := s) (by simpa using e')]; rfl
        refine ⟨.int (t : Nat), rfl, .int s.1, rfl, _, _, rfl, rfl, .int (s.2 : Nat), rfl, by show 2 ≤ sizeLine; omega, fun T nT => ?_⟩
        have eT := same_new (o := .tup [V.int (((t : Nat) : Int) - s.1), .int (s.2 : Nat)]) nT
        have hTT := upd_same (H := H2) (a := T) (o := .tup [V.int (((t : Nat) : Int) - s.1), .int (s.2 : Nat)])
        have hD3 := eT _ _ hD2
        have e3 := e2.trans eT
        have hTA3 := hTA.stay (.of eT)
        generalize L2.upd H2 T (.tup [V.int (((t : Nat) : Int) - s.1), .int (s.2 : Nat)]) = H3 at eT hTT hD3 e3 hTA3 ⊢
        have all3 : TpAll K H3 (us ++ [.ref T]) ((agosOf (ps.take (i + 1)) t).map pairD) := by
          rw [etk, List.map_append]
          exact hTA3.add (.on (Tp.ofInts (ns := [((t : Nat) : Int) - s.1, (s.2 : Nat)]) (.of hTT)) .no)
        refine ⟨us, hD3, by omega, fun y o z => ?_, _, upd_same, all3.stayT (fun _ _ z => tup_upd hD3 (fun _ z => nomatch z) (fun _ _ z => nomatch z) z)⟩
        rw [upd_ne (ne_of_none z nD)]
        exact e3 _ _ z
      · have e' : ¬ s.1 < (t : Nat) := fun z => e (decide_eq_true z)
        have etk : agosOf (ps.take (i + 1)) t = agosOf (ps.take i) t := by
          rw [List.take_add_one, hs]
          unfold agosOf
          rw [List.filter_append]
          show ((List.filter _ (ps.take i)) ++ (List.filter _ [s])).map _ = _
          rw [List.filter_cons_of_neg (a := s) (by simpa using e'), List.filter_nil, List.append_nil]
        refine ⟨e2, us, hD2, ?_⟩
        rw [etk]; exact hTA
    · obtain ⟨e2, us, hD2, hTA⟩ := h
      rw [lx, List.take_length] at hTA
      have lag : (agosOf ps t).length ≤ 60 := by
        unfold agosOf
        rw [List.length_map]
        exact Nat.le_trans (List.length_filter_le _ _) f60
      have hkin : ∀ s ∈ agosOf ps t, s.2 < ws.length := fun s hs => by
        obtain ⟨u, hu, _, rfl⟩ := agos_mem.mp hs
        exact hg.kinds u hu
      refine ⟨.ref a, rfl, a, ws, rfl, hL.stay (.of e2), _, rfl, by omega, by omega, fun L nL => ?_⟩
      have nLH : H L = none := freeS e2 nL
      have nDL : D ≠ L := ne_of_none hD2 nL
      refine lc_range (lo := 0) (n := ((ws.length : Nat) : Int).toNat) (fun i H' => Same H H' ∧ H' D = some (.lst us) ∧ TpAll K H' us ((agosOf ps t).map pairD) ∧ ∃ vs, H' L = some (.lst vs) ∧ RowsAt H' vs ((List.range i).map fun k => ascL (delAll ws k (agosOf ps t))))
        ⟨e2.trans (same_new nL), by rw [upd_ne nDL]; exact hD2, hTA.stay (.of (same_new nL)), [], upd_same, .nil⟩ (fun i H3 hi h => ?_) (fun H3 h => ?_)
      · obtain ⟨e3, hD3, hT3, vs, hL3, hV3⟩ := h
        have hiw : i < ws.length := by omega
        refine ⟨rfl, .ref a, rfl, .ref D, rfl, .int (0 + (i : Nat)), rfl, a, D, ws, agosOf ps t, us, i, by rw [Int.zero_add]; rfl, hL.stay (.of e3), hD3, hT3, hkin, hiw, lag, fun H4 l e4 nl hl => ?_⟩
        refine ⟨l, delAll ws i (agosOf ps t), rfl, .inl (.inl hl), ?_, fun z hz => ?_, fun H5 x e5 nx hx => ?_⟩
        · have key : ∀ (ss : List (Int × Nat)), (delAll ws i ss).length ≤ 60 * ss.length := by
            intro ss
            induction ss with
            | nil => exact Nat.le_refl _
            | cons s r ih =>
              show (delOne i s.1 (barsN (wkS ws s.2) (wkS ws i)) ++ delAll ws i r).length ≤ _
              rw [List.length_append, List.length_cons]
              have h1 : (delOne i s.1 (barsN (wkS ws s.2) (wkS ws i))).length ≤ 60 := by
                rw [List.length_map]
                refine Nat.le_trans (List.length_filter_le _ _) (barsN_len60 ?_)
                unfold wkS
                rw [List.getD_eq_getElem?_getD]
                rcases e : ws[s.2]? with _ | x
                · exact Nat.zero_le _
                · exact (hL.good.work x (List.mem_of_getElem? e)).most
              omega
          have := key (agosOf ps t)
          omega
        · have := del_in hR.rea z hz
          omega
        · have e45 := e4.trans e5
          have hL5 := e45 _ _ hL3
          have lvs := hV3.len
          rw [List.length_map, List.length_range] at lvs
          have hV5 := (hV3.keep fun _ _ z => e45 _ _ z).add hx
          refine ⟨vs, hL5, by omega, fun y o z => ?_, ?_, ?_, _, upd_same, ?_⟩
          · rw [upd_ne (ne_of_none z nLH)]
            exact e45 _ _ (e3 _ _ z)
          · rw [upd_ne nDL]
            exact e45 _ _ hD3
          · exact (hT3.stay (.of e45)).stayT (fun _ _ z => tup_upd hL5 (fun _ z => nomatch z) (fun _ _ z => nomatch z) z)
          · rw [List.range_succ, List.map_append]
            exact hV5.keep fun x us z => by
              rw [upd_ne (ne_of z hL5 (fun c => nomatch c))]; exact z
      · obtain ⟨e3, hD3, hT3, vs, hL3, hV3⟩ := h
        rw [show ((ws.length : Nat) : Int).toNat = ws.length from rfl] at hV3
        refine ⟨L, _, rfl, .inl ⟨.of hL3, fun x nx => ?_⟩⟩
        have ex := same_new (o := .tup vs) nx
        exact q _ x (e3.trans ex) ⟨vs, upd_same, hV3.keep fun _ _ z => ex _ _ z⟩
end
end Sg

set_option Elab.async false
set_option linter.all false
set_option maxRecDepth 100000
set_option maxHeartbeats 4000000
namespace Sg
open PySem PySem.Spec PyProof.Rows L2 StX
section
variable {P : Program} {w : World} {K : PySem.W.Frag} {mg : Str → Option Value} {base : Heap}
/-! ### _law_work -/
def spWork : Sp := fun vs H Q _ => ∃ (p : Addr) (m st : Int), vs = [.ref p, .int m, .int st] ∧ PenAt H p ∧ 1 ≤ m ∧ m ≤ 60 ∧ 1 ≤ st ∧ st ≤ 10 ∧
  ∀ H' t (ns : List Int), PenAt H' p → But p H H' → H t = none → H' t = some (.tup (ns.map V.int)) → IsWork ns → (ns.length : Int) ≤ m → (∀ x ∈ ns, x < st) → Q (.ref t) H'
theorem ok_l_work {f f1 : Addr} {fd fd1 : FuncData} {k : Nat} (F : Fun K "_law_work" "_law_work" s_l_work f fd)
    (G1 : FnOk P w K mg base CX0 k f1 fd1 ["_law_pen_here", "_law_many"] spDraw) (kp1 : PySem.W.keepIn K (.ref f1) = true) (b1 : Binds K fd1 ["_law_pen_here", "_law_many"] []) (g1 : mg "_law_draw" = some (.ref f1))
    (m1 : mg "range" = none) (m2 : mg "tuple" = none) :
    FnOk P w K mg base CX0 (k + 1) f fd ["_law_pen_here", "_law_most", "_law_stations"] spWork := by
  refine F.ok sc_l_work (fun vs H Q E h => ?_) (fun cdv A outer s H vs Q E hr h => ?_)
  · obtain ⟨p, m, st, rfl, _⟩ := h; rfl
  · obtain ⟨p, m, st, rfl, hp, hm1, hm2, hs1, hs2, q⟩ := h
    refine ⟨_, pss_cons (ps_asg (pe_tup (pa_cons (pe_call G1 hr (by rfl) g1 kp1 b1 .nil pass0 (pa_cons (pv 0) (pa_cons pe_int pa_nil)))
        (pa_cons (pe_op op_add pe_int (pe_call G1 hr (by rfl) g1 kp1 b1 .nil pass0 (pa_cons (pv 0) (pa_cons (pv 1) pa_nil)))) pa_nil)))
        (pg_tup rfl (pgs_cons (pg_name (i := 3) sc_l_work.nd rfl (.inr rfl)) (pgs_cons (pg_name (i := 4) sc_l_work.nd rfl (.inl rfl)) pgs_nil))))
      (pss_cons (ps_setLc (i := 5) (own := [("_law_turn", 6)]) (g := gName 6) (tt := tYes) rfl sc_l_work.nd rfl rfl (sw_true rfl rfl rfl (by decide +kernel)) (pi_range1 (by rfl) m1 (pa_cons (pv 4) pa_nil))
          (blkOk_by (N := ["_law_pen_here", "_law_most", "_law_stations", "_law_way", "_law_long", "_law_items", "_law_turn"]) (sc := defScope s_l_work) (by decide +kernel))
          (fun _ _ _ _ _ => pg_name (i := 6) sc_l_work.nd rfl (Or.inl rfl)) (fun _ _ _ _ _ => pts_nil)
          (fun _ _ _ _ _ => pe_ifExp (pt_cmpR op_ge (pe_call G1 hr (by rfl) g1 kp1 b1 .nil pass0 (pa_cons (pv 0) (pa_cons pe_int pa_nil))) (pv 3) (nomark _))
            (pe_call G1 hr (by rfl) g1 kp1 b1 .nil pass0 (pa_cons (pv 0) (pa_cons (pv 2) pa_nil))) (pe_un un_neg pe_int)))
      (pss_cons (ps_asg (pe_tup (pa_cons (pe_call G1 hr (by rfl) g1 kp1 b1 .nil pass0 (pa_cons (pv 0) (pa_cons (pv 2) pa_nil))) (pa_cons (pe_call G1 hr (by rfl) g1 kp1 b1 .nil pass0 (pa_cons (pv 0) (pa_cons (pv 2) pa_nil))) pa_nil)))
        (pg_tup rfl (pgs_cons (pg_sub (pv 5) pe_int set_list) (pgs_cons (pg_sub (pv 5) (pe_un un_neg pe_int) set_list) pgs_nil))))
      (pss_one (ps_ret (pe_callTy call_tuple_of (by rfl) m2 (by decide +kernel) (pa_cons (pv 5) pa_nil)))))), ?_⟩
    refine ⟨.ref p, rfl, p, 3, rfl, hp, by decide, by decide, fun H1 way a1 a2 p1 e1 => ?_⟩
    refine ⟨.ref p, rfl, .int m, rfl, p, m, rfl, p1, by omega, by omega, fun H2 l0 a3 a4 p2 e2 => ?_⟩
    refine ⟨1, l0, rfl, rfl, by show 2 ≤ sizeLine; decide, fun T nT => ?_⟩
    have e12 := e1.trans e2
    have p3 : PenAt (upd H2 T (.tup [.int way, .int (1 + l0)])) p := p2.upd (p2.ne nT)
    have e3 : But p H (upd H2 T (.tup [.int way, .int (1 + l0)])) := e12.trans (.of (same_new nT))
    refine ⟨T, _, rfl, .of upd_same, rfl, _, _, rfl, _, _, rfl, rfl, ?_⟩
    generalize hH3 : upd H2 T (.tup [.int way, .int (1 + l0)]) = H3 at p3 e3 ⊢
    refine ⟨.int (1 + l0), rfl, 1 + l0, rfl, by omega, by omega, fun D hD => ?_⟩
    have n3 : p ≠ D := p3.ne hD
    refine lc_range (lo := 0) (n := (1 + l0).toNat) (fun i H' => PenAt H' p ∧ But p H3 H' ∧ ∃ ns : List Int, ns.length = i ∧ (∀ x ∈ ns, -1 ≤ x ∧ x < st) ∧ H' D = some (.lst (ns.map V.int)))
      ⟨p3.upd n3, .of (same_new hD), [], rfl, (fun x hx => nomatch hx), upd_same⟩ (fun i H' hi h => ?_) (fun H' h => ?_)
    · obtain ⟨p4, e4, ns, hlen, hall, hDl⟩ := h
      refine ⟨rfl, ?_⟩
      have fin : ∀ (H'' : Hp) (r : Int), PenAt H'' p → But p H' H'' → -1 ≤ r → r < st → ∃ acc, H'' D = some (.lst acc) ∧ acc.length < sizeLine ∧
          (PenAt (upd H'' D (.lst (acc ++ [V.int r]))) p ∧ But p H3 (upd H'' D (.lst (acc ++ [V.int r]))) ∧ ∃ ns : List Int, ns.length = i + 1 ∧ (∀ x ∈ ns, -1 ≤ x ∧ x < st) ∧ (upd H'' D (.lst (acc ++ [V.int r]))) D = some (.lst (ns.map V.int))) := by
        intro H'' r p5 e5 r1 r2
        have hD5 := e5 _ _ (Ne.symm n3) hDl
        refine ⟨_, hD5, ?_, p5.upd n3, fun b o n e => ?_, ns ++ [r], ?_, fun x hx => ?_, ?_⟩
        · rw [List.length_map]
          exact small1000 (by omega)
        · rw [upd_ne (ne_of_none e hD)]
          exact e5 _ _ n (e4 _ _ n e)
        · rw [List.length_append]; show ns.length + 1 = i + 1; omega
        · rcases List.mem_append.mp hx with z | z
          · exact hall x z
          · rw [List.mem_singleton.mp z]; exact ⟨r1, r2⟩
        · rw [upd_same, List.map_append]; rfl
      refine ⟨.ref p, rfl, p, 3, rfl, p4, by decide, by decide, fun H5 r b1 b2 p5 e5 => ?_⟩
      refine ⟨.int way, rfl, r, way, rfl, rfl, _, rfl, ite2 (fun _ => ?_) (fun _ => ?_)⟩
      · exact ⟨.ref p, rfl, .int st, rfl, p, st, rfl, p5, by omega, by omega, fun H6 r' c1 c2 p6 e6 => fin H6 r' p6 (e5.trans e6) (by omega) c2⟩
      · exact ⟨1, rfl, fin H5 (-1) p5 e5 (by omega) (by omega)⟩
    · obtain ⟨p4, e4, ns, hlen, hall, hDl⟩ := h
      refine ⟨.ref p, rfl, .int st, rfl, p, st, rfl, p4, by omega, by omega, fun H5 r c1 c2 p5 e5 => ?_⟩
      refine ⟨.ref p, rfl, .int st, rfl, p, st, rfl, p5, by omega, by omega, fun H6 r' c3 c4 p6 e6 => ?_⟩
      refine ⟨by show 2 ≤ sizeLine; decide, fun U nU => ?_⟩
      have hD6 := (e5.trans e6) _ _ (Ne.symm n3) hDl
      have nDU : D ≠ U := ne_of_none hD6 nU
      have hl0 : 0 < ns.length := by omega
      have hpos : ((ns.map V.int).length : Nat) = ns.length := by rw [List.length_map]
      refine ⟨U, _, rfl, .of upd_same, rfl, _, _, rfl, ?_⟩
      have hD7 : (upd H6 U (.tup [.int r, .int r'])) D = some (.lst (ns.map V.int)) := by rw [upd_ne nDU]; exact hD6
      have ix0 : ixN (ns.map V.int).length 0 = some 0 := by
        unfold ixN
        rw [if_pos (by decide), if_pos (by rw [hpos]; omega)]; rfl
      refine ⟨.ref D, rfl, D, _, 0, 0, rfl, rfl, hD7, ix0, ?_⟩
      have hD8 : (upd (upd H6 U (.tup [.int r, .int r'])) D (.lst ((ns.map V.int).set 0 (.int r)))) D = some (.lst ((ns.map V.int).set 0 (.int r))) := upd_same
      have ix1 : ixN ((ns.map V.int).set 0 (.int r)).length (-1) = some (ns.length - 1) := by
        unfold ixN
        rw [List.length_set, hpos, if_neg (by decide), if_pos (by omega)]
        congr 1
        omega
      refine ⟨_, _, rfl, .ref D, rfl, 1, rfl, D, _, -1, ns.length - 1, rfl, rfl, hD8, ix1, rfl, ?_⟩
      have eL : (((ns.map V.int).set 0 (.int r)).set (ns.length - 1) (.int r')) = (((ns.set 0 r).set (ns.length - 1) r').map V.int) := by rw [List.map_set, List.map_set]
      rw [eL]
      have hD9 : (upd (upd (upd H6 U (.tup [.int r, .int r'])) D (.lst ((ns.map V.int).set 0 (.int r)))) D (.lst (((ns.set 0 r).set (ns.length - 1) r').map V.int))) D = some (.lst (((ns.set 0 r).set (ns.length - 1) r').map V.int)) := upd_same
      have mem : ∀ x ∈ ((ns.set 0 r).set (ns.length - 1) r'), -1 ≤ x ∧ x < st := by
        intro x hx
        rcases List.mem_or_eq_of_mem_set hx with z | z
        · rcases List.mem_or_eq_of_mem_set z with z | z
          · exact hall x z
          · rw [z]; exact ⟨by omega, c2⟩
        · rw [z]; exact ⟨by omega, c4⟩
      have len' : ((ns.set 0 r).set (ns.length - 1) r').length = ns.length := by rw [List.length_set, List.length_set]
      refine ⟨.ref D, rfl, D, _, rfl, .inl ⟨.of hD9, fun t nt => ?_⟩⟩
      refine q _ t ((ns.set 0 r).set (ns.length - 1) r') ?_ ?_ ?_ upd_same ⟨by omega, by omega, fun x hx => ?_, fun x hx => ?_, fun x hx => ?_⟩ (by omega) (fun x hx => (mem x hx).2)
      · refine PenAt.upd (PenAt.upd (PenAt.upd (p6.upd (p6.ne nU)) n3) n3) (PenAt.ne (PenAt.upd (PenAt.upd (p6.upd (p6.ne nU)) n3) n3) nt)
      · refine fun b o n e => ?_
        have z := (e5.trans e6) _ _ n (e4 _ _ n (e3 _ _ n e))
        have nbD : b ≠ D := ne_of_none (e3 _ _ n e) hD
        have nbU : b ≠ U := ne_of_none z nU
        rw [upd_ne (ne_of_none (show (upd (upd (upd H6 U (.tup [.int r, .int r'])) D (.lst ((ns.map V.int).set 0 (.int r)))) D (.lst (((ns.set 0 r).set (ns.length - 1) r').map V.int))) b = some o by rw [upd_ne nbD, upd_ne nbD, upd_ne nbU]; exact z) nt), upd_ne nbD, upd_ne nbD, upd_ne nbU]
        exact z
      · -- t is new
        have nt6 : H6 t = none := by
          have z := nt
          have htD : t ≠ D := fun z' => by rw [z', hD9] at z; exact nomatch z
          rw [upd_ne htD, upd_ne htD] at z
          by_cases htU : t = U
          · rw [htU]; exact nU
          · rwa [upd_ne htU] at z
        exact hp.free p6 (e3.trans (e4.trans (e5.trans e6))) nt6
      · exact ⟨(mem x hx).1, by have := (mem x hx).2; omega⟩
      · have : x = r ∨ x = r' := by
          rw [List.getElem?_set] at hx
          split at hx
          · rw [if_pos (by rw [List.length_set]; omega)] at hx
            exact .inr (Option.some.inj hx).symm
          · rw [List.getElem?_set, if_pos rfl, if_pos hl0] at hx
            exact .inl (Option.some.inj hx).symm
        omega
      · rw [len', List.getElem?_set, if_pos rfl, if_pos (by rw [List.length_set]; omega)] at hx
        have := Option.some.inj hx
        omega
theorem len_cases {ws : List (List Int)} (h : GoodL ws) : (∃ a, ws = [a]) ∨ (∃ a b, ws = [a, b]) ∨ ∃ a b c, ws = [a, b, c] := by
  have h1 := h.least
  have h2 := h.few
  match ws, h1, h2 with
  | [a], _, _ => exact .inl ⟨a, rfl⟩
  | [a, b], _, _ => exact .inr (.inl ⟨a, b, rfl⟩)
  | [a, b, c], _, _ => exact .inr (.inr ⟨a, b, c, rfl⟩)
  | _ :: _ :: _ :: _ :: _, _, z => simp at z
/-! ### _law_made -/
def spMade (K : PySem.W.Frag) (C : Addr) : Sp := fun vs H Q _ => ∃ (t : Addr) (ws : List (List Int)), vs = [.ref t] ∧ Tp K H (.ref t) (.tuple (tDs ws)) ∧ GoodL ws ∧ ∀ H' x, Same H H' → H x = none → LineAt K C H' x ws → Q (.ref x) H'
theorem ok_made {f f1 C : Addr} {fd : FuncData} {k : Nat} (F : Fun K "_law_made" "_law_made" s_l_made f fd) (T : LC K mg C) (M : Mk K C f1) (G : FnR P w K mg base CX0 k f1 (spInit K C)) (m1 : mg "len" = none) :
    FnOk P w K mg base CX0 (k + 2) f fd ["_law_works_here"] (spMade K C) := by
  refine F.ok sc_l_made (fun vs H Q E h => ?_) (fun cdv A outer s H vs Q E hr h => ?_)
  · obtain ⟨t, ws, rfl, _⟩ := h; rfl
  · obtain ⟨t, ws, rfl, hW, hg, q⟩ := h
    refine ⟨_, pss_cons (ps_if (pt_cmpR op_eq (pe_callB call_len_seq (by rfl) m1 PySem.boot_len (pa_cons (pv 0) pa_nil)) pe_int (nomark _))
        (pss_one (ps_ret (pe_makeR M G hr (by rfl) T.mgC pass0 (pa_cons (pe_ix ix_tup (pv 0) pe_int (fun _ _ => rfl)) pa_nil)))) pss_nil)
      (pss_one (ps_ret (pe_ifExp (pt_cmpR op_eq (pe_callB call_len_seq (by rfl) m1 PySem.boot_len (pa_cons (pv 0) pa_nil)) pe_int (nomark _))
        (pe_makeR M G hr (by rfl) T.mgC pass0 (pa_cons (pe_ix ix_tup (pv 0) pe_int (fun _ _ => rfl)) (pa_cons (pe_ix ix_tup (pv 0) pe_int (fun _ _ => rfl)) pa_nil)))
        (pe_makeR M G hr (by rfl) T.mgC pass0 (pa_cons (pe_ix ix_tup (pv 0) pe_int (fun _ _ => rfl)) (pa_cons (pe_ix ix_tup (pv 0) pe_int (fun _ _ => rfl)) (pa_cons (pe_ix ix_tup (pv 0) pe_int (fun _ _ => rfl)) pa_nil))))))), ?_⟩
    obtain ⟨_, xs, e, hS, hT⟩ := hW.toTup
    cases e
    have fin : ∀ z dz, H z = none → H dz = none → dz ≠ z → spInit K C (V.ref z :: xs) (upd (upd H dz (.own z)) z (.ins C dz [])) (fun v H2 => v = .non ∧ Q (.ref z) H2) E0 := make_line hT hg q
    have il : ∀ n : Nat, decide (V.int ((n : Nat) : Int) = V.int 1) = decide (n = 1) := fun n => by
      by_cases h : n = 1
      · subst h; rfl
      · rw [decide_eq_false h, decide_eq_false fun z => h (by have := V.int.inj z; omega)]
    have il2 : ∀ n : Nat, decide (V.int ((n : Nat) : Int) = V.int 2) = decide (n = 2) := fun n => by
      by_cases h : n = 2
      · subst h; rfl
      · rw [decide_eq_false h, decide_eq_false fun z => h (by have := V.int.inj z; omega)]
    refine ⟨.ref t, rfl, t, xs, rfl, .inr hS, rfl, _, rfl, ?_⟩
    rw [il]
    rcases len_cases hg with ⟨a, rfl⟩ | ⟨a, b, rfl⟩ | ⟨a, b, c, rfl⟩
    · obtain ⟨x, rfl⟩ : ∃ x, xs = [x] := by
        have := hT.len
        match xs, this with
        | [x], _ => exact ⟨x, rfl⟩
      rw [show decide ([x].length = 1) = true from rfl]
      exact iteT ⟨.ref t, rfl, t, _, 0, x, rfl, rfl, hS, atI0, fin⟩
    · obtain ⟨x, y, rfl⟩ : ∃ x y, xs = [x, y] := by
        have := hT.len
        match xs, this with
        | [x, y], _ => exact ⟨x, y, rfl⟩
      rw [show decide ([x, y].length = 1) = false from rfl]
      refine iteF ⟨.ref t, rfl, t, _, rfl, .inr hS, rfl, _, rfl, ?_⟩
      rw [il2, show decide ([x, y].length = 2) = true from rfl]
      exact iteT ⟨.ref t, rfl, t, _, 0, x, rfl, rfl, hS, atI0, .ref t, rfl, t, _, 1, y, rfl, rfl, hS, atI1, fin⟩
    · obtain ⟨x, y, z, rfl⟩ : ∃ x y z, xs = [x, y, z] := by
        have := hT.len
        match xs, this with
        | [x, y, z], _ => exact ⟨x, y, z, rfl⟩
      rw [show decide ([x, y, z].length = 1) = false from rfl]
      refine iteF ⟨.ref t, rfl, t, _, rfl, .inr hS, rfl, _, rfl, ?_⟩
      rw [il2, show decide ([x, y, z].length = 2) = false from rfl]
      exact iteF ⟨.ref t, rfl, t, _, 0, x, rfl, rfl, hS, atI0, .ref t, rfl, t, _, 1, y, rfl, rfl, hS, atI1, .ref t, rfl, t, _, 2, z, rfl, rfl, hS, atI2, fin⟩
/-! ### _law_works -/
def spWorks (K : PySem.W.Frag) : Sp := fun vs H Q _ => ∃ p : Addr, vs = [.ref p] ∧ PenAt H p ∧ ∀ H' t ws, PenAt H' p → But p H H' → H t = none → Tp K H' (.ref t) (.tuple (tDs ws)) → GoodL ws → (∀ x ∈ ws, x.length ≤ if ws.length = 1 then 8 else 5) → Q (.ref t) H'
theorem ok_l_works {f f1 f2 : Addr} {fd fd1 fd2 : FuncData} {k : Nat} (F : Fun K "_law_works" "_law_works" s_l_works f fd)
    (G1 : FnOk P w K mg base CX0 k f1 fd1 ["_law_pen_here", "_law_many"] spDraw) (kp1 : PySem.W.keepIn K (.ref f1) = true) (b1 : Binds K fd1 ["_law_pen_here", "_law_many"] []) (g1 : mg "_law_draw" = some (.ref f1))
    (G2 : FnOk P w K mg base CX0 k f2 fd2 ["_law_pen_here", "_law_most", "_law_stations"] spWork) (kp2 : PySem.W.keepIn K (.ref f2) = true) (b2 : Binds K fd2 ["_law_pen_here", "_law_most", "_law_stations"] []) (g2 : mg "_law_work" = some (.ref f2))
    (m1 : mg "range" = none) (m2 : mg "tuple" = none) : FnOk P w K mg base CX0 (k + 1) f fd ["_law_pen_here"] (spWorks K) := by
  refine F.ok sc_l_works (fun vs H Q E h => ?_) (fun cdv A outer s H vs Q E hr h => ?_)
  · obtain ⟨p, rfl, _⟩ := h; rfl
  · obtain ⟨p, rfl, hp, q⟩ := h
    refine ⟨_, pss_cons (ps_set (i := 1) sc_l_works.nd rfl (Or.inr rfl) (pe_op op_add pe_int (pe_call G1 hr (by rfl) g1 kp1 b1 .nil pass0 (pa_cons (pv 0) (pa_cons pe_int pa_nil)))))
      (pss_cons (ps_set (i := 2) sc_l_works.nd rfl (Or.inr rfl) (pe_op op_add pe_int (pe_call G1 hr (by rfl) g1 kp1 b1 .nil pass0 (pa_cons (pv 0) (pa_cons pe_int pa_nil)))))
      (pss_one (ps_ret (pe_callTy call_tuple_of (by rfl) m2 (by decide +kernel) (pa_cons
        (pe_lc (own := [("_law_turn", 3)]) (g := gName 3) (tt := tYes) rfl sc_l_works.nd (pi_range1 (by rfl) m1 (pa_cons (pv 1) pa_nil))
          (blkOk_by (N := ["_law_pen_here", "_law_many", "_law_stations", "_law_turn"]) (sc := defScope s_l_works) (by decide +kernel))
          (fun _ _ _ _ _ => pg_name (i := 3) sc_l_works.nd rfl (Or.inl rfl)) (fun _ _ _ _ _ => pts_nil)
          (fun _ _ _ _ _ => pe_call G2 hr (by rfl) g2 kp2 b2 .nil pass0 (pa_cons (pv 0) (pa_cons (pe_ifExp (pt_cmpR op_eq (pv 1) pe_int (nomark _)) pe_int pe_int) (pa_cons (pv 2) pa_nil))))) pa_nil))))), ?_⟩
    refine ⟨.ref p, rfl, p, 3, rfl, hp, by decide, by decide, fun H1 r1 a1 a2 p1 e1 => ?_⟩
    refine ⟨1, r1, rfl, rfl, ?_⟩
    refine ⟨.ref p, rfl, p, 4, rfl, p1, by decide, by decide, fun H2 r2 a3 a4 p2 e2 => ?_⟩
    refine ⟨1, r2, rfl, rfl, ?_⟩
    refine ⟨.int (1 + r1), rfl, 1 + r1, rfl, by omega, by omega, fun D hD => ?_⟩
    have e12 := e1.trans e2
    have nD : p ≠ D := p2.ne hD
    refine lc_range (lo := 0) (n := (1 + r1).toNat) (fun i H' => PenAt H' p ∧ But p H2 H' ∧ ∃ acc ws, H' D = some (.lst acc) ∧ TpAll K H' acc (tDs ws) ∧ ws.length = i ∧ (∀ w ∈ ws, IsWork w) ∧ ∀ w ∈ ws, (w.length : Int) ≤ if 1 + r1 = 1 then 8 else 5)
      ⟨p2.upd nD, .of (same_new hD), [], [], upd_same, .no, rfl, (fun x hx => nomatch hx), fun x hx => nomatch hx⟩ (fun i H' hi h => ?_) (fun H' h => ?_)
    · obtain ⟨p4, e4, acc, ws, hDl, hT, hlen, hall, hmost⟩ := h
      refine ⟨rfl, ?_⟩
      have turn : ∀ H3 t (ns : List Int), PenAt H3 p → But p H' H3 → H' t = none → H3 t = some (.tup (ns.map V.int)) → IsWork ns → ((ns.length : Int) ≤ if 1 + r1 = 1 then 8 else 5) →
          ∃ acc, H3 D = some (.lst acc) ∧ acc.length < sizeLine ∧ (PenAt (upd H3 D (.lst (acc ++ [V.ref t]))) p ∧ But p H2 (upd H3 D (.lst (acc ++ [V.ref t]))) ∧
            ∃ acc' ws, (upd H3 D (.lst (acc ++ [V.ref t]))) D = some (.lst acc') ∧ TpAll K (upd H3 D (.lst (acc ++ [V.ref t]))) acc' (tDs ws) ∧ ws.length = i + 1 ∧ (∀ w ∈ ws, IsWork w) ∧ ∀ w ∈ ws, (w.length : Int) ≤ if 1 + r1 = 1 then 8 else 5) := by
        intro H3 t ns b1 b2 b3 b4 b5 b6
        have hD3 := b2 _ _ (Ne.symm nD) hDl
        have st1 : St K H' H3 := .pen b2 p4
        have st2 : St K H3 (upd H3 D (.lst (acc ++ [V.ref t]))) := .but .upd hD3
        refine ⟨acc, hD3, ?_, b1.upd nD, fun b o n e => ?_, _, ws ++ [ns], upd_same, ?_, by rw [List.length_append, hlen]; rfl, fun w hw => ?_, fun w hw => ?_⟩
        · have z := hT.len
          rw [List.length_map, hlen] at z
          exact small1000 (by omega)
        · rw [upd_ne (ne_of_none e hD)]
          exact b2 _ _ n (e4 _ _ n e)
        · show TpAll K _ _ ((ws ++ [ns]).map tD)
          rw [List.map_append]
          exact ((hT.stay st1).stay st2).add (.on ((Tp.ofInts (.of b4)).stay st2) .no)
        · rcases List.mem_append.mp hw with z | z
          · exact hall w z
          · rw [List.mem_singleton.mp z]; exact b5
        · rcases List.mem_append.mp hw with z | z
          · exact hmost w z
          · rw [List.mem_singleton.mp z]; exact b6
      refine ⟨.ref p, rfl, .int (1 + r1), rfl, rfl, _, rfl, ite2 (fun c1 => ?_) (fun c1 => ?_)⟩
      · have c2 : 1 + r1 = 1 := V.int.inj (of_decide_eq_true c1)
        exact ⟨.int (1 + r2), rfl, p, 8, 1 + r2, rfl, p4, by decide, by decide, by omega, by omega, fun H3 t ns b1 b2 b3 b4 b5 b6 _ => turn H3 t ns b1 b2 b3 b4 b5 (by rw [if_pos c2]; exact b6)⟩
      · have c2 : ¬ 1 + r1 = 1 := fun z => c1 (by rw [z]; exact decide_eq_true rfl)
        exact ⟨.int (1 + r2), rfl, p, 5, 1 + r2, rfl, p4, by decide, by decide, by omega, by omega, fun H3 t ns b1 b2 b3 b4 b5 b6 _ => turn H3 t ns b1 b2 b3 b4 b5 (by rw [if_neg c2]; exact b6)⟩
    · obtain ⟨p4, e4, acc, ws, hDl, hT, hlen, hall, hmost⟩ := h
      refine ⟨D, acc, rfl, .inl ⟨.of hDl, fun l nl => ?_⟩⟩
      have bb : But p H (upd H' l (.tup acc)) := e12.trans (e4.trans (.of (same_new nl)))
      refine q _ l ws (p4.upd (p4.ne nl)) bb ?_ (.new nl hT) ⟨by omega, by omega, hall⟩ (fun x hx => ?_)
      · exact hp.free p4 (e12.trans e4) nl
      · have := hmost x hx
        by_cases z : 1 + r1 = 1
        · rw [if_pos z] at this
          rw [if_pos (by omega)]; omega
        · rw [if_neg z] at this
          rw [if_neg (by omega)]; omega
end
end Sg

set_option Elab.async false
set_option linter.all false
set_option maxRecDepth 100000
set_option maxHeartbeats 4000000
namespace Sg
open PySem PySem.Spec PyProof.Rows L2 StX
/-! ## tuple(list), the new object told; dict(tuple of pairs) -/
theorem call_tupleF {X : Cx} : CallR X (.type "tuple") (fun xs H Q => ∃ p ys, xs = [.ref p] ∧ SqL X.K H p ys ∧ ∀ l ob, H l = none → ob.cls = .type "tuple" → ob.dict = none → Q (.ref l) (upd H l (.frz ob (.tup ys)))) := by
  intro pins s σ H xs us Q I r h
  obtain ⟨p, ys, e, hq, q⟩ := h
  subst e
  obtain ⟨u, eu, rx⟩ := vals1 r
  subst eu
  cases rx
  obtain ⟨its, rv, pl, hz⟩ := I.list hq
  have lv := rv.length
  refine call_tuple_list pl.isList (fun h1 kp => ?_) (by rw [List.size_toArray, ← lv]; exact hz)
  have J : Inv X pins σ H { s with heap := h1 } := I.kept (t' := s.toks) kp
  have hn : (h1.push { cls := .type "tuple", data := .seq its.toArray }).get? h1.objs.size = some { cls := .type "tuple", data := .seq its.toArray } := Heap.get?_push_size _ rfl
  have hnew : ObjOk X.prog X.w (upd H h1.objs.size (.frz { cls := .type "tuple", data := .seq its.toArray } (.tup ys))) (h1.push { cls := .type "tuple", data := .seq its.toArray }) h1.objs.size (.frz { cls := .type "tuple", data := .seq its.toArray } (.tup ys)) :=
    ⟨hn, hz, its, rv, IsTup.new _ _⟩
  exact ⟨.ref h1.objs.size, _, J.laid (t' := s.toks) (fun b o z => Heap.get?_push_of_some _ z) (Nat.le_refl _) hnew, rfl, q _ _ (J.hok.fresh (Nat.le_refl _)) rfl rfl⟩
theorem pairs_vals {X : Cx} {pins : List (Addr × Obj)} {σ : L2.St} {H : Hp} {s : Shared} (I : Inv X pins σ H s) : ∀ {ps : List Addr} {kvs : List (L2.Key × V)}, Paired (fun p kv => SqT X.K H p [kV kv.1, kv.2]) ps kvs →
    ∃ (prs : List (L2.Key × Value)) (vs : List (Value × Value)), KV kvs prs ∧ vs.length = ps.length ∧ prs.length = ps.length ∧
      ∀ (j : Nat) (k v : Value), vs[j]? = some (k, v) → (∃ b, ps[j]? = some b ∧ IsTup s.heap b #[k, v]) ∧ ∃ c, prs[j]? = some (c, v) ∧ keyIs c k = true
  | _, _, .nil => ⟨[], [], .nil, rfl, rfl, fun j k v z => nomatch z⟩
  | _, _, .cons (a := p) (b := kv) h t => by
    obtain ⟨prs, vs, r, l1, l2, hp⟩ := pairs_vals I t
    obtain ⟨its, rv, ht, _⟩ := I.tuple h
    obtain ⟨u, y, ei, ru, ry⟩ := vals2 rv
    subst ei
    refine ⟨(kv.1, y) :: prs, (u, y) :: vs, .cons ⟨rfl, ry⟩ r, congrArg (· + 1) l1, congrArg (· + 1) l2, fun j k v z => ?_⟩
    cases j with
    | zero =>
      have z' : (u, y) = (k, v) := Option.some.inj z
      cases z'
      exact ⟨⟨p, rfl, ht⟩, kv.1, rfl, kV_is (P := X.prog) (w := X.w) ru⟩
    | succ j => exact hp j k v z
theorem call_dictT {X : Cx} {K : PySem.W.Frag} (hK : X.K = K) (hcalm : X.calm = true) : CallR X (.type "dict") (fun xs H Q => ∃ (a : Addr) (ob : Obj) (ps : List Addr) (kvs : List (L2.Key × V)), xs = [.ref a] ∧ ob.cls = .type "tuple" ∧ ob.dict = none ∧
    H a = some (.frz ob (.tup (ps.map V.ref))) ∧ Paired (fun p kv => SqT K H p [kV kv.1, kv.2]) ps kvs ∧ ∀ p, H p = none → Q (.ref p) (upd H p (.dK (mergeK [] kvs)))) := by
  subst hK
  intro pins s σ H xs us Q I r q
  obtain ⟨a, ob, ps, kvs, e, hc, hd, hq, hp, q⟩ := q
  subst e
  obtain ⟨u, eu, rx⟩ := vals1 r
  subst eu
  cases rx
  obtain ⟨e1, hz, its, rv, o, ho, _, n, hdat⟩ := I.hok a _ hq
  rw [e1] at ho
  cases ho
  have ei := refs_at rv
  subst ei
  rw [List.length_map] at hz
  obtain ⟨prs, vs, rel, l1, l2, hpr⟩ := pairs_vals I hp
  refine PySem.call_dict_pairs (knd := mixKind X.prog X.w) (kvs := prs) (PairArg.tuple (prog := X.prog) (w := X.w) a (ps.map Value.ref).toArray (fun j => ps.getD j 0) vs) (I.ok.hd hcalm) ⟨⟨ob, n, e1, hc, hd, hdat⟩, ?_, fun j k v z => ?_⟩ ⟨by rw [l1, l2], fun j k v z => ?_⟩ (by rw [l1]; exact hz) (fun h' tk hd' k => ?_)
  · rw [List.size_toArray, List.length_map, l1]
  · obtain ⟨⟨b, hb, ht⟩, _⟩ := hpr j k v z
    have eb : ps.getD j 0 = b := by rw [List.getD_eq_getElem?_getD, hb]; rfl
    simp only [eb]
    exact ⟨by simp [hb], .inl ht⟩
  · exact (hpr j k v z).2
  · have hm : (s.heap.objs.size == sysModules) = false := beq_eq_false_iff_ne.mpr (Nat.ne_of_gt I.big)
    have hlen : (mergeK [] kvs).length ≤ sizeLine := by
      have h1 := length_mergeK kvs []
      rw [List.length_nil, Nat.zero_add, rel.length, l2] at h1
      exact Nat.le_trans h1 hz
    have hnew : ObjOk X.prog X.w (upd H s.heap.objs.size (.dK (mergeK [] kvs))) h' s.heap.objs.size (.dK (mergeK [] kvs)) := ⟨hlen, hm, merged [] prs, KV.merge rel .nil, hd'⟩
    exact ⟨.ref s.heap.objs.size, _, I.laid (t' := tk) (fun b o z => k b o (fun z => nomatch z) z) (Nat.le_refl _) hnew, rfl, q _ (I.hok.fresh (Nat.le_refl _))⟩
end Sg

set_option Elab.async false
set_option linter.all false
set_option maxRecDepth 100000
set_option maxHeartbeats 4000000
namespace Sg
open PySem PySem.Spec PyProof.Rows L2 StX
theorem leastAt_app {ps : List (Int × Nat)} {s : Int × Nat} {j : Nat} (h : j ≤ ps.length) : leastAt (ps ++ [s]) j = leastAt ps j := by
  cases j with
  | zero => rw [leastAt_zero, leastAt_zero]
  | succ i =>
    have hi : i < ps.length := h
    rw [leastAt_succ (s := ps[i]) (List.getElem?_eq_getElem hi), leastAt_succ (s := ps[i])]
    rw [List.getElem?_append_left hi, List.getElem?_eq_getElem hi]
/-- a plan that grows: the next tick is tk at least -/
structure Grows (n : Nat) (ps : List (Int × Nat)) (tk : Int) : Prop where
  kinds : ∀ s ∈ ps, s.2 < n
  asc : ∀ (i : Nat) (s : Int × Nat), ps[i]? = some s → leastAt ps i ≤ s.1
  next : leastAt ps ps.length ≤ tk
  below : ∀ s ∈ ps, s.1 ≤ tk
theorem Grows.more {n : Nat} {ps : List (Int × Nat)} {tk tk' : Int} (h : Grows n ps tk) {k : Nat} (hk : k < n) (ht : tk + 1 ≤ tk') : Grows n (ps ++ [(tk, k)]) tk' := by
  refine ⟨fun s hs => ?_, fun i s hs => ?_, ?_, fun s hs => ?_⟩
  · rcases List.mem_append.mp hs with z | z
    · exact h.kinds s z
    · rw [List.mem_singleton.mp z]; exact hk
  · have hi := (List.getElem?_eq_some_iff.mp hs).1
    rw [List.length_append] at hi
    have hi' : i ≤ ps.length := by
      have : i < ps.length + 1 := hi
      omega
    rw [leastAt_app hi']
    rcases Nat.lt_or_eq_of_le hi' with z | z
    · rw [List.getElem?_append_left z] at hs
      exact h.asc i s hs
    · subst z
      rw [List.getElem?_append_right (Nat.le_refl _), Nat.sub_self] at hs
      cases hs
      exact h.next
  · rw [List.length_append]
    show leastAt (ps ++ [(tk, k)]) (ps.length + 1) ≤ tk'
    rw [leastAt_succ (s := (tk, k))]
    · exact ht
    · rw [List.getElem?_append_right (Nat.le_refl _), Nat.sub_self]
      rfl
  · rcases List.mem_append.mp hs with z | z
    · have := h.below s z
      omega
    · rw [List.mem_singleton.mp z]
      show tk ≤ tk'
      omega
theorem Grows.good {n : Nat} {ps : List (Int × Nat)} {tk : Int} (h : Grows n ps tk) (hl : ps.length ≤ 60) : GoodP n ps := ⟨hl, h.kinds, h.asc⟩
section
variable {P : Program} {w : World} {K : PySem.W.Frag} {mg : Str → Option Value} {base : Heap}
/-- a plan's own tuple -/
def PlanAt (K : PySem.W.Frag) (H : Hp) (t : Addr) (ps : List (Int × Nat)) : Prop := ∃ ob us, H t = some (.frz ob (.tup us)) ∧ ob.cls = .type "tuple" ∧ ob.dict = none ∧ TpAll K H us (planD ps)
theorem PlanAt.tp {K : PySem.W.Frag} {H : Hp} {t : Addr} {ps : List (Int × Nat)} (h : PlanAt K H t ps) : Tp K H (.ref t) (.tuple (planD ps)) := by
  obtain ⟨ob, us, h1, _, _, h2⟩ := h
  exact .tu (.inl (.inr ⟨ob, h1⟩)) h2
theorem PlanAt.same {K : PySem.W.Frag} {H H' : Hp} {t : Addr} {ps : List (Int × Nat)} (h : PlanAt K H t ps) (e : Same H H') : PlanAt K H' t ps := by
  obtain ⟨ob, us, h1, h2, h3, h4⟩ := h
  exact ⟨ob, us, e _ _ h1, h2, h3, h4.stay (.of e)⟩
def spLPlan (K : PySem.W.Frag) : Sp := fun vs H Q _ => ∃ (p W : Addr) (xs : List V), vs = [.ref p, .ref W] ∧ PenAt H p ∧ SqT K H W xs ∧ 1 ≤ xs.length ∧ xs.length ≤ 3 ∧
  ∀ H' t ps, PenAt H' p → But p H H' → H t = none → PlanAt K H' t ps → GoodP xs.length ps → (∀ s ∈ ps, s.1 ≤ 1000) → Q (.ref t) H'
theorem ok_plan {f f1 : Addr} {fd fd1 : FuncData} {k : Nat} (F : Fun K "_law_plan" "_law_plan" s_l_plan f fd)
    (G1 : FnOk P w K mg base CX0 k f1 fd1 ["_law_pen_here", "_law_many"] spDraw) (kp1 : PySem.W.keepIn K (.ref f1) = true) (b1 : Binds K fd1 ["_law_pen_here", "_law_many"] []) (g1 : mg "_law_draw" = some (.ref f1))
    (m1 : mg "range" = none) (m2 : mg "tuple" = none) (m3 : mg "len" = none) : FnOk P w K mg base CX0 (k + 1) f fd ["_law_pen_here", "_law_works_here"] (spLPlan K) := by
  refine F.ok sc_l_plan (fun vs H Q E h => ?_) (fun cdv A outer s H vs Q E hr h => ?_)
  · obtain ⟨p, W, xs, rfl, _⟩ := h; rfl
  · obtain ⟨p, W, xs, rfl, hp, hW, lx1, lx2, q⟩ := h
    refine ⟨_, pss_cons (ps_par (i := 2) (j := 3) (by rfl) sc_l_plan.nd rfl rfl (by decide) rfl rfl (pa_cons (pe_lst pa_nil) (pa_cons (pe_call G1 hr (by rfl) g1 kp1 b1 .nil pass0 (pa_cons (pv 0) (pa_cons pe_int pa_nil))) pa_nil)) (by rfl))
      (pss_cons (ps_for PassesOwn.never rfl (pi_range1 (by rfl) m1 (pa_cons (pe_call G1 hr (by rfl) g1 kp1 b1 .nil pass0 (pa_cons (pv 0) (pa_cons pe_int pa_nil))) pa_nil)) (pg_name (i := 4) sc_l_plan.nd rfl (.inl rfl))
        (pss_cons (ps_expr (pe_bm PySem.F.plainAttrs_list PySem.F.slot_list_append PySem.F.type_list_append mt_append (pv 2)
            (pa_cons (pe_tup (pa_cons (pv 3) (pa_cons (pe_call G1 hr (by rfl) g1 kp1 b1 .nil pass0 (pa_cons (pv 0) (pa_cons (pe_callB call_len_seq (by rfl) m3 PySem.boot_len (pa_cons (pv 1) pa_nil)) pa_nil))) pa_nil))) pa_nil)))
        (pss_one (ps_set (i := 3) sc_l_plan.nd rfl (.inl rfl) (pe_op op_add (pe_op op_add (pv 3) pe_int) (pe_call G1 hr (by rfl) g1 kp1 b1 .nil pass0 (pa_cons (pv 0) (pa_cons pe_int pa_nil))))))))
      (pss_one (ps_ret (pe_callTy call_tupleF (by rfl) m2 (by decide +kernel) (pa_cons (pv 2) pa_nil))))), ?_⟩
    refine ⟨by show 0 ≤ sizeLine; decide, fun Fd nFd => ?_⟩
    have p1 := hp.new (o := .lst []) nFd
    have hF1 : (L2.upd H Fd (.lst [])) Fd = some (.lst []) := upd_same
    have c1 : But p H (L2.upd H Fd (.lst [])) := .of (same_new nFd)
    have nFp : Fd ≠ p := (hp.ne nFd).symm
    generalize L2.upd H Fd (.lst []) = H1 at p1 hF1 c1 ⊢
    refine ⟨.ref p, rfl, p, 3, rfl, p1, by decide, by decide, fun H2 tk t0 t1 p2 b2 => ⟨_, _, rfl, ?_⟩⟩
    have c2 := c1.trans b2
    have hF2 := b2 _ _ nFp hF1
    refine ⟨.ref p, rfl, p, 10, rfl, p2, by decide, by decide, fun H3 many r0 r1 p3 b3 => ⟨many, rfl, by omega, by omega, ?_⟩⟩
    have c3 := c2.trans b3
    have hF3 := b3 _ _ nFp hF2
    refine for_range (lo := 0) (n := many.toNat) (fun i σ H' => ∃ tk v4, σ = [some (.ref p), some (.ref W), some (.ref Fd), some (.int tk), v4] ∧ PenAt H' p ∧ But p H H' ∧
        ∃ us ps, H' Fd = some (.lst us) ∧ TpAll K H' us (planD ps) ∧ ps.length = i ∧ Grows xs.length ps tk ∧ tk ≤ 3 + i * 10) ⟨tk, _, rfl, p3, c3, [], [], hF3, .no, rfl, ⟨fun s z => (nomatch z), fun i s z => (by simp at z), by show leastAt [] 0 ≤ tk; rw [leastAt_zero]; exact t0, fun s z => (nomatch z)⟩, by omega⟩ ?_ ?_
    · rintro i σ H5 hi ⟨tk5, v4, rfl, p5, c5, us, ps, hF5, hT5, lp, hG, hb⟩
      have lus : us.length < sizeLine := by
        have := hT5.len
        rw [List.length_map] at this
        exact small1000 (by omega)
      refine ⟨.ref Fd, rfl, .inl ⟨rfl, _, .of hF5⟩, .int tk5, rfl, .ref p, rfl, .ref W, rfl, W, xs, rfl, .inr ?_, p, _, rfl, p5, by omega, by omega, fun H6 r r0 r1 p6 b6 => ⟨by show 2 ≤ sizeLine; decide, fun t nt => ?_⟩⟩
      · exact (St.pen c5 hp).tu _ _ hW
      have hF6 := b6 _ _ nFp hF5
      have hT6 := hT5.stay (.pen b6 p5)
      have e7 : Same H6 (L2.upd H6 t (.tup [V.int tk5, .int r])) := same_new nt
      have ht7 : (L2.upd H6 t (.tup [V.int tk5, .int r])) t = some (.tup [V.int tk5, .int r]) := upd_same
      have p7 := p6.new (o := .tup [V.int tk5, .int r]) nt
      generalize L2.upd H6 t (.tup [V.int tk5, .int r]) = H7 at e7 ht7 p7 ⊢
      have hF7 := e7 _ _ hF6
      have c7 : But p H H7 := (c5.trans b6).trans (.of e7)
      refine ⟨Fd, _, _, rfl, rfl, hF7, lus, ?_⟩
      obtain ⟨kd, rfl⟩ : ∃ kd : Nat, r = kd := ⟨r.toNat, by omega⟩
      have hT8 : TpAll K (L2.upd H7 Fd (.lst (us ++ [.ref t]))) (us ++ [.ref t]) (planD (ps ++ [(tk5, kd)])) := by
        rw [show planD (ps ++ [(tk5, kd)]) = planD ps ++ [startD (tk5, kd)] from List.map_append]
        refine TpAll.stayT (fun _ _ z => tup_upd hF7 (fun _ z => nomatch z) (fun _ _ z => nomatch z) z) ((hT6.stay (.of e7)).add (.on (.ofInts (ns := [tk5, (kd : Nat)]) (.of ht7)) .no))
      have hF8 : (L2.upd H7 Fd (.lst (us ++ [.ref t]))) Fd = some (.lst (us ++ [.ref t])) := upd_same
      have p8 : PenAt (L2.upd H7 Fd (.lst (us ++ [.ref t]))) p := p7.upd nFp.symm
      have c8 : But p H (L2.upd H7 Fd (.lst (us ++ [.ref t]))) := fun b o n e => by
        rw [upd_ne (ne_of_none e nFd)]
        exact c7 _ _ n e
      have lp8 : (ps ++ [(tk5, kd)]).length = i + 1 := by rw [List.length_append, lp]; rfl
      have hk : kd < xs.length := by omega
      generalize us ++ [V.ref t] = us8 at hT8 hF8 p8 c8 ⊢
      generalize L2.upd H7 Fd (.lst us8) = H8 at hT8 hF8 p8 c8 ⊢
      refine ⟨.int tk5, rfl, tk5, 1, rfl, rfl, .ref p, rfl, p, 4, rfl, p8, by decide, by decide, fun H9 r2 r20 r21 p9 b9 => ⟨tk5 + 1, r2, rfl, rfl, ?_⟩⟩
      exact ⟨tk5 + 1 + r2, _, rfl, p9, c8.trans b9, us8, ps ++ [(tk5, kd)], b9 _ _ nFp hF8, hT8.stay (.pen b9 p8), lp8, hG.more hk (by omega), by omega⟩
    · rintro σ H5 ⟨tk5, v4, rfl, p5, c5, us, ps, hF5, hT5, lp, hG, hb⟩
      refine ⟨.ref Fd, rfl, Fd, us, rfl, .of hF5, fun l ob nl oc od => ?_⟩
      have el := same_new (o := .frz ob (.tup us)) nl
      exact q _ l ps (p5.same el) (c5.trans (.of el)) (hp.free p5 c5 nl) ⟨ob, us, upd_same, oc, od, hT5.stay (.of el)⟩ (hG.good (by omega)) fun s hs => by have := hG.below s hs; omega
end
end Sg

set_option Elab.async false
set_option linter.all false
set_option maxRecDepth 100000
set_option maxHeartbeats 4000000
namespace Sg
open PySem PySem.Spec PyProof.Rows L2 StX
/-! ## the plan as a dict -/
def kvsP (ps : List (Int × Nat)) : List (L2.Key × V) := ps.map fun s => (.inl s.1, .int (s.2 : Nat))
theorem merge_app : ∀ (kvs acc : List (L2.Key × V)), ((acc ++ kvs).map (·.1)).Nodup → mergeK acc kvs = acc ++ kvs
  | [], acc, _ => by rw [List.append_nil]; rfl
  | p :: r, acc, h => by
    have e : putK acc p.1 p.2 = acc ++ [p] := by
      unfold putK
      rw [if_neg]
      rw [List.any_eq_true]
      rintro ⟨x, hx, z⟩
      rw [List.map_append, List.nodup_append] at h
      exact h.2.2 x.1 (List.mem_map.mpr ⟨x, hx, rfl⟩) p.1 (List.mem_map.mpr ⟨p, List.mem_cons_self, rfl⟩) (of_decide_eq_true z)
    show mergeK (putK acc p.1 p.2) r = _
    rw [e, merge_app r (acc ++ [p]) (by rw [List.append_assoc]; exact h), List.append_assoc]; rfl
theorem kvs_nodup {n : Nat} {ps : List (Int × Nat)} (h : GoodP n ps) : ((kvsP ps).map (·.1)).Nodup := by
  unfold kvsP
  rw [List.map_map, List.Nodup, List.pairwise_map]
  refine h.pw.imp fun hst z => ?_
  have z' := Sum.inl.inj z
  omega
theorem starts_at {n : Nat} {ps : List (Int × Nat)} (h : GoodP n ps) (t : Nat) : (valV (mergeK [] (kvsP ps)) (Sum.inl ((t : Nat) : Int))).getD (.int (-1)) = .int (chI (chAt ps t)) := by
  rw [merge_app (kvsP ps) [] (kvs_nodup h), List.nil_append]
  unfold valV kvsP chAt
  rw [List.find?_map, Option.map_map]
  have e : ((fun kv : L2.Key × V => decide (kv.1 = Sum.inl ((t : Nat) : Int))) ∘ fun s : Int × Nat => ((Sum.inl s.1 : L2.Key), V.int (s.2 : Nat))) = fun s : Int × Nat => decide (s.1 = ((t : Nat) : Int)) := by
    funext s
    show decide ((Sum.inl s.1 : L2.Key) = Sum.inl _) = _
    by_cases z : s.1 = t
    · rw [z, decide_eq_true rfl, decide_eq_true rfl]
    · rw [decide_eq_false fun y => z (Sum.inl.inj y), decide_eq_false z]
  rw [e]
  cases ps.find? fun s : Int × Nat => decide (s.1 = ((t : Nat) : Int)) with
  | none => rfl
  | some s => rfl
theorem plan_pairs {K : PySem.W.Frag} {H : Hp} : ∀ {us : List V} {ps : List (Int × Nat)}, TpAll K H us (planD ps) → ∃ as : List Addr, us = as.map V.ref ∧ Paired (fun p kv => SqT K H p [kV kv.1, kv.2]) as (kvsP ps)
  | [], [], _ => ⟨[], rfl, .nil⟩
  | _ :: _, [], h => by cases h
  | [], _ :: _, h => by cases h
  | u :: us, s :: ps, h => by
    cases h with
    | on a r =>
      obtain ⟨c, rfl, hc⟩ := Tp.toInts (ns := [s.1, (s.2 : Nat)]) a
      obtain ⟨as, rfl, hp⟩ := plan_pairs (ps := ps) r
      exact ⟨c :: as, rfl, .cons hc hp⟩
theorem planD_tDs (ps : List (Int × Nat)) : planD ps = tDs (ps.map fun s => [s.1, (s.2 : Nat)]) := by
  unfold planD tDs
  rw [List.map_map]; rfl
theorem shaped_planD (ps : List (Int × Nat)) : SeqAt.shaped (.tuple (planD ps)) = true := by rw [planD_tDs]; exact shaped_tDs _
theorem eqv_nil (ds : List PyData) : PyData.eqv (.tuple ds) (.tuple []) = ds.isEmpty := by
  cases ds <;> simp [PyData.eqv, PyData.eqvAll]
/-- what clash tells is None exactly if no two pieces meet -/
theorem due_non {K : PySem.W.Frag} {H : Hp} {ws : List (List Int)} {ps : List (Int × Nat)} {y : V} (h : Due K H (crowdD (evPlan ws ps ps.length)) y) : decide (y = V.non) = true ↔ ∀ q, ¬ Meet ws ps q := by
  have hf := due_first (ws := ws) (ps := ps)
  rcases h with ⟨h, rfl⟩ | ⟨e, es, h, t⟩
  · rcases hf with ⟨_, no⟩ | ⟨e, es, m, h2, _⟩
    · exact ⟨fun _ => no, fun _ => rfl⟩
    · rw [h] at h2; exact nomatch h2
  · rcases hf with ⟨h2, _⟩ | ⟨e2, es2, m, h2, h3, f⟩
    · rw [h] at h2; exact nomatch h2
    · rw [h] at h2
      cases h2
      rw [h3] at t
      obtain ⟨c, xs, rfl, _⟩ := t.toTup
      exact ⟨fun z => absurd (of_decide_eq_true z) (fun z => nomatch z), fun no => absurd f.meet (no m)⟩
/-! ### the walk of the law -/
theorem way_nometa {ws : List (List Int)} {R n : Nat} (hR : Rea ws R) (R6 : R ≤ 60) {ps : List (Int × Nat)} (hg : GoodP n ps) (hk : ∀ s ∈ ps, s.2 < ws.length) {T : Nat} (hT : ∀ s ∈ ps, s.1 < T) (hw : Way ws (csOf ps T)) : ∀ q, ¬ Meet ws ps q := by
  rintro ⟨x, y, a, b⟩ hm
  have la := here_lt hm.one
  have lb := here_lt hm.two
  have ha := List.getElem?_eq_getElem la
  have hb := List.getElem?_eq_getElem lb
  simp only at la lb ha hb
  obtain ⟨d, e, hd⟩ := (meet_bars hg ha hb hm.asc).mp ⟨x, y, hm⟩
  have h0 := hg.low0 _ (List.getElem_mem lb)
  have ht := hT _ (List.getElem_mem lb)
  have up := hg.up b a _ _ hm.asc ha hb
  have ha0 := hg.low0 _ (List.getElem_mem la)
  -- the choice in the tick of b
  have hc : (csOf ps T)[(ps[b]).1.toNat]? = some (some (ps[b]).2) := csOf_at.mpr ⟨by omega, (chAt_iff hg).mpr (by rw [Int.toNat_of_nonneg h0]; exact List.getElem_mem lb)⟩
  have can := hw _ _ hc
  rw [take_csOf (by omega)] at can
  have can' : (ps[b]).2 ∈ openL ws (runS ws (csOf ps (ps[b]).1.toNat)) := can
  unfold openL at can'
  have hz := (List.mem_filter.mp can').2
  rw [Bool.not_eq_true', decide_eq_false_iff_not] at hz
  refine hz ((row_run hR R6 _).mpr ⟨hk _ (List.getElem_mem lb), (ps[a]).1.toNat, (ps[a]).2, csOf_at.mpr ⟨by omega, (chAt_iff hg).mpr (by rw [Int.toNat_of_nonneg ha0]; exact List.getElem_mem la)⟩, ?_⟩)
  rw [csOf_len, show 0 + ((ps[b]).1.toNat - (ps[a]).1.toNat) = d by omega]
  exact hd
/-- a choice that can't be made: two pieces meet, this one among them -/
theorem bad_meet {ws : List (List Int)} {R n : Nat} (hR : Rea ws R) (R6 : R ≤ 60) {ps : List (Int × Nat)} (hg : GoodP n ps) (hk : ∀ s ∈ ps, s.2 < ws.length) {t : Nat} (hb : ¬ CanL ws (runS ws (csOf ps t)) (chAt ps t)) :
    ∃ q, Meet ws (ps.filter fun s => decide (s.1 ≤ ((t : Nat) : Int))) q := by
  cases hc : chAt ps t with
  | none => rw [hc] at hb; exact absurd True.intro hb
  | some k =>
    rw [hc] at hb
    have hm := (chAt_iff hg).mp hc
    have hkl : k < ws.length := hk _ hm
    have h0 : 0 ∈ rowS (runS ws (csOf ps t)) k := by
      refine Classical.byContradiction fun z => hb ?_
      show k ∈ openL ws _
      unfold openL
      exact List.mem_filter.mpr ⟨List.mem_range.mpr hkl, by rw [Bool.not_eq_true', decide_eq_false_iff_not]; exact z⟩
    obtain ⟨_, i, o, h1, h2⟩ := (row_run hR R6 _).mp h0
    obtain ⟨h3, h4⟩ := csOf_at.mp h1
    have ho := (chAt_iff hg).mp h4
    rw [csOf_len] at h2
    have hg' : GoodP n (ps.filter fun s => decide (s.1 ≤ ((t : Nat) : Int))) := hg.sub List.filter_sublist
    have m1 : (((i : Nat) : Int), o) ∈ ps.filter fun s => decide (s.1 ≤ ((t : Nat) : Int)) := List.mem_filter.mpr ⟨ho, decide_eq_true (by simp only; omega)⟩
    have m2 : (((t : Nat) : Int), k) ∈ ps.filter fun s => decide (s.1 ≤ ((t : Nat) : Int)) := List.mem_filter.mpr ⟨hm, decide_eq_true (by simp only; omega)⟩
    obtain ⟨a, ha⟩ := List.mem_iff_getElem?.mp m1
    obtain ⟨b, hb'⟩ := List.mem_iff_getElem?.mp m2
    have hab : a < b := by
      rcases Nat.lt_trichotomy a b with z | z | z
      · exact z
      · subst z
        rw [ha] at hb'
        have := congrArg (fun x : Option (Int × Nat) => x.map (·.1)) hb'
        simp at this
        omega
      · have := hg'.up a b _ _ z hb' ha
        simp only at this
        omega
    obtain ⟨x, y, hq⟩ := (meet_bars hg' ha hb' hab).mpr ⟨t - i, by simp only; omega, by rw [show t - i = 0 + (t - i) by omega]; exact h2⟩
    exact ⟨_, hq⟩
end Sg

set_option Elab.async false
set_option linter.all false
set_option maxRecDepth 100000
set_option maxHeartbeats 4000000
namespace Sg
open PySem PySem.Spec PyProof.Rows L2 StX
theorem ix_tupK {X : Cx} {K : PySem.W.Frag} (hK : X.K = K) : IxR X (rIxT K) := by subst hK; exact ix_tup
def rRepE : R2 := fun x y H Q => ∃ (l : Addr) (k : Nat) (xs : List V), x = .ref l ∧ y = .int (k : Nat) ∧ H l = some (.tup xs) ∧ xs ≠ [] ∧ k ≤ 1000 ∧ xs.length ≤ 1000 ∧
  ∀ H' u, Same H H' → H' u = some (.tup (List.replicate k xs).flatten) → Q (.ref u) H'
theorem op_repE {X : Cx} : OpR X (binaryOp .Mult) rRepE := by
  intro pins s σ H x y v u Q I rx ry h
  obtain ⟨l, k, xs, rfl, rfl, hT, hne, h2, hz, q⟩ := h
  refine op_repN pins s σ H _ _ v u Q I rx ry ⟨l, k, xs, rfl, rfl, .inl (.inl hT), hne, h2, hz, fun z => q H l (fun _ _ h => h) ?_, fun _ p np => q _ p (same_new np) upd_same⟩
  subst z
  rw [show (List.replicate 1 xs).flatten = xs from by simp]
  exact hT
theorem iteQ {b : Bool} {X Y : VK → Prop} {Q : VK} (R : V → Hp → Prop) (hx : b = true → ∀ Q' : VK, (∀ v H, R v H → Q' v H) → X Q') (hy : b = false → ∀ Q' : VK, (∀ v H, R v H → Q' v H) → Y Q') (q : ∀ v H, R v H → Q v H) : if b = true then X Q else Y Q := by
  cases b with
  | true => exact hx rfl Q q
  | false => exact hy rfl Q q
section
variable {P : Program} {w : World} {K : PySem.W.Frag} {mg : Str → Option Value} {base : Heap}
/-! ### _law_walk_right -/
def spWalkR (K : PySem.W.Frag) (C : Addr) : Sp := fun vs H Q _ => ∃ (a b : Addr) (ws : List (List Int)) (R : Nat) (ps : List (Int × Nat)), vs = [.ref a, .ref b] ∧ LineAt K C H a ws ∧ Reach ws R ∧ NearR ws.length R ∧ PlanAt K H b ps ∧ GoodP ws.length ps ∧ (∀ s ∈ ps, s.1 ≤ 1000) ∧
  ∀ H', Same H H' → Q (.bl true) H'
abbrev walkN : List Str := ["_law_made_here", "_law_plan_here", "_law_state", "_law_starts", "_law_known", "_law_tick", "_law_choice", "_law_one"]
theorem ok_walk {f f1 f2 f3 f4 f5 C : Addr} {fd fd1 fd2 fd3 fd4 fd5 : FuncData} {k : Nat} (F : Fun K "_law_walk_right" "_law_walk_right" s_l_walk_right f fd) (M : Meths P w K mg base k C)
    (G1 : FnOk P w K mg base CX0 (k + 3) f1 fd1 ["line"] (spStates K C)) (kp1 : PySem.W.keepIn K (.ref f1) = true) (b1 : Binds K fd1 ["line"] []) (g1 : mg "states" = some (.ref f1))
    (G2 : FnOk P w K mg base CX0 (k + 3) f2 fd2 ["line", "plan", "tick"] (spStateAt K C)) (kp2 : PySem.W.keepIn K (.ref f2) = true) (b2 : Binds K fd2 ["line", "plan", "tick"] []) (g2 : mg "state_at" = some (.ref f2))
    (G3 : FnOk P w K mg base CX0 (k + 3) f3 fd3 ["line", "state"] (spChoices K C)) (kp3 : PySem.W.keepIn K (.ref f3) = true) (b3 : Binds K fd3 ["line", "state"] []) (g3 : mg "choices" = some (.ref f3))
    (G4 : FnOk P w K mg base CX0 (k + 3) f4 fd4 ["line", "plan"] (spClashP K C)) (kp4 : PySem.W.keepIn K (.ref f4) = true) (b4 : Binds K fd4 ["line", "plan"] []) (g4 : mg "clash" = some (.ref f4))
    (G5 : FnOk P w K mg base CX0 (k + 3) f5 fd5 ["line", "state", "choice"] (spAfter K C)) (kp5 : PySem.W.keepIn K (.ref f5) = true) (b5 : Binds K fd5 ["line", "state", "choice"] []) (g5 : mg "after" = some (.ref f5))
    (m1 : mg "len" = none) (m2 : mg "dict" = none) (m3 : mg "range" = none) (m4 : mg "tuple" = none) : FnOk P w K mg base CX0 (k + 4) f fd ["_law_made_here", "_law_plan_here"] (spWalkR K C) := by
  refine F.ok sc_l_walk_right (fun vs H Q E h => ?_) (fun cdv A outer s H vs Q E hr h => ?_)
  · obtain ⟨a, b, ws, R, ps, rfl, _⟩ := h; rfl
  · obtain ⟨a, b, ws, R, ps, rfl, hL, hR, hN, hP, hg, hb1000, q⟩ := h
    have hu := hr.units
    have hu64 : (A.deeper (envOfC "_law_walk_right" (defScope s_l_walk_right) s.heap.objs.size f cdv)).units + 64 < cLine := by have := hr.un; omega
    have hu65 : (A.deeper (envOfC "_law_walk_right" (defScope s_l_walk_right) s.heap.objs.size f cdv)).units + 65 < cLine := by have := hr.un; omega
    have hu1 : (A.deeper (envOfC "_law_walk_right" (defScope s_l_walk_right) s.heap.objs.size f cdv)).units + 1 < cLine := by have := hr.un; omega
    have hr2 := hr.mono (show k + 2 ≤ k + 3 by omega)
    refine ⟨_, pss_cons (ps_par3 (i := 2) (j := 3) (l := 4) (by rfl) sc_l_walk_right.nd rfl rfl rfl (by decide) (by decide) (by decide) rfl rfl rfl
          (pa_cons (pe_op op_repE (pe_tup (pa_cons (pe_tup pa_nil) pa_nil)) (pe_callB (cLenK (K := K) M rfl hr2) (by rfl) m1 PySem.boot_len (pa_cons (pv 0) pa_nil)))
          (pa_cons (pe_callTy (call_dictT (K := K) rfl rfl) (by rfl) m2 (by decide +kernel) (pa_cons (pv 1) pa_nil))
          (pa_cons (pe_call G1 hr (by rfl) g1 kp1 b1 .nil pass0 (pa_cons (pv 0) pa_nil)) pa_nil))) (by rfl))
      (pss_cons (ps_for PassesOwn.never rfl (pi_range1 (by rfl) m3 (pa_cons (pe_ifExp (pt_cmpR (op_neD hu64) (pv 1) (pe_tup pa_nil) (nomark _))
            (pe_op op_add (pe_ix ix_tup (pe_ix ix_tup (pv 1) (pe_un un_neg pe_int) (fun _ _ => rfl)) pe_int (fun _ _ => rfl)) pe_int) pe_int) pa_nil)) (pg_name (i := 5) sc_l_walk_right.nd rfl (.inr rfl))
        (pss_cons (ps_if (PW.pt (pw_or (pt_cmpR (op_neD hu64) (pe_call G2 hr (by rfl) g2 kp2 b2 .nil pass0 (pa_cons (pv 0) (pa_cons (pv 1) (pa_cons (pv 5) pa_nil)))) (pv 2) (nomark _))
            (pw_or1 (pt_cmpR (op_notInDT (K := K) rfl hu65) (pv 2) (pv 4) (by with_unfolding_all rfl))))) (pss_one (ps_ret pe_bl)) pss_nil)
        (pss_cons (ps_set (i := 6) sc_l_walk_right.nd rfl (.inl rfl) (pe_dget2 hu1 (pv 3) (pv 5) (pe_un un_neg pe_int) ⟨by rfl, by rfl, by rfl, by rfl⟩))
        (pss_cons (ps_if (pt_cmpR (op_notInK (K := K) rfl) (pv 6) (pe_call G3 hr (by rfl) g3 kp3 b3 .nil pass0 (pa_cons (pv 0) (pa_cons (pv 2) pa_nil))) (by with_unfolding_all rfl))
            (pss_one (ps_ret (pe_cmpR op_notN (pe_call G4 hr (by rfl) g4 kp4 b4 .nil pass0 (pa_cons (pv 0) (pa_cons (pe_callTy call_tuple_of (by rfl) m4 (by decide +kernel) (pa_cons
              (pe_lc (own := [("_law_one", 7)]) (g := gName 7) rfl sc_l_walk_right.nd (pi_tup (pv 1)) (blkOk_by (N := walkN) (sc := defScope s_l_walk_right) (by decide +kernel))
                (fun _ _ _ _ _ => pg_name (i := 7) sc_l_walk_right.nd rfl (Or.inl rfl)) (fun _ _ _ _ _ => pts_one (pt_cmpR op_le (pe_ix (ix_tupK (K := K) rfl) (pv 7) pe_int (fun _ _ => rfl)) (pv 5) (nomark _)))
                (fun _ _ _ _ _ => pv 7)) pa_nil)) pa_nil))) pe_non (nomark _)))) pss_nil)
        (pss_one (ps_set (i := 2) sc_l_walk_right.nd rfl (.inl rfl) (pe_call G5 hr (by rfl) g5 kp5 b5 .nil pass0 (pa_cons (pv 0) (pa_cons (pv 2) (pa_cons (pv 6) pa_nil))))))))))
      (pss_one (ps_ret (pe_cmpR op_isN (pe_call G4 hr (by rfl) g4 kp4 b4 .nil pass0 (pa_cons (pv 0) (pa_cons (pv 1) pa_nil))) pe_non (nomark _))))), ?_⟩
    have big : 4000 ≤ sizeLine := by rw [sizeLine_eq]; decide
    have few := hL.good.few
    have R6 := Reach.r60 hN
    have f60 := hg.few
    have hkn : ∀ s ∈ ps, s.2 < ws.length := hg.kinds
    -- the empty state
    refine ⟨by show 0 ≤ sizeLine; decide, fun c nc => ?_⟩
    have e1 : Same H (L2.upd H c (.tup [])) := same_new nc
    have hc1 := upd_same (H := H) (a := c) (o := .tup [])
    generalize L2.upd H c (.tup []) = H1 at e1 hc1 ⊢
    refine ⟨by show 1 ≤ sizeLine; decide, fun t nt => ?_⟩
    have e2 : Same H1 (L2.upd H1 t (.tup [V.ref c])) := same_new nt
    have ht2 := upd_same (H := H1) (a := t) (o := .tup [V.ref c])
    have hc2 := e2 _ _ hc1
    generalize L2.upd H1 t (.tup [V.ref c]) = H2 at e2 ht2 hc2 ⊢
    have e12 := e1.trans e2
    refine ⟨.ref a, rfl, a, ws, rfl, hL.stay (.of e12), t, ws.length, [V.ref c], rfl, rfl, ht2, by simp, by omega, by show 1 ≤ 1000; decide, fun H3 t0 e23 ht3 => ?_⟩
    have e3 := e12.trans e23
    have hs3 : StaAt H3 t0 (emptyL ws) := by
      refine ⟨_, ht3, ?_⟩
      have hh := rows_rep (e23 _ _ hc2) ws.length
      rw [flat_one]
      exact hh
    clear e23 ht3 hc2 ht2 e2 e12 e1 hc1 nc nt
    obtain ⟨ob, us, hfrz, oc, od, hT⟩ := hP.same e3
    obtain ⟨as, rfl, hpairs⟩ := plan_pairs hT
    have las : as.length = ps.length := by have := hT.len; rwa [List.length_map, List.length_map] at this
    refine ⟨.ref b, rfl, b, ob, as, kvsP ps, rfl, oc, od, hfrz, hpairs, fun d nd => ?_⟩
    have e4 := same_new (o := .dK (mergeK [] (kvsP ps))) nd
    have hd4 := upd_same (H := H3) (a := d) (o := .dK (mergeK [] (kvsP ps)))
    have e34 := e3.trans e4
    have hs4 := hs3.same e4
    have hfrz4 := e4 _ _ hfrz
    have hT4 := hT.stay (.of e4)
    generalize L2.upd H3 d (.dK (mergeK [] (kvsP ps))) = H4 at e4 hd4 e34 hs4 hfrz4 hT4 ⊢
    clear hpairs hT hfrz hs3 e3 nd
    refine ⟨.ref a, rfl, a, ws, R, rfl, hL.stay (.of e34), hR, hN, fun H5 x xus Ls e5 hx5 hS5 hall hform hlen => ⟨_, _, _, rfl, ?_⟩⟩
    have e35 := e34.trans e5
    have hd5 := e5 _ _ hd4
    have hs5 := hs4.same e5
    have hU5 : SqT K H5 b (as.map V.ref) := .inl (.inr ⟨ob, e5 _ _ hfrz4⟩)
    have hT5 := hT4.stay (.of e5)
    have hP5 : Tp K H5 (.ref b) (.tuple (planD ps)) := .tu hU5 hT5
    have hL5 := hL.stay (.of e35)
    clear hT4 hfrz4 hs4 hd4 e34 e4
    refine ⟨.ref b, rfl, by show 0 ≤ sizeLine; decide, fun z nz => ?_⟩
    have ez := same_new (o := .tup []) nz
    have hz := upd_same (H := H5) (a := z) (o := .tup [])
    have e36 := e35.trans ez
    have hd6 := ez _ _ hd5
    have hs6 := hs5.same ez
    have hU6 := Same.tup ez hU5
    have hT6 := hT5.stay (.of ez)
    have hP6 := hP5.stay (.of ez)
    have hL6 := hL5.stay (.of ez)
    have hx6 := ez _ _ hx5
    have hS6 := hS5.keep fun _ _ y => ez _ _ y
    generalize L2.upd H5 z (.tup []) = H6 at ez hz e36 hd6 hs6 hU6 hT6 hP6 hL6 hx6 hS6 ⊢
    clear hs5 hd5 hx5 hS5 hU5 hT5 hP5 hL5 e35 nz ez
    refine ⟨_, _, hP6.dp, .tup (.inl (.inl hz)) .nil, shaped_planD ps, by decide +kernel, _, rfl, ?_⟩
    refine iteQ (fun v H' => ∃ T : Nat, v = .int T ∧ H6 = H' ∧ T ≤ 2000 ∧ ∀ s ∈ ps, s.1 < T) (fun e Q' q' => ?_) (fun e Q' q' => ?_) ?_
    · rw [eqv_nil] at e
      have hne : ps ≠ [] := by
        intro y
        rw [y] at e
        exact absurd e (by decide)
      obtain ⟨qs, l, rfl⟩ : ∃ qs l, ps = qs ++ [l] := ⟨ps.dropLast, ps.getLast hne, (List.dropLast_concat_getLast hne).symm⟩
      have hlast : (as.map V.ref)[qs.length]? = some ((as.map V.ref)[qs.length]'(by rw [List.length_map, las, List.length_append]; exact Nat.lt_succ_self _)) := List.getElem?_eq_getElem _
      obtain ⟨cl, sl, hsl, ecl, hcl⟩ := start_at hT6 hlast
      have esl : sl = l := by
        rw [List.getElem?_append_right (Nat.le_refl _), Nat.sub_self] at hsl
        exact (Option.some.inj hsl).symm
      subst esl
      rw [ecl] at hlast
      have hat : atI (as.map V.ref) (-1) = some (.ref cl) := by
        have hl : (as.map V.ref).length = qs.length + 1 := by rw [List.length_map, las, List.length_append]; rfl
        have hne2 : as.map V.ref ≠ [] := fun y => by rw [y] at hl; exact nomatch hl
        have e1 : as.map V.ref = (as.map V.ref).dropLast ++ [V.ref cl] := by
          have e2 : (as.map V.ref).getLast hne2 = .ref cl := by
            rw [List.getLast_eq_getElem hne2]
            have := (List.getElem?_eq_some_iff.mp hlast).2
            rw [← this]
            congr 1
            omega
          rw [← e2, List.dropLast_concat_getLast]
        rw [e1]
        exact atI_last _ _
      have low := hg.low0 sl (List.mem_append.mpr (.inr (List.mem_singleton.mpr rfl)))
      have hi := hb1000 sl (List.mem_append.mpr (.inr (List.mem_singleton.mpr rfl)))
      refine ⟨.ref b, rfl, 1, rfl, b, _, -1, .ref cl, rfl, rfl, hU6, hat, cl, _, 0, .int sl.1, rfl, rfl, hcl, atI0, sl.1, 12, rfl, rfl, ?_⟩
      refine q' _ _ ⟨(sl.1 + 12).toNat, by rw [Int.toNat_of_nonneg (by omega)], rfl, by omega, fun s hs => ?_⟩
      rw [Int.toNat_of_nonneg (by omega)]
      rcases List.mem_append.mp hs with y | y
      · have := (List.pairwise_append.mp hg.pw).2.2 s y sl (List.mem_singleton.mpr rfl)
        omega
      · rw [List.mem_singleton.mp y]; omega
    · rw [eqv_nil] at e
      have hne : ps = [] := by
        cases ps with
        | nil => rfl
        | cons s r => exact absurd e (by simp)
      exact q' _ _ ⟨4, rfl, rfl, by decide, fun s hs => by rw [hne] at hs; exact nomatch hs⟩
    rintro v H' ⟨T, rfl, rfl, hT2, hTs⟩
    refine ⟨(T : Int), rfl, by omega, by omega, ?_⟩
    have st0 : stAt ws ps 0 = emptyL ws := by rw [stAt_run hR.rea R6 hg]; rfl
    refine for_range (lo := 0) (n := ((T : Nat) : Int).toNat) (fun i σ H' => ∃ st v5 v6 v7, σ = [some (.ref a), some (.ref b), some (.ref st), some (.ref d), some (.ref x), v5, v6, v7] ∧ Same H6 H' ∧ StaAt H' st (stAt ws ps i) ∧ Way ws (csOf ps i))
      ⟨t0, _, _, _, rfl, (fun _ _ y => y), by rw [st0]; exact hs6, fun i c y => (nomatch y)⟩ (fun i σ H7 hi h => ?_) (fun σ H7 h => ?_)
    · obtain ⟨st, v5, v6, v7, rfl, e7, hst, hway⟩ := h
      rw [Int.zero_add]
      have e07 := e36.trans e7
      have hW : Rchd ws (stAt ws ps i) := ⟨csOf ps i, hway, (stAt_run hR.rea R6 hg i).symm⟩
      have hL7 := hL6.stay (.of e7)
      have ev : (!PyData.eqv (sD (stAt ws ps i)) (sD (stAt ws ps i))) = false := by rw [eqv_sD, decide_eq_true rfl]; rfl
      refine ⟨.ref a, rfl, .ref b, rfl, .int (i : Nat), rfl, a, b, ws, R, ps, i, rfl, hL7, hR, R6, hP6.stay (.of e7), hg, fun H8 x8 e8 hx8 => ?_⟩
      have hst8 := hst.same e8
      refine ⟨.ref st, rfl, _, _, hx8.dp, hst8.dp, shaped_sD _, shaped_sD _, false, congrArg V.bl ev, iteF ?_⟩
      have e68 := e7.trans e8
      have hS8 := hS6.keep fun _ _ y => e68 _ _ y
      refine ⟨.ref st, rfl, .ref x, rfl, _, _, hst8.dp, .tup (.inl (.inl (e68 _ _ hx6))) hS8.dp, shaped_sD _, (shaped_sDs Ls).2, false, ?_, iteF ?_⟩
      · rw [if_pos rfl, any_sD.mpr (hall _ hW)]; rfl
      refine ⟨.ref d, rfl, d, rfl, .inl ⟨_, .inl (e68 _ _ hd6)⟩, .int (i : Nat), rfl, 1, rfl, _, DGet.k (k := Sum.inl ((i : Nat) : Int)) (e68 _ _ hd6), ?_⟩
      rw [show ((valV (mergeK [] (kvsP ps)) (Sum.inl ((i : Nat) : Int))).getD (V.int (-1))) = .int (chI (chAt ps i)) from starts_at hg i]
      refine ⟨.int (chI (chAt ps i)), rfl, .ref a, rfl, .ref st, rfl, a, st, ws, R, _, rfl, hL7.stay (.of e8), hR, hN, hst8, hW, fun H9 t9 e9 ht9 => ⟨t9, _, rfl, .inr (.inl (.inl ht9)), rfl, flat_chV _, ?_⟩⟩
      rw [if_pos rfl]
      have e69 := e68.trans e9
      have e09 := e36.trans e69
      refine ⟨_, rfl, ite2 (fun e => ?_) (fun e => ?_)⟩
      · -- two pieces meet
        have hbad : ¬ CanL ws (runS ws (csOf ps i)) (chAt ps i) := fun y => by
          rw [← stAt_run hR.rea R6 hg] at y
          rw [inV_chs.mpr y] at e
          exact absurd e (by decide)
        obtain ⟨qm, hqm⟩ := bad_meet hR.rea R6 hg hkn hbad
        have hgq : GoodP ws.length (ps.filter fun s => decide (s.1 ≤ ((i : Nat) : Int))) := hg.sub List.filter_sublist
        have hU9 := Same.tup e69 hU6
        have hT9 := hT6.stay (.of e69)
        refine ⟨.ref a, rfl, .ref b, rfl, b, rfl, ⟨_, hU9⟩, fun D nD => ?_⟩
        refine lc_tup (xs := as.map V.ref) (fun j H' => Same H9 H' ∧ ∃ vs, H' D = some (.lst vs) ∧ TpAll K H' vs (planD ((ps.take j).filter fun s => decide (s.1 ≤ ((i : Nat) : Int))))) ⟨same_new nD, [], upd_same, .no⟩ (fun j H' _ h => Same.tup h.1 hU9) (fun j y H' hy h => ?_) (fun H' h => ?_)
        · obtain ⟨e10, vs, hD10, hV10⟩ := h
          obtain ⟨c, s, hs, rfl, hc⟩ := start_at hT9 hy
          have hc10 := Same.tup e10 hc
          have lvs : vs.length ≤ 60 := by
            rw [hV10.len, List.length_map]
            refine Nat.le_trans (List.length_filter_le _ _) ?_
            rw [List.length_take]; omega
          refine ⟨rfl, .ref c, rfl, c, _, 0, .int s.1, rfl, rfl, hc10, atI0, .int (i : Nat), rfl, _, _, rfl, rfl, _, rfl, ite2 (fun e => ?_) (fun e => ?_)⟩
          · have e' : s.1 ≤ ((i : Nat) : Int) := of_decide_eq_true e
            have etk : (ps.take (j + 1)).filter (fun s => decide (s.1 ≤ ((i : Nat) : Int))) = (ps.take j).filter (fun s => decide (s.1 ≤ ((i : Nat) : Int))) ++ [s] := by
              rw [List.take_add_one, hs, List.filter_append]
              congr 1
              exact List.filter_cons_of_pos (a := s) (l := []) (by simpa using e')
            have all : TpAll K H' (vs ++ [.ref c]) (planD ((ps.take (j + 1)).filter fun s => decide (s.1 ≤ ((i : Nat) : Int)))) := by
              rw [etk, show planD ((ps.take j).filter (fun s => decide (s.1 ≤ ((i : Nat) : Int))) ++ [s]) = planD ((ps.take j).filter (fun s => decide (s.1 ≤ ((i : Nat) : Int)))) ++ [startD s] from List.map_append]
              exact hV10.add (.on (Tp.ofInts (ns := [s.1, (s.2 : Nat)]) hc10) .no)
            refine ⟨.ref c, rfl, vs, hD10, by omega, fun y o z => ?_, _, upd_same, all.stayT (fun _ _ z => tup_upd hD10 (fun _ z => nomatch z) (fun _ _ z => nomatch z) z)⟩
            rw [upd_ne (ne_of_none z nD)]
            exact e10 _ _ z
          · have e' : ¬ s.1 ≤ ((i : Nat) : Int) := fun z => e (decide_eq_true z)
            have etk : (ps.take (j + 1)).filter (fun s => decide (s.1 ≤ ((i : Nat) : Int))) = (ps.take j).filter (fun s => decide (s.1 ≤ ((i : Nat) : Int))) := by
              rw [List.take_add_one, hs, List.filter_append]
              have : List.filter (fun s : Int × Nat => decide (s.1 ≤ ((i : Nat) : Int))) (some s).toList = [] := List.filter_cons_of_neg (a := s) (l := []) (by simpa using e')
              rw [this, List.append_nil]
            exact ⟨e10, vs, hD10, by rw [etk]; exact hV10⟩
        · obtain ⟨e10, vs, hD10, hV10⟩ := h
          rw [List.length_map, las, List.take_length] at hV10
          refine ⟨D, _, rfl, .inl ⟨.of hD10, fun l nl => ?_⟩⟩
          have el := same_new (o := .tup vs) nl
          have e0l := (e09.trans e10).trans el
          refine ⟨a, l, ws, _, rfl, hL.stay (.of e0l), .tu (.inl (.inl upd_same)) (hV10.stay (.of el)), hgq, fun H' y e11 hdue => ⟨rfl, ?_⟩⟩
          have hv : (!decide (y = V.non)) = true := by
            cases hh : decide (y = V.non) with
            | false => rfl
            | true => exact absurd hqm ((due_non hdue).mp hh qm)
          rw [hv]
          exact q H' (e0l.trans e11)
      · have hcan : CanL ws (stAt ws ps i) (chAt ps i) := Classical.byContradiction fun y => e (by
          have : inV (.int (chI (chAt ps i))) (chV (openL ws (stAt ws ps i))) = false := Bool.eq_false_iff.mpr fun z => y (inV_chs.mp z)
          rw [this]; rfl)
        refine ⟨.ref a, rfl, .ref st, rfl, .int (chI (chAt ps i)), rfl, a, st, ws, R, _, _, rfl, hL.stay (.of e09), hR, hN, hst8.same e9, hW, hcan, fun H10 t10 e10 ht10 => ?_⟩
        refine ⟨t10, _, _, _, rfl, e69.trans e10, ?_, ?_⟩
        · rw [stAt_run hR.rea R6 hg, csOf_succ, runS_snoc, ← stAt_run hR.rea R6 hg]
          exact ht10
        · rw [csOf_succ]
          refine hway.snoc ?_
          rw [← stAt_run hR.rea R6 hg]
          exact hcan
    · obtain ⟨st, v5, v6, v7, rfl, e7, hst, hway⟩ := h
      rw [show ((T : Nat) : Int).toNat = T from rfl] at hway
      have no := way_nometa hR.rea R6 hg hkn hTs hway
      refine ⟨.ref a, rfl, .ref b, rfl, a, b, ws, ps, rfl, hL6.stay (.of e7), hP6.stay (.of e7), hg, fun H8 y e8 hdue => ⟨rfl, ?_⟩⟩
      rw [(due_non hdue).mpr no]
      exact q H8 ((e36.trans e7).trans e8)
end
end Sg

set_option Elab.async false
set_option linter.all false
set_option maxRecDepth 100000
set_option maxHeartbeats 4000000
namespace Sg
open PySem PySem.Spec PyProof.Rows L2 StX
theorem shaped_lt (ds : List PyData) : SeqAt.shaped (.list ds) = SeqAt.shaped (.tuple ds) := by simp only [SeqAt.shaped, PyData.canLay0, PyData.depth]; first | done | rfl
theorem eqv_nilL (ds : List PyData) : PyData.eqv (.list ds) (.list []) = ds.isEmpty := by
  cases ds <;> simp [PyData.eqv, PyData.eqvAll]
theorem pair_meet {n : Nat} {ws : List (List Int)} {s u : Int × Nat} (hg : GoodP n [s, u]) : (∃ q, Meet ws [s, u] q) ↔ (u.1 - s.1).toNat ∈ barsN (wk ws s.2) (wk ws u.2) := by
  have up := hg.up 1 0 s u (by decide) rfl rfl
  have key := meet_bars (ws := ws) hg (a := 0) (b := 1) rfl rfl (by decide)
  constructor
  · rintro ⟨⟨x, y, a, b⟩, h⟩
    have la := here_lt h.one
    have lb := here_lt h.two
    have asc := h.asc
    simp only [List.length_cons, List.length_nil] at la lb asc
    have ea : a = 0 := by omega
    have eb : b = 1 := by omega
    subst ea eb
    obtain ⟨d, e, hd⟩ := key.mp ⟨x, y, h⟩
    rw [show (u.1 - s.1).toNat = d by omega]
    exact hd
  · intro h
    obtain ⟨x, y, hq⟩ := key.mpr ⟨(u.1 - s.1).toNat, by omega, h⟩
    exact ⟨_, hq⟩
theorem inV_mem {r : List Nat} {d : Nat} : inV (.int ((d : Nat) : Int)) (nV r) = decide (d ∈ r) := by
  unfold inV
  rw [Bool.eq_iff_iff, List.any_eq_true, decide_eq_true_eq]
  constructor
  · rintro ⟨v, hv, e⟩
    obtain ⟨b, hb, rfl⟩ := List.mem_map.mp hv
    have : (b : Int) = d := by simpa [eqV] using e
    rw [show d = b by omega]
    exact hb
  · intro h
    exact ⟨_, List.mem_map.mpr ⟨d, h, rfl⟩, by simp [eqV]⟩
/-- a piece of kind k in tick t clashes with this one -/
def hitB (ws : List (List Int)) (t : Int) (k : Nat) (s : Int × Nat) : Bool := decide ((t - s.1).toNat ∈ barsN (wk ws s.2) (wk ws k))
section
variable {P : Program} {w : World} {K : PySem.W.Frag} {mg : Str → Option Value} {base : Heap}
/-! ### _law_next_right -/
def spNextR (K : PySem.W.Frag) (C : Addr) : Sp := fun vs H Q _ => ∃ (a b : Addr) (ws : List (List Int)) (R : Nat) (ps : List (Int × Nat)), vs = [.ref a, .ref b] ∧ LineAt K C H a ws ∧ Reach ws R ∧ NearR ws.length R ∧ PlanAt K H b ps ∧ GoodP ws.length ps ∧ (∀ s ∈ ps, s.1 ≤ 1000) ∧
  ∀ H', Same H H' → Q (.bl true) H'
abbrev nextN : List Str := ["_law_made_here", "_law_plan_here", "_law_tick", "_law_state", "_law_kind", "_law_delay", "_law_alone", "_law_one"]
theorem ok_next {f f1 f2 C : Addr} {fd fd1 fd2 : FuncData} {k : Nat} (F : Fun K "_law_next_right" "_law_next_right" s_l_next_right f fd) (M : Meths P w K mg base k C)
    (G1 : FnOk P w K mg base CX0 (k + 3) f1 fd1 ["line", "plan", "tick"] (spStateAt K C)) (kp1 : PySem.W.keepIn K (.ref f1) = true) (b1 : Binds K fd1 ["line", "plan", "tick"] []) (g1 : mg "state_at" = some (.ref f1))
    (G2 : FnOk P w K mg base CX0 (k + 3) f2 fd2 ["line", "plan"] (spClashP K C)) (kp2 : PySem.W.keepIn K (.ref f2) = true) (b2 : Binds K fd2 ["line", "plan"] []) (g2 : mg "clash" = some (.ref f2))
    (m1 : mg "len" = none) (m3 : mg "range" = none) : FnOk P w K mg base CX0 (k + 4) f fd ["_law_made_here", "_law_plan_here"] (spNextR K C) := by
  refine F.ok sc_l_next_right (fun vs H Q E h => ?_) (fun cdv A outer s H vs Q E hr h => ?_)
  · obtain ⟨a, b, ws, R, ps, rfl, _⟩ := h; rfl
  · obtain ⟨a, b, ws, R, ps, rfl, hL, hR, hN, hP, hg, hb1000, q⟩ := h
    have hu64 : (A.deeper (envOfC "_law_next_right" (defScope s_l_next_right) s.heap.objs.size f cdv)).units + 64 < cLine := by have := hr.un; omega
    have hr2 := hr.mono (show k + 2 ≤ k + 3 by omega)
    refine ⟨_, pss_cons (ps_set (i := 2) sc_l_next_right.nd rfl (.inr rfl) (pe_ifExp (pt_cmpR (op_neD hu64) (pv 1) (pe_tup pa_nil) (nomark _))
            (pe_op op_add (pe_ix ix_tup (pe_ix ix_tup (pv 1) (pe_un un_neg pe_int) (fun _ _ => rfl)) pe_int (fun _ _ => rfl)) pe_int) pe_int))
      (pss_cons (ps_set (i := 3) sc_l_next_right.nd rfl (.inl rfl) (pe_call G1 hr (by rfl) g1 kp1 b1 .nil pass0 (pa_cons (pv 0) (pa_cons (pv 1) (pa_cons (pv 2) pa_nil)))))
      (pss_cons (ps_for PassesOwn.never rfl (pi_range1 (by rfl) m3 (pa_cons (pe_callB (cLenK (K := K) M rfl hr2) (by rfl) m1 PySem.boot_len (pa_cons (pv 0) pa_nil)) pa_nil)) (pg_name (i := 4) sc_l_next_right.nd rfl (.inr rfl))
        (pss_one (ps_for PassesOwn.never rfl (pi_range1 (by rfl) m3 (pa_cons pe_int pa_nil)) (pg_name (i := 5) sc_l_next_right.nd rfl (.inr rfl))
          (pss_cons (ps_setLc (i := 6) (own := [("_law_one", 7)]) (g := gName 7) (by rfl) sc_l_next_right.nd rfl rfl (sw_true rfl rfl rfl (by decide +kernel)) (pi_tup (pv 1)) (blkOk_by (N := nextN) (sc := defScope s_l_next_right) (by decide +kernel))
              (fun _ _ _ _ _ => pg_name (i := 7) sc_l_next_right.nd rfl (Or.inl rfl))
              (fun _ _ _ _ _ => pts_one (pt_cmpR op_notN (pe_call G2 hr (by rfl) g2 kp2 b2 .nil pass0 (pa_cons (pv 0) (pa_cons (pe_tup (pa_cons (pv 7) (pa_cons (pe_tup (pa_cons (pe_op op_add (pv 2) (pv 5)) (pa_cons (pv 4) pa_nil))) pa_nil))) pa_nil))) pe_non (nomark _)))
              (fun _ _ _ _ _ => pv 7))
          (pss_one (ps_if (pt_cmpR op_ne (pe_cmpR (op_inK (K := K) rfl) (pv 5) (pe_ix ix_tup (pv 3) (pv 4) (fun _ _ => rfl)) (by with_unfolding_all rfl)) (pe_cmpR (op_neD hu64) (pv 6) (pe_lst pa_nil) (nomark _)) (nomark _)) (pss_one (ps_ret pe_bl)) pss_nil))))))
      (pss_one (ps_ret pe_bl)))), ?_⟩
    have big : 4000 ≤ sizeLine := by rw [sizeLine_eq]; decide
    have few := hL.good.few
    have R6 := Reach.r60 hN
    have f60 := hg.few
    obtain ⟨_, xs, ex, hU, hT⟩ := hP.tp.toTup
    cases ex
    have lxs := hT.len
    rw [List.length_map] at lxs
    refine ⟨.ref b, rfl, by show 0 ≤ sizeLine; decide, fun z nz => ?_⟩
    have ez := same_new (o := .tup []) nz
    have hz := upd_same (H := H) (a := z) (o := .tup [])
    have hU6 := Same.tup ez hU
    have hT6 := hT.stay (.of ez)
    have hP6 := hP.tp.stay (.of ez)
    have hL6 := hL.stay (.of ez)
    generalize L2.upd H z (.tup []) = H6 at ez hz hU6 hT6 hP6 hL6 ⊢
    refine ⟨_, _, hP6.dp, .tup (.inl (.inl hz)) .nil, shaped_planD ps, by decide +kernel, _, rfl, ?_⟩
    refine iteQ (fun v H' => ∃ T : Nat, v = .int T ∧ H6 = H' ∧ T ≤ 2000 ∧ ∀ s ∈ ps, s.1 < T) (fun e Q' q' => ?_) (fun e Q' q' => ?_) ?_
    · rw [eqv_nil] at e
      have hne : ps ≠ [] := by
        intro y
        rw [y] at e
        exact absurd e (by decide)
      obtain ⟨qs, l, rfl⟩ : ∃ qs l, ps = qs ++ [l] := ⟨ps.dropLast, ps.getLast hne, (List.dropLast_concat_getLast hne).symm⟩
      have hlx : xs.length = qs.length + 1 := by rw [lxs, List.length_append]; rfl
      have hlast : xs[qs.length]? = some (xs[qs.length]'(by omega)) := List.getElem?_eq_getElem _
      obtain ⟨cl, sl, hsl, ecl, hcl⟩ := start_at hT6 hlast
      have esl : sl = l := by
        rw [List.getElem?_append_right (Nat.le_refl _), Nat.sub_self] at hsl
        exact (Option.some.inj hsl).symm
      subst esl
      rw [ecl] at hlast
      have hat : atI xs (-1) = some (.ref cl) := by
        have hne2 : xs ≠ [] := fun y => by rw [y] at hlx; exact nomatch hlx
        have e1 : xs = xs.dropLast ++ [V.ref cl] := by
          have e2 : xs.getLast hne2 = .ref cl := by
            rw [List.getLast_eq_getElem hne2]
            have := (List.getElem?_eq_some_iff.mp hlast).2
            rw [← this]
            congr 1
            omega
          rw [← e2, List.dropLast_concat_getLast]
        rw [e1]
        exact atI_last _ _
      have low := hg.low0 sl (List.mem_append.mpr (.inr (List.mem_singleton.mpr rfl)))
      have hi := hb1000 sl (List.mem_append.mpr (.inr (List.mem_singleton.mpr rfl)))
      refine ⟨.ref b, rfl, 1, rfl, b, _, -1, .ref cl, rfl, rfl, hU6, hat, cl, _, 0, .int sl.1, rfl, rfl, hcl, atI0, sl.1, 1, rfl, rfl, ?_⟩
      refine q' _ _ ⟨(sl.1 + 1).toNat, by rw [Int.toNat_of_nonneg (by omega)], rfl, by omega, fun s hs => ?_⟩
      rw [Int.toNat_of_nonneg (by omega)]
      rcases List.mem_append.mp hs with y | y
      · have := (List.pairwise_append.mp hg.pw).2.2 s y sl (List.mem_singleton.mpr rfl)
        omega
      · rw [List.mem_singleton.mp y]; omega
    · rw [eqv_nil] at e
      have hne : ps = [] := by
        cases ps with
        | nil => rfl
        | cons s r => exact absurd e (by simp)
      exact q' _ _ ⟨0, rfl, rfl, by decide, fun s hs => by rw [hne] at hs; exact nomatch hs⟩
    rintro v H' ⟨T, rfl, rfl, hT2, hTs⟩
    refine ⟨.ref a, rfl, .ref b, rfl, .int (T : Nat), rfl, a, b, ws, R, ps, T, rfl, hL6, hR, R6, hP6, hg, fun H7 st e7 hst => ?_⟩
    have e07 := ez.trans e7
    have hU7 := Same.tup e7 hU6
    have hT7 := hT6.stay (.of e7)
    have hL7 := hL6.stay (.of e7)
    have hF := stAt_form hR.rea ps T
    obtain ⟨ss, hss, hrows⟩ := hst
    have lss := hrows.len
    rw [hF.len] at lss
    clear hU6 hT6 hL6 hP6 hz ez
    refine ⟨.ref a, rfl, a, ws, rfl, hL7, _, rfl, by omega, by omega, ?_⟩
    refine for_range (lo := 0) (n := ((ws.length : Nat) : Int).toNat) (fun i σ H' => ∃ v4 v5 v6 v7, σ = [some (.ref a), some (.ref b), some (.int (T : Nat)), some (.ref st), v4, v5, v6, v7] ∧ Same H7 H')
      ⟨_, _, _, _, rfl, fun _ _ y => y⟩ (fun i σ H8 hi h => ?_) (fun σ H8 h => ?_)
    · obtain ⟨v4, v5, v6, v7, rfl, e8⟩ := h
      rw [Int.zero_add]
      have hiw : i < ws.length := by omega
      refine ⟨6, rfl, by decide, by decide, ?_⟩
      refine for_range (lo := 0) (n := 6) (fun j σ H' => ∃ v5 v6 v7, σ = [some (.ref a), some (.ref b), some (.int (T : Nat)), some (.ref st), some (.int (i : Nat)), v5, v6, v7] ∧ Same H7 H')
        ⟨_, _, _, rfl, e8⟩ (fun j σ H9 hj h => ?_) (fun σ H9 h => ?_)
      · obtain ⟨v5, v6, v7, rfl, e9⟩ := h
        rw [Int.zero_add]
        have hU9 := Same.tup e9 hU7
        have hT9 := hT7.stay (.of e9)
        refine ⟨.ref b, rfl, b, rfl, ⟨_, hU9⟩, fun D nD => ?_⟩
        refine lc_tup (xs := xs) (fun m H' => Same H9 H' ∧ ∃ vs, H' D = some (.lst vs) ∧ TpAll K H' vs (planD ((ps.take m).filter (hitB ws ((T : Int) + j) i)))) ⟨same_new nD, [], upd_same, .no⟩ (fun m H' _ h => Same.tup h.1 hU9) (fun m y H10 hy h => ?_) (fun H10 h => ?_)
        · obtain ⟨e10, vs, hD10, hV10⟩ := h
          obtain ⟨c, s, hs, rfl, hc⟩ := start_at hT9 hy
          have hc10 := Same.tup e10 hc
          have hsm := List.mem_of_getElem? hs
          have hs0 := hg.low0 s hsm
          have hsT := hTs s hsm
          have lvs : vs.length ≤ 60 := by
            rw [hV10.len, List.length_map]
            refine Nat.le_trans (List.length_filter_le _ _) ?_
            rw [List.length_take]; omega
          have hg2 : GoodP ws.length [s, ((T : Int) + j, i)] := good_of (by simp) (fun x hx => by
            rcases List.mem_cons.mp hx with rfl | hx
            · exact hg.kinds _ hsm
            · rw [List.mem_singleton.mp hx]; exact hiw) (fun x hx => by
            rcases List.mem_cons.mp hx with rfl | hx
            · exact hs0
            · rw [List.mem_singleton.mp hx]; simp only; omega) (.cons (fun x hx => by rw [List.mem_singleton.mp hx]; simp only; omega) (List.pairwise_singleton _ _))
          refine ⟨rfl, .ref a, rfl, .ref c, rfl, .int (T : Nat), rfl, .int (j : Nat), rfl, _, _, rfl, rfl, .int (i : Nat), rfl, by show 2 ≤ sizeLine; decide, fun t nt => ?_⟩
          have et := same_new (o := .tup [V.int ((T : Nat) + (j : Nat)), .int (i : Nat)]) nt
          have ht := upd_same (H := H10) (a := t) (o := .tup [V.int ((T : Nat) + (j : Nat)), .int (i : Nat)])
          have e11 := e10.trans et
          have hc11 := Same.tup et hc10
          have hD11 := et _ _ hD10
          have hV11 := hV10.stay (.of et)
          generalize L2.upd H10 t (.tup [V.int ((T : Nat) + (j : Nat)), .int (i : Nat)]) = H11 at et ht e11 hc11 hD11 hV11 ⊢
          refine ⟨by show 2 ≤ sizeLine; decide, fun u nu => ?_⟩
          have eu := same_new (o := .tup [V.ref c, .ref t]) nu
          have hu := upd_same (H := H11) (a := u) (o := .tup [V.ref c, .ref t])
          have e12 := e11.trans eu
          have hc12 := Same.tup eu hc11
          have ht12 := eu _ _ ht
          have hD12 := eu _ _ hD11
          have hV12 := hV11.stay (.of eu)
          generalize L2.upd H11 u (.tup [V.ref c, .ref t]) = H12 at eu hu e12 hc12 ht12 hD12 hV12 ⊢
          have hP12 : Tp K H12 (.ref u) (.tuple (planD [s, ((T : Int) + j, i)])) :=
            .tu (.inl (.inl hu)) (.on (Tp.ofInts (ns := [s.1, (s.2 : Nat)]) hc12) (.on (Tp.ofInts (ns := [(T : Int) + j, (i : Nat)]) (.of ht12)) .no))
          refine ⟨a, u, ws, _, rfl, hL7.stay (.of (e9.trans e12)), hP12, hg2, fun H13 y e13 hdue => ⟨rfl, _, rfl, ?_⟩⟩
          have e1 := e12.trans e13
          have hD13 := e13 _ _ hD12
          have hV13 := hV12.stay (.of e13)
          have hc13 := Same.tup e13 hc12
          have pm := pair_meet (ws := ws) hg2
          have dn := due_non hdue
          refine ite2 (fun e => ?_) (fun e => ?_)
          · have hh : hitB ws ((T : Int) + j) i s = true := by
              unfold hitB
              refine decide_eq_true (pm.mp (Classical.byContradiction fun no => ?_))
              rw [dn.mpr fun q hq => no ⟨q, hq⟩] at e
              exact absurd e (by decide)
            have etk : (ps.take (m + 1)).filter (hitB ws ((T : Int) + j) i) = (ps.take m).filter (hitB ws ((T : Int) + j) i) ++ [s] := by
              rw [List.take_add_one, hs, List.filter_append]
              congr 1
              exact List.filter_cons_of_pos (a := s) (l := []) hh
            have all : TpAll K H13 (vs ++ [.ref c]) (planD ((ps.take (m + 1)).filter (hitB ws ((T : Int) + j) i))) := by
              rw [etk, show planD ((ps.take m).filter (hitB ws ((T : Int) + j) i) ++ [s]) = planD ((ps.take m).filter (hitB ws ((T : Int) + j) i)) ++ [startD s] from List.map_append]
              exact hV13.add (.on (Tp.ofInts (ns := [s.1, (s.2 : Nat)]) hc13) .no)
            refine ⟨.ref c, rfl, vs, hD13, by omega, fun y o z => ?_, _, upd_same, all.stayT (fun _ _ z => tup_upd hD13 (fun _ z => nomatch z) (fun _ _ z => nomatch z) z)⟩
            rw [upd_ne (ne_of_none z nD)]
            exact e1 _ _ z
          · have hh : ¬ hitB ws ((T : Int) + j) i s = true := fun z => e (by
              obtain ⟨qm, hqm⟩ := pm.mpr (of_decide_eq_true z)
              cases hy : decide (y = V.non) with
              | false => rfl
              | true => exact absurd hqm (dn.mp hy qm))
            have etk : (ps.take (m + 1)).filter (hitB ws ((T : Int) + j) i) = (ps.take m).filter (hitB ws ((T : Int) + j) i) := by
              rw [List.take_add_one, hs, List.filter_append]
              have : List.filter (hitB ws ((T : Int) + j) i) (some s).toList = [] := List.filter_cons_of_neg (a := s) (l := []) hh
              rw [this, List.append_nil]
            exact ⟨e1, vs, hD13, by rw [etk]; exact hV13⟩
        · obtain ⟨e10, vs, hD10, hV10⟩ := h
          rw [lxs, List.take_length] at hV10
          have e79 := e9.trans e10
          obtain ⟨us, hus⟩ : ∃ u, ss[i]? = some u := ⟨_, List.getElem?_eq_getElem (by omega)⟩
          obtain ⟨cr, r, hr1, rfl, hcr⟩ := hrows.at hus
          have hrow := rowS_at hr1
          refine ⟨.int (j : Nat), rfl, .ref st, rfl, .int (i : Nat), rfl, st, ss, (i : Nat), .ref cr, rfl, rfl, .inl (.inl (e79 _ _ hss)), atI_nat hus, cr, _, rfl, .inr (.inl (.inl (e79 _ _ hcr))), rfl, flat_nV r, ?_⟩
          rw [if_neg (by decide), inV_mem]
          refine ⟨.ref D, rfl, by show 0 ≤ sizeLine; decide, fun l nl => ?_⟩
          have el := same_new (o := .lst []) nl
          refine ⟨_, _, .lst (.of (el _ _ hD10)) (hV10.stay (.of el)).dp, .lst (.of upd_same) .nil, by rw [shaped_lt]; exact shaped_planD _, by decide +kernel, ?_⟩
          rw [eqv_nilL]
          have key : decide (j ∈ r) = !(planD (ps.filter (hitB ws ((T : Int) + j) i))).isEmpty := by
            rw [← hrow, Bool.eq_iff_iff, decide_eq_true_eq, stAt_mem hR.rea R6]
            rw [Bool.not_eq_true', List.isEmpty_eq_false_iff]
            constructor
            · rintro ⟨_, s, hs, h1, bb, hb, e⟩
              have : s ∈ ps.filter (hitB ws ((T : Int) + j) i) := by
                refine List.mem_filter.mpr ⟨hs, decide_eq_true ?_⟩
                rw [show ((T : Int) + j - s.1).toNat = bb by omega]
                exact hb
              intro z
              have h2 := List.map_eq_nil_iff.mp z
              rw [h2] at this
              exact nomatch this
            · intro z
              have h2 : ps.filter (hitB ws ((T : Int) + j) i) ≠ [] := fun y => z (by rw [y]; rfl)
              obtain ⟨s, hs⟩ := List.exists_mem_of_ne_nil _ h2
              obtain ⟨h3, h4⟩ := List.mem_filter.mp hs
              have h5 := hTs s h3
              have h6 := hg.low0 s h3
              exact ⟨hiw, s, h3, h5, _, of_decide_eq_true h4, by omega⟩
          rw [key]
          refine ⟨rfl, _, rfl, ?_⟩
          rw [decide_eq_true rfl]
          exact iteF ⟨_, _, _, rfl, e79.trans el⟩
      · obtain ⟨v5, v6, v7, rfl, e9⟩ := h
        exact ⟨_, _, _, _, rfl, e9⟩
    · obtain ⟨v4, v5, v6, v7, rfl, e8⟩ := h
      exact q H8 (e07.trans e8)
end
end Sg

set_option Elab.async false
set_option linter.all false
set_option maxRecDepth 100000
set_option maxHeartbeats 4000000
namespace Sg
open PySem PySem.Spec PyProof.Rows L2 StX
theorem Has.up {P : Program} {w : World} {K : PySem.W.Frag} {mg : Str → Option Value} {base : Heap} {k j : Nat} {C : Addr} {n : Str} {f : Addr} {fd : FuncData} {ps : List Str} {sp : Sp} (h : Has P w K mg base k C n f fd ps sp) (e : k ≤ j) : Has P w K mg base j C n f fd ps sp := ⟨h.ok.mono e, h.bi, h.at_, h.fn⟩
theorem Meths.up {P : Program} {w : World} {K : PySem.W.Frag} {mg : Str → Option Value} {base : Heap} {k j : Nat} {C : Addr} (M : Meths P w K mg base k C) (e : k ≤ j) : Meths P w K mg base j C := by
  obtain ⟨a1, a2, a3, ⟨_, _, a4⟩, ⟨_, _, a5, b5⟩, ⟨_, _, a6⟩, ⟨_, _, a7⟩, ⟨_, _, a8⟩, ⟨_, _, a9⟩, ⟨_, _, _, c1, c2, c3⟩, ⟨_, _, _, r1, r2, r3⟩, ⟨_, d1, d2⟩⟩ := M
  exact ⟨a1, a2, a3, ⟨_, _, a4.up e⟩, ⟨_, _, a5.up e, b5⟩, ⟨_, _, a6.up e⟩, ⟨_, _, a7.up e⟩, ⟨_, _, a8.up e⟩, ⟨_, _, a9.up e⟩, ⟨_, _, _, c1, c2.mono e, c3⟩, ⟨_, _, _, r1, r2.mono e, r3⟩, ⟨_, d1, d2.mono e⟩⟩
theorem near_of {ws : List (List Int)} {R : Nat} (hR : Reach ws R) (g : GoodL ws) (h : ∀ x ∈ ws, x.length ≤ if ws.length = 1 then 8 else 5) : NearR ws.length R := by
  have ht := top_is (allB ws ws)
  have e := hR.top _ ht
  have key : R = 0 ∨ ∃ x ∈ ws, R < x.length := by
    obtain ⟨_, _, g3⟩ := ht
    rcases g3 with z | z
    · left; omega
    · right
      rw [e] at z
      unfold allB at z
      obtain ⟨x, hx, z⟩ := List.mem_flatMap.mp z
      unfold rowB at z
      obtain ⟨y, hy, z⟩ := List.mem_flatMap.mp z
      obtain ⟨d, hd, z⟩ := List.mem_map.mp z
      have h1 := (List.mem_filter.mp hd).1
      have h2 := List.mem_range'_1.mp h1
      have h3 := (g.work x hx).pos
      exact ⟨x, hx, by omega⟩
  have few := g.few
  by_cases z : ws.length = 1
  · refine .inl ⟨z, ?_⟩
    rcases key with k | ⟨x, hx, k⟩
    · omega
    · have := h x hx
      rw [if_pos z] at this
      omega
  · refine .inr ⟨few, ?_⟩
    rcases key with k | ⟨x, hx, k⟩
    · omega
    · have := h x hx
      rw [if_neg z] at this
      omega
theorem cut_map (xs : List Int) (lo hi : Option Int) : ∃ ys : List Int, cutV (xs.map V.int) lo hi = ys.map V.int ∧ ys.length ≤ xs.length := by
  unfold cutV
  refine ⟨(xs.drop (HT.sIx (xs.map V.int).length 0 lo)).take (HT.sIx (xs.map V.int).length (xs.map V.int).length hi - HT.sIx (xs.map V.int).length 0 lo), ?_, ?_⟩
  · rw [List.map_take, List.map_drop]
  · rw [List.length_take, List.length_drop]
    exact Nat.le_trans (Nat.min_le_right _ _) (Nat.sub_le _ _)
section
variable {P : Program} {w : World} {K : PySem.W.Frag} {mg : Str → Option Value} {base : Heap}
def spLaw (K : PySem.W.Frag) : Sp := fun vs H Q _ => ∃ (a : Addr) (ns : List Int), vs = [.ref a] ∧ SqL K H a (ns.map V.int) ∧ ns.length ≤ 63 ∧ ∀ H', Q (.bl true) H'
theorem ok_law {f f1 f2 f3 f4 f5 f6 f7 C : Addr} {fd fd1 fd2 fd3 fd4 fd5 fd6 fd7 : FuncData} {k : Nat} (F : Fun K "law" "law" s_law f fd)
    (G1 : FnOk P w K mg base CX0 k f1 fd1 ["_law_script", "_law_k"] (spCell K)) (kp1 : PySem.W.keepIn K (.ref f1) = true) (b1 : Binds K fd1 ["_law_script", "_law_k"] []) (g1 : mg "_law_cell" = some (.ref f1))
    (G2 : FnOk P w K mg base CX0 k f2 fd2 ["_law_cell_here"] spPen) (kp2 : PySem.W.keepIn K (.ref f2) = true) (b2 : Binds K fd2 ["_law_cell_here"] []) (g2 : mg "_law_pen" = some (.ref f2))
    (G3 : FnOk P w K mg base CX0 k f3 fd3 ["_law_pen_here"] (spWorks K)) (kp3 : PySem.W.keepIn K (.ref f3) = true) (b3 : Binds K fd3 ["_law_pen_here"] []) (g3 : mg "_law_works" = some (.ref f3))
    (G4 : FnOk P w K mg base CX0 k f4 fd4 ["_law_works_here"] (spMade K C)) (kp4 : PySem.W.keepIn K (.ref f4) = true) (b4 : Binds K fd4 ["_law_works_here"] []) (g4 : mg "_law_made" = some (.ref f4))
    (G5 : FnOk P w K mg base CX0 k f5 fd5 ["_law_pen_here", "_law_works_here"] (spLPlan K)) (kp5 : PySem.W.keepIn K (.ref f5) = true) (b5 : Binds K fd5 ["_law_pen_here", "_law_works_here"] []) (g5 : mg "_law_plan" = some (.ref f5))
    (G6 : FnOk P w K mg base CX0 k f6 fd6 ["_law_made_here", "_law_plan_here"] (spWalkR K C)) (kp6 : PySem.W.keepIn K (.ref f6) = true) (b6 : Binds K fd6 ["_law_made_here", "_law_plan_here"] []) (g6 : mg "_law_walk_right" = some (.ref f6))
    (G7 : FnOk P w K mg base CX0 k f7 fd7 ["_law_made_here", "_law_plan_here"] (spNextR K C)) (kp7 : PySem.W.keepIn K (.ref f7) = true) (b7 : Binds K fd7 ["_law_made_here", "_law_plan_here"] []) (g7 : mg "_law_next_right" = some (.ref f7))
    (m2 : mg "range" = none) : FnG P w K mg base (k + 1) f fd ["_law_script"] (spLaw K) := by
  refine fnG_mk F sc_law (fun vs H Q h => ?_) (fun cdv A outer s H vs Q hgd hr h => ?_)
  · obtain ⟨a, ns, rfl, _⟩ := h; rfl
  · obtain ⟨a, ns, rfl, hS, hlen, q⟩ := h
    refine ⟨_, pss_cons (ps_for PassesOwn.never rfl (pi_list (pe_op op_cat (pe_lst (pa_cons (pe_call G1 hr (by rfl) g1 kp1 b1 .nil pass0 (pa_cons (pv 0) (pa_cons pe_int pa_nil))) pa_nil)) (pe_slice sl_list (pv 0) (po_some pe_int) (po_some pe_int)))) (pg_name (i := 1) sc_law.nd rfl (.inl rfl))
        (pss_cons (ps_set (i := 2) sc_law.nd rfl (.inl rfl) (pe_call G2 hr (by rfl) g2 kp2 b2 .nil pass0 (pa_cons (pv 1) pa_nil)))
        (pss_one (ps_for PassesOwn.never rfl (pi_range1 (by rfl) m2 (pa_cons pe_int pa_nil)) (pg_name (i := 3) sc_law.nd rfl (.inl rfl))
          (pss_cons (ps_set (i := 4) sc_law.nd rfl (.inl rfl) (pe_call G3 hr (by rfl) g3 kp3 b3 .nil pass0 (pa_cons (pv 2) pa_nil)))
          (pss_cons (ps_par (i := 5) (j := 6) (by rfl) sc_law.nd rfl rfl (by decide) rfl rfl (pa_cons (pe_call G4 hr (by rfl) g4 kp4 b4 .nil pass0 (pa_cons (pv 4) pa_nil)) (pa_cons (pe_call G5 hr (by rfl) g5 kp5 b5 .nil pass0 (pa_cons (pv 2) (pa_cons (pv 4) pa_nil))) pa_nil)) (by rfl))
          (pss_one (ps_if (PW.pt (pw_or (pt_not (pt_val (pe_call G6 hr (by rfl) g6 kp6 b6 .nil pass0 (pa_cons (pv 5) (pa_cons (pv 6) pa_nil))))) (pw_or1 (pt_not (pt_val (pe_call G7 hr (by rfl) g7 kp7 b7 .nil pass0 (pa_cons (pv 5) (pa_cons (pv 6) pa_nil)))))))) (pss_one (ps_ret pe_bl)) pss_nil))))))))
      (pss_one (ps_ret pe_bl)), ?_⟩
    refine ⟨.ref a, rfl, a, ns, 0, rfl, hS, fun r => ?_⟩
    refine ⟨by show 1 ≤ sizeLine; decide, fun L1 n1 => ?_⟩
    have hSb : SqL K (L2.upd H L1 (.lst [V.int r])) a (ns.map V.int) := (same_new n1).seq hS
    refine ⟨.ref a, rfl, 1, rfl, 3, rfl, a, ns.map V.int, rfl, hSb, fun La n2 => ?_⟩
    obtain ⟨ys, ey, ly⟩ := cut_map ns (some 1) (some 3)
    rw [ey]
    have h1 : (L2.upd (L2.upd H L1 (.lst [V.int r])) La (.lst (ys.map V.int))) L1 = some (.lst [V.int r]) := by rw [upd_ne (ne_of_none upd_same n2)]; exact upd_same
    refine ⟨L1, La, [V.int r], ys.map V.int, rfl, rfl, h1, upd_same, Nat.le_of_lt (small1000 (by rw [List.length_map, List.length_singleton]; omega)), fun L n => ?_⟩
    have eL : [V.int r] ++ ys.map V.int = (r :: ys).map V.int := rfl
    rw [eL]
    have hL0 : (L2.upd (L2.upd (L2.upd H L1 (.lst [V.int r])) La (.lst (ys.map V.int))) L (.lst ((r :: ys).map V.int))) L = some (.lst ((r :: ys).map V.int)) := upd_same
    generalize L2.upd (L2.upd (L2.upd H L1 (.lst [V.int r])) La (.lst (ys.map V.int))) L (.lst ((r :: ys).map V.int)) = H0 at hL0 ⊢
    generalize r :: ys = cs at hL0 ⊢
    refine ⟨L, rfl, ⟨_, .of hL0⟩, ?_⟩
    refine for_list (xs := cs.map V.int) (fun i σ H' => ∃ v1 v2 v3 v4 v5 v6, σ = [some (.ref a), v1, v2, v3, v4, v5, v6] ∧ H' L = some (.lst (cs.map V.int)))
      ⟨_, _, _, _, _, _, rfl, hL0⟩ (fun i σ H' _ h => ?_) ?_ ?_
    · obtain ⟨_, _, _, _, _, _, _, h⟩ := h
      exact .of h
    · rintro i x σ H1 hx ⟨v1, v2, v3, v4, v5, v6, rfl, hL1⟩
      rw [List.getElem?_map] at hx
      obtain ⟨z, hz, rfl⟩ := Option.map_eq_some_iff.mp hx
      refine ⟨.int z, rfl, z, rfl, fun H2 p np s2 hp => ?_⟩
      have nLp : L ≠ p := ne_of_none hL1 np
      have hL2 := s2 _ _ hL1
      refine ⟨5, rfl, by decide, by decide, ?_⟩
      refine for_range (lo := 0) (n := (5 : Int).toNat) (fun i σ H' => ∃ v1 v3 v4 v5 v6, σ = [some (.ref a), v1, some (.ref p), v3, v4, v5, v6] ∧ H' L = some (.lst (cs.map V.int)) ∧ PenAt H' p)
        ⟨_, _, _, _, _, rfl, hL2, hp⟩ ?_ ?_
      · rintro j σ H3 hj ⟨v1, v3, v4, v5, v6, rfl, hL3, hp3⟩
        refine ⟨.ref p, rfl, p, rfl, hp3, fun H4 t ws p4 b4' nt hT gw hmost => ?_⟩
        obtain ⟨R, hR⟩ := exists_reach ws
        have hN := near_of hR gw hmost
        have hL4 := b4' _ _ nLp hL3
        refine ⟨.ref t, rfl, t, ws, rfl, hT, gw, fun H5 x e5 nx hx5 => ?_⟩
        have hT5 := hT.stay (.of e5)
        obtain ⟨_, xw, ew, hS5, hTW⟩ := id hT5.toTup
        cases ew
        have lxw := hTW.len
        rw [List.length_map] at lxw
        refine ⟨.ref p, rfl, .ref t, rfl, p, t, xw, rfl, p4.same e5, hS5, by rw [lxw]; exact gw.least, by rw [lxw]; exact gw.few, fun H6 b ps p6 b6 nb hP hg hb => ⟨_, _, rfl, ?_⟩⟩
        rw [lxw] at hg
        have hx6 := hx5.stay (.pen b6 (p4.same e5))
        refine ⟨.ref x, rfl, .ref b, rfl, x, b, ws, R, ps, rfl, hx6, hR, hN, hP, hg, hb, fun H7 e7 => ⟨true, rfl, iteF ?_⟩⟩
        refine ⟨.ref x, rfl, .ref b, rfl, x, b, ws, R, ps, rfl, hx6.stay (.of e7), hR, hN, hP.same e7, hg, hb, fun H8 e8 => ⟨true, rfl, iteF ?_⟩⟩
        exact ⟨_, _, _, _, _, rfl, e8 _ _ (e7 _ _ (b6 _ _ nLp (e5 _ _ hL4))), (p6.same e7).same e8⟩
      · rintro σ H3 ⟨v1, v3, v4, v5, v6, rfl, hL3, hp3⟩
        exact ⟨_, _, _, _, _, _, rfl, hL3⟩
    · rintro σ H3 _
      exact q H3
end
end Sg

set_option Elab.async false
set_option linter.all false
set_option maxRecDepth 100000
set_option maxHeartbeats 4000000
namespace Sg
open PySem PySem.Spec PyProof.Rows L2 StX
theorem all_mk {l : PySem.W.OpenLaw} {w : World} {K : PySem.W.Frag} {h : Heap} {mg : Str → Option Value} {fa fd0 fd1 fd2 fd3 fd4 fd5 fd6 fd7 fd8 fd9 fd10 fd11 fd12 fd13 fd14 fd15 fd16 fd17 fd18 fd19 Dd19 fd20 fd21 fd22 fd23 fd24 fd25 fd26 fd27 fd28 fd29 fd30 fd31 fd32 fd33 fd34 fd35 fd36 fd37 fd38 fd39 fd40 C fm0 fm1 fm2 fm3 fm4 fm5 fm6 fm7 fm8 pp0 fp0 pp1 fp1 : Addr} {tu_NOWHERE tu_STATIONS tu_MOST_ITEMS tu_MOST_WORKS tu_MOST_STARTS tu_NOTHING : Tok} {rsp0 rsp1 : List Value} {fo ro : Option Value} {odd0 and0 odd1 and1 odd2 and2 odd3 and3 odd4 and4 odd5 and5 odd6 and6 odd7 and7 odd8 and8 odd9 and9 odd10 and10 odd11 and11 odd12 and12 odd13 and13 odd14 and14 odd15 and15 odd16 and16 odd17 and17 odd18 and18 odd19 and19 odd20 and20 odd21 and21 odd22 and22 odd23 and23 odd24 and24 odd25 and25 odd26 and26 odd27 and27 odd28 and28 odd29 and29 odd30 and30 odd31 and31 odd32 and32 odd33 and33 odd34 and34 odd35 and35 odd36 and36 odd37 and37 odd38 and38 odd39 and39 odd40 and40 odm0 anm0 odm1 anm1 odm2 anm2 odm3 anm3 odm4 anm4 odm5 anm5 odm6 anm6 odm7 anm7 odm8 anm8 odp0 anp0 odp1 anp1 : Option Addr} {sld0 sld1 sld2 sld3 sld4 sld5 sld6 sld7 sld8 sld9 sld10 sld11 sld12 sld13 sld14 sld15 sld16 sld17 sld18 sld19 sld20 sld21 sld22 sld23 sld24 sld25 sld26 sld27 sld28 sld29 sld30 sld31 sld32 sld33 sld34 sld35 sld36 sld37 sld38 sld39 sld40 slm0 slm1 slm2 slm3 slm4 slm5 slm6 slm7 slm8 slp0 slp1 : Array (Option Value)} {ocd0 kVd0 dcd0 pmd0 cdd0 ctd0 ocd1 kVd1 dcd1 pmd1 cdd1 ctd1 ocd2 kVd2 dcd2 pmd2 cdd2 ctd2 ocd3 kVd3 dcd3 pmd3 cdd3 ctd3 ocd4 kVd4 dcd4 pmd4 cdd4 ctd4 ocd5 kVd5 dcd5 pmd5 cdd5 ctd5 ocd6 kVd6 dcd6 pmd6 cdd6 ctd6 ocd7 kVd7 dcd7 pmd7 cdd7 ctd7 ocd8 kVd8 dcd8 pmd8 cdd8 ctd8 ocd9 kVd9 dcd9 pmd9 cdd9 ctd9 ocd10 kVd10 dcd10 pmd10 cdd10 ctd10 ocd11 kVd11 dcd11 pmd11 cdd11 ctd11 ocd12 kVd12 dcd12 pmd12 cdd12 ctd12 ocd13 kVd13 dcd13 pmd13 cdd13 ctd13 ocd14 kVd14 dcd14 pmd14 cdd14 ctd14 ocd15 kVd15 dcd15 pmd15 cdd15 ctd15 ocd16 kVd16 dcd16 pmd16 cdd16 ctd16 ocd17 kVd17 dcd17 pmd17 cdd17 ctd17 ocd18 kVd18 dcd18 pmd18 cdd18 ctd18 ocd19 kVd19 dcd19 pmd19 cdd19 ctd19 ocd20 kVd20 dcd20 pmd20 cdd20 ctd20 ocd21 kVd21 dcd21 pmd21 cdd21 ctd21 ocd22 kVd22 dcd22 pmd22 cdd22 ctd22 ocd23 kVd23 dcd23 pmd23 cdd23 ctd23 ocd24 kVd24 dcd24 pmd24 cdd24 ctd24 ocd25 kVd25 dcd25 pmd25 cdd25 ctd25 ocd26 kVd26 dcd26 pmd26 cdd26 ctd26 ocd27 kVd27 dcd27 pmd27 cdd27 ctd27 ocd28 kVd28 dcd28 pmd28 cdd28 ctd28 ocd29 kVd29 dcd29 pmd29 cdd29 ctd29 ocd30 kVd30 dcd30 pmd30 cdd30 ctd30 ocd31 kVd31 dcd31 pmd31 cdd31 ctd31 ocd32 kVd32 dcd32 pmd32 cdd32 ctd32 ocd33 kVd33 dcd33 pmd33 cdd33 ctd33 ocd34 kVd34 dcd34 pmd34 cdd34 ctd34 ocd35 kVd35 dcd35 pmd35 cdd35 ctd35 ocd36 kVd36 dcd36 pmd36 cdd36 ctd36 ocd37 kVd37 dcd37 pmd37 cdd37 ctd37 ocd38 kVd38 dcd38 pmd38 cdd38 ctd38 ocd39 kVd39 dcd39 pmd39 cdd39 ctd39 ocd40 kVd40 dcd40 pmd40 cdd40 ctd40 ocm0 kVm0 dcm0 pmm0 cdm0 ctm0 ocm1 kVm1 dcm1 pmm1 cdm1 ctm1 ocm2 kVm2 dcm2 pmm2 cdm2 ctm2 ocm3 kVm3 dcm3 pmm3 cdm3 ctm3 ocm4 kVm4 dcm4 pmm4 cdm4 ctm4 ocm5 kVm5 dcm5 pmm5 cdm5 ctm5 ocm6 kVm6 dcm6 pmm6 cdm6 ctm6 ocm7 kVm7 dcm7 pmm7 cdm7 ctm7 ocm8 kVm8 dcm8 pmm8 cdm8 ctm8 ocp0 kVp0 dcp0 pmp0 cdp0 ctp0 ocp1 kVp1 dcp1 pmp1 cdp1 ctp1 : Value} {ocDd19 : Value} {odDd19 : Option Addr} {nDd19 : Nat} {slDd19 : Array (Option Value)} {tDd19_0 tDd19_1 : Tok} (X : K.In h) (G : h.Ns mainGlobals mg) (hfa : mg "law" = some (.ref fa))
    (ad0 : PySem.W.nsIn K mainGlobals "is_int" = some (some (.ref fd0)))
    (ld0 : K.lookup fd0 = some ⟨ocd0, odd0, .func (PySem.W.fnOf "is_int" "is_int" (defArgs s_is_int) (defBody s_is_int) (defScope s_is_int) .none kVd0 dcd0 pmd0 and0 cdd0 ctd0), sld0⟩)
    (cd0 : PySem.W.codeIn K cdd0 "is_int" = true)
    (kd0 : PySem.W.keepIn K (.ref fd0) = true)
    (ad1 : PySem.W.nsIn K mainGlobals "is_between" = some (some (.ref fd1)))
    (ld1 : K.lookup fd1 = some ⟨ocd1, odd1, .func (PySem.W.fnOf "is_between" "is_between" (defArgs s_is_between) (defBody s_is_between) (defScope s_is_between) .none kVd1 dcd1 pmd1 and1 cdd1 ctd1), sld1⟩)
    (cd1 : PySem.W.codeIn K cdd1 "is_between" = true)
    (kd1 : PySem.W.keepIn K (.ref fd1) = true)
    (ad2 : PySem.W.nsIn K mainGlobals "is_work" = some (some (.ref fd2)))
    (ld2 : K.lookup fd2 = some ⟨ocd2, odd2, .func (PySem.W.fnOf "is_work" "is_work" (defArgs s_is_work) (defBody s_is_work) (defScope s_is_work) .none kVd2 dcd2 pmd2 and2 cdd2 ctd2), sld2⟩)
    (cd2 : PySem.W.codeIn K cdd2 "is_work" = true)
    (kd2 : PySem.W.keepIn K (.ref fd2) = true)
    (ad3 : PySem.W.nsIn K mainGlobals "bars" = some (some (.ref fd3)))
    (ld3 : K.lookup fd3 = some ⟨ocd3, odd3, .func (PySem.W.fnOf "bars" "bars" (defArgs s_bars) (defBody s_bars) (defScope s_bars) .none kVd3 dcd3 pmd3 and3 cdd3 ctd3), sld3⟩)
    (cd3 : PySem.W.codeIn K cdd3 "bars" = true)
    (kd3 : PySem.W.keepIn K (.ref fd3) = true)
    (ad4 : PySem.W.nsIn K mainGlobals "require_work" = some (some (.ref fd4)))
    (ld4 : K.lookup fd4 = some ⟨ocd4, odd4, .func (PySem.W.fnOf "require_work" "require_work" (defArgs s_require_work) (defBody s_require_work) (defScope s_require_work) .none kVd4 dcd4 pmd4 and4 cdd4 ctd4), sld4⟩)
    (cd4 : PySem.W.codeIn K cdd4 "require_work" = true)
    (kd4 : PySem.W.keepIn K (.ref fd4) = true)
    (ad5 : PySem.W.nsIn K mainGlobals "_clashes_behind" = some (some (.ref fd5)))
    (ld5 : K.lookup fd5 = some ⟨ocd5, odd5, .func (PySem.W.fnOf "_clashes_behind" "_clashes_behind" (defArgs s_clashes_behind) (defBody s_clashes_behind) (defScope s_clashes_behind) .none kVd5 dcd5 pmd5 and5 cdd5 ctd5), sld5⟩)
    (cd5 : PySem.W.codeIn K cdd5 "_clashes_behind" = true)
    (kd5 : PySem.W.keepIn K (.ref fd5) = true)
    (ad6 : PySem.W.nsIn K mainGlobals "is_kind" = some (some (.ref fd6)))
    (ld6 : K.lookup fd6 = some ⟨ocd6, odd6, .func (PySem.W.fnOf "is_kind" "is_kind" (defArgs s_is_kind) (defBody s_is_kind) (defScope s_is_kind) .none kVd6 dcd6 pmd6 and6 cdd6 ctd6), sld6⟩)
    (cd6 : PySem.W.codeIn K cdd6 "is_kind" = true)
    (kd6 : PySem.W.keepIn K (.ref fd6) = true)
    (ad7 : PySem.W.nsIn K mainGlobals "require_kind" = some (some (.ref fd7)))
    (ld7 : K.lookup fd7 = some ⟨ocd7, odd7, .func (PySem.W.fnOf "require_kind" "require_kind" (defArgs s_require_kind) (defBody s_require_kind) (defScope s_require_kind) .none kVd7 dcd7 pmd7 and7 cdd7 ctd7), sld7⟩)
    (cd7 : PySem.W.codeIn K cdd7 "require_kind" = true)
    (kd7 : PySem.W.keepIn K (.ref fd7) = true)
    (ad8 : PySem.W.nsIn K mainGlobals "_bars_of_all" = some (some (.ref fd8)))
    (ld8 : K.lookup fd8 = some ⟨ocd8, odd8, .func (PySem.W.fnOf "_bars_of_all" "_bars_of_all" (defArgs s_bars_of_all) (defBody s_bars_of_all) (defScope s_bars_of_all) .none kVd8 dcd8 pmd8 and8 cdd8 ctd8), sld8⟩)
    (cd8 : PySem.W.codeIn K cdd8 "_bars_of_all" = true)
    (kd8 : PySem.W.keepIn K (.ref fd8) = true)
    (ad9 : PySem.W.nsIn K mainGlobals "require_line" = some (some (.ref fd9)))
    (ld9 : K.lookup fd9 = some ⟨ocd9, odd9, .func (PySem.W.fnOf "require_line" "require_line" (defArgs s_require_line) (defBody s_require_line) (defScope s_require_line) .none kVd9 dcd9 pmd9 and9 cdd9 ctd9), sld9⟩)
    (cd9 : PySem.W.codeIn K cdd9 "require_line" = true)
    (kd9 : PySem.W.keepIn K (.ref fd9) = true)
    (ad10 : PySem.W.nsIn K mainGlobals "is_plan" = some (some (.ref fd10)))
    (ld10 : K.lookup fd10 = some ⟨ocd10, odd10, .func (PySem.W.fnOf "is_plan" "is_plan" (defArgs s_is_plan) (defBody s_is_plan) (defScope s_is_plan) .none kVd10 dcd10 pmd10 and10 cdd10 ctd10), sld10⟩)
    (cd10 : PySem.W.codeIn K cdd10 "is_plan" = true)
    (kd10 : PySem.W.keepIn K (.ref fd10) = true)
    (ad11 : PySem.W.nsIn K mainGlobals "clash" = some (some (.ref fd11)))
    (ld11 : K.lookup fd11 = some ⟨ocd11, odd11, .func (PySem.W.fnOf "clash" "clash" (defArgs s_clash) (defBody s_clash) (defScope s_clash) .none kVd11 dcd11 pmd11 and11 cdd11 ctd11), sld11⟩)
    (cd11 : PySem.W.codeIn K cdd11 "clash" = true)
    (kd11 : PySem.W.keepIn K (.ref fd11) = true)
    (ad12 : PySem.W.nsIn K mainGlobals "require_plan" = some (some (.ref fd12)))
    (ld12 : K.lookup fd12 = some ⟨ocd12, odd12, .func (PySem.W.fnOf "require_plan" "require_plan" (defArgs s_require_plan) (defBody s_require_plan) (defScope s_require_plan) .none kVd12 dcd12 pmd12 and12 cdd12 ctd12), sld12⟩)
    (cd12 : PySem.W.codeIn K cdd12 "require_plan" = true)
    (kd12 : PySem.W.keepIn K (.ref fd12) = true)
    (ad13 : PySem.W.nsIn K mainGlobals "_is_start" = some (some (.ref fd13)))
    (ld13 : K.lookup fd13 = some ⟨ocd13, odd13, .func (PySem.W.fnOf "_is_start" "_is_start" (defArgs s_is_start) (defBody s_is_start) (defScope s_is_start) .none kVd13 dcd13 pmd13 and13 cdd13 ctd13), sld13⟩)
    (cd13 : PySem.W.codeIn K cdd13 "_is_start" = true)
    (kd13 : PySem.W.keepIn K (.ref fd13) = true)
    (ad14 : PySem.W.nsIn K mainGlobals "_visits" = some (some (.ref fd14)))
    (ld14 : K.lookup fd14 = some ⟨ocd14, odd14, .func (PySem.W.fnOf "_visits" "_visits" (defArgs s_visits) (defBody s_visits) (defScope s_visits) .none kVd14 dcd14 pmd14 and14 cdd14 ctd14), sld14⟩)
    (cd14 : PySem.W.codeIn K cdd14 "_visits" = true)
    (kd14 : PySem.W.keepIn K (.ref fd14) = true)
    (ad15 : PySem.W.nsIn K mainGlobals "choices" = some (some (.ref fd15)))
    (ld15 : K.lookup fd15 = some ⟨ocd15, odd15, .func (PySem.W.fnOf "choices" "choices" (defArgs s_choices) (defBody s_choices) (defScope s_choices) .none kVd15 dcd15 pmd15 and15 cdd15 ctd15), sld15⟩)
    (cd15 : PySem.W.codeIn K cdd15 "choices" = true)
    (kd15 : PySem.W.keepIn K (.ref fd15) = true)
    (ad16 : PySem.W.nsIn K mainGlobals "after" = some (some (.ref fd16)))
    (ld16 : K.lookup fd16 = some ⟨ocd16, odd16, .func (PySem.W.fnOf "after" "after" (defArgs s_after) (defBody s_after) (defScope s_after) .none kVd16 dcd16 pmd16 and16 cdd16 ctd16), sld16⟩)
    (cd16 : PySem.W.codeIn K cdd16 "after" = true)
    (kd16 : PySem.W.keepIn K (.ref fd16) = true)
    (ad17 : PySem.W.nsIn K mainGlobals "states" = some (some (.ref fd17)))
    (ld17 : K.lookup fd17 = some ⟨ocd17, odd17, .func (PySem.W.fnOf "states" "states" (defArgs s_states) (defBody s_states) (defScope s_states) .none kVd17 dcd17 pmd17 and17 cdd17 ctd17), sld17⟩)
    (cd17 : PySem.W.codeIn K cdd17 "states" = true)
    (kd17 : PySem.W.keepIn K (.ref fd17) = true)
    (ad18 : PySem.W.nsIn K mainGlobals "state_at" = some (some (.ref fd18)))
    (ld18 : K.lookup fd18 = some ⟨ocd18, odd18, .func (PySem.W.fnOf "state_at" "state_at" (defArgs s_state_at) (defBody s_state_at) (defScope s_state_at) .none kVd18 dcd18 pmd18 and18 cdd18 ctd18), sld18⟩)
    (cd18 : PySem.W.codeIn K cdd18 "state_at" = true)
    (kd18 : PySem.W.keepIn K (.ref fd18) = true)
    (ad19 : PySem.W.nsIn K mainGlobals "require_near" = some (some (.ref fd19)))
    (ld19 : K.lookup fd19 = some ⟨ocd19, odd19, .func (PySem.W.fnOf "require_near" "require_near" (defArgs s_require_near) (defBody s_require_near) (defScope s_require_near) (.ref Dd19) kVd19 dcd19 pmd19 and19 cdd19 ctd19), sld19⟩)
    (D_d19 : K.lookup Dd19 = some ⟨ocDd19, odDd19, .seq #[.int 8 tDd19_0, .int 5 tDd19_1] nDd19, slDd19⟩)
    (cd19 : PySem.W.codeIn K cdd19 "require_near" = true)
    (kd19 : PySem.W.keepIn K (.ref fd19) = true)
    (ad20 : PySem.W.nsIn K mainGlobals "_require_state" = some (some (.ref fd20)))
    (ld20 : K.lookup fd20 = some ⟨ocd20, odd20, .func (PySem.W.fnOf "_require_state" "_require_state" (defArgs s_require_state) (defBody s_require_state) (defScope s_require_state) .none kVd20 dcd20 pmd20 and20 cdd20 ctd20), sld20⟩)
    (cd20 : PySem.W.codeIn K cdd20 "_require_state" = true)
    (kd20 : PySem.W.keepIn K (.ref fd20) = true)
    (ad21 : PySem.W.nsIn K mainGlobals "_has_form" = some (some (.ref fd21)))
    (ld21 : K.lookup fd21 = some ⟨ocd21, odd21, .func (PySem.W.fnOf "_has_form" "_has_form" (defArgs s_has_form) (defBody s_has_form) (defScope s_has_form) .none kVd21 dcd21 pmd21 and21 cdd21 ctd21), sld21⟩)
    (cd21 : PySem.W.codeIn K cdd21 "_has_form" = true)
    (kd21 : PySem.W.keepIn K (.ref fd21) = true)
    (ad22 : PySem.W.nsIn K mainGlobals "_is_form_of_delays" = some (some (.ref fd22)))
    (ld22 : K.lookup fd22 = some ⟨ocd22, odd22, .func (PySem.W.fnOf "_is_form_of_delays" "_is_form_of_delays" (defArgs s_is_form_of_delays) (defBody s_is_form_of_delays) (defScope s_is_form_of_delays) .none kVd22 dcd22 pmd22 and22 cdd22 ctd22), sld22⟩)
    (cd22 : PySem.W.codeIn K cdd22 "_is_form_of_delays" = true)
    (kd22 : PySem.W.keepIn K (.ref fd22) = true)
    (ad23 : PySem.W.nsIn K mainGlobals "_is_reached" = some (some (.ref fd23)))
    (ld23 : K.lookup fd23 = some ⟨ocd23, odd23, .func (PySem.W.fnOf "_is_reached" "_is_reached" (defArgs s_is_reached) (defBody s_is_reached) (defScope s_is_reached) .none kVd23 dcd23 pmd23 and23 cdd23 ctd23), sld23⟩)
    (cd23 : PySem.W.codeIn K cdd23 "_is_reached" = true)
    (kd23 : PySem.W.keepIn K (.ref fd23) = true)
    (ad24 : PySem.W.nsIn K mainGlobals "_bars_only" = some (some (.ref fd24)))
    (ld24 : K.lookup fd24 = some ⟨ocd24, odd24, .func (PySem.W.fnOf "_bars_only" "_bars_only" (defArgs s_bars_only) (defBody s_bars_only) (defScope s_bars_only) .none kVd24 dcd24 pmd24 and24 cdd24 ctd24), sld24⟩)
    (cd24 : PySem.W.codeIn K cdd24 "_bars_only" = true)
    (kd24 : PySem.W.keepIn K (.ref fd24) = true)
    (ad25 : PySem.W.nsIn K mainGlobals "_empty_state" = some (some (.ref fd25)))
    (ld25 : K.lookup fd25 = some ⟨ocd25, odd25, .func (PySem.W.fnOf "_empty_state" "_empty_state" (defArgs s_empty_state) (defBody s_empty_state) (defScope s_empty_state) .none kVd25 dcd25 pmd25 and25 cdd25 ctd25), sld25⟩)
    (cd25 : PySem.W.codeIn K cdd25 "_empty_state" = true)
    (kd25 : PySem.W.keepIn K (.ref fd25) = true)
    (ad26 : PySem.W.nsIn K mainGlobals "_open_choices" = some (some (.ref fd26)))
    (ld26 : K.lookup fd26 = some ⟨ocd26, odd26, .func (PySem.W.fnOf "_open_choices" "_open_choices" (defArgs s_open_choices) (defBody s_open_choices) (defScope s_open_choices) .none kVd26 dcd26 pmd26 and26 cdd26 ctd26), sld26⟩)
    (cd26 : PySem.W.codeIn K cdd26 "_open_choices" = true)
    (kd26 : PySem.W.keepIn K (.ref fd26) = true)
    (ad27 : PySem.W.nsIn K mainGlobals "_behind" = some (some (.ref fd27)))
    (ld27 : K.lookup fd27 = some ⟨ocd27, odd27, .func (PySem.W.fnOf "_behind" "_behind" (defArgs s_behind) (defBody s_behind) (defScope s_behind) .none kVd27 dcd27 pmd27 and27 cdd27 ctd27), sld27⟩)
    (cd27 : PySem.W.codeIn K cdd27 "_behind" = true)
    (kd27 : PySem.W.keepIn K (.ref fd27) = true)
    (ad28 : PySem.W.nsIn K mainGlobals "_delays" = some (some (.ref fd28)))
    (ld28 : K.lookup fd28 = some ⟨ocd28, odd28, .func (PySem.W.fnOf "_delays" "_delays" (defArgs s_delays) (defBody s_delays) (defScope s_delays) .none kVd28 dcd28 pmd28 and28 cdd28 ctd28), sld28⟩)
    (cd28 : PySem.W.codeIn K cdd28 "_delays" = true)
    (kd28 : PySem.W.keepIn K (.ref fd28) = true)
    (ad29 : PySem.W.nsIn K mainGlobals "_ascending" = some (some (.ref fd29)))
    (ld29 : K.lookup fd29 = some ⟨ocd29, odd29, .func (PySem.W.fnOf "_ascending" "_ascending" (defArgs s_ascending) (defBody s_ascending) (defScope s_ascending) .none kVd29 dcd29 pmd29 and29 cdd29 ctd29), sld29⟩)
    (cd29 : PySem.W.codeIn K cdd29 "_ascending" = true)
    (kd29 : PySem.W.keepIn K (.ref fd29) = true)
    (ad30 : PySem.W.nsIn K mainGlobals "_moves" = some (some (.ref fd30)))
    (ld30 : K.lookup fd30 = some ⟨ocd30, odd30, .func (PySem.W.fnOf "_moves" "_moves" (defArgs s_moves) (defBody s_moves) (defScope s_moves) .none kVd30 dcd30 pmd30 and30 cdd30 ctd30), sld30⟩)
    (cd30 : PySem.W.codeIn K cdd30 "_moves" = true)
    (kd30 : PySem.W.keepIn K (.ref fd30) = true)
    (ad31 : PySem.W.nsIn K mainGlobals "_law_cell" = some (some (.ref fd31)))
    (ld31 : K.lookup fd31 = some ⟨ocd31, odd31, .func (PySem.W.fnOf "_law_cell" "_law_cell" (defArgs s_l_cell) (defBody s_l_cell) (defScope s_l_cell) .none kVd31 dcd31 pmd31 and31 cdd31 ctd31), sld31⟩)
    (cd31 : PySem.W.codeIn K cdd31 "_law_cell" = true)
    (kd31 : PySem.W.keepIn K (.ref fd31) = true)
    (ad32 : PySem.W.nsIn K mainGlobals "_law_pen" = some (some (.ref fd32)))
    (ld32 : K.lookup fd32 = some ⟨ocd32, odd32, .func (PySem.W.fnOf "_law_pen" "_law_pen" (defArgs s_l_pen) (defBody s_l_pen) (defScope s_l_pen) .none kVd32 dcd32 pmd32 and32 cdd32 ctd32), sld32⟩)
    (cd32 : PySem.W.codeIn K cdd32 "_law_pen" = true)
    (kd32 : PySem.W.keepIn K (.ref fd32) = true)
    (ad33 : PySem.W.nsIn K mainGlobals "_law_draw" = some (some (.ref fd33)))
    (ld33 : K.lookup fd33 = some ⟨ocd33, odd33, .func (PySem.W.fnOf "_law_draw" "_law_draw" (defArgs s_l_draw) (defBody s_l_draw) (defScope s_l_draw) .none kVd33 dcd33 pmd33 and33 cdd33 ctd33), sld33⟩)
    (cd33 : PySem.W.codeIn K cdd33 "_law_draw" = true)
    (kd33 : PySem.W.keepIn K (.ref fd33) = true)
    (ad34 : PySem.W.nsIn K mainGlobals "_law_work" = some (some (.ref fd34)))
    (ld34 : K.lookup fd34 = some ⟨ocd34, odd34, .func (PySem.W.fnOf "_law_work" "_law_work" (defArgs s_l_work) (defBody s_l_work) (defScope s_l_work) .none kVd34 dcd34 pmd34 and34 cdd34 ctd34), sld34⟩)
    (cd34 : PySem.W.codeIn K cdd34 "_law_work" = true)
    (kd34 : PySem.W.keepIn K (.ref fd34) = true)
    (ad35 : PySem.W.nsIn K mainGlobals "_law_made" = some (some (.ref fd35)))
    (ld35 : K.lookup fd35 = some ⟨ocd35, odd35, .func (PySem.W.fnOf "_law_made" "_law_made" (defArgs s_l_made) (defBody s_l_made) (defScope s_l_made) .none kVd35 dcd35 pmd35 and35 cdd35 ctd35), sld35⟩)
    (cd35 : PySem.W.codeIn K cdd35 "_law_made" = true)
    (kd35 : PySem.W.keepIn K (.ref fd35) = true)
    (ad36 : PySem.W.nsIn K mainGlobals "_law_works" = some (some (.ref fd36)))
    (ld36 : K.lookup fd36 = some ⟨ocd36, odd36, .func (PySem.W.fnOf "_law_works" "_law_works" (defArgs s_l_works) (defBody s_l_works) (defScope s_l_works) .none kVd36 dcd36 pmd36 and36 cdd36 ctd36), sld36⟩)
    (cd36 : PySem.W.codeIn K cdd36 "_law_works" = true)
    (kd36 : PySem.W.keepIn K (.ref fd36) = true)
    (ad37 : PySem.W.nsIn K mainGlobals "_law_plan" = some (some (.ref fd37)))
    (ld37 : K.lookup fd37 = some ⟨ocd37, odd37, .func (PySem.W.fnOf "_law_plan" "_law_plan" (defArgs s_l_plan) (defBody s_l_plan) (defScope s_l_plan) .none kVd37 dcd37 pmd37 and37 cdd37 ctd37), sld37⟩)
    (cd37 : PySem.W.codeIn K cdd37 "_law_plan" = true)
    (kd37 : PySem.W.keepIn K (.ref fd37) = true)
    (ad38 : PySem.W.nsIn K mainGlobals "_law_walk_right" = some (some (.ref fd38)))
    (ld38 : K.lookup fd38 = some ⟨ocd38, odd38, .func (PySem.W.fnOf "_law_walk_right" "_law_walk_right" (defArgs s_l_walk_right) (defBody s_l_walk_right) (defScope s_l_walk_right) .none kVd38 dcd38 pmd38 and38 cdd38 ctd38), sld38⟩)
    (cd38 : PySem.W.codeIn K cdd38 "_law_walk_right" = true)
    (kd38 : PySem.W.keepIn K (.ref fd38) = true)
    (ad39 : PySem.W.nsIn K mainGlobals "_law_next_right" = some (some (.ref fd39)))
    (ld39 : K.lookup fd39 = some ⟨ocd39, odd39, .func (PySem.W.fnOf "_law_next_right" "_law_next_right" (defArgs s_l_next_right) (defBody s_l_next_right) (defScope s_l_next_right) .none kVd39 dcd39 pmd39 and39 cdd39 ctd39), sld39⟩)
    (cd39 : PySem.W.codeIn K cdd39 "_law_next_right" = true)
    (kd39 : PySem.W.keepIn K (.ref fd39) = true)
    (ad40 : PySem.W.nsIn K mainGlobals "law" = some (some (.ref fd40)))
    (ld40 : K.lookup fd40 = some ⟨ocd40, odd40, .func (PySem.W.fnOf "law" "law" (defArgs s_law) (defBody s_law) (defScope s_law) .none kVd40 dcd40 pmd40 and40 cdd40 ctd40), sld40⟩)
    (cd40 : PySem.W.codeIn K cdd40 "law" = true)
    (kd40 : PySem.W.keepIn K (.ref fd40) = true)
    (aC : PySem.W.nsIn K mainGlobals "Line" = some (some (.ref C)))
    (am0 : PySem.W.findIn K (.ref C) "__init__" = some (some (.ref fm0)))
    (im0 : PySem.W.isFn K (.ref fm0) = true)
    (lm0 : K.lookup fm0 = some ⟨ocm0, odm0, .func (PySem.W.fnOf "__init__" "Line.__init__" (defArgs s_Line_init) (defBody s_Line_init) (defScope s_Line_init) .none kVm0 dcm0 pmm0 anm0 cdm0 ctm0), slm0⟩)
    (cm0 : PySem.W.codeIn K cdm0 "Line.__init__" = true)
    (km0 : PySem.W.keepIn K (.ref fm0) = true)
    (am1 : PySem.W.findIn K (.ref C) "__len__" = some (some (.ref fm1)))
    (im1 : PySem.W.isFn K (.ref fm1) = true)
    (lm1 : K.lookup fm1 = some ⟨ocm1, odm1, .func (PySem.W.fnOf "__len__" "Line.__len__" (defArgs s_Line_len) (defBody s_Line_len) (defScope s_Line_len) .none kVm1 dcm1 pmm1 anm1 cdm1 ctm1), slm1⟩)
    (cm1 : PySem.W.codeIn K cdm1 "Line.__len__" = true)
    (km1 : PySem.W.keepIn K (.ref fm1) = true)
    (am2 : PySem.W.findIn K (.ref C) "__call__" = some (some (.ref fm2)))
    (im2 : PySem.W.isFn K (.ref fm2) = true)
    (lm2 : K.lookup fm2 = some ⟨ocm2, odm2, .func (PySem.W.fnOf "__call__" "Line.__call__" (defArgs s_Line_call) (defBody s_Line_call) (defScope s_Line_call) .none kVm2 dcm2 pmm2 anm2 cdm2 ctm2), slm2⟩)
    (cm2 : PySem.W.codeIn K cdm2 "Line.__call__" = true)
    (km2 : PySem.W.keepIn K (.ref fm2) = true)
    (am3 : PySem.W.findIn K (.ref C) "__add__" = some (some (.ref fm3)))
    (im3 : PySem.W.isFn K (.ref fm3) = true)
    (lm3 : K.lookup fm3 = some ⟨ocm3, odm3, .func (PySem.W.fnOf "__add__" "Line.__add__" (defArgs s_Line_add) (defBody s_Line_add) (defScope s_Line_add) .none kVm3 dcm3 pmm3 anm3 cdm3 ctm3), slm3⟩)
    (cm3 : PySem.W.codeIn K cdm3 "Line.__add__" = true)
    (km3 : PySem.W.keepIn K (.ref fm3) = true)
    (am4 : PySem.W.findIn K (.ref C) "__sub__" = some (some (.ref fm4)))
    (im4 : PySem.W.isFn K (.ref fm4) = true)
    (lm4 : K.lookup fm4 = some ⟨ocm4, odm4, .func (PySem.W.fnOf "__sub__" "Line.__sub__" (defArgs s_Line_sub) (defBody s_Line_sub) (defScope s_Line_sub) .none kVm4 dcm4 pmm4 anm4 cdm4 ctm4), slm4⟩)
    (cm4 : PySem.W.codeIn K cdm4 "Line.__sub__" = true)
    (km4 : PySem.W.keepIn K (.ref fm4) = true)
    (am5 : PySem.W.findIn K (.ref C) "__neg__" = some (some (.ref fm5)))
    (im5 : PySem.W.isFn K (.ref fm5) = true)
    (lm5 : K.lookup fm5 = some ⟨ocm5, odm5, .func (PySem.W.fnOf "__neg__" "Line.__neg__" (defArgs s_Line_neg) (defBody s_Line_neg) (defScope s_Line_neg) .none kVm5 dcm5 pmm5 anm5 cdm5 ctm5), slm5⟩)
    (cm5 : PySem.W.codeIn K cdm5 "Line.__neg__" = true)
    (km5 : PySem.W.keepIn K (.ref fm5) = true)
    (am6 : PySem.W.findIn K (.ref C) "__eq__" = some (some (.ref fm6)))
    (im6 : PySem.W.isFn K (.ref fm6) = true)
    (lm6 : K.lookup fm6 = some ⟨ocm6, odm6, .func (PySem.W.fnOf "__eq__" "Line.__eq__" (defArgs s_Line_eq) (defBody s_Line_eq) (defScope s_Line_eq) .none kVm6 dcm6 pmm6 anm6 cdm6 ctm6), slm6⟩)
    (cm6 : PySem.W.codeIn K cdm6 "Line.__eq__" = true)
    (km6 : PySem.W.keepIn K (.ref fm6) = true)
    (am7 : PySem.W.findIn K (.ref C) "__getitem__" = some (some (.ref fm7)))
    (im7 : PySem.W.isFn K (.ref fm7) = true)
    (lm7 : K.lookup fm7 = some ⟨ocm7, odm7, .func (PySem.W.fnOf "__getitem__" "Line.__getitem__" (defArgs s_Line_getitem) (defBody s_Line_getitem) (defScope s_Line_getitem) .none kVm7 dcm7 pmm7 anm7 cdm7 ctm7), slm7⟩)
    (cm7 : PySem.W.codeIn K cdm7 "Line.__getitem__" = true)
    (km7 : PySem.W.keepIn K (.ref fm7) = true)
    (am8 : PySem.W.findIn K (.ref C) "__repr__" = some (some (.ref fm8)))
    (im8 : PySem.W.isFn K (.ref fm8) = true)
    (lm8 : K.lookup fm8 = some ⟨ocm8, odm8, .func (PySem.W.fnOf "__repr__" "Line.__repr__" (defArgs s_Line_repr) (defBody s_Line_repr) (defScope s_Line_repr) .none kVm8 dcm8 pmm8 anm8 cdm8 ctm8), slm8⟩)
    (cm8 : PySem.W.codeIn K cdm8 "Line.__repr__" = true)
    (km8 : PySem.W.keepIn K (.ref fm8) = true)
    (ap0 : PySem.W.findIn K (.ref C) "works" = some (some (.ref pp0)))
    (gp0 : PySem.W.specialIn K (.ref pp0) "__get__" = some (some (.builtin "property.__get__")))
    (tp0 : PySem.W.takesIn K (.ref pp0) = some true)
    (rp0 : PySem.W.recIn K pp0 "property" = some (.ref fp0 :: rsp0))
    (lp0 : K.lookup fp0 = some ⟨ocp0, odp0, .func (PySem.W.fnOf "works" "Line.works" (defArgs s_Line_works) (defBody s_Line_works) (defScope s_Line_works) .none kVp0 dcp0 pmp0 anp0 cdp0 ctp0), slp0⟩)
    (cp0 : PySem.W.codeIn K cdp0 "Line.works" = true)
    (kp0 : PySem.W.keepIn K (.ref fp0) = true)
    (ap1 : PySem.W.findIn K (.ref C) "reach" = some (some (.ref pp1)))
    (gp1 : PySem.W.specialIn K (.ref pp1) "__get__" = some (some (.builtin "property.__get__")))
    (tp1 : PySem.W.takesIn K (.ref pp1) = some true)
    (rp1 : PySem.W.recIn K pp1 "property" = some (.ref fp1 :: rsp1))
    (lp1 : K.lookup fp1 = some ⟨ocp1, odp1, .func (PySem.W.fnOf "reach" "Line.reach" (defArgs s_Line_reach) (defBody s_Line_reach) (defScope s_Line_reach) .none kVp1 dcp1 pmp1 anp1 cdp1 ctp1), slp1⟩)
    (cp1 : PySem.W.codeIn K cdp1 "Line.reach" = true)
    (kp1 : PySem.W.keepIn K (.ref fp1) = true)
    (pg : PySem.W.plainGet K C Str.empty = true)
    (hd : PySem.W.hasDictIn K C = true)
    (po : PySem.W.plainOver K C = true)
    (sa : PySem.W.findIn K (.ref C) "__setattr__" = some (some (.builtin "object.__setattr__")))
    (mk : PySem.W.makesIn K C = true)
    (kc : PySem.W.keepIn K (.ref C) = true)
    (nW : PySem.W.findIn K (.ref C) "_works" = some none)
    (nB : PySem.W.findIn K (.ref C) "_bars" = some none)
    (nR : PySem.W.findIn K (.ref C) "_reach" = some none)
    (ha : PySem.W.findIn K (.ref C) "__class__" = some (some (.builtin "object.__class__")))
    (hn : PySem.W.specialIn K (.builtin "object.__class__") "__get__" = some (some (.builtin "getset_descriptor.__get__")))
    (ht : PySem.W.takesIn K (.builtin "object.__class__") = some true)
    (hm : PySem.W.mroIn K C (.type "object") = some true)
    (sf : PySem.W.selfFirst K C = true)
    (rs : PySem.W.findIn K (.ref C) "__rsub__" = some none)
    (is1 : PySem.W.findIn K (.type "int") "__sub__" = some fo)
    (ir1 : PySem.W.findIn K (.type "int") "__rsub__" = some ro)
    (nsub : PySem.W.subIn K (.type "int") (.ref C) = some false)
    (ne : PySem.W.findIn K (.ref C) "__ne__" = some (some (.builtin "object.__ne__")))
    (ob : PySem.W.subIn K (.ref C) (.type "object") = some true)
    (fi : PySem.W.fnIn K fm2 = true)
    (fg : PySem.W.fnIn K fm7 = true)
    (z_isinstance : PySem.W.nsIn K mainGlobals "isinstance" = some none)
    (z_int : PySem.W.nsIn K mainGlobals "int" = some none)
    (z_bool : PySem.W.nsIn K mainGlobals "bool" = some none)
    (z_tuple : PySem.W.nsIn K mainGlobals "tuple" = some none)
    (z_len : PySem.W.nsIn K mainGlobals "len" = some none)
    (z_all : PySem.W.nsIn K mainGlobals "all" = some none)
    (z_any : PySem.W.nsIn K mainGlobals "any" = some none)
    (z_zip : PySem.W.nsIn K mainGlobals "zip" = some none)
    (z_range : PySem.W.nsIn K mainGlobals "range" = some none)
    (z_max : PySem.W.nsIn K mainGlobals "max" = some none)
    (z_min : PySem.W.nsIn K mainGlobals "min" = some none)
    (z_enumerate : PySem.W.nsIn K mainGlobals "enumerate" = some none)
    (z_sorted : PySem.W.nsIn K mainGlobals "sorted" = some none)
    (z_set : PySem.W.nsIn K mainGlobals "set" = some none)
    (z_list : PySem.W.nsIn K mainGlobals "list" = some none)
    (z_dict : PySem.W.nsIn K mainGlobals "dict" = some none)
    (u_NOWHERE : PySem.W.nsIn K mainGlobals "NOWHERE" = some (some (.int (-1) tu_NOWHERE)))
    (u_STATIONS : PySem.W.nsIn K mainGlobals "STATIONS" = some (some (.int (10) tu_STATIONS)))
    (u_MOST_ITEMS : PySem.W.nsIn K mainGlobals "MOST_ITEMS" = some (some (.int (60) tu_MOST_ITEMS)))
    (u_MOST_WORKS : PySem.W.nsIn K mainGlobals "MOST_WORKS" = some (some (.int (3) tu_MOST_WORKS)))
    (u_MOST_STARTS : PySem.W.nsIn K mainGlobals "MOST_STARTS" = some (some (.int (60) tu_MOST_STARTS)))
    (u_NOTHING : PySem.W.nsIn K mainGlobals "NOTHING" = some (some (.int (-1) tu_NOTHING))) :
    ∃ fd : FuncData, (∀ (s : Shared) (v : Value), BindsTo s fd ⟨[v], []⟩ [("_law_script", v)]) ∧ ∀ base : Heap, K.In base → base.Ns mainGlobals mg → FnG l.prog w K mg base 21 fa fd ["_law_script"] (spLaw K) := by
  have e := hfa.symm.trans (PySem.W.mg_of X G ad40)
  cases e
  have y_isinstance := PySem.W.mg_none_of X G z_isinstance
  have y_int := PySem.W.mg_none_of X G z_int
  have y_bool := PySem.W.mg_none_of X G z_bool
  have y_tuple := PySem.W.mg_none_of X G z_tuple
  have y_len := PySem.W.mg_none_of X G z_len
  have y_all := PySem.W.mg_none_of X G z_all
  have y_any := PySem.W.mg_none_of X G z_any
  have y_zip := PySem.W.mg_none_of X G z_zip
  have y_range := PySem.W.mg_none_of X G z_range
  have y_max := PySem.W.mg_none_of X G z_max
  have y_min := PySem.W.mg_none_of X G z_min
  have y_enumerate := PySem.W.mg_none_of X G z_enumerate
  have y_sorted := PySem.W.mg_none_of X G z_sorted
  have y_set := PySem.W.mg_none_of X G z_set
  have y_list := PySem.W.mg_none_of X G z_list
  have y_dict := PySem.W.mg_none_of X G z_dict
  have Fd0 := fun_mk (st := s_is_int) ld0 cd0 kd0
  have bd0 := Fd0.binds (ps := ["thing"]) fun _ _ _ _ _ _ us hl => match us, hl with | [_], _ => rfl
  have vd0 := PySem.W.mg_of X G ad0
  have Fd1 := fun_mk (st := s_is_between) ld1 cd1 kd1
  have bd1 := Fd1.binds (ps := ["thing", "least", "most"]) fun _ _ _ _ _ _ us hl => match us, hl with | [_, _, _], _ => rfl
  have vd1 := PySem.W.mg_of X G ad1
  have Fd2 := fun_mk (st := s_is_work) ld2 cd2 kd2
  have bd2 := Fd2.binds (ps := ["thing"]) fun _ _ _ _ _ _ us hl => match us, hl with | [_], _ => rfl
  have vd2 := PySem.W.mg_of X G ad2
  have Fd3 := fun_mk (st := s_bars) ld3 cd3 kd3
  have bd3 := Fd3.binds (ps := ["one", "other"]) fun _ _ _ _ _ _ us hl => match us, hl with | [_, _], _ => rfl
  have vd3 := PySem.W.mg_of X G ad3
  have Fd4 := fun_mk (st := s_require_work) ld4 cd4 kd4
  have bd4 := Fd4.binds (ps := ["thing"]) fun _ _ _ _ _ _ us hl => match us, hl with | [_], _ => rfl
  have vd4 := PySem.W.mg_of X G ad4
  have Fd5 := fun_mk (st := s_clashes_behind) ld5 cd5 kd5
  have bd5 := Fd5.binds (ps := ["one", "other", "distance"]) fun _ _ _ _ _ _ us hl => match us, hl with | [_, _, _], _ => rfl
  have vd5 := PySem.W.mg_of X G ad5
  have Fd6 := fun_mk (st := s_is_kind) ld6 cd6 kd6
  have bd6 := Fd6.binds (ps := ["line", "thing"]) fun _ _ _ _ _ _ us hl => match us, hl with | [_, _], _ => rfl
  have vd6 := PySem.W.mg_of X G ad6
  have Fd7 := fun_mk (st := s_require_kind) ld7 cd7 kd7
  have bd7 := Fd7.binds (ps := ["line", "thing"]) fun _ _ _ _ _ _ us hl => match us, hl with | [_, _], _ => rfl
  have vd7 := PySem.W.mg_of X G ad7
  have Fd8 := fun_mk (st := s_bars_of_all) ld8 cd8 kd8
  have bd8 := Fd8.binds (ps := ["works"]) fun _ _ _ _ _ _ us hl => match us, hl with | [_], _ => rfl
  have vd8 := PySem.W.mg_of X G ad8
  have Fd9 := fun_mk (st := s_require_line) ld9 cd9 kd9
  have bd9 := Fd9.binds (ps := ["thing"]) fun _ _ _ _ _ _ us hl => match us, hl with | [_], _ => rfl
  have vd9 := PySem.W.mg_of X G ad9
  have Fd10 := fun_mk (st := s_is_plan) ld10 cd10 kd10
  have bd10 := Fd10.binds (ps := ["line", "thing"]) fun _ _ _ _ _ _ us hl => match us, hl with | [_, _], _ => rfl
  have vd10 := PySem.W.mg_of X G ad10
  have Fd11 := fun_mk (st := s_clash) ld11 cd11 kd11
  have bd11 := Fd11.binds (ps := ["line", "plan"]) fun _ _ _ _ _ _ us hl => match us, hl with | [_, _], _ => rfl
  have vd11 := PySem.W.mg_of X G ad11
  have Fd12 := fun_mk (st := s_require_plan) ld12 cd12 kd12
  have bd12 := Fd12.binds (ps := ["line", "thing"]) fun _ _ _ _ _ _ us hl => match us, hl with | [_, _], _ => rfl
  have vd12 := PySem.W.mg_of X G ad12
  have Fd13 := fun_mk (st := s_is_start) ld13 cd13 kd13
  have bd13 := Fd13.binds (ps := ["line", "thing", "least"]) fun _ _ _ _ _ _ us hl => match us, hl with | [_, _, _], _ => rfl
  have vd13 := PySem.W.mg_of X G ad13
  have Fd14 := fun_mk (st := s_visits) ld14 cd14 kd14
  have bd14 := Fd14.binds (ps := ["line", "plan"]) fun _ _ _ _ _ _ us hl => match us, hl with | [_, _], _ => rfl
  have vd14 := PySem.W.mg_of X G ad14
  have Fd15 := fun_mk (st := s_choices) ld15 cd15 kd15
  have bd15 := Fd15.binds (ps := ["line", "state"]) fun _ _ _ _ _ _ us hl => match us, hl with | [_, _], _ => rfl
  have vd15 := PySem.W.mg_of X G ad15
  have Fd16 := fun_mk (st := s_after) ld16 cd16 kd16
  have bd16 := Fd16.binds (ps := ["line", "state", "choice"]) fun _ _ _ _ _ _ us hl => match us, hl with | [_, _, _], _ => rfl
  have vd16 := PySem.W.mg_of X G ad16
  have Fd17 := fun_mk (st := s_states) ld17 cd17 kd17
  have bd17 := Fd17.binds (ps := ["line"]) fun _ _ _ _ _ _ us hl => match us, hl with | [_], _ => rfl
  have vd17 := PySem.W.mg_of X G ad17
  have Fd18 := fun_mk (st := s_state_at) ld18 cd18 kd18
  have bd18 := Fd18.binds (ps := ["line", "plan", "tick"]) fun _ _ _ _ _ _ us hl => match us, hl with | [_, _, _], _ => rfl
  have vd18 := PySem.W.mg_of X G ad18
  have Fd19 : FunD K "require_near" "require_near" (defArgs s_require_near) (defBody s_require_near) (defScope s_require_near) [.int 8, .int 5] [] fd19 _ := ⟨⟨_, _, _, _, _, _, _, _, _, _, rfl, ld19, cd19, .inr ⟨(fun z => nomatch z), Dd19, _, [.int 8 tDd19_0, .int 5 tDd19_1], _, rfl, D_d19, rfl, (.cons ⟨_, rfl⟩ (.cons ⟨_, rfl⟩ .nil))⟩, .inl rfl⟩, kd19⟩
  obtain ⟨dsd19, bd19⟩ := FunD.binds1 (ps := ["line", "of_one", "of_several"]) Fd19 1 0 (fun z => nomatch z) rfl fun _ _ _ _ _ _ _ us its h1 h2 => match us, its, h1, h2 with | [_], [_, _], _, _ => ⟨_, rfl, rfl⟩
  have vd19 := PySem.W.mg_of X G ad19
  have Fd20 := fun_mk (st := s_require_state) ld20 cd20 kd20
  have bd20 := Fd20.binds (ps := ["line", "thing"]) fun _ _ _ _ _ _ us hl => match us, hl with | [_, _], _ => rfl
  have vd20 := PySem.W.mg_of X G ad20
  have Fd21 := fun_mk (st := s_has_form) ld21 cd21 kd21
  have bd21 := Fd21.binds (ps := ["line", "thing"]) fun _ _ _ _ _ _ us hl => match us, hl with | [_, _], _ => rfl
  have vd21 := PySem.W.mg_of X G ad21
  have Fd22 := fun_mk (st := s_is_form_of_delays) ld22 cd22 kd22
  have bd22 := Fd22.binds (ps := ["line", "thing"]) fun _ _ _ _ _ _ us hl => match us, hl with | [_, _], _ => rfl
  have vd22 := PySem.W.mg_of X G ad22
  have Fd23 := fun_mk (st := s_is_reached) ld23 cd23 kd23
  have bd23 := Fd23.binds (ps := ["line", "wanted"]) fun _ _ _ _ _ _ us hl => match us, hl with | [_, _], _ => rfl
  have vd23 := PySem.W.mg_of X G ad23
  have Fd24 := fun_mk (st := s_bars_only) ld24 cd24 kd24
  have bd24 := Fd24.binds (ps := ["state", "wanted", "ticks"]) fun _ _ _ _ _ _ us hl => match us, hl with | [_, _, _], _ => rfl
  have vd24 := PySem.W.mg_of X G ad24
  have Fd25 := fun_mk (st := s_empty_state) ld25 cd25 kd25
  have bd25 := Fd25.binds (ps := ["line"]) fun _ _ _ _ _ _ us hl => match us, hl with | [_], _ => rfl
  have vd25 := PySem.W.mg_of X G ad25
  have Fd26 := fun_mk (st := s_open_choices) ld26 cd26 kd26
  have bd26 := Fd26.binds (ps := ["state"]) fun _ _ _ _ _ _ us hl => match us, hl with | [_], _ => rfl
  have vd26 := PySem.W.mg_of X G ad26
  have Fd27 := fun_mk (st := s_behind) ld27 cd27 kd27
  have bd27 := Fd27.binds (ps := ["line", "state", "choice"]) fun _ _ _ _ _ _ us hl => match us, hl with | [_, _, _], _ => rfl
  have vd27 := PySem.W.mg_of X G ad27
  have Fd28 := fun_mk (st := s_delays) ld28 cd28 kd28
  have bd28 := Fd28.binds (ps := ["line", "started", "kind"]) fun _ _ _ _ _ _ us hl => match us, hl with | [_, _, _], _ => rfl
  have vd28 := PySem.W.mg_of X G ad28
  have Fd29 := fun_mk (st := s_ascending) ld29 cd29 kd29
  have bd29 := Fd29.binds (ps := ["numbers"]) fun _ _ _ _ _ _ us hl => match us, hl with | [_], _ => rfl
  have vd29 := PySem.W.mg_of X G ad29
  have Fd30 := fun_mk (st := s_moves) ld30 cd30 kd30
  have bd30 := Fd30.binds (ps := ["line"]) fun _ _ _ _ _ _ us hl => match us, hl with | [_], _ => rfl
  have vd30 := PySem.W.mg_of X G ad30
  have Fd31 := fun_mk (st := s_l_cell) ld31 cd31 kd31
  have bd31 := Fd31.binds (ps := ["_law_script", "_law_k"]) fun _ _ _ _ _ _ us hl => match us, hl with | [_, _], _ => rfl
  have vd31 := PySem.W.mg_of X G ad31
  have Fd32 := fun_mk (st := s_l_pen) ld32 cd32 kd32
  have bd32 := Fd32.binds (ps := ["_law_cell_here"]) fun _ _ _ _ _ _ us hl => match us, hl with | [_], _ => rfl
  have vd32 := PySem.W.mg_of X G ad32
  have Fd33 := fun_mk (st := s_l_draw) ld33 cd33 kd33
  have bd33 := Fd33.binds (ps := ["_law_pen_here", "_law_many"]) fun _ _ _ _ _ _ us hl => match us, hl with | [_, _], _ => rfl
  have vd33 := PySem.W.mg_of X G ad33
  have Fd34 := fun_mk (st := s_l_work) ld34 cd34 kd34
  have bd34 := Fd34.binds (ps := ["_law_pen_here", "_law_most", "_law_stations"]) fun _ _ _ _ _ _ us hl => match us, hl with | [_, _, _], _ => rfl
  have vd34 := PySem.W.mg_of X G ad34
  have Fd35 := fun_mk (st := s_l_made) ld35 cd35 kd35
  have bd35 := Fd35.binds (ps := ["_law_works_here"]) fun _ _ _ _ _ _ us hl => match us, hl with | [_], _ => rfl
  have vd35 := PySem.W.mg_of X G ad35
  have Fd36 := fun_mk (st := s_l_works) ld36 cd36 kd36
  have bd36 := Fd36.binds (ps := ["_law_pen_here"]) fun _ _ _ _ _ _ us hl => match us, hl with | [_], _ => rfl
  have vd36 := PySem.W.mg_of X G ad36
  have Fd37 := fun_mk (st := s_l_plan) ld37 cd37 kd37
  have bd37 := Fd37.binds (ps := ["_law_pen_here", "_law_works_here"]) fun _ _ _ _ _ _ us hl => match us, hl with | [_, _], _ => rfl
  have vd37 := PySem.W.mg_of X G ad37
  have Fd38 := fun_mk (st := s_l_walk_right) ld38 cd38 kd38
  have bd38 := Fd38.binds (ps := ["_law_made_here", "_law_plan_here"]) fun _ _ _ _ _ _ us hl => match us, hl with | [_, _], _ => rfl
  have vd38 := PySem.W.mg_of X G ad38
  have Fd39 := fun_mk (st := s_l_next_right) ld39 cd39 kd39
  have bd39 := Fd39.binds (ps := ["_law_made_here", "_law_plan_here"]) fun _ _ _ _ _ _ us hl => match us, hl with | [_, _], _ => rfl
  have vd39 := PySem.W.mg_of X G ad39
  have Fd40 := fun_mk (st := s_law) ld40 cd40 kd40
  have bd40 := Fd40.binds (ps := ["_law_script"]) fun _ _ _ _ _ _ us hl => match us, hl with | [_], _ => rfl
  have vd40 := PySem.W.mg_of X G ad40
  have Fm0 := fun_mk (st := s_Line_init) lm0 cm0 km0
  have Fm1 := fun_mk (st := s_Line_len) lm1 cm1 km1
  have bm1 := Fm1.binds (ps := ["self"]) fun _ _ _ _ _ _ us hl => match us, hl with | [_], _ => rfl
  have Fm2 := fun_mk (st := s_Line_call) lm2 cm2 km2
  have bm2 := Fm2.binds (ps := ["self", "one", "other"]) fun _ _ _ _ _ _ us hl => match us, hl with | [_, _, _], _ => rfl
  have Fm3 := fun_mk (st := s_Line_add) lm3 cm3 km3
  have bm3 := Fm3.binds (ps := ["self", "other"]) fun _ _ _ _ _ _ us hl => match us, hl with | [_, _], _ => rfl
  have Fm4 := fun_mk (st := s_Line_sub) lm4 cm4 km4
  have bm4 := Fm4.binds (ps := ["self", "other"]) fun _ _ _ _ _ _ us hl => match us, hl with | [_, _], _ => rfl
  have Fm5 := fun_mk (st := s_Line_neg) lm5 cm5 km5
  have bm5 := Fm5.binds (ps := ["self"]) fun _ _ _ _ _ _ us hl => match us, hl with | [_], _ => rfl
  have Fm6 := fun_mk (st := s_Line_eq) lm6 cm6 km6
  have bm6 := Fm6.binds (ps := ["self", "other"]) fun _ _ _ _ _ _ us hl => match us, hl with | [_, _], _ => rfl
  have Fm7 := fun_mk (st := s_Line_getitem) lm7 cm7 km7
  have bm7 := Fm7.binds (ps := ["self", "at"]) fun _ _ _ _ _ _ us hl => match us, hl with | [_, _], _ => rfl
  have Fm8 := fun_mk (st := s_Line_repr) lm8 cm8 km8
  have bm8 := Fm8.binds (ps := ["self"]) fun _ _ _ _ _ _ us hl => match us, hl with | [_], _ => rfl
  have Fp0 := fun_mk (st := s_Line_works) lp0 cp0 kp0
  have bp0 := Fp0.binds (ps := ["self"]) fun _ _ _ _ _ _ us hl => match us, hl with | [_], _ => rfl
  have Fp1 := fun_mk (st := s_Line_reach) lp1 cp1 kp1
  have bp1 := Fp1.binds (ps := ["self"]) fun _ _ _ _ _ _ us hl => match us, hl with | [_], _ => rfl
  have N_NOWHERE : ∃ t, mg "NOWHERE" = some (.int (-1) t) := ⟨_, PySem.W.mg_of X G u_NOWHERE⟩
  have N_STATIONS : ∃ t, mg "STATIONS" = some (.int (10) t) := ⟨_, PySem.W.mg_of X G u_STATIONS⟩
  have N_MOST_ITEMS : ∃ t, mg "MOST_ITEMS" = some (.int (60) t) := ⟨_, PySem.W.mg_of X G u_MOST_ITEMS⟩
  have N_MOST_WORKS : ∃ t, mg "MOST_WORKS" = some (.int (3) t) := ⟨_, PySem.W.mg_of X G u_MOST_WORKS⟩
  have N_MOST_STARTS : ∃ t, mg "MOST_STARTS" = some (.int (60) t) := ⟨_, PySem.W.mg_of X G u_MOST_STARTS⟩
  have N_NOTHING : ∃ t, mg "NOTHING" = some (.int (-1) t) := ⟨_, PySem.W.mg_of X G u_NOTHING⟩
  have cl : Cls K C := ⟨pg, hd, po, sa⟩
  have T : LC K mg C := ⟨cl, nW, nB, nR, PySem.W.mg_of X G aC⟩
  have kit : PySem.W.kitOne K (.ref C) (.ref C) = some true := by unfold PySem.W.kitOne; simp
  have I : LI K C := ⟨ha, hn, ht, hm, kit⟩
  have O : Ops K C := ⟨sf, ⟨none, rs, .inl rfl⟩, ⟨_, is1⟩, ⟨_, ir1⟩, nsub, ne, ob⟩
  have Mi : Mk K C fm0 := ⟨mk, am0, im0, kc⟩
  refine ⟨PySem.W.fnOf "law" "law" (defArgs s_law) (defBody s_law) (defScope s_law) .none kVd40 dcd40 pmd40 and40 cdd40 ctd40, fun s v => .of_eq rfl, fun base _ _ => ?_⟩
  have Gd0 := ok_is_int (P := l.prog) (w := w) (mg := mg) (base := base) (k := 0) Fd0 y_isinstance y_int y_bool
  have Gd1 := ok_is_between (P := l.prog) (w := w) (mg := mg) (base := base) (k := 1) Fd1 (Gd0.mono (by decide)) kd0 bd0 vd0
  have N : Nums mg := ⟨N_NOWHERE, N_STATIONS, N_MOST_ITEMS⟩
  have Gd2 := ok_is_work (P := l.prog) (w := w) (mg := mg) (base := base) (k := 2) Fd2 N (Gd1.mono (by decide)) kd1 bd1 vd1 y_isinstance y_tuple y_len y_all
  have Gd4 := ok_require_work (P := l.prog) (w := w) (mg := mg) (base := base) (k := 3) Fd4 (Gd2.mono (by decide)) kd2 bd2 vd2
  have Gd5 := ok_clashes_behind (P := l.prog) (w := w) (mg := mg) (base := base) (k := 3) Fd5 N y_any y_zip
  have Gd3 := ok_bars (P := l.prog) (w := w) (mg := mg) (base := base) (k := 4) Fd3 Gd4 kd4 bd4 vd4 Gd5 kd5 bd5 vd5 y_tuple y_range y_len
  have Gd8 := ok_bars_of_all (P := l.prog) (w := w) (mg := mg) (base := base) (k := 5) Fd8 y_tuple Gd3 kd3 bd3 vd3
  have Gi := ok_init (P := l.prog) (w := w) (mg := mg) (base := base) (k := 6) Fm0 T N_MOST_WORKS (Gd2.mono (by decide)) kd2 bd2 vd2 Gd8 kd8 bd8 vd8 y_all y_len y_max
  have Glen := ok_len (P := l.prog) (w := w) (mg := mg) (base := base) (k := 1) Fm1 T y_len
  have Gd6 := ok_is_kind (P := l.prog) (w := w) (mg := mg) (base := base) (k := 2) Fd6 T y_len Gd1 kd1 bd1 vd1 Glen bm1 am1 im1
  have Gd7 := ok_require_kind (P := l.prog) (w := w) (mg := mg) (base := base) (k := 4) Fd7 Gd6 kd6 bd6 vd6
  have Gcall := ok_call (P := l.prog) (w := w) (mg := mg) (base := base) (k := 5) Fm2 T Gd7 kd7 bd7 vd7
  have Gadd := ok_add (P := l.prog) (w := w) (mg := mg) (base := base) (k := 7) Fm3 T I Mi Gi y_isinstance
  have Gsub := ok_sub (P := l.prog) (w := w) (mg := mg) (base := base) (k := 7) Fm4 T Mi Gi (Gd7.mono (by decide)) kd7 bd7 vd7 y_len
  have Gneg := ok_neg (P := l.prog) (w := w) (mg := mg) (base := base) (k := 7) Fm5 T Mi Gi
  have Geq := ok_eq (P := l.prog) (w := w) (mg := mg) (base := base) (k := 0) Fm6 T I y_isinstance
  have Gw := fn_getter (CX := CX0) (P := l.prog) (w := w) (mg := mg) (base := base) (k := 0) lp0 cp0 sc_Line_works rfl rfl cl nW
  have Gr := fn_getter (CX := CX0) (P := l.prog) (w := w) (mg := mg) (base := base) (k := 0) lp1 cp1 sc_Line_reach rfl rfl cl nR
  have M : Meths l.prog w K mg base 10 C := ⟨T, I, O, ⟨_, _, Glen.mono (by decide), bm1, am1, im1⟩, ⟨_, _, ⟨Gcall.mono (by decide), bm2, am2, im2⟩, fi⟩, ⟨_, _, Gadd.mono (by decide), bm3, am3, im3⟩, ⟨_, _, Gsub.mono (by decide), bm4, am4, im4⟩, ⟨_, _, Gneg.mono (by decide), bm5, am5, im5⟩, ⟨_, _, Geq.mono (by decide), bm6, am6, im6⟩, ⟨_, _, _, ⟨ap0, gp0, tp0, _, rp0⟩, Gw.mono (by decide), bp0⟩, ⟨_, _, _, ⟨ap1, gp1, tp1, _, rp1⟩, Gr.mono (by decide), bp1⟩, ⟨_, Mi, Gi.mono (by decide)⟩⟩
  have Gitem := ok_item (P := l.prog) (w := w) (mg := mg) (base := base) (k := 5) Fm7 T Gd7 kd7 bd7 vd7
  have Grepr := ok_repr (P := l.prog) (w := w) (mg := mg) (base := base) (k := 0) Fm8 T y_len
  have M2 : Meths2 l.prog w K mg base 10 C := ⟨M, ⟨_, _, ⟨Gitem.mono (by decide), bm7, am7, im7⟩, fg⟩, ⟨_, _, Grepr.mono (by decide), bm8, am8, im8⟩⟩
  have Gd9 := ok_require_line (P := l.prog) (w := w) (mg := mg) (base := base) (k := 0) Fd9 T I y_isinstance
  have Gd13 := ok_is_start (P := l.prog) (w := w) (mg := mg) (base := base) (k := 4) Fd13 (Gd0.mono (by decide)) kd0 bd0 vd0 (Gd6.mono (by decide)) kd6 bd6 vd6 y_isinstance y_tuple y_len
  have Gd10 := ok_is_plan (P := l.prog) (w := w) (mg := mg) (base := base) (k := 5) Fd10 N_MOST_STARTS (Gd9.mono (by decide)) kd9 bd9 vd9 (Gd13.mono (by decide)) kd13 bd13 vd13 y_isinstance y_tuple y_len
  have Gd12 := ok_require_plan (P := l.prog) (w := w) (mg := mg) (base := base) (k := 6) Fd12 (Gd10.mono (by decide)) kd10 bd10 vd10
  have Gd14 := ok_visits (P := l.prog) (w := w) (mg := mg) (base := base) (k := 10) Fd14 M2 N y_enumerate
  have Gd11 := ok_clash (P := l.prog) (w := w) (mg := mg) (base := base) (k := 13) Fd11 (Gd12.mono (by decide)) kd12 bd12 vd12 (Gd14.mono (by decide)) kd14 bd14 vd14 y_len y_min
  have Gd19 := ok_require_near (P := l.prog) (w := w) (mg := mg) (base := base) (k := 10) Fd19 M (Gd9.mono (by decide)) kd9 bd9 vd9 y_len
  have Gd29 := ok_ascending (P := l.prog) (w := w) (mg := mg) (base := base) (k := 0) Fd29 y_tuple y_sorted y_set
  have Gd28 := ok_delays (P := l.prog) (w := w) (mg := mg) (base := base) (k := 10) Fd28 M
  have Gd27 := ok_behind (P := l.prog) (w := w) (mg := mg) (base := base) (k := 13) Fd27 N_NOTHING (Gd28.mono (by decide)) kd28 bd28 vd28 (Gd29.mono (by decide)) kd29 bd29 vd29 y_enumerate y_tuple
  have Gd26 := ok_open_choices (P := l.prog) (w := w) (mg := mg) (base := base) (k := 0) Fd26 N_NOTHING y_enumerate
  have Gd25 := ok_empty_state (P := l.prog) (w := w) (mg := mg) (base := base) (k := 10) Fd25 M y_len
  have Gd30 := ok_moves (P := l.prog) (w := w) (mg := mg) (base := base) (k := 14) Fd30 (Gd25.mono (by decide)) kd25 bd25 vd25 (Gd26.mono (by decide)) kd26 bd26 vd26 (Gd27.mono (by decide)) kd27 bd27 vd27
  have Gd17 := ok_states (P := l.prog) (w := w) (mg := mg) (base := base) (k := 15) Fd17 (Gd19.mono (by decide)) kd19 ⟨bd19.1, bd19.2⟩ vd19 (Gd30.mono (by decide)) kd30 bd30 vd30 y_tuple y_sorted y_list
  have Gd22 := ok_is_form (P := l.prog) (w := w) (mg := mg) (base := base) (k := 10) Fd22 M (Gd0.mono (by decide)) kd0 bd0 vd0 y_isinstance y_tuple y_len y_all
  have Gd21 := ok_has_form (P := l.prog) (w := w) (mg := mg) (base := base) (k := 10) Fd21 M (Gd22.mono (by decide)) kd22 bd22 vd22 y_isinstance y_tuple y_len y_all
  have Gd24 := ok_bars_only (P := l.prog) (w := w) (mg := mg) (base := base) (k := 0) Fd24 y_all y_zip
  have M' : Meths l.prog w K mg base 15 C := M.up (by decide)
  have M'' : Meths l.prog w K mg base 11 C := M.up (by decide)
  have Gd23 := ok_is_reached (P := l.prog) (w := w) (mg := mg) (base := base) (k := 11) Fd23 M'' (Gd25.mono (by decide)) kd25 bd25 vd25 (Gd26.mono (by decide)) kd26 bd26 vd26 (Gd27.mono (by decide)) kd27 bd27 vd27 (Gd24.mono (by decide)) kd24 bd24 vd24 y_range y_list
  have Gd20 := ok_require_state (P := l.prog) (w := w) (mg := mg) (base := base) (k := 15) Fd20 (Gd19.mono (by decide)) kd19 ⟨bd19.1, bd19.2⟩ vd19 (Gd21.mono (by decide)) kd21 bd21 vd21 (Gd23.mono (by decide)) kd23 bd23 vd23
  have Gd15 := ok_choices (P := l.prog) (w := w) (mg := mg) (base := base) (k := 16) Fd15 (Gd20.mono (by decide)) kd20 bd20 vd20 (Gd26.mono (by decide)) kd26 bd26 vd26
  have Gd16 := ok_after (P := l.prog) (w := w) (mg := mg) (base := base) (k := 16) Fd16 (Gd20.mono (by decide)) kd20 bd20 vd20 (Gd0.mono (by decide)) kd0 bd0 vd0 (Gd26.mono (by decide)) kd26 bd26 vd26 (Gd27.mono (by decide)) kd27 bd27 vd27
  have Gd18 := ok_state_at (P := l.prog) (w := w) (mg := mg) (base := base) (k := 10) Fd18 M (Gd12.mono (by decide)) kd12 bd12 vd12 (Gd0.mono (by decide)) kd0 bd0 vd0 (Gd28.mono (by decide)) kd28 bd28 vd28 (Gd29.mono (by decide)) kd29 bd29 vd29 y_tuple y_range y_len
  have Gd31 := ok_l_cell (P := l.prog) (w := w) (mg := mg) (base := base) (k := 0) Fd31 y_len
  have Gd32 := ok_l_pen (P := l.prog) (w := w) (mg := mg) (base := base) (k := 0) Fd32 y_max
  have Gd33 := ok_l_draw (P := l.prog) (w := w) (mg := mg) (base := base) (k := 0) Fd33
  have Gd34 := ok_l_work (P := l.prog) (w := w) (mg := mg) (base := base) (k := 1) Fd34 (Gd33.mono (by decide)) kd33 bd33 vd33 y_range y_tuple
  have Gd35 := ok_made (P := l.prog) (w := w) (mg := mg) (base := base) (k := 7) Fd35 T Mi Gi y_len
  have Gd36 := ok_l_works (P := l.prog) (w := w) (mg := mg) (base := base) (k := 2) Fd36 (Gd33.mono (by decide)) kd33 bd33 vd33 (Gd34.mono (by decide)) kd34 bd34 vd34 y_range y_tuple
  have Gd37 := ok_plan (P := l.prog) (w := w) (mg := mg) (base := base) (k := 1) Fd37 (Gd33.mono (by decide)) kd33 bd33 vd33 y_range y_tuple y_len
  have Gd38 := ok_walk (P := l.prog) (w := w) (mg := mg) (base := base) (k := 15) Fd38 M' (Gd17.mono (by decide)) kd17 bd17 vd17 (Gd18.mono (by decide)) kd18 bd18 vd18 (Gd15.mono (by decide)) kd15 bd15 vd15 (Gd11.mono (by decide)) kd11 bd11 vd11 (Gd16.mono (by decide)) kd16 bd16 vd16 y_len y_dict y_range y_tuple
  have Gd39 := ok_next (P := l.prog) (w := w) (mg := mg) (base := base) (k := 15) Fd39 M' (Gd18.mono (by decide)) kd18 bd18 vd18 (Gd11.mono (by decide)) kd11 bd11 vd11 y_len y_range
  exact ok_law (P := l.prog) (w := w) (mg := mg) (base := base) (k := 20) Fd40 (Gd31.mono (by decide)) kd31 bd31 vd31 (Gd32.mono (by decide)) kd32 bd32 vd32 (Gd36.mono (by decide)) kd36 bd36 vd36 (Gd35.mono (by decide)) kd35 bd35 vd35 (Gd37.mono (by decide)) kd37 bd37 vd37 (Gd38.mono (by decide)) kd38 bd38 vd38 (Gd39.mono (by decide)) kd39 bd39 vd39 y_range
end Sg

set_option Elab.async false
set_option linter.all false
open PySem PySem.W PyProof.Rows
set_option maxRecDepth 100000 in
set_option maxHeartbeats 0 in
theorem PySem.Challenge.cw_startgaps_k11_whole_states_of_plans_holds : PySem.Challenge.rw_startgaps_k11_whole_states_of_plans.Holds := by
  w_on; o_law; k_head; (case hw => w_witness2)
  k_fill
  refine Sg.walk_law (l := PySem.Challenge.rw_startgaps_k11_whole_states_of_plans) (k := 21) (x := "_law_script") (sp := Sg.spLaw) rfl rfl ⟨rfl, by decide, by decide⟩ (fun w h Y => PySem.W.kIn_of Y) ?F (fun K H a ns hl _ hS => ⟨a, ns, rfl, hS, hl, fun _ => rfl⟩)
  case F =>
    intro w mg fa h KX G hmg
    refine' Sg.all_mk KX G hmg ?ad0 ?ld0 ?cd0 ?kd0 ?ad1 ?ld1 ?cd1 ?kd1 ?ad2 ?ld2 ?cd2 ?kd2 ?ad3 ?ld3 ?cd3 ?kd3 ?ad4 ?ld4 ?cd4 ?kd4 ?ad5 ?ld5 ?cd5 ?kd5 ?ad6 ?ld6 ?cd6 ?kd6 ?ad7 ?ld7 ?cd7 ?kd7 ?ad8 ?ld8 ?cd8 ?kd8 ?ad9 ?ld9 ?cd9 ?kd9 ?ad10 ?ld10 ?cd10 ?kd10 ?ad11 ?ld11 ?cd11 ?kd11 ?ad12 ?ld12 ?cd12 ?kd12 ?ad13 ?ld13 ?cd13 ?kd13 ?ad14 ?ld14 ?cd14 ?kd14 ?ad15 ?ld15 ?cd15 ?kd15 ?ad16 ?ld16 ?cd16 ?kd16 ?ad17 ?ld17 ?cd17 ?kd17 ?ad18 ?ld18 ?cd18 ?kd18 ?ad19 ?ld19 ?D_d19 ?cd19 ?kd19 ?ad20 ?ld20 ?cd20 ?kd20 ?ad21 ?ld21 ?cd21 ?kd21 ?ad22 ?ld22 ?cd22 ?kd22 ?ad23 ?ld23 ?cd23 ?kd23 ?ad24 ?ld24 ?cd24 ?kd24 ?ad25 ?ld25 ?cd25 ?kd25 ?ad26 ?ld26 ?cd26 ?kd26 ?ad27 ?ld27 ?cd27 ?kd27 ?ad28 ?ld28 ?cd28 ?kd28 ?ad29 ?ld29 ?cd29 ?kd29 ?ad30 ?ld30 ?cd30 ?kd30 ?ad31 ?ld31 ?cd31 ?kd31 ?ad32 ?ld32 ?cd32 ?kd32 ?ad33 ?ld33 ?cd33 ?kd33 ?ad34 ?ld34 ?cd34 ?kd34 ?ad35 ?ld35 ?cd35 ?kd35 ?ad36 ?ld36 ?cd36 ?kd36 ?ad37 ?ld37 ?cd37 ?kd37 ?ad38 ?ld38 ?cd38 ?kd38 ?ad39 ?ld39 ?cd39 ?kd39 ?ad40 ?ld40 ?cd40 ?kd40 ?aC ?am0 ?im0 ?lm0 ?cm0 ?km0 ?am1 ?im1 ?lm1 ?cm1 ?km1 ?am2 ?im2 ?lm2 ?cm2 ?km2 ?am3 ?im3 ?lm3 ?cm3 ?km3 ?am4 ?im4 ?lm4 ?cm4 ?km4 ?am5 ?im5 ?lm5 ?cm5 ?km5 ?am6 ?im6 ?lm6 ?cm6 ?km6 ?am7 ?im7 ?lm7 ?cm7 ?km7 ?am8 ?im8 ?lm8 ?cm8 ?km8 ?ap0 ?gp0 ?tp0 ?rp0 ?lp0 ?cp0 ?kp0 ?ap1 ?gp1 ?tp1 ?rp1 ?lp1 ?cp1 ?kp1 ?pg ?hd ?po ?sa ?mk ?kc ?nW ?nB ?nR ?ha ?hn ?ht ?hm ?sf ?rs ?is1 ?ir1 ?nsub ?ne ?ob ?fi ?fg ?z_isinstance ?z_int ?z_bool ?z_tuple ?z_len ?z_all ?z_any ?z_zip ?z_range ?z_max ?z_min ?z_enumerate ?z_sorted ?z_set ?z_list ?z_dict ?u_NOWHERE ?u_STATIONS ?u_MOST_ITEMS ?u_MOST_WORKS ?u_MOST_STARTS ?u_NOTHING
    (case ad0 => k_is)
    (case ld0 => k_is)
    (case cd0 => k_is)
    (case kd0 => k_is)
    (case ad1 => k_is)
    (case ld1 => k_is)
    (case cd1 => k_is)
    (case kd1 => k_is)
    (case ad2 => k_is)
    (case ld2 => k_is)
    (case cd2 => k_is)
    (case kd2 => k_is)
    (case ad3 => k_is)
    (case ld3 => k_is)
    (case cd3 => k_is)
    (case kd3 => k_is)
    (case ad4 => k_is)
    (case ld4 => k_is)
    (case cd4 => k_is)
    (case kd4 => k_is)
    (case ad5 => k_is)
    (case ld5 => k_is)
    (case cd5 => k_is)
    (case kd5 => k_is)
    (case ad6 => k_is)
    (case ld6 => k_is)
    (case cd6 => k_is)
    (case kd6 => k_is)
    (case ad7 => k_is)
    (case ld7 => k_is)
    (case cd7 => k_is)
    (case kd7 => k_is)
    (case ad8 => k_is)
    (case ld8 => k_is)
    (case cd8 => k_is)
    (case kd8 => k_is)
    (case ad9 => k_is)
    (case ld9 => k_is)
    (case cd9 => k_is)
    (case kd9 => k_is)
    (case ad10 => k_is)
    (case ld10 => k_is)
    (case cd10 => k_is)
    (case kd10 => k_is)
    (case ad11 => k_is)
    (case ld11 => k_is)
    (case cd11 => k_is)
    (case kd11 => k_is)
    (case ad12 => k_is)
    (case ld12 => k_is)
    (case cd12 => k_is)
    (case kd12 => k_is)
    (case ad13 => k_is)
    (case ld13 => k_is)
    (case cd13 => k_is)
    (case kd13 => k_is)
    (case ad14 => k_is)
    (case ld14 => k_is)
    (case cd14 => k_is)
    (case kd14 => k_is)
    (case ad15 => k_is)
    (case ld15 => k_is)
    (case cd15 => k_is)
    (case kd15 => k_is)
    (case ad16 => k_is)
    (case ld16 => k_is)
    (case cd16 => k_is)
    (case kd16 => k_is)
    (case ad17 => k_is)
    (case ld17 => k_is)
    (case cd17 => k_is)
    (case kd17 => k_is)
    (case ad18 => k_is)
    (case ld18 => k_is)
    (case cd18 => k_is)
    (case kd18 => k_is)
    (case ad19 => k_is)
    (case ld19 => k_is)
    (case D_d19 => k_is)
    (case cd19 => k_is)
    (case kd19 => k_is)
    (case ad20 => k_is)
    (case ld20 => k_is)
    (case cd20 => k_is)
    (case kd20 => k_is)
    (case ad21 => k_is)
    (case ld21 => k_is)
    (case cd21 => k_is)
    (case kd21 => k_is)
    (case ad22 => k_is)
    (case ld22 => k_is)
    (case cd22 => k_is)
    (case kd22 => k_is)
    (case ad23 => k_is)
    (case ld23 => k_is)
    (case cd23 => k_is)
    (case kd23 => k_is)
    (case ad24 => k_is)
    (case ld24 => k_is)
    (case cd24 => k_is)
    (case kd24 => k_is)
    (case ad25 => k_is)
    (case ld25 => k_is)
    (case cd25 => k_is)
    (case kd25 => k_is)
    (case ad26 => k_is)
    (case ld26 => k_is)
    (case cd26 => k_is)
    (case kd26 => k_is)
    (case ad27 => k_is)
    (case ld27 => k_is)
    (case cd27 => k_is)
    (case kd27 => k_is)
    (case ad28 => k_is)
    (case ld28 => k_is)
    (case cd28 => k_is)
    (case kd28 => k_is)
    (case ad29 => k_is)
    (case ld29 => k_is)
    (case cd29 => k_is)
    (case kd29 => k_is)
    (case ad30 => k_is)
    (case ld30 => k_is)
    (case cd30 => k_is)
    (case kd30 => k_is)
    (case ad31 => k_is)
    (case ld31 => k_is)
    (case cd31 => k_is)
    (case kd31 => k_is)
    (case ad32 => k_is)
    (case ld32 => k_is)
    (case cd32 => k_is)
    (case kd32 => k_is)
    (case ad33 => k_is)
    (case ld33 => k_is)
    (case cd33 => k_is)
    (case kd33 => k_is)
    (case ad34 => k_is)
    (case ld34 => k_is)
    (case cd34 => k_is)
    (case kd34 => k_is)
    (case ad35 => k_is)
    (case ld35 => k_is)
    (case cd35 => k_is)
    (case kd35 => k_is)
    (case ad36 => k_is)
    (case ld36 => k_is)
    (case cd36 => k_is)
    (case kd36 => k_is)
    (case ad37 => k_is)
    (case ld37 => k_is)
    (case cd37 => k_is)
    (case kd37 => k_is)
    (case ad38 => k_is)
    (case ld38 => k_is)
    (case cd38 => k_is)
    (case kd38 => k_is)
    (case ad39 => k_is)
    (case ld39 => k_is)
    (case cd39 => k_is)
    (case kd39 => k_is)
    (case ad40 => k_is)
    (case ld40 => k_is)
    (case cd40 => k_is)
    (case kd40 => k_is)
    (case aC => k_is)
    (case am0 => k_is)
    (case im0 => k_is)
    (case lm0 => k_is)
    (case cm0 => k_is)
    (case km0 => k_is)
    (case am1 => k_is)
    (case im1 => k_is)
    (case lm1 => k_is)
    (case cm1 => k_is)
    (case km1 => k_is)
    (case am2 => k_is)
    (case im2 => k_is)
    (case lm2 => k_is)
    (case cm2 => k_is)
    (case km2 => k_is)
    (case am3 => k_is)
    (case im3 => k_is)
    (case lm3 => k_is)
    (case cm3 => k_is)
    (case km3 => k_is)
    (case am4 => k_is)
    (case im4 => k_is)
    (case lm4 => k_is)
    (case cm4 => k_is)
    (case km4 => k_is)
    (case am5 => k_is)
    (case im5 => k_is)
    (case lm5 => k_is)
    (case cm5 => k_is)
    (case km5 => k_is)
    (case am6 => k_is)
    (case im6 => k_is)
    (case lm6 => k_is)
    (case cm6 => k_is)
    (case km6 => k_is)
    (case am7 => k_is)
    (case im7 => k_is)
    (case lm7 => k_is)
    (case cm7 => k_is)
    (case km7 => k_is)
    (case am8 => k_is)
    (case im8 => k_is)
    (case lm8 => k_is)
    (case cm8 => k_is)
    (case km8 => k_is)
    (case ap0 => k_is)
    (case gp0 => k_is)
    (case tp0 => k_is)
    (case rp0 => k_is)
    (case lp0 => k_is)
    (case cp0 => k_is)
    (case kp0 => k_is)
    (case ap1 => k_is)
    (case gp1 => k_is)
    (case tp1 => k_is)
    (case rp1 => k_is)
    (case lp1 => k_is)
    (case cp1 => k_is)
    (case kp1 => k_is)
    (case pg => k_is)
    (case hd => k_is)
    (case po => k_is)
    (case sa => k_is)
    (case mk => k_is)
    (case kc => k_is)
    (case nW => k_is)
    (case nB => k_is)
    (case nR => k_is)
    (case ha => k_is)
    (case hn => k_is)
    (case ht => k_is)
    (case hm => k_is)
    (case sf => k_is)
    (case rs => k_is)
    (case is1 => k_is)
    (case ir1 => k_is)
    (case nsub => k_is)
    (case ne => k_is)
    (case ob => k_is)
    (case fi => k_is)
    (case fg => k_is)
    (case z_isinstance => k_is)
    (case z_int => k_is)
    (case z_bool => k_is)
    (case z_tuple => k_is)
    (case z_len => k_is)
    (case z_all => k_is)
    (case z_any => k_is)
    (case z_zip => k_is)
    (case z_range => k_is)
    (case z_max => k_is)
    (case z_min => k_is)
    (case z_enumerate => k_is)
    (case z_sorted => k_is)
    (case z_set => k_is)
    (case z_list => k_is)
    (case z_dict => k_is)
    (case u_NOWHERE => k_is)
    (case u_STATIONS => k_is)
    (case u_MOST_ITEMS => k_is)
    (case u_MOST_WORKS => k_is)
    (case u_MOST_STARTS => k_is)
    (case u_NOTHING => k_is)

