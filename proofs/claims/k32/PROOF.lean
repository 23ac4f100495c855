import PyProof.Rows.All
import HandS.ForMost
import HandS.IsInst
import HandS.TupMul
import HandS.TupAny
import HandS.Walk
import HandS.Zip
import PyProof.ReprRoads
import PyProof.ReprBulk
import KE.GoesMore
import PyProof.EnumMake
import HandS.Star
import HandS.Property
import HandS.SortKw
import KE.KOpsOwn
import KE.DataMinMax
import PyProof.InstNe
import HandS.Style
import HandS.DictTup
import PyProof.DictMoreH
import HandS.Iter
import PyProof.Rows.RowBridgeK
import HandS.Wide
import PyProof.Rows.ReprShort
import PyProof.ReprLen
import HandS.Conv
import HandS.TupSets
import PyProof.P3Statements
import HandS.SetFor
import HandS.Strs
import PySem.Challenge.RW_startgaps_k32_greedy_distances
import HandS.FStr
import HandS.Dict
import HandS.Flow
import HandS.Defaults
import HandS.Deep
set_option Elab.async false
set_option linter.all false
set_option maxRecDepth 100000
set_option maxHeartbeats 4000000
namespace Sg
open PySem PySem.Spec PyProof.Rows L2

/-! ## defs that may ask for a text of data: they run outside of every such text -/
/-- a promise that holds where no text of data is being made -/
structure FnG (P : Program) (w : World) (K : PySem.W.Frag) (mg : Str → Option Value) (base : Heap) (k : Nat) (f : Addr)
    (fd : FuncData) (ps : List Str) (sp : Sp) : Prop where
  arity : ∀ vs H Q, sp vs H Q E0 → vs.length = ps.length
  go : ∀ (A : Around) (outer : List Env) (s : Shared) (H : Hp) (args : Args) (us : List Value) (vs : List V) (Q : VK),
    A.guards = some [] → Room k A → Env0 P w K mg base A outer s H → BindsTo s fd args (ps.zip us) → Vals vs us →
    sp vs H Q E0 → codeAny (model P w) A (.call (.ref f) args) (CR CX0 outer P w H s Q E0) s

section
variable {P : Program} {w : World} {K : PySem.W.Frag} {mg : Str → Option Value} {base : Heap} {k : Nat} {f : Addr}
variable {fd : FuncData} {ps : List Str} {sp : Sp}

theorem FnG.of (F : FnOk P w K mg base CX0 k f fd ps sp) : FnG P w K mg base k f fd ps sp :=
  ⟨fun vs H Q h => F.len vs H Q E0 h, fun A outer s H args us vs Q _ hr e0 hb hv h =>
    F.run A outer s H args us vs Q E0 hr e0 hb hv h⟩

theorem FnG.mono {j : Nat} (F : FnG P w K mg base j f fd ps sp) (h : j ≤ k) : FnG P w K mg base k f fd ps sp :=
  ⟨F.arity, fun A outer s H args us vs Q hg hr => F.go A outer s H args us vs Q hg (hr.mono h)⟩

/-- a def's body, where no text of data is being made -/
theorem fnG_mk {x qual : Str} {st : Stmt} {N : List Str} (F : Fun K x qual st f fd)
    (S : FnScope N ps (defScope st)) (arity : ∀ vs H Q, sp vs H Q E0 → vs.length = ps.length)
    (hbody : ∀ (cdv : Value) (A : Around) (outer : List Env) (s : Shared) (H : Hp) (vs : List V) (Q : VK),
      (A.deeper (envOfC qual (defScope st) s.heap.objs.size f cdv)).guards = some [] →
      Room k (A.deeper (envOfC qual (defScope st) s.heap.objs.size f cdv)) → sp vs H Q E0 →
      ∃ t, PSs (cxOf CX0 P w K mg base N qual (defScope st) f cdv A outer s H E0).nox (defBody st) t ∧
        t { nx := fun _ H' => Q .non H', rt := Q } (start N vs) H) :
    FnG P w K mg base (k + 1) f fd ps sp := by
  obtain ⟨oc, od, kV, doc, pm, an, cdv, ct, osl, rfl, lk, hcd⟩ := F.ex
  refine ⟨arity, ?_⟩
  intro A outer s H args us vs Q hg hr e0 hb r hsp
  have hl := arity _ _ _ hsp
  have hk0 : ∀ b o, base.get? b = some o → s.heap.get? b = some o := fun b o e => (e0.bs b o e).1
  have KX : K.In s.heap := e0.mod.kin.keeps hk0
  have lim : s.heap.NoLimit := e0.mod.nolimit.keeps hk0
  refine codeAny_call_function hr.depth (KX _ _ lk) rfl S.co S.gen rfl (PySem.W.codeRec_of KX hcd) ?_
  refine hb _ _ _ _ (wpAny_newFunctionEnv_cells S.kind ?_ ?_)
  · rintro ⟨n, v⟩ hy
    have hn := S.par n (List.of_mem_zip hy).1
    cases hn with
    | inl q => exact .inl q
    | inr q => exact .inr ⟨q, PySem.W.cellsFrom_some _ _ _ (.inl q)⟩
  · intro env he s1 x
    subst he
    refine ⟨lim.keeps x.toInCall.keep, ?_⟩
    apply codeAny_func
    obtain ⟨t, ht, hq⟩ := hbody cdv A outer s H vs Q hg (hr.deeper _) hsp
    have ht' := ht.nox
    have I := inv_start (CX := CX0) (E := E0) (cd := cdv) (qual := qual) (f := f) S hr.hd e0 hl r x
    refine wpAny_mono (ht'.run [] s1 (start N vs) H _ I hq) ?_ (fun e s' hs => hs)
    intro fl s' hs
    cases fl with
    | ret u =>
      obtain ⟨v, σ', H', J, rv, q⟩ := hs
      exact ⟨v, H', J.os, J.bare, J.base, J.hok, rv, q⟩
    | next =>
      obtain ⟨σ', H', J, q⟩ := hs
      exact ⟨V.non, H', J.os, J.bare, J.base, J.hok, rfl, q⟩
    | brk => obtain ⟨_, _, _, q⟩ := hs; exact q.elim
    | cont => obtain ⟨_, _, _, q⟩ := hs; exact q.elim
end

section
variable {X : Cx} {k : Nat} {f : Addr} {fd : FuncData} {ps : List Str} {sp : Sp} {dvs : List V} {ds : List Value}
variable {x : Str} {p pos : Pos} {e : Expr} {es : List Expr} {t : TA}
/-- f(a, ..) of such a def -/
theorem pe_callG (F : FnG X.prog X.w X.K X.mg X.base k f fd ps sp) (hgd : X.A.guards = some []) (hr : Room k X.A)
    (hg : Gl X x) (hm : X.mg x = some (.ref f)) (hk : PySem.W.keepIn X.K (.ref f) = true) (hb : Binds X.K fd ps [])
    (ha : PA X (e :: es) t) (hdb : (x == ("__debug__" : Str)) = false := by decide)
    (he : starEach (e :: es) X.env = (false, eval e X.env) :: starEach es X.env := by rfl)
    (hpl : (backTo pos (starEach es X.env)).any (·.1) = false := by rfl) :
    PE X (.Call (.Name x p) (e :: es) [] pos) (tCall sp [] E0 t) := by
  constructor
  intro pins s σ H Q I h
  refine wpAny_Call_Name_kw (ld_glob I hg hm (PySem.W.callWith_K (h₀ := X.base) I.ok.mod.kin hk ?_ he hpl) hdb)
  refine thn (ha.run pos pins s σ H _ I h) ?_
  rintro us s1 ⟨vs, H1, I1, r, q⟩
  refine ⟨I1.kIn, ?_⟩
  rw [List.append_nil] at q
  have hl : (us ++ []).length = ps.length := by rw [List.append_nil, ← r.length]; exact F.arity _ _ _ q
  have hbb := hb s1 us I1.kIn hl
  rw [List.append_nil] at hbb
  refine wpAny_call (codeAny_mono (F.go X.A X.stack s1 H1 ⟨us, []⟩ us vs Q hgd hr I1.env0 hbb r q) ?_)
  intro r' s' hq
  match r', hq with
  | .error _, hq => exact hq.elim
  | .ok (.ret _), hq => exact I1.after hq
  | .ok .next, hq => exact hq.elim
  | .ok .brk, hq => exact hq.elim
  | .ok .cont, hq => exact hq.elim

/-! ## repr of data -/
/-- what may be shown: its ints are not too great, and the text is not too long -/
def Shows (d : PyData) : Prop := d.showable = true ∧ d.hasDict = false ∧ d.depth ≤ 40 ∧ d.shown.length ≤ sizeLine
theorem call_reprD {j : Nat} (hgd : X.A.guards = some []) (hr : Room j X.A) :
    CallR X (.builtin "repr") (fun xs H Q => ∃ a d, xs = [.ref a] ∧ Dp X.K H (.ref a) d ∧ Shows d ∧ Q (.str d.shown) H) := by
  intro pins s σ H xs us Q I r h
  obtain ⟨a, d, rfl, hd, ⟨h1, h2, h3, h4⟩, q⟩ := h
  obtain ⟨u, rfl, rfl⟩ := vals1 r
  obtain ⟨as, rd⟩ := Dp.reads I d (.ref a) (.ref a) hd rfl
  have hu := hr.units
  refine repr_of_reads' (h₀ := s.heap) rd h1 (fun z => ?_) hgd (by omega) (fun _ _ z => z) (fun h' u tk hk => ?_) h4
  · rw [h2] at z; cases z
  · exact ⟨.str d.shown, H, I.kept hk, ⟨u, rfl⟩, q⟩
end
end Sg

set_option Elab.async false
set_option linter.all false
set_option maxRecDepth 100000
set_option maxHeartbeats 4000000
namespace Sg
open PySem PySem.Spec PyProof.Rows L2
/-! ## the law's own call -/
section
variable {P : Program} {w : World} {K : PySem.W.Frag} {mg mb : Str → Option Value} {k : Nat} {fa a : Addr}
variable {fd : FuncData} {x : Str} {sp : Sp} {s₁ : Shared} {vs : List Value} {ns : List Int}

/-- what is asked of the law's call -/
abbrev Ended (s₁ : Shared) : Result → Shared → Prop := fun r s' =>
  r = .ok (.ret (.bool true)) ∧ OldK s₁.heap s'.heap ∧ s'.os = s₁.os ∧ AllBare s'.gens

theorem call_from {H : Hp} (KX : K.In s₁.heap) (hns : s₁.heap.Ns mainGlobals mg) (hb : s₁.heap.Ns builtinsNs mb)
    (hbb : ∀ x : Str, x ≠ "__name__" → mb x = bootBuiltins x) (hlim : s₁.heap.NoLimit) (hg : s₁.gens = #[])
    (ha : s₁.heap.get? a = some { cls := .type "list", data := .seq vs.toArray }) (hr : Room k callerA)
    (F : ∀ base : Heap, K.In base → base.Ns mainGlobals mg → FnG P w K mg base k fa fd [x] sp)
    (hbind : ∀ (s : Shared) (u : Value), BindsTo s fd ⟨[u], []⟩ [(x, u)])
    (hsp : sp [.ref a] H (fun v _ => v = .bl true) E0) (hO : Only H) (hok : HOk P w H s₁.heap)
    (hA : ∀ b, H b ≠ none → b = a) (hK : H a ≠ none → K.lookup a = none) :
    codeAny (model P w) callerA (.call (.ref fa) ⟨[.ref a], []⟩) (Ended s₁) s₁ := by
  have only : ∀ {b : Addr} {u : HO}, H b = some u → b = a := fun z => hA _ (by rw [z]; exact fun q => nomatch q)
  have free : ∀ {b : Addr} {o : Obj} {es : Array DictEntry} {ep : Nat},
      s₁.heap.get? b = some o → o.data = .dict es ep → H b = none := by
    intro b o es ep e d
    rcases q : H b with _ | u
    · rfl
    · rw [only q, ha] at e
      have e' := Option.some.inj e
      rw [← e'] at d
      exact nomatch d
  have nsK : ∀ {b : Addr} {m : Str → Option Value}, s₁.heap.Ns b m → (hidT s₁.heap H).Ns b m := by
    rintro b m ⟨o, es, ep, e, d, r⟩
    exact ⟨o, es, ep, hidT_get e (free e d), d, r⟩
  have hKb : K.In (hidT s₁.heap H) := by
    intro b o e
    refine hidT_get (KX b o e) ?_
    rcases q : H b with _ | u
    · rfl
    · have e' := only q
      subst e'
      have z := hK (by rw [q]; exact fun q => nomatch q)
      rw [z] at e
      exact nomatch e
  have hM : Mod K mg (hidT s₁.heap H) := by
    refine ⟨hKb, nsK hns, ⟨mb, nsK hb, hbb⟩, ?_⟩
    obtain ⟨mc, h1, h2⟩ := hlim
    exact ⟨mc, nsK h1, h2⟩
  have e0 : Env0 P w K mg (hidT s₁.heap H) callerA [] s₁ H := by
    refine ⟨rfl, hM, fun b o e => of_hidT e, Nat.le_of_eq (hidT_size _ _), trivial, ?_, hok, .of_eq hg⟩
    intro b hb
    have hb' : b ∈ ([] : List Addr) := hb
    exact nomatch hb'
  have run := (F _ hKb (nsK hns)).go callerA [] s₁ H ⟨[.ref a], []⟩ [.ref a] [.ref a] _ rfl hr e0
    (hbind s₁ (.ref a)) (.cons rfl .nil) hsp
  refine codeAny_mono run ?_
  intro r s' h
  match r, h with
  | .error _, h => exact h.elim
  | .ok .next, h => exact h.elim
  | .ok .brk, h => exact h.elim
  | .ok .cont, h => exact h.elim
  | .ok (.ret u), h =>
    obtain ⟨v, H', os, bare, un, hok', r', q⟩ := h
    have q' : v = .bl true := q
    subst q'
    have eu : u = Value.bool true := r'
    subst eu
    refine ⟨rfl, OldK.of_keep ?_, os, bare⟩
    intro b o e
    rcases q : H b with _ | u
    · refine un.keep b o e q (fun z => ?_) (fun z => nomatch z)
      have z' : b ∈ ([] : List Addr) := z
      exact nomatch z'
    · rcases hO b with z | ⟨ob, xs, z⟩
      · rw [q] at z; exact nomatch z
      · obtain ⟨e1, _⟩ := hok b _ z
        obtain ⟨e2, _⟩ := hok' b _ (un.frzs b ob _ z)
        rw [e] at e1
        rw [e2, Option.some.inj e1]

theorem call_law (KX : K.In s₁.heap) (hns : s₁.heap.Ns mainGlobals mg) (hb : s₁.heap.Ns builtinsNs mb)
    (hbb : ∀ x : Str, x ≠ "__name__" → mb x = bootBuiltins x) (hlim : s₁.heap.NoLimit) (hg : s₁.gens = #[])
    (ha : s₁.heap.get? a = some { cls := .type "list", data := .seq vs.toArray }) (hi : IntsAre vs ns)
    (hl : ns.length ≤ sizeLine) (hr : Room k callerA)
    (F : ∀ base : Heap, K.In base → base.Ns mainGlobals mg → FnG P w K mg base k fa fd [x] sp)
    (hbind : ∀ (s : Shared) (u : Value), BindsTo s fd ⟨[u], []⟩ [(x, u)])
    (hsp : ∀ H : Hp, Only H → SqL K H a (ns.map V.int) → sp [.ref a] H (fun v _ => v = .bl true) E0) :
    codeAny (model P w) callerA (.call (.ref fa) ⟨[.ref a], []⟩) (Ended s₁) s₁ := by
  have rv := vals_ints hi
  have lenV := hi.length
  rcases hk : K.lookup a with _ | o
  · let H : Hp := fun b => if b = a then some (.frz { cls := .type "list", data := .seq vs.toArray } (.lst (ns.map V.int))) else none
    have at_a : H a = some (.frz { cls := .type "list", data := .seq vs.toArray } (.lst (ns.map V.int))) := if_pos rfl
    have off : ∀ b, b ≠ a → H b = none := fun b hb => if_neg hb
    have onlyH : Only H := by
      intro b
      by_cases hb : b = a
      · exact .inr ⟨_, _, if_pos hb⟩
      · exact .inl (off b hb)
    refine call_from (H := H) KX hns hb hbb hlim hg ha hr F hbind (hsp H onlyH (.inl (.inr ⟨_, at_a⟩))) onlyH ?_ ?_ (fun _ => hk)
    · intro b u z
      by_cases hb : b = a
      · subst hb
        rw [at_a] at z
        obtain rfl := Option.some.inj z
        exact ⟨ha, by rw [List.length_map]; exact hl, vs, _, rv, ha⟩
      · rw [off b hb] at z; exact nomatch z
    · intro b z
      by_cases hb : b = a
      · exact hb
      · exact absurd (off b hb) z
  · have e := KX a o hk
    rw [ha] at e
    obtain rfl := Option.some.inj e
    refine call_from (H := fun _ => none) KX hns hb hbb hlim hg ha hr F hbind (hsp _ (fun _ => .inl rfl) (.inr ?_)) (fun _ => .inl rfl)
      (fun b u z => nomatch z) (fun b z => absurd rfl z) (fun z => absurd rfl z)
    exact ⟨_, vs.toArray, _, hk, rfl, rfl, rfl, by rw [List.size_toArray, lenV]; exact hl, rv⟩
end

/-- the end of a law's proof -/
theorem walk_law {l : PySem.W.OpenLaw} {k : Nat} {q : Program} {loose : List Str} {XP : (Str → Option Value) → Heap → Prop}
    {YP : World → Heap → Prop} {d : DefRec} {K : Params → PySem.W.Frag} {sp : PySem.W.Frag → Sp} {x : Str}
    (hn : l.most = some 63) (hdf : d.params.defaults = []) (hr : Room k callerA)
    (hY : ∀ (w : World) (h : Heap), YP w h → (K w.params).In h)
    (F : ∀ (w : World) (mg : Str → Option Value) (fa : Addr) (h : Heap), (K w.params).In h → h.Ns mainGlobals mg →
      mg d.name = some (.ref fa) → ∃ fd : FuncData, (∀ (s : Shared) (u : Value), BindsTo s fd ⟨[u], []⟩ [(x, u)]) ∧
        ∀ base : Heap, (K w.params).In base → base.Ns mainGlobals mg →
          FnG l.prog w (K w.params) mg base k fa fd [x] (sp (K w.params)))
    (hsp : ∀ (K : PySem.W.Frag) (H : Hp) (a : Addr) (ns : List Int), ns.length ≤ 63 → Only H → SqL K H a (ns.map V.int) →
      sp K [.ref a] H (fun v _ => v = .bl true) E0) :
    PySem.W.WalkO q loose XP YP l.row.toRowW d [] (fun f vs => PySem.call f vs) := by
  refine Att.attach_call hn hdf ?_
  intro w s₀ s₁ mg mb fa o pm cd doc a vs ns G Y ho hd hcd hmg hobj hints hlen hg
  obtain ⟨fd, hb, hF⟩ := F w mg fa _ (hY w _ Y) G.T.g hmg
  exact call_law (hY w _ Y) G.T.g G.T.b G.T.builtins G.T.nolimit hg hobj hints
    (Nat.le_trans hlen (by decide)) hr hF hb (fun H hO hS => hsp _ H a ns hlen hO hS)
end Sg

set_option Elab.async false
set_option linter.all false
set_option maxRecDepth 100000
set_option maxHeartbeats 4000000
namespace PySem
open Sem (wp)
open AutoSeq1 (wpAny_loadPart')
/-- enumerate(t), t a tuple: its two new cells -/
theorem sg_enum_new (l : Addr) (items : Array Value) :
    Meets (Builtin.«enumerate.__new__» ⟨[.type "enumerate", .ref l], []⟩) (fun _ R s => s.heap.IsTuple l items ∧
      R (.ok (.ret (.ref (s.heap.push { cls := .type "tuple_iterator", data := .fields #[.ref l, .int 0 0] }).objs.size)))
        { s with heap := ((s.heap.push { cls := .type "tuple_iterator", data := .fields #[.ref l, .int 0 0] }).push { cls := .type "enumerate", data := .fields #[.none, .bool false, .ref s.heap.objs.size, rawInt 0, .none, .none] }) }) := by
  refine .of_wp ?_
  intro prog w A R s h
  obtain ⟨hp, g, d, tk, os⟩ := s
  obtain ⟨hT, h⟩ := h
  obtain ⟨o, hl, hc, n, hd⟩ := id hT
  have hsub := sub_enumerate
  wp_walk using wpAny_loadPart' hl
  refine wpAny_stack_any fun st => wpAny_pure ?_
  split
  · rename_i c _ _ _ _ _
    rcases hcc : (c == Value.type "enumerate") with _ | _ <;>
    · wp_walk using wpAny_loadPart' hl, wpAny_pyIter_tuple hT
      exact ⟨_, rfl, h⟩
  · wp_walk using wpAny_loadPart' hl, wpAny_pyIter_tuple hT
    exact ⟨_, rfl, h⟩

section
variable {prog : Program} {w : World} {A : Around} {E : Value → Shared → Prop} {s : Shared}
theorem sg_call_enum {l : Addr} {items : Array Value} {Q : Value → Shared → Prop} (hL : s.heap.IsTuple l items)
    (h : ∀ h', IsEnum h' (s.heap.objs.size + 1) s.heap.objs.size 0 .none → h'.IsTupleIter s.heap.objs.size l 0 →
      (∀ b o, s.heap.get? b = some o → h'.get? b = some o) → Q (.ref (s.heap.objs.size + 1)) { s with heap := h' }) :
    wpAny (model prog w) A (call (.type "enumerate") [.ref l]) Q E s := by
  refine callType_new F.called_enumerate (by decide) (F.typeCall_enumerate_1 _) (F.newCall_enumerate_1 _)
    (fun obj => F.args_object_init_2 obj _) F.entry_enumerate_new (sg_enum_new l items) ⟨hL, ?_⟩
  let o1 : Obj := { cls := .type "tuple_iterator", data := .fields #[.ref l, .int 0 0] }
  have hz : (s.heap.push o1).objs.size = s.heap.objs.size + 1 := Heap.size_push ..
  show _ ∧ _
  rw [hz]
  have he : IsEnum ((s.heap.push o1).push { cls := .type "enumerate", data := .fields #[.none, .bool false, .ref s.heap.objs.size, rawInt 0, .none, .none] })
      (s.heap.objs.size + 1) s.heap.objs.size 0 .none := by
    have z := Heap.get?_push_size (s.heap.push o1)
      (o := { cls := .type "enumerate", data := .fields #[.none, .bool false, .ref s.heap.objs.size, rawInt 0, .none, .none] }) rfl
    rw [hz] at z
    exact z
  refine ⟨⟨_, he, rfl⟩, h _ he ⟨_, Heap.get?_push_of_some _ (Heap.get?_push_size _ rfl), rfl, rfl⟩ ?_⟩
  intro b o x
  exact Heap.get?_push_of_some _ (Heap.get?_push_of_some _ x)
end
end PySem
namespace Sg
open PySem PySem.Spec PyProof.Rows L2
/-- the tuple at a, item by item, each in a new pair with its place -/
def ItE (K : PySem.W.Frag) (a : Addr) : It :=
  ⟨fun i H => ∃ (xs : List V) (x : V), SqT K H a xs ∧ xs[i]? = some x,
   fun i H v H' => ∃ T x, v = .ref T ∧ H T = none ∧ H' = upd H T (.tup [.int (i : Nat), x]) ∧ ∀ xs, SqT K H a xs → xs[i]? = some x,
   fun i H => ∃ xs : List V, SqT K H a xs ∧ xs.length ≤ i⟩
theorem turn_enumT {P : Program} {w : World} {K : PySem.W.Frag} {elts : List Expr} {kk : Nat} {tpos : Pos} (a e it : Addr) :
    Turn P w K (.Tuple elts kk tpos) (ItE K a) [e, it] e
      (fun i h => (∃ old, IsEnum h e it ((i : Nat) : Int) old) ∧ h.IsTupleIter it a i ∧ e ≠ it) := by
  have two : ∀ {b : Addr}, b ∈ [e, it] → b = e ∨ b = it := fun {b} hb => by simpa using hb
  refine ⟨by simp, ?_, ?_, ?_, ?_, ?_⟩
  · rintro i h ⟨⟨old, he⟩, ⟨o, ho, hc, hd⟩, _⟩ b hb
    rcases two hb with rfl | rfl
    · exact ⟨_, he, fun v q => nomatch q⟩
    · refine ⟨o, ho, fun v q => ?_⟩
      rw [hd] at q
      exact nomatch q
  · rintro i h h' ⟨⟨old, he⟩, hi, hne⟩ k
    exact ⟨⟨old, k e (by simp) _ he⟩, hi.at fun o q => k it (by simp) o q, hne⟩
  · intro X hP hw hK hc i pins s σ H E I hf st hg
    subst hP hw hK
    obtain ⟨⟨old, he⟩, hit, hne⟩ := st
    obtain ⟨xs, x, hq, hx⟩ := hg
    obtain ⟨its, rv, p, hz⟩ := I.tuple hq
    obtain ⟨u, hu, ru⟩ := rv.get hx
    have hel : e < s.heap.objs.size := Heap.lt_size he
    have hil : it < s.heap.objs.size := by obtain ⟨_, q, _⟩ := hit; exact Heap.lt_size q
    have hai : a ≠ it := by
      rintro rfl
      obtain ⟨o, ho, hcl, _⟩ := p
      obtain ⟨o', ho', hcl', _⟩ := hit
      rw [ho] at ho'
      obtain rfl := Option.some.inj ho'
      rw [hcl] at hcl'
      exact absurd hcl' (by decide)
    have hae : e ≠ a := by
      rintro rfl
      obtain ⟨o, ho, hcl, _⟩ := p
      have he' : s.heap.get? e = _ := he
      rw [ho] at he'
      obtain rfl := Option.some.inj he'
      have z : ("enumerate" : String) = "tuple" := Value.type.inj hcl
      exact absurd z (by decide)
    have hlt : i < its.length := (List.getElem?_eq_some_iff.mp hu).1
    refine wpAny_pyNext_enum_itemD (Draws.tuple (A := X.A.in1) (I.ok.hd hc) it a hai its.toArray) he ⟨hit, p⟩
      (by simpa using hlt) hne (by simp [hne, hae]) ?_
    intro x' h' tk hP ho hs' hT hsz hk
    have hxu : x' = u := by
      have z : its[i]? = some x' := by simpa using hP
      rw [hu] at z
      exact (Option.some.inj z).symm
    subst hxu
    refine ⟨_, rfl, wpAny_letOwnedTupleGo_enum (s := { s with heap := h', toks := tk + 1 }) ho ?_⟩
    intro h'' he' sb
    have hT2 : h''.get? s.heap.objs.size = some { cls := .type "tuple", data := .seq #[.int i tk, x'] } :=
      (sb.2 _ (Nat.ne_of_gt hel)).trans hT
    have new : ObjOk X.prog X.w (upd H s.heap.objs.size (.tup [.int (i : Nat), x])) h'' s.heap.objs.size (.tup [.int (i : Nat), x]) := by
      refine ⟨by show 2 ≤ sizeLine; decide, [.int i tk, x'], .cons ⟨_, rfl⟩ (.cons ru .nil), ⟨_, hT2, rfl, _, rfl⟩⟩
    have I1 : Inv X pins σ (upd H s.heap.objs.size (.tup [.int (i : Nat), x])) { s with heap := h'', toks := tk + 1 } := by
      refine I.turnedNew (ch := [e, it]) ?_ hf (Nat.le_refl _) new
      intro b ob hb q
      have n1 : b ≠ e := fun z => hb (by simp [z])
      have n2 : b ≠ it := fun z => hb (by simp [z])
      exact (sb.2 b n1).trans (hk b ob n1 n2 q)
    refine ⟨.ref s.heap.objs.size, _, I1, rfl, ⟨_, x, rfl, I.hok.fresh (Nat.le_refl _), rfl, ?_⟩, ⟨⟨x', ?_⟩, ?_, hne⟩, ?_⟩
    · intro ys hy
      rw [I.tuple_inj hy hq]
      exact hx
    · have e1 : ((i + 1 : Nat) : Int) = (i : Int) + 1 := by omega
      rw [e1]
      exact he'
    · exact hs'.1.at fun o q => (sb.2 it (Ne.symm hne)).trans q
    · intro b hb
      have hb' : b < s.heap.objs.size := by
        rcases two hb with rfl | rfl
        · exact hel
        · exact hil
      rw [upd_ne (Nat.ne_of_lt hb')]
      exact (hf b hb).1
  · intro X hP hw hK hc i pins s σ H E I hf st hg
    subst hP hw hK
    obtain ⟨⟨old, he⟩, hit, hne⟩ := st
    obtain ⟨xs, hq, hx⟩ := hg
    obtain ⟨its, rv, p, hz⟩ := I.tuple hq
    obtain ⟨f0, f1, f2, f3, f4, f5⟩ := hf it (by simp)
    have hl := rv.length
    have hh : X.A.in1.in1.handled = none := I.ok.hd hc
    have hai : a ≠ it := by
      rintro rfl
      obtain ⟨o, ho, hcl, _⟩ := p
      obtain ⟨o', ho', hcl', _⟩ := hit
      rw [ho] at ho'
      obtain rfl := Option.some.inj ho'
      rw [hcl] at hcl'
      exact absurd hcl' (by decide)
    unfold pyNext
    have hTy : s.TypeIs (.ref e) "enumerate" := ⟨_, he, rfl⟩
    refine wpAny_bind (wpAny_attempt (wpAny_callSpecial?_slot (name := Str.ofString "__next__") hTy F.slot_enumerate_next
      (wpAny_call_entry F.slot_enumerate_next hTy F.entry_enumerate_next ?_ (F.args_enumerate_next_1 _))))
    show wpAny _ _ (field (.ref e) 2 >>= _) _ _ _
    refine wpAny_bind (wpAny_field he rfl (x := .ref it) rfl ?_)
    refine wpAny_bind (wpAny_nextOf_tuple_end hh hit p (by simp; omega) ?_)
    rintro h' x he' ⟨o, ho, hcl⟩
    refine wpAny_bind (wpAny_isInstance (T := "StopIteration") (b := true) ⟨o, ho, hcl⟩ isSubtype_stop (wpAny_pure ?_))
    exact ⟨rfl, I.turned (t' := s.toks) (fun b o hb q => he' b o hb q) f0 f1 f3 f4 f5⟩
  · intro A i s Q E st h
    obtain ⟨⟨_, he⟩, _⟩ := st
    exact wpAny_pyIter_enum he h
def iEnT (K : PySem.W.Frag) (ta : TA) : TI := fun σ H R => ta σ H fun vs H1 => ∃ a xs, vs = [.ref a] ∧ SqT K H1 a xs ∧ R (ItE K a) H1
theorem pi_enumT {X : Cx} {e : Expr} {ta : TA} {p pos tpos : Pos} {elts : List Expr} {kk : Nat} (hg : Gl X "enumerate")
    (hm : X.mg "enumerate" = none) (ha : PA X [e] ta) (hs : starEach [e] X.env = [(false, eval e X.env)] := by rfl) :
    PI X (.Tuple elts kk tpos) (.Call (.Name "enumerate" p) [e] [] pos) (iEnT X.K ta) := by
  constructor
  intro pins s σ H R I h
  refine Call_ (ld_blt I hg hm boot_enumerate (PyProof.Rows.callWith_type1 (thn (ha.run pos pins s σ H _ I h) ?_) hs rfl))
  rintro us s1 ⟨vs, H1, I1, r1, a, xs, rfl, hq, q⟩
  obtain ⟨u, rfl, rfl⟩ := vals1 r1
  obtain ⟨its, rv, p', hz⟩ := I1.tuple hq
  refine sg_call_enum p' ?_
  intro h' he hit hk
  refine wpAny_pyIter_enum he ?_
  have I2 : Inv X pins σ H1 { s1 with heap := h' } := I1.kept (t' := s1.toks) hk
  refine ⟨s1.heap.objs.size + 1, [s1.heap.objs.size + 1, s1.heap.objs.size], _, _, H1, rfl, I2,
    turn_enumT a (s1.heap.objs.size + 1) s1.heap.objs.size, ⟨⟨.none, he⟩, hit, Nat.succ_ne_self _⟩, ?_, q⟩
  intro b hb
  have hle : s1.heap.objs.size ≤ b := by
    have e' : b = s1.heap.objs.size + 1 ∨ b = s1.heap.objs.size := by simpa using hb
    rcases e' with rfl | rfl
    · exact Nat.le_succ _
    · exact Nat.le_refl _
  exact I1.fpOk hle (I1.hok.fresh hle)
end Sg

set_option Elab.async false
set_option linter.all false
set_option maxRecDepth 100000
set_option maxHeartbeats 4000000
namespace Sg
open PySem PySem.Spec PyProof.Rows L2
/-! ## [c for a in t for b in a for c in b], tuples all the way down -/
/-- slots that agree but for those of ws -/
def Ag (ws : List Nat) (σ σ' : L2.St) : Prop := σ'.length = σ.length ∧ ∀ j, j ∉ ws → σ'[j]? = σ[j]?
theorem Ag.refl (ws : List Nat) (σ : L2.St) : Ag ws σ σ := ⟨rfl, fun _ _ => rfl⟩
theorem Ag.trans {ws : List Nat} {a b c : L2.St} (h : Ag ws a b) (k : Ag ws b c) : Ag ws a c := ⟨k.1.trans h.1, fun j hj => (k.2 j hj).trans (h.2 j hj)⟩
theorem Ag.set {ws : List Nat} {σ : L2.St} {k : Nat} {v : Option V} (hk : k ∈ ws) : Ag ws σ (σ.set k v) := ⟨List.length_set, fun j hj => by
  rw [List.getElem?_set_ne]
  rintro rfl
  exact hj hk⟩
theorem Ag.mono {ws us : List Nat} {σ σ' : L2.St} (h : Ag ws σ σ') (k : ∀ j ∈ ws, j ∈ us) : Ag us σ σ' := ⟨h.1, fun j hj => h.2 j fun z => hj (k j z)⟩
/-- a turn of a loop of a comprehension without tests -/
def flatTurn (e : Expr) (d : Nat) (it D : Addr) (n : Str) (p pos : Pos) (bd : Sem Fin → Sem Fin) (env : Env) : Sem Fin :=
  standAt pos >>= fun _ => pyNext (.ref it) >>= fun r => match r with
    | none => pure (.done .next)
    | some v => letOwnedTupleGo (.Name n p) (.ref it) v >>= fun _ => assign (.Name n p) env v >>= fun _ =>
      bd (again (.compLoop e d (.ref it) (.ref D) env))
section
variable {Z : Cx} {elt : Expr} {gens : List Comprehension} {scope : Scope} {cpos p pos : Pos} {d k : Nat} {it D c : Addr} {n : Str} {bd : Sem Fin → Sem Fin}
variable {R : Result → Shared → Prop} {xs : List V} {pins : List (Addr × Obj)} {ws : List Nat}
theorem flat_loop (hxe : Z.xe = fun _ _ => False) (hcalm : Z.calm = true) (hN : Z.N.Nodup)
    (hturn : compTurn (.ListComp elt gens scope cpos) d (.ref it) (.ref D) Z.env = flatTurn (.ListComp elt gens scope cpos) d it D n p pos bd Z.env)
    (hk : Z.N[k]? = some n) (hloc : Loc Z.env.scope n) (hfn : Z.fn n = true ∨ Z.env.scope.names.lookup n = some .local) (hkw : k ∈ ws)
    (σ : L2.St) (G : Nat → Hp → Prop) (hG : ∀ i H, i ≤ xs.length → G i H → SqT Z.K H c xs) (hfp : ∀ H, H it = none → FpOk Z pins H it)
    (hbd : ∀ i x s σ' H, xs[i]? = some x → G i H → H it = none → Inv Z (pins ++ pinsAt [it] s.heap) σ' H s → σ'[k]? = some (some x) → Ag ws σ σ' →
      ∀ (kk : Sem Fin) (Qf : Fin → Shared → Prop) (Ef : Value → Shared → Prop),
        (∀ s' σ'' H', Inv Z (pins ++ pinsAt [it] s.heap) σ'' H' s' → Ag ws σ σ'' → G (i + 1) H' → wpAny (model Z.prog Z.w) Z.A kk Qf Ef s') → wpAny (model Z.prog Z.w) Z.A (bd kk) Qf Ef s)
    (hfin : ∀ s' σ' H', Inv Z pins σ' H' s' → Ag ws σ σ' → G xs.length H' → R (.ok .next) s')
    {s : Shared} {σ₀ : L2.St} {H₀ : Hp} (I₀ : Inv Z pins σ₀ H₀ s) (ag₀ : Ag ws σ σ₀) (g₀ : G 0 H₀) (n₀ : H₀ it = none) (st₀ : s.heap.IsTupleIter it c 0) :
    codeAny (model Z.prog Z.w) Z.A (.compLoop (.ListComp elt gens scope cpos) d (.ref it) (.ref D) Z.env) R s := by
  have T := turn_tuple (P := Z.prog) (w := Z.w) (K := Z.K) (tg := .Name n p) c it
  have hb1 : ∀ {H : Hp}, H it = none → ∀ b ∈ [it], FpOk Z pins H b := by
    intro H hn b hb
    rw [List.mem_singleton.mp hb]
    exact hfp H hn
  refine codeAny_loop rfl (fun m s' => ∃ i σ' H', Inv Z pins σ' H' s' ∧ Ag ws σ σ' ∧ G i H' ∧ H' it = none ∧ s'.heap.IsTupleIter it c i ∧ i ≤ xs.length ∧ m = xs.length - i) ?_ xs.length
    ⟨0, σ₀, H₀, I₀, ag₀, g₀, n₀, st₀, Nat.zero_le _, rfl⟩
  rintro m s1 ⟨i, σ1, H1, I1, ag1, g1, n1, st1, hi, rfl⟩
  show wpAny _ Z.A ((compTurn (.ListComp elt gens scope cpos) d (.ref it) (.ref D) Z.env).onRaise (fun x => do noteFrame x Z.env; theTreesLotGoes x)) _ _ s1
  refine wpAny_noted ?_
  rw [hturn]
  refine wpAny_bind (wpAny_standAt (wpAny_bind ?_))
  have hq := hG i H1 hi g1
  by_cases hlt : i < xs.length
  · have go := T.item Z rfl rfl rfl hcalm i pins s1 σ1 H1 (fun _ _ => False) I1 (hb1 n1) st1 ⟨xs, xs[i], hq, List.getElem?_eq_getElem hlt⟩
    refine thnF go ?_
    rintro r s2 ⟨u, rfl, h2⟩
    refine wpAny_bind (thnF h2 ?_)
    rintro _ s3 ⟨x, H3, I3, r3, ⟨eH, hy⟩, st3, n3⟩
    subst eH
    have hx : xs[i]? = some x := hy xs hq
    have n3' : H3 it = none := n3 it (List.mem_singleton.mpr rfl)
    have I3' := I3.pinned (hb1 n3') (T.obj _ _ st3)
    have ia := (pg_name (X := Z) (pos := p) hN hk hloc hfn).run _ s3 σ1 H3 x u (fun σ' H' => σ' = σ1.set k (some x) ∧ H' = H3) I3' r3 ⟨rfl, rfl⟩
    rw [hxe] at ia
    refine wpAny_bind (thnF ia ?_)
    rintro _ s4 ⟨σ4, H4, I4, rfl, rfl⟩
    obtain ⟨o, ho, hoc⟩ := T.obj _ _ st3 it (List.mem_singleton.mpr rfl)
    have pin4 := I4.pin (it, o) (List.mem_append_right _ (List.mem_append_right _ (mem_pinsAt (List.mem_singleton.mpr rfl) ho)))
    have ep : pinsAt [it] s3.heap = pinsAt [it] s4.heap := by
      unfold pinsAt
      rw [List.filterMap_cons, List.filterMap_cons, ho, pin4.1]
      rfl
    rw [ep] at I4
    have hσ4 : (σ1.set k (some x))[k]? = some (some x) := by
      have hkl : k < σ1.length := by rw [I1.len]; exact (List.getElem?_eq_some_iff.mp hk).1
      rw [List.getElem?_set_self hkl]
    refine hbd i x s4 _ _ hx g1 n3' I4 hσ4 (ag1.trans (Ag.set hkw)) _ _ _ ?_
    intro s5 σ5 H5 I5 ag5 g5
    have pin5 := I5.pin (it, o) (List.mem_append_right _ (List.mem_append_right _ (mem_pinsAt (List.mem_singleton.mpr rfl) pin4.1)))
    have st5 : s5.heap.IsTupleIter it c (i + 1) := T.keep _ _ _ st3 (by
      intro b hb o' e
      rw [List.mem_singleton.mp hb] at e ⊢
      rw [ho] at e
      rw [← Option.some.inj e]
      exact pin5.1)
    exact wpAny_pure ⟨rfl, xs.length - (i + 1), by omega, i + 1, σ5, H5, I5.unpinned, ag5, g5, pin5.2.1, st5, hlt, rfl⟩
  · have e : i = xs.length := by omega
    subst e
    have stop := T.done Z rfl rfl rfl hcalm xs.length pins s1 σ1 H1 (fun _ _ => False) I1 (hb1 n1) st1 ⟨xs, hq, Nat.le_refl _⟩
    refine thnF stop ?_
    rintro r s2 ⟨rfl, I2⟩
    exact wpAny_pure (hfin s2 σ1 H1 I2 ag1 g1)
end
/-! ### the three clauses -/
abbrev flatE (n1 n2 n3 : Str) (iter : Expr) (scope : Scope) (q1 q2 q3 a1 a2 a3 pos : Pos) : Expr :=
  .ListComp (.Name n3 a3) [⟨.Name n1 q1, iter, [], 0⟩, ⟨.Name n2 q2, .Name n1 a1, [], 0⟩, ⟨.Name n3 q3, .Name n2 a2, [], 0⟩] scope pos
section
variable {n1 n2 n3 : Str} {iter : Expr} {scope : Scope} {q1 q2 q3 a1 a2 a3 pos : Pos} {it D : Addr} {env : Env}
abbrev downBody (e i : Expr) (d : Nat) (D : Addr) (env : Env) (kk : Sem Fin) : Sem Fin := eval i env >>= fun x => standAt i.pos >>= fun _ =>
  foldedSetIterable i env x >>= fun x => holding [x] (pyIter x) >>= fun it' => runOwn (.compStart e d it' (.ref D) env) env >>= fun _ => kk
abbrev addBody (elt : Expr) (D : Addr) (env : Env) (kk : Sem Fin) : Sem Fin :=
  (eval elt env >>= fun x => call (.builtin "list.append") [.ref D, x] >>= fun _ => pure ()) >>= fun _ => kk
theorem flat_t0 : compTurn (flatE n1 n2 n3 iter scope q1 q2 q3 a1 a2 a3 pos) 0 (.ref it) (.ref D) env =
    flatTurn (flatE n1 n2 n3 iter scope q1 q2 q3 a1 a2 a3 pos) 0 it D n1 q1 iter.pos (downBody (flatE n1 n2 n3 iter scope q1 q2 q3 a1 a2 a3 pos) (.Name n1 a1) 1 D env) env := by rfl
theorem flat_t1 : compTurn (flatE n1 n2 n3 iter scope q1 q2 q3 a1 a2 a3 pos) 1 (.ref it) (.ref D) env =
    flatTurn (flatE n1 n2 n3 iter scope q1 q2 q3 a1 a2 a3 pos) 1 it D n2 q2 a1 (downBody (flatE n1 n2 n3 iter scope q1 q2 q3 a1 a2 a3 pos) (.Name n2 a2) 2 D env) env := by rfl
theorem flat_t2 : compTurn (flatE n1 n2 n3 iter scope q1 q2 q3 a1 a2 a3 pos) 2 (.ref it) (.ref D) env =
    flatTurn (flatE n1 n2 n3 iter scope q1 q2 q3 a1 a2 a3 pos) 2 it D n3 q3 a2 (addBody (.Name n3 a3) D env) env := by rfl
end
section
variable {prog : Program} {w : World} {A : Around} {R : Result → Shared → Prop} {s : Shared} {n1 n2 n3 : Str} {iter : Expr} {scope : Scope} {q1 q2 q3 a1 a2 a3 pos : Pos} {it acc : Value} {env : Env}
theorem flat_s1 (h0 : codeAny (model prog w) A (.compLoop (flatE n1 n2 n3 iter scope q1 q2 q3 a1 a2 a3 pos) 1 it acc env) R s)
    (h : wpAny (model prog w) A (pyIter it) (fun it' s' => codeAny (model prog w) A (.compLoop (flatE n1 n2 n3 iter scope q1 q2 q3 a1 a2 a3 pos) 1 it' acc env) R s') (notedBy (model prog w) A env fun x s' => R (.error x) s') s) :
    codeAny (model prog w) A (.compStart (flatE n1 n2 n3 iter scope q1 q2 q3 a1 a2 a3 pos) 1 it acc env) R s := by
  apply codeAny_of_tree
  show wpAny _ _ ((compStart (flatE n1 n2 n3 iter scope q1 q2 q3 a1 a2 a3 pos) 1 it acc env).onRaise (fun x => do noteFrame x env; standAt theWindowsPlace)) _ _ s
  apply wpAny_notedAt
  unfold compStart
  show wpAny _ _ (ask >>= _) _ _ s
  refine wpAny_bind (wpAny_askSetting (wpAny_ite ?_))
  split
  · first | exact wpAny_pure (And.intro rfl h0) | exact wpAny_bind (wpAny_pure (wpAny_pure (And.intro rfl h0)))
  · refine wpAny_bind (wpAny_rule ?_)
    show wpAny _ _ (standAt a1 >>= _) _ _ s
    exact wpAny_bind (wpAny_standAt (wpAny_bind (wpAny_mono h (fun it' s' h' => wpAny_pure (And.intro rfl h')) fun _ _ x => x)))
theorem flat_s2 (h0 : codeAny (model prog w) A (.compLoop (flatE n1 n2 n3 iter scope q1 q2 q3 a1 a2 a3 pos) 2 it acc env) R s)
    (h : wpAny (model prog w) A (pyIter it) (fun it' s' => codeAny (model prog w) A (.compLoop (flatE n1 n2 n3 iter scope q1 q2 q3 a1 a2 a3 pos) 2 it' acc env) R s') (notedBy (model prog w) A env fun x s' => R (.error x) s') s) :
    codeAny (model prog w) A (.compStart (flatE n1 n2 n3 iter scope q1 q2 q3 a1 a2 a3 pos) 2 it acc env) R s := by
  apply codeAny_of_tree
  show wpAny _ _ ((compStart (flatE n1 n2 n3 iter scope q1 q2 q3 a1 a2 a3 pos) 2 it acc env).onRaise (fun x => do noteFrame x env; standAt theWindowsPlace)) _ _ s
  apply wpAny_notedAt
  unfold compStart
  show wpAny _ _ (ask >>= _) _ _ s
  refine wpAny_bind (wpAny_askSetting (wpAny_ite ?_))
  split
  · first | exact wpAny_pure (And.intro rfl h0) | exact wpAny_bind (wpAny_pure (wpAny_pure (And.intro rfl h0)))
  · refine wpAny_bind (wpAny_rule ?_)
    show wpAny _ _ (standAt a2 >>= _) _ _ s
    exact wpAny_bind (wpAny_standAt (wpAny_bind (wpAny_mono h (fun it' s' h' => wpAny_pure (And.intro rfl h')) fun _ _ x => x)))
end
end Sg

set_option Elab.async false
set_option linter.all false
set_option maxRecDepth 100000
set_option maxHeartbeats 4000000
namespace Sg
open PySem PySem.Spec PyProof.Rows L2
/-- cells are tuples; xs are all their items -/
inductive FlatL (K : PySem.W.Frag) (H : Hp) : List V → List V → Prop
  | nil : FlatL K H [] []
  | cons {a : Addr} {ys cells xs : List V} : SqT K H a ys → FlatL K H cells xs → FlatL K H (.ref a :: cells) (ys ++ xs)
/-- rows are tuples of tuples; xs are all the items of these -/
inductive FlatR (K : PySem.W.Frag) (H : Hp) : List V → List V → Prop
  | nil : FlatR K H [] []
  | cons {a : Addr} {cells ys rows xs : List V} : SqT K H a cells → FlatL K H cells ys → FlatR K H rows xs → FlatR K H (.ref a :: rows) (ys ++ xs)
section
variable {K : PySem.W.Frag} {H : Hp}
theorem FlatL.snoc {a : Addr} {ys : List V} (h : SqT K H a ys) : ∀ {cells xs : List V}, FlatL K H cells xs → FlatL K H (cells ++ [.ref a]) (xs ++ ys)
  | _, _, .nil => by have z := FlatL.cons h .nil; rwa [List.append_nil] at z
  | _, _, .cons h1 r => by rw [List.append_assoc]; exact .cons h1 (FlatL.snoc h r)
theorem FlatR.snoc {a : Addr} {cells ys : List V} (h : SqT K H a cells) (hl : FlatL K H cells ys) : ∀ {rows xs : List V}, FlatR K H rows xs → FlatR K H (rows ++ [.ref a]) (xs ++ ys)
  | _, _, .nil => by have z := FlatR.cons h hl .nil; rwa [List.append_nil] at z
  | _, _, .cons h1 h2 r => by rw [List.append_assoc]; exact .cons h1 h2 (FlatR.snoc h hl r)
theorem FlatL.same {H' : Hp} (e : Same H H') : ∀ {cells xs : List V}, FlatL K H cells xs → FlatL K H' cells xs
  | _, _, .nil => .nil
  | _, _, .cons h r => .cons (h.imp (fun z => z.imp (e _ _) fun ⟨o, z⟩ => ⟨o, e _ _ z⟩) id) (FlatL.same e r)
theorem FlatR.same {H' : Hp} (e : Same H H') : ∀ {rows xs : List V}, FlatR K H rows xs → FlatR K H' rows xs
  | _, _, .nil => .nil
  | _, _, .cons h l r => .cons (h.imp (fun z => z.imp (e _ _) fun ⟨o, z⟩ => ⟨o, e _ _ z⟩) id) (FlatL.same e l) (FlatR.same e r)
theorem sqT_new {D a : Addr} {o : HO} {ys : List V} (n : H D = none) (h : SqT K H a ys) : SqT K (upd H D o) a ys :=
  h.imp (fun z => z.imp (fun z => by rw [upd_ne (ne_of_none z n)]; exact z) fun ⟨u, z⟩ => ⟨u, by rw [upd_ne (ne_of_none z n)]; exact z⟩) id
end
section
variable {Z : Cx} {n1 n2 n3 : Str} {iter : Expr} {scope : Scope} {q1 q2 q3 a1 a2 a3 pos : Pos} {k1 k2 k3 : Nat}
/-- what the block says of its names -/
structure FlatN (Z : Cx) (n1 n2 n3 : Str) (k1 k2 k3 : Nat) : Prop where
  xe : Z.xe = fun _ _ => False
  calm : Z.calm = true
  nd : Z.N.Nodup
  h1 : Z.N[k1]? = some n1
  h2 : Z.N[k2]? = some n2
  h3 : Z.N[k3]? = some n3
  l1 : Z.env.scope.names.lookup n1 = some .local
  l2 : Z.env.scope.names.lookup n2 = some .local
  l3 : Z.env.scope.names.lookup n3 = some .local
  d1 : (n1 == ("__debug__" : Str)) = false
  d2 : (n2 == ("__debug__" : Str)) = false
  d3 : (n3 == ("__debug__" : Str)) = false
  c1 : (n1 == ("__classdict__" : Str)) = false
  c2 : (n2 == ("__classdict__" : Str)) = false
  c3 : (n3 == ("__classdict__" : Str)) = false
/-- the innermost loop -/
theorem flat_in (B : FlatN Z n1 n2 n3 k1 k2 k3) {pins : List (Addr × Obj)} {σ : L2.St} {H : Hp} {s : Shared} {R : Result → Shared → Prop} {it D c : Addr} {acc xs : List V}
    (hn : H D = none) (hc : SqT Z.K H c xs) (hz : acc.length + xs.length ≤ 1000000) (I : Inv Z pins σ (upd H D (.lst acc)) s) (st : s.heap.IsTupleIter it c 0) (hit : (upd H D (.lst acc)) it = none)
    (hfp : ∀ H, H it = none → FpOk Z pins H it)
    (fin : ∀ s' σ', Inv Z pins σ' (upd H D (.lst (acc ++ xs))) s' → Ag [k3] σ σ' → R (.ok .next) s') :
    codeAny (model Z.prog Z.w) Z.A (.compLoop (flatE n1 n2 n3 iter scope q1 q2 q3 a1 a2 a3 pos) 2 (.ref it) (.ref D) Z.env) R s := by
  refine flat_loop B.xe B.calm B.nd flat_t2 B.h3 (.inl B.l3) (.inr B.l3) (List.mem_singleton.mpr rfl) σ (fun i H' => H' = upd H D (.lst (acc ++ xs.take i)))
    (fun i H' _ e => by rw [e]; exact sqT_new hn hc) hfp (fun i x s1 σ1 H1 hx e hi I1 hk ag kk Qf Ef cont => ?_) (fun s' σ' H' I' ag e => ?_) I (Ag.refl _ _) (by rw [List.take_zero, List.append_nil]) hit st
  · subst e
    have ev := (pe_var (pos := a3) (X := Z) B.h3 (.inl B.l3) B.d3 B.c3).run _ s1 σ1 _ (fun v H2 => v = x ∧ H2 = upd H D (.lst (acc ++ xs.take i))) I1 ⟨x, hk, rfl, rfl⟩
    rw [B.xe] at ev
    refine wpAny_bind (wpAny_bind (thnF ev ?_))
    rintro u s2 ⟨v, H2, I2, r2, rfl, rfl⟩
    have lt : (acc ++ xs.take i).length < sizeLine := by
      have h4 : sizeLine = 16777216 := sizeLine_eq
      rw [List.length_append, List.length_take]
      have := Nat.min_le_right i xs.length
      omega
    refine wpAny_bind (app_ok (X := Z) I2 upd_same lt r2 fun s3 I3 => wpAny_pure ?_)
    rw [upd_upd] at I3
    refine cont s3 σ1 _ I3 ag ?_
    rw [List.take_add_one, hx, List.append_assoc]
    rfl
  · subst e
    rw [List.take_length] at I'
    exact fin s' σ' I' ag
/-- down a level: name, iterator, loop -/
theorem flat_down {pins : List (Addr × Obj)} {σ : L2.St} {H : Hp} {s : Shared} {c : Addr} {ys : List V} {nn : Str} {aa : Pos} {e : Expr} {d k : Nat} {D : Addr} {kk : Sem Fin} {Qf : Fin → Shared → Prop} {Ef : Value → Shared → Prop}
    (hxe : Z.xe = fun _ _ => False) (hN : Z.N[k]? = some nn) (hl : Z.env.scope.names.lookup nn = some .local) (hd : (nn == ("__debug__" : Str)) = false) (hcd : (nn == ("__classdict__" : Str)) = false)
    (I : Inv Z pins σ H s) (hk : σ[k]? = some (some (.ref c))) (hq : SqT Z.K H c ys)
    (go : ∀ s1 it, Inv Z pins σ H s1 → H it = none → (∀ H, H it = none → FpOk Z pins H it) → s1.heap.IsTupleIter it c 0 →
      codeAny (model Z.prog Z.w) Z.A (.compStart e d (.ref it) (.ref D) Z.env) (fun r s' => r = .ok .next ∧ wpAny (model Z.prog Z.w) Z.A kk Qf Ef s') s1) :
    wpAny (model Z.prog Z.w) Z.A (downBody e (.Name nn aa) d D Z.env kk) Qf Ef s := by
  have ev := (pe_var (pos := aa) (X := Z) hN (.inl hl) hd hcd).run _ s σ H (fun v H2 => v = .ref c ∧ H2 = H) I ⟨.ref c, hk, rfl, rfl⟩
  rw [hxe] at ev
  refine wpAny_bind (thnF ev ?_)
  rintro u s2 ⟨v, H2, I2, r2, rfl, rfl⟩
  obtain rfl : u = Value.ref c := r2
  refine wpAny_bind (wpAny_standAt (wpAny_bind (wpAny_of_eq (a := Value.ref c) rfl (wpAny_bind (wpAny_holding ?_)))))
  obtain ⟨its, rv, p, hz⟩ := I2.tuple hq
  refine wpAny_pyIter_tuple (show s2.heap.IsTuple c its.toArray from p) ?_
  refine wpAny_bind (wpAny_runOwn ?_)
  rw [Around.mark_none]
  have I3 : Inv Z pins σ H2 { s2 with heap := s2.heap.push { cls := .type "tuple_iterator", data := .fields #[.ref c, .int 0 0] } } := I2.kept (t' := s2.toks) fun b o e => Heap.get?_push_of_some _ e
  refine codeAny_mono (go _ s2.heap.objs.size I3 (I2.hok.fresh (Nat.le_refl _)) (fun H' h => I2.fpOk (Nat.le_refl _) h) ⟨_, Heap.get?_push_size _ rfl, rfl, rfl⟩) ?_
  rintro r s' ⟨rfl, hkk⟩
  exact hkk
/-- the middle loop -/
theorem flat_mid (B : FlatN Z n1 n2 n3 k1 k2 k3) {pins : List (Addr × Obj)} {σ : L2.St} {H : Hp} {s : Shared} {R : Result → Shared → Prop} {it D c : Addr} {acc cells xs : List V}
    (hn : H D = none) (hc : SqT Z.K H c cells) (hf : FlatL Z.K H cells xs) (hz : acc.length + xs.length ≤ 1000000) (I : Inv Z pins σ (upd H D (.lst acc)) s) (st : s.heap.IsTupleIter it c 0) (hit : (upd H D (.lst acc)) it = none)
    (hfp : ∀ H, H it = none → FpOk Z pins H it)
    (fin : ∀ s' σ', Inv Z pins σ' (upd H D (.lst (acc ++ xs))) s' → Ag [k2, k3] σ σ' → R (.ok .next) s') :
    codeAny (model Z.prog Z.w) Z.A (.compLoop (flatE n1 n2 n3 iter scope q1 q2 q3 a1 a2 a3 pos) 1 (.ref it) (.ref D) Z.env) R s := by
  refine flat_loop (ws := [k2, k3]) B.xe B.calm B.nd flat_t1 B.h2 (.inl B.l2) (.inr B.l2) (List.mem_cons_self) σ
    (fun i H' => ∃ pre suf ys zs, cells = pre ++ suf ∧ pre.length = i ∧ FlatL Z.K H pre ys ∧ FlatL Z.K H suf zs ∧ xs = ys ++ zs ∧ H' = upd H D (.lst (acc ++ ys)))
    (fun i H' _ ⟨_, _, _, _, _, _, _, _, _, e⟩ => by rw [e]; exact sqT_new hn hc) hfp (fun i x s1 σ1 H1 hx e hi I1 hk ag kk Qf Ef cont => ?_) (fun s' σ' H' I' ag e => ?_) I (Ag.refl _ _)
    ⟨[], cells, [], xs, rfl, rfl, .nil, hf, rfl, by rw [List.append_nil]⟩ hit st
  · obtain ⟨pre, suf, ys, zs, ec, el, f1, f2, ex, rfl⟩ := e
    cases f2 with
    | nil =>
      rw [ec, List.append_nil, ← el, List.getElem?_eq_none (Nat.le_refl _)] at hx
      exact nomatch hx
    | @cons b bs suf' zs' hb r =>
      have xb : x = .ref b := by
        rw [ec, ← el, List.getElem?_append_right (Nat.le_refl _), Nat.sub_self] at hx
        exact (Option.some.inj hx).symm
      subst xb
      have zl : acc.length + ys.length + bs.length ≤ 1000000 := by
        rw [ex, List.length_append, List.length_append] at hz
        omega
      refine flat_down B.xe B.h2 B.l2 B.d2 B.c2 I1 hk (sqT_new hn hb) fun s2 it2 I2 n2' fp2 st2 => ?_
      have loop : codeAny (model Z.prog Z.w) Z.A (.compLoop (flatE n1 n2 n3 iter scope q1 q2 q3 a1 a2 a3 pos) 2 (.ref it2) (.ref D) Z.env) (fun r s' => r = .ok .next ∧ wpAny (model Z.prog Z.w) Z.A kk Qf Ef s') s2 := by
        refine flat_in B hn hb (by rw [List.length_append]; exact zl) I2 st2 n2' fp2 fun s3 σ3 I3 ag3 => ⟨rfl, ?_⟩
        refine cont s3 σ3 _ I3 (ag.trans (ag3.mono (by simp))) ⟨pre ++ [.ref b], suf', ys ++ bs, zs', by rw [ec, List.append_assoc]; rfl, by rw [List.length_append, el]; rfl, FlatL.snoc hb f1, r, by rw [ex, List.append_assoc], by rw [List.append_assoc]⟩
      exact flat_s2 loop (wpAny_pyIter_tupleiter st2 loop)
  · obtain ⟨pre, suf, ys, zs, ec, el, f1, f2, ex, rfl⟩ := e
    have es : suf = [] := by
      have z := congrArg List.length ec
      rw [List.length_append, el] at z
      exact List.eq_nil_of_length_eq_zero (by omega)
    subst es
    cases f2
    rw [List.append_nil] at ex
    subst ex
    exact fin s' σ' I' ag
/-- the outer loop -/
theorem flat_out (B : FlatN Z n1 n2 n3 k1 k2 k3) {σ : L2.St} {H : Hp} {s : Shared} {R : Result → Shared → Prop} {it D c : Addr} {rows xs : List V}
    (hn : H D = none) (hc : SqT Z.K H c rows) (hf : FlatR Z.K H rows xs) (hz : xs.length ≤ 1000000) (I : Inv Z [] σ (upd H D (.lst [])) s) (st : s.heap.IsTupleIter it c 0) (hit : (upd H D (.lst [])) it = none)
    (hfp : ∀ H, H it = none → FpOk Z [] H it)
    (fin : ∀ s' σ', Inv Z [] σ' (upd H D (.lst xs)) s' → R (.ok .next) s') :
    codeAny (model Z.prog Z.w) Z.A (.compLoop (flatE n1 n2 n3 iter scope q1 q2 q3 a1 a2 a3 pos) 0 (.ref it) (.ref D) Z.env) R s := by
  refine flat_loop (ws := [k1, k2, k3]) B.xe B.calm B.nd flat_t0 B.h1 (.inl B.l1) (.inr B.l1) (List.mem_cons_self) σ
    (fun i H' => ∃ pre suf ys zs, rows = pre ++ suf ∧ pre.length = i ∧ FlatR Z.K H pre ys ∧ FlatR Z.K H suf zs ∧ xs = ys ++ zs ∧ H' = upd H D (.lst ys))
    (fun i H' _ ⟨_, _, _, _, _, _, _, _, _, e⟩ => by rw [e]; exact sqT_new hn hc) hfp (fun i x s1 σ1 H1 hx e hi I1 hk ag kk Qf Ef cont => ?_) (fun s' σ' H' I' ag e => ?_) I (Ag.refl _ _)
    ⟨[], rows, [], xs, rfl, rfl, .nil, hf, rfl, rfl⟩ hit st
  · obtain ⟨pre, suf, ys, zs, ec, el, f1, f2, ex, rfl⟩ := e
    cases f2 with
    | nil =>
      rw [ec, List.append_nil, ← el, List.getElem?_eq_none (Nat.le_refl _)] at hx
      exact nomatch hx
    | @cons b bcells bs suf' zs' hb hbl r =>
      have xb : x = .ref b := by
        rw [ec, ← el, List.getElem?_append_right (Nat.le_refl _), Nat.sub_self] at hx
        exact (Option.some.inj hx).symm
      subst xb
      have zl : ys.length + bs.length ≤ 1000000 := by
        rw [ex, List.length_append, List.length_append] at hz
        omega
      refine flat_down B.xe B.h1 B.l1 B.d1 B.c1 I1 hk (sqT_new hn hb) fun s2 it2 I2 n2' fp2 st2 => ?_
      have loop : codeAny (model Z.prog Z.w) Z.A (.compLoop (flatE n1 n2 n3 iter scope q1 q2 q3 a1 a2 a3 pos) 1 (.ref it2) (.ref D) Z.env) (fun r s' => r = .ok .next ∧ wpAny (model Z.prog Z.w) Z.A kk Qf Ef s') s2 := by
        refine flat_mid B hn hb hbl zl I2 st2 n2' fp2 fun s3 σ3 I3 ag3 => ⟨rfl, ?_⟩
        refine cont s3 σ3 _ I3 (ag.trans (ag3.mono (by simp))) ⟨pre ++ [.ref b], suf', ys ++ bs, zs', by rw [ec, List.append_assoc]; rfl, by rw [List.length_append, el]; rfl, FlatR.snoc hb hbl f1, r, by rw [ex, List.append_assoc], rfl⟩
      exact flat_s1 loop (wpAny_pyIter_tupleiter st2 loop)
  · obtain ⟨pre, suf, ys, zs, ec, el, f1, f2, ex, rfl⟩ := e
    have es : suf = [] := by
      have z := congrArg List.length ec
      rw [List.length_append, el] at z
      exact List.eq_nil_of_length_eq_zero (by omega)
    subst es
    cases f2
    rw [List.append_nil] at ex
    subst ex
    exact fin s' σ' I'
end
end Sg

set_option Elab.async false
set_option linter.all false
set_option maxRecDepth 100000
set_option maxHeartbeats 4000000
namespace Sg
open PySem PySem.Spec PyProof.Rows L2
/-- [c for a in e for b in a for c in b]: e a tuple of tuples of tuples -/
def tFlat (K : PySem.W.Frag) (te : TE) : TE := fun σ H Q => te σ H fun v H1 => ∃ t rows xs, v = .ref t ∧ SqT K H1 t rows ∧ FlatR K H1 rows xs ∧ xs.length ≤ 1000000 ∧
  ∀ D, H1 D = none → Q (.ref D) (upd H1 D (.lst xs))
section
variable {X : Cx} {n1 n2 n3 : Str} {iter : Expr} {scope : Scope} {q1 q2 q3 a1 a2 a3 pos : Pos} {k1 k2 k3 : Nat} {own : List (Str × Nat)} {te : TE}
theorem pe_flat (hc : X.calm = true) (hN : X.N.Nodup) (hi : PE X iter te) (ok : BlkOk X.N X.env.scope scope own)
    (h1 : X.N[k1]? = some n1) (h2 : X.N[k2]? = some n2) (h3 : X.N[k3]? = some n3)
    (l1 : ∀ (C : Addr) (cl : List (Str × Addr)), (compEnvC scope cl C X.env).scope.names.lookup n1 = some .local)
    (l2 : ∀ (C : Addr) (cl : List (Str × Addr)), (compEnvC scope cl C X.env).scope.names.lookup n2 = some .local)
    (l3 : ∀ (C : Addr) (cl : List (Str × Addr)), (compEnvC scope cl C X.env).scope.names.lookup n3 = some .local)
    (dd : ((n1 == ("__debug__" : Str)) || (n2 == ("__debug__" : Str)) || (n3 == ("__debug__" : Str)) || (n1 == ("__classdict__" : Str)) || (n2 == ("__classdict__" : Str)) || (n3 == ("__classdict__" : Str))) = false := by decide)
    (hs : ∀ x, foldedSetIterable iter X.env x = pure x := by intro _; rfl) :
    PE X (flatE n1 n2 n3 iter scope q1 q2 q3 a1 a2 a3 pos) (tFlat X.K te) := by
  simp only [Bool.or_eq_false_iff] at dd
  obtain ⟨⟨⟨⟨⟨d1, d2⟩, d3⟩, c1⟩, c2⟩, c3⟩ := dd
  constructor
  intro pins s σ H Q I h
  rw [eval_ListComp]
  have hfree : ∀ y ∈ scope.names, y.2 = .free → ∃ c, X.env.cells.lookup y.1 = some c := by
    intro y hy e
    cases ok.free y hy e with
    | inl k => exact I.ok.has _ (.inl k)
    | inr k => exact I.ok.has _ (.inr k)
  refine wpAny_comprehension_free (use := none) rfl hs (closure_ok hfree) ok.kind (fun y hy e => by rw [ok.uniq y hy, e]) (thn (hi.run pins s σ H _ I h) ?_)
  rintro xv s1 ⟨v, H1, I1, r1, t, rows, xs, rfl, hq, hf, hz, q⟩
  obtain rfl : xv = Value.ref t := r1
  obtain ⟨its, rv, p, hzz⟩ := I1.tuple hq
  refine wpAny_pyIter_tuple (show s1.heap.IsTuple t its.toArray from p) ?_
  generalize hs2 : ({ s1 with heap := s1.heap.push { cls := .type "tuple_iterator", data := .fields #[.ref t, .int 0 0] } } : Shared) = s2
  have I2 : Inv X pins σ H1 s2 := by
    rw [← hs2]
    exact I1.kept (t' := s1.toks) fun b o e => Heap.get?_push_of_some _ e
  generalize hit : s1.heap.objs.size = it
  have st2 : s2.heap.IsTupleIter it t 0 := by
    rw [← hs2, ← hit]
    exact ⟨_, Heap.get?_push_size _ rfl, rfl, rfl⟩
  have nn2 : H1 it = none := I1.hok.fresh (Nat.le_of_eq hit)
  have lt2 : it < s2.heap.objs.size := by
    obtain ⟨_, e, _⟩ := st2
    exact Heap.lt_size e
  have f2 : ∀ H', H' it = none → FpOk X pins H' it := fun H' hn => I1.fpOk (Nat.le_of_eq hit) hn
  refine wpAny_newObj_type (newEnv_comp ?_) (by show 0 ≤ sizeLine; decide)
  generalize hD : s2.heap.objs.size = D
  have hDn : H1 D = none := I2.hok.fresh (Nat.le_of_eq hD)
  generalize hs3 : ({ s2 with heap := s2.heap.push { cls := .type "list", data := .seq ([] : List Value).toArray } } : Shared) = s3
  have I3 : Inv X pins σ (upd H1 D (.lst [])) s3 := by
    rw [← hs3]
    refine I2.laid (t' := s2.toks) (fun b o e => Heap.get?_push_of_some _ e) (Nat.le_of_eq hD) ⟨Nat.zero_le _, [], 0, .nil, ?_⟩
    rw [← hD]
    exact Heap.get?_push_size _ rfl
  have k3' : ∀ b o, s2.heap.get? b = some o → s3.heap.get? b = some o := by
    intro b o e
    rw [← hs3]
    exact Heap.get?_push_of_some _ e
  have st3 : s3.heap.IsTupleIter it t 0 := st2.at fun o e => k3' it o e
  have lt3 : it < s3.heap.objs.size := by
    obtain ⟨_, e, _⟩ := st3
    exact Heap.lt_size e
  have nit : (upd H1 D (.lst [])) it = none := by
    rw [upd_ne (by rw [← hD]; exact Nat.ne_of_lt lt2)]
    exact nn2
  have I4 := block_start (fp := [it]) I3 ok hN (by
    intro b hb
    rw [List.mem_singleton.mp hb]
    exact ⟨f2 _ nit, lt3⟩)
  show codeAny _ _ (.compStart (flatE n1 n2 n3 iter scope q1 q2 q3 a1 a2 a3 pos) 0 (.ref it) (.ref D) (compEnvC scope (cellsFrom (s3.heap.objs.size + 1) scope.names (cloFrom X.env.cells scope.names [])) s3.heap.objs.size X.env))
    (compPost (model X.prog X.w) X.A X.xe none (EP X pins σ Q) (.ref D) s3.heap.objs.size) { s3 with heap := pushCells (s3.heap.push { cls := .type "dict", data := .dict #[] }) scope.names }
  have hl1 := l1 s3.heap.objs.size (cellsFrom (s3.heap.objs.size + 1) scope.names (cloFrom X.env.cells scope.names []))
  have hl2 := l2 s3.heap.objs.size (cellsFrom (s3.heap.objs.size + 1) scope.names (cloFrom X.env.cells scope.names []))
  have hl3 := l3 s3.heap.objs.size (cellsFrom (s3.heap.objs.size + 1) scope.names (cloFrom X.env.cells scope.names []))
  have cL : (compEnvC scope (cellsFrom (s3.heap.objs.size + 1) scope.names (cloFrom X.env.cells scope.names [])) s3.heap.objs.size X.env).locals = s3.heap.objs.size := rfl
  generalize compEnvC scope (cellsFrom (s3.heap.objs.size + 1) scope.names (cloFrom X.env.cells scope.names [])) s3.heap.objs.size X.env = ce at I4 hl1 hl2 hl3 cL ⊢
  have st4 : (pushCells (s3.heap.push { cls := .type "dict", data := .dict #[] }) scope.names).IsTupleIter it t 0 :=
    st3.at fun o e => pushCells_keeps _ _ _ _ (Heap.get?_push_of_some _ e)
  generalize hs4 : ({ s3 with heap := pushCells (s3.heap.push { cls := .type "dict", data := .dict #[] }) scope.names } : Shared) = s4 at I4 ⊢
  have st4' : s4.heap.IsTupleIter it t 0 := by rw [← hs4]; exact st4
  have B : FlatN (X.blk s3 (upd H1 D (.lst [])) scope ce [it]) n1 n2 n3 k1 k2 k3 := ⟨rfl, hc, hN, h1, h2, h3, hl1, hl2, hl3, d1, d2, d3, c1, c2, c3⟩
  have fpZ : ∀ H', H' it = none → FpOk (X.blk s3 (upd H1 D (.lst [])) scope ce [it]) [] H' it := by
    intro H' hn
    refine ⟨hn, (I4.ok.exf it (List.mem_singleton.mpr rfl)).1, I4.ok.exfs it (List.mem_singleton.mpr rfl), .inl (List.mem_singleton.mpr rfl), (I4.ok.exf it (List.mem_singleton.mpr rfl)).2, ?_⟩
    intro p hp
    have hp' : p ∈ ([] : List (Addr × Obj)) ++ [] := hp
    exact nomatch hp'
  have loop : codeAny (model X.prog X.w) X.A (.compLoop (flatE n1 n2 n3 iter scope q1 q2 q3 a1 a2 a3 pos) 0 (.ref it) (.ref D) ce)
      (compPost (model X.prog X.w) X.A X.xe none (EP X pins σ Q) (.ref D) s3.heap.objs.size) s4 := by
    refine flat_out B hDn hq hf hz I4 st4' nit fpZ ?_
    intro s' σ' I5
    have I6 : Inv X pins σ (upd H1 D (.lst xs)) s' := by
      refine I3.call' (ch := [it]) I5.os I5.base I5.hok I5.bare ?_
      intro b hb
      rw [List.mem_singleton.mp hb]
      obtain ⟨_, g1, g2, g3, g4, g5⟩ := f2 _ nit
      exact ⟨g3, g1, g4, g5⟩
    have nC : (upd H1 D (.lst xs)) s3.heap.objs.size = none := by
      have z : (upd H1 D (.lst xs)) ce.locals = none := I5.free
      rw [cL] at z
      exact z
    obtain ⟨m, hn, _⟩ := I5.loc
    have hn' : s'.heap.Ns ce.locals m := hn
    rw [cL] at hn'
    refine ⟨m, hn', ?_⟩
    intro h'' sb
    obtain ⟨f0, f1, f2', f3, f4, f5⟩ := I3.fpOk (Nat.le_refl _) nC
    exact ⟨.ref D, _, I6.turned (t' := s'.toks) (fun b o hb e => (sb.2 b hb).trans e) f0 f1 f3 f4 f5, rfl, q D hDn⟩
  exact codeAny_compStart_list loop (wpAny_pyIter_tupleiter st4' loop)
end
end Sg

set_option Elab.async false
set_option linter.all false
set_option maxRecDepth 100000
set_option maxHeartbeats 4000000
namespace Sg
open PySem PySem.Spec PyProof.Rows L2
/-! ## max with a default -/
section
variable {X : Cx}
theorem cr_maxD (hc : X.calm = true) {j : Nat} (hr : Room j X.A) : CallRK X (.builtin "max") ["default"] (fun vs zs H Q => ∃ (a : Addr) (ns : List Int) (d : Int), vs = [.ref a] ∧ zs = [.int d] ∧ SqL X.K H a (ns.map V.int) ∧
    ∀ m : Int, (ns = [] → m = d) → (ns ≠ [] → m ∈ ns ∧ ∀ x ∈ ns, x ≤ m) → Q (.int m) H) := by
  intro pins s σ H xs zs us ws Q I r rz h
  obtain ⟨a, ns, d, rfl, rfl, hs, q⟩ := h
  obtain ⟨u, rfl, rfl⟩ := vals1 r
  obtain ⟨dv, rfl, td, rfl⟩ := vals1 rz
  obtain ⟨its, rv, hl, hzz⟩ := I.list hs
  have dp : DpAll X.K H (ns.map V.int) (ns.map PyData.int) := by
    clear hs q rv hl hzz
    induction ns with
    | nil => exact .nil
    | cons x r ih => exact .cons (.int x) ih
  obtain ⟨as, rd⟩ := Dp.readsAll I (ns.map PyData.int) _ its dp rv
  have al : PySem.W.AlikeAll (ns.map PyData.int) := by
    constructor
    · intro x hx y hy
      obtain ⟨i, _, rfl⟩ := List.mem_map.mp hx
      obtain ⟨j, _, rfl⟩ := List.mem_map.mp hy
      rfl
    · intro x hx z
      obtain ⟨i, _, rfl⟩ := List.mem_map.mp hx
      exact nomatch z
  have dep : PyData.depthAll (ns.map PyData.int) = 0 := by
    clear hs q rv hl rd al dp hzz
    induction ns with
    | nil => rfl
    | cons x r ih =>
      show max (PyData.depth (.int x)) (PyData.depthAll (r.map PyData.int)) = 0
      rw [ih]; rfl
  have hu := hr.units
  refine PySem.W.max_list_default (I.ok.hd hc) hl.isList (by simpa using rd) al (by rw [dep]; omega) (fun e h' tk hk => ?_) (fun y ys i v h' tk bs e hv hrd hk => ?_)
  · exact ⟨.int d, H, I.kept hk, ⟨_, rfl⟩, q d (fun _ => rfl) (fun z => absurd (List.map_eq_nil_iff.mp e) z)⟩
  · cases ns with
    | nil => exact nomatch e
    | cons n ns' =>
      obtain ⟨e1, e2⟩ := List.cons.inj e
      subst e1 e2
      rw [PySem.W.maxD_ints] at hrd
      cases hrd
      refine ⟨.int _, H, I.kept hk, ⟨_, rfl⟩, q _ (fun z => nomatch z) (fun _ => ?_)⟩
      have key : ∀ (l : List Int) (a : Int), (l.foldl max a = a ∨ l.foldl max a ∈ l) ∧ a ≤ l.foldl max a ∧ ∀ x ∈ l, x ≤ l.foldl max a := by
        intro l
        induction l with
        | nil => intro a; exact ⟨.inl rfl, Int.le_refl _, fun x hx => nomatch hx⟩
        | cons b l ih =>
          intro a
          obtain ⟨g1, g2, g3⟩ := ih (max a b)
          refine ⟨?_, by show a ≤ l.foldl max (max a b); omega, fun x hx => ?_⟩
          · show l.foldl max (max a b) = a ∨ l.foldl max (max a b) ∈ b :: l
            rcases g1 with g | g
            · rcases Int.le_total a b with z | z
              · right; rw [g, Int.max_eq_right z]; exact List.mem_cons_self
              · left; rw [g, Int.max_eq_left z]
            · exact .inr (List.mem_cons_of_mem _ g)
          · show x ≤ l.foldl max (max a b)
            rcases List.mem_cons.mp hx with rfl | z
            · omega
            · exact g3 x z
      obtain ⟨g1, g2, g3⟩ := key ns' n
      refine ⟨?_, fun x hx => ?_⟩
      · rcases g1 with g | g
        · rw [g]; exact List.mem_cons_self
        · exact List.mem_cons_of_mem _ g
      · rcases List.mem_cons.mp hx with rfl | z
        · exact g2
        · exact g3 x z
end
/-! ## operators of one's own -/
section
variable {X : Cx} {k : Nat} {C g : Addr} {fd : FuncData} {ps : List Str} {sp : Sp}
theorem back_of {pins : List (Addr × Obj)} {σ : L2.St} {Q : VK} {u : Value} {s : Shared} (h : EP X pins σ Q u s) : PySem.W.CmpBack (EP X pins σ Q) u s := by
  obtain ⟨v, H, I, r, q⟩ := id h
  cases v with
  | non => cases r; exact h
  | bl b => cases r; exact h
  | int i => obtain ⟨t, rfl⟩ := r; exact h
  | str i => obtain ⟨t, rfl⟩ := r; exact h
  | byt i => obtain ⟨t, rfl⟩ := r; exact h
  | flt i => obtain ⟨t, rfl⟩ := r; exact h
  | ref a => cases r; exact h
  | ty n => cases r; exact h
/-- an instance of C -/
def InsAt (H : Hp) (C a : Addr) : Prop := ∃ dx fs, H a = some (.ins C dx fs)
theorem insAt_look {pins : List (Addr × Obj)} {σ : L2.St} {H : Hp} {s : Shared} {a : Addr} (I : Inv X pins σ H s) (h : InsAt H C a) : ∃ ox od, PySem.W.InstAt s.heap a ox C od := by
  obtain ⟨dx, fs, h⟩ := h
  obtain ⟨mA, O, _⟩ := ins_get I.hok h
  obtain ⟨od, J, _⟩ := O.look
  exact ⟨_, _, J⟩
/-- a + b and its like, both instances of C -/
theorem op_own {op : Operator} (F : FnOk X.prog X.w X.K X.mg X.base CX0 k g fd ps sp) (hr : Room k X.A) (hb : Binds X.K fd ps []) (hs : PySem.W.findIn X.K (.ref C) (PySem.dunder op.info.2) = some (some (.ref g)))
    (hf : PySem.W.isFn X.K (.ref g) = true) (hc : PySem.W.selfFirst X.K C = true) :
    OpR X (binaryOp op) (fun x y H Q => ∃ a b, x = .ref a ∧ y = .ref b ∧ InsAt H C a ∧ InsAt H C b ∧ sp [.ref a, .ref b] H Q E0) := by
  intro pins s σ H x y v u Q I rx ry h
  obtain ⟨a, b, rfl, rfl, ha, hb', h⟩ := h
  obtain rfl : v = Value.ref a := rx
  obtain rfl : u = Value.ref b := ry
  obtain ⟨m, hF⟩ := I.fr
  obtain ⟨_, _, J⟩ := insAt_look I ha
  obtain ⟨_, _, J'⟩ := insAt_look I hb'
  refine PySem.W.binop_K hF I.ok.mod.kin J J'.type hc hs hf ?_
  exact thn (run_fn (us := [.ref a, .ref b]) (vs := [.ref a, .ref b]) F hr hb .nil pass0 I (.cons rfl (.cons rfl .nil)) h) fun _ _ z => back_of z
/-- a - n, n a whole number -/
theorem op_ownI {op : Operator} {fo ro rc : Option Value} (F : FnOk X.prog X.w X.K X.mg X.base CX0 k g fd ps sp) (hr : Room k X.A) (hb : Binds X.K fd ps []) (hs : PySem.W.findIn X.K (.ref C) (PySem.dunder op.info.2) = some (some (.ref g)))
    (hf : PySem.W.isFn X.K (.ref g) = true) (hc : PySem.W.selfFirst X.K C = true) (hrr : PySem.W.findIn X.K (.ref C) (dunderR op.info.2) = some rc) (hp : rc = none ∨ ∃ g : Addr, rc = some (.ref g))
    (h1 : PySem.W.findIn X.K (.type "int") (PySem.dunder op.info.2) = some fo) (h2 : PySem.W.findIn X.K (.type "int") (dunderR op.info.2) = some ro) (hsub : PySem.W.subIn X.K (.type "int") (.ref C) = some false) :
    OpR X (binaryOp op) (fun x y H Q => ∃ a i, x = .ref a ∧ y = .int i ∧ InsAt H C a ∧ sp [.ref a, .int i] H Q E0) := by
  intro pins s σ H x y v u Q I rx ry h
  obtain ⟨a, i, rfl, rfl, ha, h⟩ := h
  obtain rfl : v = Value.ref a := rx
  obtain ⟨t, rfl⟩ := ry
  obtain ⟨m, hF⟩ := I.fr
  obtain ⟨_, _, J⟩ := insAt_look I ha
  refine PySem.W.ksp_binT (T := "int") hF I.ok.mod.kin J rfl hc hs hf hrr hp h1 h2 hsub ?_
  exact thn (run_fn (us := [.ref a, .int i t]) (vs := [.ref a, .int i]) F hr hb .nil pass0 I (.cons rfl (.cons ⟨t, rfl⟩ .nil)) h) fun _ _ z => back_of z
/-- -a -/
theorem un_own (F : FnOk X.prog X.w X.K X.mg X.base CX0 k g fd ps sp) (hr : Room k X.A) (hb : Binds X.K fd ps []) (hs : PySem.W.findIn X.K (.ref C) "__neg__" = some (some (.ref g))) (hf : PySem.W.isFn X.K (.ref g) = true) :
    UnR X (unaryOp .USub) (fun x H Q => ∃ a, x = .ref a ∧ InsAt H C a ∧ sp [.ref a] H Q E0) := by
  intro pins s σ H x v Q I rx h
  obtain ⟨a, rfl, ha, h⟩ := h
  obtain rfl : v = Value.ref a := rx
  obtain ⟨m, hF⟩ := I.fr
  obtain ⟨_, _, J⟩ := insAt_look I ha
  exact PySem.W.ksp_neg hF I.ok.mod.kin J hs hf (run_fn (us := [.ref a]) (vs := [.ref a]) F hr hb .nil pass0 I (.cons rfl .nil) h)
/-- a == b, both instances of C -/
theorem op_ownEq (F : FnOk X.prog X.w X.K X.mg X.base CX0 k g fd ps sp) (hr : Room k X.A) (hb : Binds X.K fd ps []) (hs : PySem.W.findIn X.K (.ref C) "__eq__" = some (some (.ref g))) (hf : PySem.W.isFn X.K (.ref g) = true) :
    OpR X (compareOp .Eq) (fun x y H Q => ∃ a b, x = .ref a ∧ y = .ref b ∧ InsAt H C a ∧ InsAt H C b ∧ sp [.ref a, .ref b] H Q E0) := by
  intro pins s σ H x y v u Q I rx ry h
  obtain ⟨a, b, rfl, rfl, ha, hb', h⟩ := h
  obtain rfl : v = Value.ref a := rx
  obtain rfl : u = Value.ref b := ry
  obtain ⟨m, hF⟩ := I.fr
  obtain ⟨_, _, J⟩ := insAt_look I ha
  obtain ⟨_, _, J'⟩ := insAt_look I hb'
  show wpAny (model X.prog X.w) X.A (richCompare .Eq (.ref a) (.ref b)) (EP X pins σ Q) X.xe s
  refine PySem.W.cmp_K (op := .Eq) (tb := .ref C) hr.units0 hF I.ok.mod.kin J J'.type (by simp [PySem.W.notFirst]) hs hf ?_
  exact thn (run_fn (us := [.ref a, .ref b]) (vs := [.ref a, .ref b]) F hr hb .nil pass0 I (.cons rfl (.cons rfl .nil)) h) fun _ _ z => back_of z
/-- a def called one C frame further in -/
theorem run_in1 {pins : List (Addr × Obj)} {σ : L2.St} {H : Hp} {s : Shared} {Q : VK} {us : List Value} {vs : List V} (F : FnOk X.prog X.w X.K X.mg X.base CX0 k g fd ps sp) (hr : Room (k + 1) X.A) (hb : Binds X.K fd ps [])
    (I : Inv X pins σ H s) (r : Vals vs us) (h : sp vs H Q E0) {E : Value → Shared → Prop} : wpAny (model X.prog X.w) X.A.in1 (call (.ref g) us) (EP X pins σ Q) E s := by
  have hl : (us ++ []).length = ps.length := by rw [List.append_nil, ← r.length]; exact F.len _ _ _ _ h
  have hbb := hb s us I.kIn hl
  rw [List.append_nil] at hbb
  refine wpAny_call (codeAny_mono (F.run X.A.in1 X.stack s H ⟨us, []⟩ us vs Q E0 hr.in1 I.env0.in1 hbb r h) ?_)
  intro r' s' hq
  match r', hq with
  | .error _, hq => exact hq.elim
  | .ok (.ret _), hq => exact I.after hq
  | .ok .next, hq => exact hq.elim
  | .ok .brk, hq => exact hq.elim
  | .ok .cont, hq => exact hq.elim
/-- len(a) -/
theorem call_lenO (F : FnOk X.prog X.w X.K X.mg X.base CX0 k g fd ps sp) (hr : Room (k + 1) X.A) (hb : Binds X.K fd ps []) (hs : PySem.W.findIn X.K (.ref C) "__len__" = some (some (.ref g))) (hf : PySem.W.isFn X.K (.ref g) = true) :
    CallR X (.builtin "len") (fun xs H Q => ∃ a, xs = [.ref a] ∧ InsAt H C a ∧ sp [.ref a] H (fun v H' => ∃ n : Nat, v = .int n ∧ n < 1000000 ∧ Q (.int n) H') E0) := by
  intro pins s σ H xs us Q I r h
  obtain ⟨a, rfl, ha, h⟩ := h
  obtain ⟨u, rfl, rfl⟩ := vals1 r
  obtain ⟨m, hF⟩ := I.fr
  obtain ⟨_, _, J⟩ := insAt_look I ha
  refine PySem.W.len_K hF I.ok.mod.kin J hs hf (thn (run_in1 (us := [.ref a]) (vs := [.ref a]) F hr hb I (.cons rfl .nil) h) ?_)
  rintro v s' ⟨x, H', I', rx, n, rfl, hn, q⟩
  obtain ⟨t, rfl⟩ := rx
  exact ⟨⟨by omega, by omega⟩, ⟨.int n, H', I'.tok _, ⟨_, rfl⟩, q⟩⟩
/-- a[i] -/
theorem ix_own (F : FnOk X.prog X.w X.K X.mg X.base CX0 k g fd ps sp) (hr : Room k X.A) (hb : Binds X.K fd ps []) (hs : PySem.W.findIn X.K (.ref C) "__getitem__" = some (some (.ref g))) (hf : PySem.W.isFn X.K (.ref g) = true) (hq : PySem.W.noSeq X.K C = true) :
    ∀ (pins : List (Addr × Obj)) (s : Shared) (σ : L2.St) (H : Hp) (a : Addr) (y : V) (u : Value) (Q : VK), Inv X pins σ H s → RelV y u → InsAt H C a → sp [.ref a, y] H Q E0 →
      wpAny (model X.prog X.w) X.A (getItem (.ref a) u) (EP X pins σ Q) X.xe s := by
  intro pins s σ H a y u Q I ry ha h
  obtain ⟨m, hF⟩ := I.fr
  obtain ⟨_, _, J⟩ := insAt_look I ha
  exact PySem.W.getItem_K hF I.ok.mod.kin J hq hs hf (run_fn (us := [.ref a, u]) (vs := [.ref a, y]) F hr hb .nil pass0 I (.cons rfl (.cons ry .nil)) h)
/-- the same as an FnR -/
theorem fnR_of {P : Program} {w : World} {K : PySem.W.Frag} {mg : Str → Option Value} {base : Heap} (F : FnOk P w K mg base CX0 k g fd ps sp) (hb : Binds K fd ps []) : FnR P w K mg base CX0 k g sp := by
  intro A outer s H us vs Q E hr e0 r h
  have hl : (us ++ []).length = ps.length := by rw [List.append_nil, ← r.length]; exact F.len _ _ _ _ h
  have KX : K.In s.heap := e0.mod.kin.keeps fun b o e => (e0.bs b o e).1
  have hbb := hb s us KX hl
  rw [List.append_nil] at hbb
  exact F.run A outer s H ⟨us, []⟩ us vs Q E hr e0 hbb r h
end
end Sg

set_option Elab.async false
set_option linter.all false
set_option maxRecDepth 100000
set_option maxHeartbeats 4000000
namespace Sg
open PySem PySem.Spec PyProof.Rows L2
/-! ## != by an own __eq__ -/
theorem slot_object_ne : Slot "object" "__ne__" "object.__ne__" :=
  Slot.of (T := "object") (name := "__ne__") (owner := "object") (n := "__ne__") (by rw [typeLookup_type, builtinLookup_eq_fast]; kernel_rfl)
    (by decide +kernel) (by decide +kernel) (by decide +kernel) (.inl (by decide +kernel)) (by rw [isSubtype_type]; kernel_rfl)
section
variable {X : Cx} {k : Nat} {C g : Addr} {fd : FuncData} {ps : List Str} {sp : Sp}
theorem op_ownNe (F : FnOk X.prog X.w X.K X.mg X.base CX0 k g fd ps sp) (hr : Room (k + 2) X.A) (hb : Binds X.K fd ps []) (hs : PySem.W.findIn X.K (.ref C) "__eq__" = some (some (.ref g))) (hf : PySem.W.isFn X.K (.ref g) = true)
    (hne : PySem.W.findIn X.K (.ref C) "__ne__" = some (some (.builtin "object.__ne__"))) (hsub : PySem.W.subIn X.K (.ref C) (.type "object") = some true) :
    OpR X (compareOp .NotEq) (fun x y H Q => ∃ a b, x = .ref a ∧ y = .ref b ∧ InsAt H C a ∧ InsAt H C b ∧ sp [.ref a, .ref b] H (fun v H' => ∃ c, v = .bl c ∧ Q (.bl (!c)) H') E0) := by
  intro pins s σ H x y v u Q I rx ry h
  obtain ⟨a, b, rfl, rfl, ha, hb', h⟩ := h
  obtain rfl : v = Value.ref a := rx
  obtain rfl : u = Value.ref b := ry
  obtain ⟨_, _, J⟩ := insAt_look I ha
  obtain ⟨_, _, J'⟩ := insAt_look I hb'
  have hcall := run_in1 (us := [.ref a, .ref b]) (vs := [.ref a, .ref b]) (E := X.xe) F (hr.mono (by omega)) hb I (.cons rfl (.cons rfl .nil)) h
  have inner : wpAny (model X.prog X.w) X.A.in1 (Builtin.«object.__ne__» ⟨[.ref a, .ref b], []⟩) (fun fin s' => ∃ r, fin = .done (.ret (.bool r)) ∧ EP X pins σ Q (.bool r) s') X.xe s := by
    unfold Builtin.«object.__ne__»
    refine wpAny_bind (m := slotArgs "__ne__" 1 ⟨[.ref a, .ref b], []⟩) (wpAny_of_eq (a := (Value.ref a, [Value.ref b])) (by first | rfl | (simp only [slotArgs]; rfl)) ?_)
    refine wpAny_bind (wpAny_cRoomFor (show X.A.in1.units < cLine from (hr.mono (show k + 1 ≤ k + 2 by omega)).in1.units0) ?_)
    refine wpAny_bind (m := callSpecialIfBound? (.ref a) (Str.ofString "__eq__") [.ref b]) (PySem.W.ifBound_K I.kIn J hs hf (thn hcall ?_))
    rintro w' s' ⟨z, H', I', rz, c, rfl, q⟩
    obtain rfl : w' = Value.bool c := rz
    refine wpAny_bind (wpAny_truthy_bool ?_)
    exact wpAny_pure ⟨!c, rfl, .bl (!c), H', I', rfl, q⟩
  have isI : PySem.W.Looks (model X.prog X.w) s.heap (isInstance (.ref a) (.type "object")) true := J.type.andThen (PySem.W.looks_subIn I.kIn hsub)
  have one : wpAny (model X.prog X.w) X.A (tryCompare (.ref a) "__ne__" (.ref b)) (fun r s' => ∃ c, r = some (.bool c) ∧ EP X pins σ Q (.bool c) s') X.xe s := by
    unfold tryCompare
    have call1 : wpAny (model X.prog X.w) X.A (call (.builtin "object.__ne__") [.ref a, .ref b]) (fun r s' => ∃ c, r = .bool c ∧ EP X pins σ Q (.bool c) s') X.xe s := by
      refine wpAny_call (codeAny_call_builtin slot_object_ne.plain PySem.F.cmpEntry_ne ?_)
      refine PySem.W.check_slot PySem.F.cmpKind_ne PySem.F.cmpSplit_ne isI (PySem.F.cmpArgs_ne _ _) (thn inner ?_)
      rintro fin s' ⟨r, rfl, q⟩
      exact ⟨r, rfl, q⟩
    have call2 : wpAny (model X.prog X.w) X.A (callSpecialIfBound? (.ref a) "__ne__" [.ref b]) (fun r s' => ∃ c, r = some (.bool c) ∧ EP X pins σ Q (.bool c) s') X.xe s := by
      simp only [callSpecialIfBound?, bindSpecialIfBound?]
      refine wpAny_holding (wpAny_bind (wpAny_bind (wpAny_bind (J.type.here ((PySem.W.looks_findIn I.kIn hne).here ?_)))))
      refine wpAny_bind (wpAny_askSetting (wpAny_ite ?_))
      have fin : wpAny (model X.prog X.w) X.A (call (.builtin "object.__ne__") ([.ref a] ++ [.ref b]) >>= fun v => pure (some v)) (fun r s' => ∃ c, r = some (.bool c) ∧ EP X pins σ Q (.bool c) s') X.xe s := by
        refine wpAny_bind (thn call1 ?_)
        rintro r s' ⟨c, rfl, q⟩
        exact wpAny_pure ⟨c, rfl, q⟩
      have bind : (bindSpecial (.builtin "object.__ne__") (.ref a) : Sem _) = pure (.builtin "object.__ne__", [.ref a]) := slot_object_ne.bind (.ref a)
      split
      · rw [bind]; exact wpAny_bind (wpAny_pure (wpAny_pure (by exact fin)))
      · rw [bind]; exact wpAny_tryCatch (wpAny_bind (wpAny_pure (wpAny_pure (by exact fin))))
    refine wpAny_bind (thn call2 ?_)
    rintro r s' ⟨c, rfl, q⟩
    exact wpAny_pure ⟨c, rfl, q⟩
  show wpAny (model X.prog X.w) X.A (richCompare .NotEq (.ref a) (.ref b)) (EP X pins σ Q) X.xe s
  unfold richCompare
  simp only [oneThing_ref]
  refine wpAny_holding (wpAny_bind (wpAny_cRoomFor hr.units0 ?_))
  refine wpAny_bind (J.type.here (wpAny_bind (J'.type.here ?_)))
  rw [show (Value.ref C != Value.ref C) = false from by simp]
  simp only [Bool.false_eq_true, if_false]
  refine wpAny_bind (wpAny_pure ?_)
  simp only [Bool.false_eq_true, if_false]
  refine wpAny_bind (thn one ?_)
  rintro r s' ⟨c, rfl, q⟩
  exact wpAny_pure q
end
end Sg

set_option Elab.async false
set_option linter.all false
set_option maxRecDepth 100000
set_option maxHeartbeats 4000000
namespace Sg
open PySem PySem.Spec PyProof.Rows L2 HT
/-! ## t[::-1] of a tuple -/
section
variable {prog : Program} {w : World} {A : Around} {E : Value → Shared → Prop} {s : Shared}
theorem slicePlaces_rev (n : Nat) : Builtin.Slice.slicePlaces ((n : Int) - 1) (-1) (-1) = n := by
  unfold Builtin.Slice.slicePlaces
  have h1 : ¬ ((-1 : Int) > 0) := by omega
  simp only [h1, if_false, Int.neg_neg, Int.ediv_one]
  split <;> omega
theorem sliceApplied_rev {sl : Addr} {vl vu vs : Value} {n : Nat} {Q : Int × Int × Nat → Shared → Prop} (hs : s.heap.IsSliceOf sl vl vu vs) (pl : IsPart vl none) (pu : IsPart vu none) (ps : IsPart vs (some (-1)))
    (h : Q ((n : Int) - 1, -1, n) s) : wpAny (model prog w) A (Builtin.Slice.sliceApplied (.ref sl) (pure (n : Int))) Q E s := by
  obtain ⟨os, hos, hcs, hds⟩ := id hs
  unfold Builtin.Slice.sliceApplied Builtin.Slice.sliceFields
  refine wpAny_bind (wpAny_bind (wpAny_field hos hds (x := vl) rfl (wpAny_bind (wpAny_field hos hds (x := vu) rfl (wpAny_bind (wpAny_field hos hds (x := vs) rfl (wpAny_pure ?_)))))))
  refine wpAny_bind (slicePart_ ps ?_)
  show wpAny _ _ (if ((-1 : Int) == 0) = true then _ else _) _ _ s
  rw [if_neg (by decide)]
  refine wpAny_bind (slicePart_ pl (wpAny_bind (slicePart_ pu (wpAny_bind (wpAny_pure ?_)))))
  show wpAny _ _ (pure ((n : Int) - 1, (-1 : Int), Builtin.Slice.slicePlaces ((n : Int) - 1) (-1) (-1))) _ _ s
  rw [slicePlaces_rev]
  exact wpAny_pure h
theorem filterMap_on {α β : Type} {f g : α → Option β} : ∀ {l : List α}, (∀ x ∈ l, f x = g x) → l.filterMap f = l.filterMap g
  | [], _ => rfl
  | x :: r, h => by
    rw [List.filterMap_cons, List.filterMap_cons, h x List.mem_cons_self, filterMap_on fun y hy => h y (List.mem_cons_of_mem _ hy)]
theorem pick_rev (xs : Array Value) : ((List.range xs.size).filterMap fun (m : Nat) => xs[(((xs.size : Int) - 1) + (m : Int) * (-1)).toNat]?).toArray = xs.toList.reverse.toArray := by
  have e1 : ∀ m ∈ List.range xs.size, xs[(((xs.size : Int) - 1) + (m : Int) * (-1)).toNat]? = xs[xs.size - 1 - m]? := by
    intro m hm
    have := List.mem_range.mp hm
    rw [show (((xs.size : Int) - 1) + (m : Int) * (-1)).toNat = xs.size - 1 - m from by omega]
  have e2 : ((List.range xs.size).map fun k => xs.size - 1 - k).filterMap (xs[·]?) = xs.toList.reverse := by
    rw [PySem.W.krv_range, List.filterMap_reverse, PySem.W.krv_all]
  rw [List.filterMap_map] at e2
  rw [← e2]
  congr 1
  exact filterMap_on (fun m hm => e1 m hm)
theorem getItem_tuple_rev {t sl : Addr} {items : Array Value} {vl vu vs : Value} {Q : Value → Shared → Prop} (ht : IsTup s.heap t items) (hs : s.heap.IsSliceOf sl vl vu vs) (pl : IsPart vl none) (pu : IsPart vu none) (ps : IsPart vs (some (-1)))
    (h : Q (.ref s.heap.objs.size) { s with heap := s.heap.push { cls := .type "tuple", data := .seq items.toList.reverse.toArray } })
    (hsz : items.size ≤ sizeLine) : wpAny (model prog w) A (getItem (.ref t) (.ref sl)) Q E s := by
  have htake : sizeOk (.seq items.toList.reverse.toArray) := by
    show items.toList.reverse.toArray.size ≤ sizeLine
    rw [List.size_toArray, List.length_reverse, Array.length_toList]
    exact hsz
  obtain ⟨os, hos, hcs, hds⟩ := id hs
  have hTs : s.TypeIs (.ref sl) "slice" := ⟨os, hos, hcs⟩
  unfold getItem
  try with_reducible refine wpAny_holding ?_
  first | refine wpAny_bind (wpAny_pure ?_) | skip
  refine wpAny_bind (wpAny_sequenceKey ht.typeIs (by decide) ?_)
  refine wpAny_bind (wpAny_callSpecial?_slot (name := Str.ofString "__getitem__") ht.typeIs PyProof.Rows.slot_tuple_getitem
    (wpAny_call_entry PyProof.Rows.slot_tuple_getitem ht.typeIs entry_tuple_getitem ?_ (args_tuple_getitem _ _)))
  show wpAny _ _ (Builtin.Tuple.tupleItemsOf (.ref t) >>= _) _ _ s
  refine wpAny_bind (tupleItemsOf_ ht ?_)
  refine wpAny_bind (wpAny_typeOf hTs ?_)
  rw [if_pos (by decide)]
  refine wpAny_bind (sliceApplied_rev hs pl pu ps ?_)
  have hno : ¬ ((((items.size : Int) - 1) == 0 && (-1 : Int) == 1 && items.size == items.size) = true) := by
    rw [show ((-1 : Int) == 1) = false from by decide, Bool.and_false, Bool.false_and]
    exact Bool.false_ne_true
  show wpAny _ _ (if (((items.size : Int) - 1) == 0 && (-1 : Int) == 1 && items.size == items.size) = true then _ else _) _ _ s
  rw [if_neg hno, pick_rev]
  first
    | exact wpAny_bind (m := Builtin.Tuple.tupleExact _) (wpAny_newObj_type (wpAny_pure ⟨_, rfl, wpAny_pure h⟩) htake)
    | exact wpAny_bind (m := Builtin.Tuple.tupleExact _) (wpAny_newObj_type (wpAny_bind (wpAny_pure (wpAny_pure ⟨_, rfl, wpAny_pure h⟩))) htake)
    | exact wpAny_bind (wpAny_bind (m := Builtin.Tuple.tupleExact _) (wpAny_newObj_type (wpAny_pure (wpAny_pure ⟨_, rfl, wpAny_pure h⟩)) htake))
    | exact wpAny_bind (wpAny_bind (m := Builtin.Tuple.tupleExact _) (wpAny_newObj_type (wpAny_pure ⟨_, rfl, wpAny_pure h⟩) htake))
end
def tRevT (K : PySem.W.Frag) (te : TE) : TE := fun σ H Q => te σ H fun x H1 => ∃ a xs, x = .ref a ∧ SqT K H1 a xs ∧ ∀ p, H1 p = none → Q (.ref p) (upd H1 p (.tup xs.reverse))
theorem pe_revT {X : Cx} {K : PySem.W.Frag} {e : Expr} {te : TE} {k : Nat} {p1 p2 p3 pos : Pos} (hK : X.K = K) (he : PE X e te) : PE X (.Subscript e (.Slice none none (some (.UnaryOp .USub (.Constant (.int 1) k p1) p2)) p3) pos) (tRevT K te) := by
  subst hK
  refine ⟨fun pins s σ H Q I h => ?_⟩
  refine Subscript_ (thn (he.run pins s σ H _ I h) fun v s1 ⟨x, H1, I1, r1, q1⟩ => ?_)
  obtain ⟨a, xs, ex, hx, q⟩ := q1
  subst ex
  cases r1
  have hst : PO X (some (.UnaryOp .USub (.Constant (.int 1) k p1) p2)) (tPart (tUn (rU fun i => .int (-i)) (tC (.int 1)))) := po_some (pe_un un_neg pe_int)
  refine wpAny_Slice (thn (po_none.run pins s1 σ H1 (fun o H2 => o = none ∧ H2 = H1) I1 ⟨rfl, rfl⟩) fun vl s2 ⟨l, H2, I2, pl, el, e2⟩ => ?_)
  subst el e2
  refine thn (po_none.run pins s2 σ H2 (fun o H3 => o = none ∧ H3 = H2) I2 ⟨rfl, rfl⟩) fun vu s3 ⟨u, H3, I3, pu, eu, e3⟩ => ?_
  subst eu e3
  refine thn (hst.run pins s3 σ H3 (fun o H4 => o = some (-1) ∧ H4 = H3) I3 ⟨1, rfl, -1, rfl, rfl, rfl⟩) fun vs s4 ⟨o, H4, I4, ps, eo, e4⟩ => ?_
  subst eo e4
  have I5 : Inv X pins σ H4 { s4 with heap := s4.heap.push { cls := .type "slice", data := .fields #[vl, vu, vs] } } := I4.kept (t' := s4.toks) fun b ob q => Heap.get?_push_of_some _ q
  obtain ⟨its, r, ht, hz⟩ := I5.tuple hx
  have hlen := r.length
  show wpAny (model X.prog X.w) X.A (subscriptTail e (.Slice none none (some (.UnaryOp .USub (.Constant (.int 1) k p1) p2)) p3) (.ref a) (.ref s4.heap.objs.size)) (EP X pins σ Q) X.xe { s4 with heap := s4.heap.push { cls := .type "slice", data := .fields #[vl, vu, vs] } }
  refine tail_any (ops := [.ref a, .ref s4.heap.objs.size]) ht.typeIs PyProof.Rows.slot_tuple_getitem.lookup ?_ (by with_unfolding_all rfl)
  refine getItem_tuple_rev ht (Heap.IsSliceOf.new _ vl vu vs) pl pu ps ?_ (by rw [List.size_toArray]; omega)
  refine ⟨.ref _, _, I5.laid (t' := s4.toks) (o := .tup xs.reverse) (fun b ob q => Heap.get?_push_of_some _ q) (Nat.le_refl _) ?_, rfl, q _ (I5.hok.fresh (Nat.le_refl _))⟩
  exact ⟨by rw [List.length_reverse]; exact hz, _, r.reverse, IsTup.new _ _⟩
end Sg

set_option Elab.async false
set_option linter.all false
set_option maxRecDepth 100000
set_option maxHeartbeats 4000000
namespace Sg
open PySem PySem.Spec PyProof.Rows L2
/-! ## d.setdefault(t, v), t a tuple of ints and texts -/
def rSetdT : V → List V → Hp → VK → Prop := fun x xs H Q => ∃ (a : Addr) (kvs : List (List L2.Key × V)) (k : List L2.Key) (b : Addr) (d : V), x = .ref a ∧ xs = [.ref b, d] ∧ H a = some (.dT kvs) ∧ H b = some (.tup (k.map kV)) ∧ kvs.length < sizeLine ∧
  (∀ v, valV kvs k = some v → Q v H) ∧ (valV kvs k = none → Q d (upd H a (.dT (putK kvs k d))))
theorem mt_setdT {X : Cx} (hu : X.A.units + 1 < cLine) : MtR X "dict.setdefault" rSetdT := by
  intro pins s σ H x xs v us Q I rx rxs h
  obtain ⟨a, kvs, k, b, d, rfl, rfl, ha, hb, hl, q1, q2⟩ := h
  cases rx
  obtain ⟨u1, u2, rfl, r1, r2⟩ := vals2 rxs
  cases r1
  obtain ⟨z, hd, xs', rel, dd⟩ := dt_of I.hok ha
  have hz : xs'.length ≤ sizeLine := by rw [← Paired.length rel]; exact z
  refine call_meetsIn PySem.F.slot_dict_setdefault dd.typeIs PySem.F.entry_dict_setdefault (PySem.F.args_dict_setdefault_3 _ _ _) (meetsH_dict_setdefault (tupleKind (mixKind X.prog X.w)) a b hd u2)
    ⟨tupleKind_room_in1 hu, k, xs', key_of I.hok hb, dd, hz, fun p hp => ?_, fun hn h' dd' hs => ?_⟩
  · have r := rel.val k
    rw [hp] at r
    obtain ⟨v0, ev, rv⟩ : ∃ v0, valV kvs k = some v0 ∧ RelV v0 p.2 := by
      cases ev : valV kvs k with
      | none =>
        rw [ev] at r
        exact (show False from r).elim
      | some v0 =>
        rw [ev] at r
        exact ⟨v0, rfl, r⟩
    exact ⟨v0, H, I.tok _, rv, q1 v0 ev⟩
  · have r := rel.val k
    rw [hn] at r
    have e : valV kvs k = none := by
      cases ev : valV kvs k with
      | none => rfl
      | some v0 =>
        rw [ev] at r
        exact (show False from r).elim
    have hl2 : (putK kvs k d).length ≤ sizeLine := by
      have := length_putK kvs k d
      omega
    obtain ⟨o, es, ep, hq, h2, h3, h4, _, h5⟩ := dd'
    refine ⟨d, _, ?_, r2, q2 e⟩
    exact d_write I (by rw [ha]; exact True.intro) hs ⟨o, hq⟩ ⟨hl2, hd, _, (rel.put k hb r2).keeps (fun c ys ec => (by rw [upd_ne (ne_of ec ha (fun z => nomatch z))]; exact ec)), o, es, ep, hq, h2, h3, h4, h5⟩
end Sg

set_option Elab.async false
set_option linter.all false
set_option maxRecDepth 100000
set_option maxHeartbeats 4000000
namespace Sg
open PySem PySem.Spec PyProof.Rows L2
/-! ## for k, v in d.items(), d with tuples as keys -/
theorem pair_at {α β : Type} {G : α → β → Prop} : ∀ {l : List α} {m : List β}, Paired G l m → ∀ {i : Nat} {x : α}, l[i]? = some x → ∃ y, m[i]? = some y ∧ G x y
  | _, _, .nil, i, x, e => nomatch e
  | _, _, .cons r t, 0, x, e => by
    cases e
    exact ⟨_, rfl, r⟩
  | _, _, .cons r t, i + 1, x, e => pair_at t (i := i) (by simpa using e)
/-- the entries, as new pairs of the key's own tuple and the value -/
def IteT (d : Addr) (ob : Obj) (es : List (List L2.Key × V)) : It where
  go := fun j G => G d = some (.frz ob (.dT es)) ∧ j < es.length
  yld := fun j G x G' => ∃ t r k u, es[j]? = some (k, u) ∧ G r = some (.tup (k.map kV)) ∧ x = .ref t ∧ G t = none ∧ G' = upd G t (.tup [.ref r, u])
  stop := fun j G => G d = some (.frz ob (.dT es)) ∧ es.length ≤ j
section
variable {X : Cx} {pins : List (Addr × Obj)} {σ : L2.St} {H : Hp} {s : Shared} {d : Addr} {ob : Obj}
theorem frz_dT {ks : List (List L2.Key × V)} (I : Inv X pins σ H s) (h : H d = some (.frz ob (.dT ks))) : (d == sysModules) = false ∧ ∃ (es : Array DictEntry) (ep : Nat), DT.Raw s.heap d es ep ∧ ob.data = .dict es ep ∧ es.size = ks.length ∧
    ∀ (i : Nat) (k : List L2.Key) (v : V), ks[i]? = some (k, v) → ∃ (en : DictEntry) (q : Addr), es[i]? = some en ∧ en.key = .ref q ∧ RelV v en.val ∧ H q = some (.tup (k.map kV)) := by
  obtain ⟨g, _, ns, ys, pr, o2, es, ep, g2, hx, hdt, he, _⟩ := I.hok d _ h
  rw [g] at g2
  cases g2
  have l1 : es.size = ys.length := by
    have := congrArg List.length he
    rw [List.length_map, Array.length_toList] at this
    exact this
  have l2 : ks.length = ys.length := Paired.length pr
  refine ⟨ns, es, ep, ⟨ob, g, hx, hdt⟩, hdt, by omega, fun i k v e => ?_⟩
  obtain ⟨b, hb, e1, e2, e3⟩ := pair_at pr e
  have q : es[i]? = some (entryOfKey (tupleKind (mixKind X.prog X.w)) b) := by
    rw [← Array.getElem?_toList, he, List.getElem?_map, hb]
    rfl
  exact ⟨_, b.2.1, q, rfl, e3, e2⟩
end
theorem same_dict {o : Obj} {x y : Array DictEntry} {m n : Nat} (h : o.data = .dict x m) (h' : o.data = .dict y n) : y = x ∧ n = m := by
  rw [h] at h'
  cases h'
  exact ⟨rfl, rfl⟩
section
variable {P : Program} {w : World} {K : PySem.W.Frag} {d : Addr} {o : Obj} {es : Array DictEntry} {ep : Nat}
theorem turn_itemsT {ks : List (List L2.Key × V)} {elts : List Expr} {kk : Nat} {tpos : Pos} (it : Addr) (hod : o.data = .dict es ep) (hsz : es.size = ks.length) :
    Turn P w K (.Tuple elts kk tpos) (IteT d o ks) [it] it (fun i h => ∃ x y, IsItemIter h it d i es.size ep x y) where
  mem := List.mem_singleton.mpr rfl
  obj := by
    rintro i h ⟨x, y, e⟩ b hb
    obtain rfl := List.mem_singleton.mp hb
    exact ⟨_, e, fun v z => nomatch z⟩
  keep := by
    rintro i h h' ⟨x, y, e⟩ k
    exact ⟨x, y, k it (List.mem_singleton.mpr rfl) _ e⟩
  item := by
    intro X e1 e2 e3 hc i pins s σ H E I hf ⟨x, y, st⟩ ⟨hd, hi⟩
    subst e1 e2 e3
    obtain ⟨ns, es2, ep2, raw, hdt, hz, ent⟩ := frz_dT I hd
    obtain ⟨rfl, rfl⟩ := same_dict hod hdt
    obtain ⟨⟨k, v⟩, hkv⟩ : ∃ p, ks[i]? = some p := ⟨ks[i], List.getElem?_eq_getElem hi⟩
    obtain ⟨en, q, g1, g2, g3, g4⟩ := ent i k v hkv
    have hi2 : i < es2.size := by omega
    have g5 : es2[i] = en := by
      rw [Array.getElem?_eq_getElem hi2] at g1
      exact Option.some.inj g1
    have below : it < s.heap.objs.size := Heap.lt_size st
    have apart : s.heap.objs.size ≠ it := Nat.ne_of_gt below
    refine DT.nextI st raw hi2 fun h1 ho hT hz1 hk => ?_
    refine ⟨_, rfl, wpAny_letOwnedTupleGo_items (s := { s with heap := h1 }) ho fun h2 he sb => ?_⟩
    rw [g5] at hT he
    rw [g2] at hT
    have hT2 := (sb.2 s.heap.objs.size apart).trans hT
    have new : ObjOk X.prog X.w (upd H s.heap.objs.size (.tup [.ref q, v])) h2 s.heap.objs.size (.tup [.ref q, v]) :=
      ⟨by show 2 ≤ sizeLine; decide, [.ref q, en.val], .cons rfl (.cons g3 .nil), ⟨_, hT2, rfl, _, rfl⟩⟩
    have only : ∀ {b : Addr}, b ∉ [it] → b ≠ it := fun hb z => hb (List.mem_singleton.mpr z)
    have J := I.turnedNew (t' := s.toks) (ch := [it]) (fun b ob hb e => (sb.2 b (only hb)).trans (hk b ob (only hb) e)) hf (Nat.le_refl _) new
    refine ⟨.ref s.heap.objs.size, _, J, rfl, ⟨_, q, k, v, hkv, g4, rfl, I.hok.fresh (Nat.le_refl _), rfl⟩, ⟨_, _, he⟩, fun b hb => ?_⟩
    obtain rfl := List.mem_singleton.mp hb
    rw [upd_ne apart.symm]
    exact (hf b hb).1
  done := by
    intro X e1 e2 e3 hc i pins s σ H E I hf ⟨x, y, st⟩ ⟨hd, hi⟩
    subst e1 e2 e3
    obtain ⟨f0, f1, f2, f3, f4, f5⟩ := hf it (List.mem_singleton.mpr rfl)
    obtain ⟨ns, es2, ep2, raw, hdt, hz, ent⟩ := frz_dT I hd
    obtain ⟨rfl, rfl⟩ := same_dict hod hdt
    exact DT.endI (I.ok.hd hc) st raw (by omega) fun h1 eb => ⟨rfl, I.turned (t' := s.toks) (fun b ob hb e => eb b ob hb e) f0 f1 f3 f4 f5⟩
  self := by
    rintro A i s Q E ⟨x, y, e⟩ h
    exact PySem.W.kcp_self e h
end
def iItemsT (td : TE) : TI := fun σ H R => td σ H fun x H1 => ∃ d ob ks, x = .ref d ∧ H1 d = some (.frz ob (.dT ks)) ∧ R (IteT d ob ks) H1
theorem pi_itemsT {X : Cx} {e : Expr} {td : TE} {p1 p2 : Pos} {elts : List Expr} {kk : Nat} {tpos : Pos} (he : PE X e td) (hb : attributeBase e "items" X.env (eval e X.env) = eval e X.env := by rfl) (hl : (p1.endLine == p2.line) = true := by rfl) :
    PI X (.Tuple elts kk tpos) (.Call (.Attribute e "items" p1) [] [] p2) (iItemsT td) := by
  refine ⟨fun pins s σ H R I h => ?_⟩
  refine wpAny_Call_method (T := "dict") (id := "dict.items") hb rfl hl PySem.F.plainAttrs_dict PySem.F.slot_dict_items PySem.F.type_dict_items (thn (he.run pins s σ H _ I h) fun u s1 ⟨x, H1, I1, rx, d, ob, ks, ex, hd, q⟩ => ?_)
  subst ex
  obtain rfl : u = Value.ref d := rx
  obtain ⟨ns, es, ep, raw, hdt, hz, ent⟩ := frz_dT I1 hd
  obtain ⟨o2, g1, g2, g3⟩ := id raw
  refine ⟨raw.typeIs, ?_, ?_⟩
  · intro b e
    injection e with e
    subst e
    exact ⟨o2, g1, g2.2.1⟩
  have I2 : Inv X pins σ H1 { s1 with heap := s1.heap.push { cls := .type "dict_items", data := .fields #[.ref d] } } := I1.kept (t' := s1.toks) fun b o z => Heap.get?_push_of_some _ z
  have fin : wpAny (model X.prog X.w) X.A (pyIter (.ref s1.heap.objs.size)) (PIE X pins σ (.Tuple elts kk tpos) R) X.xe { s1 with heap := s1.heap.push { cls := .type "dict_items", data := .fields #[.ref d] } } :=
    DT.iterI (d := d) ⟨_, Heap.get?_push_size _ rfl, rfl, rfl⟩ (raw.push _) (pi_one (tk := s1.toks) I2 _ (turn_itemsT _ hdt hz) ⟨_, _, Heap.get?_push_size _ rfl⟩ q)
  show wpAny _ _ (callWith p2 (.builtin "dict.items") [.ref d] [] []) _ X.xe s1
  exact method_meetsIn PySem.F.slot_dict_items PySem.F.entry_dict_items rfl (PySem.evalArgs_none ⟨rfl, raw.typeIs, PySem.F.args_dict_items_1 _, _, DT.meetsItems (es := es) (ep := ep) ns, ⟨raw, fin⟩⟩)
theorem walk_itemsT {d : Addr} {ob : Obj} {ks : List (List L2.Key × V)} : Walk (IteT d ob ks) ks.length (fun G => G d = some (.frz ob (.dT ks)))
    (fun j G x G' => ∃ t r k u, ks[j]? = some (k, u) ∧ G r = some (.tup (k.map kV)) ∧ x = .ref t ∧ G t = none ∧ G' = upd G t (.tup [.ref r, u])) :=
  ⟨fun _ _ h q => ⟨q, h⟩, fun _ q => ⟨q, Nat.le_refl _⟩, fun _ _ _ _ _ _ y => y⟩
end Sg

set_option Elab.async false
set_option linter.all false
set_option maxRecDepth 100000
set_option maxHeartbeats 4000000
namespace Sg
open PySem PySem.Spec PyProof.Rows L2
/-! ## min(xs, default=z), xs a list of data that are alike -/
theorem vals_back : ∀ {ys : List V} {us : List Value}, Vals ys us → ∀ {i : Nat} {v : Value}, us[i]? = some v → ∃ y, ys[i]? = some y ∧ RelV y v
  | _, _, .nil, i, v, e => nomatch e
  | _, _, .cons r t, 0, v, e => by
    cases e
    exact ⟨_, rfl, r⟩
  | _, _, .cons r t, i + 1, v, e => vals_back t (i := i) (by simpa using e)
theorem reads_back {h : Heap} : ∀ {us : List Value} {ds : List PyData} {as : List Addr}, ReadsAll h us ds as → ∀ {i : Nat} {v : Value}, us[i]? = some v → ∃ d bs, ds[i]? = some d ∧ Reads h v d bs
  | _, _, _, .nil, i, v, e => nomatch e
  | _, _, _, .cons r t, 0, v, e => by
    cases e
    exact ⟨_, _, rfl, r⟩
  | _, _, _, .cons r t, i + 1, v, e => reads_back t (i := i) (by simpa using e)
theorem cr_minD {X : Cx} (hc : X.calm = true) {j : Nat} (hr : Room j X.A) : CallRK X (.builtin "min") ["default"] (fun vs zs H Q => ∃ (a : Addr) (ys : List V) (ds : List PyData) (z : V), vs = [.ref a] ∧ zs = [z] ∧ SqL X.K H a ys ∧ DpAll X.K H ys ds ∧
    PySem.W.AlikeAll ds ∧ PyData.depthAll ds ≤ 10 ∧ (ds = [] → Q z H) ∧ (∀ (i : Nat) (y : V) (e : PyData) (es : List PyData), ds = e :: es → ys[i]? = some y → ds[i]? = some (PySem.W.minD e es) → Q y H)) := by
  intro pins s σ H xs zs us ws Q I r rz h
  obtain ⟨a, ys, ds, z, rfl, rfl, hs, dp, al, dep, q1, q2⟩ := h
  obtain ⟨u, rfl, rfl⟩ := vals1 r
  obtain ⟨dv, rfl, rd0⟩ := vals1 rz
  obtain ⟨its, rv, hl, hzz⟩ := I.list hs
  obtain ⟨as, rd⟩ := Dp.readsAll I ds _ its dp rv
  have hu := hr.units
  refine PySem.W.min_list_default (I.ok.hd hc) hl.isList (by simpa using rd) al (by omega) (fun e h' tk hk => ?_) (fun e es i v h' tk bs ee hv hrd hk => ?_)
  · exact ⟨z, H, I.kept hk, rd0, q1 e⟩
  · have hv' : its[i]? = some v := by simpa using hv
    obtain ⟨y, hy, ry⟩ := vals_back rv hv'
    obtain ⟨d, bs2, hd, rd2⟩ := reads_back rd hv'
    obtain ⟨e1, _⟩ := reads_det (fun b o g _ => hk b o g) rd2 hrd
    rw [← e1] at hd
    exact ⟨y, H, I.kept hk, ry, q2 i y e es ee hy hd⟩
end Sg

set_option Elab.async false
set_option linter.all false
set_option maxRecDepth 100000
set_option maxHeartbeats 4000000
namespace Sg
open PySem PySem.Spec PyProof.Rows L2
/-! ## heaps -/
/-- all but p is as it was -/
def But (p : Addr) (H H' : Hp) : Prop := ∀ q o, q ≠ p → H q = some o → H' q = some o
theorem But.refl (p : Addr) (H : Hp) : But p H H := fun _ _ _ h => h
theorem But.trans {p : Addr} {H H1 H2 : Hp} (a : But p H H1) (b : But p H1 H2) : But p H H2 := fun q o n h => b q o n (a q o n h)
theorem But.of {p : Addr} {H H' : Hp} (a : Same H H') : But p H H' := fun q o _ h => a q o h
theorem But.upd {p : Addr} {H : Hp} {o : HO} : But p H (upd H p o) := fun q u n h => by rw [upd_ne n]; exact h
theorem same_new {H : Hp} {p : Addr} {o : HO} (h : H p = none) : Same H (upd H p o) := fun b x e => by
  rw [upd_ne (ne_of_none e h)]
  exact e
/-- what is new behind a But is new ahead -/
theorem But.free {p q : Addr} {H H' : Hp} {u : HO} (e : But p H H') (hp : H p = some u) (hp' : ∃ v, H' p = some v) (h : H' q = none) : H q = none := by
  by_cases n : q = p
  · subst n
    obtain ⟨v, hv⟩ := hp'
    rw [hv] at h
    exact nomatch h
  · rcases z : H q with _ | o
    · rfl
    · rw [e q o n z] at h
      exact nomatch h
theorem But.tup {K : PySem.W.Frag} {p : Addr} {H H' : Hp} {a : Addr} {xs ys : List V} (e : But p H H') (hp : H p = some (.lst ys)) (h : SqT K H a xs) : SqT K H' a xs := by
  rcases h with (h | ⟨o, h⟩) | h
  · exact .inl (.inl (e _ _ (ne_of h hp (fun z => nomatch z)) h))
  · exact .inl (.inr ⟨o, e _ _ (ne_of h hp (fun z => nomatch z)) h⟩)
  · exact .inr h
theorem Same.tup {K : PySem.W.Frag} {H H' : Hp} {a : Addr} {xs : List V} (e : Same H H') (h : SqT K H a xs) : SqT K H' a xs := by
  rcases h with (h | ⟨o, h⟩) | h
  · exact .inl (.inl (e _ _ h))
  · exact .inl (.inr ⟨o, e _ _ h⟩)
  · exact .inr h
/-- a pen at p -/
def PenAt (H : Hp) (p : Addr) : Prop := ∃ a b c : Int, H p = some (.lst [.int a, .int b, .int c]) ∧ 0 ≤ b ∧ b < 2147483648
theorem PenAt.same {H H' : Hp} {p : Addr} (h : PenAt H p) (e : Same H H') : PenAt H' p := by
  obtain ⟨a, b, c, h1, h2⟩ := h
  exact ⟨a, b, c, e _ _ h1, h2⟩
theorem PenAt.tup {K : PySem.W.Frag} {p : Addr} {H H' : Hp} {a : Addr} {xs : List V} (h : PenAt H p) (e : But p H H') (q : SqT K H a xs) : SqT K H' a xs := by
  obtain ⟨_, _, _, h1, _⟩ := h
  exact e.tup h1 q
theorem PenAt.free {p q : Addr} {H H' : Hp} (h : PenAt H p) (h' : PenAt H' p) (e : But p H H') (n : H' q = none) : H q = none := by
  obtain ⟨_, _, _, h1, _⟩ := h
  obtain ⟨_, _, _, h2, _⟩ := h'
  exact e.free h1 ⟨_, h2⟩ n
theorem atI0 {x : V} {r : List V} : atI (x :: r) 0 = some x := atI_nat (j := 0) rfl
theorem atI1 {x y : V} {r : List V} : atI (x :: y :: r) 1 = some y := atI_nat (j := 1) rfl
theorem atI2 {x y z : V} {r : List V} : atI (x :: y :: z :: r) 2 = some z := atI_nat (j := 2) rfl

def atD (ns : List Int) (t : Int) : Int := if 0 ≤ t ∧ t < ns.length then ns.getD t.toNat 0 else -1
end Sg

set_option Elab.async false
set_option linter.all false
set_option maxRecDepth 100000
set_option maxHeartbeats 4000000
namespace Sg
open PySem PySem.Spec PyProof.Rows L2
/-! ## the mathematics of bars -/
/-- a work, as its items -/
structure IsWork (ns : List Int) : Prop where
  pos : 1 ≤ ns.length
  most : ns.length ≤ 60
  items : ∀ x ∈ ns, -1 ≤ x ∧ x ≤ 9
  head : ∀ x, ns[0]? = some x → x ≠ -1
  last : ∀ x, ns[ns.length - 1]? = some x → x ≠ -1
/-- a piece of other, d ticks behind one of one, clashes with it -/
def clashB (one other : List Int) (d : Nat) : Bool := ((one.drop d).zip other).any fun p => p.1 == p.2 && p.1 != -1
def barsN (one other : List Int) : List Nat := (List.range' 1 (one.length - 1)).filter (clashB one other)
/-- as the law looks: tick by tick of the first piece -/
def lawHit (one other : List Int) (d : Nat) (i : Nat) : Bool := match one[i]? with
  | some x => decide (x > -1) && decide (atD other ((i : Int) - d) = x)
  | none => false
def lawCount (one other : List Int) (d : Nat) (n : Nat) : Nat := ((List.range n).filter (lawHit one other d)).length
theorem lawCount_zero {one other : List Int} {d : Nat} : lawCount one other d 0 = 0 := rfl
theorem lawCount_succ {one other : List Int} {d n : Nat} : lawCount one other d (n + 1) = lawCount one other d n + (if lawHit one other d n = true then 1 else 0) := by
  unfold lawCount
  rw [List.range_succ, List.filter_append, List.length_append]
  congr 1
  by_cases h : lawHit one other d n = true
  · rw [if_pos h, List.filter_cons_of_pos h]; rfl
  · rw [if_neg h, List.filter_cons_of_neg h]; rfl
theorem atD_in {ns : List Int} {j : Nat} {x : Int} (h : ns[j]? = some x) : atD ns (j : Int) = x := by
  have hl := (List.getElem?_eq_some_iff.mp h).1
  unfold atD
  rw [if_pos ⟨by omega, by omega⟩, Int.toNat_natCast, List.getD_eq_getElem?_getD, h]; rfl
theorem atD_cases (ns : List Int) (t : Int) : (∃ j : Nat, t = j ∧ ns[j]? = some (atD ns t)) ∨ atD ns t = -1 := by
  by_cases h : 0 ≤ t ∧ t < ns.length
  · obtain ⟨j, rfl⟩ : ∃ j : Nat, t = j := ⟨t.toNat, by omega⟩
    have hj : j < ns.length := by omega
    exact .inl ⟨j, rfl, by rw [atD_in (List.getElem?_eq_getElem hj), List.getElem?_eq_getElem hj]⟩
  · refine .inr ?_
    unfold atD
    rw [if_neg h]
theorem clashB_iff {one other : List Int} {d : Nat} : clashB one other d = true ↔ ∃ j x, one[d + j]? = some x ∧ other[j]? = some x ∧ x ≠ -1 := by
  unfold clashB
  rw [List.any_eq_true]
  constructor
  · rintro ⟨⟨x, y⟩, hm, h⟩
    obtain ⟨j, hj⟩ := List.mem_iff_getElem?.mp hm
    obtain ⟨h1, h2⟩ := List.getElem?_zip_eq_some.mp hj
    simp only [Bool.and_eq_true, beq_iff_eq, bne_iff_ne, ne_eq] at h
    rw [List.getElem?_drop] at h1
    exact ⟨j, x, h1, h.1 ▸ h2, h.2⟩
  · rintro ⟨j, x, h1, h2, h3⟩
    refine ⟨(x, x), List.mem_iff_getElem?.mpr ⟨j, List.getElem?_zip_eq_some.mpr ⟨by rw [List.getElem?_drop]; exact h1, h2⟩⟩, ?_⟩
    simp [h3]
theorem lawCount_iff {one other : List Int} {d : Nat} (hw : IsWork one) : decide (lawCount one other d one.length ≠ 0) = clashB one other d := by
  have key : lawCount one other d one.length ≠ 0 ↔ clashB one other d = true := by
    rw [clashB_iff]
    unfold lawCount
    rw [ne_eq, List.length_eq_zero_iff, List.filter_eq_nil_iff]
    constructor
    · intro h
      have h' : ∃ i ∈ List.range one.length, lawHit one other d i = true := by
        refine Classical.byContradiction fun z => h fun i hi hh => z ⟨i, hi, hh⟩
      obtain ⟨i, hi, hh⟩ := h'
      have hi' : i < one.length := List.mem_range.mp hi
      unfold lawHit at hh
      rw [List.getElem?_eq_getElem hi'] at hh
      simp only [Bool.and_eq_true, decide_eq_true_eq] at hh
      rcases atD_cases other ((i : Int) - d) with ⟨j, ej, hj⟩ | e
      · refine ⟨j, one[i], ?_, ?_, by omega⟩
        · rw [show d + j = i by omega]; exact List.getElem?_eq_getElem hi'
        · rw [hj, hh.2]
      · omega
    · rintro ⟨j, x, h1, h2, h3⟩ z
      have hl := (List.getElem?_eq_some_iff.mp h1).1
      refine z (d + j) (List.mem_range.mpr hl) ?_
      unfold lawHit
      rw [h1]
      have hm : x ∈ one := List.mem_of_getElem? h1
      have := (hw.items x hm).1
      simp only [Bool.and_eq_true, decide_eq_true_eq]
      refine ⟨by omega, ?_⟩
      rw [show (((d + j : Nat) : Int) - d) = (j : Int) by omega]
      exact atD_in h2
  by_cases h : clashB one other d = true
  · rw [h]; exact decide_eq_true (key.mpr h)
  · rw [Bool.eq_false_iff.mpr h]
    exact decide_eq_false fun z => h (key.mp z)
/-! ### lists step by step -/
theorem filter_range'_succ (f : Nat → Bool) (a n : Nat) : (List.range' a (n + 1)).filter f = (List.range' a n).filter f ++ (if f (a + n) = true then [a + n] else []) := by
  rw [List.range'_concat, List.filter_append, Nat.one_mul]
  congr 1
  by_cases h : f (a + n) = true
  · rw [if_pos h, List.filter_cons_of_pos h]; rfl
  · rw [if_neg h, List.filter_cons_of_neg h]; rfl
/-- the bars found below 1 + n -/
def barsTo (one other : List Int) (n : Nat) : List Nat := (List.range' 1 n).filter (clashB one other)
theorem barsTo_len (one other : List Int) (n : Nat) : (barsTo one other n).length ≤ n := by
  unfold barsTo
  refine Nat.le_trans (List.length_filter_le _ _) ?_
  rw [List.length_range']
  exact Nat.le_refl _
abbrev nV (l : List Nat) : List V := l.map fun d => V.int (d : Nat)
theorem barsTo_yes {one other : List Int} {n : Nat} (h : clashB one other (1 + n) = true) : nV (barsTo one other (n + 1)) = nV (barsTo one other n) ++ [.int ((1 : Int) + n)] := by
  unfold nV barsTo
  rw [filter_range'_succ, if_pos h, List.map_append]
  have e : (((1 + n : Nat) : Int)) = (1 : Int) + n := by omega
  simp only [List.map_cons, List.map_nil, e]
theorem barsTo_no {one other : List Int} {n : Nat} (h : clashB one other (1 + n) = false) : barsTo one other (n + 1) = barsTo one other n := by
  unfold barsTo
  rw [filter_range'_succ, if_neg (by rw [h]; exact Bool.false_ne_true), List.append_nil]
/-- the pairs of a zip, looked at in turn -/
def hitsTo (one other : List Int) (d n : Nat) : List Bool := (((one.drop d).zip other).take n).map fun p => p.1 == p.2 && p.1 != -1
theorem hits_any (one other : List Int) (d : Nat) : (hitsTo one other d (min (one.drop d).length other.length)).any id = clashB one other d := by
  unfold hitsTo clashB
  rw [List.take_of_length_le (by rw [List.length_zip]; exact Nat.le_refl _), List.any_map]
  rfl
theorem hits_succ {one other : List Int} {d n : Nat} {x y : Int} (h1 : (one.drop d)[n]? = some x) (h2 : other[n]? = some y) : hitsTo one other d (n + 1) = hitsTo one other d n ++ [x == y && x != -1] := by
  unfold hitsTo
  rw [List.take_add_one, List.getElem?_zip_eq_some (z := (x, y)) |>.mpr ⟨h1, h2⟩, List.map_append]
  rfl
theorem hits_len (one other : List Int) (d n : Nat) : (hitsTo one other d n).length ≤ n := by
  unfold hitsTo
  rw [List.length_map, List.length_take]
  exact Nat.min_le_left _ _
end Sg

set_option Elab.async false
set_option linter.all false
set_option maxRecDepth 100000
set_option maxHeartbeats 4000000
namespace Sg
open PySem PySem.Spec PyProof.Rows L2
theorem walk_zipT {K : PySem.W.Frag} {a b : Addr} {xs ys : List V} {n : Nat} (hn : n = min xs.length ys.length) :
    Walk (RZ.ItzT K a b) n (fun H => SqT K H a xs ∧ SqT K H b ys) (YPair (fun i => xs[i]?) (fun i => ys[i]?)) := by
  subst hn
  constructor
  · intro i H hi q
    have h1 : i < xs.length := by omega
    have h2 : i < ys.length := by omega
    exact ⟨xs, ys, xs[i], ys[i], q.1, q.2, List.getElem?_eq_getElem h1, List.getElem?_eq_getElem h2⟩
  · intro H q
    exact ⟨xs, ys, q.1, q.2, by omega⟩
  · rintro i H v H' hi q ⟨T, x, z, h1, h2, h3, h4, h5⟩
    exact ⟨T, x, z, h1, h2, h3, h4 xs q.1, h5 ys q.2⟩
theorem walk_enumT {K : PySem.W.Frag} {a : Addr} {xs : List V} :
    Walk (ItE K a) xs.length (fun H => SqT K H a xs) (YPair (fun i => some (.int (i : Nat))) (fun i => xs[i]?)) := by
  constructor
  · intro i H hi q
    exact ⟨xs, xs[i], q, List.getElem?_eq_getElem hi⟩
  · intro H q
    exact ⟨xs, q, Nat.le_refl _⟩
  · rintro i H v H' hi q ⟨T, x, h1, h2, h3, h4⟩
    exact ⟨T, .int (i : Nat), x, h1, h2, h3, rfl, h4 xs q⟩
theorem cut_from (xs : List V) (d : Nat) : cutV xs (some (d : Int)) none = xs.drop d := by
  unfold cutV
  rw [HT.sIx_nat, HT.sIx_none]
  rcases Nat.le_total d xs.length with h | h
  · rw [Nat.min_eq_left h]
    exact List.take_of_length_le (by rw [List.length_drop]; exact Nat.le_refl _)
  · rw [Nat.min_eq_right h, List.drop_of_length_le (Nat.le_refl _), List.drop_of_length_le h]
    exact List.take_nil
section
variable {P : Program} {w : World} {K : PySem.W.Frag} {mg : Str → Option Value} {base : Heap}
theorem tyT {H : Hp} {a : Addr} {xs : List V} (h : SqT K H a xs) : TyX K H (.ref a) (.type "tuple") := by
  rcases h with (h | ⟨o, h⟩) | ⟨o, _, _, h, hc, _⟩
  · exact .base (.tup h)
  · exact .fTuple h
  · exact .kTuple h hc
/-- the module's numbers -/
structure Nums (mg : Str → Option Value) : Prop where
  nowhere : ∃ t, mg "NOWHERE" = some (.int (-1) t)
  stations : ∃ t, mg "STATIONS" = some (.int 10 t)
  most : ∃ t, mg "MOST_ITEMS" = some (.int 60 t)
def inR (x : Int) : Bool := decide (-1 ≤ x) && decide (x ≤ 9)
end
end Sg

set_option Elab.async false
set_option linter.all false
set_option maxRecDepth 100000
set_option maxHeartbeats 4000000
namespace Sg
open PySem PySem.Spec PyProof.Rows L2
/-! ## data that is shown -/
/-- data made of small ints, in lists and tuples, no deeper than n, of bulk b at most -/
structure Small (d : PyData) (n b : Nat) : Prop where
  sh : d.showable = true
  nd : d.hasDict = false
  dp : d.depth ≤ n
  lv : d.leavesShort 15 = true
  bk : d.bulk ≤ b
  ly : d.canLay0 = true
structure SmallAll (ds : List PyData) (n b : Nat) : Prop where
  sh : PyData.showableAll ds = true
  nd : PyData.hasDictAll ds = false
  dp : PyData.depthAll ds ≤ n
  lv : PyData.leavesShortAll 15 ds = true
  bk : PyData.bulkAll ds ≤ b
  ly : PyData.canLayAll0 ds = true
theorem Small.shows {d : PyData} {n b : Nat} (h : Small d n b) (hn : n ≤ 40) (hb : b ≤ 900000) : Shows d := by
  refine ⟨h.sh, h.nd, Nat.le_trans h.dp hn, ?_⟩
  have h1 := PyData.shown_le_bulk 15 (by decide) d h.lv
  have h2 := h.bk
  have h3 : (15 + 2) * d.bulk ≤ (15 + 2) * 900000 := Nat.mul_le_mul_left _ (Nat.le_trans h2 hb)
  have h4 : sizeLine = 16777216 := sizeLine_eq
  omega
theorem Small.shaped {d : PyData} {n b : Nat} (h : Small d n b) (hn : n ≤ 64) : SeqAt.shaped d = true := by
  unfold SeqAt.shaped
  rw [h.ly, decide_eq_true (Nat.le_trans h.dp hn)]
  rfl
theorem Small.list {ds : List PyData} {n b : Nat} (h : SmallAll ds n b) : Small (.list ds) (n + 1) b :=
  ⟨by simpa only [PyData.showable] using h.sh, by simpa only [PyData.hasDict] using h.nd, by simpa only [PyData.depth] using Nat.succ_le_succ h.dp,
    by simpa only [PyData.leavesShort] using h.lv, by simpa only [PyData.bulk] using h.bk, by simpa only [PyData.canLay0] using h.ly⟩
theorem Small.tuple {ds : List PyData} {n b : Nat} (h : SmallAll ds n b) : Small (.tuple ds) (n + 1) b :=
  ⟨by simpa only [PyData.showable] using h.sh, by simpa only [PyData.hasDict] using h.nd, by simpa only [PyData.depth] using Nat.succ_le_succ h.dp,
    by simpa only [PyData.leavesShort] using h.lv, by simpa only [PyData.bulk] using h.bk, by simpa only [PyData.canLay0] using h.ly⟩
theorem SmallAll.nil {n b : Nat} : SmallAll [] n b := ⟨by simp only [PyData.showableAll], by simp only [PyData.hasDictAll], by simp only [PyData.depthAll]; exact Nat.zero_le _,
  by simp only [PyData.leavesShortAll], by simp only [PyData.bulkAll]; exact Nat.zero_le _, by simp only [PyData.canLayAll0]⟩
theorem SmallAll.cons {d : PyData} {ds : List PyData} {n b c : Nat} (h : Small d n b) (r : SmallAll ds n c) : SmallAll (d :: ds) n (b + 1 + c) :=
  ⟨by simp only [PyData.showableAll, h.sh, r.sh, Bool.and_self], by simp only [PyData.hasDictAll, h.nd, r.nd, Bool.or_self], by simp only [PyData.depthAll]; exact Nat.max_le.mpr ⟨h.dp, r.dp⟩,
    by simp only [PyData.leavesShortAll, h.lv, r.lv, Bool.and_self], by simp only [PyData.bulkAll]; have h1 := h.bk; have h2 := r.bk; omega, by simp only [PyData.canLayAll0, h.ly, r.ly, Bool.and_self]⟩
theorem Small.int {i : Int} {n b : Nat} (h1 : -99999999999999 ≤ i) (h2 : i ≤ 99999999999999) : Small (.int i) n b := by
  refine ⟨?_, by simp only [PyData.hasDict], by simp only [PyData.depth]; exact Nat.zero_le _, ?_, by simp only [PyData.bulk]; exact Nat.zero_le _, by simp only [PyData.canLay0]⟩
  · simp only [PyData.showable, decide_eq_true_eq]
    have h3 : i.natAbs < 2 ^ 47 := by omega
    have h4 := PySem.Flt.log2_lt_of (show 0 < 47 by decide) h3
    omega
  · simp only [PyData.leavesShort, decide_eq_true_eq]
    have h6 : i.natAbs < 10 ^ 14 := by
      have e : (10 : Nat) ^ 14 = 100000000000000 := by decide
      rw [e]
      omega
    have h5 := int_text_length_le10 (k := 14) (by decide) h6
    show (Str.ofString (toString i)).length ≤ 15
    rw [PySem.ofString_length]
    exact h5
theorem Small.mono {d : PyData} {n m b c : Nat} (h : Small d n b) (hn : n ≤ m) (hb : b ≤ c) : Small d m c := ⟨h.sh, h.nd, Nat.le_trans h.dp hn, h.lv, Nat.le_trans h.bk hb, h.ly⟩
theorem SmallAll.mono {d : List PyData} {n m b c : Nat} (h : SmallAll d n b) (hn : n ≤ m) (hb : b ≤ c) : SmallAll d m c := ⟨h.sh, h.nd, Nat.le_trans h.dp hn, h.lv, Nat.le_trans h.bk hb, h.ly⟩
abbrev iD (ns : List Int) : List PyData := ns.map PyData.int
theorem SmallAll.ints {n : Nat} : ∀ (ns : List Int), (∀ x ∈ ns, -99999999999999 ≤ x ∧ x ≤ 99999999999999) → SmallAll (iD ns) n ns.length
  | [], _ => .nil
  | x :: r, h => by
    have h1 := h x List.mem_cons_self
    have h2 := SmallAll.cons (Small.int (n := n) (b := 0) h1.1 h1.2) (SmallAll.ints r fun y hy => h y (List.mem_cons_of_mem _ hy))
    exact h2.mono (Nat.le_refl _) (by show 0 + 1 + r.length ≤ r.length + 1; omega)
theorem dpInts {K : PySem.W.Frag} {H : Hp} : ∀ (ns : List Int), DpAll K H (ns.map V.int) (iD ns)
  | [] => .nil
  | x :: r => .cons (.int x) (dpInts r)
abbrev nI (l : List Nat) : List Int := l.map fun d => ((d : Nat) : Int)
theorem nV_eq (l : List Nat) : nV l = (nI l).map V.int := by rw [List.map_map]; rfl
theorem IsWork.small {ns : List Int} (h : IsWork ns) {n : Nat} : SmallAll (iD ns) n 60 :=
  (SmallAll.ints ns fun x hx => by have := h.items x hx; omega).mono (Nat.le_refl _) h.most
theorem bars_small {one other : List Int} (h : IsWork one) {n : Nat} : SmallAll (iD (nI (barsN one other))) n 60 := by
  refine (SmallAll.ints _ fun x hx => ?_).mono (Nat.le_refl _) ?_
  · obtain ⟨d, hd, rfl⟩ := List.mem_map.mp hx
    have h1 := (List.mem_filter.mp hd).1
    have h2 := List.mem_range'_1.mp h1
    have := h.most
    omega
  · rw [List.length_map]
    have := barsTo_len one other (one.length - 1)
    have := h.most
    exact Nat.le_trans (barsTo_len one other (one.length - 1)) (by omega)
section
variable {P : Program} {w : World} {K : PySem.W.Frag} {mg : Str → Option Value} {base : Heap}
/-! ### _law_same -/
def spSame (K : PySem.W.Frag) : Sp := fun vs H Q _ => ∃ (a b : Addr) (d : PyData), vs = [.ref a, .ref b] ∧ Dp K H (.ref a) d ∧ Dp K H (.ref b) d ∧ Shows d ∧ Q (.bl true) H
theorem PenAt.upd {H : Hp} {p q : Addr} {o : HO} (h : PenAt H p) (n : p ≠ q) : PenAt (upd H q o) p := by
  obtain ⟨a, b, c, h1, h2⟩ := h
  exact ⟨a, b, c, by rw [upd_ne n]; exact h1, h2⟩
theorem PenAt.ne {H : Hp} {p q : Addr} (h : PenAt H p) (n : H q = none) : p ≠ q := by
  obtain ⟨a, b, c, h1, _⟩ := h
  exact ne_of_none h1 n
end
end Sg

set_option Elab.async false
set_option linter.all false
set_option maxRecDepth 100000
set_option maxHeartbeats 4000000
namespace Sg
open PySem PySem.Spec PyProof.Rows L2
/-! ## data of ints and tuples alone -/
section
variable {K : PySem.W.Frag} {H H' : Hp}
mutual
inductive Tp (K : PySem.W.Frag) (H : Hp) : V → PyData → Prop
  | int (i : Int) : Tp K H (.int i) (.int i)
  | tu {a : Addr} {xs : List V} {ds : List PyData} : SqT K H a xs → TpAll K H xs ds → Tp K H (.ref a) (.tuple ds)
inductive TpAll (K : PySem.W.Frag) (H : Hp) : List V → List PyData → Prop
  | no : TpAll K H [] []
  | on {v : V} {vs : List V} {d : PyData} {ds : List PyData} : Tp K H v d → TpAll K H vs ds → TpAll K H (v :: vs) (d :: ds)
end
mutual
theorem Tp.dp : ∀ {v : V} {d : PyData}, Tp K H v d → Dp K H v d
  | _, _, .int i => .int i
  | _, _, .tu h r => .tup h (TpAll.dp r)
theorem TpAll.dp : ∀ {v : List V} {d : List PyData}, TpAll K H v d → DpAll K H v d
  | _, _, .no => .nil
  | _, _, .on a r => .cons (Tp.dp a) (TpAll.dp r)
end
/-- all tuples and all instances are as they were -/
structure St (K : PySem.W.Frag) (H H' : Hp) : Prop where
  tu : ∀ a xs, SqT K H a xs → SqT K H' a xs
  ob : ∀ a C dx fs, H a = some (.ins C dx fs) → H' a = some (.ins C dx fs)
theorem St.refl : St K H H := ⟨fun _ _ h => h, fun _ _ _ _ h => h⟩
theorem St.trans {H2 : Hp} (a : St K H H') (b : St K H' H2) : St K H H2 := ⟨fun _ _ h => b.tu _ _ (a.tu _ _ h), fun _ _ _ _ h => b.ob _ _ _ _ (a.ob _ _ _ _ h)⟩
theorem St.of (e : Same H H') : St K H H' := ⟨fun _ _ h => Same.tup e h, fun _ _ _ _ h => e _ _ h⟩
theorem St.but {p : Addr} {ys : List V} (e : But p H H') (hp : H p = some (.lst ys)) : St K H H' :=
  ⟨fun _ _ h => But.tup e hp h, fun a C dx fs h => e _ _ (fun z => by rw [z, hp] at h; exact nomatch h) h⟩
theorem St.pen {p : Addr} (e : But p H H') (hp : PenAt H p) : St K H H' := by
  obtain ⟨a, b, c, h, _⟩ := hp
  exact .but e h
mutual
theorem Tp.stayT (e : ∀ a xs, SqT K H a xs → SqT K H' a xs) : ∀ {v : V} {d : PyData}, Tp K H v d → Tp K H' v d
  | _, _, .int i => .int i
  | _, _, .tu h r => .tu (e _ _ h) (TpAll.stayT e r)
theorem TpAll.stayT (e : ∀ a xs, SqT K H a xs → SqT K H' a xs) : ∀ {v : List V} {d : List PyData}, TpAll K H v d → TpAll K H' v d
  | _, _, .no => .no
  | _, _, .on a r => .on (Tp.stayT e a) (TpAll.stayT e r)
end
theorem tu_ins {p C dx : Addr} {fs : List (Str × V)} {o : HO} (hp : H p = some (.ins C dx fs)) : ∀ a xs, SqT K H a xs → SqT K (upd H p o) a xs := by
  intro a xs h
  have ne : ∀ u, H a = some u → (∀ C dx fs, u ≠ .ins C dx fs) → a ≠ p := fun u hu n z => by
    rw [z, hp] at hu
    exact n _ _ _ (Option.some.inj hu).symm
  exact h.imp (fun z => z.imp (fun z => by rw [upd_ne (ne _ z (fun _ _ _ q => nomatch q))]; exact z) fun ⟨u, z⟩ => ⟨u, by rw [upd_ne (ne _ z (fun _ _ _ q => nomatch q))]; exact z⟩) id
mutual
theorem Tp.stay (e : St K H H') : ∀ {v : V} {d : PyData}, Tp K H v d → Tp K H' v d
  | _, _, .int i => .int i
  | _, _, .tu h r => .tu (e.tu _ _ h) (TpAll.stay e r)
theorem TpAll.stay (e : St K H H') : ∀ {v : List V} {d : List PyData}, TpAll K H v d → TpAll K H' v d
  | _, _, .no => .no
  | _, _, .on a r => .on (Tp.stay e a) (TpAll.stay e r)
end
theorem TpAll.len : ∀ {vs : List V} {ds : List PyData}, TpAll K H vs ds → vs.length = ds.length
  | _, _, .no => rfl
  | _, _, .on _ r => congrArg (· + 1) (TpAll.len r)
theorem TpAll.at : ∀ {vs : List V} {ds : List PyData} {i : Nat} {v : V}, TpAll K H vs ds → vs[i]? = some v → ∃ d, ds[i]? = some d ∧ Tp K H v d
  | _, _, 0, _, .on a _, e => by cases e; exact ⟨_, rfl, a⟩
  | _, _, i + 1, _, .on _ r, e => TpAll.at (i := i) r e
theorem TpAll.add : ∀ {vs us : List V} {ds es : List PyData}, TpAll K H vs ds → TpAll K H us es → TpAll K H (vs ++ us) (ds ++ es)
  | _, _, _, _, .no, b => b
  | _, _, _, _, .on a r, b => .on a (TpAll.add r b)
theorem TpAll.cut : ∀ {vs : List V} {ds : List PyData} (n : Nat), TpAll K H vs ds → TpAll K H (vs.take n) (ds.take n)
  | _, _, 0, _ => .no
  | _, _, _ + 1, .no => .no
  | _, _, n + 1, .on a r => .on a (TpAll.cut n r)
theorem TpAll.off : ∀ {vs : List V} {ds : List PyData} (n : Nat), TpAll K H vs ds → TpAll K H (vs.drop n) (ds.drop n)
  | _, _, 0, r => r
  | _, _, _ + 1, .no => .no
  | _, _, n + 1, .on _ r => TpAll.off n r
theorem TpAll.ints : ∀ (ns : List Int), TpAll K H (ns.map V.int) (iD ns)
  | [] => .no
  | x :: r => .on (.int x) (TpAll.ints r)
theorem TpAll.isInts : ∀ {vs : List V} {ns : List Int}, TpAll K H vs (iD ns) → vs = ns.map V.int
  | _, [], .no => rfl
  | _, _ :: _, .on (.int _) r => by rw [TpAll.isInts r]; rfl
theorem Tp.ofInts {a : Addr} {ns : List Int} (h : SqT K H a (ns.map V.int)) : Tp K H (.ref a) (.tuple (iD ns)) := .tu h (TpAll.ints ns)
theorem Tp.toInts {v : V} {ns : List Int} (h : Tp K H v (.tuple (iD ns))) : ∃ a, v = .ref a ∧ SqT K H a (ns.map V.int) := by
  cases h with
  | tu h r => exact ⟨_, rfl, by rw [← TpAll.isInts r]; exact h⟩
theorem Tp.toTup {v : V} {ds : List PyData} (h : Tp K H v (.tuple ds)) : ∃ a xs, v = .ref a ∧ SqT K H a xs ∧ TpAll K H xs ds := by
  cases h with
  | tu h r => exact ⟨_, _, rfl, h, r⟩
end
/-! ## lines -/
/-- one to three works -/
structure GoodL (ws : List (List Int)) : Prop where
  least : 1 ≤ ws.length
  few : ws.length ≤ 3
  work : ∀ w ∈ ws, IsWork w
abbrev tD (ns : List Int) : PyData := .tuple (iD ns)
abbrev tDs (ws : List (List Int)) : List PyData := ws.map tD
abbrev cellD (a b : List Int) : PyData := tD (nI (barsN a b))
abbrev rowD (a : List Int) (ws : List (List Int)) : PyData := .tuple (ws.map (cellD a))
abbrev barD (ws : List (List Int)) : List PyData := ws.map fun a => rowD a ws
/-- the bars of all, row by row -/
def rowB (a : List Int) (ws : List (List Int)) : List Int := ws.flatMap fun b => nI (barsN a b)
def allB (ws vs : List (List Int)) : List Int := ws.flatMap fun a => rowB a vs
/-- the greatest, or 0 -/
structure Top (l : List Int) (m : Int) : Prop where
  pos : 0 ≤ m
  le : ∀ x ∈ l, x ≤ m
  eq : m = 0 ∨ m ∈ l
theorem Top.uniq {l k : List Int} {m n : Int} (h : Top l m) (g : Top k n) (e : ∀ x, x ∈ l ↔ x ∈ k) : m = n := by
  have a : m ≤ n := by
    rcases h.eq with z | z
    · rw [z]; exact g.pos
    · exact g.le _ ((e _).mp z)
  have b : n ≤ m := by
    rcases g.eq with z | z
    · rw [z]; exact h.pos
    · exact h.le _ ((e _).mpr z)
  omega
/-! ### the object -/
def lf (t b : Addr) (r : Int) : List (Str × V) := putF "_reach" (.int r) (putF "_bars" (.ref b) (putF "_works" (.ref t) []))
theorem k1 : ¬ (("_works" : Str) = "_bars") := by decide +kernel
theorem k2 : ¬ (("_works" : Str) = "_reach") := by decide +kernel
theorem k3 : ¬ (("_bars" : Str) = "_reach") := by decide +kernel
theorem lf_works (t b : Addr) (r : Int) : (lf t b r).lookup ("_works" : Str) = some (.ref t) := by
  unfold lf
  rw [lookup_putF, if_neg k2, lookup_putF, if_neg k1, lookup_putF, if_pos rfl]
theorem lf_bars (t b : Addr) (r : Int) : (lf t b r).lookup ("_bars" : Str) = some (.ref b) := by
  unfold lf
  rw [lookup_putF, if_neg k3, lookup_putF, if_pos rfl]
theorem lf_reach (t b : Addr) (r : Int) : (lf t b r).lookup ("_reach" : Str) = some (.int r) := by
  unfold lf
  rw [lookup_putF, if_pos rfl]
/-- a Line of these works stands at a -/
def LineAt (K : PySem.W.Frag) (C : Addr) (H : Hp) (a : Addr) (ws : List (List Int)) : Prop :=
  ∃ (dx t b : Addr) (r : Int), H a = some (.ins C dx (lf t b r)) ∧ Tp K H (.ref t) (.tuple (tDs ws)) ∧ Tp K H (.ref b) (.tuple (barD ws)) ∧ Top (allB ws ws) r ∧ GoodL ws
theorem LineAt.ins {K : PySem.W.Frag} {C a : Addr} {H : Hp} {ws : List (List Int)} (h : LineAt K C H a ws) : InsAt H C a := by
  obtain ⟨dx, t, b, r, h1, _⟩ := h
  exact ⟨_, _, h1⟩
theorem LineAt.good {K : PySem.W.Frag} {C a : Addr} {H : Hp} {ws : List (List Int)} (h : LineAt K C H a ws) : GoodL ws := by
  obtain ⟨dx, t, b, r, _, _, _, _, g⟩ := h
  exact g
theorem LineAt.stay {K : PySem.W.Frag} {C a : Addr} {H H' : Hp} {ws : List (List Int)} (e : St K H H') (h : LineAt K C H a ws) : LineAt K C H' a ws := by
  obtain ⟨dx, t, b, r, h1, h2, h3, h4, h5⟩ := h
  exact ⟨dx, t, b, r, e.ob _ _ _ _ h1, h2.stay e, h3.stay e, h4, h5⟩
theorem TpAll.works {K : PySem.W.Frag} {H : Hp} {vs : List V} {ws : List (List Int)} {i : Nat} {v : V} (h : TpAll K H vs (tDs ws)) (e : vs[i]? = some v) : ∃ w a, ws[i]? = some w ∧ v = .ref a ∧ SqT K H a (w.map V.int) := by
  obtain ⟨d, hd, t⟩ := h.at e
  rw [List.getElem?_map] at hd
  obtain ⟨w, hw, rfl⟩ := Option.map_eq_some_iff.mp hd
  obtain ⟨a, rfl, hs⟩ := t.toInts
  exact ⟨w, a, hw, rfl, hs⟩
end Sg

set_option Elab.async false
set_option linter.all false
set_option maxRecDepth 100000
set_option maxHeartbeats 4000000
namespace Sg
open PySem PySem.Spec PyProof.Rows L2
theorem call_tuple_ofK {X : Cx} {K : PySem.W.Frag} (hK : X.K = K) : CallR X (.type "tuple") (fun xs H Q => ∃ p ys, xs = [.ref p] ∧ ((SqL K H p ys ∧ ∀ l, H l = none → Q (.ref l) (upd H l (.tup ys))) ∨ (SqT K H p ys ∧ Q (.ref p) H))) := by
  subst hK; exact call_tuple_of
theorem pi_tupK {X : Cx} {K : PySem.W.Frag} {tg l : Expr} {tl : TE} (hK : X.K = K) (hl : PE X l tl) : PI X tg l (iTup K tl) := by
  subst hK; exact pi_tup hl
/-! ## a list of tuple data that grows -/
def Grow (K : PySem.W.Frag) (H1 : Hp) (D : Addr) (ds : List PyData) (i : Nat) (H' : Hp) : Prop := Same H1 H' ∧ ∃ acc, H' D = some (.lst acc) ∧ TpAll K H' acc (ds.take i)
theorem Grow.zero {K : PySem.W.Frag} {H1 : Hp} {D : Addr} {ds : List PyData} (hD : H1 D = none) : Grow K H1 D ds 0 (upd H1 D (.lst [])) :=
  ⟨same_new hD, [], upd_same, .no⟩
theorem Grow.next {K : PySem.W.Frag} {H1 H' H'' : Hp} {D : Addr} {ds : List PyData} {i : Nat} {d : PyData} {v : V} (hD : H1 D = none) (hz : ds.length ≤ 1000) (h : Grow K H1 D ds i H') (e : Same H' H'') (hd : ds[i]? = some d) (t : Tp K H'' v d) :
    ∃ acc, H'' D = some (.lst acc) ∧ acc.length < sizeLine ∧ Grow K H1 D ds (i + 1) (upd H'' D (.lst (acc ++ [v]))) := by
  obtain ⟨s1, acc, h1, h2⟩ := h
  have hD2 := e _ _ h1
  have st : St K H'' (upd H'' D (.lst (acc ++ [v]))) := .but (.upd) hD2
  refine ⟨acc, hD2, ?_, fun b o q => ?_, _, upd_same, ?_⟩
  · have z := h2.len
    have z2 : i < ds.length := (List.getElem?_eq_some_iff.mp hd).1
    rw [List.length_take] at z
    exact small1000 (by omega)
  · rw [upd_ne (ne_of_none q hD)]
    exact e _ _ (s1 _ _ q)
  · rw [List.take_add_one, hd]
    exact ((h2.stay (.of e)).stay st).add (.on (t.stay st) .no)
theorem Grow.done {K : PySem.W.Frag} {H1 H' : Hp} {D : Addr} {ds : List PyData} {n : Nat} (h : Grow K H1 D ds n H') (hn : n = ds.length) : Same H1 H' ∧ ∃ acc, H' D = some (.lst acc) ∧ TpAll K H' acc ds := by
  obtain ⟨s1, acc, h1, h2⟩ := h
  rw [hn, List.take_length] at h2
  exact ⟨s1, acc, h1, h2⟩
theorem Tp.new {K : PySem.W.Frag} {H : Hp} {l : Addr} {acc : List V} {ds : List PyData} (nl : H l = none) (t : TpAll K H acc ds) : Tp K (upd H l (.tup acc)) (.ref l) (.tuple ds) :=
  .tu (.of upd_same) (t.stay (.of (same_new nl)))
theorem GoodL.mem {ws : List (List Int)} (h : GoodL ws) {i : Nat} {w : List Int} (e : ws[i]? = Option.some w) : IsWork w := h.work w (List.mem_of_getElem? e)
theorem GoodL.lt {ws : List (List Int)} (h : GoodL ws) : (barD ws).length ≤ 1000 := by
  have := h.few
  rw [List.length_map]
  omega
/-- what the class has -/
structure LC (K : PySem.W.Frag) (mg : Str → Option Value) (C : Addr) : Prop where
  cl : Cls K C
  nW : NoAttr K C "_works"
  nB : NoAttr K C "_bars"
  nR : NoAttr K C "_reach"
  mgC : mg "Line" = some (.ref C)
end Sg

set_option Elab.async false
set_option linter.all false
set_option maxRecDepth 100000
set_option maxHeartbeats 4000000
namespace Sg
open PySem PySem.Spec PyProof.Rows L2
/-! ## a tuple times 0, 1 or more -/
theorem tuple_mulOne (l : Addr) (items : Array Value) (n : Nat) (dd : Option Addr) (sl : Array (Option Value)) (u : Tok) :
    Meets (Builtin.«tuple.__mul__» ⟨[.ref l, .int 1 u], []⟩) (fun _ R s => s.heap.get? l = some { cls := .type "tuple", dict := dd, data := .seq items n, slots := sl } ∧ R (.ok (.ret (Value.ref l))) s) :=
  .of_wp fun prog w A R s h => by
    obtain ⟨hp, g, d, tk, os⟩ := s
    obtain ⟨hl, h⟩ := h
    have f1 := AutoSeq1.idx_int
    have ht : Shared.TypeIs ⟨hp, g, d, tk, os⟩ (.ref l) "tuple" := ⟨_, hl, rfl⟩
    wp_walk using wpAny_loadPart' hl, wpAny_typeOf ht
    repeat (first
      | (refine wpAny_ite_true (by rw [Bool.or_eq_true]; exact .inr rfl) ?_; wp_walk using wpAny_loadPart' hl, wpAny_typeOf ht)
      | (refine wpAny_ite_true rfl ?_; wp_walk using wpAny_loadPart' hl, wpAny_typeOf ht)
      | (refine wpAny_ite_false (by decide) ?_; wp_walk using wpAny_loadPart' hl, wpAny_typeOf ht))
    exact ⟨_, rfl, h⟩
theorem tuple_mulNone (l : Addr) (items : Array Value) (n : Nat) (dd : Option Addr) (sl : Array (Option Value)) (u : Tok) (c1 : items.isEmpty = false) :
    Meets (Builtin.«tuple.__mul__» ⟨[.ref l, .int 0 u], []⟩) (fun _ R s => s.heap.get? l = some { cls := .type "tuple", dict := dd, data := .seq items n, slots := sl } ∧
      R (.ok (.ret (Value.ref s.heap.objs.size))) { s with heap := s.heap.push { cls := Value.type "tuple", data := Data.seq #[] }, toks := s.toks }) :=
  .of_wp fun prog w A R s h => by
    obtain ⟨hp, g, d, tk, os⟩ := s
    obtain ⟨hl, h⟩ := h
    have f1 := AutoSeq1.idx_int
    have c2 : (items.isEmpty || (0 : Int) == 1) = false := by rw [c1]; rfl
    wp_walk using wpAny_loadPart' hl
    repeat (first
      | (refine wpAny_ite_false (by rw [c2]; exact Bool.false_ne_true) ?_; wp_walk using wpAny_loadPart' hl)
      | (refine wpAny_ite_true rfl ?_; wp_walk using wpAny_loadPart' hl)
      | (refine wpAny_ite_false (by decide) ?_; wp_walk using wpAny_loadPart' hl))
    exact ⟨_, rfl, h⟩
def rRepN (K : PySem.W.Frag) : R2 := fun x y H Q => ∃ (l : Addr) (k : Nat) (xs : List V), x = .ref l ∧ y = .int k ∧ SqT K H l xs ∧ xs ≠ [] ∧ k ≤ 1000 ∧ xs.length ≤ 1000 ∧
  (k = 1 → Q (.ref l) H) ∧ (k ≠ 1 → ∀ p, H p = none → Q (.ref p) (upd H p (.tup (List.replicate k xs).flatten)))
theorem op_repN {X : Cx} : OpR X (binaryOp .Mult) (rRepN X.K) := by
  intro pins s σ H x y v u Q I rx ry h
  obtain ⟨l, k, xs, rfl, rfl, hT, hne, h2, hz, q1, q2⟩ := h
  by_cases h1 : 2 ≤ k
  · refine op_repT pins s σ H _ _ v u Q I rx ry ⟨l, k, xs, rfl, rfl, hT, hne, by omega, by omega, hz, fun p np => ?_⟩
    rw [Int.toNat_natCast]
    exact q2 (by omega) p np
  cases rx
  obtain ⟨t, rfl⟩ := ry
  obtain ⟨its, r, ⟨⟨cls, dd, data, sl⟩, ho, hc, n, hd⟩, hs⟩ := I.tuple hT
  simp only at hc hd
  subst hc hd
  have hle : its.length = xs.length := r.length.symm
  have hn : its ≠ [] := fun e => hne (by
    rw [e] at hle
    exact List.eq_nil_of_length_eq_zero hle.symm)
  have hi : its.toArray.isEmpty = false := by
    cases its with
    | nil => exact absurd rfl hn
    | cons a b => rfl
  rcases (show k = 0 ∨ k = 1 by omega) with rfl | rfl
  · refine wpAny_binaryOp_repeat_ref (T := "tuple") (U := "int") (by decide) ⟨_, ho, rfl⟩ (fun s' => typeIs_int s' _ t) noFill_tuple_mul F.fills_int_mul F.slot_int_rmul repeat_tuple PySem.F.slot_int_index.lookup
      (call_meets F.slot_int_rmul (typeIs_int s _ t) F.entry_int_rmul (F.args_int_rmul_2 _ _) (int_rmul_tuple _ t l its.toArray n dd sl)
        ⟨ho, rfl, ⟨_, ho, rfl⟩, call_meets F.slot_tuple_mul ⟨_, ho, rfl⟩ F.entry_tuple_mul (F.args_tuple_mul_2 _ _) (tuple_mulNone l its.toArray n dd sl t hi) ⟨ho, ?_⟩⟩)
    refine ⟨.ref s.heap.objs.size, _, I.laid (t' := s.toks) (o := .tup (List.replicate 0 xs).flatten) (fun b ob q => Heap.get?_push_of_some _ q) (Nat.le_refl _) ?_, rfl, q2 (by decide) _ (I.hok.fresh (Nat.le_refl _))⟩
    exact ⟨Nat.zero_le _, [], .nil, IsTup.new _ _⟩
  · refine wpAny_binaryOp_repeat_ref (T := "tuple") (U := "int") (by decide) ⟨_, ho, rfl⟩ (fun s' => typeIs_int s' _ t) noFill_tuple_mul F.fills_int_mul F.slot_int_rmul repeat_tuple PySem.F.slot_int_index.lookup
      (call_meets F.slot_int_rmul (typeIs_int s _ t) F.entry_int_rmul (F.args_int_rmul_2 _ _) (int_rmul_tuple _ t l its.toArray n dd sl)
        ⟨ho, rfl, ⟨_, ho, rfl⟩, call_meets F.slot_tuple_mul ⟨_, ho, rfl⟩ F.entry_tuple_mul (F.args_tuple_mul_2 _ _) (tuple_mulOne l its.toArray n dd sl t) ⟨ho, ?_⟩⟩)
    exact ⟨.ref l, H, I, rfl, q1 rfl⟩
/-- .. asked once for all -/
def rRepS (K : PySem.W.Frag) : R2 := fun x y H Q => ∃ (l : Addr) (k : Nat) (xs : List V), x = .ref l ∧ y = .int k ∧ SqT K H l xs ∧ xs ≠ [] ∧ k ≤ 1000 ∧ xs.length ≤ 1000 ∧
  ∀ H' u, Same H H' → SqT K H' u (List.replicate k xs).flatten → Q (.ref u) H'
theorem op_repS {X : Cx} : OpR X (binaryOp .Mult) (rRepS X.K) := by
  intro pins s σ H x y v u Q I rx ry h
  obtain ⟨l, k, xs, rfl, rfl, hT, hne, h2, hz, q⟩ := h
  refine op_repN pins s σ H _ _ v u Q I rx ry ⟨l, k, xs, rfl, rfl, hT, hne, h2, hz, fun z => q H l (fun _ _ h => h) ?_, fun _ p np => q _ p (same_new np) (.of upd_same)⟩
  subst z
  rw [show (List.replicate 1 xs).flatten = xs from by simp]
  exact hT
/-! ## a part of a tuple, the whole of it too -/
section
variable {prog : Program} {w : World} {A : Around} {E : Value → Shared → Prop} {s : Shared}
theorem getItem_tuple_whole {t sl : Addr} {items : Array Value} {vl vu : Value} {lo hi : Option Int} {Q : Value → Shared → Prop} (ht : IsTup s.heap t items) (hs : s.heap.IsSliceOf sl vl vu .none) (pl : IsPart vl lo) (pu : IsPart vu hi)
    (hw : HT.sIx items.size 0 lo = 0 ∧ HT.sIx items.size items.size hi = items.size) (h : Q (.ref t) s) : wpAny (model prog w) A (getItem (.ref t) (.ref sl)) Q E s := by
  obtain ⟨os, hos, hcs, hds⟩ := id hs
  have hTs : s.TypeIs (.ref sl) "slice" := ⟨os, hos, hcs⟩
  unfold getItem
  try with_reducible refine wpAny_holding ?_
  first | refine wpAny_bind (wpAny_pure ?_) | skip
  refine wpAny_bind (wpAny_sequenceKey ht.typeIs (by decide) ?_)
  refine wpAny_bind (wpAny_callSpecial?_slot (name := Str.ofString "__getitem__") ht.typeIs PyProof.Rows.slot_tuple_getitem
    (wpAny_call_entry PyProof.Rows.slot_tuple_getitem ht.typeIs entry_tuple_getitem ?_ (args_tuple_getitem _ _)))
  show wpAny _ _ (Builtin.Tuple.tupleItemsOf (.ref t) >>= _) _ _ s
  refine wpAny_bind (PyProof.Rows.tupleItemsOf_ ht ?_)
  refine wpAny_bind (wpAny_typeOf hTs ?_)
  rw [if_pos (by decide)]
  refine wpAny_bind (HT.sliceApplied_gen hs pl pu ?_)
  have hyes : ((((HT.sIx items.size 0 lo : Nat) : Int) == 0 && (1 : Int) == 1 && (HT.sIx items.size items.size hi - HT.sIx items.size 0 lo) == items.size) = true) := by
    rw [hw.1, hw.2]
    simp
  show wpAny _ _ (if (((HT.sIx items.size 0 lo : Nat) : Int) == 0 && (1 : Int) == 1 && (HT.sIx items.size items.size hi - HT.sIx items.size 0 lo) == items.size) = true then _ else _) _ _ s
  rw [if_pos hyes]
  refine wpAny_bind (m := Builtin.Tuple.tupleIsExact _) ?_
  unfold Builtin.Tuple.tupleIsExact
  refine wpAny_bind (wpAny_typeOf ht.typeIs (wpAny_pure ?_))
  rw [if_pos (by decide)]
  exact wpAny_bind (wpAny_rule (wpAny_pure ⟨_, rfl, wpAny_pure h⟩))
end
def rSlN (K : PySem.W.Frag) : V → Option Int → Option Int → Hp → VK → Prop := fun x lo hi H Q => ∃ a xs, x = .ref a ∧ SqT K H a xs ∧
  ((HT.sIx xs.length 0 lo = 0 ∧ HT.sIx xs.length xs.length hi = xs.length) → cutV xs lo hi = xs → Q (.ref a) H) ∧ ∀ p, H p = none → Q (.ref p) (upd H p (.tup (cutV xs lo hi)))
theorem sl_tupN {X : Cx} : SlR X (rSlN X.K) := by
  intro pins s σ H x v vl vu lo hi sl Q I rx hs pl pu h
  obtain ⟨a, xs, rfl, hx, q1, q2⟩ := h
  by_cases hw : HT.sIx xs.length 0 lo = 0 ∧ HT.sIx xs.length xs.length hi = xs.length
  · cases rx
    obtain ⟨its, r, ht, hz⟩ := I.tuple hx
    have hlen : its.toArray.size = xs.length := by rw [List.size_toArray]; exact r.length.symm
    refine ⟨"tuple", _, PyProof.Rows.slot_tuple_getitem.lookup, ht.typeIs, ?_⟩
    refine getItem_tuple_whole ht hs pl pu (by rw [hlen]; exact hw) ⟨.ref a, H, I, rfl, q1 hw ?_⟩
    unfold cutV
    rw [hw.1, hw.2, List.drop_zero, Nat.sub_zero, List.take_length]
  · exact sl_tup pins s σ H _ v vl vu lo hi sl Q I rx hs pl pu ⟨a, xs, rfl, hx, hw, q2⟩
def rSlS (K : PySem.W.Frag) : V → Option Int → Option Int → Hp → VK → Prop := fun x lo hi H Q => ∃ a xs, x = .ref a ∧ SqT K H a xs ∧ ∀ H' u, Same H H' → SqT K H' u (cutV xs lo hi) → Q (.ref u) H'
theorem sl_tupS {X : Cx} : SlR X (rSlS X.K) := by
  intro pins s σ H x v vl vu lo hi sl Q I rx hs pl pu h
  obtain ⟨a, xs, rfl, hx, q⟩ := h
  exact sl_tupN pins s σ H _ v vl vu lo hi sl Q I rx hs pl pu ⟨a, xs, rfl, hx, fun _ e => q H a (fun _ _ h => h) (by rw [e]; exact hx), fun p np => q _ p (same_new np) (.of upd_same)⟩
end Sg

set_option Elab.async false
set_option linter.all false
set_option maxRecDepth 100000
set_option maxHeartbeats 4000000
namespace Sg
open PySem PySem.Spec PyProof.Rows L2
theorem tup_upd {K : PySem.W.Frag} {H : Hp} {p a : Addr} {xs : List V} {u o : HO} (hp : H p = some u) (hu : ∀ ys, HO.tup ys ≠ u) (hv : ∀ ob ys, HO.frz ob (.tup ys) ≠ u) (h : SqT K H a xs) : SqT K (upd H p o) a xs := by
  rcases h with (h | ⟨ob, h⟩) | h
  · exact .inl (.inl (by rw [upd_ne (ne_of h hp (hu _))]; exact h))
  · exact .inl (.inr ⟨ob, by rw [upd_ne (ne_of h hp (hv _ _))]; exact h⟩)
  · exact .inr h
theorem ixN_nat {n j : Nat} (h : j < n) : ixN n (j : Int) = some j := by
  unfold ixN
  rw [if_pos (by omega), if_pos (by omega), Int.toNat_natCast]
theorem ixN_end {n : Nat} (h : 0 < n) : ixN n (-1) = some (n - 1) := by
  unfold ixN
  rw [if_neg (by decide), if_pos (by omega)]
  congr 1
  omega
theorem mem_set {l : List Int} {i : Nat} {v x : Int} (h : x ∈ l.set i v) : x = v ∨ x ∈ l := by
  rcases List.mem_or_eq_of_mem_set h with z | z
  · exact .inr z
  · exact .inl z
theorem eraseIdx_map {f : Int → V} : ∀ (l : List Int) (j : Nat), (l.map f).eraseIdx j = (l.eraseIdx j).map f
  | [], _ => by simp
  | _ :: _, 0 => by simp
  | a :: r, j + 1 => by
    rw [List.map_cons, List.eraseIdx_cons_succ, List.eraseIdx_cons_succ, List.map_cons, eraseIdx_map r j]
theorem set_at {l : List Int} {i j : Nat} {v x : Int} (h : (l.set i v)[j]? = some x) : x = v ∨ (i ≠ j ∧ l[j]? = some x) := by
  by_cases e : i = j
  · have hm := List.mem_of_getElem? h
    subst e
    rw [List.getElem?_set_self'] at h
    left
    cases hl : l[i]? with
    | none =>
      rw [hl] at h
      exact nomatch h
    | some y =>
      rw [hl] at h
      exact (Option.some.inj h).symm
  · rw [List.getElem?_set_ne e] at h
    exact .inr ⟨e, h⟩
theorem PenAt.new {H : Hp} {p l : Addr} {o : HO} (h : PenAt H p) (n : H l = none) : PenAt (L2.upd H l o) p := h.upd (h.ne n)
theorem cut_to (xs : List V) (d : Nat) : cutV xs none (some (d : Int)) = xs.take d := by
  unfold cutV
  rw [HT.sIx_nat, HT.sIx_none]
  show (xs.drop 0).take (min d xs.length - 0) = _
  rw [List.drop_zero, Nat.sub_zero]
  rcases Nat.le_total d xs.length with h | h
  · rw [Nat.min_eq_left h]
  · rw [Nat.min_eq_right h, List.take_of_length_le h, List.take_of_length_le (Nat.le_refl _)]
theorem cut_one (xs : List V) (d : Nat) : cutV xs (some (d : Int)) (some ((d : Int) + 1)) = (xs.drop d).take 1 := by
  unfold cutV
  rw [HT.sIx_nat, show (d : Int) + 1 = ((d + 1 : Nat) : Int) from rfl, HT.sIx_nat]
  rcases Nat.lt_or_ge d xs.length with h | h
  · rw [Nat.min_eq_left (by omega), Nat.min_eq_left (by omega)]
    congr 1
    omega
  · rw [Nat.min_eq_right (by omega), Nat.min_eq_right (by omega), List.drop_of_length_le (Nat.le_refl _), List.drop_of_length_le h, List.take_nil, List.take_nil]
theorem freeS {H H' : Hp} {t : Addr} (e : Same H H') (n : H' t = none) : H t = none := by
  rcases z : H t with _ | o
  · rfl
  · rw [e _ _ z] at n
    exact nomatch n
theorem cr_sumT {X : Cx} (hc : X.calm = true) : CallR X (.builtin "sum") (fun vs H Q => ∃ (a : Addr) (ns : List Int), vs = [.ref a] ∧ SqT X.K H a (ns.map V.int) ∧ Q (.int ns.sum) H) := by
  intro pins s σ H vs us Q I r h
  obtain ⟨a, ns, rfl, hs, q⟩ := h
  obtain ⟨its, rv, ht, hz⟩ := I.tuple hs
  rw [Vals.ref1 r]
  obtain ⟨xs, e⟩ := rv.ints.allInts.items
  have hn : numsOf (intItems xs).toList = ns := by rw [← e]; exact rv.ints.numsOf
  rw [nums_intItems] at hn
  rw [e] at ht
  refine PySem.W.ktm_sumG (I.ok.hd hc) ht fun h' tk t' hk => ?_
  refine ⟨.int ns.sum, H, I.kept hk, ⟨t', ?_⟩, q⟩
  rw [preSum_eq, List.take_of_length_le (by simp), hn]
theorem rep_flat (n : Nat) (x : Int) : (List.replicate n [V.int x]).flatten = (List.replicate n x).map V.int := by
  rw [List.map_replicate]
  induction n with
  | zero => rfl
  | succ n ih => rw [List.replicate_succ, List.flatten_cons, ih, List.replicate_succ]; rfl
/-- a tuple is no pen -/
theorem PenAt.tupNe {H : Hp} {p u : Addr} {zs : List V} (h : PenAt H p) (hu : H u = some (.tup zs)) : u ≠ p := fun z => by
  subst z
  obtain ⟨_, _, _, e, _⟩ := h
  rw [hu] at e
  exact nomatch e
end Sg

set_option Elab.async false
set_option linter.all false
set_option maxRecDepth 100000
set_option maxHeartbeats 4000000
namespace Sg
open PySem PySem.Spec PyProof.Rows L2
/-! ## how many different tuples of ints a list has -/
theorem nodup_len_le {α : Type} [DecidableEq α] : ∀ (l D : List α), l.Nodup → (∀ x ∈ l, x ∈ D) → l.length ≤ D.length
  | [], _, _, _ => Nat.zero_le _
  | x :: r, D, h, s => by
    obtain ⟨h1, h2⟩ := List.nodup_cons.mp h
    have hx := s x List.mem_cons_self
    have := nodup_len_le r (D.erase x) h2 fun y hy => (List.mem_erase_of_ne (fun e => h1 (by rw [← e]; exact hy))).mpr (s y (List.mem_cons_of_mem _ hy))
    rw [List.length_erase_of_mem hx] at this
    have := List.length_pos_of_mem hx
    rw [List.length_cons]
    omega
theorem shorter {α : Type} [DecidableEq α] : ∀ (l : List α), ¬ l.Nodup → ∃ m : List α, m.length < l.length ∧ ∀ x ∈ l, x ∈ m
  | [], h => absurd List.nodup_nil h
  | x :: r, h => by
    by_cases hx : x ∈ r
    · refine ⟨r, Nat.lt_succ_self _, fun y hy => ?_⟩
      rcases List.mem_cons.mp hy with rfl | hy
      · exact hx
      · exact hy
    · obtain ⟨m, h1, h2⟩ := shorter r fun z => h (List.nodup_cons.mpr ⟨hx, z⟩)
      refine ⟨x :: m, Nat.succ_lt_succ h1, fun y hy => ?_⟩
      rcases List.mem_cons.mp hy with rfl | hy
      · exact List.mem_cons_self
      · exact List.mem_cons_of_mem _ (h2 y hy)
theorem met_nodup {α : Type} [DecidableEq α] {M V : List α} (h : M.Nodup) (h1 : ∀ x ∈ M, x ∈ V) (h2 : ∀ x ∈ V, x ∈ M) : M.length = V.length ↔ V.Nodup := by
  constructor
  · intro e
    by_cases z : V.Nodup
    · exact z
    · obtain ⟨m, l1, l2⟩ := shorter V z
      have := nodup_len_le M m h fun x hx => l2 x (h1 x hx)
      omega
  · intro z
    exact Nat.le_antisymm (nodup_len_le M V h h1) (nodup_len_le V M z h2)
def tLenSetT (K : PySem.W.Frag) (ta : TE) : TE := fun σ H Q => ta σ H fun x H1 => ∃ (l : Addr) (ks : List (Addr × List Int)), x = .ref l ∧ SqL K H1 l (ks.map fun p => V.ref p.1) ∧ (∀ p ∈ ks, SqT K H1 p.1 (p.2.map V.int)) ∧ ks.length < 64 ∧
  ∀ n : Nat, (n = ks.length ↔ (ks.map (·.2)).Nodup) → Q (.int n) H1
theorem pe_lenSetT {X : Cx} {K : PySem.W.Frag} {a : Expr} {ta : TE} {p p2 q pos : Pos} (hK : X.K = K) (hu : X.A.units + 3 < cLine) (g1 : Gl X "len") (m1 : X.mg "len" = none) (g2 : Gl X "set") (m2 : X.mg "set" = none) (ha : PE X a ta) (hc : X.calm = true := by rfl)
    (na : starEach [a] X.env = (false, eval a X.env) :: starEach [] X.env := by rfl) : PE X (.Call (.Name "len" p) [.Call (.Name "set" p2) [a] [] q] [] pos) (tLenSetT K ta) := by
  subst hK
  constructor
  intro pins s σ H Q I h
  refine Call_ ?_
  apply ld_blt I g1 m1 boot_len
  apply callWith_builtin1 _ rfl rfl
  apply args_cons _ rfl
  refine Call_ ?_
  apply ld_blt I g2 m2 boot_set
  apply callWith_type1 _ na rfl
  apply args_cons _ na
  refine thn (ha.run pins s σ H _ I h) ?_
  rintro v s1 ⟨x, H1, I1, r1, l, ks, rfl, hq, hk, hl, q1⟩
  cases r1
  apply args_nil
  obtain ⟨its, rv, pl, hz⟩ := I1.list hq
  refine call_set_tups (P := X.prog) (w := X.w) ks (I1.ok.hd hc) pl.isList (by simpa using refs_of_vals rv) (fun p hp => I1.isT (hk p hp)) hl hu fun h' tk L es ep t R g k => ?_
  apply args_nil
  have I2 : Inv X pins σ H1 { s1 with heap := h', toks := tk } := I1.kept k
  obtain ⟨o, ho, hex, hd⟩ := R.ob
  have sz := SetTR.size (s := { s1 with heap := h', toks := tk }) R
  refine call_len_set ho hex hd (SetTR.fits (s := { s1 with heap := h', toks := tk }) R) (by rw [sz]; have := R.few; omega) ⟨.int (L.length : Nat), H1, I2.tok _, ⟨_, by rw [sz]⟩, q1 L.length ?_⟩
  have mn := met_nodup (M := L.map (·.2)) (V := ks.map (·.2)) R.nd (fun x hx => ?_) (fun x hx => ?_)
  · rw [List.length_map, List.length_map] at mn
    exact mn
  · obtain ⟨p, hp, rfl⟩ := List.mem_map.mp hx
    exact List.mem_map.mpr ⟨p, List.mem_of_mem_take (g.sub p hp), rfl⟩
  · obtain ⟨p, hp, rfl⟩ := List.mem_map.mp hx
    exact g.all p (by rw [List.take_length]; exact hp)
end Sg

set_option Elab.async false
set_option linter.all false
set_option maxRecDepth 100000
set_option maxHeartbeats 4000000
namespace Sg
open PySem PySem.Spec PyProof.Rows L2 StX
/-! ## data compared -/
theorem eqv_ints : ∀ (xs ys : List Int), PyData.eqvAll (iD xs) (iD ys) = decide (xs = ys)
  | [], [] => by simp [PyData.eqvAll]
  | [], _ :: _ => by simp [PyData.eqvAll]
  | _ :: _, [] => by simp [PyData.eqvAll]
  | x :: xs, y :: ys => by
    show PyData.eqvAll (.int x :: iD xs) (.int y :: iD ys) = _
    rw [PyData.eqvAll, eqv_ints xs ys, PyData.eqv]
    by_cases h : x = y
    · subst h; simp
    · simp [h]
theorem eqv_tD (xs ys : List Int) : PyData.eqv (tD xs) (tD ys) = decide (xs = ys) := by
  show PyData.eqv (.tuple (iD xs)) (.tuple (iD ys)) = _
  rw [PyData.eqv, eqv_ints]
theorem eqv_tDs : ∀ (xs ys : List (List Int)), PyData.eqvAll (tDs xs) (tDs ys) = decide (xs = ys)
  | [], [] => by simp [PyData.eqvAll]
  | [], _ :: _ => by simp [PyData.eqvAll]
  | _ :: _, [] => by simp [PyData.eqvAll]
  | x :: xs, y :: ys => by
    show PyData.eqvAll (tD x :: tDs xs) (tD y :: tDs ys) = _
    rw [PyData.eqvAll, eqv_tDs xs ys, eqv_tD]
    by_cases h : x = y
    · subst h; simp
    · simp [h]
theorem lay_iD : ∀ (xs : List Int), PyData.canLayAll0 (iD xs) = true
  | [] => by simp [PyData.canLayAll0]
  | x :: r => by
    show PyData.canLayAll0 (.int x :: iD r) = true
    rw [PyData.canLayAll0, lay_iD r, PyData.canLay0]; rfl
theorem dep_iD : ∀ (xs : List Int), PyData.depthAll (iD xs) = 0
  | [] => by simp [PyData.depthAll]
  | x :: r => by
    show PyData.depthAll (.int x :: iD r) = 0
    rw [PyData.depthAll, dep_iD r, PyData.depth]; rfl
theorem shaped_tD (xs : List Int) : SeqAt.shaped (tD xs) = true := by
  unfold SeqAt.shaped
  have a : (tD xs).canLay0 = true := by show PyData.canLay0 (.tuple (iD xs)) = true; rw [PyData.canLay0, lay_iD]
  have b : (tD xs).depth ≤ 64 := by show PyData.depth (.tuple (iD xs)) ≤ 64; rw [PyData.depth, dep_iD]; decide
  rw [a, decide_eq_true b]; rfl
theorem lay_tDs : ∀ (xs : List (List Int)), PyData.canLayAll0 (tDs xs) = true
  | [] => by simp [PyData.canLayAll0]
  | x :: r => by
    show PyData.canLayAll0 (.tuple (iD x) :: tDs r) = true
    rw [PyData.canLayAll0, lay_tDs r, PyData.canLay0, lay_iD]; rfl
theorem dep_tDs : ∀ (xs : List (List Int)), PyData.depthAll (tDs xs) ≤ 1
  | [] => by simp [PyData.depthAll]
  | x :: r => by
    show PyData.depthAll (.tuple (iD x) :: tDs r) ≤ 1
    rw [PyData.depthAll, PyData.depth, dep_iD]
    exact Nat.max_le.mpr ⟨Nat.le_refl _, dep_tDs r⟩
theorem shaped_tDs (xs : List (List Int)) : SeqAt.shaped (.tuple (tDs xs)) = true := by
  unfold SeqAt.shaped
  have a : (PyData.tuple (tDs xs)).canLay0 = true := by rw [PyData.canLay0, lay_tDs]
  have b : (PyData.tuple (tDs xs)).depth ≤ 64 := by rw [PyData.depth]; have := dep_tDs xs; omega
  rw [a, decide_eq_true b]; rfl
end Sg
namespace Sg
open PySem PySem.Spec PyProof.Rows L2 StX
/-- a call of a def by names alone, in their order -/
def kwI {α : Type} : List α → List α → List α
  | [], ws => ws
  | _ :: _, _ => []
theorem kwI_rel {vs : List V} {us : List Value} {zs : List V} {ws : List Value} (r : Vals vs us) (rz : Vals zs ws) : Vals (kwI vs zs) (kwI us ws) := by
  cases r with
  | nil => exact rz
  | cons a r1 => exact .nil
/-- .. two names, the second one first -/
def kwG {α : Type} : List α → List α → List α
  | [], [a, b] => [b, a]
  | _, _ => []
theorem kw_rel {vs : List V} {us : List Value} {zs : List V} {ws : List Value} (r : Vals vs us) (rz : Vals zs ws) : Vals (kwG vs zs) (kwG us ws) := by
  cases r with
  | nil =>
    cases rz with
    | nil => exact .nil
    | cons a r1 =>
      cases r1 with
      | nil => exact .nil
      | cons b r2 =>
        cases r2 with
        | nil => exact .cons b (.cons a .nil)
        | cons c r3 => exact .nil
  | cons a r1 => exact .nil
section
variable {X : Cx} {CX : CXT} {k : Nat} {f : Addr} {fd : FuncData} {ps ks : List Str} {sp : Sp} {E : XK} {x : Str} {p pos : Pos} {kws : List Keyword} {tk : TA} {g : List Value → List Value → List Value} {gV : List V → List V → List V}
theorem pe_callK0 (F : FnOk X.prog X.w X.K X.mg X.base CX k f fd ps sp) (hr : Room k X.A) (hg : Gl X x) (hm : X.mg x = some (.ref f)) (hk : PySem.W.keepIn X.K (.ref f) = true) (hb : KBinds X.K fd ps ks g gV) (hx : Passes CX X E) (hkw : PK X kws tk)
    (ha : (backToKw pos (keywordEach kws X.env)).all (·.1.isSome) = true := by rfl) (hs : (backToKw pos (keywordEach kws X.env)).filterMap (·.1) = ks := by rfl) (hd : (x == ("__debug__" : Str)) = false := by decide)
    (hp : ((backTo pos (starEach [] X.env)).any (·.1) || (backToKw pos (keywordEach kws X.env)).any (·.1.isNone)) = false := by rfl) : PE X (.Call (.Name x p) [] kws pos) (tCallK sp gV E tNil tk) := by
  refine ⟨fun pins s σ H Q I h => wpAny_Call_Name_kw (ld_glob I hg hm ?_ hd)⟩
  refine PySem.W.callWith_KW0 (h₀ := X.base) I.ok.mod.kin hk ha ?_ hp
  refine thn (hkw.run pos pins s σ H _ I h) fun ws s2 ⟨zs, H2, I2, rz, q2⟩ => ⟨I2.kIn, ?_⟩
  rw [hs]
  exact run_fnk (us := []) (vs := []) F hr hb hx I2 .nil rz q2
end
end Sg

set_option Elab.async false
set_option linter.all false
set_option maxRecDepth 100000
set_option maxHeartbeats 4000000
namespace Sg
open PySem PySem.Spec PyProof.Rows L2
/-! ## set(list of ints), and sorted(..) of it -/
section
variable {P : Program} {w : World} {A : Around} {E : Value → Shared → Prop} {s : Shared}
/-- a set just made -/
abbrev noneIn (w : World) : Obj := ⟨.type "set", none, .set #[] 0 (.fresh 0 0 (!w.params.followText "set-order")), #[]⟩
/-- what is there once the list has been gone through -/
def Filled (w : World) (s : Shared) (ns : List Int) (s2 : Shared) : Prop :=
  ∃ (g : Heap) (u m : Nat), s2 = { s with heap := g, toks := u } ∧ m ≤ ns.length ∧ SetR w g s.heap.objs.size (fun j => decide (j ∈ ns)) m ∧ ∀ b o, s.heap.get? b = some o → g.get? b = some o
theorem fill_list {l : Addr} {its : Array Value} {ns : List Int} (hh : A.handled = none) (hl : s.heap.IsList l its) (hi : IntsAre its.toList ns) (hb : ns.length + 1 < scanBound) :
    wpAny (model P w) A (Builtin.«set.__init__» ⟨[.ref s.heap.objs.size, .ref l], []⟩) (fun r s2 => r = Fin.done (.ret .none) ∧ Filled w s ns s2) E { s with heap := s.heap.push (noneIn w) } := by
  have size : its.size = ns.length := by rw [← Array.length_toList]; exact hi.length
  obtain ⟨⟨c0, d0, q0, z0⟩, ho, e1, m0, e2⟩ := hl
  cases e1
  cases e2
  have at1 := Heap.get?_push_of_some (noneIn w) ho
  have atS : (s.heap.push (noneIn w)).get? s.heap.objs.size = some (noneIn w) := Heap.get?_push_size _ rfl
  have more : l < s.heap.objs.size := Heap.lt_size ho
  have k1 := F.sub_list_set
  have k2 := F.sub_list_frozenset
  have k3 : (Value.type "list" == Value.type "dict") = false := by decide
  have isL : (s.heap.push (noneIn w)).IsList l its := ⟨_, at1, rfl, m0, rfl⟩
  have long : (s.heap.push (noneIn w)).objs.size = s.heap.objs.size + 1 := Heap.size_push ..
  unfold Builtin.«set.__init__» noKeywords Builtin.Frozenset.updateFrom
  generalize gI : pyIter = PI
  wp_walk
  subst gI
  refine wpAny_pyIter_list isL (wpAny_bind (wpAny_runValue ?_))
  have apart : l ≠ (s.heap.push (noneIn w)).objs.size := by
    rw [long]
    exact fun z => Nat.ne_of_lt (Nat.lt_succ_of_lt more) z
  have off : s.heap.objs.size ∉ [(s.heap.push (noneIn w)).objs.size, l] := by
    rw [long]
    intro z
    rcases List.mem_cons.mp z with z | z
    · exact Nat.ne_of_lt (Nat.lt_succ_self _) z
    · exact Nat.ne_of_gt more (List.mem_singleton.mp z)
  have each : ∀ (i : Nat) (v : Value), its[i]? = some v → ∃ k t, ns[i]? = some k ∧ v = .int k t := fun i v hv => by
    have lt : i < ns.length := size ▸ (Array.getElem?_eq_some_iff.mp hv).1
    obtain ⟨t, e⟩ := hi.int_at i v (by rw [Array.getElem?_toList]; exact hv)
    refine ⟨ns[i], t, List.getElem?_eq_getElem lt, ?_⟩
    rw [e, List.getD_eq_getElem?_getD, List.getElem?_eq_getElem lt]; rfl
  refine set_update_ints ((Walks.list (by simp [hh]) _ l apart its).toS) s.heap.objs.size off ns size hb each its.size 0 _ (Nat.sub_zero _) (Nat.zero_le _)
    ⟨⟨_, Heap.get?_push_size _ rfl, rfl, rfl⟩, isL.push _⟩ ⟨0, Nat.le_refl 0, setR_new_at (Heap.get?_push_of_some _ atS)⟩ ?_
  rintro ⟨g, g2, d2, u2, o2⟩ m mv hm R
  obtain rfl : g2 = s.gens := mv.gens
  obtain rfl : d2 = s.drawn := mv.drawn
  obtain rfl : o2 = s.os := mv.os
  refine wpAny_pure (wpAny_pure ⟨rfl, g, u2, m, rfl, size ▸ hm, R, fun b o e => ?_⟩)
  have lt := Heap.lt_size e
  refine mv.heap b o (fun z => ?_) (Heap.get?_push_of_some _ (Heap.get?_push_of_some _ e))
  rcases List.mem_cons.mp z with z | z
  · exact Nat.ne_of_lt lt z
  · have y := List.mem_singleton.mp z
    rw [long] at y
    exact Nat.ne_of_lt (Nat.lt_succ_of_lt lt) y
theorem call_set_ints {l : Addr} {its : Array Value} {ns : List Int} {Q : Value → Shared → Prop} (hh : A.handled = none) (hl : s.heap.IsList l its) (hi : IntsAre its.toList ns) (hb : ns.length + 1 < scanBound)
    (q : ∀ s2, Filled w s ns s2 → Q (.ref s.heap.objs.size) s2) : wpAny (model P w) A (call (.type "set") [.ref l]) Q E s := by
  obtain ⟨top, rest, line⟩ := F.called_set.mro
  have c1 := F.called_set.made
  have c2 := F.called_set.sub
  have c3 := F.called_set.notType
  have c4 := F.called_set.canCreate
  have c5 := F.typeCall_set_1 (.ref l)
  have c6 := F.called_set.init.lookup
  refine wpAny_call (codeAny_of_tree (wpAny_pure ⟨Code.quiet_builtin _ (by decide +kernel), codeAny_builtin F.entry_type_call ?_⟩))
  rw [Around.under_plain (weight_type_call_type "set" [.ref l] []) rfl]
  repeat any_goals first | assumption | wp_step
  have made : (s.heap.push (noneIn w)).get? s.heap.objs.size = some (noneIn w) := Heap.get?_push_size _ rfl
  refine codeAny_mono (code_set_led1 (.ref l) (E := E) (Q₁ := fun v s1 => v = .ref s.heap.objs.size ∧ s1 = { s with heap := s.heap.push (noneIn w) }) ⟨rfl, rfl⟩) fun r s1 hr => ?_
  rcases r with e | fl
  · exact hr
  cases fl
  case ret v =>
    obtain ⟨rfl, rfl⟩ := hr
    have c7 := F.called_set.init.bind (.ref s.heap.objs.size)
    have isS : Shared.TypeIs { s with heap := s.heap.push (noneIn w) } (.ref s.heap.objs.size) "set" := ⟨_, made, rfl⟩
    repeat any_goals first | assumption | wp_step
    refine codeAny_mono (codeAny_call_builtin (R := wants (fun r s2 => r = .none ∧ Filled w s ns s2) E) F.called_set.init.plain F.entry_set_init (check_set_init_1 isS ?_)) fun r s2 hr => ?_
    · refine thn (fill_list (by simp [hh]) hl hi hb) ?_
      rintro v s3 ⟨rfl, f⟩
      exact ⟨rfl, f⟩
    rcases r with e | fl
    · exact hr
    cases fl
    case ret v =>
      obtain ⟨rfl, f⟩ := hr
      repeat any_goals first | assumption | wp_step
      exact q _ f
    all_goals exact hr.elim
  all_goals exact hr.elim
end
section
variable {X : Cx}
/-- no more members than any list that has them all -/
theorem setR_most {w : World} {h : Heap} {a : Addr} {S : Int → Bool} {n : Nat} (R : SetR w h a S n) (D : List Int) (hD : ∀ k, S k = true → k ∈ D) : n ≤ D.length := by
  obtain ⟨o, es, ep, t, _, _, _, _, nd, mem, _, _, rfl, _⟩ := R
  have := nodup_len_le (es.toList.map keyOf) D nd fun k hk => hD k ((mem k).mpr hk)
  rwa [List.length_map, Array.length_toList] at this
def rSetL (K : PySem.W.Frag) (w : World) : List V → Hp → VK → Prop := fun xs H Q => ∃ (l : Addr) (ns : List Int), xs = [V.ref l] ∧ SqL K H l (ns.map V.int) ∧ ns.length ≤ 4000 ∧
  ∀ (p : Addr) (n : Nat), H p = none → (∀ D : List Int, (∀ k ∈ ns, k ∈ D) → n ≤ D.length) → Q (.ref p) (upd H p (SetO w p (fun j => decide (j ∈ ns)) n))
theorem cr_setL (hc : X.calm = true) : CallR X (.type "set") (rSetL X.K X.w) := by
  intro pins s σ H xs us Q I r h
  obtain ⟨l, ns, rfl, hl, lt, q⟩ := h
  rw [Vals.ref1 r]
  obtain ⟨its, rv, pl, hz⟩ := I.list hl
  refine call_set_ints (P := X.prog) (w := X.w) (ns := ns) (I.ok.hd hc) pl.isList (by simpa using ints_of_vals rv) (by unfold scanBound; omega) ?_
  rintro _ ⟨g, u, m, rfl, hm, R, k⟩
  exact ⟨.ref _, _, I.laid (t' := u) k (Nat.le_refl _) (setO_new R), rfl, q _ m (I.hok.fresh (Nat.le_refl _)) fun D hD => setR_most R D fun j hj => hD j (of_decide_eq_true hj)⟩
end
end Sg

set_option Elab.async false
set_option linter.all false
set_option maxRecDepth 100000
set_option maxHeartbeats 4000000
namespace Sg
open PySem PySem.Spec PyProof.Rows L2
/-! the places of the text -/
def topS (i : Nat) : Stmt := PySem.Challenge.pw_startgaps_k32_greedy_distances.main.body.getD i (.Pass ⟨0, 0, 0, 0⟩)
abbrev s_is_int : Stmt := topS 1
theorem sc_is_int : FnScope ["thing"] ["thing"] (defScope s_is_int) := ⟨rfl, rfl, rfl, by decide +kernel, rfl, by decide +kernel, by decide +kernel⟩
abbrev s_is_between : Stmt := topS 2
theorem sc_is_between : FnScope ["thing", "least", "most"] ["thing", "least", "most"] (defScope s_is_between) := ⟨rfl, rfl, rfl, by decide +kernel, rfl, by decide +kernel, by decide +kernel⟩
abbrev s_TooMany_init : Stmt := inClass (topS 9) 0
theorem sc_TooMany_init : FnScope ["self", "amount", "limit"] ["self", "amount", "limit"] (defScope s_TooMany_init) := ⟨rfl, rfl, rfl, by decide +kernel, rfl, by decide +kernel, by decide +kernel⟩
abbrev s_TooMany_str : Stmt := inClass (topS 9) 1
theorem sc_TooMany_str : FnScope ["self"] ["self"] (defScope s_TooMany_str) := ⟨rfl, rfl, rfl, by decide +kernel, rfl, by decide +kernel, by decide +kernel⟩
abbrev s_TooFar_init : Stmt := inClass (topS 10) 0
theorem sc_TooFar_init : FnScope ["self", "bar", "limit"] ["self", "bar", "limit"] (defScope s_TooFar_init) := ⟨rfl, rfl, rfl, by decide +kernel, rfl, by decide +kernel, by decide +kernel⟩
abbrev s_TooFar_str : Stmt := inClass (topS 10) 1
theorem sc_TooFar_str : FnScope ["self"] ["self"] (defScope s_TooFar_str) := ⟨rfl, rfl, rfl, by decide +kernel, rfl, by decide +kernel, by decide +kernel⟩
abbrev s_is_work : Stmt := topS 15
theorem sc_is_work : FnScope ["thing", "item"] ["thing"] (defScope s_is_work) := ⟨rfl, rfl, rfl, by decide +kernel, rfl, by decide +kernel, by decide +kernel⟩
abbrev s_bars : Stmt := topS 16
theorem sc_bars : FnScope ["one", "other", "distance"] ["one", "other"] (defScope s_bars) := ⟨rfl, rfl, rfl, by decide +kernel, rfl, by decide +kernel, by decide +kernel⟩
abbrev s_require_work : Stmt := topS 17
theorem sc_require_work : FnScope ["thing"] ["thing"] (defScope s_require_work) := ⟨rfl, rfl, rfl, by decide +kernel, rfl, by decide +kernel, by decide +kernel⟩
abbrev s_clashes_behind : Stmt := topS 18
theorem sc_clashes_behind : FnScope ["one", "other", "distance", "here", "there"] ["one", "other", "distance"] (defScope s_clashes_behind) := ⟨rfl, rfl, rfl, by decide +kernel, rfl, by decide +kernel, by decide +kernel⟩
abbrev s_is_kind : Stmt := topS 21
theorem sc_is_kind : FnScope ["line", "thing"] ["line", "thing"] (defScope s_is_kind) := ⟨rfl, rfl, rfl, by decide +kernel, rfl, by decide +kernel, by decide +kernel⟩
abbrev s_require_kind : Stmt := topS 22
theorem sc_require_kind : FnScope ["line", "thing"] ["line", "thing"] (defScope s_require_kind) := ⟨rfl, rfl, rfl, by decide +kernel, rfl, by decide +kernel, by decide +kernel⟩
abbrev s_bars_of_all : Stmt := topS 23
theorem sc_bars_of_all : FnScope ["works", "other", "one"] ["works"] (defScope s_bars_of_all) := ⟨rfl, rfl, rfl, by decide +kernel, rfl, by decide +kernel, by decide +kernel⟩
abbrev s_Line_init : Stmt := inClass (topS 24) 0
theorem sc_Line_init : FnScope ["self", "works", "work", "row", "pair", "bar"] ["self", "works"] (defScope s_Line_init) := ⟨rfl, rfl, rfl, by decide +kernel, rfl, by decide +kernel, by decide +kernel⟩
abbrev s_Line_works : Stmt := inClass (topS 24) 1
theorem sc_Line_works : FnScope ["self"] ["self"] (defScope s_Line_works) := ⟨rfl, rfl, rfl, by decide +kernel, rfl, by decide +kernel, by decide +kernel⟩
abbrev s_Line_reach : Stmt := inClass (topS 24) 2
theorem sc_Line_reach : FnScope ["self"] ["self"] (defScope s_Line_reach) := ⟨rfl, rfl, rfl, by decide +kernel, rfl, by decide +kernel, by decide +kernel⟩
abbrev s_Line_len : Stmt := inClass (topS 24) 3
theorem sc_Line_len : FnScope ["self"] ["self"] (defScope s_Line_len) := ⟨rfl, rfl, rfl, by decide +kernel, rfl, by decide +kernel, by decide +kernel⟩
abbrev s_Line_getitem : Stmt := inClass (topS 24) 4
theorem sc_Line_getitem : FnScope ["self", "at"] ["self", "at"] (defScope s_Line_getitem) := ⟨rfl, rfl, rfl, by decide +kernel, rfl, by decide +kernel, by decide +kernel⟩
abbrev s_Line_iter : Stmt := inClass (topS 24) 5
theorem sc_Line_iter : FnScope ["self"] ["self"] (defScope s_Line_iter) := ⟨rfl, rfl, rfl, by decide +kernel, rfl, by decide +kernel, by decide +kernel⟩
abbrev s_Line_call : Stmt := inClass (topS 24) 6
theorem sc_Line_call : FnScope ["self", "one", "other"] ["self", "one", "other"] (defScope s_Line_call) := ⟨rfl, rfl, rfl, by decide +kernel, rfl, by decide +kernel, by decide +kernel⟩
abbrev s_Line_add : Stmt := inClass (topS 24) 7
theorem sc_Line_add : FnScope ["self", "other", "works"] ["self", "other"] (defScope s_Line_add) := ⟨rfl, rfl, rfl, by decide +kernel, rfl, by decide +kernel, by decide +kernel⟩
abbrev s_Line_radd : Stmt := inClass (topS 24) 8
theorem sc_Line_radd : FnScope ["self", "other"] ["self", "other"] (defScope s_Line_radd) := ⟨rfl, rfl, rfl, by decide +kernel, rfl, by decide +kernel, by decide +kernel⟩
abbrev s_Line_sub : Stmt := inClass (topS 24) 9
theorem sc_Line_sub : FnScope ["self", "other", "works"] ["self", "other"] (defScope s_Line_sub) := ⟨rfl, rfl, rfl, by decide +kernel, rfl, by decide +kernel, by decide +kernel⟩
abbrev s_Line_neg : Stmt := inClass (topS 24) 10
theorem sc_Line_neg : FnScope ["self", "works", "work"] ["self"] (defScope s_Line_neg) := ⟨rfl, rfl, rfl, by decide +kernel, rfl, by decide +kernel, by decide +kernel⟩
abbrev s_Line_eq : Stmt := inClass (topS 24) 11
theorem sc_Line_eq : FnScope ["self", "other"] ["self", "other"] (defScope s_Line_eq) := ⟨rfl, rfl, rfl, by decide +kernel, rfl, by decide +kernel, by decide +kernel⟩
abbrev s_Line_repr : Stmt := inClass (topS 24) 12
theorem sc_Line_repr : FnScope ["self"] ["self"] (defScope s_Line_repr) := ⟨rfl, rfl, rfl, by decide +kernel, rfl, by decide +kernel, by decide +kernel⟩
abbrev s_require_line : Stmt := topS 25
theorem sc_require_line : FnScope ["thing"] ["thing"] (defScope s_require_line) := ⟨rfl, rfl, rfl, by decide +kernel, rfl, by decide +kernel, by decide +kernel⟩
abbrev s_require_near : Stmt := topS 29
theorem sc_require_near : FnScope ["line", "of_one", "of_several", "limit"] ["line", "of_one", "of_several"] (defScope s_require_near) := ⟨rfl, rfl, rfl, by decide +kernel, rfl, by decide +kernel, by decide +kernel⟩
abbrev s_greedy : Stmt := topS 31
theorem sc_greedy : FnScope ["work", "line", "distances", "first"] ["work"] (defScope s_greedy) := ⟨rfl, rfl, rfl, by decide +kernel, rfl, by decide +kernel, by decide +kernel⟩
abbrev s_until_repeated : Stmt := topS 32
theorem sc_until_repeated : FnScope ["barred", "farthest", "distances", "seen", "agos", "distance", "kept", "ago"] ["barred"] (defScope s_until_repeated) := ⟨rfl, rfl, rfl, by decide +kernel, rfl, by decide +kernel, by decide +kernel⟩
abbrev s_next_distance : Stmt := topS 33
theorem sc_next_distance : FnScope ["barred", "agos", "distance", "ago"] ["barred", "agos"] (defScope s_next_distance) := ⟨rfl, rfl, rfl, by decide +kernel, rfl, by decide +kernel, by decide +kernel⟩
abbrev s_with_fewest_before : Stmt := topS 34
theorem sc_with_fewest_before : FnScope ["before", "again"] ["before", "again"] (defScope s_with_fewest_before) := ⟨rfl, rfl, rfl, by decide +kernel, rfl, by decide +kernel, by decide +kernel⟩
abbrev s_l_cell_at : Stmt := topS 36
theorem sc_l_cell_at : FnScope ["_law_script", "_law_k"] ["_law_script", "_law_k"] (defScope s_l_cell_at) := ⟨rfl, rfl, rfl, by decide +kernel, rfl, by decide +kernel, by decide +kernel⟩
abbrev s_l_pen : Stmt := topS 37
theorem sc_l_pen : FnScope ["_law_cell"] ["_law_cell"] (defScope s_l_pen) := ⟨rfl, rfl, rfl, by decide +kernel, rfl, by decide +kernel, by decide +kernel⟩
abbrev s_l_draw : Stmt := topS 38
theorem sc_l_draw : FnScope ["_law_pen_here", "_law_many", "_law_found", "_law_mixed"] ["_law_pen_here", "_law_many"] (defScope s_l_draw) := ⟨rfl, rfl, rfl, by decide +kernel, rfl, by decide +kernel, by decide +kernel⟩
abbrev s_l_pick : Stmt := topS 39
theorem sc_l_pick : FnScope ["_law_pen_here", "_law_some"] ["_law_pen_here", "_law_some"] (defScope s_l_pick) := ⟨rfl, rfl, rfl, by decide +kernel, rfl, by decide +kernel, by decide +kernel⟩
abbrev s_l_same : Stmt := topS 40
theorem sc_l_same : FnScope ["_law_found", "_law_due"] ["_law_found", "_law_due"] (defScope s_l_same) := ⟨rfl, rfl, rfl, by decide +kernel, rfl, by decide +kernel, by decide +kernel⟩
abbrev s_l_names : Stmt := topS 41
theorem sc_l_names : FnScope ["_law_pen_here", "_law_first", "_law_step", "_law_at"] ["_law_pen_here"] (defScope s_l_names) := ⟨rfl, rfl, rfl, by decide +kernel, rfl, by decide +kernel, by decide +kernel⟩
abbrev s_l_work : Stmt := topS 42
theorem sc_l_work : FnScope ["_law_pen_here", "_law_names_here", "_law_far", "_law_blocks", "_law_many", "_law_rare", "_law_items", "_law_tick", "_law_station"] ["_law_pen_here", "_law_names_here", "_law_far", "_law_blocks"] (defScope s_l_work) := ⟨rfl, rfl, rfl, by decide +kernel, rfl, by decide +kernel, by decide +kernel⟩
abbrev s_l_between : Stmt := topS 43
theorem sc_l_between : FnScope ["_law_one", "_law_other", "_law_some", "_law_tick", "_law_station", "_law_at"] ["_law_one", "_law_other"] (defScope s_l_between) := ⟨rfl, rfl, rfl, by decide +kernel, rfl, by decide +kernel, by decide +kernel⟩
abbrev s_l_walk : Stmt := topS 44
theorem sc_l_walk : FnScope ["_law_spans", "_law_reach", "_law_starts", "_law_seen", "_law_steps", "_law_now", "_law_window", "_law_one", "_law_at", "_law_tick"] ["_law_spans"] (defScope s_l_walk) := ⟨rfl, rfl, rfl, by decide +kernel, rfl, by decide +kernel, by decide +kernel⟩
abbrev s_l_greedy : Stmt := topS 45
theorem sc_l_greedy : FnScope ["_law_spans", "_law_before", "_law_again", "_law_many"] ["_law_spans"] (defScope s_l_greedy) := ⟨rfl, rfl, rfl, by decide +kernel, rfl, by decide +kernel, by decide +kernel⟩
abbrev s_law : Stmt := topS 46
theorem sc_law : FnScope ["_law_script", "_law_k", "_law_pen_here", "_law_turn", "_law_far", "_law_task", "_law_due", "_law_again"] ["_law_script"] (defScope s_law) := ⟨rfl, rfl, rfl, by decide +kernel, rfl, by decide +kernel, by decide +kernel⟩
end Sg

set_option Elab.async false
set_option linter.all false
set_option maxRecDepth 100000
set_option maxHeartbeats 4000000
namespace Sg
open PySem PySem.Spec PyProof.Rows L2 StX
section
variable {P : Program} {w : World} {K : PySem.W.Frag} {mg : Str → Option Value} {base : Heap}
/-! ### is_int, is_between: of ints -/
def spIsInt : Sp := fun vs H Q _ => ∃ i : Int, vs = [.int i] ∧ Q (.bl true) H
theorem ok_is_int {f : Addr} {fd : FuncData} {k : Nat} (F : Fun K "is_int" "is_int" s_is_int f fd) (m1 : mg "isinstance" = none) (m2 : mg "int" = none) (m3 : mg "bool" = none) :
    FnOk P w K mg base CX0 (k + 1) f fd ["thing"] spIsInt := by
  refine F.ok sc_is_int (fun vs H Q E h => ?_) (fun cdv A outer s H vs Q E hr h => ?_)
  · obtain ⟨i, rfl, _⟩ := h; rfl
  · obtain ⟨i, rfl, q⟩ := h
    refine ⟨_, pss_one (ps_ret (pe_and
      (pe_callB call_isi (by rfl) m1 (by decide +kernel) (pa_cons (pv 0) (pa_cons (pe_bltn (v := .ty "int") (by rfl) m2 (by decide +kernel) rfl) pa_nil)))
      (pe_one (pe_not (pe_callB call_isi (by rfl) m1 (by decide +kernel) (pa_cons (pv 0) (pa_cons (pe_bltn (v := .ty "bool") (by rfl) m3 (by decide +kernel) rfl) pa_nil))))))), ?_⟩
    refine ⟨.int i, rfl, .int i, .ty "int", _, _, true, rfl, .ty _, .base (.int i), kit_ty (by decide +kernel), true, rfl, iteT ?_⟩
    exact ⟨.int i, rfl, .int i, .ty "bool", _, _, false, rfl, .ty _, .base (.int i), kit_ty (by decide +kernel), false, rfl, q⟩
def spIsBetween : Sp := fun vs H Q _ => ∃ i l m : Int, vs = [.int i, .int l, .int m] ∧ Q (.bl (decide (l ≤ i) && decide (i ≤ m))) H
theorem ok_is_between {f f1 : Addr} {fd fd1 : FuncData} {k : Nat} (F : Fun K "is_between" "is_between" s_is_between f fd)
    (G1 : FnOk P w K mg base CX0 k f1 fd1 ["thing"] spIsInt) (kp1 : PySem.W.keepIn K (.ref f1) = true) (b1 : Binds K fd1 ["thing"] []) (g1 : mg "is_int" = some (.ref f1)) :
    FnOk P w K mg base CX0 (k + 1) f fd ["thing", "least", "most"] spIsBetween := by
  refine F.ok sc_is_between (fun vs H Q E h => ?_) (fun cdv A outer s H vs Q E hr h => ?_)
  · obtain ⟨i, l, m, rfl, _⟩ := h; rfl
  · obtain ⟨i, l, m, rfl, q⟩ := h
    refine ⟨_, pss_one (ps_ret (pe_and (pe_call G1 hr (by rfl) g1 kp1 b1 .nil pass0 (pa_cons (pv 0) pa_nil)) (pe_one (pe_chain op_le op_le (pv 1) (pv 0) (pv 2))))), ?_⟩
    refine ⟨.int i, rfl, i, rfl, true, rfl, iteT ?_⟩
    refine ⟨.int l, rfl, .int i, rfl, l, i, rfl, rfl, decide (l ≤ i), rfl, ?_⟩
    by_cases h1 : l ≤ i
    · rw [decide_eq_true h1] at q ⊢
      exact iteT ⟨.int m, rfl, i, m, rfl, rfl, q⟩
    · rw [decide_eq_false h1] at q ⊢
      exact iteF q
/-! ### the script's cells, the pen -/
def spCell (K : PySem.W.Frag) : Sp := fun vs H Q _ => ∃ (a : Addr) (ns : List Int) (k : Nat), vs = [.ref a, .int k] ∧ SqL K H a (ns.map V.int) ∧ ∀ r : Int, Q (.int r) H
theorem ok_l_cell_at {f : Addr} {fd : FuncData} {k : Nat} (F : Fun K "_law_cell_at" "_law_cell_at" s_l_cell_at f fd) (m1 : mg "len" = none) :
    FnOk P w K mg base CX0 (k + 1) f fd ["_law_script", "_law_k"] (spCell K) := by
  refine F.ok sc_l_cell_at (fun vs H Q E h => ?_) (fun cdv A outer s H vs Q E hr h => ?_)
  · obtain ⟨a, ns, j, rfl, _⟩ := h; rfl
  · obtain ⟨a, ns, j, rfl, hS, q⟩ := h
    refine ⟨_, pss_cons (ps_if (pt_cmpR op_lt (pv 1) (pe_callB call_len_seq (by rfl) m1 PySem.boot_len (pa_cons (pv 0) pa_nil)) (nomark _))
      (pss_one (ps_ret (pe_ix ix_list (pv 0) (pv 1) (fun _ _ => rfl)))) pss_nil) (pss_one (ps_ret pe_int)), ?_⟩
    refine ⟨.int j, rfl, .ref a, rfl, a, ns.map V.int, rfl, .inl hS, _, _, rfl, rfl, _, rfl, ite2 (fun e => ?_) (fun e => ?_)⟩
    · have e1 : (j : Int) < ((ns.map V.int).length : Nat) := of_decide_eq_true e
      have e2 : j < ns.length := by rw [List.length_map] at e1; omega
      refine ⟨.ref a, rfl, .int j, rfl, a, ns.map V.int, (j : Int), .int ns[j], rfl, rfl, hS, atI_nat ?_, q _⟩
      rw [List.getElem?_map, List.getElem?_eq_getElem e2]; rfl
    · exact q 0
def spPen : Sp := fun vs H Q _ => ∃ c : Int, vs = [.int c] ∧ ∀ H' p, H p = none → Same H H' → PenAt H' p → Q (.ref p) H'
theorem ok_l_pen {f : Addr} {fd : FuncData} {k : Nat} (F : Fun K "_law_pen" "_law_pen" s_l_pen f fd) (m1 : mg "max" = none) :
    FnOk P w K mg base CX0 (k + 1) f fd ["_law_cell"] spPen := by
  refine F.ok sc_l_pen (fun vs H Q E h => ?_) (fun cdv A outer s H vs Q E hr h => ?_)
  · obtain ⟨c, rfl, _⟩ := h; rfl
  · obtain ⟨c, rfl, q⟩ := h
    refine ⟨_, pss_one (ps_ret (pe_lst (pa_cons (pe_callB (call_max2 rfl) (by rfl) m1 (by decide +kernel) (pa_cons pe_int (pa_cons (pe_op op_sub (pv 0) (pe_op op_pow pe_int pe_int)) pa_nil)))
      (pa_cons (pe_op op_add (pe_op op_mod (pv 0) pe_int) pe_int) (pa_cons pe_int pa_nil))))), ?_⟩
    refine ⟨.int c, rfl, 10, 18, rfl, rfl, (by show (0 : Int) ≤ 18 ∧ (18 : Int) ≤ 1000000 ∧ _; decide), c, _, rfl, rfl, _, _, rfl, ?_⟩
    refine ⟨.int c, rfl, c, 2147483629, rfl, rfl, (by show (0 : Int) < 2147483629; decide), _, _, rfl, rfl, ?_⟩
    refine ⟨by show 3 ≤ sizeLine; decide, fun p hp => q _ p hp (same_new hp) ⟨_, _, _, upd_same, ?_⟩⟩
    have h1 := Int.emod_nonneg c (show (2147483629 : Int) ≠ 0 by decide)
    have h2 := Int.emod_lt_of_pos c (show (0 : Int) < 2147483629 by decide)
    constructor <;> omega
/-! ### a draw -/
def spDraw : Sp := fun vs H Q _ => ∃ (p : Addr) (m : Int), vs = [.ref p, .int m] ∧ PenAt H p ∧ 0 < m ∧ m < 1000000 ∧
  ∀ H' (r : Int), 0 ≤ r → r < m → PenAt H' p → But p H H' → Q (.int r) H'
theorem ok_l_draw {f : Addr} {fd : FuncData} {k : Nat} (F : Fun K "_law_draw" "_law_draw" s_l_draw f fd) :
    FnOk P w K mg base CX0 (k + 1) f fd ["_law_pen_here", "_law_many"] spDraw := by
  refine F.ok sc_l_draw (fun vs H Q E h => ?_) (fun cdv A outer s H vs Q E hr h => ?_)
  · obtain ⟨p, m, rfl, _⟩ := h; rfl
  · obtain ⟨p, m, rfl, ⟨a, b, c, hp, hb0, hb1⟩, hm0, hm1, q⟩ := h
    refine ⟨_, pss_cons (ps_if (pt_cmpR op_gt (pe_ix ix_list (pv 0) pe_int (fun _ _ => rfl)) pe_int (nomark _))
        (pss_cons (ps_set (i := 2) sc_l_draw.nd rfl (.inl rfl) (pe_op op_mod (pe_ix ix_list (pv 0) pe_int (fun _ _ => rfl)) (pv 1)))
        (pss_cons (ps_asg (pe_op op_fdiv (pe_ix ix_list (pv 0) pe_int (fun _ _ => rfl)) (pv 1)) (pg_sub (pv 0) pe_int set_list))
        (pss_one (ps_ret (pv 2))))) pss_nil)
      (pss_cons (ps_asg (pe_op op_add (pe_ix ix_list (pv 0) pe_int (fun _ _ => rfl)) pe_int) (pg_sub (pv 0) pe_int set_list))
      (pss_cons (ps_asg (pe_op op_mod (pe_op op_add (pe_op op_add (pe_op op_mul (pe_ix ix_list (pv 0) pe_int (fun _ _ => rfl)) pe_int)
            (pe_op op_mul pe_int (pe_ix ix_list (pv 0) pe_int (fun _ _ => rfl)))) pe_int) pe_int) (pg_sub (pv 0) pe_int set_list))
      (pss_cons (ps_set (i := 3) sc_l_draw.nd rfl (.inl rfl) (pe_op op_mod (pe_op op_add (pe_op op_add (pe_op op_mul (pe_ix ix_list (pv 0) pe_int (fun _ _ => rfl)) (pe_ix ix_list (pv 0) pe_int (fun _ _ => rfl)))
            (pe_op op_mul pe_int (pe_ix ix_list (pv 0) pe_int (fun _ _ => rfl)))) pe_int) pe_int))
      (pss_cons (ps_set (i := 3) sc_l_draw.nd rfl (.inl rfl) (pe_op op_mod (pe_op op_add (pe_op op_mul (pv 3) (pv 3)) (pe_op op_mul pe_int (pv 3))) pe_int))
      (pss_one (ps_ret (pe_op op_mod (pe_op op_fdiv (pv 3) pe_int) (pv 1)))))))), ?_⟩
    refine ⟨.ref p, rfl, p, _, 0, .int a, rfl, rfl, .of hp, atI0, a, 0, rfl, rfl, _, rfl, ite2 (fun e => ?_) (fun e => ?_)⟩
    · have ha : 0 < a := of_decide_eq_true e
      refine ⟨.ref p, rfl, p, _, 0, .int a, rfl, rfl, .of hp, atI0, .int m, rfl, a, m, rfl, rfl, hm0, ?_⟩
      refine ⟨.ref p, rfl, p, _, 0, .int a, rfl, rfl, .of hp, atI0, .int m, rfl, a, m, rfl, rfl, ⟨hm0, (by omega)⟩, ?_⟩
      refine ⟨.ref p, rfl, p, _, 0, 0, rfl, rfl, hp, rfl, ?_⟩
      refine ⟨.int (a % m), rfl, q _ _ (Int.emod_nonneg a (by omega)) (Int.emod_lt_of_pos a hm0) ⟨a / m, b, c, upd_same, hb0, hb1⟩ But.upd⟩
    · refine ⟨.ref p, rfl, p, _, 2, .int c, rfl, rfl, .of hp, atI2, c, 1, rfl, rfl, ?_⟩
      refine ⟨.ref p, rfl, p, _, 2, 2, rfl, rfl, hp, rfl, ?_⟩
      have hp1 : (upd H p (.lst [.int a, .int b, .int (c + 1)])) p = some (.lst [.int a, .int b, .int (c + 1)]) := upd_same
      refine ⟨.ref p, rfl, p, _, 1, .int b, rfl, rfl, .of hp1, atI1, b, 48271, rfl, rfl, .inl ⟨by omega, by omega⟩, ?_⟩
      refine ⟨.ref p, rfl, p, _, 2, .int (c + 1), rfl, rfl, .of hp1, atI2, 1009, c + 1, rfl, rfl, .inl (by decide), ?_⟩
      refine ⟨_, _, rfl, rfl, _, _, rfl, rfl, _, 2147483647, rfl, rfl, (by show (0 : Int) < 2147483647; decide), ?_⟩
      refine ⟨.ref p, rfl, p, _, 1, 1, rfl, rfl, hp1, rfl, ?_⟩
      dsimp only [List.set]
      generalize hb' : (b * 48271 + 1009 * (c + 1) + 7) % 2147483647 = b'
      have g1 : 0 ≤ b' := by rw [← hb']; exact Int.emod_nonneg _ (by decide)
      have g2 : b' < 2147483647 := by rw [← hb']; exact Int.emod_lt_of_pos _ (by decide)
      have hp2 : (upd (upd H p (.lst [.int a, .int b, .int (c + 1)])) p (.lst [.int a, .int b', .int (c + 1)])) p = some (.lst [.int a, .int b', .int (c + 1)]) := upd_same
      refine ⟨.ref p, rfl, p, _, 1, .int b', rfl, rfl, .of hp2, atI1, .ref p, rfl, p, _, 1, .int b', rfl, rfl, .of hp2, atI1, b', b', rfl, rfl, .inl ⟨by omega, by omega⟩, ?_⟩
      refine ⟨.ref p, rfl, p, _, 1, .int b', rfl, rfl, .of hp2, atI1, 69621, b', rfl, rfl, .inl (by decide), ?_⟩
      refine ⟨_, _, rfl, rfl, _, _, rfl, rfl, _, 2147483629, rfl, rfl, (by show (0 : Int) < 2147483629; decide), ?_⟩
      dsimp only
      generalize ht : (b' * b' + 69621 * b' + 11) % 2147483629 = t
      have t1 : 0 ≤ t := by rw [← ht]; exact Int.emod_nonneg _ (by decide)
      have t2 : t < 2147483629 := by rw [← ht]; exact Int.emod_lt_of_pos _ (by decide)
      refine ⟨.int t, rfl, .int t, rfl, t, t, rfl, rfl, .inl ⟨by omega, by omega⟩, .int t, rfl, 40014, t, rfl, rfl, .inl (by decide), _, _, rfl, rfl, _, 2147483587, rfl, rfl, (by show (0 : Int) < 2147483587; decide), ?_⟩
      refine ⟨_, rfl, _, 16, rfl, rfl, ⟨by decide, by decide⟩, .int m, rfl, _, m, rfl, rfl, hm0, ?_⟩
      refine q _ _ (Int.emod_nonneg _ (by omega)) (Int.emod_lt_of_pos _ hm0) ⟨a, b', c + 1, upd_same, by omega, by omega⟩ ?_
      exact But.upd.trans But.upd
end
end Sg

set_option Elab.async false
set_option linter.all false
set_option maxRecDepth 100000
set_option maxHeartbeats 4000000
namespace Sg
open PySem PySem.Spec PyProof.Rows L2
section
variable {P : Program} {w : World} {K : PySem.W.Frag} {mg : Str → Option Value} {base : Heap}
/-! ### is_work, of a work -/
def spIsWork (K : PySem.W.Frag) : Sp := fun vs H Q _ => ∃ (a : Addr) (ns : List Int), vs = [.ref a] ∧ SqT K H a (ns.map V.int) ∧ IsWork ns ∧ ∀ H', Same H H' → Q (.bl true) H'
theorem ok_is_work {f f1 : Addr} {fd fd1 : FuncData} {k : Nat} (F : Fun K "is_work" "is_work" s_is_work f fd) (N : Nums mg)
    (G1 : FnOk P w K mg base CX0 k f1 fd1 ["thing", "least", "most"] spIsBetween) (kp1 : PySem.W.keepIn K (.ref f1) = true) (b1 : Binds K fd1 ["thing", "least", "most"] []) (g1 : mg "is_between" = some (.ref f1))
    (m1 : mg "isinstance" = none) (m2 : mg "tuple" = none) (m3 : mg "len" = none) (m4 : mg "all" = none) :
    FnOk P w K mg base CX0 (k + 1) f fd ["thing"] (spIsWork K) := by
  obtain ⟨t1, n1⟩ := N.nowhere
  obtain ⟨t2, n2⟩ := N.stations
  obtain ⟨t3, n3⟩ := N.most
  refine F.ok sc_is_work (fun vs H Q E h => ?_) (fun cdv A outer s H vs Q E hr h => ?_)
  · obtain ⟨a, ns, rfl, _⟩ := h; rfl
  · obtain ⟨a, ns, rfl, hS, hw, q⟩ := h
    refine ⟨_, pss_cons (ps_if (PW.pt (pw_or (pt_not (pt_val (pe_callB call_isi (by rfl) m1 (by decide +kernel) (pa_cons (pv 0) (pa_cons (pe_bltn (v := .ty "tuple") (by rfl) m2 (by decide +kernel) rfl) pa_nil)))))
          (pw_or1 (pt_not (pt_chain op_le op_le pe_int (pe_callB call_len_seq (by rfl) m3 PySem.boot_len (pa_cons (pv 0) pa_nil)) (pe_glob (v := .int 60) (by rfl) n3 ⟨_, rfl⟩))))))
        (pss_one (ps_ret pe_bl)) pss_nil)
      (pss_cons (ps_if (pt_not (pt_val (pe_callB (cr_all rfl) (by rfl) m4 (by decide +kernel) (pa_cons
          (pe_lc (own := [("item", 1)]) (g := gName 1) (tt := tYes) rfl sc_is_work.nd (pi_tup (pv 0)) (blkOk_by (N := ["thing", "item"]) (sc := defScope s_is_work) (by decide +kernel))
            (fun _ _ _ _ _ => pg_name (i := 1) sc_is_work.nd rfl (Or.inl rfl)) (fun _ _ _ _ _ => pts_nil)
            (fun _ _ _ _ _ => pe_call G1 hr (by rfl) g1 kp1 b1 .nil pass0 (pa_cons (pv 1) (pa_cons (pe_glob (v := .int (-1)) (by rfl) n1 ⟨_, rfl⟩) (pa_cons (pe_op op_sub (pe_glob (v := .int 10) (by rfl) n2 ⟨_, rfl⟩) pe_int) pa_nil))))) pa_nil))))
        (pss_one (ps_ret pe_bl)) pss_nil)
      (pss_one (ps_ret (pe_and (pe_cmpR op_ne (pe_ix ix_tup (pv 0) pe_int (fun _ _ => rfl)) (pe_glob (v := .int (-1)) (by rfl) n1 ⟨_, rfl⟩) (nomark _))
        (pe_one (pe_cmpR op_ne (pe_ix ix_tup (pv 0) (pe_un un_neg pe_int) (fun _ _ => rfl)) (pe_glob (v := .int (-1)) (by rfl) n1 ⟨_, rfl⟩) (nomark _))))))), ?_⟩
    have l1 : ((ns.map V.int).length : Int) = ns.length := by rw [List.length_map]
    refine ⟨.ref a, rfl, .ref a, .ty "tuple", _, _, true, rfl, .ty _, tyT hS, kit_ty (by decide +kernel), true, rfl, iteF ?_⟩
    refine ⟨.ref a, rfl, a, ns.map V.int, rfl, .inr hS, 1, _, rfl, rfl, _, rfl, ?_⟩
    have c1 : decide ((1 : Int) ≤ ((ns.map V.int).length : Nat)) = true := decide_eq_true (by rw [List.length_map]; have := hw.pos; omega)
    rw [c1]
    refine iteT ⟨_, 60, rfl, rfl, _, rfl, ?_⟩
    have c2 : decide ((((ns.map V.int).length : Nat) : Int) ≤ 60) = true := decide_eq_true (by rw [List.length_map]; have := hw.most; omega)
    rw [c2]
    refine iteF ?_
    refine ⟨.ref a, rfl, a, rfl, ⟨_, hS⟩, fun D hD => ?_⟩
    refine lc_tup (xs := ns.map V.int) (fun i H' => Same H H' ∧ H' D = some (.lst ((((ns.take i).map inR)).map V.bl))) ⟨same_new hD, upd_same⟩ (fun i H' _ h => Same.tup h.1 hS) (fun i x H' hx h => ?_) (fun H' h => ?_)
    · rw [List.getElem?_map] at hx
      obtain ⟨z, hz, rfl⟩ := Option.map_eq_some_iff.mp hx
      have hl : i < ns.length := (List.getElem?_eq_some_iff.mp hz).1
      refine ⟨rfl, .int z, rfl, 10, 1, rfl, rfl, z, -1, _, rfl, ?_⟩
      refine ⟨_, h.2, ?_, fun b o e => ?_, ?_⟩
      · rw [List.length_map, List.length_map, List.length_take]
        have := hw.most
        exact small1000 (by omega)
      · rw [upd_ne (ne_of_none e hD)]
        exact h.1 _ _ e
      · rw [upd_same, List.take_add_one, hz, List.map_append, List.map_append]
        rfl
    · have hall : (((ns.take ns.length).map inR)).all id = true := by
        rw [List.take_length, List.all_map, List.all_eq_true]
        intro x hx
        have := hw.items x hx
        simp [inR, this.1, this.2]
      have h2 := h.2
      rw [List.length_map] at h2
      refine ⟨D, _, rfl, .of h2, true, congrArg V.bl hall, iteF ?_⟩
      have hS' : SqT K H' a (ns.map V.int) := Same.tup h.1 hS
      obtain ⟨x, hx⟩ : ∃ x, ns[0]? = some x := ⟨ns[0]'(hw.pos), List.getElem?_eq_getElem _⟩
      have hpos := hw.pos
      obtain ⟨y, hy⟩ : ∃ y, ns[ns.length - 1]? = some y := ⟨ns[ns.length - 1]'(by omega), List.getElem?_eq_getElem _⟩
      have gx : (ns.map V.int)[0]? = some (.int x) := by rw [List.getElem?_map, hx]; rfl
      have gy : atI (ns.map V.int) (-1) = some (.int y) := by
        have hne : ns ≠ [] := fun z => by rw [z] at hpos; exact absurd hpos (by decide)
        have e1 : ns = ns.dropLast ++ [y] := by
          have e2 : ns.getLast hne = y := by
            have := List.getLast_eq_getElem hne
            rw [this]
            exact (List.getElem?_eq_some_iff.mp hy).2
          rw [← e2, List.dropLast_concat_getLast]
        rw [e1, List.map_append]
        exact atI_last _ _
      refine ⟨.ref a, rfl, a, _, 0, .int x, rfl, rfl, hS', atI_nat (j := 0) gx, rfl, ?_⟩
      have d1 : decide (V.int x = V.int (-1)) = false := decide_eq_false fun z => hw.head x hx (V.int.inj z)
      rw [d1]
      refine ⟨true, rfl, iteT ?_⟩
      refine ⟨.ref a, rfl, 1, rfl, a, _, -1, .int y, rfl, rfl, hS', gy, rfl, ?_⟩
      have d2 : decide (V.int y = V.int (-1)) = false := decide_eq_false fun z => hw.last y hy (V.int.inj z)
      rw [d2]
      exact q H' h.1
def spReq (K : PySem.W.Frag) : Sp := fun vs H Q _ => ∃ (a : Addr) (ns : List Int), vs = [.ref a] ∧ SqT K H a (ns.map V.int) ∧ IsWork ns ∧ ∀ H', Same H H' → Q .non H'
theorem ok_require_work {f f1 : Addr} {fd fd1 : FuncData} {k : Nat} (F : Fun K "require_work" "require_work" s_require_work f fd)
    (G1 : FnOk P w K mg base CX0 k f1 fd1 ["thing"] (spIsWork K)) (kp1 : PySem.W.keepIn K (.ref f1) = true) (b1 : Binds K fd1 ["thing"] []) (g1 : mg "is_work" = some (.ref f1)) :
    FnOk P w K mg base CX0 (k + 1) f fd ["thing"] (spReq K) := by
  refine F.ok sc_require_work (fun vs H Q E h => ?_) (fun cdv A outer s H vs Q E hr h => ?_)
  · obtain ⟨a, ns, rfl, _⟩ := h; rfl
  · obtain ⟨a, ns, rfl, hS, hw, q⟩ := h
    refine ⟨_, pss_one (ps_if (pt_not (pt_val (pe_call G1 hr (by rfl) g1 kp1 b1 .nil pass0 (pa_cons (pv 0) pa_nil)))) (pss_one ps_never) pss_nil), ?_⟩
    exact ⟨.ref a, rfl, a, ns, rfl, hS, hw, fun H' sm => ⟨true, rfl, iteF (q H' sm)⟩⟩
/-! ### _clashes_behind -/
def spClash (K : PySem.W.Frag) : Sp := fun vs H Q _ => ∃ (a b : Addr) (one other : List Int) (d : Nat), vs = [.ref a, .ref b, .int d] ∧ SqT K H a (one.map V.int) ∧ SqT K H b (other.map V.int) ∧ one.length ≤ 60 ∧ 1 ≤ d ∧ d < one.length ∧
  ∀ H', Same H H' → Q (.bl (clashB one other d)) H'
theorem ok_clashes_behind {f : Addr} {fd : FuncData} {k : Nat} (F : Fun K "_clashes_behind" "_clashes_behind" s_clashes_behind f fd) (N : Nums mg) (m1 : mg "any" = none) (m2 : mg "zip" = none) :
    FnOk P w K mg base CX0 (k + 1) f fd ["one", "other", "distance"] (spClash K) := by
  obtain ⟨t1, n1⟩ := N.nowhere
  refine F.ok sc_clashes_behind (fun vs H Q E h => ?_) (fun cdv A outer s H vs Q E hr h => ?_)
  · obtain ⟨a, b, o1, o2, d, rfl, _⟩ := h; rfl
  · obtain ⟨a, b, one, other, d, rfl, hA, hB, hm, hd1, hd2, q⟩ := h
    refine ⟨_, pss_one (ps_ret (pe_callB (cr_any rfl) (by rfl) m1 (by decide +kernel) (pa_cons
      (pe_lc (own := [("here", 3), ("there", 4)]) (g := gTup K 2 (gCons (gName 3) (gCons (gName 4) gNil))) (tt := tYes) rfl sc_clashes_behind.nd (RZ.pi_zipA (by rfl) m2 (pa_cons (pe_slice sl_tup (pv 0) (po_some (pv 2)) po_none) (pa_cons (pv 1) pa_nil)))
        (blkOk_by (N := ["one", "other", "distance", "here", "there"]) (sc := defScope s_clashes_behind) (by decide +kernel))
        (fun _ _ _ _ _ => pg_tup rfl (pgs_cons (pg_name (i := 3) sc_clashes_behind.nd rfl (Or.inl rfl)) (pgs_cons (pg_name (i := 4) sc_clashes_behind.nd rfl (Or.inl rfl)) pgs_nil)))
        (fun _ _ _ _ _ => pts_nil)
        (fun _ _ _ _ _ => pe_and (pe_cmpR op_eq (pv 3) (pv 4) (nomark _)) (pe_one (pe_cmpR op_ne (pv 3) (pe_glob (v := .int (-1)) (by rfl) n1 ⟨_, rfl⟩) (nomark _))))) pa_nil))), ?_⟩
    have hcut : cutV (one.map V.int) (some (d : Int)) none = (one.drop d).map V.int := by rw [cut_from, List.map_drop]
    refine ⟨.ref a, rfl, .int d, rfl, d, rfl, a, _, rfl, hA, ?_, fun c nc => ?_⟩
    · rintro ⟨z, _⟩
      rw [HT.sIx_nat, List.length_map] at z
      omega
    rw [hcut]
    have s1 : Same H (upd H c (.tup ((one.drop d).map V.int))) := same_new nc
    refine ⟨.ref b, rfl, c, b, _, _, rfl, .inr ⟨.of upd_same, Same.tup s1 hB, fun D hD => ?_⟩⟩
    have s2 : Same (upd H c (.tup ((one.drop d).map V.int))) (upd (upd H c (.tup ((one.drop d).map V.int))) D (.lst [])) := same_new hD
    have hc0 : (upd H c (.tup ((one.drop d).map V.int))) c = some (.tup ((one.drop d).map V.int)) := upd_same
    refine lc_it (walk_zipT (xs := (one.drop d).map V.int) (ys := other.map V.int) (n := min (one.drop d).length other.length) (by rw [List.length_map, List.length_map]))
      (fun i H' => Same (upd H c (.tup ((one.drop d).map V.int))) H' ∧ H' D = some (.lst ((hitsTo one other d i).map V.bl))) ⟨s2, upd_same⟩
      (fun i H' _ h => ⟨.of (h.1 _ _ hc0), Same.tup (s1.trans h.1) hB⟩) (fun i x H' H'' hi h hY => ?_) (fun H' h => ?_)
    · obtain ⟨T, x1, x2, rfl, nT, rfl, f1, f2⟩ := hY
      dsimp only at f1 f2
      rw [List.getElem?_map] at f1 f2
      obtain ⟨z1, hz1, rfl⟩ := Option.map_eq_some_iff.mp f1
      obtain ⟨z2, hz2, rfl⟩ := Option.map_eq_some_iff.mp f2
      have nTD : D ≠ T := ne_of_none h.2 nT
      refine ⟨T, _, rfl, .of upd_same, rfl, _, _, rfl, _, _, rfl, rfl, rfl, ?_⟩
      have fin : ∀ bb : Bool, bb = (z1 == z2 && z1 != -1) → ∃ acc, (upd H' T (.tup [V.int z1, V.int z2])) D = some (.lst acc) ∧ acc.length < sizeLine ∧
          (Same (upd H c (.tup ((one.drop d).map V.int))) (upd (upd H' T (.tup [V.int z1, V.int z2])) D (.lst (acc ++ [V.bl bb]))) ∧ (upd (upd H' T (.tup [V.int z1, V.int z2])) D (.lst (acc ++ [V.bl bb]))) D = some (.lst ((hitsTo one other d (i + 1)).map V.bl))) := by
        rintro bb rfl
        refine ⟨_, by rw [upd_ne nTD]; exact h.2, ?_, fun y o e => ?_, ?_⟩
        · rw [List.length_map]
          have := hits_len one other d i
          exact small1000 (by rw [List.length_drop] at hi; omega)
        · rw [upd_ne (ne_of_none e hD)]
          exact same_new nT _ _ (h.1 _ _ e)
        · rw [upd_same, hits_succ hz1 hz2, List.map_append]
          rfl
      refine ⟨.int z1, rfl, .int z2, rfl, rfl, ?_⟩
      by_cases hz : z1 = z2
      · subst hz
        rw [decide_eq_true (rfl : V.int z1 = V.int z1)]
        refine ⟨true, rfl, iteT ⟨.int z1, rfl, rfl, ?_⟩⟩
        refine fin _ ?_
        by_cases hn : z1 = -1
        · subst hn; rfl
        · rw [decide_eq_false fun z => hn (V.int.inj z)]
          simp [hn]
      · rw [decide_eq_false fun z => hz (V.int.inj z)]
        refine ⟨false, rfl, iteF (fin _ ?_)⟩
        simp [hz]
    · refine ⟨D, _, rfl, .of h.2, ?_⟩
      rw [hits_any]
      exact q H' (s1.trans h.1)
/-! ### bars -/
def spBars (K : PySem.W.Frag) : Sp := fun vs H Q _ => ∃ (a b : Addr) (one other : List Int), vs = [.ref a, .ref b] ∧ SqT K H a (one.map V.int) ∧ SqT K H b (other.map V.int) ∧ IsWork one ∧ IsWork other ∧
  ∀ H' p, Same H H' → H p = none → H' p = some (.tup (nV (barsN one other))) → Q (.ref p) H'
theorem ok_bars {f f1 f2 : Addr} {fd fd1 fd2 : FuncData} {k : Nat} (F : Fun K "bars" "bars" s_bars f fd)
    (G1 : FnOk P w K mg base CX0 k f1 fd1 ["thing"] (spReq K)) (kp1 : PySem.W.keepIn K (.ref f1) = true) (b1 : Binds K fd1 ["thing"] []) (g1 : mg "require_work" = some (.ref f1))
    (G2 : FnOk P w K mg base CX0 k f2 fd2 ["one", "other", "distance"] (spClash K)) (kp2 : PySem.W.keepIn K (.ref f2) = true) (b2 : Binds K fd2 ["one", "other", "distance"] []) (g2 : mg "_clashes_behind" = some (.ref f2))
    (m1 : mg "tuple" = none) (m2 : mg "range" = none) (m3 : mg "len" = none) :
    FnOk P w K mg base CX0 (k + 1) f fd ["one", "other"] (spBars K) := by
  refine F.ok sc_bars (fun vs H Q E h => ?_) (fun cdv A outer s H vs Q E hr h => ?_)
  · obtain ⟨a, b, o1, o2, rfl, _⟩ := h; rfl
  · obtain ⟨a, b, one, other, rfl, hA, hB, w1, w2, q⟩ := h
    refine ⟨_, pss_cons (ps_expr (pe_call G1 hr (by rfl) g1 kp1 b1 .nil pass0 (pa_cons (pv 0) pa_nil))) (pss_cons (ps_expr (pe_call G1 hr (by rfl) g1 kp1 b1 .nil pass0 (pa_cons (pv 1) pa_nil)))
      (pss_one (ps_ret (pe_callTy call_tuple_of (by rfl) m1 (by decide +kernel) (pa_cons
        (pe_lc (own := [("distance", 2)]) (g := gName 2) rfl sc_bars.nd (pi_range2 (by rfl) m2 (pa_cons pe_int (pa_cons (pe_callB call_len_seq (by rfl) m3 PySem.boot_len (pa_cons (pv 0) pa_nil)) pa_nil)))
          (blkOk_by (N := ["one", "other", "distance"]) (sc := defScope s_bars) (by decide +kernel))
          (fun _ _ _ _ _ => pg_name (i := 2) sc_bars.nd rfl (Or.inl rfl))
          (fun _ _ _ _ _ => pts_one (pt_val (pe_call G2 hr (by rfl) g2 kp2 b2 .nil pass0 (pa_cons (pv 0) (pa_cons (pv 1) (pa_cons (pv 2) pa_nil))))))
          (fun _ _ _ _ _ => pv 2)) pa_nil))))), ?_⟩
    refine ⟨.ref a, rfl, a, one, rfl, hA, w1, fun H1 e1 => ?_⟩
    refine ⟨.ref b, rfl, b, other, rfl, Same.tup e1 hB, w2, fun H2 e2 => ?_⟩
    have e12 : Same H H2 := e1.trans e2
    have hA2 := Same.tup e12 hA
    have hB2 := Same.tup e12 hB
    refine ⟨.ref a, rfl, a, one.map V.int, rfl, .inr hA2, 1, _, rfl, ?_, fun D hD => ?_⟩
    · rw [List.length_map]
      have := w1.most
      omega
    have en : (((one.map V.int).length : Int) - 1).toNat = one.length - 1 := by rw [List.length_map]; omega
    rw [en]
    refine lc_range (lo := 1) (n := one.length - 1) (fun i H' => Same H2 H' ∧ H' D = some (.lst (nV (barsTo one other i)))) ⟨same_new hD, upd_same⟩ (fun i H' hi h => ?_) (fun H' h => ?_)
    · refine ⟨rfl, ?_⟩
      have ed : ((1 : Int) + (i : Int)) = ((1 + i : Nat) : Int) := by omega
      refine ⟨.ref a, rfl, .ref b, rfl, .int (1 + i), rfl, a, b, one, other, 1 + i, by rw [ed]; rfl, Same.tup h.1 hA2, Same.tup h.1 hB2, w1.most, by omega, by omega, fun H'' e3 => ?_⟩
      refine ⟨_, rfl, ?_⟩
      have hD3 := e3 _ _ h.2
      cases hc : clashB one other (1 + i) with
      | true =>
        refine iteT ⟨_, rfl, _, hD3, ?_, fun y o e => ?_, ?_⟩
        · rw [List.length_map]
          have := barsTo_len one other i
          have := w1.most
          exact small1000 (by omega)
        · rw [upd_ne (ne_of_none e hD)]
          exact e3 _ _ (h.1 _ _ e)
        · rw [upd_same, barsTo_yes hc]
      | false =>
        refine iteF ⟨h.1.trans e3, ?_⟩
        rw [barsTo_no hc]
        exact hD3
    · refine ⟨D, _, rfl, .inl ⟨.of h.2, fun l hl => ?_⟩⟩
      have e3 : Same H H' := e12.trans h.1
      exact q _ l (e3.trans (same_new hl)) (Same.free e3 hl) upd_same
end
end Sg

set_option Elab.async false
set_option linter.all false
set_option maxRecDepth 100000
set_option maxHeartbeats 4000000
namespace Sg
open PySem PySem.Spec PyProof.Rows L2
section
variable {P : Program} {w : World} {K : PySem.W.Frag} {mg : Str → Option Value} {base : Heap}
/-! ### len -/
def spLen (K : PySem.W.Frag) (C : Addr) : Sp := fun vs H Q _ => ∃ (a : Addr) (ws : List (List Int)), vs = [.ref a] ∧ LineAt K C H a ws ∧ Q (.int (ws.length : Nat)) H
theorem ok_len {f C : Addr} {fd : FuncData} {k : Nat} (F : Fun K "__len__" "Line.__len__" s_Line_len f fd) (T : LC K mg C) (m1 : mg "len" = none) :
    FnOk P w K mg base CX0 (k + 1) f fd ["self"] (spLen K C) := by
  refine F.ok sc_Line_len (fun vs H Q E h => ?_) (fun cdv A outer s H vs Q E hr h => ?_)
  · obtain ⟨a, ws, rfl, _⟩ := h; rfl
  · obtain ⟨a, ws, rfl, ⟨dx, t, b, r, h1, h2, h3, h4, h5⟩, q⟩ := h
    refine ⟨_, pss_one (ps_ret (pe_callB call_len_seq (by rfl) m1 PySem.boot_len (pa_cons (pe_fld (pv 0) rfl) pa_nil))), ?_⟩
    obtain ⟨t', xs, e, hS, hT⟩ := h2.toTup
    cases e
    refine ⟨.ref a, rfl, a, C, dx, _, _, rfl, h1, T.cl, T.nW, lf_works _ _ _, t, xs, rfl, .inr hS, ?_⟩
    have e := hT.len
    rw [List.length_map] at e
    rw [e]
    exact q
/-! ### is_kind -/
def spIsKind (K : PySem.W.Frag) (C : Addr) : Sp := fun vs H Q _ => ∃ (a : Addr) (ws : List (List Int)) (i : Int), vs = [.ref a, .int i] ∧ LineAt K C H a ws ∧ Q (.bl (decide (0 ≤ i) && decide (i ≤ (ws.length : Nat) - 1))) H
theorem ok_is_kind {f f1 f2 C : Addr} {fd fd1 fd2 : FuncData} {k : Nat} (F : Fun K "is_kind" "is_kind" s_is_kind f fd) (T : LC K mg C) (m1 : mg "len" = none)
    (G1 : FnOk P w K mg base CX0 k f1 fd1 ["thing", "least", "most"] spIsBetween) (kp1 : PySem.W.keepIn K (.ref f1) = true) (b1 : Binds K fd1 ["thing", "least", "most"] []) (g1 : mg "is_between" = some (.ref f1))
    (G2 : FnOk P w K mg base CX0 k f2 fd2 ["self"] (spLen K C)) (b2 : Binds K fd2 ["self"] []) (s2 : PySem.W.findIn K (.ref C) "__len__" = some (some (.ref f2))) (i2 : PySem.W.isFn K (.ref f2) = true) :
    FnOk P w K mg base CX0 (k + 2) f fd ["line", "thing"] (spIsKind K C) := by
  refine F.ok sc_is_kind (fun vs H Q E h => ?_) (fun cdv A outer s H vs Q E hr h => ?_)
  · obtain ⟨a, ws, i, rfl, _⟩ := h; rfl
  · obtain ⟨a, ws, i, rfl, hL, q⟩ := h
    refine ⟨_, pss_one (ps_ret (pe_call G1 (hr.mono (Nat.le_succ k)) (by rfl) g1 kp1 b1 .nil pass0 (pa_cons (pv 1) (pa_cons pe_int (pa_cons (pe_op op_sub (pe_callB (call_lenO G2 hr b2 s2 i2) (by rfl) m1 PySem.boot_len (pa_cons (pv 0) pa_nil)) pe_int) pa_nil))))), ?_⟩
    refine ⟨.int i, rfl, .ref a, rfl, a, rfl, hL.ins, a, ws, rfl, hL, ws.length, rfl, ?_, _, 1, rfl, rfl, i, 0, _, rfl, q⟩
    have := hL.good.few
    omega
def spReqKind (K : PySem.W.Frag) (C : Addr) : Sp := fun vs H Q _ => ∃ (a : Addr) (ws : List (List Int)) (i : Nat), vs = [.ref a, .int i] ∧ LineAt K C H a ws ∧ i < ws.length ∧ Q .non H
theorem ok_require_kind {f f1 C : Addr} {fd fd1 : FuncData} {k : Nat} (F : Fun K "require_kind" "require_kind" s_require_kind f fd)
    (G1 : FnOk P w K mg base CX0 k f1 fd1 ["line", "thing"] (spIsKind K C)) (kp1 : PySem.W.keepIn K (.ref f1) = true) (b1 : Binds K fd1 ["line", "thing"] []) (g1 : mg "is_kind" = some (.ref f1)) :
    FnOk P w K mg base CX0 (k + 1) f fd ["line", "thing"] (spReqKind K C) := by
  refine F.ok sc_require_kind (fun vs H Q E h => ?_) (fun cdv A outer s H vs Q E hr h => ?_)
  · obtain ⟨a, ws, i, rfl, _⟩ := h; rfl
  · obtain ⟨a, ws, i, rfl, hL, hi, q⟩ := h
    refine ⟨_, pss_one (ps_if (pt_not (pt_val (pe_call G1 hr (by rfl) g1 kp1 b1 .nil pass0 (pa_cons (pv 0) (pa_cons (pv 1) pa_nil))))) (pss_one ps_never) pss_nil), ?_⟩
    refine ⟨.ref a, rfl, .int i, rfl, a, ws, i, rfl, hL, ?_⟩
    rw [decide_eq_true (show (0 : Int) ≤ i by omega), decide_eq_true (show (i : Int) ≤ (ws.length : Nat) - 1 by omega)]
    exact ⟨true, rfl, iteF q⟩
/-! ### _bars_of_all -/
def spBarsAll (K : PySem.W.Frag) : Sp := fun vs H Q _ => ∃ (a : Addr) (ws : List (List Int)), vs = [.ref a] ∧ Tp K H (.ref a) (.tuple (tDs ws)) ∧ GoodL ws ∧
  ∀ H' p, Same H H' → Tp K H' (.ref p) (.tuple (barD ws)) → Q (.ref p) H'
theorem ok_bars_of_all {f f1 : Addr} {fd fd1 : FuncData} {k : Nat} (F : Fun K "_bars_of_all" "_bars_of_all" s_bars_of_all f fd) (m1 : mg "tuple" = none)
    (G1 : FnOk P w K mg base CX0 k f1 fd1 ["one", "other"] (spBars K)) (kp1 : PySem.W.keepIn K (.ref f1) = true) (b1 : Binds K fd1 ["one", "other"] []) (g1 : mg "bars" = some (.ref f1)) :
    FnOk P w K mg base CX0 (k + 1) f fd ["works"] (spBarsAll K) := by
  refine F.ok sc_bars_of_all (fun vs H Q E h => ?_) (fun cdv A outer s H vs Q E hr h => ?_)
  · obtain ⟨a, ws, rfl, _⟩ := h; rfl
  · obtain ⟨a, ws, rfl, hW, hg, q⟩ := h
    refine ⟨_, pss_one (ps_ret (pe_callTy call_tuple_of (by rfl) m1 (by decide +kernel) (pa_cons
      (pe_lc (own := [("one", 2)]) (g := gName 2) (tt := tYes) rfl sc_bars_of_all.nd (pi_tup (pv 0)) (blkOk_by (N := ["works", "other", "one"]) (sc := defScope s_bars_of_all) (by decide +kernel))
        (fun _ _ _ _ _ => pg_name (i := 2) sc_bars_of_all.nd rfl (Or.inr rfl)) (fun _ _ _ _ _ => pts_nil)
        (fun s' H' C' cl fp => pe_callTy (call_tuple_ofK (K := K) rfl) (by rfl) m1 (by decide +kernel) (pa_cons
          (pe_lc (own := [("other", 1)]) (g := gName 1) (tt := tYes) rfl sc_bars_of_all.nd (pi_tupK (K := K) rfl (pv 0)) (blkOk_by (by rfl))
            (fun _ _ _ _ _ => pg_name (i := 1) sc_bars_of_all.nd rfl (Or.inl rfl)) (fun _ _ _ _ _ => pts_nil)
            (fun _ _ _ _ _ => pe_call G1 hr (by rfl) g1 kp1 b1 .nil pass0 (pa_cons (pv 2) (pa_cons (pv 1) pa_nil)))) pa_nil))) pa_nil))), ?_⟩
    obtain ⟨a', xs, ea, hS, hT⟩ := hW.toTup
    cases ea
    have hlen := hT.len
    rw [List.length_map] at hlen
    refine ⟨.ref a, rfl, a, rfl, ⟨_, hS⟩, fun D hD => ?_⟩
    refine lc_tup (xs := xs) (fun i H' => Grow K H D (barD ws) i H') (.zero hD) (fun i H' _ h => Same.tup h.1 hS) (fun i x H' hx h => ?_) (fun H' h => ?_)
    · obtain ⟨o, c1, ho, rfl, hc1⟩ := hT.works hx
      have fewr : (ws.map (cellD o)).length ≤ 1000 := by
        have := hg.few
        rw [List.length_map]
        omega
      refine ⟨rfl, ?_⟩
      refine ⟨.ref a, rfl, a, rfl, ⟨_, Same.tup h.1 hS⟩, fun D2 hD2 => ?_⟩
      refine lc_tup (xs := xs) (fun j H2 => Grow K H' D2 (ws.map (cellD o)) j H2) (.zero hD2) (fun i H2 _ h2 => Same.tup (h.1.trans h2.1) hS) (fun j y H2 hy h2 => ?_) (fun H2 h2 => ?_)
      · obtain ⟨o2, c2, ho2, rfl, hc2⟩ := hT.works hy
        refine ⟨rfl, .ref c1, rfl, .ref c2, rfl, c1, c2, o, o2, rfl, Same.tup (h.1.trans h2.1) hc1, Same.tup (h.1.trans h2.1) hc2, hg.mem ho, hg.mem ho2, fun H3 p e3 np hp => ?_⟩
        refine h2.next hD2 fewr e3 (by rw [List.getElem?_map, ho2]; rfl) (.ofInts ?_)
        rw [← nV_eq]
        exact .of hp
      · obtain ⟨e2, acc, g1, g2⟩ := h2.done (by rw [List.length_map, hlen])
        refine ⟨D2, acc, rfl, .inl ⟨.of g1, fun l nl => ?_⟩⟩
        exact h.next hD hg.lt (e2.trans (same_new nl)) (by rw [List.getElem?_map, ho]; rfl) (.new nl g2)
    · obtain ⟨e2, acc, g1, g2⟩ := h.done (by rw [List.length_map, hlen])
      exact ⟨D, acc, rfl, .inl ⟨.of g1, fun l nl => q _ l (e2.trans (same_new nl)) (.new nl g2)⟩⟩
end
end Sg

set_option Elab.async false
set_option linter.all false
set_option maxRecDepth 100000
set_option maxHeartbeats 4000000
namespace Sg
open PySem PySem.Spec PyProof.Rows L2 StX
/-! ## the bars of a line, flat -/
theorem flatL_of {K : PySem.W.Frag} {H : Hp} {a : List Int} : ∀ {cells : List V} {ws : List (List Int)}, TpAll K H cells (ws.map (cellD a)) → FlatL K H cells ((rowB a ws).map V.int)
  | _, [], .no => .nil
  | _, b :: ws, .on t r => by
    obtain ⟨c, rfl, hs⟩ := t.toInts
    show FlatL K H _ ((nI (barsN a b) ++ rowB a ws).map V.int)
    rw [List.map_append]
    exact .cons hs (flatL_of r)
theorem flatR_of {K : PySem.W.Frag} {H : Hp} {vs : List (List Int)} : ∀ {rows : List V} {ws : List (List Int)}, TpAll K H rows (ws.map fun a => rowD a vs) → FlatR K H rows ((allB ws vs).map V.int)
  | _, [], .no => .nil
  | _, b :: ws, .on t r => by
    obtain ⟨c, xs, rfl, hs, ht⟩ := t.toTup
    show FlatR K H _ ((rowB b vs ++ allB ws vs).map V.int)
    rw [List.map_append]
    exact .cons hs (flatL_of ht) (flatR_of r)
theorem bars_le {a b : List Int} (h : IsWork a) : (nI (barsN a b)).length ≤ 60 := by
  rw [List.length_map]
  have := h.most
  exact Nat.le_trans (barsTo_len a b (a.length - 1)) (by omega)
theorem rowB_len {a : List Int} (h : IsWork a) : ∀ (ws : List (List Int)), (rowB a ws).length ≤ 60 * ws.length
  | [] => Nat.le_refl _
  | b :: ws => by
    show (nI (barsN a b) ++ rowB a ws).length ≤ _
    rw [List.length_append, List.length_cons]
    have := bars_le h (b := b)
    have := rowB_len h ws
    omega
theorem allB_len {vs : List (List Int)} : ∀ (ws : List (List Int)), (∀ w ∈ ws, IsWork w) → (allB ws vs).length ≤ 60 * vs.length * ws.length
  | [], _ => Nat.zero_le _
  | b :: ws, h => by
    show (rowB b vs ++ allB ws vs).length ≤ _
    rw [List.length_append, List.length_cons, Nat.mul_succ]
    have := rowB_len (h b List.mem_cons_self) vs
    have := allB_len (vs := vs) ws fun w hw => h w (List.mem_cons_of_mem _ hw)
    omega
theorem mem_allB {ws vs : List (List Int)} {x : Int} : x ∈ allB ws vs ↔ ∃ a ∈ ws, ∃ b ∈ vs, x ∈ nI (barsN a b) := by
  unfold allB rowB
  simp only [List.mem_flatMap]
theorem bar_pos {a b : List Int} {x : Int} (h : x ∈ nI (barsN a b)) : 1 ≤ x := by
  obtain ⟨d, hd, rfl⟩ := List.mem_map.mp h
  have := (List.mem_range'_1.mp (List.mem_filter.mp hd).1).1
  omega
theorem top_of {l : List Int} {m : Int} (hp : ∀ x ∈ l, 1 ≤ x) (h0 : l = [] → m = 0) (h1 : l ≠ [] → m ∈ l ∧ ∀ x ∈ l, x ≤ m) : Top l m := by
  by_cases z : l = []
  · have e := h0 z
    subst z
    exact ⟨by omega, fun x hx => (nomatch hx), .inl e⟩
  · obtain ⟨g1, g2⟩ := h1 z
    exact ⟨by have := hp _ g1; omega, g2, .inr g1⟩
section
variable {P : Program} {w : World} {K : PySem.W.Frag} {mg : Str → Option Value} {base : Heap}
/-! ### __init__ -/
def spInit (K : PySem.W.Frag) (C : Addr) : Sp := fun vs H Q _ => ∃ (x dx : Addr) (rest : List V) (ws : List (List Int)), vs = .ref x :: rest ∧ H x = some (.ins C dx []) ∧ TpAll K H rest (tDs ws) ∧ GoodL ws ∧
  ∀ H', (∀ b o, H b = some o → b ≠ x → H' b = some o) → LineAt K C H' x ws → Q .non H'
theorem ok_init {f f1 f2 C : Addr} {fd fd1 fd2 : FuncData} {k : Nat} (F : Fun K "__init__" "Line.__init__" s_Line_init f fd) (T : LC K mg C) (hM : ∃ t, mg "MOST_WORKS" = some (.int 3 t))
    (G1 : FnOk P w K mg base CX0 k f1 fd1 ["thing"] (spIsWork K)) (kp1 : PySem.W.keepIn K (.ref f1) = true) (b1 : Binds K fd1 ["thing"] []) (g1 : mg "is_work" = some (.ref f1))
    (G2 : FnOk P w K mg base CX0 k f2 fd2 ["works"] (spBarsAll K)) (kp2 : PySem.W.keepIn K (.ref f2) = true) (b2 : Binds K fd2 ["works"] []) (g2 : mg "_bars_of_all" = some (.ref f2))
    (m1 : mg "all" = none) (m2 : mg "len" = none) (m3 : mg "max" = none) : FnR P w K mg base CX0 (k + 1) f (spInit K C) := by
  obtain ⟨tM, nM⟩ := hM
  obtain ⟨oc, od, kV, doc, pm, an, cdv, ct, osl, rfl, lk, hcd⟩ := F.ex
  have R := fn_star (CX := CX0) (P := P) (w := w) (mg := mg) (base := base) (k := k) (ps := ["self"]) (pv := "works") (sp := fun vs H Q _ => ∃ (x dx p : Addr) (rest : List V) (ws : List (List Int)), vs = [.ref x, .ref p] ∧ H x = some (.ins C dx []) ∧ H p = some (.tup rest) ∧ TpAll K H rest (tDs ws) ∧ GoodL ws ∧
    ∀ H', (∀ b o, H b = some o → b ≠ x → H' b = some o) → LineAt K C H' x ws → Q .non H') lk hcd sc_Line_init cxUp_none (bind_star1 (B := fun us => bindArgs (PySem.W.fnOf "__init__" "Line.__init__" (defArgs s_Line_init) (defBody s_Line_init) (defScope s_Line_init) .none kV doc pm an cdv ct) ⟨us, []⟩) (fun _ => rfl) (fun _ _ _ => rfl)) ?_
  · refine R.imp fun vs H Q E h => ?_
    obtain ⟨x, dx, rest, ws, rfl, hx, hT, hg, q⟩ := h
    have hl := hT.len
    have := hg.few
    rw [List.length_map] at hl
    refine ⟨[.ref x], rest, rfl, rfl, Nat.le_of_lt (small1000 (by omega)), fun p np => ⟨x, dx, p, rest, ws, rfl, same_new np _ _ hx, upd_same, hT.stay (.of (same_new np)), hg, fun H' hk hL => q H' (fun b o e hb => hk b o (same_new np _ _ e) hb) hL⟩⟩
  · intro A outer s H vs Q E hr h
    obtain ⟨x, dx, p, rest, ws, rfl, hx, hp, hT, hg, q⟩ := h
    refine ⟨_, pss_cons (ps_if (PW.pt (pw_or (pt_not (pt_truth (pv 1) (fun _ => rfl))) (pw_or1 (pt_not (pt_val (pe_callB (cr_all rfl) (by rfl) m1 (by decide +kernel) (pa_cons
        (pe_lc (own := [("work", 2)]) (g := gName 2) (tt := tYes) rfl sc_Line_init.nd (pi_tup (pv 1)) (blkOk_by (N := ["self", "works", "work", "row", "pair", "bar"]) (sc := defScope s_Line_init) (by decide +kernel))
          (fun _ _ _ _ _ => pg_name (i := 2) sc_Line_init.nd rfl (Or.inl rfl)) (fun _ _ _ _ _ => pts_nil)
          (fun _ _ _ _ _ => pe_call G1 hr (by rfl) g1 kp1 b1 .nil pass0 (pa_cons (pv 2) pa_nil))) pa_nil))))))) (pss_one ps_never) pss_nil)
      (pss_cons (ps_if (pt_cmpR op_gt (pe_callB call_len_seq (by rfl) m2 PySem.boot_len (pa_cons (pv 1) pa_nil)) (pe_glob (v := .int 3) (by rfl) nM ⟨_, rfl⟩) (nomark _)) (pss_one ps_never) pss_nil)
      (pss_cons (ps_fld (pv 0) (pv 1) rfl)
      (pss_cons (ps_fld (pv 0) (pe_call G2 hr (by rfl) g2 kp2 b2 .nil pass0 (pa_cons (pv 1) pa_nil)) rfl)
      (pss_one (ps_fld (pv 0) (pe_callBK (cr_maxD rfl hr) (by rfl) m3 (by decide +kernel) (pa_cons (pe_flat (k1 := 3) (k2 := 4) (k3 := 5) (own := [("row", 3), ("pair", 4), ("bar", 5)]) rfl sc_Line_init.nd (pe_fld (pv 0) rfl)
          (blkOk_by (N := ["self", "works", "work", "row", "pair", "bar"]) (sc := defScope s_Line_init) (by decide +kernel)) rfl rfl rfl (fun _ _ => rfl) (fun _ _ => rfl) (fun _ _ => rfl)) pa_nil) (pk_cons pe_int pk_nil)) rfl))))), ?_⟩
    have hl := hT.len
    rw [List.length_map] at hl
    have hp' : SqT K H p rest := .of hp
    have hemp : (!rest.isEmpty) = true := by
      have := hg.least
      cases rest with
      | nil => rw [← hl] at this; exact absurd this (by decide)
      | cons => rfl
    refine ⟨.ref p, rfl, !rest.isEmpty, .inr (.inl ⟨rest, hp', rfl⟩), ?_⟩
    rw [hemp]
    refine iteF ?_
    refine ⟨.ref p, rfl, p, rfl, ⟨_, hp'⟩, fun D hD => ?_⟩
    refine lc_tup (xs := rest) (fun i H' => Same H H' ∧ H' D = some (.lst (((List.replicate i true)).map V.bl))) ⟨same_new hD, upd_same⟩ (fun i H' _ h => Same.tup h.1 hp') (fun i y H' hy h => ?_) (fun H' h => ?_)
    · obtain ⟨w1, c, hw, rfl, hc⟩ := hT.works hy
      refine ⟨rfl, .ref c, rfl, c, w1, rfl, Same.tup h.1 hc, hg.mem hw, fun H2 e2 => ?_⟩
      refine ⟨_, e2 _ _ h.2, ?_, fun b o e => ?_, ?_⟩
      · rw [List.length_map, List.length_replicate]
        have := hg.few
        have := (List.getElem?_eq_some_iff.mp hw).1
        exact small1000 (by omega)
      · rw [upd_ne (ne_of_none e hD)]
        exact e2 _ _ (h.1 _ _ e)
      · rw [upd_same, List.replicate_succ', List.map_append]
        rfl
    · have hall : (List.replicate rest.length true).all id = true := by simp
      refine ⟨D, _, rfl, .of h.2, true, congrArg V.bl hall, iteF ?_⟩
      have hpH : SqT K H' p rest := Same.tup h.1 hp'
      refine ⟨.ref p, rfl, p, rest, rfl, .inr hpH, _, 3, rfl, rfl, _, rfl, ?_⟩
      have c3 : decide ((((rest.length : Nat) : Int)) > 3) = false := decide_eq_false (by have := hg.few; omega)
      rw [c3]
      refine iteF ?_
      have hx1 := h.1 _ _ hx
      refine ⟨.ref p, rfl, .ref x, rfl, x, C, dx, [], rfl, hx1, T.cl, T.nW, (by show 0 < 1000; decide), ?_⟩
      have hW1 : Tp K H' (.ref p) (.tuple (tDs ws)) := .tu hpH (hT.stay (.of h.1))
      have hW2 := hW1.stayT (tu_ins hx1 (o := .ins C dx (putF "_works" (.ref p) [])))
      generalize hH2 : upd H' x (.ins C dx (putF "_works" (.ref p) [])) = H2 at hW2 ⊢
      have hx2 : H2 x = some (.ins C dx (putF "_works" (.ref p) [])) := by rw [← hH2]; exact upd_same
      refine ⟨.ref p, rfl, p, ws, rfl, hW2, hg, fun H3 b e3 hb => ?_⟩
      have hx3 := e3 _ _ hx2
      refine ⟨.ref x, rfl, x, C, dx, _, rfl, hx3, T.cl, T.nB, (by show 1 < 1000; decide), ?_⟩
      have hW4 := (hW2.stay (.of e3)).stayT (tu_ins hx3 (o := .ins C dx (putF "_bars" (.ref b) (putF "_works" (.ref p) []))))
      have hB4 := hb.stayT (tu_ins hx3 (o := .ins C dx (putF "_bars" (.ref b) (putF "_works" (.ref p) []))))
      generalize hH4 : upd H3 x (.ins C dx (putF "_bars" (.ref b) (putF "_works" (.ref p) []))) = H4 at hW4 hB4 ⊢
      have hx4 : H4 x = some (.ins C dx (putF "_bars" (.ref b) (putF "_works" (.ref p) []))) := by rw [← hH4]; exact upd_same
      obtain ⟨b', rows, eb, hbS, hbT⟩ := hB4.toTup
      cases eb
      have lb : (putF "_bars" (.ref b) (putF "_works" (.ref p) [])).lookup ("_bars" : Str) = some (.ref b) := by rw [lookup_putF, if_pos rfl]
      have lenB : ((allB ws ws).map V.int).length ≤ 1000000 := by
        rw [List.length_map]
        have z := allB_len (vs := ws) ws hg.work
        have := hg.few
        have z2 : 60 * ws.length * ws.length ≤ 60 * 3 * 3 := Nat.mul_le_mul (Nat.mul_le_mul (Nat.le_refl _) this) this
        omega
      refine ⟨.ref x, rfl, x, C, dx, _, _, rfl, hx4, T.cl, T.nB, lb, b, rows, _, rfl, hbS, flatR_of hbT, lenB, fun D2 nD2 => ?_⟩
      have s5 : Same H4 (upd H4 D2 (.lst ((allB ws ws).map V.int))) := same_new nD2
      refine ⟨D2, allB ws ws, 0, rfl, rfl, .of upd_same, fun m h0 h1 => ?_⟩
      have hx5 := s5 _ _ hx4
      refine ⟨.ref x, rfl, x, C, dx, _, rfl, hx5, T.cl, T.nR, (by show 2 < 1000; decide), ?_⟩
      have hW6 := (hW4.stay (.of s5)).stayT (tu_ins hx5 (o := .ins C dx (lf p b m)))
      have hB6 := (hB4.stay (.of s5)).stayT (tu_ins hx5 (o := .ins C dx (lf p b m)))
      refine q _ (fun c o e hc => ?_) ⟨dx, p, b, m, upd_same, hW6, hB6, top_of (fun y hy => ?_) h0 h1, hg⟩
      · rw [upd_ne hc]
        refine s5 _ _ ?_
        rw [← hH4, upd_ne hc]
        refine e3 _ _ ?_
        rw [← hH2, upd_ne hc]
        exact h.1 _ _ e
      · obtain ⟨_, _, _, _, z⟩ := mem_allB.mp hy
        exact bar_pos z
end
end Sg

set_option Elab.async false
set_option linter.all false
set_option maxRecDepth 100000
set_option maxHeartbeats 4000000
namespace Sg
open PySem PySem.Spec PyProof.Rows L2 StX
/-! ## a Line is made -/
theorem make_line {K : PySem.W.Frag} {C : Addr} {H1 : Hp} {vs : List V} {ws : List (List Int)} {Q : VK} (hT : TpAll K H1 vs (tDs ws)) (hg : GoodL ws)
    (q : ∀ H' a, Same H1 H' → H1 a = none → LineAt K C H' a ws → Q (.ref a) H') :
    ∀ x dx, H1 x = none → H1 dx = none → dx ≠ x → spInit K C (V.ref x :: vs) (upd (upd H1 dx (.own x)) x (.ins C dx [])) (fun v H2 => v = .non ∧ Q (.ref x) H2) E0 := by
  intro x dx nx ndx ne
  have s0 : Same H1 (upd (upd H1 dx (.own x)) x (.ins C dx [])) := fun b o e => by
    rw [upd_ne (ne_of_none e nx), upd_ne (ne_of_none e ndx)]
    exact e
  exact ⟨x, dx, vs, ws, rfl, upd_same, hT.stay (.of s0), hg, fun H' hk hL => ⟨rfl, q H' x (fun b o e => hk b o (s0 b o e) (ne_of_none e nx)) nx hL⟩⟩
/-- C(*e) -/
theorem pe_makeS {X : Cx} {CX : CXT} {k : Nat} {f C : Addr} {sp : Sp} {E : XK} {x : Str} {e : Expr} {te : TE} {p pos sp_ : Pos} (M : Mk X.K C f) (F : FnR X.prog X.w X.K X.mg X.base CX k f sp) (hr : Room (k + 1) X.A)
    (hg : Gl X x) (hm : X.mg x = some (.ref C)) (hx : Passes CX X E) (he : PE X e te) (hd : (x == ("__debug__" : Str)) = false := by decide) (hst : starEach [.Starred e sp_] X.env = [(true, eval e X.env)] := by rfl) :
    PE X (.Call (.Name x p) [.Starred e sp_] [] pos) (fun σ H Q => te σ H fun y H1 => ∃ a xs, y = V.ref a ∧ (SqT X.K H1 a xs ∨ SqL X.K H1 a xs) ∧
      ∀ z dz, H1 z = none → H1 dz = none → dz ≠ z → sp (V.ref z :: xs) (upd (upd H1 dz (.own z)) z (.ins C dz [])) (fun v H2 => v = .non ∧ Q (.ref z) H2) E) := by
  refine ⟨fun pins s σ H Q I h => wpAny_Call_Name_kw (ld_glob I hg hm ?_ hd)⟩
  refine PySem.W.callWith_S (h₀ := X.base) I.ok.mod.kin M.kp (thn (he.run pins s σ H _ I h) fun v s1 ⟨y, H1, I1, ry, a, xs, ey, hxs, q⟩ => ?_) hst
  subst ey
  obtain rfl : v = Value.ref a := ry
  exact star_any I1 hxs fun us s2 I2 rv => ⟨I2.kIn, run_makeR M F hr hx I2 rv q⟩
theorem GoodL.back {ws : List (List Int)} (h : GoodL ws) : GoodL (ws.map List.reverse) := by
  refine ⟨by rw [List.length_map]; exact h.least, by rw [List.length_map]; exact h.few, fun w hw => ?_⟩
  obtain ⟨v, hv, rfl⟩ := List.mem_map.mp hw
  have i := h.work v hv
  refine ⟨by rw [List.length_reverse]; exact i.pos, by rw [List.length_reverse]; exact i.most, fun x hx => i.items x (List.mem_reverse.mp hx), fun x hx => ?_, fun x hx => ?_⟩
  · have := i.pos
    rw [List.getElem?_reverse (by omega)] at hx
    exact i.last x (by rw [← hx]; congr 1)
  · have := i.pos
    rw [List.length_reverse, List.getElem?_reverse (by omega)] at hx
    exact i.head x (by rw [← hx]; congr 1; omega)
theorem cut_upto (xs : List V) (d : Nat) : cutV xs none (some (d : Int)) = xs.take d := by
  unfold cutV
  rw [HT.sIx_nat, HT.sIx_none, List.drop_zero, Nat.sub_zero]
  rcases Nat.le_total d xs.length with h | h
  · rw [Nat.min_eq_left h]
  · rw [Nat.min_eq_right h, List.take_of_length_le h, List.take_length]
end Sg

set_option Elab.async false
set_option linter.all false
set_option maxRecDepth 100000
set_option maxHeartbeats 4000000
namespace Sg
open PySem PySem.Spec PyProof.Rows L2 StX
/-- what isinstance asks of the class -/
structure LI (K : PySem.W.Frag) (C : Addr) : Prop where
  ha : PySem.W.findIn K (.ref C) "__class__" = some (some (.builtin "object.__class__"))
  hn : PySem.W.specialIn K (.builtin "object.__class__") "__get__" = some (some (.builtin "getset_descriptor.__get__"))
  ht : PySem.W.takesIn K (.builtin "object.__class__") = some true
  hm : PySem.W.mroIn K C (.type "object") = some true
  kit : PySem.W.kitOne K (.ref C) (.ref C) = some true
section
variable {P : Program} {w : World} {K : PySem.W.Frag} {mg : Str → Option Value} {base : Heap}
theorem isLine {C a : Addr} {H : Hp} {ws : List (List Int)} (c : Cls K C) (T : LI K C) (h : LineAt K C H a ws) : TyX K H (.ref a) (.ref C) := by
  obtain ⟨dx, t, b, r, h1, _⟩ := h
  exact .base (.ins h1 c T.ha T.hn T.ht T.hm)
/-! ### line(one, other) -/
def spCall (K : PySem.W.Frag) (C : Addr) : Sp := fun vs H Q _ => ∃ (a : Addr) (ws : List (List Int)) (i j : Nat) (x y : List Int), vs = [.ref a, .int i, .int j] ∧ LineAt K C H a ws ∧ ws[i]? = some x ∧ ws[j]? = some y ∧
  ∀ c, SqT K H c (nV (barsN x y)) → Q (.ref c) H
theorem ok_call {f f1 C : Addr} {fd fd1 : FuncData} {k : Nat} (F : Fun K "__call__" "Line.__call__" s_Line_call f fd) (T : LC K mg C)
    (G1 : FnOk P w K mg base CX0 k f1 fd1 ["line", "thing"] (spReqKind K C)) (kp1 : PySem.W.keepIn K (.ref f1) = true) (b1 : Binds K fd1 ["line", "thing"] []) (g1 : mg "require_kind" = some (.ref f1)) :
    FnOk P w K mg base CX0 (k + 1) f fd ["self", "one", "other"] (spCall K C) := by
  refine F.ok sc_Line_call (fun vs H Q E h => ?_) (fun cdv A outer s H vs Q E hr h => ?_)
  · obtain ⟨a, ws, i, j, x, y, rfl, _⟩ := h; rfl
  · obtain ⟨a, ws, i, j, x, y, rfl, hL, hx, hy, q⟩ := h
    refine ⟨_, pss_cons (ps_expr (pe_call G1 hr (by rfl) g1 kp1 b1 .nil pass0 (pa_cons (pv 0) (pa_cons (pv 1) pa_nil))))
      (pss_cons (ps_expr (pe_call G1 hr (by rfl) g1 kp1 b1 .nil pass0 (pa_cons (pv 0) (pa_cons (pv 2) pa_nil))))
      (pss_one (ps_ret (pe_ix ix_tup (pe_ix ix_tup (pe_fld (pv 0) rfl) (pv 1) (fun _ _ => rfl)) (pv 2) (fun _ _ => rfl))))), ?_⟩
    have hi := (List.getElem?_eq_some_iff.mp hx).1
    have hj := (List.getElem?_eq_some_iff.mp hy).1
    refine ⟨.ref a, rfl, .int i, rfl, a, ws, i, rfl, hL, hi, .ref a, rfl, .int j, rfl, a, ws, j, rfl, hL, hj, ?_⟩
    obtain ⟨dx, t, b, r, h1, h2, h3, h4, h5⟩ := hL
    obtain ⟨b', rows, eb, hS, hT⟩ := h3.toTup
    cases eb
    have lr := hT.len
    rw [List.length_map] at lr
    obtain ⟨ro, hro⟩ : ∃ ro, rows[i]? = some ro := ⟨rows[i]'(by omega), List.getElem?_eq_getElem _⟩
    obtain ⟨d, hd, tr⟩ := hT.at hro
    rw [List.getElem?_map, hx] at hd
    cases hd
    obtain ⟨b2, cells, rfl, hS2, hT2⟩ := tr.toTup
    have lc := hT2.len
    rw [List.length_map] at lc
    obtain ⟨ce, hce⟩ : ∃ ce, cells[j]? = some ce := ⟨cells[j]'(by omega), List.getElem?_eq_getElem _⟩
    obtain ⟨d, hd, tc⟩ := hT2.at hce
    rw [List.getElem?_map, hy] at hd
    cases hd
    obtain ⟨c, rfl, hc⟩ := tc.toInts
    refine ⟨.ref a, rfl, a, C, dx, _, _, rfl, h1, T.cl, T.nB, lf_bars _ _ _, .int i, rfl, b, rows, i, .ref b2, rfl, rfl, hS, atI_nat hro, ?_⟩
    refine ⟨.int j, rfl, b2, cells, j, .ref c, rfl, rfl, hS2, atI_nat hce, q c ?_⟩
    rw [nV_eq]
    exact hc
/-! ### one == other -/
def spEq (K : PySem.W.Frag) (C : Addr) : Sp := fun vs H Q _ => ∃ (a b : Addr) (ws us : List (List Int)), vs = [.ref a, .ref b] ∧ LineAt K C H a ws ∧ LineAt K C H b us ∧ Q (.bl (decide (ws = us))) H
theorem ok_eq {f C : Addr} {fd : FuncData} {k : Nat} (F : Fun K "__eq__" "Line.__eq__" s_Line_eq f fd) (T : LC K mg C) (I : LI K C) (m1 : mg "isinstance" = none) :
    FnOk P w K mg base CX0 (k + 1) f fd ["self", "other"] (spEq K C) := by
  refine F.ok sc_Line_eq (fun vs H Q E h => ?_) (fun cdv A outer s H vs Q E hr h => ?_)
  · obtain ⟨a, b, ws, us, rfl, _⟩ := h; rfl
  · obtain ⟨a, b, ws, us, rfl, hL, hR, q⟩ := h
    have hu := hr.units
    refine ⟨_, pss_one (ps_ret (pe_and (pe_callB call_isi (by rfl) m1 (by decide +kernel) (pa_cons (pv 1) (pa_cons (pe_glob (v := .ref C) (by rfl) T.mgC rfl) pa_nil)))
      (pe_one (pe_cmpR (op_eqD hu) (pe_fld (pv 0) rfl) (pe_fld (pv 1) rfl) (nomark _))))), ?_⟩
    refine ⟨.ref b, rfl, .ref b, .ref C, .ref C, .ref C, true, rfl, .own C, isLine T.cl I hR, I.kit, ?_⟩
    obtain ⟨dx, t, b1, r, h1, h2, h3, h4, h5⟩ := hL
    obtain ⟨dx', t', b1', r', h1', h2', h3', h4', h5'⟩ := hR
    refine ⟨true, rfl, iteT ?_⟩
    refine ⟨.ref a, rfl, a, C, dx, _, _, rfl, h1, T.cl, T.nW, lf_works _ _ _, .ref b, rfl, b, C, dx', _, _, rfl, h1', T.cl, T.nW, lf_works _ _ _, _, _, h2.dp, h2'.dp, shaped_tDs _, shaped_tDs _, ?_⟩
    rw [show PyData.eqv (.tuple (tDs ws)) (.tuple (tDs us)) = decide (ws = us) from by rw [PyData.eqv, eqv_tDs]]
    exact q
end
end Sg

set_option Elab.async false
set_option linter.all false
set_option maxRecDepth 100000
set_option maxHeartbeats 4000000
namespace Sg
open PySem PySem.Spec PyProof.Rows L2 StX
section
variable {P : Program} {w : World} {K : PySem.W.Frag} {mg : Str → Option Value} {base : Heap}
theorem GoodL.plus {ws us : List (List Int)} (h : GoodL ws) (g : GoodL us) (hl : ws.length + us.length ≤ 3) : GoodL (ws ++ us) := by
  refine ⟨by have := h.least; rw [List.length_append]; omega, by rw [List.length_append]; exact hl, fun w hw => ?_⟩
  rcases List.mem_append.mp hw with z | z
  · exact h.work w z
  · exact g.work w z
theorem GoodL.less {ws : List (List Int)} (h : GoodL ws) {i : Nat} (hi : i < ws.length) (h2 : 2 ≤ ws.length) : GoodL (ws.take i ++ ws.drop (i + 1)) := by
  have := h.few
  refine ⟨by rw [List.length_append, List.length_take, List.length_drop]; omega, by rw [List.length_append, List.length_take, List.length_drop]; omega, fun w hw => ?_⟩
  rcases List.mem_append.mp hw with z | z
  · exact h.work w (List.mem_of_mem_take z)
  · exact h.work w (List.mem_of_mem_drop z)
/-! ### one + other -/
def spAdd (K : PySem.W.Frag) (C : Addr) : Sp := fun vs H Q _ => ∃ (a b : Addr) (ws us : List (List Int)), vs = [.ref a, .ref b] ∧ LineAt K C H a ws ∧ LineAt K C H b us ∧ ws.length + us.length ≤ 3 ∧
  ∀ H' x, Same H H' → H x = none → LineAt K C H' x (ws ++ us) → Q (.ref x) H'
theorem ok_add {f f1 C : Addr} {fd : FuncData} {k : Nat} (F : Fun K "__add__" "Line.__add__" s_Line_add f fd) (T : LC K mg C) (I : LI K C) (M : Mk K C f1) (G : FnR P w K mg base CX0 k f1 (spInit K C)) (m1 : mg "isinstance" = none) :
    FnOk P w K mg base CX0 (k + 2) f fd ["self", "other"] (spAdd K C) := by
  refine F.ok sc_Line_add (fun vs H Q E h => ?_) (fun cdv A outer s H vs Q E hr h => ?_)
  · obtain ⟨a, b, ws, us, rfl, _⟩ := h; rfl
  · obtain ⟨a, b, ws, us, rfl, hL, hR, hl, q⟩ := h
    refine ⟨_, pss_cons (ps_if (pt_not (pt_val (pe_callB call_isi (by rfl) m1 (by decide +kernel) (pa_cons (pv 1) (pa_cons (pe_glob (v := .ref C) (by rfl) T.mgC rfl) pa_nil))))) (pss_one ps_never) pss_nil)
      (pss_cons (ps_set (i := 2) sc_Line_add.nd rfl (Or.inl rfl) (pe_op op_catA (pe_fld (pv 0) rfl) (pe_fld (pv 1) rfl)))
      (pss_one (ps_ret (pe_makeS M G hr (by rfl) T.mgC pass0 (pv 2))))), ?_⟩
    refine ⟨.ref b, rfl, .ref b, .ref C, .ref C, .ref C, true, rfl, .own C, isLine T.cl I hR, I.kit, true, rfl, iteF ?_⟩
    obtain ⟨dx, t, b1, r, h1, h2, h3, h4, h5⟩ := id hL
    obtain ⟨dx', t', b1', r', h1', h2', h3', h4', h5'⟩ := id hR
    obtain ⟨_, xs, e, hS, hT⟩ := h2.toTup
    cases e
    obtain ⟨_, ys, e, hS', hT'⟩ := h2'.toTup
    cases e
    have l1 := hT.len
    have l2 := hT'.len
    rw [List.length_map] at l1 l2
    have p1 := h5.least
    have p2 := h5'.least
    refine ⟨.ref a, rfl, a, C, dx, _, _, rfl, h1, T.cl, T.nW, lf_works _ _ _, .ref b, rfl, b, C, dx', _, _, rfl, h1', T.cl, T.nW, lf_works _ _ _, t, t', xs, ys, rfl, rfl, hS, hS', Nat.le_of_lt (small1000 (by omega)),
      (fun z => ?_), (fun _ z => ?_), (fun _ _ p np => ?_)⟩
    · rw [z] at l1; rw [← l1] at p1; exact absurd p1 (by decide)
    · rw [z] at l2; rw [← l2] at p2; exact absurd p2 (by decide)
    · refine ⟨.ref p, rfl, p, xs ++ ys, rfl, .inl (.of upd_same), ?_⟩
      have st : St K H (upd H p (.tup (xs ++ ys))) := .of (same_new np)
      refine make_line (ws := ws ++ us) ?_ (h5.plus h5' hl) (fun H' x e3 nx hLx => ?_)
      · have z := (hT.stay st).add (hT'.stay st)
        rw [← List.map_append] at z
        exact z
      · exact q H' x ((same_new np).trans e3) (Same.free (same_new np) nx) hLx
/-! ### line - kind -/
def spSub (K : PySem.W.Frag) (C : Addr) : Sp := fun vs H Q _ => ∃ (a : Addr) (ws : List (List Int)) (i : Nat), vs = [.ref a, .int i] ∧ LineAt K C H a ws ∧ i < ws.length ∧ 2 ≤ ws.length ∧
  ∀ H' x, Same H H' → H x = none → LineAt K C H' x (ws.take i ++ ws.drop (i + 1)) → Q (.ref x) H'
theorem ok_sub {f f1 f2 C : Addr} {fd fd2 : FuncData} {k : Nat} (F : Fun K "__sub__" "Line.__sub__" s_Line_sub f fd) (T : LC K mg C) (M : Mk K C f1) (G : FnR P w K mg base CX0 k f1 (spInit K C))
    (G2 : FnOk P w K mg base CX0 k f2 fd2 ["line", "thing"] (spReqKind K C)) (kp2 : PySem.W.keepIn K (.ref f2) = true) (b2 : Binds K fd2 ["line", "thing"] []) (g2 : mg "require_kind" = some (.ref f2)) (m1 : mg "len" = none) :
    FnOk P w K mg base CX0 (k + 2) f fd ["self", "other"] (spSub K C) := by
  refine F.ok sc_Line_sub (fun vs H Q E h => ?_) (fun cdv A outer s H vs Q E hr h => ?_)
  · obtain ⟨a, ws, i, rfl, _⟩ := h; rfl
  · obtain ⟨a, ws, i, rfl, hL, hi, h2w, q⟩ := h
    refine ⟨_, pss_cons (ps_expr (pe_call G2 (hr.mono (Nat.le_succ k)) (by rfl) g2 kp2 b2 .nil pass0 (pa_cons (pv 0) (pa_cons (pv 1) pa_nil))))
      (pss_cons (ps_if (pt_cmpR op_eq (pe_callB call_len_seq (by rfl) m1 PySem.boot_len (pa_cons (pe_fld (pv 0) rfl) pa_nil)) pe_int (nomark _)) (pss_one ps_never) pss_nil)
      (pss_cons (ps_set (i := 2) sc_Line_sub.nd rfl (Or.inl rfl) (pe_op op_catA (pe_slice sl_tup (pe_fld (pv 0) rfl) po_none (po_some (pv 1))) (pe_slice sl_tup (pe_fld (pv 0) rfl) (po_some (pe_op op_add (pv 1) pe_int)) po_none)))
      (pss_one (ps_ret (pe_makeS M G hr (by rfl) T.mgC pass0 (pv 2)))))), ?_⟩
    refine ⟨.ref a, rfl, .int i, rfl, a, ws, i, rfl, hL, hi, ?_⟩
    obtain ⟨dx, t, b1, r, h1, h2, h3, h4, h5⟩ := id hL
    obtain ⟨_, xs, e, hS, hT⟩ := h2.toTup
    cases e
    have l1 := hT.len
    rw [List.length_map] at l1
    have few := h5.few
    refine ⟨.ref a, rfl, a, C, dx, _, _, rfl, h1, T.cl, T.nW, lf_works _ _ _, t, xs, rfl, .inr hS, rfl, ?_⟩
    have c1 : decide (V.int ((xs.length : Nat) : Int) = V.int 1) = false := decide_eq_false fun z => by have := V.int.inj z; omega
    rw [c1]
    refine ⟨false, rfl, iteF ?_⟩
    have w1 : ¬ (HT.sIx xs.length 0 none = 0 ∧ HT.sIx xs.length xs.length (some (i : Int)) = xs.length) := by
      rintro ⟨_, z⟩
      rw [HT.sIx_nat] at z
      omega
    refine ⟨.ref a, rfl, a, C, dx, _, _, rfl, h1, T.cl, T.nW, lf_works _ _ _, .int i, rfl, i, rfl, t, xs, rfl, hS, w1, fun p np => ?_⟩
    have s1 : Same H (upd H p (.tup (cutV xs none (some (i : Int))))) := same_new np
    have e1 : ((i : Int) + 1) = ((i + 1 : Nat) : Int) := by omega
    have w2 : ¬ (HT.sIx xs.length 0 (some ((i : Int) + 1)) = 0 ∧ HT.sIx xs.length xs.length none = xs.length) := by
      rintro ⟨z, _⟩
      rw [e1, HT.sIx_nat] at z
      omega
    have hp1 : (upd H p (.tup (cutV xs none (some (i : Int))))) p = some (.tup (xs.take i)) := by rw [upd_same, cut_upto]
    generalize hH1 : upd H p (.tup (cutV xs none (some (i : Int)))) = H1 at s1 hp1 ⊢
    refine ⟨.ref a, rfl, a, C, dx, _, _, rfl, s1 _ _ h1, T.cl, T.nW, lf_works _ _ _, .int i, rfl, i, 1, rfl, rfl, (i : Int) + 1, rfl, t, xs, rfl, Same.tup s1 hS, w2, fun p2 np2 => ?_⟩
    have s2 : Same H1 (upd H1 p2 (.tup (cutV xs (some ((i : Int) + 1)) none))) := same_new np2
    have hp2 : (upd H1 p2 (.tup (cutV xs (some ((i : Int) + 1)) none))) p2 = some (.tup (xs.drop (i + 1))) := by rw [upd_same, e1, cut_from]
    generalize hH2 : upd H1 p2 (.tup (cutV xs (some ((i : Int) + 1)) none)) = H2 at s2 hp2 ⊢
    have hp1' := s2 _ _ hp1
    have s12 := s1.trans s2
    have tt : TpAll K H (xs.take i ++ xs.drop (i + 1)) (tDs (ws.take i ++ ws.drop (i + 1))) := by
      have z := (hT.cut i).add (hT.off (i + 1))
      rw [← List.map_take, ← List.map_drop, ← List.map_append] at z
      exact z
    have fin : ∀ (H3 : Hp) (l : Addr), Same H H3 → SqT K H3 l (xs.take i ++ xs.drop (i + 1)) →
        ∃ a' xs', V.ref l = V.ref a' ∧ (SqT K H3 a' xs' ∨ SqL K H3 a' xs') ∧ ∀ z dz, H3 z = none → H3 dz = none → dz ≠ z → spInit K C (V.ref z :: xs') (upd (upd H3 dz (.own z)) z (.ins C dz [])) (fun v H2 => v = .non ∧ Q (.ref z) H2) E0 := by
      intro H3 l e3 hl
      refine ⟨l, _, rfl, .inl hl, make_line (ws := ws.take i ++ ws.drop (i + 1)) (tt.stay (.of e3)) (h5.less hi h2w) fun H' x e4 nx hLx => q H' x (e3.trans e4) (Same.free e3 nx) hLx⟩
    have len2 : (xs.take i).length + (xs.drop (i + 1)).length ≤ sizeLine := by
      rw [List.length_take, List.length_drop]
      exact Nat.le_of_lt (small1000 (by omega))
    refine ⟨p, p2, _, _, rfl, rfl, .of hp1', .of hp2, len2, (fun z => ?_), (fun _ z => ?_), (fun _ _ p3 np3 => ?_)⟩
    · refine ⟨.ref p2, rfl, fin H2 p2 s12 ?_⟩
      rw [z, List.nil_append]
      exact .of hp2
    · refine ⟨.ref p, rfl, fin H2 p s12 ?_⟩
      rw [z, List.append_nil]
      exact .of hp1'
    · exact ⟨.ref p3, rfl, fin _ p3 (s12.trans (same_new np3)) (.of upd_same)⟩
/-! ### -line -/
def spNeg (K : PySem.W.Frag) (C : Addr) : Sp := fun vs H Q _ => ∃ (a : Addr) (ws : List (List Int)), vs = [.ref a] ∧ LineAt K C H a ws ∧
  ∀ H' x, Same H H' → H x = none → LineAt K C H' x (ws.map List.reverse) → Q (.ref x) H'
theorem ok_neg {f f1 C : Addr} {fd : FuncData} {k : Nat} (F : Fun K "__neg__" "Line.__neg__" s_Line_neg f fd) (T : LC K mg C) (M : Mk K C f1) (G : FnR P w K mg base CX0 k f1 (spInit K C)) :
    FnOk P w K mg base CX0 (k + 2) f fd ["self"] (spNeg K C) := by
  refine F.ok sc_Line_neg (fun vs H Q E h => ?_) (fun cdv A outer s H vs Q E hr h => ?_)
  · obtain ⟨a, ws, rfl, _⟩ := h; rfl
  · obtain ⟨a, ws, rfl, hL, q⟩ := h
    refine ⟨_, pss_cons (ps_setLc (i := 1) (own := [("work", 2)]) (g := gName 2) (tt := tYes) rfl sc_Line_neg.nd rfl rfl (sw_true rfl rfl rfl (by decide +kernel)) (pi_tup (pe_fld (pv 0) rfl))
          (blkOk_by (N := ["self", "works", "work"]) (sc := defScope s_Line_neg) (by decide +kernel))
          (fun _ _ _ _ _ => pg_name (i := 2) sc_Line_neg.nd rfl (Or.inl rfl)) (fun _ _ _ _ _ => pts_nil) (fun _ _ _ _ _ => pe_revT (K := K) rfl (pv 2)))
      (pss_one (ps_ret (pe_makeS M G hr (by rfl) T.mgC pass0 (pv 1)))), ?_⟩
    obtain ⟨dx, t, b1, r, h1, h2, h3, h4, h5⟩ := id hL
    obtain ⟨_, xs, e, hS, hT⟩ := h2.toTup
    cases e
    have l1 := hT.len
    rw [List.length_map] at l1
    have few := h5.few
    have lz : (tDs (ws.map List.reverse)).length ≤ 1000 := by rw [List.length_map, List.length_map]; omega
    refine ⟨.ref a, rfl, a, C, dx, _, _, rfl, h1, T.cl, T.nW, lf_works _ _ _, t, rfl, ⟨_, hS⟩, fun D hD => ?_⟩
    refine lc_tup (xs := xs) (fun i H' => Grow K H D (tDs (ws.map List.reverse)) i H') (.zero hD) (fun i H' _ h => Same.tup h.1 hS) (fun i x H' hx h => ?_) (fun H' h => ?_)
    · obtain ⟨o, c1, ho, rfl, hc1⟩ := hT.works hx
      refine ⟨rfl, .ref c1, rfl, c1, _, rfl, Same.tup h.1 hc1, fun p np => ?_⟩
      refine h.next hD lz (same_new np) (d := tD o.reverse) (by rw [List.getElem?_map, List.getElem?_map, ho]; rfl) (.ofInts ?_)
      rw [List.map_reverse]
      exact .of upd_same
    · obtain ⟨e2, acc, g1, g2⟩ := h.done (by rw [List.length_map, List.length_map, l1])
      exact ⟨.ref D, rfl, D, acc, rfl, .inr (.of g1), make_line (ws := ws.map List.reverse) g2 h5.back fun H3 x e3 nx hLx => q H3 x (e2.trans e3) (Same.free e2 nx) hLx⟩
end
end Sg

set_option Elab.async false
set_option linter.all false
set_option maxRecDepth 100000
set_option maxHeartbeats 4000000
namespace Sg
open PySem PySem.Spec PyProof.Rows L2 StX
/-- what a class has under a name: a def that keeps sp -/
structure Has (P : Program) (w : World) (K : PySem.W.Frag) (mg : Str → Option Value) (base : Heap) (k : Nat) (C : Addr) (n : Str) (f : Addr) (fd : FuncData) (ps : List Str) (sp : Sp) : Prop where
  ok : FnOk P w K mg base CX0 k f fd ps sp
  bi : Binds K fd ps []
  at_ : PySem.W.findIn K (.ref C) n = some (some (.ref f))
  fn : PySem.W.isFn K (.ref f) = true
/-- what the operators ask of the class beside their defs -/
structure Ops (K : PySem.W.Frag) (C : Addr) : Prop where
  sf : PySem.W.selfFirst K C = true
  rs : ∃ rc, PySem.W.findIn K (.ref C) "__rsub__" = some rc ∧ (rc = none ∨ ∃ g : Addr, rc = some (.ref g))
  is : ∃ fo, PySem.W.findIn K (.type "int") "__sub__" = some fo
  ir : ∃ ro, PySem.W.findIn K (.type "int") "__rsub__" = some ro
  nsub : PySem.W.subIn K (.type "int") (.ref C) = some false
  ne : PySem.W.findIn K (.ref C) "__ne__" = some (some (.builtin "object.__ne__"))
  ob : PySem.W.subIn K (.ref C) (.type "object") = some true
/-- Line's methods, as they are promised -/
structure Meths (P : Program) (w : World) (K : PySem.W.Frag) (mg : Str → Option Value) (base : Heap) (k : Nat) (C : Addr) : Prop where
  lc : LC K mg C
  li : LI K C
  op : Ops K C
  len : ∃ f fd, Has P w K mg base k C "__len__" f fd ["self"] (spLen K C)
  call : ∃ f fd, Has P w K mg base k C "__call__" f fd ["self", "one", "other"] (spCall K C) ∧ PySem.W.fnIn K f = true
  add : ∃ f fd, Has P w K mg base k C "__add__" f fd ["self", "other"] (spAdd K C)
  sub : ∃ f fd, Has P w K mg base k C "__sub__" f fd ["self", "other"] (spSub K C)
  neg : ∃ f fd, Has P w K mg base k C "__neg__" f fd ["self"] (spNeg K C)
  eq : ∃ f fd, Has P w K mg base k C "__eq__" f fd ["self", "other"] (spEq K C)
  works : ∃ p g fd, PropOf K C "works" p g ∧ FnOk P w K mg base CX0 k g fd ["self"] (getSp C "_works") ∧ Binds K fd ["self"] []
  reach : ∃ p g fd, PropOf K C "reach" p g ∧ FnOk P w K mg base CX0 k g fd ["self"] (getSp C "_reach") ∧ Binds K fd ["self"] []
  init : ∃ f, Mk K C f ∧ FnR P w K mg base CX0 k f (spInit K C)
section
variable {X : Cx} {k : Nat} {C : Addr}
theorem Meths.cLen (M : Meths X.prog X.w X.K X.mg X.base k C) (hr : Room (k + 2) X.A) : CallR X (.builtin "len") (fun xs H Q => ∃ a ws, xs = [.ref a] ∧ LineAt X.K C H a ws ∧ Q (.int (ws.length : Nat)) H) := by
  obtain ⟨f, fd, h⟩ := M.len
  intro pins s σ H xs us Q I r q
  obtain ⟨a, ws, rfl, hL, q⟩ := q
  refine call_lenO h.ok (hr.mono (Nat.le_succ _)) h.bi h.at_ h.fn pins s σ H _ us Q I r ⟨a, rfl, hL.ins, a, ws, rfl, hL, ws.length, rfl, ?_, q⟩
  have := hL.good.few
  omega
theorem Meths.oAdd (M : Meths X.prog X.w X.K X.mg X.base k C) (hr : Room (k + 2) X.A) : OpR X (binaryOp .Add) (fun x y H Q => ∃ a b ws us, x = .ref a ∧ y = .ref b ∧ LineAt X.K C H a ws ∧ LineAt X.K C H b us ∧ ws.length + us.length ≤ 3 ∧
    ∀ H' z, Same H H' → H z = none → LineAt X.K C H' z (ws ++ us) → Q (.ref z) H') := by
  obtain ⟨f, fd, h⟩ := M.add
  intro pins s σ H x y v u Q I rx ry q
  obtain ⟨a, b, ws, us, rfl, rfl, h1, h2, h3, q⟩ := q
  exact op_own (op := .Add) h.ok (hr.mono (Nat.le_add_right _ _)) h.bi h.at_ h.fn M.op.sf pins s σ H _ _ v u Q I rx ry ⟨a, b, rfl, rfl, h1.ins, h2.ins, a, b, ws, us, rfl, h1, h2, h3, q⟩
theorem Meths.oSub (M : Meths X.prog X.w X.K X.mg X.base k C) (hr : Room (k + 2) X.A) : OpR X (binaryOp .Sub) (fun x y H Q => ∃ a ws, ∃ i : Nat, x = .ref a ∧ y = .int i ∧ LineAt X.K C H a ws ∧ i < ws.length ∧ 2 ≤ ws.length ∧
    ∀ H' z, Same H H' → H z = none → LineAt X.K C H' z (ws.take i ++ ws.drop (i + 1)) → Q (.ref z) H') := by
  obtain ⟨f, fd, h⟩ := M.sub
  intro pins s σ H x y v u Q I rx ry q
  obtain ⟨a, ws, i, rfl, rfl, h1, h2, h3, q⟩ := q
  obtain ⟨rc, r1, r2⟩ := M.op.rs
  obtain ⟨fo, r3⟩ := M.op.is
  obtain ⟨ro, r4⟩ := M.op.ir
  exact op_ownI (op := .Sub) h.ok (hr.mono (Nat.le_add_right _ _)) h.bi h.at_ h.fn M.op.sf r1 r2 r3 r4 M.op.nsub pins s σ H _ _ v u Q I rx ry ⟨a, i, rfl, rfl, h1.ins, a, ws, i, rfl, h1, h2, h3, q⟩
theorem Meths.uNeg (M : Meths X.prog X.w X.K X.mg X.base k C) (hr : Room (k + 2) X.A) : UnR X (unaryOp .USub) (fun x H Q => ∃ a ws, x = .ref a ∧ LineAt X.K C H a ws ∧
    ∀ H' z, Same H H' → H z = none → LineAt X.K C H' z (ws.map List.reverse) → Q (.ref z) H') := by
  obtain ⟨f, fd, h⟩ := M.neg
  intro pins s σ H x v Q I rx q
  obtain ⟨a, ws, rfl, h1, q⟩ := q
  exact un_own h.ok (hr.mono (Nat.le_add_right _ _)) h.bi h.at_ h.fn pins s σ H _ v Q I rx ⟨a, rfl, h1.ins, a, ws, rfl, h1, q⟩
theorem Meths.oEq (M : Meths X.prog X.w X.K X.mg X.base k C) (hr : Room (k + 2) X.A) : OpR X (compareOp .Eq) (fun x y H Q => ∃ a b ws us, x = .ref a ∧ y = .ref b ∧ LineAt X.K C H a ws ∧ LineAt X.K C H b us ∧ Q (.bl (decide (ws = us))) H) := by
  obtain ⟨f, fd, h⟩ := M.eq
  intro pins s σ H x y v u Q I rx ry q
  obtain ⟨a, b, ws, us, rfl, rfl, h1, h2, q⟩ := q
  exact op_ownEq h.ok (hr.mono (Nat.le_add_right _ _)) h.bi h.at_ h.fn pins s σ H _ _ v u Q I rx ry ⟨a, b, rfl, rfl, h1.ins, h2.ins, a, b, ws, us, rfl, h1, h2, q⟩
theorem Meths.oNe (M : Meths X.prog X.w X.K X.mg X.base k C) (hr : Room (k + 2) X.A) : OpR X (compareOp .NotEq) (fun x y H Q => ∃ a b ws us, x = .ref a ∧ y = .ref b ∧ LineAt X.K C H a ws ∧ LineAt X.K C H b us ∧ Q (.bl (!decide (ws = us))) H) := by
  obtain ⟨f, fd, h⟩ := M.eq
  intro pins s σ H x y v u Q I rx ry q
  obtain ⟨a, b, ws, us, rfl, rfl, h1, h2, q⟩ := q
  exact op_ownNe h.ok hr h.bi h.at_ h.fn M.op.ne M.op.ob pins s σ H _ _ v u Q I rx ry ⟨a, b, rfl, rfl, h1.ins, h2.ins, a, b, ws, us, rfl, h1, h2, _, rfl, q⟩
def tWorks (K : PySem.W.Frag) (C : Addr) (te : TE) : TE := fun σ H Q => te σ H fun x H1 => ∃ a ws, x = .ref a ∧ LineAt K C H1 a ws ∧ ∀ t, Tp K H1 (.ref t) (.tuple (tDs ws)) → Q (.ref t) H1
def tReach (K : PySem.W.Frag) (C : Addr) (te : TE) : TE := fun σ H Q => te σ H fun x H1 => ∃ a ws, x = .ref a ∧ LineAt K C H1 a ws ∧ ∀ r, Top (allB ws ws) r → Q (.int r) H1
theorem Meths.pWorks {K : PySem.W.Frag} {e : Expr} {te : TE} {pos : Pos} (M : Meths X.prog X.w K X.mg X.base k C) (hK : X.K = K) (hr : Room (k + 2) X.A) (he : PE X e te) (hab : attributeBase e "works" X.env (eval e X.env) = eval e X.env := by rfl) :
    PE X (.Attribute e "works" pos) (tWorks K C te) := by
  subst hK
  obtain ⟨p, g, fd, h1, h2, h3⟩ := M.works
  refine ⟨fun pins s σ H Q I h => attr_of hab (thn (he.run pins s σ H _ I h) fun u s1 ⟨x, H1, I1, rx, a, ws, ex, ea, q⟩ => ?_)⟩
  subst ex
  obtain rfl : u = Value.ref a := rx
  obtain ⟨dx, t, b, r, g1, g2, g3, g4, g5⟩ := ea
  exact getprop_ok I1 g1 M.lc.cl h1 h2 (hr.mono (Nat.le_succ _)) h3 .nil pass0 ⟨a, dx, _, _, rfl, g1, lf_works _ _ _, q t g2⟩
theorem Meths.pReach {K : PySem.W.Frag} {e : Expr} {te : TE} {pos : Pos} (M : Meths X.prog X.w K X.mg X.base k C) (hK : X.K = K) (hr : Room (k + 2) X.A) (he : PE X e te) (hab : attributeBase e "reach" X.env (eval e X.env) = eval e X.env := by rfl) :
    PE X (.Attribute e "reach" pos) (tReach K C te) := by
  subst hK
  obtain ⟨p, g, fd, h1, h2, h3⟩ := M.reach
  refine ⟨fun pins s σ H Q I h => attr_of hab (thn (he.run pins s σ H _ I h) fun u s1 ⟨x, H1, I1, rx, a, ws, ex, ea, q⟩ => ?_)⟩
  subst ex
  obtain rfl : u = Value.ref a := rx
  obtain ⟨dx, t, b, r, g1, g2, g3, g4, g5⟩ := ea
  exact getprop_ok I1 g1 M.lc.cl h1 h2 (hr.mono (Nat.le_succ _)) h3 .nil pass0 ⟨a, dx, _, _, rfl, g1, lf_reach _ _ _, q r g4⟩
def tCallL (K : PySem.W.Frag) (C : Addr) (tf : TE) (t : TA) : TE := fun σ H Q => tf σ H fun y H1 => ∃ a, y = V.ref a ∧ t σ H1 fun vs H2 => ∃ ws, ∃ i j : Nat, ∃ x y, vs = [.int i, .int j] ∧ LineAt K C H2 a ws ∧ ws[i]? = some x ∧ ws[j]? = some y ∧
  ∀ c, SqT K H2 c (nV (barsN x y)) → Q (.ref c) H2
theorem Meths.pCall {K : PySem.W.Frag} {fe e : Expr} {es : List Expr} {tf : TE} {t : TA} {pos : Pos} (M : Meths X.prog X.w K X.mg X.base k C) (hK : X.K = K) (hr : Room (k + 2) X.A) (hf : PE X fe tf) (ha : PA X (e :: es) t)
    (ht : eval (.Call fe (e :: es) [] pos) X.env = (do callWith pos (← eval fe X.env) [] (backTo pos (starEach (e :: es) X.env)) (backToKw pos (keywordEach [] X.env))) := by rfl)
    (he : starEach (e :: es) X.env = (false, eval e X.env) :: starEach es X.env := by rfl) (hpl : (backTo pos (starEach es X.env)).any (·.1) = false := by rfl) :
    PE X (.Call fe (e :: es) [] pos) (tCallL K C tf t) := by
  subst hK
  obtain ⟨g, fd, h, hg⟩ := M.call
  have c : CallO X.K C g := ⟨h.at_, h.fn, hg⟩
  refine ⟨fun pins s σ H Q I h' => Call_ (thn (hf.run pins s σ H _ I h') fun u s1 ⟨y, H1, I1, ry, a, ey, q⟩ => ?_) ht⟩
  subst ey
  obtain rfl : u = Value.ref a := ry
  refine callO_with (thn (ha.run pos pins s1 σ H1 _ I1 q) fun us s2 ⟨vs, H2, I2, r, ws, i, j, x, y, ev, hL, hx, hy, q2⟩ => ?_) he hpl
  subst ev
  have hi' : InsC X H2 a C := .inr hL.ins
  obtain ⟨ox, od, J, hd⟩ := insC_at I2 hi'
  exact ⟨⟨C, ox, od, J, hd⟩, run_callO c (fnR_of h.ok h.bi) (hr.mono (Nat.le_add_right _ _)) pass0 I2 hi' r ⟨a, ws, i, j, x, y, rfl, hL, hx, hy, q2⟩⟩
/-- Line(e, ..) -/
def tNewL (K : PySem.W.Frag) (C : Addr) (t : TA) : TE := fun σ H Q => t σ H fun vs H1 => ∃ ws, TpAll K H1 vs (tDs ws) ∧ GoodL ws ∧ ∀ H' a, Same H1 H' → H1 a = none → LineAt K C H' a ws → Q (.ref a) H'
theorem Meths.pNew {K : PySem.W.Frag} {e : Expr} {es : List Expr} {t : TA} {p pos : Pos} (M : Meths X.prog X.w K X.mg X.base k C) (hK : X.K = K) (hr : Room (k + 2) X.A) (hg : Gl X "Line") (ha : PA X (e :: es) t)
    (he : starEach (e :: es) X.env = (false, eval e X.env) :: starEach es X.env := by rfl) (hpl : (backTo pos (starEach es X.env)).any (·.1) = false := by rfl) : PE X (.Call (.Name "Line" p) (e :: es) [] pos) (tNewL K C t) := by
  subst hK
  obtain ⟨f, m, h⟩ := M.init
  refine ⟨fun pins s σ H Q I h' => ?_⟩
  refine wpAny_Call_Name_kw (ld_glob I hg M.lc.mgC ?_ (by decide))
  refine PySem.W.callWith_K (h₀ := X.base) I.ok.mod.kin m.kp (thn (ha.run pos pins s σ H _ I h') fun us s1 ⟨vs, H1, I1, r, ws, hT, hgd, q⟩ => ⟨I1.kIn, ?_⟩) he hpl
  exact run_makeR m h (hr.mono (Nat.le_succ _)) pass0 I1 r (make_line hT hgd q)
end
end Sg

set_option Elab.async false
set_option linter.all false
set_option maxRecDepth 100000
set_option maxHeartbeats 4000000
namespace Sg
open PySem PySem.Spec PyProof.Rows L2 StX
section
variable {P : Program} {w : World} {K : PySem.W.Frag} {mg : Str → Option Value} {base : Heap}
def spReqLine (K : PySem.W.Frag) (C : Addr) : Sp := fun vs H Q _ => ∃ (a : Addr) (ws : List (List Int)), vs = [.ref a] ∧ LineAt K C H a ws ∧ Q .non H
theorem ok_require_line {f C : Addr} {fd : FuncData} {k : Nat} (F : Fun K "require_line" "require_line" s_require_line f fd) (T : LC K mg C) (I : LI K C) (m1 : mg "isinstance" = none) :
    FnOk P w K mg base CX0 (k + 1) f fd ["thing"] (spReqLine K C) := by
  refine F.ok sc_require_line (fun vs H Q E h => ?_) (fun cdv A outer s H vs Q E hr h => ?_)
  · obtain ⟨a, ws, rfl, _⟩ := h; rfl
  · obtain ⟨a, ws, rfl, hL, q⟩ := h
    refine ⟨_, pss_one (ps_if (pt_not (pt_val (pe_callB call_isi (by rfl) m1 (by decide +kernel) (pa_cons (pv 0) (pa_cons (pe_glob (v := .ref C) (by rfl) T.mgC rfl) pa_nil))))) (pss_one ps_never) pss_nil), ?_⟩
    exact ⟨.ref a, rfl, .ref a, .ref C, .ref C, .ref C, true, rfl, .own C, isLine T.cl I hL, I.kit, true, rfl, iteF q⟩
end
end Sg

set_option Elab.async false
set_option linter.all false
set_option maxRecDepth 100000
set_option maxHeartbeats 4000000
namespace Sg
open PySem PySem.Spec PyProof.Rows L2 StX
/-- a whole number as it is written -/
def num (i : Int) : Str := toString i
def word (n : Nat) : Str := (("Line(" : Str) ++ num n) ++ (" works)" : Str)
section
variable {P : Program} {w : World} {K : PySem.W.Frag} {mg : Str → Option Value} {base : Heap}
/-! ### line[kind] -/
def spItem (K : PySem.W.Frag) (C : Addr) : Sp := fun vs H Q _ => ∃ (a : Addr) (ws : List (List Int)) (i : Nat) (x : List Int), vs = [.ref a, .int i] ∧ LineAt K C H a ws ∧ ws[i]? = some x ∧ ∀ c, SqT K H c (x.map V.int) → Q (.ref c) H
theorem ok_item {f f1 C : Addr} {fd fd1 : FuncData} {k : Nat} (F : Fun K "__getitem__" "Line.__getitem__" s_Line_getitem f fd) (T : LC K mg C)
    (G1 : FnOk P w K mg base CX0 k f1 fd1 ["line", "thing"] (spReqKind K C)) (kp1 : PySem.W.keepIn K (.ref f1) = true) (b1 : Binds K fd1 ["line", "thing"] []) (g1 : mg "require_kind" = some (.ref f1)) :
    FnOk P w K mg base CX0 (k + 1) f fd ["self", "at"] (spItem K C) := by
  refine F.ok sc_Line_getitem (fun vs H Q E h => ?_) (fun cdv A outer s H vs Q E hr h => ?_)
  · obtain ⟨a, ws, i, x, rfl, _⟩ := h; rfl
  · obtain ⟨a, ws, i, x, rfl, hL, hx, q⟩ := h
    refine ⟨_, pss_cons (ps_expr (pe_call G1 hr (by rfl) g1 kp1 b1 .nil pass0 (pa_cons (pv 0) (pa_cons (pv 1) pa_nil))))
      (pss_one (ps_ret (pe_ix ix_tup (pe_fld (pv 0) rfl) (pv 1) (fun _ _ => rfl)))), ?_⟩
    have hi := (List.getElem?_eq_some_iff.mp hx).1
    refine ⟨.ref a, rfl, .int i, rfl, a, ws, i, rfl, hL, hi, ?_⟩
    obtain ⟨dx, t, b, r, h1, h2, h3, h4, h5⟩ := hL
    obtain ⟨_, xs, e, hS, hT⟩ := h2.toTup
    cases e
    have l := hT.len
    rw [List.length_map] at l
    obtain ⟨y, hy⟩ : ∃ y, xs[i]? = some y := ⟨xs[i]'(by omega), List.getElem?_eq_getElem _⟩
    obtain ⟨x', c, hx', rfl, hc⟩ := hT.works hy
    obtain rfl : x = x' := Option.some.inj (hx.symm.trans hx')
    exact ⟨.ref a, rfl, a, C, dx, _, _, rfl, h1, T.cl, T.nW, lf_works _ _ _, .int i, rfl, t, xs, i, .ref c, rfl, rfl, hS, atI_nat hy, q c hc⟩
/-! ### repr -/
def spRepr (K : PySem.W.Frag) (C : Addr) : Sp := fun vs H Q _ => ∃ (a : Addr) (ws : List (List Int)), vs = [.ref a] ∧ LineAt K C H a ws ∧ Q (.str (word ws.length)) H
theorem word_join (n : Nat) (h1 : 1 ≤ n) (h2 : n ≤ 3) : ((Str.empty ++ ("Line(" : Str)) ++ num n) ++ (" works)" : Str) = word n := by
  have : n = 1 ∨ n = 2 ∨ n = 3 := by omega
  rcases this with rfl | rfl | rfl <;> decide +kernel
theorem num_len (n : Nat) (h1 : 1 ≤ n) (h2 : n ≤ 3) : ((Str.empty ++ ("Line(" : Str)) ++ num n).length ≤ 100 ∧ (((Str.empty ++ ("Line(" : Str)) ++ num n) ++ (" works)" : Str)).length ≤ 100 := by
  have : n = 1 ∨ n = 2 ∨ n = 3 := by omega
  rcases this with rfl | rfl | rfl <;> decide +kernel
theorem log_small (n : Nat) (h2 : n ≤ 3) : ((n : Int)).natAbs.log2 < 1920 := by
  have : n = 0 ∨ n = 1 ∨ n = 2 ∨ n = 3 := by omega
  rcases this with rfl | rfl | rfl | rfl <;> decide +kernel
theorem ok_repr {f C : Addr} {fd : FuncData} {k : Nat} (F : Fun K "__repr__" "Line.__repr__" s_Line_repr f fd) (T : LC K mg C) (m1 : mg "len" = none) :
    FnOk P w K mg base CX0 (k + 1) f fd ["self"] (spRepr K C) := by
  refine F.ok sc_Line_repr (fun vs H Q E h => ?_) (fun cdv A outer s H vs Q E hr h => ?_)
  · obtain ⟨a, ws, rfl, _⟩ := h; rfl
  · obtain ⟨a, ws, rfl, ⟨dx, t, b, r, h1, h2, h3, h4, h5⟩, q⟩ := h
    refine ⟨_, pss_one (ps_ret (pe_joined (.cons pe_str (.cons (pe_fmt (pe_callB call_len_seq (by rfl) m1 PySem.boot_len (pa_cons (pe_fld (pv 0) rfl) pa_nil))) (.cons pe_str .nil))))), ?_⟩
    obtain ⟨t', xs, e, hS, hT⟩ := h2.toTup
    cases e
    have l := hT.len
    rw [List.length_map] at l
    have big : 100 ≤ sizeLine := by rw [sizeLine_eq]; decide
    obtain ⟨z1, z2⟩ := num_len ws.length h5.least h5.few
    refine ⟨_, rfl, Nat.le_trans (by decide +kernel) big, ?_⟩
    refine ⟨.ref a, rfl, a, C, dx, _, _, rfl, h1, T.cl, T.nW, lf_works _ _ _, t, xs, rfl, .inr hS, ?_⟩
    rw [l]
    refine .inr ⟨((ws.length : Nat) : Int), rfl, log_small _ h5.few, ?_⟩
    refine ⟨_, rfl, Nat.le_trans z1 big, ?_⟩
    refine ⟨_, rfl, Nat.le_trans z2 big, ?_⟩
    have e := word_join ws.length h5.least h5.few
    show Q (.str (((Str.empty ++ ("Line(" : Str)) ++ num ws.length) ++ (" works)" : Str))) H
    rw [e]
    exact q
end
/-- the two more -/
structure Meths2 (P : Program) (w : World) (K : PySem.W.Frag) (mg : Str → Option Value) (base : Heap) (k : Nat) (C : Addr) : Prop where
  m : Meths P w K mg base k C
  item : ∃ f fd, Has P w K mg base k C "__getitem__" f fd ["self", "at"] (spItem K C) ∧ PySem.W.fnIn K f = true
  rep : ∃ f fd, Has P w K mg base k C "__repr__" f fd ["self"] (spRepr K C)
section
variable {X : Cx} {k : Nat} {C : Addr}
theorem Meths2.cRepr (M : Meths2 X.prog X.w X.K X.mg X.base k C) (hr : Room (k + 2) X.A) : CallR X (.builtin "repr") (fun xs H Q => ∃ a ws, xs = [.ref a] ∧ LineAt X.K C H a ws ∧ Q (.str (word ws.length)) H) := by
  obtain ⟨f, fd, h⟩ := M.rep
  intro pins s σ H xs us Q I r q
  obtain ⟨a, ws, rfl, hL, q⟩ := q
  obtain ⟨u, rfl, rfl⟩ := vals1 r
  obtain ⟨m, hF⟩ := I.fr
  obtain ⟨_, _, J⟩ := insAt_look I hL.ins
  refine PySem.W.repr_K (show X.A.in1.units < cLine from (hr.mono (show k + 1 ≤ k + 2 by omega)).in1.units0) hF I.ok.mod.kin J h.at_ h.fn (thn (run_in1 (Q := fun v H' => v = .str (word ws.length) ∧ Q (.str (word ws.length)) H') (us := [.ref a]) (vs := [.ref a]) h.ok (hr.mono (Nat.le_succ _)) h.bi I (.cons rfl .nil) ⟨a, ws, rfl, hL, rfl, q⟩) ?_)
  rintro v s' ⟨x, H', I', rx, rfl, q'⟩
  obtain ⟨t, rfl⟩ := rx
  exact ⟨.str _, H', I', ⟨_, rfl⟩, q'⟩
def tItem (K : PySem.W.Frag) (C : Addr) (ta tb : TE) : TE := fun σ H Q => ta σ H fun y H1 => tb σ H1 fun z H2 => ∃ a ws, ∃ i : Nat, ∃ x, y = .ref a ∧ z = .int i ∧ LineAt K C H2 a ws ∧ ws[i]? = some x ∧ ∀ c, SqT K H2 c (x.map V.int) → Q (.ref c) H2
theorem Meths2.pItem {K : PySem.W.Frag} {a b : Expr} {ta tb : TE} {pos : Pos} (M : Meths2 X.prog X.w K X.mg X.base k C) (hK : X.K = K) (hr : Room (k + 2) X.A) (ha : PE X a ta) (hb : PE X b tb)
    (hsl : ∀ x i, subscripted b true (.ref x) i = runValue (.builtin "lifetime.subscript" ⟨[.ref x, i], []⟩) := by intro _ _; rfl) : PE X (.Subscript a b pos) (tItem K C ta tb) := by
  subst hK
  obtain ⟨f, fd, h, hf⟩ := M.item
  refine ⟨fun pins s σ H Q I h' => Subscript_ (binT ha hb I h' fun v u s2 x y H2 I2 rx ry q => ?_)⟩
  obtain ⟨o, ws, i, z, rfl, rfl, hL, hz, q⟩ := q
  obtain rfl : v = Value.ref o := rx
  obtain ⟨m, hF⟩ := I2.fr
  obtain ⟨_, _, J⟩ := insAt_look I2 hL.ins
  exact PySem.W.sub_K hF I2.ok.mod.kin J h.at_ hf h.fn (run_in1 (us := [.ref o, u]) (vs := [.ref o, .int i]) h.ok (hr.mono (Nat.le_succ _)) h.bi I2 (.cons rfl (.cons ry .nil)) ⟨o, ws, i, z, rfl, hL, hz, q⟩) (hsl _ _)
end
end Sg

set_option Elab.async false
set_option linter.all false
set_option maxRecDepth 100000
set_option maxHeartbeats 4000000
namespace Sg
open PySem PySem.Spec PyProof.Rows L2
/-! ## starts, each as early as it can be: the mathematics -/
/-- the agos behind a start after d more ticks; those from T on are forgotten -/
def stG (T : Nat) (x : List Nat) (d : Nat) : List Nat := (x.map (· + d)).filter (fun a => decide (a < T)) ++ [0]
/-- some ago bars a start after d ticks -/
def hitG (b : Nat → Bool) (x : List Nat) (d : Nat) : Bool := x.any fun a => b (a + d)
def nextFrom (b : Nat → Bool) (x : List Nat) : Nat → Nat → Nat
  | 0, d => d
  | n + 1, d => if hitG b x d = true then nextFrom b x n (d + 1) else d
/-- the distance of the next start: the first from 1 on that is not barred; from 9 on nothing is -/
def nextG (b : Nat → Bool) (x : List Nat) : Nat := nextFrom b x 8 1
theorem nextFrom_ge {b : Nat → Bool} {x : List Nat} : ∀ n d, d ≤ nextFrom b x n d ∧ nextFrom b x n d ≤ d + n
  | 0, d => ⟨Nat.le_refl _, Nat.le_refl _⟩
  | n + 1, d => by
    unfold nextFrom
    have := nextFrom_ge (b := b) (x := x) n (d + 1)
    split <;> omega
theorem nextG_ge {b : Nat → Bool} {x : List Nat} : 1 ≤ nextG b x ∧ nextG b x ≤ 9 := nextFrom_ge 8 1
theorem nextFrom_hit {b : Nat → Bool} {x : List Nat} : ∀ n d e, d ≤ e → e < nextFrom b x n d → hitG b x e = true
  | 0, d, e, h1, h2 => by unfold nextFrom at h2; omega
  | n + 1, d, e, h1, h2 => by
    unfold nextFrom at h2
    split at h2
    · rename_i h
      by_cases z : e = d
      · rw [z]; exact h
      · exact nextFrom_hit n (d + 1) e (by omega) h2
    · omega
theorem nextFrom_free {b : Nat → Bool} {x : List Nat} : ∀ n d, (∀ e, d + n ≤ e → hitG b x e = false) → hitG b x (nextFrom b x n d) = false
  | 0, d, h => h d (Nat.le_refl _)
  | n + 1, d, h => by
    unfold nextFrom
    split
    · exact nextFrom_free n (d + 1) fun e he => h e (by omega)
    · rename_i z; exact Bool.eq_false_iff.mpr z
/-- barred distances: from 1 to F -/
def Barred (b : Nat → Bool) (F : Nat) : Prop := F ≤ 8 ∧ ∀ d, b d = true → d ≤ F
theorem hit_far {b : Nat → Bool} {F : Nat} (h : Barred b F) {x : List Nat} {e : Nat} (he : 9 ≤ e) : hitG b x e = false := by
  refine Bool.eq_false_iff.mpr fun z => ?_
  obtain ⟨a, _, ha⟩ := List.any_eq_true.mp z
  have := h.2 _ ha
  have := h.1
  omega
theorem nextG_free {b : Nat → Bool} {F : Nat} (h : Barred b F) {x : List Nat} : hitG b x (nextG b x) = false := nextFrom_free 8 1 fun e he => hit_far h (by omega)
/-- it is the first that is free -/
theorem nextG_uniq {b : Nat → Bool} {F : Nat} (h : Barred b F) {x : List Nat} {e : Nat} (e1 : 1 ≤ e) (hf : hitG b x e = false) (ha : ∀ d, 1 ≤ d → d < e → hitG b x d = true) : e = nextG b x := by
  rcases Nat.lt_trichotomy e (nextG b x) with z | z | z
  · rw [nextFrom_hit 8 1 e e1 z] at hf; cases hf
  · exact z
  · have := ha _ nextG_ge.1 z
    rw [nextG_free h] at this; cases this
theorem hitG_filter {b : Nat → Bool} {F : Nat} (h : Barred b F) {x : List Nat} {d : Nat} (hd : 1 ≤ d) : hitG b x d = hitG b (x.filter fun a => decide (a < F)) d := by
  unfold hitG
  rw [List.any_filter]
  congr 1
  funext a
  by_cases z : b (a + d) = true
  · rw [z, decide_eq_true (by have := h.2 _ z; omega)]; rfl
  · rw [Bool.eq_false_iff.mpr z, Bool.and_false]
theorem nextFrom_eq {b : Nat → Bool} {x y : List Nat} (h : ∀ d, 1 ≤ d → hitG b x d = hitG b y d) : ∀ n d, 1 ≤ d → nextFrom b x n d = nextFrom b y n d
  | 0, d, _ => rfl
  | n + 1, d, hd => by
    unfold nextFrom
    rw [h d hd, nextFrom_eq h n (d + 1) (by omega)]
theorem nextG_filter {b : Nat → Bool} {F : Nat} (h : Barred b F) {x y : List Nat} (e : (x.filter fun a => decide (a < F)) = y.filter fun a => decide (a < F)) : nextG b x = nextG b y :=
  nextFrom_eq (fun d hd => by rw [hitG_filter h hd, e, ← hitG_filter h hd]) 8 1 (Nat.le_refl _)
/-- the run: the agos behind each start -/
def runG (b : Nat → Bool) (T : Nat) : Nat → List Nat
  | 0 => [0]
  | i + 1 => stG T (runG b T i) (nextG b (runG b T i))
def dG (b : Nat → Bool) (T : Nat) (i : Nat) : Nat := nextG b (runG b T i)
theorem filter_map_st {T F d : Nat} {x y : List Nat} (hT : F ≤ T) (e : (x.filter fun a => decide (a < F)) = y) : (((x.map (· + d)).filter fun a => decide (a < T)).filter fun a => decide (a < F)) = (y.map (· + d)).filter fun a => decide (a < F) := by
  subst e
  rw [List.filter_filter, List.filter_map, List.filter_map, List.filter_filter]
  congr 1
  refine List.filter_congr fun a _ => ?_
  rw [Bool.eq_iff_iff]
  simp only [Function.comp, Bool.and_eq_true, decide_eq_true_eq]
  omega
theorem run_filter {b : Nat → Bool} {F T : Nat} (h : Barred b F) (hT : F ≤ T) : ∀ i, ((runG b T i).filter fun a => decide (a < F)) = (runG b F i).filter fun a => decide (a < F)
  | 0 => rfl
  | i + 1 => by
    have ih := run_filter h hT i
    show ((stG T _ _).filter _) = (stG F _ _).filter _
    unfold stG
    rw [List.filter_append, List.filter_append, filter_map_st hT ih, filter_map_st (Nat.le_refl _) rfl, nextG_filter h ih]
theorem dG_eq {b : Nat → Bool} {F T : Nat} (h : Barred b F) (hT : F ≤ T) (i : Nat) : dG b T i = dG b F i := nextG_filter h (run_filter h hT i)
/-! ### descending agos are few -/
theorem st_desc {T d : Nat} {x : List Nat} (hd : 1 ≤ d) (hx : x.Pairwise (· > ·)) : (stG T x d).Pairwise (· > ·) := by
  unfold stG
  rw [List.pairwise_append]
  refine ⟨(hx.map _ fun a b z => ?_).filter _, List.pairwise_singleton _ _, fun a ha b hb => ?_⟩
  · omega
  · obtain ⟨c, _, rfl⟩ := List.mem_map.mp (List.mem_filter.mp ha).1
    rw [List.mem_singleton.mp hb]
    omega
theorem run_desc {b : Nat → Bool} {T : Nat} : ∀ i, (runG b T i).Pairwise (· > ·)
  | 0 => List.pairwise_singleton _ _
  | i + 1 => st_desc nextG_ge.1 (run_desc i)
theorem run_lt {b : Nat → Bool} {T : Nat} (hT : T ≤ 9) : ∀ i, ∀ a ∈ runG b T i, a ≤ 8
  | 0, a, h => by rw [List.mem_singleton.mp h]; omega
  | i + 1, a, h => by
    rcases List.mem_append.mp h with h | h
    · have := of_decide_eq_true (List.mem_filter.mp h).2
      omega
    · rw [List.mem_singleton.mp h]; omega
def subs : List Nat → List (List Nat)
  | [] => [[]]
  | a :: l => subs l ++ (subs l).map (a :: ·)
theorem subs_mem : ∀ {x l : List Nat}, x.Sublist l → x ∈ subs l
  | _, _, .slnil => List.mem_singleton.mpr rfl
  | _, _, .cons a h => List.mem_append.mpr (.inl (subs_mem h))
  | _, _, .cons₂ a h => List.mem_append.mpr (.inr (List.mem_map.mpr ⟨_, subs_mem h, rfl⟩))
theorem subs_len : ∀ l, (subs l).length = 2 ^ l.length
  | [] => rfl
  | a :: l => by
    show (subs l ++ (subs l).map (a :: ·)).length = _
    rw [List.length_append, List.length_map, subs_len l, List.length_cons, Nat.pow_succ]; omega
def desc : Nat → List Nat
  | 0 => [0]
  | n + 1 => (n + 1) :: desc n
theorem desc_sub : ∀ (n : Nat) (x : List Nat), x.Pairwise (· > ·) → (∀ a ∈ x, a ≤ n) → x.Sublist (desc n)
  | _, [], _, _ => List.nil_sublist _
  | 0, a :: l, h, m => by
    have h0 : a = 0 := Nat.le_zero.mp (m a List.mem_cons_self)
    subst h0
    cases l with
    | nil => exact List.Sublist.refl _
    | cons c r => exact absurd ((List.pairwise_cons.mp h).1 c List.mem_cons_self) (Nat.not_lt_zero _)
  | n + 1, a :: l, h, m => by
    by_cases z : a = n + 1
    · subst z
      exact .cons₂ _ (desc_sub n l (List.pairwise_cons.mp h).2 fun c hc => Nat.le_of_lt_succ ((List.pairwise_cons.mp h).1 c hc))
    · refine .cons _ (desc_sub n (a :: l) h fun c hc => ?_)
      have := m a List.mem_cons_self
      rcases List.mem_cons.mp hc with rfl | hc
      · omega
      · have := (List.pairwise_cons.mp h).1 c hc
        omega
theorem runs_few {b : Nat → Bool} {T n : Nat} (hT : T ≤ 9) (hd : ((List.range n).map (runG b T)).Nodup) : n ≤ 512 := by
  have := nodup_len_le ((List.range n).map (runG b T)) (subs (desc 8)) hd fun x hx => by
    obtain ⟨i, _, rfl⟩ := List.mem_map.mp hx
    exact subs_mem (desc_sub 8 _ (run_desc i) (run_lt hT i))
  rw [List.length_map, List.length_range, subs_len] at this
  exact this
/-! ### the run is told by its last distances -/
theorem filter_again {T : Nat} (y : List Nat) (m : Nat) : ((y.filter fun a => decide (a < T)).map (· + m)).filter (fun a => decide (a < T)) = (y.map (· + m)).filter fun a => decide (a < T) := by
  rw [List.filter_map, List.filter_map, List.filter_filter]
  congr 1
  refine List.filter_congr fun a _ => ?_
  rw [Bool.eq_iff_iff]
  simp only [Function.comp, Bool.and_eq_true, decide_eq_true_eq]
  omega
def runL (T : Nat) (x : List Nat) (ds : List Nat) : List Nat := ds.foldl (stG T) x
theorem runL_nil (T : Nat) : ∀ (ds : List Nat) (x : List Nat), runL T x ds = (x.map (· + ds.sum)).filter (fun a => decide (a < T)) ++ runL T [] ds ∨ ds = []
  | [], x => .inr rfl
  | d :: r, x => by
    refine .inl ?_
    show runL T (stG T x d) r = _ ++ runL T (stG T [] d) r
    have e0 : stG T [] d = [0] := rfl
    cases r with
    | nil =>
      show stG T x d = _ ++ stG T [] d
      rw [e0]
      unfold stG
      simp only [List.sum_cons, List.sum_nil, Nat.add_zero]
    | cons d2 r =>
      have h1 := (runL_nil T (d2 :: r) (stG T x d)).resolve_right (List.cons_ne_nil _ _)
      have h2 := (runL_nil T (d2 :: r) (stG T [] d)).resolve_right (List.cons_ne_nil _ _)
      rw [h1, h2, ← List.append_assoc]
      congr 1
      rw [e0]
      unfold stG
      rw [List.map_append, List.filter_append]
      congr 1
      have em : (fun a => a + (d :: d2 :: r).sum) = (fun a => a + (d2 :: r).sum) ∘ (fun a => a + d) := by
        funext a
        show a + (d :: d2 :: r).sum = a + d + (d2 :: r).sum
        rw [List.sum_cons (a := d)]; omega
      rw [em, ← List.map_map]
      exact filter_again _ _
theorem sum_ge : ∀ (ds : List Nat), (∀ d ∈ ds, 1 ≤ d) → ds.length ≤ ds.sum
  | [], _ => Nat.le_refl _
  | d :: r, h => by
    have := sum_ge r fun x hx => h x (List.mem_cons_of_mem _ hx)
    have := h d List.mem_cons_self
    rw [List.length_cons, List.sum_cons]; omega
theorem runL_same {T : Nat} {ds : List Nat} (hd : ∀ d ∈ ds, 1 ≤ d) (hl : T ≤ ds.length) (h0 : ds ≠ []) (x y : List Nat) : runL T x ds = runL T y ds := by
  have key : ∀ x : List Nat, runL T x ds = runL T [] ds := fun x => by
    rw [(runL_nil T ds x).resolve_right h0, List.filter_eq_nil_iff.mpr, List.nil_append]
    intro a ha
    obtain ⟨c, _, rfl⟩ := List.mem_map.mp ha
    have := sum_ge ds hd
    rw [decide_eq_true_eq]; omega
  rw [key x, key y]
/-- n values of a sequence from k on -/
def seg (d : Nat → Nat) (k n : Nat) : List Nat := (List.range n).map fun i => d (k + i)
theorem seg_succ (d : Nat → Nat) (k n : Nat) : seg d k (n + 1) = seg d k n ++ [d (k + n)] := by
  unfold seg
  rw [List.range_succ, List.map_append]; rfl
theorem seg_len (d : Nat → Nat) (k n : Nat) : (seg d k n).length = n := by unfold seg; rw [List.length_map, List.length_range]
theorem run_seg {b : Nat → Bool} {T : Nat} (k : Nat) : ∀ n, runG b T (k + n) = runL T (runG b T k) (seg (dG b T) k n)
  | 0 => rfl
  | n + 1 => by
    rw [seg_succ]
    unfold runL
    rw [List.foldl_append]
    show stG T (runG b T (k + n)) (dG b T (k + n)) = stG T (runL T _ _) _
    rw [run_seg k n]
theorem seg_at (d : Nat → Nat) (k n i : Nat) (h : i < n) : (seg d k n)[i]? = some (d (k + i)) := by
  unfold seg
  rw [List.getElem?_map, List.getElem?_range h]; rfl
theorem seg_ext {d : Nat → Nat} {j k n : Nat} (h : ∀ i, i < n → d (j + i) = d (k + i)) : seg d j n = seg d k n :=
  List.map_congr_left fun i hi => h i (List.mem_range.mp hi)
/-- where distances come again q later, so do agos -/
theorem run_again {b : Nat → Bool} {T N q : Nat} (hT : T ≤ 9) (h : ∀ i, N ≤ i → dG b T (i + q) = dG b T i) {i : Nat} (hi : N + 9 ≤ i) : runG b T (i + q) = runG b T i := by
  obtain ⟨k, rfl⟩ : ∃ k, i = k + 9 := ⟨i - 9, by omega⟩
  rw [show k + 9 + q = (k + q) + 9 by omega, run_seg (k + q) 9, run_seg k 9, seg_ext (j := k + q) (k := k) (n := 9) fun i _ => by rw [show k + q + i = k + i + q by omega]; exact h _ (by omega)]
  refine runL_same (fun d hd => ?_) (by rw [seg_len]; exact hT) (by intro z; have := congrArg List.length z; rw [seg_len] at this; cases this) _ _
  obtain ⟨i, _, rfl⟩ := List.mem_map.mp hd
  exact nextG_ge.1
theorem run_on {b : Nat → Bool} {T k n : Nat} (h : runG b T n = runG b T k) : ∀ i, runG b T (n + i) = runG b T (k + i)
  | 0 => h
  | i + 1 => by
    show stG T (runG b T (n + i)) (nextG b (runG b T (n + i))) = stG T (runG b T (k + i)) (nextG b (runG b T (k + i)))
    rw [run_on h i]
/-- from n on p distances come again and again; p is the least -/
structure Per (d : Nat → Nat) (n p : Nat) : Prop where
  pos : 1 ≤ p
  per : ∀ i, n ≤ i → d (i + p) = d i
  dvd : ∀ q N, (∀ i, N ≤ i → d (i + q) = d i) → q % p = 0
/-- .. with as few before as there can be -/
structure Canon (d : Nat → Nat) (n p : Nat) : Prop where
  at_ : Per d n p
  few : n = 0 ∨ d (n - 1 + p) ≠ d (n - 1)
theorem Per.uniq {d : Nat → Nat} {n p n' p' : Nat} (h : Per d n p) (h' : Per d n' p') : p = p' := by
  have a := h.dvd _ _ h'.per
  have b := h'.dvd _ _ h.per
  have := Nat.le_of_dvd h'.pos (Nat.dvd_of_mod_eq_zero a)
  have := Nat.le_of_dvd h.pos (Nat.dvd_of_mod_eq_zero b)
  omega
theorem Canon.uniq {d : Nat → Nat} {n p n' p' : Nat} (h : Canon d n p) (h' : Canon d n' p') : n = n' ∧ p = p' := by
  have e := h.at_.uniq h'.at_
  subst e
  refine ⟨?_, rfl⟩
  rcases Nat.lt_trichotomy n n' with z | z | z
  · rcases h'.few with f | f
    · omega
    · exact absurd (h.at_.per (n' - 1) (by omega)) f
  · exact z
  · rcases h.few with f | f
    · omega
    · exact absurd (h'.at_.per (n - 1) (by omega)) f
/-- one before is taken to those that come again -/
theorem Per.rot {d : Nat → Nat} {n p : Nat} (h : Per d n p) (e : d (n - 1 + p) = d (n - 1)) : Per d (n - 1) p := by
  refine ⟨h.pos, fun i hi => ?_, h.dvd⟩
  by_cases z : i = n - 1
  · rw [z]; exact e
  · exact h.per i (by omega)
theorem seg_cons (d : Nat → Nat) (k n : Nat) : seg d k (n + 1) = d k :: seg d (k + 1) n := by
  unfold seg
  rw [List.range_succ_eq_map, List.map_cons, List.map_map]
  congr 1
  refine List.map_congr_left fun i _ => ?_
  show d (k + (i + 1)) = d (k + 1 + i)
  congr 1; omega
theorem seg_rot {d : Nat → Nat} {n p : Nat} (n1 : 1 ≤ n) (p1 : 1 ≤ p) (e : d (n - 1 + p) = d (n - 1)) : d (n - 1 + p) :: seg d n (p - 1) = seg d (n - 1) p := by
  obtain ⟨q, rfl⟩ : ∃ q, p = q + 1 := ⟨p - 1, by omega⟩
  obtain ⟨m, rfl⟩ : ∃ m, n = m + 1 := ⟨n - 1, by omega⟩
  rw [seg_cons, e]; rfl
theorem seg_take (d : Nat → Nat) (k : Nat) {m n : Nat} (h : m ≤ n) : (seg d k n).take m = seg d k m := by
  unfold seg
  rw [← List.map_take, List.take_range, Nat.min_eq_left h]
theorem seg_drop (d : Nat → Nat) (m k : Nat) : ∀ n, (seg d m (k + n)).drop k = seg d (m + k) n
  | 0 => by rw [List.drop_of_length_le (by rw [seg_len]; exact Nat.le_refl _)]; rfl
  | n + 1 => by
    rw [← Nat.add_assoc, seg_succ, List.drop_append_of_le_length (by rw [seg_len]; omega), seg_drop d m k n, seg_succ, Nat.add_assoc]
theorem per_mul {d : Nat → Nat} {k p : Nat} (h : ∀ i, k ≤ i → d (i + p) = d i) : ∀ t i, k ≤ i → d (i + t * p) = d i
  | 0, i, _ => by rw [Nat.zero_mul, Nat.add_zero]
  | t + 1, i, hi => by
    rw [Nat.succ_mul, ← Nat.add_assoc, h _ (by omega), per_mul h t i hi]
theorem run_mul {b : Nat → Bool} {T k p : Nat} (h : runG b T (k + p) = runG b T k) (t i : Nat) : runG b T (k + i + t * p) = runG b T (k + i) := by
  induction t with
  | zero => rw [Nat.zero_mul, Nat.add_zero]
  | succ t ih =>
    rw [Nat.succ_mul, ← Nat.add_assoc, show k + i + t * p + p = (k + p) + (i + t * p) by omega, run_on h, show k + (i + t * p) = k + i + t * p by omega]
    exact ih
/-- agos that come again are those of the least period of the distances -/
theorem run_least {b : Nat → Bool} {T k p : Nat} (hT : T ≤ 9) (h : runG b T (k + p) = runG b T k) (p1 : 1 ≤ p) (hd : ∀ i j, i < j → j < p → runG b T (k + i) ≠ runG b T (k + j))
    {q N : Nat} (hq : ∀ i, N ≤ i → dG b T (i + q) = dG b T i) : q % p = 0 := by
  have h1 := run_again hT hq (i := k + (N + 9) * p) (by have := Nat.mul_le_mul_left (N + 9) p1; omega)
  have h2 : runG b T (k + (N + 9) * p) = runG b T k := run_mul h (N + 9) 0
  have h3 : runG b T (k + (N + 9) * p + q) = runG b T (k + q % p) := by
    have := Nat.div_add_mod q p
    have h4 := run_mul h (N + 9 + q / p) (q % p)
    rw [Nat.add_mul] at h4
    rw [← h4]
    congr 1
    have : p * (q / p) = q / p * p := Nat.mul_comm _ _
    omega
  rw [h2, h3] at h1
  by_cases z : q % p = 0
  · exact z
  · exact absurd h1.symm (hd 0 (q % p) (by omega) (Nat.mod_lt _ p1))
/-! ### a list that is its first ones again and again -/
theorem flat_len {α : Type} (n : Nat) (l : List α) : (List.replicate n l).flatten.length = n * l.length := by
  induction n with
  | zero => rw [Nat.zero_mul]; rfl
  | succ n ih => rw [List.replicate_succ, List.flatten_cons, List.length_append, ih, Nat.succ_mul, Nat.add_comm]
theorem flat_at {α : Type} {l : List α} : ∀ (n j : Nat), j < n * l.length → (List.replicate n l).flatten[j]? = l[j % l.length]?
  | 0, j, h => by rw [Nat.zero_mul] at h; omega
  | n + 1, j, h => by
    rw [List.replicate_succ, List.flatten_cons]
    rw [Nat.succ_mul] at h
    by_cases z : j < l.length
    · rw [List.getElem?_append_left z, Nat.mod_eq_of_lt z]
    · rw [List.getElem?_append_right (by omega), flat_at n (j - l.length) (by omega), ← Nat.mod_eq_sub_mod (by omega)]
def again (l : List Nat) (m : Nat) : List Nat := (List.replicate (l.length / m) (l.take m)).flatten
theorem again_self {l : List Nat} (h : 1 ≤ l.length) : l = again l l.length := by
  unfold again
  rw [List.take_length, Nat.div_self h, List.replicate_one, List.flatten_cons, List.flatten_nil, List.append_nil]
theorem again_per {d : Nat → Nat} {k p m : Nat} (p1 : 1 ≤ p) (m1 : 1 ≤ m) (hm : m ≤ p) (per : ∀ i, k ≤ i → d (i + p) = d i) (h : seg d k p = again (seg d k p) m) : ∀ i, k ≤ i → d (i + m) = d i := by
  have hl : p = p / m * m := by
    have := congrArg List.length h
    unfold again at this
    rw [flat_len, seg_len, List.length_take, seg_len, Nat.min_eq_left hm] at this
    exact this
  have hat : ∀ j, j < p → d (k + j) = d (k + j % m) := fun j hj => by
    have : (seg d k p)[j]? = (again (seg d k p) m)[j]? := congrArg (·[j]?) h
    unfold again at this
    rw [flat_at _ _ (by rw [List.length_take, seg_len, Nat.min_eq_left hm, ← hl]; exact hj), List.length_take, seg_len, Nat.min_eq_left hm, seg_at _ _ _ _ hj,
      seg_take d k hm, seg_at _ _ _ _ (Nat.mod_lt _ m1)] at this
    exact Option.some.inj this
  have hall : ∀ j, d (k + j) = d (k + j % m) := fun j => by
    have a : d (k + j) = d (k + j % p) := by
      have := per_mul per (j / p) (k + j % p) (by omega)
      rw [← this]
      congr 1
      have := Nat.div_add_mod j p
      have : p * (j / p) = j / p * p := Nat.mul_comm _ _
      omega
    rw [a, hat _ (Nat.mod_lt _ p1), Nat.mod_mod_of_dvd j ⟨p / m, by rw [Nat.mul_comm]; exact hl⟩]
  intro i hi
  obtain ⟨j, rfl⟩ : ∃ j, i = k + j := ⟨i - k, by omega⟩
  rw [Nat.add_assoc, hall (j + m), hall j, Nat.add_mod_right]
theorem per_again {d : Nat → Nat} {k p m : Nat} (m1 : 1 ≤ m) (hm : p % m = 0) (p1 : 1 ≤ p) (per : ∀ i, k ≤ i → d (i + m) = d i) : seg d k p = again (seg d k p) m := by
  have hd : p / m * m = p := Nat.div_mul_cancel (Nat.dvd_of_mod_eq_zero hm)
  have hmp : m ≤ p := Nat.le_of_dvd p1 (Nat.dvd_of_mod_eq_zero hm)
  have ll : (again (seg d k p) m).length = p := by
    unfold again
    rw [flat_len, seg_len, List.length_take, seg_len, Nat.min_eq_left hmp, hd]
  refine List.ext_getElem? fun j => ?_
  by_cases hj : j < p
  · unfold again
    rw [flat_at _ _ (by rw [List.length_take, seg_len, Nat.min_eq_left hmp, hd]; exact hj), List.length_take, seg_len, Nat.min_eq_left hmp, seg_at _ _ _ _ hj,
      seg_take d k hmp, seg_at _ _ _ _ (Nat.mod_lt _ m1)]
    congr 1
    have := per_mul per (j / m) (k + j % m) (by omega)
    rw [← this]
    congr 1
    have := Nat.div_add_mod j m
    have : m * (j / m) = j / m * m := Nat.mul_comm _ _
    omega
  · rw [List.getElem?_eq_none (by rw [seg_len]; omega), List.getElem?_eq_none (by omega)]
/-- the law's way: the fewest that make all that come again -/
theorem fewest {d : Nat → Nat} {k0 k p p' m : Nat} (h : Per d k0 p) (p1 : 1 ≤ p') (per : ∀ i, k ≤ i → d (i + p') = d i) (m1 : 1 ≤ m) (hm : seg d k p' = again (seg d k p') m)
    (lo : ∀ e, 1 ≤ e → e < m → seg d k p' ≠ again (seg d k p') e) : Per d k m ∧ m ≤ p' := by
  have hp := h.dvd _ _ per
  have pp : p ≤ p' := Nat.le_of_dvd p1 (Nat.dvd_of_mod_eq_zero hp)
  have perp : ∀ i, k ≤ i → d (i + p) = d i := fun i hi => by
    have a := per_mul per k0 i hi
    have b := per_mul per k0 (i + p) (by omega)
    rw [← a, ← b, show i + p + k0 * p' = i + k0 * p' + p by omega]
    exact h.per _ (by have := Nat.mul_le_mul_left k0 p1; omega)
  have hle : m ≤ p := by
    rcases Nat.lt_or_ge p m with z | z
    · exact absurd (per_again h.pos hp p1 perp) (lo p h.pos z)
    · exact z
  have perm := again_per p1 m1 (by omega) per hm
  have := Nat.le_of_dvd m1 (Nat.dvd_of_mod_eq_zero (h.dvd _ _ perm))
  obtain rfl : m = p := by omega
  exact ⟨⟨m1, perm, h.dvd⟩, by omega⟩
/-- the program's way -/
theorem run_Per {b : Nat → Bool} {T k n : Nat} (hT : T ≤ 9) (kn : k < n) (h : runG b T n = runG b T k) (hd : ∀ i j, i < j → j < n → runG b T i ≠ runG b T j) : Per (dG b T) k (n - k) := by
  have h' : runG b T (k + (n - k)) = runG b T k := by rw [show k + (n - k) = n by omega]; exact h
  refine ⟨by omega, fun i hi => ?_, fun q N hq => run_least hT h' (by omega) (fun i j hij hj => hd _ _ (by omega) (by omega)) hq⟩
  have := run_mul h' 1 (i - k)
  rw [show k + (i - k) + 1 * (n - k) = i + (n - k) by omega, show k + (i - k) = i by omega] at this
  unfold dG
  rw [this]
end Sg

set_option Elab.async false
set_option linter.all false
set_option maxRecDepth 100000
set_option maxHeartbeats 4000000
namespace Sg
open PySem PySem.Spec PyProof.Rows L2 StX
section
variable {P : Program} {w : World} {K : PySem.W.Frag} {mg : Str → Option Value} {base : Heap}
/-! ### _law_same -/
theorem ok_l_same {f : Addr} {fd : FuncData} {k : Nat} (F : Fun K "_law_same" "_law_same" s_l_same f fd) (m1 : mg "repr" = none) :
    FnG P w K mg base (k + 1) f fd ["_law_found", "_law_due"] (spSame K) := by
  refine fnG_mk F sc_l_same (fun vs H Q h => ?_) (fun cdv A outer s H vs Q hg hr h => ?_)
  · obtain ⟨a, b, d, rfl, _⟩ := h; rfl
  · obtain ⟨a, b, d, rfl, h1, h2, hd, q⟩ := h
    refine ⟨_, pss_one (ps_ret (pe_cmpR op_eq (pe_callB (call_reprD hg hr) (by rfl) m1 (by decide +kernel) (pa_cons (pv 0) pa_nil))
      (pe_callB (call_reprD hg hr) (by rfl) m1 (by decide +kernel) (pa_cons (pv 1) pa_nil)) (nomark _))), ?_⟩
    refine ⟨.ref a, rfl, a, d, rfl, h1, hd, .ref b, rfl, b, d, rfl, h2, hd, rfl, ?_⟩
    rw [decide_eq_true rfl]
    exact q
/-! ### _law_pick -/
def spPick : Sp := fun vs H Q _ => ∃ (p l : Addr) (ns : List Int), vs = [.ref p, .ref l] ∧ PenAt H p ∧ l ≠ p ∧ H l = some (.lst (ns.map V.int)) ∧ 0 < ns.length ∧ ns.length < 1000000 ∧
  ∀ H' n, n ∈ ns → PenAt H' p → But p H H' → Q (.int n) H'
theorem ok_pick {f f1 : Addr} {fd fd1 : FuncData} {k : Nat} (F : Fun K "_law_pick" "_law_pick" s_l_pick f fd)
    (G1 : FnOk P w K mg base CX0 k f1 fd1 ["_law_pen_here", "_law_many"] spDraw) (kp1 : PySem.W.keepIn K (.ref f1) = true) (b1 : Binds K fd1 ["_law_pen_here", "_law_many"] []) (g1 : mg "_law_draw" = some (.ref f1))
    (m1 : mg "len" = none) : FnOk P w K mg base CX0 (k + 1) f fd ["_law_pen_here", "_law_some"] spPick := by
  refine F.ok sc_l_pick (fun vs H Q E h => ?_) (fun cdv A outer s H vs Q E hr h => ?_)
  · obtain ⟨p, l, ns, rfl, _⟩ := h; rfl
  · obtain ⟨p, l, ns, rfl, hp, nlp, hl, z0, z1, q⟩ := h
    refine ⟨_, pss_one (ps_ret (pe_ix ix_list (pv 1) (pe_call G1 hr (by rfl) g1 kp1 b1 .nil pass0 (pa_cons (pv 0) (pa_cons (pe_callB call_len_seq (by rfl) m1 PySem.boot_len (pa_cons (pv 1) pa_nil)) pa_nil))) (fun _ _ => rfl))), ?_⟩
    have len : (ns.map V.int).length = ns.length := List.length_map _
    refine ⟨.ref l, rfl, .ref p, rfl, .ref l, rfl, l, _, rfl, .inl (.of hl), p, _, rfl, hp, by rw [len]; omega, by rw [len]; omega, fun H' r r0 r1 p' b' => ?_⟩
    rw [len] at r1
    obtain ⟨j, rfl⟩ : ∃ j : Nat, r = j := ⟨r.toNat, by omega⟩
    have hj : j < ns.length := by omega
    refine ⟨l, _, (j : Int), .int ns[j], rfl, rfl, .of (b' _ _ nlp hl), atI_nat ?_, q H' ns[j] (List.getElem_mem hj) p' b'⟩
    rw [List.getElem?_map, List.getElem?_eq_getElem hj]
    rfl
end
theorem set_at2 {l : List Int} {i t : Nat} {z x : Int} (h : (l.set i z)[t]? = some x) : (i = t ∧ z = x) ∨ l[t]? = some x := by
  by_cases e : i = t
  · subst e
    have hl := (List.getElem?_eq_some_iff.mp h).1
    rw [List.length_set] at hl
    rw [List.getElem?_set_self hl] at h
    exact .inl ⟨rfl, Option.some.inj h⟩
  · rw [List.getElem?_set_ne e] at h
    exact .inr h
/-! ## works whose bars are near -/
/-- what stands at a tick is one of three stations of its stretch -/
def Blk (nn : List Int) (far : Int) (ns : List Int) : Prop := ∀ (t : Nat) (x : Int), ns[t]? = some x → x = -1 ∨ ∃ (r : Int) (j : Nat), 0 ≤ r ∧ r < 3 ∧ 3 * ((t : Int) / (far + 1)) + r = j ∧ nn[j]? = some x
theorem Blk.add {nn ns : List Int} {far z : Int} {i : Nat} (h : Blk nn far ns) (l : ns.length = i) (hz : z = -1 ∨ ∃ (r : Int) (j : Nat), 0 ≤ r ∧ r < 3 ∧ 3 * ((0 + (i : Int)) / (far + 1)) + r = j ∧ nn[j]? = some z) : Blk nn far (ns ++ [z]) := by
  intro t x hx
  rcases Nat.lt_or_ge t ns.length with g | g
  · rw [List.getElem?_append_left g] at hx
    exact h t x hx
  · rw [List.getElem?_append_right g] at hx
    have e : t - ns.length = 0 := by
      have := (List.getElem?_eq_some_iff.mp hx).1
      rw [List.length_singleton] at this
      omega
    rw [e] at hx
    obtain rfl : z = x := Option.some.inj hx
    rw [show (t : Int) = 0 + (i : Int) by omega]
    exact hz
theorem Blk.set {nn ns : List Int} {far z : Int} {i : Nat} (h : Blk nn far ns) (hz : ∃ (r : Int) (j : Nat), 0 ≤ r ∧ r < 3 ∧ 3 * ((i : Int) / (far + 1)) + r = j ∧ nn[j]? = some z) : Blk nn far (ns.set i z) := by
  intro t x hx
  rcases set_at2 hx with ⟨rfl, rfl⟩ | g
  · exact .inr hz
  · exact h t x g
/-- all stations are unlike -/
def Unlike (nn : List Int) : Prop := ∀ (i j : Nat) (x : Int), nn[i]? = some x → nn[j]? = some x → i = j
theorem Blk.near {nn ns : List Int} {far x : Int} (h : Blk nn far ns) (u : Unlike nn) (f0 : 0 ≤ far) {i d : Nat} (hi : ns[i]? = some x) (hj : ns[d + i]? = some x) (hx : x ≠ -1) : (d : Int) ≤ far := by
  rcases h i x hi with z | ⟨r, j, r0, r1, e, ej⟩
  · exact absurd z hx
  rcases h _ x hj with z | ⟨r', j', r0', r1', e', ej'⟩
  · exact absurd z hx
  obtain rfl := u j j' x ej ej'
  have q : (i : Int) / (far + 1) = ((d + i : Nat) : Int) / (far + 1) := by omega
  have a := Int.mul_ediv_add_emod (i : Int) (far + 1)
  have b := Int.mul_ediv_add_emod ((d + i : Nat) : Int) (far + 1)
  have c := Int.emod_nonneg (i : Int) (show far + 1 ≠ 0 by omega)
  have g := Int.emod_lt_of_pos ((d + i : Nat) : Int) (show (0 : Int) < far + 1 by omega)
  rw [q] at a
  generalize (far + 1) * (((d + i : Nat) : Int) / (far + 1)) = m at a b
  omega
/-- ten stations, each a step behind the one before -/
abbrev nameAt (fi st : Int) (i : Nat) : Int := (fi + st * (0 + (i : Int))) % 10
theorem names_unlike {fi st : Int} (hs : st ∈ ([1, 3, 7, 9] : List Int)) : Unlike ((List.range 10).map (nameAt fi st)) := by
  intro i j x hi hj
  rw [List.getElem?_map] at hi hj
  obtain ⟨a, ha, e1⟩ := Option.map_eq_some_iff.mp hi
  obtain ⟨b, hb, e2⟩ := Option.map_eq_some_iff.mp hj
  obtain ⟨hi1, rfl⟩ := List.getElem?_eq_some_iff.mp ha
  obtain ⟨hj1, rfl⟩ := List.getElem?_eq_some_iff.mp hb
  rw [List.getElem_range] at e1 e2
  rw [List.length_range] at hi1 hj1
  unfold nameAt at e1 e2
  simp only [List.mem_cons, List.not_mem_nil, or_false] at hs
  rcases hs with rfl | rfl | rfl | rfl <;> omega
section
variable {P : Program} {w : World} {K : PySem.W.Frag} {mg : Str → Option Value} {base : Heap}
/-! ### _law_names -/
def spNames : Sp := fun vs H Q _ => ∃ (p : Addr), vs = [.ref p] ∧ PenAt H p ∧
  ∀ H' q (ns : List Int), PenAt H' p → But p H H' → H q = none → q ≠ p → H' q = some (.lst (ns.map V.int)) → ns.length = 10 → (∀ x ∈ ns, 0 ≤ x ∧ x ≤ 9) → Unlike ns → Q (.ref q) H'
theorem ok_names {f f1 f2 : Addr} {fd fd1 fd2 : FuncData} {k : Nat} (F : Fun K "_law_names" "_law_names" s_l_names f fd)
    (G1 : FnOk P w K mg base CX0 k f1 fd1 ["_law_pen_here", "_law_many"] spDraw) (kp1 : PySem.W.keepIn K (.ref f1) = true) (b1 : Binds K fd1 ["_law_pen_here", "_law_many"] []) (g1 : mg "_law_draw" = some (.ref f1))
    (G2 : FnOk P w K mg base CX0 k f2 fd2 ["_law_pen_here", "_law_some"] spPick) (kp2 : PySem.W.keepIn K (.ref f2) = true) (b2 : Binds K fd2 ["_law_pen_here", "_law_some"] []) (g2 : mg "_law_pick" = some (.ref f2))
    (m1 : mg "range" = none) : FnOk P w K mg base CX0 (k + 1) f fd ["_law_pen_here"] spNames := by
  refine F.ok sc_l_names (fun vs H Q E h => ?_) (fun cdv A outer s H vs Q E hr h => ?_)
  · obtain ⟨p, rfl, _⟩ := h; rfl
  · obtain ⟨p, rfl, hp, q⟩ := h
    refine ⟨_, pss_cons (ps_asg (pe_tup (pa_cons (pe_call G1 hr (by rfl) g1 kp1 b1 .nil pass0 (pa_cons (pv 0) (pa_cons pe_int pa_nil)))
          (pa_cons (pe_call G2 hr (by rfl) g2 kp2 b2 .nil pass0 (pa_cons (pv 0) (pa_cons (pe_lst (pa_cons pe_int (pa_cons pe_int (pa_cons pe_int (pa_cons pe_int pa_nil))))) pa_nil))) pa_nil)))
        (pg_tup rfl (pgs_cons (pg_name (i := 1) sc_l_names.nd rfl (.inr rfl)) (pgs_cons (pg_name (i := 2) sc_l_names.nd rfl (.inr rfl)) pgs_nil))))
      (pss_one (ps_ret (pe_lc (own := [("_law_at", 3)]) (g := gName 3) (tt := tYes) rfl sc_l_names.nd (pi_range1 (by rfl) m1 (pa_cons pe_int pa_nil)) (blkOk_by (N := ["_law_pen_here", "_law_first", "_law_step", "_law_at"]) (sc := defScope s_l_names) (by decide +kernel))
        (fun _ _ _ _ _ => pg_name (i := 3) sc_l_names.nd rfl (Or.inl rfl)) (fun _ _ _ _ _ => pts_nil)
        (fun _ _ _ _ _ => pe_op op_mod (pe_op op_add (pv 1) (pe_op op_mul (pv 2) (pv 3))) pe_int)))), ?_⟩
    refine ⟨.ref p, rfl, p, 10, rfl, hp, by decide, by decide, fun H1 fi fi0 fi1 p1 b1' => ?_⟩
    refine ⟨.ref p, rfl, by show 4 ≤ sizeLine; decide, fun l nl => ⟨p, l, [1, 3, 7, 9], rfl, p1.new nl, (p1.ne nl).symm, upd_same, by decide, by decide, fun H2 st hst p2 b2' => ?_⟩⟩
    have c2 : But p H H2 := (b1'.trans (.of (same_new nl))).trans b2'
    have hst1 : 1 ≤ st ∧ st ≤ 9 := by
      have h4 : ∀ z ∈ ([1, 3, 7, 9] : List Int), 1 ≤ z ∧ z ≤ 9 := by decide
      exact h4 st hst
    refine ⟨by show 2 ≤ sizeLine; decide, fun T nT => ⟨T, _, rfl, .of upd_same, rfl, _, _, rfl, _, _, rfl, rfl, ?_⟩⟩
    have c3 : But p H (upd H2 T (.tup [V.int fi, .int st])) := c2.trans (.of (same_new nT))
    have p3 := p2.new (o := .tup [V.int fi, .int st]) nT
    generalize upd H2 T (.tup [V.int fi, .int st]) = H3 at c3 p3 ⊢
    refine ⟨10, rfl, by decide, by decide, fun D hD => ?_⟩
    have nDp : D ≠ p := (p3.ne hD).symm
    have nDH : H D = none := hp.free p3 c3 hD
    refine lc_range (lo := 0) (n := 10) (fun i H' => PenAt H' p ∧ But p H H' ∧ ∃ ns : List Int, H' D = some (.lst (ns.map V.int)) ∧ ns.length = i ∧ (∀ x ∈ ns, 0 ≤ x ∧ x ≤ 9) ∧ ns = (List.range i).map (nameAt fi st)) ⟨p3.new hD, c3.trans (.of (same_new hD)), [], upd_same, rfl, (fun x hx => nomatch hx), rfl⟩ (fun i H' hi h => ?_) (fun H' h => ?_)
    · obtain ⟨p4, c4, ns, hD4, l4, i4, e4⟩ := h
      refine ⟨rfl, .int fi, rfl, .int st, rfl, .int (0 + (i : Nat)), rfl, st, 0 + (i : Nat), rfl, rfl, .inl ⟨by omega, by omega⟩, _, _, rfl, rfl, _, 10, rfl, rfl, by show (0 : Int) < 10; decide, _, hD4, ?_, p4.upd nDp.symm, fun b o nb e => ?_, ns ++ [(fi + st * (0 + (i : Int))) % 10], ?_, ?_, fun x hx => ?_, by rw [e4, List.range_succ, List.map_append]; rfl⟩
      · rw [List.length_map]; exact small1000 (by omega)
      · rw [upd_ne (ne_of_none e nDH)]
        exact c4 _ _ nb e
      · rw [upd_same, List.map_append]; rfl
      · rw [List.length_append]; show ns.length + 1 = _; omega
      · rcases List.mem_append.mp hx with h | h
        · exact i4 x h
        · rw [List.mem_singleton.mp h]
          have h1 := Int.emod_nonneg (fi + st * (0 + (i : Int))) (show (10 : Int) ≠ 0 by decide)
          have h2 := Int.emod_lt_of_pos (fi + st * (0 + (i : Int))) (show (0 : Int) < 10 by decide)
          exact ⟨h1, Int.le_of_lt_add_one h2⟩
    · obtain ⟨p4, c4, ns, hD4, l4, i4, e4⟩ := h
      exact q _ D ns p4 c4 nDH nDp hD4 l4 i4 (by rw [e4]; exact names_unlike hst)
/-! ### _law_work -/
def spLWork : Sp := fun vs H Q _ => ∃ (p l : Addr) (nn : List Int) (far bl : Int), vs = [.ref p, .ref l, .int far, .int bl] ∧ PenAt H p ∧ l ≠ p ∧ H l = some (.lst (nn.map V.int)) ∧ nn.length = 10 ∧ (∀ x ∈ nn, 0 ≤ x ∧ x ≤ 9) ∧ 0 ≤ far ∧ far ≤ 19 ∧ 1 ≤ bl ∧ bl ≤ 3 ∧
  ∀ H' t (ns : List Int), PenAt H' p → But p H H' → H t = none → H' t = some (.tup (ns.map V.int)) → IsWork ns → Blk nn far ns → Q (.ref t) H'
theorem ok_lwork {f f1 f2 : Addr} {fd fd1 fd2 : FuncData} {k : Nat} (F : Fun K "_law_work" "_law_work" s_l_work f fd)
    (G1 : FnOk P w K mg base CX0 k f1 fd1 ["_law_pen_here", "_law_many"] spDraw) (kp1 : PySem.W.keepIn K (.ref f1) = true) (b1 : Binds K fd1 ["_law_pen_here", "_law_many"] []) (g1 : mg "_law_draw" = some (.ref f1))
    (G2 : FnOk P w K mg base CX0 k f2 fd2 ["_law_pen_here", "_law_some"] spPick) (kp2 : PySem.W.keepIn K (.ref f2) = true) (b2 : Binds K fd2 ["_law_pen_here", "_law_some"] []) (g2 : mg "_law_pick" = some (.ref f2))
    (m1 : mg "range" = none) (m2 : mg "tuple" = none) (m3 : mg "len" = none) : FnOk P w K mg base CX0 (k + 1) f fd ["_law_pen_here", "_law_names_here", "_law_far", "_law_blocks"] spLWork := by
  refine F.ok sc_l_work (fun vs H Q E h => ?_) (fun cdv A outer s H vs Q E hr h => ?_)
  · obtain ⟨p, l, nn, far, bl, rfl, _⟩ := h; rfl
  · obtain ⟨p, l, nn, far, bl, rfl, hp, nlp, hl, lnn, inn, hf0, hf1, hb0, hb1, q⟩ := h
    refine ⟨_, pss_cons (ps_par (i := 4) (j := 5) (by rfl) sc_l_work.nd rfl rfl (by decide) rfl rfl (pa_cons (pe_op op_add pe_int (pe_call G1 hr (by rfl) g1 kp1 b1 .nil pass0 (pa_cons (pv 0) (pa_cons pe_int pa_nil))))
          (pa_cons (pe_call G2 hr (by rfl) g2 kp2 b2 .nil pass0 (pa_cons (pv 0) (pa_cons (pe_lst (pa_cons pe_int (pa_cons pe_int (pa_cons pe_int (pa_cons pe_int pa_nil))))) pa_nil))) pa_nil)) (by rfl))
      (pss_cons (ps_set (i := 6) sc_l_work.nd rfl (.inl rfl) (pe_lst pa_nil))
      (pss_cons (ps_for PassesOwn.never rfl (pi_range1 (by rfl) m1 (pa_cons (pe_op op_add pe_int (pe_call G1 hr (by rfl) g1 kp1 b1 .nil pass0 (pa_cons (pv 0) (pa_cons (pe_op op_mul (pv 3) (pe_op op_add (pv 2) pe_int)) pa_nil)))) pa_nil)) (pg_name (i := 7) sc_l_work.nd rfl (.inl rfl))
        (pss_cons (ps_set (i := 8) sc_l_work.nd rfl (.inl rfl) (pe_ix ix_list (pv 1) (pe_op op_add (pe_op op_mul pe_int (pe_op op_fdiv (pv 7) (pe_op op_add (pv 2) pe_int))) (pe_call G1 hr (by rfl) g1 kp1 b1 .nil pass0 (pa_cons (pv 0) (pa_cons (pv 4) pa_nil)))) (fun _ _ => rfl)))
        (pss_one (ps_expr (pe_bm PySem.F.plainAttrs_list PySem.F.slot_list_append PySem.F.type_list_append mt_append (pv 6)
          (pa_cons (pe_ifExp (pt_cmpR op_eq (pe_call G1 hr (by rfl) g1 kp1 b1 .nil pass0 (pa_cons (pv 0) (pa_cons (pv 5) pa_nil))) pe_int (nomark _)) (pv 8) (pe_un un_neg pe_int)) pa_nil))))))
      (pss_cons (ps_if (pt_cmpR op_eq (pe_ix ix_list (pv 6) pe_int (fun _ _ => rfl)) (pe_un un_neg pe_int) (nomark _))
        (pss_one (ps_asg (pe_ix ix_list (pv 1) pe_int (fun _ _ => rfl)) (pg_sub (pv 6) pe_int set_list))) pss_nil)
      (pss_cons (ps_if (pt_cmpR op_eq (pe_ix ix_list (pv 6) (pe_un un_neg pe_int) (fun _ _ => rfl)) (pe_un un_neg pe_int) (nomark _))
        (pss_one (ps_asg (pe_ix ix_list (pv 1) (pe_op op_mul pe_int (pe_op op_fdiv (pe_op op_sub (pe_callB call_len_seq (by rfl) m3 PySem.boot_len (pa_cons (pv 6) pa_nil)) pe_int) (pe_op op_add (pv 2) pe_int))) (fun _ _ => rfl)) (pg_sub (pv 6) (pe_un un_neg pe_int) set_list))) pss_nil)
      (pss_one (ps_ret (pe_callTy call_tuple_of (by rfl) m2 (by decide +kernel) (pa_cons (pv 6) pa_nil)))))))), ?_⟩
    refine ⟨.ref p, rfl, p, 3, rfl, hp, by decide, by decide, fun H1 ma ma0 ma1 p1 b1' => ⟨1, ma, rfl, rfl, ?_⟩⟩
    refine ⟨.ref p, rfl, by show 4 ≤ sizeLine; decide, fun l2 nl2 => ⟨p, l2, [1, 1, 2, 4], rfl, p1.new nl2, (p1.ne nl2).symm, upd_same, by decide, by decide, fun H2 ra hra p2 b2' => ⟨_, _, rfl, ?_⟩⟩⟩
    have c2 : But p H H2 := (b1'.trans (.of (same_new nl2))).trans b2'
    have hra1 : 1 ≤ ra ∧ ra ≤ 4 := by
      have h4 : ∀ z ∈ ([1, 1, 2, 4] : List Int), 1 ≤ z ∧ z ≤ 4 := by decide
      exact h4 ra hra
    clear b1' b2'
    refine ⟨by show 0 ≤ sizeLine; decide, fun I nI => ?_⟩
    have c3 : But p H (upd H2 I (.lst [])) := c2.trans (.of (same_new nI))
    have hI3 : (upd H2 I (.lst [])) I = some (.lst []) := upd_same
    have p3 := p2.new (o := .lst []) nI
    have nIp : I ≠ p := (p2.ne nI).symm
    have nIH : H I = none := hp.free p2 c2 nI
    have nlI : l ≠ I := ne_of_none hl nIH
    generalize upd H2 I (.lst []) = H3 at c3 hI3 p3 ⊢
    have hbf : bl * (far + 1) ≤ 3 * (far + 1) := Int.mul_le_mul_of_nonneg_right hb1 (by omega)
    have hbf0 : 0 < bl * (far + 1) := Int.mul_pos (by omega) (by omega)
    refine ⟨.ref p, rfl, .int bl, rfl, .int far, rfl, far, 1, rfl, rfl, bl, far + 1, rfl, rfl, .inl ⟨by omega, by omega⟩, p, bl * (far + 1), rfl, p3, hbf0, by omega, fun H4 c c0 c1 p4 b4 => ⟨1, c, rfl, rfl, 1 + c, rfl, by omega, by omega, ?_⟩⟩
    have c4 := c3.trans b4
    have hI4 := b4 _ _ nIp hI3
    refine for_range (lo := 0) (n := (1 + c).toNat) (fun i σ H' => ∃ v7 v8, σ = [some (.ref p), some (.ref l), some (.int far), some (.int bl), some (.int (1 + ma)), some (.int ra), some (.ref I), v7, v8] ∧ PenAt H' p ∧ But p H H' ∧
        ∃ ns : List Int, H' I = some (.lst (ns.map V.int)) ∧ ns.length = i ∧ (∀ x ∈ ns, -1 ≤ x ∧ x ≤ 9) ∧ Blk nn far ns) ⟨_, _, rfl, p4, c4, [], hI4, rfl, (fun x hx => nomatch hx), (fun t x hx => nomatch hx)⟩ ?_ ?_
    · rintro i σ H5 hi ⟨v7, v8, rfl, p5, c5, ns, hI5, l5, i5, k5⟩
      have hl5 := c5 _ _ nlp hl
      have hq0 : 0 ≤ (0 + (i : Int)) / (far + 1) := Int.ediv_nonneg (by omega) (by omega)
      have hq1 : (0 + (i : Int)) / (far + 1) < 3 := Int.ediv_lt_of_lt_mul (by omega) (by omega)
      refine ⟨.ref l, rfl, .int (0 + (i : Nat)), rfl, .int far, rfl, far, 1, rfl, rfl, 0 + (i : Nat), far + 1, rfl, rfl, ⟨by omega, by omega⟩, 3, _, rfl, rfl, .inl (by decide), .ref p, rfl, .int (1 + ma), rfl, p, 1 + ma, rfl, p5, by omega, by omega, fun H6 r r0 r1 p6 b6 => ⟨_, _, rfl, rfl, ?_⟩⟩
      obtain ⟨j, hj, hj10⟩ : ∃ j : Nat, 3 * ((0 + (i : Int)) / (far + 1)) + r = j ∧ j < nn.length := ⟨(3 * ((0 + (i : Int)) / (far + 1)) + r).toNat, by omega, by omega⟩
      have hl6 := b6 _ _ nlp hl5
      have hI6 := b6 _ _ nIp hI5
      have gj : (nn.map V.int)[j]? = some (.int nn[j]) := by rw [List.getElem?_map, List.getElem?_eq_getElem hj10]; rfl
      have hx := inn nn[j] (List.getElem_mem hj10)
      refine ⟨l, _, (j : Int), .int nn[j], rfl, congrArg V.int hj, .of hl6, atI_nat gj, ?_⟩
      refine ⟨.ref I, rfl, .inl ⟨rfl, _, .of hI6⟩, .ref p, rfl, .int ra, rfl, p, ra, rfl, p6, by omega, by omega, fun H7 r7 _ _ p7 b7 => ?_⟩
      have hI7 := b7 _ _ nIp hI6
      have lns : (ns.map V.int).length < sizeLine := by rw [List.length_map]; exact small1000 (by omega)
      have fin : ∀ z : Int, -1 ≤ z → z ≤ 9 → Blk nn far (ns ++ [z]) → PenAt (L2.upd H7 I (.lst (ns.map V.int ++ [V.int z]))) p ∧ But p H (L2.upd H7 I (.lst (ns.map V.int ++ [V.int z]))) ∧
          ∃ ns' : List Int, (L2.upd H7 I (.lst (ns.map V.int ++ [V.int z]))) I = some (.lst (ns'.map V.int)) ∧ ns'.length = i + 1 ∧ (∀ x ∈ ns', -1 ≤ x ∧ x ≤ 9) ∧ Blk nn far ns' := by
        intro z z1 z2 kz
        refine ⟨p7.upd nIp.symm, fun b o n e => ?_, ns ++ [z], ?_, ?_, fun x hx => ?_, kz⟩
        · rw [upd_ne (ne_of_none e nIH)]
          exact b7 _ _ n (b6 _ _ n (c5 _ _ n e))
        · rw [upd_same, List.map_append]; rfl
        · rw [List.length_append]; show ns.length + 1 = _; omega
        · rcases List.mem_append.mp hx with h | h
          · exact i5 x h
          · rw [List.mem_singleton.mp h]; exact ⟨z1, z2⟩
      refine ⟨rfl, _, rfl, ite2 (fun _ => ?_) (fun _ => ?_)⟩
      · exact ⟨.int nn[j], rfl, I, _, _, rfl, rfl, hI7, lns, _, _, rfl, fin _ (by omega) (by omega) (k5.add l5 (.inr ⟨r, j, r0, by omega, hj, List.getElem?_eq_getElem hj10⟩))⟩
      · exact ⟨1, rfl, I, _, _, rfl, rfl, hI7, lns, _, _, rfl, fin (-1) (by decide) (by decide) (k5.add l5 (.inl rfl))⟩
    · rintro σ H5 ⟨v7, v8, rfl, p5, c5, ns, hI5, l5, i5, k5⟩
      have ln1 : 1 ≤ ns.length := by omega
      have ln2 : ns.length ≤ 60 := by omega
      have lm : (ns.map V.int).length = ns.length := List.length_map _
      have hl5 := c5 _ _ nlp hl
      -- the last step: from any list of such items
      have last : ∀ (H' : Hp) (gs : List Int), PenAt H' p → But p H H' → H' I = some (.lst (gs.map V.int)) → gs.length = ns.length → (∀ x ∈ gs, -1 ≤ x ∧ x ≤ 9) → (∀ x, gs[0]? = some x → x ≠ -1) → (∀ x, gs[gs.length - 1]? = some x → x ≠ -1) → Blk nn far gs →
          ∃ v, (some (some (V.ref I)) : Option (Option V)) = some (some v) ∧ ∃ (q0 : Addr) (ys : List V), [v] = [V.ref q0] ∧ ((SqL K H' q0 ys ∧ ∀ l, H' l = none → Q (.ref l) (L2.upd H' l (.tup ys))) ∨ (SqT K H' q0 ys ∧ Q (.ref q0) H')) := by
        intro H' gs pg cg hg lg ig h0 hL kg
        exact ⟨_, rfl, I, _, rfl, .inl ⟨.of hg, fun t nt => q _ t gs (pg.new nt) (cg.trans (.of (same_new nt))) (hp.free pg cg nt) upd_same ⟨by omega, by omega, ig, h0, hL⟩ kg⟩⟩
      have h00 : (ns.map V.int)[0]? = some (.int ns[0]) := by rw [List.getElem?_map, List.getElem?_eq_getElem (by omega)]; rfl
      have n0 : (nn.map V.int)[0]? = some (.int nn[0]) := by rw [List.getElem?_map, List.getElem?_eq_getElem (by omega)]; rfl
      have hn0 := inn nn[0] (List.getElem_mem (by omega))
      refine ⟨.ref I, rfl, I, _, 0, .int ns[0], rfl, rfl, .of hI5, atI_nat h00, 1, rfl, rfl, _, rfl, ite2 (fun eq => ?a) (fun ne => ?b)⟩
      case' a =>
        refine ⟨.ref l, rfl, l, _, 0, .int nn[0], rfl, rfl, .of hl5, atI_nat n0, .ref I, rfl, I, _, 0, 0, rfl, rfl, hI5, ixN_nat (j := 0) (by rw [lm]; omega), ?_⟩
        rw [show (ns.map V.int).set 0 (.int nn[0]) = (ns.set 0 nn[0]).map V.int from by rw [List.map_set]]
        have hI6 : (L2.upd H5 I (.lst ((ns.set 0 nn[0]).map V.int))) I = some (.lst ((ns.set 0 nn[0]).map V.int)) := upd_same
        have p6 := p5.upd (o := .lst ((ns.set 0 nn[0]).map V.int)) nIp.symm
        have c6 : But p H (L2.upd H5 I (.lst ((ns.set 0 nn[0]).map V.int))) := fun b o n e => by
          rw [upd_ne (ne_of_none e nIH)]
          exact c5 _ _ n e
        have lg : (ns.set 0 nn[0]).length = ns.length := List.length_set
        have ig : ∀ x ∈ ns.set 0 nn[0], -1 ≤ x ∧ x ≤ 9 := fun x hx => by
          rcases mem_set hx with h | h
          · omega
          · exact i5 x h
        have h0 : ∀ x, (ns.set 0 nn[0])[0]? = some x → x ≠ -1 := fun x hx => by
          rcases set_at hx with h | ⟨h, _⟩
          · omega
          · exact absurd rfl h
        have kg : Blk nn far (ns.set 0 nn[0]) := k5.set ⟨0, 0, by decide, by decide, by rw [show ((0 : Nat) : Int) = 0 from rfl, Int.zero_ediv]; rfl, List.getElem?_eq_getElem (by omega)⟩
        generalize ns.set 0 nn[0] = gs at hI6 p6 c6 lg ig h0 kg ⊢
        generalize L2.upd H5 I (.lst (gs.map V.int)) = H6 at hI6 p6 c6 ⊢
      case' b =>
        obtain ⟨gs, hgs⟩ : ∃ gs, gs = ns := ⟨ns, rfl⟩
        have h0 : ∀ x, gs[0]? = some x → x ≠ -1 := fun x hx e => by
          subst e
          rw [hgs, List.getElem?_eq_getElem (by omega)] at hx
          exact ne (decide_eq_true (congrArg V.int (Option.some.inj hx)))
        have hI6 : H5 I = some (.lst (gs.map V.int)) := by rw [hgs]; exact hI5
        have p6 := p5
        have c6 := c5
        have lg : gs.length = ns.length := by rw [hgs]
        have ig : ∀ x ∈ gs, -1 ≤ x ∧ x ≤ 9 := by rw [hgs]; exact i5
        have kg : Blk nn far gs := by rw [hgs]; exact k5
      all_goals
        have hl6 := c6 _ _ nlp hl
        have lgm : (gs.map V.int).length = gs.length := List.length_map _
        have hlt : gs.length - 1 < gs.length := by omega
        have hat : atI (gs.map V.int) (-1) = some (.int gs[gs.length - 1]) := by
          unfold atI
          rw [lgm, ixN_end (by omega)]
          show (gs.map V.int)[gs.length - 1]? = _
          rw [List.getElem?_map, List.getElem?_eq_getElem hlt]
          rfl
        refine ⟨.ref I, rfl, 1, rfl, I, _, -1, .int gs[gs.length - 1], rfl, rfl, .of hI6, hat, 1, rfl, rfl, _, rfl, ite2 (fun eq => ?_) (fun ne2 => ?_)⟩
        · have hq0 : 0 ≤ ((gs.length : Int) - 1) / (far + 1) := Int.ediv_nonneg (by omega) (by omega)
          have hq1 : ((gs.length : Int) - 1) / (far + 1) < 3 := Int.ediv_lt_of_lt_mul (by omega) (by omega)
          obtain ⟨j, hj, hj10⟩ : ∃ j : Nat, 3 * (((gs.length : Int) - 1) / (far + 1)) = j ∧ j < nn.length := ⟨(3 * (((gs.length : Int) - 1) / (far + 1))).toNat, by omega, by omega⟩
          have gj : (nn.map V.int)[j]? = some (.int nn[j]) := by rw [List.getElem?_map, List.getElem?_eq_getElem hj10]; rfl
          have hx := inn nn[j] (List.getElem_mem hj10)
          refine ⟨.ref l, rfl, .ref I, rfl, I, _, rfl, .inl (.of hI6), _, 1, rfl, rfl, .int far, rfl, far, 1, rfl, rfl, _, far + 1, rfl, rfl, ⟨by omega, by omega⟩, 3, _, rfl, rfl, .inl (by decide), l, _, (j : Int), .int nn[j], rfl, ?_, .of hl6, atI_nat gj, ?_⟩
          · rw [← hj, lgm]
          refine ⟨.ref I, rfl, 1, rfl, I, _, -1, gs.length - 1, rfl, rfl, hI6, by rw [lgm]; exact ixN_end (by omega), ?_⟩
          rw [show (gs.map V.int).set (gs.length - 1) (.int nn[j]) = (gs.set (gs.length - 1) nn[j]).map V.int from by rw [List.map_set]]
          refine last _ (gs.set (gs.length - 1) nn[j]) (p6.upd nIp.symm) (fun b o n e => ?_) upd_same (by rw [List.length_set]; exact lg) (fun y hy => ?_) (fun y hy => ?_) (fun y hy => ?_) (kg.set ⟨0, j, by decide, by decide, by rw [show ((gs.length - 1 : Nat) : Int) = (gs.length : Int) - 1 by omega, Int.add_zero]; exact hj, List.getElem?_eq_getElem hj10⟩)
          · rw [upd_ne (ne_of_none e nIH)]
            exact c6 _ _ n e
          · rcases mem_set hy with h | h
            · omega
            · exact ig y h
          · rcases set_at hy with h | ⟨_, h⟩
            · omega
            · exact h0 y h
          · rw [List.length_set] at hy
            rcases set_at hy with h | ⟨h, _⟩
            · omega
            · exact absurd rfl h
        · refine last _ gs p6 c6 hI6 lg ig h0 (fun y hy e => by
          subst e
          rw [List.getElem?_eq_getElem hlt] at hy
          exact ne2 (decide_eq_true (congrArg V.int (Option.some.inj hy))))  kg
end
end Sg

set_option Elab.async false
set_option linter.all false
set_option maxRecDepth 100000
set_option maxHeartbeats 4000000
namespace Sg
open PySem PySem.Spec PyProof.Rows L2 StX
section
variable {X : Cx}
theorem cr_maxT (hc : X.calm = true) {j : Nat} (hr : Room j X.A) : CallRK X (.builtin "max") ["default"] (fun vs zs H Q => ∃ (a : Addr) (ns : List Int) (d : Int), vs = [.ref a] ∧ zs = [.int d] ∧ SqT X.K H a (ns.map V.int) ∧
    ∀ m : Int, (ns = [] → m = d) → (ns ≠ [] → m ∈ ns ∧ ∀ x ∈ ns, x ≤ m) → Q (.int m) H) := by
  intro pins s σ H xs zs us ws Q I r rz h
  obtain ⟨a, ns, d, rfl, rfl, hs, q⟩ := h
  obtain ⟨u, rfl, rfl⟩ := vals1 r
  obtain ⟨dv, rfl, td, rfl⟩ := vals1 rz
  obtain ⟨its, rv, hl, hzz⟩ := I.tuple hs
  have dp : DpAll X.K H (ns.map V.int) (ns.map PyData.int) := by
    clear hs q rv hl hzz
    induction ns with
    | nil => exact .nil
    | cons x r ih => exact .cons (.int x) ih
  obtain ⟨as, rd⟩ := Dp.readsAll I (ns.map PyData.int) _ its dp rv
  have al : PySem.W.AlikeAll (ns.map PyData.int) := by
    constructor
    · intro x hx y hy
      obtain ⟨i, _, rfl⟩ := List.mem_map.mp hx
      obtain ⟨j, _, rfl⟩ := List.mem_map.mp hy
      rfl
    · intro x hx z
      obtain ⟨i, _, rfl⟩ := List.mem_map.mp hx
      exact nomatch z
  have dep : PyData.depthAll (ns.map PyData.int) = 0 := by
    clear hs q rv hl rd al dp hzz
    induction ns with
    | nil => rfl
    | cons x r ih =>
      show max (PyData.depth (.int x)) (PyData.depthAll (r.map PyData.int)) = 0
      rw [ih]; rfl
  have hu := hr.units
  refine PySem.W.max_tuple_default (I.ok.hd hc) hl (by simpa using rd) al (by rw [dep]; omega) (fun e h' tk hk => ?_) (fun y ys i v h' tk bs e hv hrd hk => ?_)
  · exact ⟨.int d, H, I.kept hk, ⟨_, rfl⟩, q d (fun _ => rfl) (fun z => absurd (List.map_eq_nil_iff.mp e) z)⟩
  · cases ns with
    | nil => exact nomatch e
    | cons n ns' =>
      obtain ⟨e1, e2⟩ := List.cons.inj e
      subst e1 e2
      rw [PySem.W.maxD_ints] at hrd
      cases hrd
      refine ⟨.int _, H, I.kept hk, ⟨_, rfl⟩, q _ (fun z => nomatch z) (fun _ => ?_)⟩
      have key : ∀ (l : List Int) (a : Int), (l.foldl max a = a ∨ l.foldl max a ∈ l) ∧ a ≤ l.foldl max a ∧ ∀ x ∈ l, x ≤ l.foldl max a := by
        intro l
        induction l with
        | nil => intro a; exact ⟨.inl rfl, Int.le_refl _, fun x hx => nomatch hx⟩
        | cons b l ih =>
          intro a
          obtain ⟨g1, g2, g3⟩ := ih (max a b)
          refine ⟨?_, by show a ≤ l.foldl max (max a b); omega, fun x hx => ?_⟩
          · show l.foldl max (max a b) = a ∨ l.foldl max (max a b) ∈ b :: l
            rcases g1 with g | g
            · rcases Int.le_total a b with z | z
              · right; rw [g, Int.max_eq_right z]; exact List.mem_cons_self
              · left; rw [g, Int.max_eq_left z]
            · exact .inr (List.mem_cons_of_mem _ g)
          · show x ≤ l.foldl max (max a b)
            rcases List.mem_cons.mp hx with rfl | z
            · omega
            · exact g3 x z
      obtain ⟨g1, g2, g3⟩ := key ns' n
      refine ⟨?_, fun x hx => ?_⟩
      · rcases g1 with g | g
        · rw [g]; exact List.mem_cons_self
        · exact List.mem_cons_of_mem _ g
      · rcases List.mem_cons.mp hx with rfl | z
        · exact g2
        · exact g3 x z
theorem op_in_seqK {K : PySem.W.Frag} (hK : X.K = K) : OpR X (compareOp .In) (rIn K false) := by
  subst hK
  exact op_in_seq
theorem pa_starK {K : PySem.W.Frag} {e : Expr} {es : List Expr} {te : TE} {t : TA} {p : Pos} (hK : X.K = K) (he : PE X e te) (hr : PA X es t) (hs : starEach (.Starred e p :: es) X.env = (true, eval e X.env) :: starEach es X.env := by rfl) : PA X (.Starred e p :: es) (tStar K te t) := by
  subst hK
  exact pa_star he hr hs
end
/-! ## distances among bars -/
abbrev isIn (bs : List Nat) (d : Nat) : Bool := decide (d ∈ bs)
theorem inV_nV (bs : List Nat) (d : Nat) : inV (.int (d : Nat)) (nV bs) = isIn bs d := by
  unfold inV isIn
  rw [Bool.eq_iff_iff, List.any_eq_true, decide_eq_true_eq]
  constructor
  · rintro ⟨v, hv, e⟩
    obtain ⟨b, hb, rfl⟩ := List.mem_map.mp hv
    have : (b : Int) = (d : Int) := by simpa [eqV] using e
    obtain rfl : b = d := by omega
    exact hb
  · intro h
    exact ⟨_, List.mem_map.mpr ⟨d, h, rfl⟩, by simp [eqV]⟩
theorem flat_nV (bs : List Nat) : (nV bs).all flatV = true := by
  rw [List.all_eq_true]
  intro v hv
  obtain ⟨b, _, rfl⟩ := List.mem_map.mp hv
  rfl
section
variable {P : Program} {w : World} {K : PySem.W.Frag} {mg : Str → Option Value} {base : Heap}
/-! ### _next_distance -/
def spNextD (K : PySem.W.Frag) : Sp := fun vs H Q _ => ∃ (B G : Addr) (bs x : List Nat) (F : Nat), vs = [.ref B, .ref G] ∧ SqT K H B (nV bs) ∧ SqT K H G (nV x) ∧ Barred (isIn bs) F ∧ x.length ≤ 60 ∧
  ∀ H', Same H H' → Q (.int (nextG (isIn bs) x : Nat)) H'
theorem ok_next_distance {f : Addr} {fd : FuncData} {k : Nat} (F : Fun K "_next_distance" "_next_distance" s_next_distance f fd) (m1 : mg "any" = none) : FnOk P w K mg base CX0 (k + 1) f fd ["barred", "agos"] (spNextD K) := by
  refine F.ok sc_next_distance (fun vs H Q E h => ?_) (fun cdv A outer s H vs Q E hr h => ?_)
  · obtain ⟨B, G, bs, x, T, rfl, _⟩ := h; rfl
  · obtain ⟨B, G, bs, x, T, rfl, hB, hG, hb, lx, q⟩ := h
    refine ⟨_, pss_cons (ps_set (i := 2) sc_next_distance.nd rfl (.inr rfl) pe_int)
      (pss_cons (ps_while PassesOwn.never (pt_val (pe_callB (cr_any rfl) (by rfl) m1 (by decide +kernel) (pa_cons
          (pe_lc (own := [("ago", 3)]) (g := gName 3) (tt := tYes) rfl sc_next_distance.nd (pi_tup (pv 1)) (blkOk_by (N := ["barred", "agos", "distance", "ago"]) (sc := defScope s_next_distance) (by decide +kernel))
            (fun _ _ _ _ _ => pg_name (i := 3) sc_next_distance.nd rfl (Or.inl rfl)) (fun _ _ _ _ _ => pts_nil)
            (fun _ _ _ _ _ => pe_cmpR (op_in_seqK (K := K) rfl) (pe_op op_add (pv 3) (pv 2)) (pv 0) (by with_unfolding_all rfl))) pa_nil)))
        (pss_one (ps_aug (i := 2) sc_next_distance.nd rfl (.inr rfl) pe_int ip_add)))
      (pss_one (ps_ret (pv 2)))), ?_⟩
    refine ⟨fun n σ H' => ∃ v3, ∃ t : Nat, σ = [some (.ref B), some (.ref G), some (.int (t : Nat)), v3] ∧ Same H H' ∧ 1 ≤ t ∧ (∀ e, 1 ≤ e → e < t → hitG (isIn bs) x e = true) ∧ n = 10 - t,
      ⟨_, none, 1, rfl, fun _ _ z => z, Nat.le_refl _, fun e h1 h2 => absurd h1 (by omega), rfl⟩, ?_⟩
    rintro n σ H1 ⟨v3, t, rfl, e1, h1, h2, rfl⟩
    refine ⟨.ref G, rfl, G, rfl, ⟨_, Same.tup e1 hG⟩, fun D hD => ?_⟩
    refine lc_tup (xs := nV x) (fun i H' => Same H1 H' ∧ H' D = some (.lst (((x.take i).map fun a => isIn bs (a + t)).map V.bl))) ⟨same_new hD, upd_same⟩ (fun i H' _ h => Same.tup (e1.trans h.1) hG) (fun i y H' hy h => ?_) (fun H' h => ?_)
    · rw [List.getElem?_map] at hy
      obtain ⟨a, ha, rfl⟩ := Option.map_eq_some_iff.mp hy
      have hi := (List.getElem?_eq_some_iff.mp ha).1
      refine ⟨rfl, .int (a : Nat), rfl, .int (t : Nat), rfl, a, t, rfl, rfl, .ref B, rfl, B, _, rfl, .inr (Same.tup (e1.trans h.1) hB), rfl, flat_nV bs, ?_⟩
      refine ⟨_, h.2, ?_, fun y o e => ?_, ?_⟩
      · rw [List.length_map, List.length_map, List.length_take]
        exact small1000 (by omega)
      · rw [upd_ne (ne_of_none e hD)]
        exact h.1 _ _ e
      · rw [upd_same, List.take_add_one, ha, List.map_append, List.map_append]
        have hv := inV_nV bs (a + t)
        show some (HO.lst (_ ++ [V.bl (inV (.int ((a + t : Nat) : Int)) (nV bs))])) = some (HO.lst (_ ++ [V.bl (isIn bs (a + t))]))
        rw [hv]
    · have hall : x.take (nV x).length = x := by unfold nV; rw [List.length_map, List.take_length]
      rw [hall] at h
      have ha : ((x.map fun a => isIn bs (a + t)).any id) = hitG (isIn bs) x t := by rw [List.any_map]; rfl
      refine ⟨D, _, rfl, .of h.2, _, rfl, ?_⟩
      rw [ha]
      refine ite2 (fun e => ?_) (fun e => ?_)
      · have t8 : t ≤ 8 := by
          rcases Nat.lt_or_ge t 9 with z | z
          · omega
          · rw [hit_far hb z] at e; cases e
        refine ⟨fun σ' H'' => ∃ v3, σ' = [some (.ref B), some (.ref G), some (.int ((t + 1 : Nat) : Int)), v3] ∧ Same H H'', fun σ' H'' ⟨v3, e3, e2⟩ => ⟨_, by omega, v3, t + 1, e3, e2, by omega, fun u u1 u2 => ?_, rfl⟩, ?_⟩
        · by_cases z : u < t
          · exact h2 u u1 z
          · rw [show u = t by omega]; exact e
        · exact ⟨.int (t : Nat), rfl, t, 1, rfl, rfl, _, rfl, e1.trans h.1⟩
      · refine ⟨.int (t : Nat), rfl, ?_⟩
        rw [nextG_uniq hb h1 (Bool.eq_false_iff.mpr e) h2]
        exact q _ (e1.trans h.1)
end
end Sg

set_option Elab.async false
set_option linter.all false
set_option maxRecDepth 100000
set_option maxHeartbeats 4000000
namespace Sg
open PySem PySem.Spec PyProof.Rows L2 StX
/-! ## what was seen: agos, and when -/
abbrev kx (x : List Nat) : List L2.Key := x.map fun a : Nat => (Sum.inl (a : Int) : L2.Key)
theorem kx_kV (x : List Nat) : (kx x).map kV = nV x := by unfold nV; rw [List.map_map]; rfl
theorem kx_inj : ∀ {x y : List Nat}, kx x = kx y → x = y
  | [], [], _ => rfl
  | [], _ :: _, h => nomatch h
  | _ :: _, [], h => nomatch h
  | a :: x, b :: y, h => by
    obtain ⟨h1, h2⟩ := List.cons.inj h
    have := Sum.inl.inj h1
    rw [kx_inj h2, show a = b by omega]
abbrev seenL (b : Nat → Bool) (T n : Nat) : List (List L2.Key × V) := (List.range n).map fun i => (kx (runG b T i), V.int (i : Nat))
theorem seenL_succ (b : Nat → Bool) (T n : Nat) : seenL b T (n + 1) = seenL b T n ++ [(kx (runG b T n), V.int (n : Nat))] := by
  show ((List.range (n + 1)).map _) = _
  rw [List.range_succ, List.map_append]; rfl
theorem seen_at (b : Nat → Bool) (T n : Nat) (z : List Nat) : (∃ k, k < n ∧ runG b T k = z ∧ valV (seenL b T n) (kx z) = some (.int (k : Nat))) ∨ ((∀ k, k < n → runG b T k ≠ z) ∧ valV (seenL b T n) (kx z) = none) := by
  rcases h : valV (seenL b T n) (kx z) with _ | v
  · have h2 := valV_any (kx z) (seenL b T n)
    rw [h] at h2
    refine .inr ⟨fun k hk e => ?_, rfl⟩
    have h3 := List.any_eq_false.mp h2 (kx (runG b T k), V.int (k : Nat)) (List.mem_map.mpr ⟨k, List.mem_range.mpr hk, rfl⟩)
    exact h3 (decide_eq_true (by rw [e]))
  · obtain ⟨p, hp, rfl⟩ := Option.map_eq_some_iff.mp h
    have h1 : p.1 = kx z := by
      have := List.find?_some hp
      exact of_decide_eq_true this
    obtain ⟨k, hk, rfl⟩ := List.mem_map.mp (List.mem_of_find?_eq_some hp)
    exact .inl ⟨k, List.mem_range.mp hk, kx_inj h1, rfl⟩
def Dist (b : Nat → Bool) (T n : Nat) : Prop := ∀ i j, i < j → j < n → runG b T i ≠ runG b T j
theorem Dist.few {b : Nat → Bool} {T n : Nat} (h : Dist b T n) (hT : T ≤ 9) : n ≤ 512 := by
  refine runs_few (b := b) hT ?_
  rw [List.nodup_iff_pairwise_ne, List.pairwise_map]
  rw [List.pairwise_iff_getElem]
  intro i j hi hj hij
  rw [List.getElem_range, List.getElem_range]
  rw [List.length_range] at hj
  exact h i j hij hj
theorem Dist.add {b : Nat → Bool} {T n : Nat} (h : Dist b T n) (g : ∀ k, k < n → runG b T k ≠ runG b T n) : Dist b T (n + 1) := fun i j hij hj => by
  by_cases e : j = n
  · subst e; exact g i hij
  · exact h i j hij (by omega)
theorem run_len {b : Nat → Bool} {T : Nat} (hT : T ≤ 9) (i : Nat) : (runG b T i).length ≤ 9 :=
  (desc_sub 8 _ (run_desc i) (run_lt hT i)).length_le
section
variable {P : Program} {w : World} {K : PySem.W.Frag} {mg : Str → Option Value} {base : Heap}
/-! ### _until_repeated -/
/-- F is the greatest of bs, 0 of none -/
def Tops (bs : List Nat) (F : Nat) : Prop := (bs = [] → F = 0) ∧ (bs ≠ [] → F ∈ bs) ∧ ∀ d ∈ bs, d ≤ F
def spUntil (K : PySem.W.Frag) : Sp := fun vs H Q _ => ∃ (B : Addr) (bs : List Nat) (F : Nat), vs = [.ref B] ∧ SqT K H B (nV bs) ∧ Barred (isIn bs) F ∧ Tops bs F ∧
  ∀ H' t L (n k : Nat), Same H H' → H' t = some (.tup [.ref L, .int (k : Nat)]) → H' L = some (.lst (nV (seg (dG (isIn bs) F) 0 n))) → k < n → runG (isIn bs) F n = runG (isIn bs) F k → Dist (isIn bs) F n → Q (.ref t) H'
def UInv (B L S : Addr) (bs : List Nat) (F : Nat) (H : Hp) (n : Nat) (σ : L2.St) (H' : Hp) : Prop := ∃ G v5 v6 v7, σ = [some (.ref B), some (.int (F : Nat)), some (.ref L), some (.ref S), some (.ref G), v5, v6, v7] ∧
  Same H H' ∧ H' L = some (.lst (nV (seg (dG (isIn bs) F) 0 n))) ∧ H' S = some (.dT (seenL (isIn bs) F n)) ∧ H' G = some (.tup (nV (runG (isIn bs) F n))) ∧ Dist (isIn bs) F n
abbrev untilN : List Str := ["barred", "farthest", "distances", "seen", "agos", "distance", "kept", "ago"]
theorem ok_until {f f1 : Addr} {fd fd1 : FuncData} {k : Nat} (F : Fun K "_until_repeated" "_until_repeated" s_until_repeated f fd)
    (G1 : FnOk P w K mg base CX0 k f1 fd1 ["barred", "agos"] (spNextD K)) (kp1 : PySem.W.keepIn K (.ref f1) = true) (b1 : Binds K fd1 ["barred", "agos"] []) (g1 : mg "_next_distance" = some (.ref f1))
    (m1 : mg "max" = none) (m2 : mg "len" = none) : FnOk P w K mg base CX0 (k + 1) f fd ["barred"] (spUntil K) := by
  refine F.ok sc_until_repeated (fun vs H Q E h => ?_) (fun cdv A outer s H vs Q E hr h => ?_)
  · obtain ⟨B, bs, T, rfl, _⟩ := h; rfl
  · obtain ⟨B, bs, T, rfl, hB, hb, ht, q⟩ := h
    have hu2 := hu_of hr
    refine ⟨_, pss_cons (ps_set (i := 1) sc_until_repeated.nd rfl (.inr rfl) (pe_callBK (cr_maxT rfl hr) (by rfl) m1 (by decide +kernel) (pa_cons (pv 0) pa_nil) (pk_cons pe_int pk_nil)))
      (pss_cons (ps_set (i := 2) sc_until_repeated.nd rfl (.inl rfl) (pe_lst pa_nil))
      (pss_cons (ps_set (i := 3) sc_until_repeated.nd rfl (.inl rfl) pe_dnewT)
      (pss_cons (ps_set (i := 4) sc_until_repeated.nd rfl (.inl rfl) (pe_tup (pa_cons pe_int pa_nil)))
      (pss_cons (ps_while PassesOwn.never (pt_cmp (pc_dnotin hu2 (pv 4) (pv 3)))
        (pss_cons (ps_dput hu2 (pv 3) (pv 4) (pe_callB call_len_seq (by rfl) m2 PySem.boot_len (pa_cons (pv 2) pa_nil)) (by rfl))
        (pss_cons (ps_set (i := 5) sc_until_repeated.nd rfl (.inr rfl) (pe_call G1 hr (by rfl) g1 kp1 b1 .nil pass0 (pa_cons (pv 0) (pa_cons (pv 4) pa_nil))))
        (pss_cons (ps_expr (pe_bm PySem.F.plainAttrs_list PySem.F.slot_list_append PySem.F.type_list_append mt_append (pv 2) (pa_cons (pv 5) pa_nil)))
        (pss_cons (ps_setLc (i := 6) (own := [("ago", 7)]) (g := gName 7) (by rfl) sc_until_repeated.nd rfl rfl (sw_true rfl rfl rfl (by decide +kernel)) (pi_tup (pv 4))
          (blkOk_by (N := untilN) (sc := defScope s_until_repeated) (by decide +kernel))
          (fun _ _ _ _ _ => pg_name (i := 7) sc_until_repeated.nd rfl (Or.inl rfl))
          (fun _ _ _ _ _ => pts_one (pt_cmpR op_lt (pe_op op_add (pv 7) (pv 5)) (pv 1) (nomark _)))
          (fun _ _ _ _ _ => pe_op op_add (pv 7) (pv 5)))
        (pss_one (ps_set (i := 4) sc_until_repeated.nd rfl (.inl rfl) (pe_tup (pa_starK (K := K) rfl (pv 6) (pa_cons pe_int pa_nil)))))))))) 
      (pss_one (ps_ret (pe_tup (pa_cons (pv 2) (pa_cons (pe_dget hu2 (pv 3) (pv 4) (fun _ _ => rfl)) pa_nil))))))))), ?_⟩
    have T9 : T ≤ 9 := by have := hb.1; omega
    refine ⟨.ref B, rfl, B, bs.map fun d : Nat => (d : Int), 0, rfl, rfl, by rw [List.map_map]; exact hB, fun m e0 e1 => ?_⟩
    have hm : m = (T : Int) := by
      by_cases z : bs = []
      · rw [e0 (by rw [z]; rfl), ht.1 z]; rfl
      · obtain ⟨y1, y2⟩ := e1 (fun c => z (List.map_eq_nil_iff.mp c))
        obtain ⟨d, hd, rfl⟩ := List.mem_map.mp y1
        have := y2 (T : Int) (List.mem_map.mpr ⟨T, ht.2.1 z, rfl⟩)
        have := ht.2.2 d hd
        omega
    subst hm
    have big : 2000 ≤ sizeLine := by rw [sizeLine_eq]; decide
    refine ⟨by show 0 ≤ sizeLine; decide, fun L nL => ?_⟩
    refine fun S nS => ?_
    refine ⟨by show 1 ≤ sizeLine; decide, fun G0 nG0 => ?_⟩
    have eL : Same H (L2.upd H L (.lst [])) := same_new nL
    have eS : Same (L2.upd H L (.lst [])) (L2.upd (L2.upd H L (.lst [])) S (.dT [])) := same_new nS
    have eG := same_new (o := .tup [V.int 0]) nG0
    have nSL : L ≠ S := ne_of_none upd_same nS
    have nSH : H S = none := freeS eL nS
    have hL0 := eG _ _ (eS _ _ (upd_same (H := H) (a := L) (o := .lst [])))
    have hS0 := eG _ _ (upd_same (H := L2.upd H L (.lst [])) (a := S) (o := .dT []))
    have hG0 := upd_same (H := L2.upd (L2.upd H L (.lst [])) S (.dT [])) (a := G0) (o := .tup [V.int 0])
    have e0 := (eL.trans eS).trans eG
    generalize L2.upd (L2.upd (L2.upd H L (.lst [])) S (.dT [])) G0 (.tup [V.int 0]) = H1 at hL0 hS0 hG0 e0 ⊢
    refine ⟨fun m σ H' => ∃ n, m = 600 - n ∧ UInv B L S bs T H n σ H', ⟨_, 0, rfl, G0, _, _, _, rfl, e0, hL0, hS0, hG0, fun i j _ h => absurd h (by omega)⟩, ?_⟩
    rintro m σ H2 ⟨n, rfl, G, v5, v6, v7, rfl, e2, hL2, hS2, hG2, hd⟩
    have n5 := hd.few T9
    refine ⟨.ref G, rfl, .ref S, rfl, S, _, rfl, DGet.t hS2 (by rw [kx_kV]; exact hG2), _, rfl, ?_⟩
    rcases seen_at (isIn bs) T n (runG (isIn bs) T n) with ⟨j, hj, ej, hv⟩ | ⟨hj, hv⟩
    · rw [hv]
      refine iteF ?_
      refine ⟨.ref L, rfl, .ref S, rfl, .ref G, rfl, S, .int (j : Nat), rfl, ?_, by show 2 ≤ sizeLine; decide, fun t nt => ?_⟩
      · rw [← hv]
        exact DGet.t hS2 (by rw [kx_kV]; exact hG2)
      · have et : Same H2 (L2.upd H2 t (.tup [.ref L, .int (j : Nat)])) := same_new nt
        exact q _ t L n j (e2.trans et) upd_same (et _ _ hL2) hj ej.symm hd
    · rw [hv]
      refine iteT ?_
      have hd1 := hd.add hj
      have n6 := hd1.few T9
      refine ⟨fun σ' H' => UInv B L S bs T H (n + 1) σ' H', fun σ' H' h => ⟨_, show 600 - (n + 1) < 600 - n by omega, n + 1, rfl, h⟩, ?_⟩
      have lseg : (nV (seg (dG (isIn bs) T) 0 n)).length = n := by unfold nV; rw [List.length_map, seg_len]
      refine ⟨.ref L, rfl, L, _, rfl, .inl (.of hL2), .ref S, rfl, .ref G, rfl, S, _, rfl, DPut.t hS2 (by rw [kx_kV]; exact hG2) (by rw [List.length_map, List.length_range]; omega), ?_⟩
      rw [lseg, putK_new _ hv, ← seenL_succ]
      have e3 : Same H (L2.upd H2 S (.dT (seenL (isIn bs) T (n + 1)))) := fun b o e => by
        rw [upd_ne (ne_of_none e nSH)]
        exact e2 _ _ e
      have hS3 := upd_same (H := H2) (a := S) (o := .dT (seenL (isIn bs) T (n + 1)))
      have hL3 : (L2.upd H2 S (.dT (seenL (isIn bs) T (n + 1)))) L = some (.lst (nV (seg (dG (isIn bs) T) 0 n))) := by rw [upd_ne nSL]; exact hL2
      have hG3 : (L2.upd H2 S (.dT (seenL (isIn bs) T (n + 1)))) G = some (.tup (nV (runG (isIn bs) T n))) := by
        rw [upd_ne (fun z => by rw [z, hS2] at hG2; cases hG2)]
        exact hG2
      generalize L2.upd H2 S (.dT (seenL (isIn bs) T (n + 1))) = H3 at e3 hS3 hL3 hG3 ⊢
      have lrun := run_len (b := isIn bs) T9 n
      refine ⟨.ref B, rfl, .ref G, rfl, B, G, bs, _, T, rfl, Same.tup e3 hB, .inl (.inl hG3), hb, by omega, fun H4 e4 => ?_⟩
      have hL4 := e4 _ _ hL3
      have nLS : S ≠ L := fun z => nSL z.symm
      refine ⟨.ref L, rfl, .inl ⟨rfl, _, .of hL4⟩, .int (nextG (isIn bs) (runG (isIn bs) T n) : Nat), rfl, L, _, _, rfl, rfl, hL4, by rw [lseg]; omega, ?_⟩
      rw [show nV (seg (dG (isIn bs) T) 0 n) ++ [V.int (nextG (isIn bs) (runG (isIn bs) T n) : Nat)] = nV (seg (dG (isIn bs) T) 0 (n + 1)) by
        unfold nV
        rw [seg_succ, List.map_append, Nat.zero_add]; rfl]
      have e5 : Same H (L2.upd H4 L (.lst (nV (seg (dG (isIn bs) T) 0 (n + 1))))) := fun b o e => by
        rw [upd_ne (ne_of_none e nL)]
        exact e4 _ _ (e3 _ _ e)
      have hL5 := upd_same (H := H4) (a := L) (o := .lst (nV (seg (dG (isIn bs) T) 0 (n + 1))))
      have hS5 : (L2.upd H4 L (.lst (nV (seg (dG (isIn bs) T) 0 (n + 1))))) S = some (.dT (seenL (isIn bs) T (n + 1))) := by rw [upd_ne nLS]; exact e4 _ _ hS3
      have hG5 : (L2.upd H4 L (.lst (nV (seg (dG (isIn bs) T) 0 (n + 1))))) G = some (.tup (nV (runG (isIn bs) T n))) := by
        rw [upd_ne (fun z => by rw [z, hL3] at hG3; cases hG3)]
        exact e4 _ _ hG3
      generalize L2.upd H4 L (.lst (nV (seg (dG (isIn bs) T) 0 (n + 1)))) = H5 at e5 hL5 hS5 hG5 ⊢
      refine ⟨.ref G, rfl, G, rfl, ⟨_, .inl (.inl hG5)⟩, fun D nD => ?_⟩
      refine lc_tup (xs := nV (runG (isIn bs) T n)) (fun i H' => Same H5 H' ∧ H' D = some (.lst (nV ((((runG (isIn bs) T n).take i).map (· + dG (isIn bs) T n)).filter fun a => decide (a < T))))) ⟨same_new nD, upd_same⟩
        (fun i H' _ h => .inl (.inl (h.1 _ _ hG5))) (fun i y H' hy h => ?_) (fun H' h => ?_)
      · rw [List.getElem?_map] at hy
        obtain ⟨a, ha, rfl⟩ := Option.map_eq_some_iff.mp hy
        have hi := (List.getElem?_eq_some_iff.mp ha).1
        have htk : (runG (isIn bs) T n).take (i + 1) = (runG (isIn bs) T n).take i ++ [a] := by rw [List.take_add_one, ha]; rfl
        refine ⟨rfl, .int (a : Nat), rfl, .int (nextG (isIn bs) (runG (isIn bs) T n) : Nat), rfl, _, _, rfl, rfl, .int (T : Nat), rfl, _, _, rfl, rfl, _, rfl, ite2 (fun e => ?_) (fun e => ?_)⟩
        · have e' : a + dG (isIn bs) T n < T := by
            have := of_decide_eq_true e
            have h2 : (a : Int) + (nextG (isIn bs) (runG (isIn bs) T n) : Nat) < (T : Int) := this
            show a + nextG (isIn bs) (runG (isIn bs) T n) < T
            omega
          refine ⟨.int (a : Nat), rfl, .int (nextG (isIn bs) (runG (isIn bs) T n) : Nat), rfl, _, _, rfl, rfl, _, h.2, ?_, fun b o z => ?_, ?_⟩
          · unfold nV
            rw [List.length_map]
            refine Nat.lt_of_le_of_lt (List.length_filter_le _ _) ?_
            rw [List.length_map, List.length_take]
            omega
          · rw [upd_ne (ne_of_none z nD)]
            exact h.1 _ _ z
          · rw [upd_same, htk, List.map_append, List.filter_append]
            rw [show ([a].map (· + dG (isIn bs) T n)).filter (fun a => decide (a < T)) = [a + dG (isIn bs) T n] from List.filter_cons_of_pos (decide_eq_true e')]
            unfold nV
            rw [List.map_append]
            rfl
        · have e' : ¬ a + dG (isIn bs) T n < T := fun z => e (decide_eq_true (by
            show (a : Int) + (nextG (isIn bs) (runG (isIn bs) T n) : Nat) < (T : Int)
            have : a + nextG (isIn bs) (runG (isIn bs) T n) < T := z
            omega))
          refine ⟨h.1, ?_⟩
          rw [htk, List.map_append, List.filter_append]
          rw [show ([a].map (· + dG (isIn bs) T n)).filter (fun a => decide (a < T)) = [] from List.filter_cons_of_neg (by rw [decide_eq_true_eq]; exact e'), List.append_nil]
          exact h.2
      · have htk : (runG (isIn bs) T n).take (nV (runG (isIn bs) T n)).length = runG (isIn bs) T n := by unfold nV; rw [List.length_map, List.take_length]
        rw [htk] at h
        refine ⟨.ref D, rfl, D, _, rfl, .inr (.of h.2), ?_, fun G2 nG2 => ?_⟩
        · rw [List.length_append]
          unfold nV
          rw [List.length_map]
          have := List.length_filter_le (fun a => decide (a < T)) ((runG (isIn bs) T n).map (· + dG (isIn bs) T n))
          rw [List.length_map] at this
          show _ + 1 ≤ sizeLine
          omega
        · have eG2 := same_new (o := .tup (nV (((runG (isIn bs) T n).map (· + dG (isIn bs) T n)).filter fun a => decide (a < T)) ++ [V.int 0])) nG2
          refine ⟨G2, _, _, _, rfl, (e5.trans h.1).trans eG2, eG2 _ _ (h.1 _ _ hL5), eG2 _ _ (h.1 _ _ hS5), ?_, hd1⟩
          rw [upd_same]
          unfold nV
          show _ = some (HO.tup ((stG T (runG (isIn bs) T n) (nextG (isIn bs) (runG (isIn bs) T n))).map _))
          unfold stG
          rw [List.map_append]
          rfl
end
end Sg

set_option Elab.async false
set_option linter.all false
set_option maxRecDepth 100000
set_option maxHeartbeats 4000000
namespace Sg
open PySem PySem.Spec PyProof.Rows L2 StX
def rCatS (K : PySem.W.Frag) : R2 := fun x y H Q => ∃ a b xs ys, x = .ref a ∧ y = .ref b ∧ SqT K H a xs ∧ SqT K H b ys ∧ xs.length + ys.length ≤ sizeLine ∧ ∀ H' u, Same H H' → SqT K H' u (xs ++ ys) → Q (.ref u) H'
theorem op_catS {X : Cx} : OpR X (binaryOp .Add) (rCatS X.K) := by
  intro pins s σ H x y v u Q I rx ry h
  obtain ⟨a, b, xs, ys, rfl, rfl, ha, hb, hz, q⟩ := h
  refine op_catA pins s σ H _ _ v u Q I rx ry ⟨a, b, xs, ys, rfl, rfl, ha, hb, hz, fun e => q H b (fun _ _ h => h) (by rw [e, List.nil_append]; exact hb), fun _ e => q H a (fun _ _ h => h) (by rw [e, List.append_nil]; exact ha), fun _ _ p np => q _ p (same_new np) (.of upd_same)⟩
theorem cut_last (l : List V) : cutV l none (some (-1)) = l.take (l.length - 1) := by
  unfold cutV
  rw [HT.sIx_none, List.drop_zero]
  have e : HT.sIx l.length l.length (some (-1)) = l.length - 1 := by
    show (if (-1 : Int) < 0 then ((-1 : Int) + (l.length : Nat)).toNat else min (-1 : Int).toNat l.length) = _
    rw [if_pos (by decide)]
    omega
  rw [e, Nat.sub_zero]
theorem nV_len (l : List Nat) : (nV l).length = l.length := List.length_map _
theorem nV_take (l : List Nat) (n : Nat) : (nV l).take n = nV (l.take n) := by unfold nV; rw [List.map_take]
theorem nV_end {l : List Nat} {x : Nat} (h : l[l.length - 1]? = some x) : atI (nV l) (-1) = some (.int (x : Nat)) := by
  have hl := (List.getElem?_eq_some_iff.mp h).1
  unfold atI
  rw [nV_len, ixN_end (by omega)]
  show (nV l)[l.length - 1]? = _
  unfold nV
  rw [List.getElem?_map, h]; rfl
theorem seg_end (d : Nat → Nat) (k n : Nat) (h : 1 ≤ n) : (seg d k n)[(seg d k n).length - 1]? = some (d (k + (n - 1))) := by
  rw [seg_len]; exact seg_at d k n (n - 1) (by omega)
section
variable {P : Program} {w : World} {K : PySem.W.Frag} {mg : Str → Option Value} {base : Heap}
/-! ### _with_fewest_before -/
def spFewest (K : PySem.W.Frag) : Sp := fun vs H Q _ => ∃ (A G : Addr) (d : Nat → Nat) (n p : Nat), vs = [.ref A, .ref G] ∧ SqT K H A (nV (seg d 0 n)) ∧ SqT K H G (nV (seg d n p)) ∧ Per d n p ∧ n ≤ 600 ∧ p ≤ 600 ∧
  ∀ H' t a g n', Same H H' → H' t = some (.tup [.ref a, .ref g]) → SqT K H' a (nV (seg d 0 n')) → SqT K H' g (nV (seg d n' p)) → Canon d n' p → n' ≤ 600 → Q (.ref t) H'
theorem ok_fewest {f : Addr} {fd : FuncData} {k : Nat} (F : Fun K "_with_fewest_before" "_with_fewest_before" s_with_fewest_before f fd) : FnOk P w K mg base CX0 (k + 1) f fd ["before", "again"] (spFewest K) := by
  refine F.ok sc_with_fewest_before (fun vs H Q E h => ?_) (fun cdv A outer s H vs Q E hr h => ?_)
  · obtain ⟨A0, G0, d, n, p, rfl, _⟩ := h; rfl
  · obtain ⟨A0, G0, d, n, p, rfl, hA, hG, hp, n6, p6, q⟩ := h
    refine ⟨_, pss_cons (ps_while PassesOwn.never (PW.pt (pw_and (pt_truth (pv 0) (by intro _; rfl)) (pw_and1 (pt_cmpR op_eq (pe_ix ix_tup (pv 0) (pe_un un_neg pe_int) (fun _ _ => rfl)) (pe_ix ix_tup (pv 1) (pe_un un_neg pe_int) (fun _ _ => rfl)) (nomark _)))))
        (pss_cons (ps_set (i := 1) sc_with_fewest_before.nd rfl (.inl rfl) (pe_op op_catS (pe_tup (pa_cons (pe_ix ix_tup (pv 1) (pe_un un_neg pe_int) (fun _ _ => rfl)) pa_nil)) (pe_slice sl_tupS (pv 1) po_none (po_some (pe_un un_neg pe_int)))))
        (pss_one (ps_set (i := 0) sc_with_fewest_before.nd rfl (.inl rfl) (pe_slice sl_tupS (pv 0) po_none (po_some (pe_un un_neg pe_int)))))))
      (pss_one (ps_ret (pe_tup (pa_cons (pv 0) (pa_cons (pv 1) pa_nil))))), ?_⟩
    have big : 2000 ≤ sizeLine := by rw [sizeLine_eq]; decide
    refine ⟨fun m σ H' => ∃ a g, σ = [some (.ref a), some (.ref g)] ∧ Same H H' ∧ SqT K H' a (nV (seg d 0 m)) ∧ SqT K H' g (nV (seg d m p)) ∧ Per d m p ∧ m ≤ n, ⟨n, A0, G0, rfl, fun _ _ z => z, hA, hG, hp, Nat.le_refl _⟩, ?_⟩
    rintro m σ H1 ⟨a, g, rfl, e1, ha, hg, hm, mn⟩
    have p1 := hm.pos
    have lm : (nV (seg d 0 m)).length = m := by rw [nV_len, seg_len]
    have lp : (nV (seg d m p)).length = p := by rw [nV_len, seg_len]
    have fin : Canon d m p → ∀ t, H1 t = none → Q (.ref t) (L2.upd H1 t (.tup [.ref a, .ref g])) := fun hc t nt => by
      have et : Same H1 (L2.upd H1 t (.tup [.ref a, .ref g])) := same_new nt
      exact q _ t a g m (e1.trans et) upd_same (Same.tup et ha) (Same.tup et hg) hc (by omega)
    refine ⟨.ref a, rfl, !(nV (seg d 0 m)).isEmpty, .inr (.inl ⟨_, ha, rfl⟩), ?_⟩
    by_cases m0 : m = 0
    · subst m0
      rw [show (!(nV (seg d 0 0)).isEmpty) = false from rfl]
      refine iteF (iteF ?_)
      exact ⟨.ref a, rfl, .ref g, rfl, by show 2 ≤ sizeLine; omega, fin ⟨hm, .inl rfl⟩⟩
    · have he : (!(nV (seg d 0 m)).isEmpty) = true := by
        rcases h : nV (seg d 0 m) with _ | ⟨x, r⟩
        · rw [h] at lm; exact absurd lm.symm m0
        · rfl
      rw [he]
      have ea := nV_end (seg_end d 0 m (by omega))
      have eg := nV_end (seg_end d m p p1)
      rw [Nat.zero_add] at ea
      rw [show m + (p - 1) = m - 1 + p by omega] at eg
      refine iteT ⟨.ref a, rfl, 1, rfl, a, _, -1, _, rfl, rfl, ha, ea, .ref g, rfl, 1, rfl, g, _, -1, _, rfl, rfl, hg, eg, rfl, _, rfl, ite2 (fun e => ?_) (fun e => ?_)⟩
      · have e' : d (m - 1 + p) = d (m - 1) := by
          have := V.int.inj (of_decide_eq_true e)
          omega
        have hc := hm.rot e'
        refine ⟨fun σ' H' => ∃ a g, σ' = [some (.ref a), some (.ref g)] ∧ Same H H' ∧ SqT K H' a (nV (seg d 0 (m - 1))) ∧ SqT K H' g (nV (seg d (m - 1) p)),
          fun σ' H' ⟨a, g, z1, z2, z3, z4⟩ => ⟨m - 1, by omega, a, g, z1, z2, z3, z4, hc, by omega⟩, ?_⟩
        refine ⟨.ref g, rfl, 1, rfl, g, _, -1, _, rfl, rfl, hg, eg, by show 1 ≤ sizeLine; omega, fun t nt => ?_⟩
        have et : Same H1 (L2.upd H1 t (.tup [V.int (d (m - 1 + p) : Nat)])) := same_new nt
        have ht := upd_same (H := H1) (a := t) (o := .tup [V.int (d (m - 1 + p) : Nat)])
        generalize L2.upd H1 t (.tup [V.int (d (m - 1 + p) : Nat)]) = H2 at et ht ⊢
        refine ⟨.ref g, rfl, 1, rfl, -1, rfl, g, _, rfl, Same.tup et hg, fun H3 u e3 hu => ?_⟩
        rw [show cutV (nV (seg d m p)) none (some (-1)) = nV (seg d m (p - 1)) by rw [cut_last, lp, nV_take, seg_take d m (by omega)]] at hu
        refine ⟨t, u, [V.int (d (m - 1 + p) : Nat)], _, rfl, rfl, .inl (.inl (e3 _ _ ht)), hu, ?_, fun H4 v e4 hv => ?_⟩
        · rw [nV_len, seg_len]
          show 1 + (p - 1) ≤ sizeLine
          omega
        rw [show [V.int (d (m - 1 + p) : Nat)] ++ nV (seg d m (p - 1)) = nV (seg d (m - 1) p) by rw [← seg_rot (by omega) p1 e']; rfl] at hv
        have ha4 := Same.tup ((et.trans e3).trans e4) ha
        refine ⟨.ref a, rfl, 1, rfl, -1, rfl, a, _, rfl, ha4, fun H5 y e5 hy => ?_⟩
        rw [show cutV (nV (seg d 0 m)) none (some (-1)) = nV (seg d 0 (m - 1)) by rw [cut_last, lm, nV_take, seg_take d 0 (by omega)]] at hy
        exact ⟨y, v, rfl, (((e1.trans et).trans e3).trans e4).trans e5, hy, Same.tup e5 hv⟩
      · refine ⟨.ref a, rfl, .ref g, rfl, by show 2 ≤ sizeLine; omega, fin ⟨hm, .inr fun z => e (decide_eq_true ?_)⟩⟩
        rw [z]
end
end Sg

set_option Elab.async false
set_option linter.all false
set_option maxRecDepth 100000
set_option maxHeartbeats 4000000
namespace Sg
open PySem PySem.Spec PyProof.Rows L2 StX
theorem cLenK {X : Cx} {K : PySem.W.Frag} {k : Nat} {C : Addr} (M : Meths X.prog X.w K X.mg X.base k C) (hK : X.K = K) (hr : Room (k + 2) X.A) : CallR X (.builtin "len") (fun xs H Q => ∃ a ws, xs = [.ref a] ∧ LineAt K C H a ws ∧ Q (.int (ws.length : Nat)) H) := by
  subst hK
  exact M.cLen hr
section
variable {P : Program} {w : World} {K : PySem.W.Frag} {mg : Str → Option Value} {base : Heap}
/-! ### require_near -/
/-- a line of one work whose bars are at most 8 -/
def spReqNear (K : PySem.W.Frag) (C : Addr) : Sp := fun vs H Q _ => ∃ (a : Addr) (x : List Int), vs = [.ref a, .int 8, .int 5] ∧ LineAt K C H a [x] ∧ (∀ d ∈ barsN x x, d ≤ 8) ∧ Q .non H
theorem ok_require_near {f f1 C : Addr} {fd fd1 : FuncData} {k : Nat} {dvs : List V} {kws : List (Str × V)} (F : FunD K "require_near" "require_near" (defArgs s_require_near) (defBody s_require_near) (defScope s_require_near) dvs kws f fd) (M : Meths P w K mg base k C)
    (G1 : FnOk P w K mg base CX0 (k + 2) f1 fd1 ["thing"] (spReqLine K C)) (kp1 : PySem.W.keepIn K (.ref f1) = true) (b1 : Binds K fd1 ["thing"] []) (g1 : mg "require_line" = some (.ref f1)) (m1 : mg "len" = none) :
    FnOk P w K mg base CX0 (k + 3) f fd ["line", "of_one", "of_several"] (spReqNear K C) := by
  refine F.ok sc_require_near (fun vs H Q E h => ?_) (fun cdv A outer s H vs Q E hr h => ?_)
  · obtain ⟨a, x, rfl, _⟩ := h; rfl
  · obtain ⟨a, x, rfl, hL, hb, q⟩ := h
    refine ⟨_, pss_cons (ps_expr (pe_call G1 hr (by rfl) g1 kp1 b1 .nil pass0 (pa_cons (pv 0) pa_nil)))
      (pss_cons (ps_set (i := 3) sc_require_near.nd rfl (.inl rfl) (pe_ifExp (pt_cmpR op_eq (pe_callB (cLenK (K := K) M rfl hr) (by rfl) m1 PySem.boot_len (pa_cons (pv 0) pa_nil)) pe_int (nomark _)) (pv 1) (pv 2)))
      (pss_one (ps_if (pt_cmpR op_gt (M.pReach (K := K) rfl hr (pv 0)) (pv 3) (nomark _)) (pss_one ps_never) pss_nil))), ?_⟩
    refine ⟨.ref a, rfl, a, _, rfl, hL, .ref a, rfl, a, _, rfl, hL, rfl, _, rfl, iteT ⟨.int 8, rfl, .ref a, rfl, a, _, rfl, hL, fun r hr => ⟨.int 8, rfl, _, _, rfl, rfl, _, rfl, ite2 (fun e => ?_) (fun _ => q)⟩⟩⟩
    have h8 : r ≤ 8 := by
      rcases hr.eq with z | z
      · omega
      · have z' : r ∈ nI (barsN x x) := by simpa [allB, rowB] using z
        obtain ⟨d, hd, rfl⟩ := List.mem_map.mp z'
        have := hb d hd
        omega
    have := of_decide_eq_true e
    omega
/-! ### greedy -/
/-- the greatest of bs, 0 of none -/
def topN (bs : List Nat) : Nat := bs.foldl max 0
theorem topN_tops (bs : List Nat) : Tops bs (topN bs) := by
  have key : ∀ (l : List Nat) (a : Nat), (l.foldl max a = a ∨ l.foldl max a ∈ l) ∧ a ≤ l.foldl max a ∧ ∀ x ∈ l, x ≤ l.foldl max a := by
    intro l
    induction l with
    | nil => intro a; exact ⟨.inl rfl, Nat.le_refl _, fun x hx => nomatch hx⟩
    | cons b l ih =>
      intro a
      obtain ⟨g1, g2, g3⟩ := ih (max a b)
      refine ⟨?_, by show a ≤ l.foldl max (max a b); omega, fun x hx => ?_⟩
      · show l.foldl max (max a b) = a ∨ l.foldl max (max a b) ∈ b :: l
        rcases g1 with g | g
        · rcases Nat.le_total a b with z | z
          · right; rw [g, Nat.max_eq_right z]; exact List.mem_cons_self
          · left; rw [g, Nat.max_eq_left z]
        · exact .inr (List.mem_cons_of_mem _ g)
      · show x ≤ l.foldl max (max a b)
        rcases List.mem_cons.mp hx with rfl | z
        · omega
        · exact g3 x z
  obtain ⟨g1, g2, g3⟩ := key bs 0
  refine ⟨fun e => by rw [e]; rfl, fun e => ?_, g3⟩
  rcases g1 with g | g
  · obtain ⟨x, r, rfl⟩ := List.exists_cons_of_ne_nil e
    have := g3 x List.mem_cons_self
    show List.foldl max 0 (x :: r) ∈ _
    rw [g] at this ⊢
    rw [show (0 : Nat) = x by omega]
    exact List.mem_cons_self
  · exact g
theorem topN_barred {bs : List Nat} (h : ∀ d ∈ bs, d ≤ 8) : Barred (isIn bs) (topN bs) := by
  obtain ⟨t1, t2, t3⟩ := topN_tops bs
  refine ⟨?_, fun d hd => t3 d (of_decide_eq_true hd)⟩
  by_cases z : bs = []
  · rw [t1 z]; omega
  · exact h _ (t2 z)
/-- the distances of a work -/
abbrev dW (x : List Int) : Nat → Nat := dG (isIn (barsN x x)) (topN (barsN x x))
def spGreedy (K : PySem.W.Frag) : Sp := fun vs H Q _ => ∃ (a : Addr) (x : List Int), vs = [.ref a] ∧ SqT K H a (x.map V.int) ∧ IsWork x ∧ (∀ d ∈ barsN x x, d ≤ 8) ∧
  ∀ H' t a g n p, Same H H' → H' t = some (.tup [.ref a, .ref g]) → SqT K H' a (nV (seg (dW x) 0 n)) → SqT K H' g (nV (seg (dW x) n p)) → Canon (dW x) n p → n ≤ 600 → p ≤ 600 → Q (.ref t) H'
theorem ok_greedy {f f2 f3 f4 C : Addr} {fd fd2 fd3 fd4 : FuncData} {k : Nat} {ds : List Value} (F : Fun K "greedy" "greedy" s_greedy f fd) (M : Meths P w K mg base k C)
    (G2 : FnOk P w K mg base CX0 (k + 3) f2 fd2 ["line", "of_one", "of_several"] (spReqNear K C)) (kp2 : PySem.W.keepIn K (.ref f2) = true) (b2 : Vals [.int 8, .int 5] ds ∧ Binds K fd2 ["line", "of_one", "of_several"] ds) (g2 : mg "require_near" = some (.ref f2))
    (G3 : FnOk P w K mg base CX0 (k + 3) f3 fd3 ["barred"] (spUntil K)) (kp3 : PySem.W.keepIn K (.ref f3) = true) (b3 : Binds K fd3 ["barred"] []) (g3 : mg "_until_repeated" = some (.ref f3))
    (G4 : FnOk P w K mg base CX0 (k + 3) f4 fd4 ["before", "again"] (spFewest K)) (kp4 : PySem.W.keepIn K (.ref f4) = true) (b4 : Binds K fd4 ["before", "again"] []) (g4 : mg "_with_fewest_before" = some (.ref f4))
    (m1 : mg "tuple" = none) : FnOk P w K mg base CX0 (k + 4) f fd ["work"] (spGreedy K) := by
  refine F.ok sc_greedy (fun vs H Q E h => ?_) (fun cdv A outer s H vs Q E hr h => ?_)
  · obtain ⟨a, x, rfl, _⟩ := h; rfl
  · obtain ⟨a, x, rfl, ha, hx, hb, q⟩ := h
    refine ⟨_, pss_cons (ps_set (i := 1) sc_greedy.nd rfl (.inl rfl) (M.pNew (K := K) rfl (hr.mono (Nat.le_succ _)) (by rfl) (pa_cons (pv 0) pa_nil)))
      (pss_cons (ps_expr (pe_call G2 hr (by rfl) g2 kp2 b2.2 b2.1 pass0 (pa_cons (pv 1) pa_nil)))
      (pss_cons (ps_asg (pe_call G3 hr (by rfl) g3 kp3 b3 .nil pass0 (pa_cons (M.pCall (K := K) rfl (hr.mono (Nat.le_succ _)) (pv 1) (pa_cons pe_int (pa_cons pe_int pa_nil))) pa_nil)) (pg_tup rfl (pgs_cons (pg_name (i := 2) sc_greedy.nd rfl (.inl rfl)) (pgs_cons (pg_name (i := 3) sc_greedy.nd rfl (.inl rfl)) pgs_nil))))
      (pss_one (ps_ret (pe_call G4 hr (by rfl) g4 kp4 b4 .nil pass0 (pa_cons (pe_callTy call_tuple_of (by rfl) m1 (by decide +kernel) (pa_cons (pe_slice sl_list (pv 2) po_none (po_some (pv 3))) pa_nil))
        (pa_cons (pe_callTy call_tuple_of (by rfl) m1 (by decide +kernel) (pa_cons (pe_slice sl_list (pv 2) (po_some (pv 3)) po_none) pa_nil)) pa_nil))))))), ?_⟩
    have hgd : GoodL [x] := ⟨by show 1 ≤ 1; decide, by show 1 ≤ 3; decide, fun y hy => by rw [List.mem_singleton.mp hy]; exact hx⟩
    refine ⟨.ref a, rfl, [x], .on (Tp.ofInts ha) .no, hgd, fun H1 l e1 nl hL => ?_⟩
    refine ⟨.ref l, rfl, l, x, rfl, hL, hb, ?_⟩
    refine ⟨.ref l, rfl, l, rfl, [x], 0, 0, x, x, rfl, hL, rfl, rfl, fun c hc => ?_⟩
    have hbr := topN_barred hb
    refine ⟨c, _, _, rfl, hc, hbr, topN_tops _, fun H2 t L n j e2 ht hLs hj ej hd => ?_⟩
    have T9 : topN (barsN x x) ≤ 9 := by have := hbr.1; omega
    have n5 := hd.few T9
    have hp : Per (dW x) j (n - j) := run_Per T9 hj ej hd
    refine ⟨t, _, rfl, .of ht, rfl, _, _, rfl, _, _, rfl, rfl, ?_⟩
    refine ⟨.ref L, rfl, .int (j : Nat), rfl, (j : Nat), rfl, L, _, rfl, .of hLs, fun D1 n1 => ⟨D1, _, rfl, .inl ⟨.of upd_same, fun t1 nt1 => ?_⟩⟩⟩
    have c1 : cutV (nV (seg (dG (isIn (barsN x x)) (topN (barsN x x))) 0 n)) none (some (j : Int)) = nV (seg (dW x) 0 j) := by rw [cut_to, nV_take, seg_take _ 0 (show j ≤ n by omega)]
    rw [c1] at nt1 ⊢
    have s1 : Same H2 (L2.upd H2 D1 (.lst (nV (seg (dW x) 0 j)))) := same_new n1
    have s2 := same_new (o := .tup (nV (seg (dW x) 0 j))) nt1
    have ht1 := upd_same (H := L2.upd H2 D1 (.lst (nV (seg (dW x) 0 j)))) (a := t1) (o := .tup (nV (seg (dW x) 0 j)))
    have s12 := s1.trans s2
    generalize L2.upd (L2.upd H2 D1 (.lst (nV (seg (dW x) 0 j)))) t1 (.tup (nV (seg (dW x) 0 j))) = H3 at s12 ht1 ⊢
    refine ⟨.ref L, rfl, .int (j : Nat), rfl, (j : Nat), rfl, L, _, rfl, .of (s12 _ _ hLs), fun D2 n2 => ⟨D2, _, rfl, .inl ⟨.of upd_same, fun t2 nt2 => ?_⟩⟩⟩
    have c2 : cutV (nV (seg (dG (isIn (barsN x x)) (topN (barsN x x))) 0 n)) (some (j : Int)) none = nV (seg (dW x) j (n - j)) := by
      rw [cut_from]
      unfold nV
      rw [← List.map_drop]
      have h := seg_drop (dW x) 0 j (n - j)
      rw [show j + (n - j) = n by omega, Nat.zero_add] at h
      rw [h]
    rw [c2] at nt2 ⊢
    have s3 : Same H3 (L2.upd H3 D2 (.lst (nV (seg (dW x) j (n - j))))) := same_new n2
    have s4 := same_new (o := .tup (nV (seg (dW x) j (n - j)))) nt2
    have ht2 := upd_same (H := L2.upd H3 D2 (.lst (nV (seg (dW x) j (n - j))))) (a := t2) (o := .tup (nV (seg (dW x) j (n - j))))
    have s34 := s3.trans s4
    generalize L2.upd (L2.upd H3 D2 (.lst (nV (seg (dW x) j (n - j))))) t2 (.tup (nV (seg (dW x) j (n - j)))) = H4 at s34 ht2 ⊢
    exact ⟨t1, t2, dW x, j, n - j, rfl, .inl (.inl (s34 _ _ ht1)), .inl (.inl ht2), hp, by omega, by omega, fun H5 t5 a5 g5 n5' e5 ht5 ha5 hg5 hc5 hn5 =>
      q H5 t5 a5 g5 n5' (n - j) ((((e1.trans e2).trans s12).trans s34).trans e5) ht5 ha5 hg5 hc5 hn5 (by omega)⟩
end
end Sg

set_option Elab.async false
set_option linter.all false
set_option maxRecDepth 100000
set_option maxHeartbeats 4000000
namespace Sg
open PySem PySem.Spec PyProof.Rows L2 StX
/-! ## the distances at which a work meets itself, as the law finds them -/
def Bt (x : List Int) (T : Nat) (k : Int) : Prop := ∃ (t i : Nat) (y : Int), t < T ∧ i < t ∧ x[t]? = some y ∧ x[i]? = some y ∧ y ≠ -1 ∧ k = (t : Int) - i
theorem Bt_bars {x : List Int} {k : Int} : Bt x x.length k ↔ ∃ d ∈ barsN x x, k = ((d : Nat) : Int) := by
  constructor
  · rintro ⟨t, i, y, h1, h2, h3, h4, h5, rfl⟩
    refine ⟨t - i, ?_, by omega⟩
    unfold barsN
    rw [List.mem_filter, List.mem_range']
    refine ⟨⟨t - i - 1, by omega, by omega⟩, clashB_iff.mpr ⟨i, y, ?_, h4, h5⟩⟩
    rw [show t - i + i = t by omega]; exact h3
  · rintro ⟨d, hd, rfl⟩
    unfold barsN at hd
    rw [List.mem_filter, List.mem_range'] at hd
    obtain ⟨⟨e, he, rfl⟩, hc⟩ := hd
    obtain ⟨j, y, h1, h2, h3⟩ := clashB_iff.mp hc
    have := (List.getElem?_eq_some_iff.mp h1).1
    exact ⟨_, j, y, this, by omega, h1, h2, h3, by omega⟩
theorem Bt_succ {x : List Int} {t : Nat} {y : Int} (h : x[t]? = some y) {k : Int} : Bt x (t + 1) k ↔ Bt x t k ∨ (y ≠ -1 ∧ ∃ i, i < t ∧ x[i]? = some y ∧ k = (t : Int) - i) := by
  constructor
  · rintro ⟨u, i, z, h1, h2, h3, h4, h5, e⟩
    by_cases c : u = t
    · subst c
      rw [h] at h3
      obtain rfl := Option.some.inj h3
      exact .inr ⟨h5, i, h2, h4, e⟩
    · exact .inl ⟨u, i, z, by omega, h2, h3, h4, h5, e⟩
  · rintro (⟨u, i, z, h1, h2, h3, h4, h5, e⟩ | ⟨h5, i, h2, h4, e⟩)
    · exact ⟨u, i, z, by omega, h2, h3, h4, h5, e⟩
    · exact ⟨t, i, y, by omega, h2, h, h4, h5, e⟩
section
variable {P : Program} {w : World} {K : PySem.W.Frag} {mg : Str → Option Value} {base : Heap}
/-! ### _law_between -/
def spBetween (K : PySem.W.Frag) : Sp := fun vs H Q _ => ∃ (a : Addr) (x : List Int), vs = [.ref a, .ref a] ∧ SqT K H a (x.map V.int) ∧ IsWork x ∧
  ∀ H' l (ns : List Int), Same H H' → H' l = some (.lst (ns.map V.int)) → ns.length ≤ 60 → (∀ k, k ∈ ns ↔ ∃ d ∈ barsN x x, k = ((d : Nat) : Int)) → Q (.ref l) H'
theorem ok_between {f : Addr} {fd : FuncData} {k : Nat} (F : Fun K "_law_between" "_law_between" s_l_between f fd) (m1 : mg "enumerate" = none) (m2 : mg "len" = none) (m3 : mg "range" = none) (m4 : mg "min" = none) (m5 : mg "sorted" = none) (m6 : mg "set" = none) :
    FnOk P w K mg base CX0 (k + 1) f fd ["_law_one", "_law_other"] (spBetween K) := by
  refine F.ok sc_l_between (fun vs H Q E h => ?_) (fun cdv A outer s H vs Q E hr h => ?_)
  · obtain ⟨a, x, rfl, _⟩ := h; rfl
  · obtain ⟨a, x, rfl, hA, hx, q⟩ := h
    refine ⟨_, pss_cons (ps_set (i := 2) sc_l_between.nd rfl (.inl rfl) (pe_lst pa_nil))
      (pss_cons (ps_for PassesOwn.never rfl (pi_enumT (by rfl) m1 (pa_cons (pv 0) pa_nil))
          (pg_tup rfl (pgs_cons (pg_name (i := 3) sc_l_between.nd rfl (.inl rfl)) (pgs_cons (pg_name (i := 4) sc_l_between.nd rfl (.inl rfl)) pgs_nil)))
        (pss_one (ps_if (pt_cmpR op_ne (pv 4) (pe_un un_neg pe_int) (nomark _))
          (pss_one (ps_for PassesOwn.never rfl (pi_range1 (by rfl) m3 (pa_cons (pe_callB (call_min2 rfl) (by rfl) m4 (by decide +kernel) (pa_cons (pv 3) (pa_cons (pe_callB call_len_seq (by rfl) m2 PySem.boot_len (pa_cons (pv 1) pa_nil)) pa_nil))) pa_nil)) (pg_name (i := 5) sc_l_between.nd rfl (.inl rfl))
            (pss_one (ps_if (pt_cmpR op_eq (pe_ix ix_tup (pv 1) (pv 5) (fun _ _ => rfl)) (pv 4) (nomark _))
              (pss_one (ps_expr (pe_bm PySem.F.plainAttrs_list PySem.F.slot_list_append PySem.F.type_list_append mt_append (pv 2) (pa_cons (pe_op op_sub (pv 3) (pv 5)) pa_nil)))) pss_nil)))) pss_nil)))
      (pss_one (ps_ret (pe_callB (cr_sortedSet rfl) (by rfl) m5 (by decide +kernel) (pa_cons (pe_callTy (cr_setL rfl) (by rfl) m6 (by decide +kernel) (pa_cons (pv 2) pa_nil)) pa_nil))))), ?_⟩
    have big : 4000 ≤ sizeLine := by rw [sizeLine_eq]; decide
    have lx : (x.map V.int).length = x.length := List.length_map _
    have l60 := hx.most
    refine ⟨by show 0 ≤ sizeLine; decide, fun S nS => ?_⟩
    have e0 : Same H (upd H S (.lst [])) := same_new nS
    have hS0 := upd_same (H := H) (a := S) (o := .lst [])
    generalize upd H S (.lst []) = H1 at e0 hS0 ⊢
    refine ⟨.ref a, rfl, a, _, rfl, Same.tup e0 hA, ?_⟩
    refine for_it (walk_enumT (xs := x.map V.int)) (fun i σ H' => ∃ v3 v4 v5, ∃ ns : List Int, σ = [some (.ref a), some (.ref a), some (.ref S), v3, v4, v5] ∧ Same H H' ∧ H' S = some (.lst (ns.map V.int)) ∧ ns.length ≤ 60 * i ∧ ∀ k, k ∈ ns ↔ Bt x i k)
      ⟨_, _, _, [], rfl, e0, hS0, Nat.zero_le _, fun k => ⟨(fun h => nomatch h), (fun ⟨t, i, y, h, _⟩ => absurd h (by omega))⟩⟩ (fun i σ H' _ h => ?_) (fun i y σ H' H'' hi h hY => ?_) (fun σ H' h => ?_)
    · obtain ⟨_, _, _, _, _, e, _⟩ := h
      exact Same.tup e hA
    · obtain ⟨v3, v4, v5, ns, rfl, e, hS, ls, mem⟩ := h
      obtain ⟨T, x1, x2, rfl, nT, rfl, f1, f2⟩ := hY
      dsimp only at f1 f2
      cases f1
      rw [List.getElem?_map] at f2
      obtain ⟨y, hy, rfl⟩ := Option.map_eq_some_iff.mp f2
      have hil := (List.getElem?_eq_some_iff.mp hy).1
      have eT : Same H' (upd H' T (.tup [V.int (i : Nat), .int y])) := same_new nT
      refine ⟨T, _, rfl, .of upd_same, rfl, _, _, rfl, _, _, rfl, rfl, ?_⟩
      have e2 := e.trans eT
      have hS2 := eT _ _ hS
      generalize upd H' T (.tup [V.int (i : Nat), .int y]) = H2 at e2 hS2 ⊢
      refine ⟨.int y, rfl, 1, rfl, rfl, _, rfl, ite2 (fun c => ?_) (fun c => ?_)⟩
      · have hy1 : y ≠ -1 := fun z => by rw [z] at c; cases c
        refine ⟨.int (i : Nat), rfl, .ref a, rfl, a, _, rfl, .inr (Same.tup e2 hA), _, _, rfl, ?_⟩
        rw [lx, if_neg (by omega)]
        refine ⟨(i : Nat), rfl, by omega, by omega, ?_⟩
        refine for_range (lo := 0) (n := ((i : Nat) : Int).toNat) (fun j σ H' => ∃ v5, ∃ ns : List Int, σ = [some (.ref a), some (.ref a), some (.ref S), some (.int (i : Nat)), some (.int y), v5] ∧ Same H H' ∧ H' S = some (.lst (ns.map V.int)) ∧ ns.length ≤ 60 * i + j ∧
            ∀ k, k ∈ ns ↔ Bt x i k ∨ (y ≠ -1 ∧ ∃ b, b < j ∧ x[b]? = some y ∧ k = (i : Int) - b)) ⟨_, ns, rfl, e2, hS2, ls, fun k => by rw [mem]; exact ⟨.inl, fun h => h.elim id fun ⟨_, b, hb, _⟩ => absurd hb (by omega)⟩⟩ ?_ ?_
        · rintro j σ H3 hj ⟨v5, ns, rfl, e3, hS3, l3, mem3⟩
          have hj' : j < i := by omega
          have gj : (x.map V.int)[j]? = some (.int x[j]) := by rw [List.getElem?_map, List.getElem?_eq_getElem (by omega)]; rfl
          refine ⟨.ref a, rfl, .int (0 + (j : Nat)), rfl, a, _, (j : Nat), .int x[j], rfl, congrArg V.int (Int.zero_add _), Same.tup e3 hA, atI_nat gj, .int y, rfl, rfl, _, rfl, ite2 (fun c => ?_) (fun c => ?_)⟩
          · have hxy : x[j] = y := V.int.inj (of_decide_eq_true c)
            refine ⟨.ref S, rfl, .inl ⟨rfl, _, .of hS3⟩, .int (i : Nat), rfl, .int (0 + (j : Nat)), rfl, _, _, rfl, rfl, S, _, _, rfl, rfl, hS3, by rw [List.length_map]; omega, ?_⟩
            refine ⟨_, ns ++ [(i : Int) - (0 + (j : Nat))], rfl, fun b o z => ?_, by rw [upd_same, List.map_append]; rfl, by rw [List.length_append]; show ns.length + 1 ≤ _; omega, fun k => ?_⟩
            · rw [upd_ne (ne_of_none z nS)]
              exact e3 _ _ z
            · rw [List.mem_append, mem3, List.mem_singleton]
              constructor
              · rintro ((h | ⟨_, b, hb, h1, h2⟩) | h)
                · exact .inl h
                · exact .inr ⟨hy1, b, by omega, h1, h2⟩
                · exact .inr ⟨hy1, j, by omega, by rw [List.getElem?_eq_getElem (by omega), hxy], by omega⟩
              · rintro (h | ⟨_, b, hb, h1, h2⟩)
                · exact .inl (.inl h)
                · by_cases z : b = j
                  · subst z; exact .inr (by omega)
                  · exact .inl (.inr ⟨hy1, b, by omega, h1, h2⟩)
          · refine ⟨_, ns, rfl, e3, hS3, by omega, fun k => ?_⟩
            rw [mem3]
            constructor
            · rintro (h | ⟨_, b, hb, h1, h2⟩)
              · exact .inl h
              · exact .inr ⟨hy1, b, by omega, h1, h2⟩
            · rintro (h | ⟨_, b, hb, h1, h2⟩)
              · exact .inl h
              · by_cases z : b = j
                · subst z
                  rw [List.getElem?_eq_getElem (by omega)] at h1
                  exact absurd (decide_eq_true (congrArg V.int (Option.some.inj h1))) c
                · exact .inr ⟨hy1, b, by omega, h1, h2⟩
        · rintro σ H3 ⟨v5, ns, rfl, e3, hS3, l3, mem3⟩
          refine ⟨_, _, _, ns, rfl, e3, hS3, by omega, fun k => ?_⟩
          rw [mem3, Bt_succ hy, Int.toNat_natCast]
      · have hy1 : y = -1 := Classical.byContradiction fun z => c (by rw [decide_eq_false fun w => z (V.int.inj w)]; rfl)
        refine ⟨_, _, _, ns, rfl, e2, hS2, by omega, fun k => ?_⟩
        rw [mem, Bt_succ hy]
        exact ⟨.inl, fun h => h.elim id fun ⟨z, _⟩ => absurd hy1 z⟩
    · obtain ⟨v3, v4, v5, ns, rfl, e, hS, ls, mem⟩ := h
      rw [lx] at ls mem
      refine ⟨.ref S, rfl, S, ns, rfl, .of hS, by omega, fun p n np hn => ?_⟩
      have ep := same_new (o := SetO w p (fun j => decide (j ∈ ns)) n) np
      have hn60 : n ≤ 60 := by
        have := hn ((List.range 60).map fun d : Nat => (d : Int)) fun k hk => by
          obtain ⟨t, i, y, h1, h2, _, _, _, h6⟩ := (mem k).mp hk
          exact List.mem_map.mpr ⟨t - i, List.mem_range.mpr (by omega), by omega⟩
        rw [List.length_map, List.length_range] at this
        exact this
      refine ⟨p, _, n, rfl, upd_same, by omega, fun ms l hms hmem hlen nl => ?_⟩
      have el := same_new (o := .lst (ms.map V.int)) nl
      refine q _ l ms ((e.trans ep).trans el) upd_same (by omega) fun k => ?_
      rw [hmem, decide_eq_true_eq, mem, Bt_bars]
end
end Sg

set_option Elab.async false
set_option linter.all false
set_option maxRecDepth 100000
set_option maxHeartbeats 4000000
namespace Sg
open PySem PySem.Spec PyProof.Rows L2 StX
/-! ## the last ten starts, by how far they lie back -/
def lastG (b : Nat → Bool) : Nat → List Nat
  | 0 => [0]
  | i + 1 => ((lastG b i).drop ((lastG b i).length - 9)).map (· + nextG b (lastG b i)) ++ [0]
theorem head_ge : ∀ (l : List Nat) (a : Nat), (a :: l).Pairwise (· > ·) → l.length ≤ a
  | [], _, _ => Nat.zero_le _
  | c :: r, a, h => by
    obtain ⟨h1, h2⟩ := List.pairwise_cons.mp h
    have := head_ge r c h2
    have := h1 c List.mem_cons_self
    rw [List.length_cons]; omega
theorem far_of_drop {l : List Nat} (h : l.Pairwise (· > ·)) : ∀ a ∈ l.take (l.length - 9), 9 ≤ a := by
  intro a ha
  rw [← List.take_append_drop (l.length - 9) l] at h
  obtain ⟨_, _, h3⟩ := List.pairwise_append.mp h
  obtain ⟨i, hi⟩ := List.mem_iff_getElem?.mp ha
  have hl := (List.getElem?_eq_some_iff.mp hi).1
  rw [List.length_take] at hl
  rcases hd : l.drop (l.length - 9) with _ | ⟨c, r⟩
  · have := congrArg List.length hd
    rw [List.length_drop, List.length_nil] at this
    omega
  · have len := congrArg List.length hd
    rw [List.length_drop, List.length_cons] at len
    have hp : (c :: r).Pairwise (· > ·) := by rw [← hd]; exact (List.pairwise_append.mp h).2.1
    have := head_ge r c hp
    have := h3 a ha c (by rw [hd]; exact List.mem_cons_self)
    omega
theorem last_desc {b : Nat → Bool} : ∀ i, (lastG b i).Pairwise (· > ·)
  | 0 => List.pairwise_singleton _ _
  | i + 1 => by
    have h := last_desc (b := b) i
    unfold lastG
    rw [List.pairwise_append]
    refine ⟨(h.sublist (List.drop_sublist _ _)).map _ fun a c z => ?_, List.pairwise_singleton _ _, fun a ha c hc => ?_⟩
    · omega
    · obtain ⟨e, _, rfl⟩ := List.mem_map.mp ha
      rw [List.mem_singleton.mp hc]
      have := nextG_ge (b := b) (x := lastG b i)
      omega
theorem last_len {b : Nat → Bool} : ∀ i, (lastG b i).length ≤ 10
  | 0 => by show 1 ≤ 10; decide
  | i + 1 => by
    unfold lastG
    rw [List.length_append, List.length_map, List.length_drop]
    show _ + 1 ≤ 10
    omega
theorem filter_drop {T m d : Nat} (x : List Nat) (hf : ∀ a ∈ x.take m, T ≤ a) : ((x.drop m).map (· + d)).filter (fun a => decide (a < T)) = (x.map (· + d)).filter fun a => decide (a < T) := by
  conv => rhs; rw [← List.take_append_drop m x, List.map_append, List.filter_append]
  have none : ((x.take m).map (· + d)).filter (fun a => decide (a < T)) = [] := by
    refine List.filter_eq_nil_iff.mpr fun a ha => ?_
    obtain ⟨c, hc, rfl⟩ := List.mem_map.mp ha
    have := hf c hc
    rw [decide_eq_true_eq]
    omega
  rw [none, List.nil_append]
theorem last_run {b : Nat → Bool} {F T : Nat} (h : Barred b F) (h1 : F ≤ T) (h0 : 1 ≤ T) (h9 : T ≤ 9) : ∀ i, (lastG b i).filter (fun a => decide (a < T)) = runG b T i ∧ nextG b (lastG b i) = dG b T i
  | 0 => ⟨List.filter_cons_of_pos (decide_eq_true (by omega)), rfl⟩
  | i + 1 => by
    obtain ⟨e1, e2⟩ := last_run h h1 h0 h9 i
    have key : (lastG b (i + 1)).filter (fun a => decide (a < T)) = runG b T (i + 1) := by
      show ((((lastG b i).drop ((lastG b i).length - 9)).map (· + nextG b (lastG b i))) ++ [0]).filter _ = stG T (runG b T i) (nextG b (runG b T i))
      rw [show nextG b (runG b T i) = dG b T i from rfl, ← e2]
      unfold stG
      rw [List.filter_append, ← e1, filter_again]
      congr 1
      · exact filter_drop _ fun a ha => by
          have := far_of_drop (last_desc i) a ha
          omega
      · exact List.filter_cons_of_pos (decide_eq_true (by omega))
    refine ⟨key, nextG_filter h ?_⟩
    rw [← key, List.filter_filter]
    refine List.filter_congr fun a _ => ?_
    rw [Bool.eq_iff_iff]
    simp only [Bool.and_eq_true, decide_eq_true_eq]
    omega
/-- the tick of a start -/
def nowG (b : Nat → Bool) : Nat → Nat
  | 0 => 0
  | i + 1 => nowG b i + nextG b (lastG b i)
/-- the starts themselves -/
abbrev stV (n : Nat) (x : List Nat) : List V := x.map fun a : Nat => V.int ((n : Int) - (a : Nat))
theorem stV_next (b : Nat → Bool) (i : Nat) : stV (nowG b (i + 1)) (lastG b (i + 1)) = (stV (nowG b i) (lastG b i)).drop ((lastG b i).length - 9) ++ [V.int ((nowG b i : Int) + (nextG b (lastG b i) : Nat))] := by
  show (((lastG b i).drop ((lastG b i).length - 9)).map (· + nextG b (lastG b i)) ++ [0]).map _ = _
  rw [List.map_append, List.map_map, ← List.map_drop]
  congr 1
  · refine List.map_congr_left fun a _ => ?_
    show V.int (((nowG b i + nextG b (lastG b i) : Nat) : Int) - ((a + nextG b (lastG b i) : Nat) : Int)) = V.int ((nowG b i : Int) - (a : Nat))
    congr 1
    omega
theorem last_end (b : Nat → Bool) (i : Nat) : (lastG b i)[(lastG b i).length - 1]? = some 0 := by
  cases i with
  | zero => rfl
  | succ i =>
    unfold lastG
    rw [List.getElem?_append_right (by rw [List.length_append]; show _ ≤ _ + 1 - 1; omega), List.length_append]
    show [0][_ + 1 - 1 - _]? = _
    rw [Nat.add_sub_cancel, Nat.sub_self]; rfl
end Sg

set_option Elab.async false
set_option linter.all false
set_option maxRecDepth 100000
set_option maxHeartbeats 4000000
namespace Sg
open PySem PySem.Spec PyProof.Rows L2 StX
/-! ## lists of numbers as data -/
abbrev lD (x : List Nat) : PyData := .list (iD (x.map fun a : Nat => (a : Int)))
theorem cast_inj : ∀ {x y : List Nat}, (x.map fun a : Nat => (a : Int)) = (y.map fun a : Nat => (a : Int)) → x = y
  | [], [], _ => rfl
  | [], _ :: _, h => nomatch h
  | _ :: _, [], h => nomatch h
  | a :: x, b :: y, h => by
    obtain ⟨h1, h2⟩ := List.cons.inj h
    have h1 : (a : Int) = (b : Int) := h1
    rw [cast_inj h2, show a = b by omega]
theorem eqv_lD (x y : List Nat) : PyData.eqv (lD x) (lD y) = decide (x = y) := by
  rw [PyData.eqv, eqv_ints]
  by_cases h : x = y
  · rw [h, decide_eq_true rfl, decide_eq_true rfl]
  · rw [decide_eq_false h, decide_eq_false fun z => h (cast_inj z)]
theorem dp_ints (K : PySem.W.Frag) (H : Hp) : ∀ (ns : List Int), DpAll K H (ns.map V.int) (iD ns)
  | [] => .nil
  | x :: r => .cons (.int x) (dp_ints K H r)
theorem dp_lD {K : PySem.W.Frag} {H : Hp} {a : Addr} {x : List Nat} (h : H a = some (.lst (nV x))) : Dp K H (.ref a) (lD x) := by
  refine .lst (.of h) ?_
  have := dp_ints K H (x.map fun a : Nat => (a : Int))
  rw [List.map_map] at this
  exact this
theorem shaped_lD (x : List Nat) : SeqAt.shaped (lD x) = true := by
  unfold SeqAt.shaped
  have a : (lD x).canLay0 = true := by rw [PyData.canLay0, lay_iD]
  have b : (lD x).depth ≤ 64 := by rw [PyData.depth, dep_iD]; decide
  rw [a, decide_eq_true b]; rfl
theorem lay_lDs : ∀ (xs : List (List Nat)), PyData.canLayAll0 (xs.map lD) = true
  | [] => by simp [PyData.canLayAll0]
  | x :: r => by
    show PyData.canLayAll0 (.list (iD (x.map fun a : Nat => (a : Int))) :: r.map lD) = true
    rw [PyData.canLayAll0, lay_lDs r, PyData.canLay0, lay_iD]; rfl
theorem dep_lDs : ∀ (xs : List (List Nat)), PyData.depthAll (xs.map lD) ≤ 1
  | [] => by simp [PyData.depthAll]
  | x :: r => by
    show PyData.depthAll (.list (iD (x.map fun a : Nat => (a : Int))) :: r.map lD) ≤ 1
    rw [PyData.depthAll, PyData.depth, dep_iD]
    exact Nat.max_le.mpr ⟨Nat.le_refl _, dep_lDs r⟩
theorem shaped_lDs (xs : List (List Nat)) : SeqAt.shaped (.list (xs.map lD)) = true := by
  unfold SeqAt.shaped
  have a : (PyData.list (xs.map lD)).canLay0 = true := by rw [PyData.canLay0, lay_lDs]
  have b : (PyData.list (xs.map lD)).depth ≤ 64 := by rw [PyData.depth]; have := dep_lDs xs; omega
  rw [a, decide_eq_true b]; rfl
/-- the windows that were seen, each a list of its own, none of them L or E -/
def Wins (L E : Addr) (H : Hp) (us : List V) (xs : List (List Nat)) : Prop := Paired (fun u x => ∃ a : Addr, u = .ref a ∧ a ≠ L ∧ a ≠ E ∧ H a = some (.lst (nV x))) us xs
theorem Wins.dp {L E : Addr} {H : Hp} {K : PySem.W.Frag} {us : List V} {xs : List (List Nat)} (h : Wins L E H us xs) : DpAll K H us (xs.map lD) := by
  unfold Wins at h
  induction h with
  | nil => exact .nil
  | cons a r ih =>
    obtain ⟨c, rfl, _, _, hc⟩ := a
    exact .cons (dp_lD hc) ih
theorem Wins.keep {L E : Addr} {H H' : Hp} {us : List V} {xs : List (List Nat)} (h : Wins L E H us xs) (e : ∀ a o, a ≠ L → a ≠ E → H a = some o → H' a = some o) : Wins L E H' us xs := by
  unfold Wins at h ⊢
  induction h with
  | nil => exact .nil
  | cons a r ih =>
    obtain ⟨c, rfl, c1, c2, hc⟩ := a
    exact .cons ⟨c, rfl, c1, c2, e c _ c1 c2 hc⟩ ih
theorem Wins.add {L E : Addr} {H : Hp} {us : List V} {xs : List (List Nat)} (h : Wins L E H us xs) {a : Addr} {x : List Nat} (c1 : a ≠ L) (c2 : a ≠ E) (hx : H a = some (.lst (nV x))) : Wins L E H (us ++ [.ref a]) (xs ++ [x]) := by
  unfold Wins at h ⊢
  induction h with
  | nil => exact .cons ⟨a, rfl, c1, c2, hx⟩ .nil
  | cons a r ih => exact .cons a ih
end Sg

set_option Elab.async false
set_option linter.all false
set_option maxRecDepth 100000
set_option maxHeartbeats 4000000
namespace Sg
open PySem PySem.Spec PyProof.Rows L2 StX
theorem flat_iV (ns : List Int) : (ns.map V.int).all flatV = true := by
  rw [List.all_eq_true]
  intro v hv
  obtain ⟨b, _, rfl⟩ := List.mem_map.mp hv
  rfl
theorem stV_snoc (n : Nat) (x : List Nat) (a : Nat) : stV n (x ++ [a]) = stV n x ++ [V.int ((n : Int) - (a : Nat))] := List.map_append
theorem shaped_iL (xs : List Int) : SeqAt.shaped (.list (iD xs)) = true := by
  unfold SeqAt.shaped
  have a : (PyData.list (iD xs)).canLay0 = true := by rw [PyData.canLay0, lay_iD]
  have b : (PyData.list (iD xs)).depth ≤ 64 := by rw [PyData.depth, dep_iD]; decide
  rw [a, decide_eq_true b]; rfl
theorem cut_back (xs : List V) : cutV xs (some (-9)) none = xs.drop (xs.length - 9) := by
  unfold cutV
  rw [HT.sIx_none]
  have e : HT.sIx xs.length 0 (some (-9)) = xs.length - 9 := by
    show (if (-9 : Int) < 0 then ((-9 : Int) + (xs.length : Nat)).toNat else min (-9 : Int).toNat xs.length) = _
    rw [if_pos (by decide)]
    omega
  rw [e, List.take_of_length_le (by rw [List.length_drop]; exact Nat.le_refl _)]
theorem inV_mem {ns : List Int} {bs : List Nat} (mem : ∀ k, k ∈ ns ↔ ∃ d ∈ bs, k = ((d : Nat) : Int)) (m : Nat) : inV (.int (m : Nat)) (ns.map V.int) = isIn bs m := by
  unfold inV isIn
  rw [Bool.eq_iff_iff, List.any_eq_true, decide_eq_true_eq]
  constructor
  · rintro ⟨v, hv, e⟩
    obtain ⟨b, hb, rfl⟩ := List.mem_map.mp hv
    have e1 : b = (m : Int) := by simpa [eqV] using e
    obtain ⟨d, hd, e2⟩ := (mem b).mp hb
    rw [show m = d by omega]
    exact hd
  · intro h
    exact ⟨_, List.mem_map.mpr ⟨(m : Int), (mem _).mpr ⟨m, h, rfl⟩, rfl⟩, by simp [eqV]⟩
section
variable {P : Program} {w : World} {K : PySem.W.Frag} {mg : Str → Option Value} {base : Heap}
/-! ### _law_walk -/
def spWalk (K : PySem.W.Frag) : Sp := fun vs H Q _ => ∃ (l : Addr) (ns : List Int) (bs : List Nat) (F : Nat), vs = [.ref l] ∧ H l = some (.lst (ns.map V.int)) ∧ (∀ k, k ∈ ns ↔ ∃ d ∈ bs, k = ((d : Nat) : Int)) ∧ ns.length ≤ 1000 ∧ Barred (isIn bs) F ∧ Tops bs F ∧
  ∀ H' t s g k p, Same H H' → H' t = some (.tup [.ref s, .ref g]) → H' s = some (.lst (nV (seg (dG (isIn bs) F) 0 k))) → H' g = some (.lst (nV (seg (dG (isIn bs) F) k p))) → 1 ≤ p → (∀ i, k ≤ i → dG (isIn bs) F (i + p) = dG (isIn bs) F i) → k ≤ 600 → p ≤ 600 → Q (.ref t) H'
abbrev walkN : List Str := ["_law_spans", "_law_reach", "_law_starts", "_law_seen", "_law_steps", "_law_now", "_law_window", "_law_one", "_law_at", "_law_tick"]
def WInv (l E D : Addr) (bs : List Nat) (F : Nat) (H : Hp) (n : Nat) (σ : L2.St) (H' : Hp) : Prop := ∃ S us v5 v6 v7 v8 v9, σ = [some (.ref l), some (.int (F : Nat)), some (.ref S), some (.ref E), some (.ref D), v5, v6, v7, v8, v9] ∧
  Same H H' ∧ H' S = some (.lst (stV (nowG (isIn bs) n) (lastG (isIn bs) n))) ∧ S ≠ D ∧ S ≠ E ∧ H' D = some (.lst (nV (seg (dG (isIn bs) F) 0 n))) ∧ H' E = some (.lst us) ∧
  Wins D E H' us ((List.range n).map (runG (isIn bs) (F + 1))) ∧ Dist (isIn bs) (F + 1) n
theorem ok_walk {f : Addr} {fd : FuncData} {k : Nat} (F : Fun K "_law_walk" "_law_walk" s_l_walk f fd) (m1 : mg "max" = none) : FnOk P w K mg base CX0 (k + 1) f fd ["_law_spans"] (spWalk K) := by
  refine F.ok sc_l_walk (fun vs H Q E h => ?_) (fun cdv A outer s H vs Q E hr h => ?_)
  · obtain ⟨l, ns, bs, T, rfl, _⟩ := h; rfl
  · obtain ⟨l, ns, bs, T, rfl, hl, mem, lns, hb, ht, q⟩ := h
    have hu := hr.units
    have hu65 : (A.deeper (envOfC "_law_walk" (defScope s_l_walk) s.heap.objs.size f cdv)).units + 65 < cLine := by have := hr.un; omega
    refine ⟨_, pss_cons (ps_asg (pe_tup (pa_cons (pe_callB (cr_max rfl) (by rfl) m1 (by decide +kernel) (pa_cons (pe_op op_cat (pe_lst (pa_cons pe_int pa_nil)) (pv 0)) pa_nil)) (pa_cons (pe_lst (pa_cons pe_int pa_nil)) (pa_cons (pe_lst pa_nil) (pa_cons (pe_lst pa_nil) pa_nil)))))
        (pg_tup rfl (pgs_cons (pg_name (i := 1) sc_l_walk.nd rfl (.inr rfl)) (pgs_cons (pg_name (i := 2) sc_l_walk.nd rfl (.inl rfl)) (pgs_cons (pg_name (i := 3) sc_l_walk.nd rfl (.inl rfl)) (pgs_cons (pg_name (i := 4) sc_l_walk.nd rfl (.inl rfl)) pgs_nil))))))
      (pss_one (ps_while PassesOwn.never (pt_val pe_bl)
        (pss_cons (ps_set (i := 5) sc_l_walk.nd rfl (.inr rfl) (pe_ix ix_list (pv 2) (pe_un un_neg pe_int) (fun _ _ => rfl)))
        (pss_cons (ps_setLc (i := 6) (own := [("_law_one", 7)]) (g := gName 7) (by rfl) sc_l_walk.nd rfl rfl (sw_true rfl rfl rfl (by decide +kernel)) (pi_list (pv 2))
          (blkOk_by (N := walkN) (sc := defScope s_l_walk) (by decide +kernel))
          (fun _ _ _ _ _ => pg_name (i := 7) sc_l_walk.nd rfl (Or.inl rfl))
          (fun _ _ _ _ _ => pts_one (pt_cmpR op_le (pe_op op_sub (pv 5) (pv 7)) (pv 1) (nomark _)))
          (fun _ _ _ _ _ => pe_op op_sub (pv 5) (pv 7)))
        (pss_cons (ps_if (pt_cmpR (op_inD hu65) (pv 6) (pv 3) (by with_unfolding_all rfl))
          (pss_cons (ps_set (i := 8) sc_l_walk.nd rfl (.inl rfl) (pe_bm PySem.F.plainAttrs_list PySem.F.slot_list_index PySem.F.type_list_index (mt_indexD hu65) (pv 3) (pa_cons (pv 6) pa_nil)))
          (pss_one (ps_ret (pe_tup (pa_cons (pe_slice sl_list (pv 4) po_none (po_some (pv 8))) (pa_cons (pe_slice sl_list (pv 4) (po_some (pv 8)) po_none) pa_nil)))))) pss_nil)
        (pss_cons (ps_expr (pe_bm PySem.F.plainAttrs_list PySem.F.slot_list_append PySem.F.type_list_append mt_append (pv 3) (pa_cons (pv 6) pa_nil)))
        (pss_cons (ps_set (i := 9) sc_l_walk.nd rfl (.inr rfl) (pe_op op_add (pv 5) pe_int))
        (pss_cons (ps_while PassesOwn.never (pt_cmpR (op_neD hu) (pe_lc (own := [("_law_one", 7)]) (g := gName 7) (by rfl) sc_l_walk.nd (pi_list (pv 2)) (blkOk_by (N := walkN) (sc := defScope s_l_walk) (by decide +kernel))
            (fun _ _ _ _ _ => pg_name (i := 7) sc_l_walk.nd rfl (Or.inl rfl))
            (fun _ _ _ _ _ => pts_one (pt_cmpR (op_in_seqK (K := K) rfl) (pe_op op_sub (pv 9) (pv 7)) (pv 0) (by with_unfolding_all rfl))) (fun _ _ _ _ _ => pv 7)) (pe_lst pa_nil) (nomark _))
          (pss_one (ps_set (i := 9) sc_l_walk.nd rfl (.inr rfl) (pe_op op_add (pv 9) pe_int))))
        (pss_cons (ps_expr (pe_bm PySem.F.plainAttrs_list PySem.F.slot_list_append PySem.F.type_list_append mt_append (pv 4) (pa_cons (pe_op op_sub (pv 9) (pv 5)) pa_nil)))
        (pss_one (ps_set (i := 2) sc_l_walk.nd rfl (.inl rfl) (pe_op op_cat (pe_slice sl_list (pv 2) (po_some (pe_un un_neg pe_int)) po_none) (pe_lst (pa_cons (pv 9) pa_nil)))))))))))))), ?_⟩
    have big : 4000 ≤ sizeLine := by rw [sizeLine_eq]; decide
    have T9 : T + 1 ≤ 9 := by have := hb.1; omega
    have lm : (ns.map V.int).length = ns.length := List.length_map _
    refine ⟨by show 1 ≤ sizeLine; omega, fun z nz => ?_⟩
    have e1 : Same H (L2.upd H z (.lst [V.int 0])) := same_new nz
    have hz1 := upd_same (H := H) (a := z) (o := .lst [V.int 0])
    generalize L2.upd H z (.lst [V.int 0]) = H1 at e1 hz1 ⊢
    refine ⟨.ref l, rfl, z, l, _, _, rfl, rfl, hz1, e1 _ _ hl, by rw [lm]; show 1 + ns.length ≤ sizeLine; omega, fun p np => ?_⟩
    have e2 := same_new (o := .lst ([V.int 0] ++ ns.map V.int)) np
    have hp2 := upd_same (H := H1) (a := p) (o := .lst ([V.int 0] ++ ns.map V.int))
    have e12 := e1.trans e2
    generalize L2.upd H1 p (.lst ([V.int 0] ++ ns.map V.int)) = H2 at e12 hp2 ⊢
    refine ⟨p, 0 :: ns, rfl, .of hp2, Nat.succ_pos _, fun m hm1 hm2 => ?_⟩
    have hm : m = (T : Int) := by
      have a0 := hm2 0 List.mem_cons_self
      by_cases c : bs = []
      · have h0 : T = 0 := ht.1 c
        rcases List.mem_cons.mp hm1 with h | h
        · omega
        · obtain ⟨d, hd, _⟩ := (mem m).mp h
          rw [c] at hd; exact nomatch hd
      · have a1 := hm2 (T : Int) (List.mem_cons_of_mem _ ((mem _).mpr ⟨T, ht.2.1 c, rfl⟩))
        rcases List.mem_cons.mp hm1 with h | h
        · omega
        · obtain ⟨d, hd, e⟩ := (mem m).mp h
          have := ht.2.2 d hd
          omega
    subst hm
    refine ⟨by show 1 ≤ sizeLine; omega, fun S nS => ?_⟩
    have e3 := same_new (o := .lst [V.int 0]) nS
    have hS3 := upd_same (H := H2) (a := S) (o := .lst [V.int 0])
    have e13 := e12.trans e3
    generalize L2.upd H2 S (.lst [V.int 0]) = H3 at e13 hS3 ⊢
    refine ⟨by show 0 ≤ sizeLine; omega, fun E nE => ?_⟩
    have e4 := same_new (o := .lst []) nE
    have hE4 := upd_same (H := H3) (a := E) (o := .lst [])
    have nSE : S ≠ E := ne_of_none hS3 nE
    have nEH : H E = none := freeS e13 nE
    have hS4 := e4 _ _ hS3
    have e14 := e13.trans e4
    generalize L2.upd H3 E (.lst []) = H4 at e14 hE4 hS4 ⊢
    refine ⟨by show 0 ≤ sizeLine; omega, fun D nD => ?_⟩
    have e5 := same_new (o := .lst []) nD
    have hD5 := upd_same (H := H4) (a := D) (o := .lst [])
    have nSD : S ≠ D := ne_of_none hS4 nD
    have nED : E ≠ D := ne_of_none hE4 nD
    have nDH : H D = none := freeS e14 nD
    have hS5 := e5 _ _ hS4
    have hE5 := e5 _ _ hE4
    have e15 := e14.trans e5
    generalize L2.upd H4 D (.lst []) = H5 at e15 hE5 hS5 hD5 ⊢
    refine ⟨by show 4 ≤ sizeLine; omega, fun U nU => ?_⟩
    have e6 := same_new (o := .tup [V.int (T : Nat), .ref S, .ref E, .ref D]) nU
    have hU6 := upd_same (H := H5) (a := U) (o := .tup [V.int (T : Nat), .ref S, .ref E, .ref D])
    have hS6 := e6 _ _ hS5
    have hE6 := e6 _ _ hE5
    have hD6 := e6 _ _ hD5
    have e16 := e15.trans e6
    generalize L2.upd H5 U (.tup [V.int (T : Nat), .ref S, .ref E, .ref D]) = H6 at e16 hE6 hS6 hD6 hU6 ⊢
    refine ⟨U, _, rfl, .of hU6, rfl, _, _, rfl, _, _, rfl, _, _, rfl, _, _, rfl, rfl, ?_⟩
    refine ⟨fun m σ H' => ∃ n, m = 600 - n ∧ WInv l E D bs T H n σ H', ⟨_, 0, rfl, S, [], _, _, _, _, _, rfl, e16, hS6, nSD, nSE, hD6, hE6, .nil, fun i j _ h => absurd h (by omega)⟩, ?_⟩
    rintro m σ H1' ⟨n, rfl, S, us, v5, v6, v7, v8, v9, rfl, e1, hS1, nSD1, nSE1, hD1, hE1, hW1, hd⟩
    have n5 := hd.few T9
    have ll := last_len (b := isIn bs) n
    obtain ⟨er, en⟩ := last_run (T := T + 1) hb (by omega) (by omega) T9 n
    refine ⟨true, rfl, iteT ?_⟩
    have hend : atI (stV (nowG (isIn bs) n) (lastG (isIn bs) n)) (-1) = some (.int (nowG (isIn bs) n : Nat)) := by
      have h0 := last_end (isIn bs) n
      have hl0 := (List.getElem?_eq_some_iff.mp h0).1
      unfold atI
      rw [List.length_map, ixN_end (by omega)]
      show (stV (nowG (isIn bs) n) (lastG (isIn bs) n))[(lastG (isIn bs) n).length - 1]? = _
      rw [List.getElem?_map, h0]
      show some (V.int ((nowG (isIn bs) n : Int) - ((0 : Nat) : Int))) = _
      rw [show ((nowG (isIn bs) n : Int) - ((0 : Nat) : Int)) = (nowG (isIn bs) n : Nat) by omega]
    refine ⟨fun σ' H' => WInv l E D bs T H (n + 1) σ' H', fun σ' H' h => ⟨_, show 600 - (n + 1) < 600 - n by omega, n + 1, rfl, h⟩, ?_⟩
    refine ⟨.ref S, rfl, 1, rfl, S, _, -1, .int (nowG (isIn bs) n : Nat), rfl, rfl, .of hS1, hend, ?_⟩
    refine ⟨.ref S, rfl, S, rfl, ⟨_, .of hS1⟩, fun W nW => ?_⟩
    refine lc_list (K := K) (a := S) (xs := stV (nowG (isIn bs) n) (lastG (isIn bs) n)) (fun i H' => Same H1' H' ∧ H' W = some (.lst (nV (((lastG (isIn bs) n).take i).filter fun a => decide (a < T + 1))))) ⟨same_new nW, upd_same⟩
      (fun i H' _ h => .of (h.1 _ _ hS1)) (fun i y H' hy h => ?_) (fun H2' h => ?_)
    · rw [List.getElem?_map] at hy
      obtain ⟨a, ha, rfl⟩ := Option.map_eq_some_iff.mp hy
      have hi := (List.getElem?_eq_some_iff.mp ha).1
      have htk : (lastG (isIn bs) n).take (i + 1) = (lastG (isIn bs) n).take i ++ [a] := by rw [List.take_add_one, ha]; rfl
      refine ⟨rfl, .int (nowG (isIn bs) n : Nat), rfl, .int ((nowG (isIn bs) n : Int) - (a : Nat)), rfl, _, _, rfl, rfl, .int (T : Nat), rfl, _, _, rfl, rfl, _, rfl, ite2 (fun e => ?_) (fun e => ?_)⟩
      · have e' : a < T + 1 := by
          have : (nowG (isIn bs) n : Int) - ((nowG (isIn bs) n : Int) - (a : Nat)) ≤ (T : Int) := of_decide_eq_true e
          omega
        refine ⟨.int (nowG (isIn bs) n : Nat), rfl, .int ((nowG (isIn bs) n : Int) - (a : Nat)), rfl, _, _, rfl, rfl, _, h.2, ?_, fun b o z => ?_, ?_⟩
        · unfold nV
          rw [List.length_map]
          refine Nat.lt_of_le_of_lt (List.length_filter_le _ _) ?_
          rw [List.length_take]
          omega
        · rw [upd_ne (ne_of_none z nW)]
          exact h.1 _ _ z
        · rw [upd_same, htk, List.filter_append, show [a].filter (fun a => decide (a < T + 1)) = [a] from List.filter_cons_of_pos (decide_eq_true e')]
          unfold nV
          rw [List.map_append]
          show some (HO.lst (_ ++ [V.int ((nowG (isIn bs) n : Int) - ((nowG (isIn bs) n : Int) - (a : Nat)))])) = some (HO.lst (_ ++ [V.int (a : Nat)]))
          rw [show (nowG (isIn bs) n : Int) - ((nowG (isIn bs) n : Int) - (a : Nat)) = (a : Nat) by omega]
      · have e' : ¬ a < T + 1 := fun z => e (decide_eq_true (by
          show (nowG (isIn bs) n : Int) - ((nowG (isIn bs) n : Int) - (a : Nat)) ≤ (T : Int)
          omega))
        refine ⟨h.1, ?_⟩
        rw [htk, List.filter_append, show [a].filter (fun a => decide (a < T + 1)) = [] from List.filter_cons_of_neg (by rw [decide_eq_true_eq]; exact e'), List.append_nil]
        exact h.2
    obtain ⟨e2, hW2⟩ := h
    rw [List.length_map, List.take_length, er] at hW2
    have hS2 := e2 _ _ hS1
    have hE2 := e2 _ _ hE1
    have hD2 := e2 _ _ hD1
    have nWE : W ≠ E := (ne_of_none hE1 nW).symm
    have nWD : W ≠ D := (ne_of_none hD1 nW).symm
    have nWS : W ≠ S := (ne_of_none hS1 nW).symm
    have hWs2 := hW1.keep fun a o _ _ z => e2 a o z
    have e12 := e1.trans e2
    have dE : Dp K H2' (.ref E) (.list (((List.range n).map (runG (isIn bs) (T + 1))).map lD)) := .lst (.of hE2) hWs2.dp
    refine ⟨.ref W, rfl, .ref E, rfl, lD (runG (isIn bs) (T + 1) n), _, dp_lD hW2, dE, shaped_lD _, shaped_lDs _, _, rfl, ?_⟩
    have d_at : ∀ j, dG (isIn bs) (T + 1) j = dG (isIn bs) T j := fun j => dG_eq hb (Nat.le_succ T) j
    have lseg : (nV (seg (dG (isIn bs) T) 0 n)).length = n := by rw [nV_len, seg_len]
    have hget : ∀ {m : Nat}, m < n → ((((List.range n).map (runG (isIn bs) (T + 1))).map lD))[m]? = some (lD (runG (isIn bs) (T + 1) m)) := fun {m} hm => by
      rw [List.getElem?_map, List.getElem?_map, List.getElem?_range hm]; rfl
    rcases seen_at (isIn bs) (T + 1) n (runG (isIn bs) (T + 1) n) with ⟨j, hj, ej, _⟩ | ⟨hj, _⟩
    · have hany : (((List.range n).map (runG (isIn bs) (T + 1))).map lD).any (fun z => PyData.eqv z (lD (runG (isIn bs) (T + 1) n))) = true :=
        List.any_eq_true.mpr ⟨_, List.mem_of_getElem? (hget hj), by rw [eqv_lD]; exact decide_eq_true ej⟩
      rw [hany]
      refine iteT ?_
      refine ⟨.ref E, rfl, .inl ⟨rfl, _, .of hE2⟩, .ref W, rfl, E, _, lD (runG (isIn bs) (T + 1) n), _, j, _, rfl, rfl, dE, dp_lD hW2, shaped_lDs _, shaped_lD _, hget hj, by rw [eqv_lD]; exact decide_eq_true ej, fun m z' hm hz' => ?_, ?_⟩
      · rw [hget (by omega)] at hz'
        obtain rfl := Option.some.inj hz'
        rw [eqv_lD]
        exact decide_eq_false fun c => hd m j hm hj (c.trans ej.symm)
      refine ⟨.ref D, rfl, .int (j : Nat), rfl, (j : Nat), rfl, D, _, rfl, .of hD2, fun s0 ns0 => ?_⟩
      have c1 : cutV (nV (seg (dG (isIn bs) T) 0 n)) none (some (j : Int)) = nV (seg (dG (isIn bs) T) 0 j) := by rw [cut_to, nV_take, seg_take _ 0 (show j ≤ n by omega)]
      have c2 : cutV (nV (seg (dG (isIn bs) T) 0 n)) (some (j : Int)) none = nV (seg (dG (isIn bs) T) j (n - j)) := by
        rw [cut_from]
        unfold nV
        rw [← List.map_drop]
        have h := seg_drop (dG (isIn bs) T) 0 j (n - j)
        rw [show j + (n - j) = n by omega, Nat.zero_add] at h
        rw [h]
      rw [c1]
      have e3 := same_new (o := .lst (nV (seg (dG (isIn bs) T) 0 j))) ns0
      have hs3 := upd_same (H := H2') (a := s0) (o := .lst (nV (seg (dG (isIn bs) T) 0 j)))
      generalize L2.upd H2' s0 (.lst (nV (seg (dG (isIn bs) T) 0 j))) = H3' at e3 hs3 ⊢
      refine ⟨.ref D, rfl, .int (j : Nat), rfl, (j : Nat), rfl, D, _, rfl, .of (e3 _ _ hD2), fun g0 ng0 => ?_⟩
      rw [c2]
      have e4 := same_new (o := .lst (nV (seg (dG (isIn bs) T) j (n - j)))) ng0
      have hg4 := upd_same (H := H3') (a := g0) (o := .lst (nV (seg (dG (isIn bs) T) j (n - j))))
      have hs4 := e4 _ _ hs3
      generalize L2.upd H3' g0 (.lst (nV (seg (dG (isIn bs) T) j (n - j)))) = H4' at e4 hg4 hs4 ⊢
      refine ⟨by show 2 ≤ sizeLine; omega, fun t nt => ?_⟩
      have e5 := same_new (o := .tup [V.ref s0, .ref g0]) nt
      refine q _ t s0 g0 j (n - j) (((e12.trans e3).trans e4).trans e5) upd_same (e5 _ _ hs4) (e5 _ _ hg4) (by omega) (fun i hi => ?_) (by omega) (by omega)
      have h1 : runG (isIn bs) (T + 1) (j + (n - j)) = runG (isIn bs) (T + 1) j := by rw [show j + (n - j) = n by omega]; exact ej.symm
      have h2 := run_mul h1 1 (i - j)
      rw [show j + (i - j) + 1 * (n - j) = i + (n - j) by omega, show j + (i - j) = i by omega] at h2
      rw [← d_at, ← d_at]
      unfold dG
      rw [h2]
    · have hany : (((List.range n).map (runG (isIn bs) (T + 1))).map lD).any (fun z => PyData.eqv z (lD (runG (isIn bs) (T + 1) n))) = false := by
        rw [List.any_eq_false]
        intro z hz
        obtain ⟨x, hx, rfl⟩ := List.mem_map.mp hz
        obtain ⟨m, hm, rfl⟩ := List.mem_map.mp hx
        rw [eqv_lD, decide_eq_true_eq]
        exact hj m (List.mem_range.mp hm)
      rw [hany]
      refine iteF ?_
      have hd1 := hd.add hj
      have n6 := hd1.few T9
      have lus : us.length = n := by
        have := Paired.length hW1
        rw [List.length_map, List.length_range] at this
        exact this
      refine ⟨.ref E, rfl, .inl ⟨rfl, _, .of hE2⟩, .ref W, rfl, E, _, _, rfl, rfl, hE2, by rw [lus]; omega, ?_⟩
      have e23 : Same H (L2.upd H2' E (.lst (us ++ [.ref W]))) := fun b o c => by
        rw [upd_ne (ne_of_none c nEH)]
        exact e12 _ _ c
      have hE3 := upd_same (H := H2') (a := E) (o := .lst (us ++ [V.ref W]))
      have hS3 : (L2.upd H2' E (.lst (us ++ [.ref W]))) S = some (.lst (stV (nowG (isIn bs) n) (lastG (isIn bs) n))) := by rw [upd_ne nSE1]; exact hS2
      have hD3 : (L2.upd H2' E (.lst (us ++ [.ref W]))) D = some (.lst (nV (seg (dG (isIn bs) T) 0 n))) := by rw [upd_ne nED.symm]; exact hD2
      have hW3 : Wins D E (L2.upd H2' E (.lst (us ++ [.ref W]))) (us ++ [.ref W]) ((List.range (n + 1)).map (runG (isIn bs) (T + 1))) := by
        rw [List.range_succ, List.map_append]
        exact (hWs2.keep fun a o _ c1 z => by rw [upd_ne c1]; exact z).add nWD nWE (by rw [upd_ne nWE]; exact hW2)
      generalize L2.upd H2' E (.lst (us ++ [.ref W])) = H3 at e23 hE3 hS3 hD3 hW3 ⊢
      refine ⟨.int (nowG (isIn bs) n : Nat), rfl, _, _, rfl, rfl, ?_⟩
      refine ⟨fun m σ H' => ∃ (e : Nat) (v7 : Option V), σ = [some (.ref l), some (.int (T : Nat)), some (.ref S), some (.ref E), some (.ref D), some (.int (nowG (isIn bs) n : Nat)), some (.ref W), v7, v8, some (.int ((nowG (isIn bs) n : Int) + (e : Nat)))] ∧
        Same H3 H' ∧ 1 ≤ e ∧ (∀ d, 1 ≤ d → d < e → hitG (isIn bs) (lastG (isIn bs) n) d = true) ∧ m = 10 - e, ⟨_, 1, _, rfl, fun _ _ z => z, Nat.le_refl _, fun d h1 h2 => absurd h1 (by omega), rfl⟩, ?_⟩
      rintro m σ H4 ⟨e, v7, rfl, e4, h1, h2, rfl⟩
      refine ⟨.ref S, rfl, S, rfl, ⟨_, .of (e4 _ _ hS3)⟩, fun G nG => ?_⟩
      refine lc_list (K := K) (a := S) (xs := stV (nowG (isIn bs) n) (lastG (isIn bs) n)) (fun i H' => Same H4 H' ∧ H' G = some (.lst (stV (nowG (isIn bs) n) (((lastG (isIn bs) n).take i).filter fun a => isIn bs (a + e))))) ⟨same_new nG, upd_same⟩
        (fun i H' _ h => .of (h.1 _ _ (e4 _ _ hS3))) (fun i y H' hy h => ?_) (fun H5 h => ?_)
      · rw [List.getElem?_map] at hy
        obtain ⟨a, ha, rfl⟩ := Option.map_eq_some_iff.mp hy
        have hi := (List.getElem?_eq_some_iff.mp ha).1
        have htk : (lastG (isIn bs) n).take (i + 1) = (lastG (isIn bs) n).take i ++ [a] := by rw [List.take_add_one, ha]; rfl
        refine ⟨rfl, .int ((nowG (isIn bs) n : Int) + (e : Nat)), rfl, .int ((nowG (isIn bs) n : Int) - (a : Nat)), rfl, _, _, rfl, rfl, .ref l, rfl, l, _, rfl, .inl (.of (h.1 _ _ (e4 _ _ (e23 _ _ hl)))), rfl, flat_iV _, ?_⟩
        have hv := inV_mem mem (a + e)
        rw [show ((a + e : Nat) : Int) = ((nowG (isIn bs) n : Int) + (e : Nat)) - ((nowG (isIn bs) n : Int) - (a : Nat)) by omega] at hv
        dsimp only
        rw [if_neg Bool.false_ne_true, hv]
        refine ⟨_, rfl, ite2 (fun c => ?_) (fun c => ?_)⟩
        · refine ⟨.int ((nowG (isIn bs) n : Int) - (a : Nat)), rfl, _, h.2, ?_, fun b o z => ?_, ?_⟩
          · rw [List.length_map]
            refine Nat.lt_of_le_of_lt (List.length_filter_le _ _) ?_
            rw [List.length_take]
            omega
          · rw [upd_ne (ne_of_none z nG)]
            exact h.1 _ _ z
          · rw [upd_same, htk, List.filter_append, show [a].filter (fun a => isIn bs (a + e)) = [a] from List.filter_cons_of_pos c, stV_snoc]
        · refine ⟨h.1, ?_⟩
          rw [htk, List.filter_append, show [a].filter (fun a => isIn bs (a + e)) = [] from List.filter_cons_of_neg c, List.append_nil]
          exact h.2
      · rw [List.length_map, List.take_length] at h
        obtain ⟨e5, hG5⟩ := h
        refine ⟨by show 0 ≤ sizeLine; omega, fun N nN => ?_⟩
        have e6 := same_new (o := .lst []) nN
        have hN6 := upd_same (H := H5) (a := N) (o := .lst [])
        have hG6 := e6 _ _ hG5
        have e46 := (e4.trans e5).trans e6
        generalize L2.upd H5 N (.lst []) = H6' at e6 hN6 hG6 e46 ⊢
        have dG6 : Dp K H6' (.ref G) (.list (iD (((lastG (isIn bs) n).filter fun a => isIn bs (a + e)).map fun a : Nat => (nowG (isIn bs) n : Int) - (a : Nat)))) := by
          refine .lst (.of hG6) ?_
          have := dp_ints K H6' (((lastG (isIn bs) n).filter fun a => isIn bs (a + e)).map fun a : Nat => (nowG (isIn bs) n : Int) - (a : Nat))
          rw [List.map_map] at this
          exact this
        refine ⟨_, .list (iD []), dG6, .lst (.of hN6) .nil, shaped_iL _, shaped_iL _, ?_⟩
        rw [PyData.eqv, eqv_ints]
        have hhit : (!decide ((((lastG (isIn bs) n).filter fun a => isIn bs (a + e)).map fun a : Nat => (nowG (isIn bs) n : Int) - (a : Nat)) = [])) = hitG (isIn bs) (lastG (isIn bs) n) e := by
          rw [Bool.eq_iff_iff]
          unfold hitG
          rw [Bool.not_eq_true', decide_eq_false_iff_not, List.map_eq_nil_iff, List.filter_eq_nil_iff, List.any_eq_true]
          constructor
          · intro c
            exact Classical.byContradiction fun z => c fun a ha hb => z ⟨a, ha, hb⟩
          · rintro ⟨a, ha, hb⟩ c
            exact c a ha hb
        rw [hhit]
        refine ⟨_, rfl, ite2 (fun c => ?_) (fun c => ?_)⟩
        · have t8 : e ≤ 8 := by
            rcases Nat.lt_or_ge e 9 with z | z
            · omega
            · rw [hit_far hb z] at c; cases c
          refine ⟨fun σ' H'' => ∃ v7, σ' = [some (.ref l), some (.int (T : Nat)), some (.ref S), some (.ref E), some (.ref D), some (.int (nowG (isIn bs) n : Nat)), some (.ref W), v7, v8, some (.int ((nowG (isIn bs) n : Int) + (e : Nat) + 1))] ∧ Same H3 H'',
            fun σ' H'' ⟨v7, z1, z2⟩ => ⟨_, by omega, e + 1, v7, by rw [z1]; rfl, z2, by omega, fun d d1 d2 => ?_, rfl⟩, ?_⟩
          · by_cases z : d < e
            · exact h2 d d1 z
            · rw [show d = e by omega]; exact c
          · exact ⟨.int ((nowG (isIn bs) n : Int) + (e : Nat)), rfl, _, _, rfl, rfl, _, rfl, e46⟩
        · have he : e = nextG (isIn bs) (lastG (isIn bs) n) := nextG_uniq hb h1 (Bool.eq_false_iff.mpr c) h2
          have hdn : e = dG (isIn bs) T n := by rw [he, en, d_at]
          have hD6 := e46 _ _ hD3
          refine ⟨.ref D, rfl, .inl ⟨rfl, _, .of hD6⟩, .int ((nowG (isIn bs) n : Int) + (e : Nat)), rfl, .int (nowG (isIn bs) n : Nat), rfl, _, _, rfl, rfl, D, _, _, rfl, rfl, hD6, by rw [lseg]; omega, ?_⟩
          rw [show nV (seg (dG (isIn bs) T) 0 n) ++ [(fun i j : Int => V.int (i - j)) ((nowG (isIn bs) n : Int) + (e : Nat)) (nowG (isIn bs) n : Nat)] = nV (seg (dG (isIn bs) T) 0 (n + 1)) by
            unfold nV
            rw [seg_succ, List.map_append, Nat.zero_add, ← hdn]
            show _ ++ [V.int ((nowG (isIn bs) n : Int) + (e : Nat) - (nowG (isIn bs) n : Nat))] = _ ++ [V.int (e : Nat)]
            rw [show (nowG (isIn bs) n : Int) + (e : Nat) - (nowG (isIn bs) n : Nat) = (e : Nat) by omega]]
          have e7 : Same H (L2.upd H6' D (.lst (nV (seg (dG (isIn bs) T) 0 (n + 1))))) := fun b o z => by
            rw [upd_ne (ne_of_none z nDH)]
            exact e46 _ _ (e23 _ _ z)
          have hD7 := upd_same (H := H6') (a := D) (o := .lst (nV (seg (dG (isIn bs) T) 0 (n + 1))))
          have hS7 : (L2.upd H6' D (.lst (nV (seg (dG (isIn bs) T) 0 (n + 1))))) S = some (.lst (stV (nowG (isIn bs) n) (lastG (isIn bs) n))) := by rw [upd_ne nSD1]; exact e46 _ _ hS3
          have hE7 : (L2.upd H6' D (.lst (nV (seg (dG (isIn bs) T) 0 (n + 1))))) E = some (.lst (us ++ [.ref W])) := by rw [upd_ne nED]; exact e46 _ _ hE3
          have hW7 := hW3.keep (H' := L2.upd H6' D (.lst (nV (seg (dG (isIn bs) T) 0 (n + 1))))) fun a o c0 _ z => by rw [upd_ne c0]; exact e46 _ _ z
          generalize L2.upd H6' D (.lst (nV (seg (dG (isIn bs) T) 0 (n + 1)))) = H7 at e7 hD7 hS7 hE7 hW7 ⊢
          refine ⟨.ref S, rfl, 9, rfl, -9, rfl, S, _, rfl, .of hS7, fun p1 np1 => ?_⟩
          have hp8 := upd_same (H := H7) (a := p1) (o := .lst (cutV (stV (nowG (isIn bs) n) (lastG (isIn bs) n)) (some (-9)) none))
          have e8 := same_new (o := .lst (cutV (stV (nowG (isIn bs) n) (lastG (isIn bs) n)) (some (-9)) none)) np1
          generalize L2.upd H7 p1 (.lst (cutV (stV (nowG (isIn bs) n) (lastG (isIn bs) n)) (some (-9)) none)) = H8 at hp8 e8 ⊢
          refine ⟨.int ((nowG (isIn bs) n : Int) + (e : Nat)), rfl, by show 1 ≤ sizeLine; omega, fun p2 np2 => ?_⟩
          have hp9 := upd_same (H := H8) (a := p2) (o := .lst [V.int ((nowG (isIn bs) n : Int) + (e : Nat))])
          have e9 := same_new (o := .lst [V.int ((nowG (isIn bs) n : Int) + (e : Nat))]) np2
          generalize L2.upd H8 p2 (.lst [V.int ((nowG (isIn bs) n : Int) + (e : Nat))]) = H9 at hp9 e9 ⊢
          have lst0 : (stV (nowG (isIn bs) n) (lastG (isIn bs) n)).length = (lastG (isIn bs) n).length := List.length_map _
          refine ⟨p1, p2, _, _, rfl, rfl, e9 _ _ hp8, hp9, ?_, fun S2 nS2 => ?_⟩
          · have := cutV_length (stV (nowG (isIn bs) n) (lastG (isIn bs) n)) (some (-9)) none
            show _ + 1 ≤ sizeLine
            omega
          have hS10 := upd_same (H := H9) (a := S2) (o := .lst (cutV (stV (nowG (isIn bs) n) (lastG (isIn bs) n)) (some (-9)) none ++ [V.int ((nowG (isIn bs) n : Int) + (e : Nat))]))
          have e10 := same_new (o := .lst (cutV (stV (nowG (isIn bs) n) (lastG (isIn bs) n)) (some (-9)) none ++ [V.int ((nowG (isIn bs) n : Int) + (e : Nat))])) nS2
          have hDn := e9 _ _ (e8 _ _ hD7)
          have hEn := e9 _ _ (e8 _ _ hE7)
          have nS2D : S2 ≠ D := (ne_of_none hDn nS2).symm
          have nS2E : S2 ≠ E := (ne_of_none hEn nS2).symm
          refine ⟨S2, _, _, _, _, _, _, rfl, ((e7.trans e8).trans e9).trans e10, ?_, nS2D, nS2E, e10 _ _ hDn, e10 _ _ hEn, hW7.keep fun a o _ _ z => e10 _ _ (e9 _ _ (e8 _ _ z)), hd1⟩
          rw [hS10, stV_next, cut_back, lst0, he]
end
end Sg

set_option Elab.async false
set_option linter.all false
set_option maxRecDepth 100000
set_option maxHeartbeats 4000000
namespace Sg
open PySem PySem.Spec PyProof.Rows L2 StX
/-! ## the distances come again -/
theorem exists_Per {b : Nat → Bool} {F : Nat} (h : Barred b F) : ∃ k p, Per (dG b F) k p := by
  have T9 : F ≤ 9 := by have := h.1; omega
  have key : ∀ n, Dist b F n ∨ ∃ k p, Per (dG b F) k p := by
    intro n
    induction n with
    | zero => exact .inl fun i j _ h => absurd h (by omega)
    | succ n ih =>
      rcases ih with hd | hp
      · by_cases c : ∃ k, k < n ∧ runG b F k = runG b F n
        · obtain ⟨k, hk, e⟩ := c
          exact .inr ⟨k, n - k, run_Per T9 hk e.symm hd⟩
        · exact .inl (hd.add fun k hk e => c ⟨k, hk, e⟩)
      · exact .inr hp
  rcases key 513 with hd | hp
  · have := hd.few T9; omega
  · exact hp
theorem rep_nV (n : Nat) (x : List Nat) : (List.replicate n (nV x)).flatten = nV (List.replicate n x).flatten := by
  induction n with
  | zero => rfl
  | succ n ih =>
    rw [List.replicate_succ, List.replicate_succ, List.flatten_cons, List.flatten_cons, ih]
    unfold nV
    rw [List.map_append]
theorem cut_tail (xs : List V) : cutV xs (some (-1)) none = xs.drop (xs.length - 1) := by
  unfold cutV
  rw [HT.sIx_none]
  have e : HT.sIx xs.length 0 (some (-1)) = xs.length - 1 := by
    show (if (-1 : Int) < 0 then ((-1 : Int) + (xs.length : Nat)).toNat else min (-1 : Int).toNat xs.length) = _
    rw [if_pos (by decide)]
    omega
  rw [e, List.take_of_length_le (by rw [List.length_drop]; exact Nat.le_refl _)]
theorem seg_tail (d : Nat → Nat) (k p : Nat) (h : 1 ≤ p) : (seg d k p).drop (p - 1) = [d (k + (p - 1))] := by
  have e := seg_drop d k (p - 1) 1
  rw [show p - 1 + 1 = p by omega] at e
  rw [e]; rfl
theorem again_len (l : List Nat) (m : Nat) : (again l m).length ≤ l.length := by
  unfold again
  rw [flat_len, List.length_take]
  refine Nat.le_trans (Nat.mul_le_mul_left _ (Nat.min_le_left _ _)) (Nat.div_mul_le_self _ _)
section
variable {P : Program} {w : World} {K : PySem.W.Frag} {mg : Str → Option Value} {base : Heap}
/-! ### _law_greedy -/
def spLGreedy (K : PySem.W.Frag) : Sp := fun vs H Q _ => ∃ (l : Addr) (ns : List Int) (bs : List Nat) (F : Nat), vs = [.ref l] ∧ H l = some (.lst (ns.map V.int)) ∧ (∀ k, k ∈ ns ↔ ∃ d ∈ bs, k = ((d : Nat) : Int)) ∧ ns.length ≤ 1000 ∧ Barred (isIn bs) F ∧ Tops bs F ∧
  ∀ H' t a g n p, Same H H' → H' t = some (.tup [.ref a, .ref g]) → H' a = some (.tup (nV (seg (dG (isIn bs) F) 0 n))) → H' g = some (.tup (nV (seg (dG (isIn bs) F) n p))) → Canon (dG (isIn bs) F) n p → n ≤ 600 → p ≤ 600 → Q (.ref t) H'
theorem ok_lgreedy {f f1 : Addr} {fd fd1 : FuncData} {k : Nat} (F : Fun K "_law_greedy" "_law_greedy" s_l_greedy f fd)
    (G1 : FnOk P w K mg base CX0 k f1 fd1 ["_law_spans"] (spWalk K)) (kp1 : PySem.W.keepIn K (.ref f1) = true) (b1 : Binds K fd1 ["_law_spans"] []) (g1 : mg "_law_walk" = some (.ref f1))
    (m1 : mg "len" = none) (m2 : mg "tuple" = none) : FnOk P w K mg base CX0 (k + 1) f fd ["_law_spans"] (spLGreedy K) := by
  refine F.ok sc_l_greedy (fun vs H Q E h => ?_) (fun cdv A outer s H vs Q E hr h => ?_)
  · obtain ⟨l, ns, bs, T, rfl, _⟩ := h; rfl
  · obtain ⟨l, ns, bs, T, rfl, hl, mem, lns, hb, ht, q⟩ := h
    have hu := hr.units
    refine ⟨_, pss_cons (ps_asg (pe_call G1 hr (by rfl) g1 kp1 b1 .nil pass0 (pa_cons (pv 0) pa_nil)) (pg_tup rfl (pgs_cons (pg_name (i := 1) sc_l_greedy.nd rfl (.inl rfl)) (pgs_cons (pg_name (i := 2) sc_l_greedy.nd rfl (.inl rfl)) pgs_nil))))
      (pss_cons (ps_set (i := 3) sc_l_greedy.nd rfl (.inl rfl) pe_int)
      (pss_cons (ps_while PassesOwn.never (pt_cmpR (op_neD hu) (pv 2) (pe_op op_rep (pe_slice sl_list (pv 2) po_none (po_some (pv 3))) (pe_op op_fdiv (pe_callB call_len_seq (by rfl) m1 PySem.boot_len (pa_cons (pv 2) pa_nil)) (pv 3))) (nomark _))
        (pss_one (ps_set (i := 3) sc_l_greedy.nd rfl (.inl rfl) (pe_op op_add (pv 3) pe_int))))
      (pss_cons (ps_set (i := 2) sc_l_greedy.nd rfl (.inl rfl) (pe_slice sl_list (pv 2) po_none (po_some (pv 3))))
      (pss_cons (ps_while PassesOwn.never (PW.pt (pw_and (pt_cmpR (op_neD hu) (pv 1) (pe_lst pa_nil) (nomark _)) (pw_and1 (pt_cmpR op_eq (pe_ix ix_list (pv 1) (pe_un un_neg pe_int) (fun _ _ => rfl)) (pe_ix ix_list (pv 2) (pe_un un_neg pe_int) (fun _ _ => rfl)) (nomark _)))))
        (pss_one (ps_par (i := 1) (j := 2) (by rfl) sc_l_greedy.nd rfl rfl (by decide) rfl rfl (pa_cons (pe_slice sl_list (pv 1) po_none (po_some (pe_un un_neg pe_int)))
          (pa_cons (pe_op op_cat (pe_slice sl_list (pv 2) (po_some (pe_un un_neg pe_int)) po_none) (pe_slice sl_list (pv 2) po_none (po_some (pe_un un_neg pe_int)))) pa_nil)) (by rfl))))
      (pss_one (ps_ret (pe_tup (pa_cons (pe_callTy call_tuple_of (by rfl) m2 (by decide +kernel) (pa_cons (pv 1) pa_nil)) (pa_cons (pe_callTy call_tuple_of (by rfl) m2 (by decide +kernel) (pa_cons (pv 2) pa_nil)) pa_nil))))))))), ?_⟩
    have big : 4000 ≤ sizeLine := by rw [sizeLine_eq]; decide
    refine ⟨.ref l, rfl, l, ns, bs, T, rfl, hl, mem, lns, hb, ht, fun H1 t0 s0 g0 j p e1 ht0 hs0 hg0 p1 per j6 p6 => ?_⟩
    refine ⟨t0, _, rfl, .of ht0, rfl, _, _, rfl, _, _, rfl, rfl, ?_⟩
    have lp : (nV (seg (dG (isIn bs) T) j p)).length = p := by rw [nV_len, seg_len]
    have lp' : (seg (dG (isIn bs) T) j p).length = p := seg_len _ _ _
    refine ⟨fun m σ H' => ∃ e : Nat, σ = [some (.ref l), some (.ref s0), some (.ref g0), some (.int (e : Nat))] ∧ Same H1 H' ∧ 1 ≤ e ∧ e ≤ p ∧ (∀ c, 1 ≤ c → c < e → seg (dG (isIn bs) T) j p ≠ again (seg (dG (isIn bs) T) j p) c) ∧ m = 700 - e,
      ⟨_, 1, rfl, fun _ _ z => z, Nat.le_refl _, p1, fun c h1 h2 => absurd h1 (by omega), rfl⟩, ?_⟩
    rintro m σ H2 ⟨e, rfl, e2, h1, h1p, h2, rfl⟩
    refine ⟨.ref g0, rfl, .ref g0, rfl, .int (e : Nat), rfl, (e : Nat), rfl, g0, _, rfl, .of (e2 _ _ hg0), fun a1 na1 => ?_⟩
    have c1 : cutV (nV (seg (dG (isIn bs) T) j p)) none (some (e : Int)) = nV ((seg (dG (isIn bs) T) j p).take e) := by rw [cut_to, nV_take]
    rw [c1]
    have e3 := same_new (o := .lst (nV ((seg (dG (isIn bs) T) j p).take e))) na1
    have ha3 := upd_same (H := H2) (a := a1) (o := .lst (nV ((seg (dG (isIn bs) T) j p).take e)))
    generalize L2.upd H2 a1 (.lst (nV ((seg (dG (isIn bs) T) j p).take e))) = H3 at e3 ha3 ⊢
    refine ⟨.ref g0, rfl, g0, _, rfl, .inl (.of (e3 _ _ (e2 _ _ hg0))), .int (e : Nat), rfl, _, _, rfl, rfl, ⟨by omega, by omega⟩, ?_⟩
    rw [lp]
    have hk : ((p : Int) / (e : Int)) = ((p / e : Nat) : Int) := rfl
    refine ⟨a1, _, _, rfl, rfl, ha3, ?_, ?_, ?_, fun a2 na2 => ?_⟩
    · rw [hk]; exact Int.le_trans (by decide) (Int.natCast_nonneg _)
    · rw [hk]; have := Nat.div_le_self p e; omega
    · rw [hk, Int.toNat_natCast, nV_len, List.length_take, lp', Nat.min_eq_left h1p, Nat.mul_comm]
      have := Nat.div_mul_le_self p e
      omega
    rw [hk, Int.toNat_natCast, show (List.replicate (p / e) (nV ((seg (dG (isIn bs) T) j p).take e))).flatten = nV (again (seg (dG (isIn bs) T) j p) e) by
      unfold again
      rw [rep_nV, lp']]
    have e4 := same_new (o := .lst (nV (again (seg (dG (isIn bs) T) j p) e))) na2
    have ha4 := upd_same (H := H3) (a := a2) (o := .lst (nV (again (seg (dG (isIn bs) T) j p) e)))
    have e24 := (e2.trans e3).trans e4
    generalize L2.upd H3 a2 (.lst (nV (again (seg (dG (isIn bs) T) j p) e))) = H4 at e4 ha4 e24 ⊢
    refine ⟨_, _, dp_lD (e24 _ _ hg0), dp_lD ha4, shaped_lD _, shaped_lD _, ?_⟩
    rw [eqv_lD]
    refine ⟨_, rfl, ite2 (fun c => ?_) (fun c => ?_)⟩
    · have hne : seg (dG (isIn bs) T) j p ≠ again (seg (dG (isIn bs) T) j p) e := fun z => by rw [decide_eq_true z] at c; cases c
      have hlt : e < p := by
        by_cases z : e = p
        · exact absurd (by have := again_self (l := seg (dG (isIn bs) T) j p) (by rw [lp']; exact p1); rw [lp'] at this; rw [z]; exact this) hne
        · omega
      refine ⟨fun σ' H' => σ' = [some (.ref l), some (.ref s0), some (.ref g0), some (.int ((e + 1 : Nat) : Int))] ∧ Same H1 H', fun σ' H' ⟨z1, z2⟩ => ⟨_, by omega, e + 1, z1, z2, by omega, by omega, fun u u1 u2 => ?_, rfl⟩, ?_⟩
      · by_cases z : u < e
        · exact h2 u u1 z
        · rw [show u = e by omega]; exact hne
      · exact ⟨.int (e : Nat), rfl, _, _, rfl, rfl, rfl, e24⟩
    have heq : seg (dG (isIn bs) T) j p = again (seg (dG (isIn bs) T) j p) e := Classical.byContradiction fun z => c (by rw [decide_eq_false z]; rfl)
    obtain ⟨k0, p0, hk0⟩ := exists_Per hb
    obtain ⟨hper, hle⟩ := fewest hk0 p1 per h1 heq h2
    refine ⟨.ref g0, rfl, .int (e : Nat), rfl, (e : Nat), rfl, g0, _, rfl, .of (e24 _ _ hg0), fun g5 ng5 => ?_⟩
    rw [c1, seg_take _ j h1p]
    have e5 := same_new (o := .lst (nV (seg (dG (isIn bs) T) j e))) ng5
    have hg5 := upd_same (H := H4) (a := g5) (o := .lst (nV (seg (dG (isIn bs) T) j e)))
    generalize L2.upd H4 g5 (.lst (nV (seg (dG (isIn bs) T) j e))) = H5 at e5 hg5 ⊢
    have e15 := (e1.trans e24).trans e5
    have hs5 := e5 _ _ (e24 _ _ hs0)
    clear c1
    refine ⟨fun m σ H' => ∃ a g, σ = [some (.ref l), some (.ref a), some (.ref g), some (.int (e : Nat))] ∧ Same H H' ∧ H' a = some (.lst (nV (seg (dG (isIn bs) T) 0 m))) ∧ H' g = some (.lst (nV (seg (dG (isIn bs) T) m e))) ∧ Per (dG (isIn bs) T) m e ∧ m ≤ j, ⟨j, s0, g5, rfl, e15, hs5, hg5, hper, Nat.le_refl _⟩, ?_⟩
    rintro m σ H6 ⟨a, g, rfl, e6, ha, hg, hm, mj⟩
    have lm : (nV (seg (dG (isIn bs) T) 0 m)).length = m := by rw [nV_len, seg_len]
    have le : (nV (seg (dG (isIn bs) T) m e)).length = e := by rw [nV_len, seg_len]
    have h1e := hm.pos
    refine ⟨.ref a, rfl, by show 0 ≤ sizeLine; omega, fun N nN => ?_⟩
    have e7 := same_new (o := .lst []) nN
    have hN7 := upd_same (H := H6) (a := N) (o := .lst [])
    have ha7 := e7 _ _ ha
    have hg7 := e7 _ _ hg
    have e17 := e6.trans e7
    generalize L2.upd H6 N (.lst []) = H7 at hN7 ha7 hg7 e17 ⊢
    -- what is returned
    have fin : Canon (dG (isIn bs) T) m e → ∀ l1, H7 l1 = none → ∀ l2, (L2.upd H7 l1 (.tup (nV (seg (dG (isIn bs) T) 0 m)))) l2 = none → ∀ t, (L2.upd (L2.upd H7 l1 (.tup (nV (seg (dG (isIn bs) T) 0 m)))) l2 (.tup (nV (seg (dG (isIn bs) T) m e)))) t = none →
        Q (.ref t) (L2.upd (L2.upd (L2.upd H7 l1 (.tup (nV (seg (dG (isIn bs) T) 0 m)))) l2 (.tup (nV (seg (dG (isIn bs) T) m e)))) t (.tup [.ref l1, .ref l2])) := by
      intro hc l1 nl1 l2 nl2 t nt
      have s1 := same_new (o := .tup (nV (seg (dG (isIn bs) T) 0 m))) nl1
      have s2 := same_new (o := .tup (nV (seg (dG (isIn bs) T) m e))) nl2
      have s3 := same_new (o := .tup [V.ref l1, .ref l2]) nt
      exact q _ t l1 l2 m e (((e17.trans s1).trans s2).trans s3) upd_same (s3 _ _ (s2 _ _ upd_same)) (s3 _ _ upd_same) hc (by omega) (by omega)
    refine ⟨lD (seg (dG (isIn bs) T) 0 m), lD [], dp_lD ha7, dp_lD hN7, shaped_lD _, shaped_lD _, ?_⟩
    rw [eqv_lD]
    by_cases m0 : m = 0
    · rw [decide_eq_true (show seg (dG (isIn bs) T) 0 m = [] by rw [m0]; rfl)]
      refine ⟨_, rfl, iteF (iteF ?_)⟩
      exact ⟨.ref a, rfl, a, _, rfl, .inl ⟨.of ha7, fun l1 nl1 => ⟨.ref g, rfl, g, _, rfl, .inl ⟨.of (same_new nl1 _ _ hg7), fun l2 nl2 => ⟨by show 2 ≤ sizeLine; omega, fun t nt => fin ⟨hm, .inl m0⟩ l1 nl1 l2 nl2 t nt⟩⟩⟩⟩⟩
    · rw [decide_eq_false (show ¬ seg (dG (isIn bs) T) 0 m = [] from fun z => m0 (by have := congrArg List.length z; rw [seg_len] at this; exact this))]
      have ea := nV_end (seg_end (dG (isIn bs) T) 0 m (by omega))
      have eg := nV_end (seg_end (dG (isIn bs) T) m e h1e)
      rw [Nat.zero_add] at ea
      rw [show m + (e - 1) = m - 1 + e by omega] at eg
      refine ⟨_, rfl, iteT ⟨.ref a, rfl, 1, rfl, a, _, -1, _, rfl, rfl, .of ha7, ea, .ref g, rfl, 1, rfl, g, _, -1, _, rfl, rfl, .of hg7, eg, rfl, _, rfl, ite2 (fun c => ?_) (fun c => ?_)⟩⟩
      · have e' : dG (isIn bs) T (m - 1 + e) = dG (isIn bs) T (m - 1) := by
          have := V.int.inj (of_decide_eq_true c)
          omega
        have hc := hm.rot e'
        refine ⟨fun σ' H' => ∃ a g, σ' = [some (.ref l), some (.ref a), some (.ref g), some (.int (e : Nat))] ∧ Same H H' ∧ H' a = some (.lst (nV (seg (dG (isIn bs) T) 0 (m - 1)))) ∧ H' g = some (.lst (nV (seg (dG (isIn bs) T) (m - 1) e))),
          fun σ' H' ⟨a, g, z1, z2, z3, z4⟩ => ⟨m - 1, by omega, a, g, z1, z2, z3, z4, hc, by omega⟩, ?_⟩
        refine ⟨.ref a, rfl, 1, rfl, -1, rfl, a, _, rfl, .of ha7, fun a8 na8 => ?_⟩
        rw [show cutV (nV (seg (dG (isIn bs) T) 0 m)) none (some (-1)) = nV (seg (dG (isIn bs) T) 0 (m - 1)) by rw [cut_last, lm, nV_take, seg_take _ 0 (by omega)]]
        have s8 := same_new (o := .lst (nV (seg (dG (isIn bs) T) 0 (m - 1)))) na8
        have ha8 := upd_same (H := H7) (a := a8) (o := .lst (nV (seg (dG (isIn bs) T) 0 (m - 1))))
        have hg8 := s8 _ _ hg7
        generalize L2.upd H7 a8 (.lst (nV (seg (dG (isIn bs) T) 0 (m - 1)))) = H8 at s8 ha8 hg8 ⊢
        refine ⟨.ref g, rfl, 1, rfl, -1, rfl, g, _, rfl, .of hg8, fun g9 ng9 => ?_⟩
        rw [show cutV (nV (seg (dG (isIn bs) T) m e)) (some (-1)) none = [V.int (dG (isIn bs) T (m - 1 + e) : Nat)] by
          rw [cut_tail, le]
          unfold nV
          rw [← List.map_drop, seg_tail _ m e h1e, show m + (e - 1) = m - 1 + e by omega]; rfl]
        have s9 := same_new (o := .lst [V.int (dG (isIn bs) T (m - 1 + e) : Nat)]) ng9
        have hg9 := upd_same (H := H8) (a := g9) (o := .lst [V.int (dG (isIn bs) T (m - 1 + e) : Nat)])
        have hgb := s9 _ _ hg8
        have ha9 := s9 _ _ ha8
        generalize L2.upd H8 g9 (.lst [V.int (dG (isIn bs) T (m - 1 + e) : Nat)]) = H9 at s9 hg9 hgb ha9 ⊢
        refine ⟨.ref g, rfl, 1, rfl, -1, rfl, g, _, rfl, .of hgb, fun gx ngx => ?_⟩
        rw [show cutV (nV (seg (dG (isIn bs) T) m e)) none (some (-1)) = nV (seg (dG (isIn bs) T) m (e - 1)) by rw [cut_last, le, nV_take, seg_take _ m (by omega)]]
        have sx := same_new (o := .lst (nV (seg (dG (isIn bs) T) m (e - 1)))) ngx
        have hgx := upd_same (H := H9) (a := gx) (o := .lst (nV (seg (dG (isIn bs) T) m (e - 1))))
        have hgy := sx _ _ hg9
        have hax := sx _ _ ha9
        generalize L2.upd H9 gx (.lst (nV (seg (dG (isIn bs) T) m (e - 1)))) = H10 at sx hgx hgy hax ⊢
        refine ⟨g9, gx, _, _, rfl, rfl, hgy, hgx, ?_, fun gz ngz => ?_⟩
        · rw [nV_len, seg_len]
          show 1 + (e - 1) ≤ sizeLine
          omega
        rw [show [V.int (dG (isIn bs) T (m - 1 + e) : Nat)] ++ nV (seg (dG (isIn bs) T) m (e - 1)) = nV (seg (dG (isIn bs) T) (m - 1) e) by rw [← seg_rot (by omega) h1e e']; rfl]
        have sz := same_new (o := .lst (nV (seg (dG (isIn bs) T) (m - 1) e))) ngz
        exact ⟨_, _, rfl, a8, gz, rfl, (((e17.trans s8).trans s9).trans sx).trans sz, sz _ _ hax, upd_same⟩
      · refine ⟨.ref a, rfl, a, _, rfl, .inl ⟨.of ha7, fun l1 nl1 => ⟨.ref g, rfl, g, _, rfl, .inl ⟨.of (same_new nl1 _ _ hg7), fun l2 nl2 => ⟨by show 2 ≤ sizeLine; omega, fun t nt => fin ⟨hm, .inr fun z => c (decide_eq_true ?_)⟩ l1 nl1 l2 nl2 t nt⟩⟩⟩⟩⟩
        rw [z]
end
end Sg

set_option Elab.async false
set_option linter.all false
set_option maxRecDepth 100000
set_option maxHeartbeats 4000000
namespace Sg
open PySem PySem.Spec PyProof.Rows L2 StX
/-! ## the two tuples as data -/
abbrev pD (d : Nat → Nat) (n p : Nat) : PyData := .tuple [tD (nI (seg d 0 n)), tD (nI (seg d n p))]
theorem pD_dp {K : PySem.W.Frag} {H : Hp} {t a g : Addr} {d : Nat → Nat} {n p : Nat} (ht : H t = some (.tup [.ref a, .ref g])) (ha : SqT K H a (nV (seg d 0 n))) (hg : SqT K H g (nV (seg d n p))) : Dp K H (.ref t) (pD d n p) := by
  rw [nV_eq] at ha hg
  exact .tup (.inl (.inl ht)) (.cons (.tup ha (dpInts _)) (.cons (.tup hg (dpInts _)) .nil))
theorem seg_small {b : Nat → Bool} {T k n m : Nat} (h : n ≤ 600) : Small (tD (nI (seg (dG b T) k n))) (m + 1) 600 :=
  Small.tuple ((SmallAll.ints _ fun x hx => by
    obtain ⟨y, hy, rfl⟩ := List.mem_map.mp hx
    obtain ⟨i, _, rfl⟩ := List.mem_map.mp hy
    have := nextG_ge (b := b) (x := runG b T (k + i))
    show -99999999999999 ≤ ((nextG b (runG b T (k + i)) : Nat) : Int) ∧ ((nextG b (runG b T (k + i)) : Nat) : Int) ≤ 99999999999999
    omega).mono (Nat.le_refl _) (by rw [List.length_map, seg_len]; exact h))
theorem pD_small {b : Nat → Bool} {T n p : Nat} (h1 : n ≤ 600) (h2 : p ≤ 600) : Small (pD (dG b T) n p) 2 2000 :=
  (Small.tuple (n := 1) (SmallAll.cons (seg_small (m := 0) h1) (SmallAll.cons (seg_small (m := 0) h2) (SmallAll.nil (b := 0))))).mono (Nat.le_refl _) (by decide)
/-! ## the works by hand -/
def handA : List Int := [0, 0, -1, -1, -1, -1, 0]
def handB : List Int := [9]
theorem handA_work : IsWork handA := ⟨by decide, by decide, by decide, fun x hx => by cases hx; decide, fun x hx => by cases hx; decide⟩
theorem handB_work : IsWork handB := ⟨by decide, by decide, by decide, fun x hx => by cases hx; decide, fun x hx => by cases hx; decide⟩
theorem handA_bars : ∀ d ∈ barsN handA handA, d ≤ 8 := by decide +kernel
theorem handB_bars : ∀ d ∈ barsN handB handB, d ≤ 8 := by decide +kernel
theorem handA_canon : Canon (dW handA) 0 3 := by
  refine ⟨run_Per (n := 3) (by decide +kernel) (by decide) (by decide +kernel) ?_, .inl rfl⟩
  have h : ∀ j, j < 3 → ∀ i, i < j → runG (isIn (barsN handA handA)) (topN (barsN handA handA)) i ≠ runG (isIn (barsN handA handA)) (topN (barsN handA handA)) j := by decide +kernel
  exact fun i j hij hj => h j hj i hij
theorem handB_canon : Canon (dW handB) 0 1 := by
  refine ⟨run_Per (n := 1) (by decide +kernel) (by decide) (by decide +kernel) fun i j hij hj => by omega, .inl rfl⟩
theorem handA_seg : seg (dW handA) 0 3 = [2, 2, 7] := by decide +kernel
theorem handB_seg : seg (dW handB) 0 1 = [1] := by decide +kernel
theorem eqv_pair (a b c d : List Int) : PyData.eqv (.tuple [tD a, tD b]) (.tuple [tD c, tD d]) = decide (a = c ∧ b = d) := by
  have h := eqv_tDs [a, b] [c, d]
  show PyData.eqv (.tuple (tDs [a, b])) (.tuple (tDs [c, d])) = _
  rw [PyData.eqv, h]
  by_cases e : a = c ∧ b = d
  · rw [decide_eq_true e, e.1, e.2, decide_eq_true rfl]
  · rw [decide_eq_false e, decide_eq_false]
    intro z
    obtain ⟨z1, z2⟩ := List.cons.inj z
    exact e ⟨z1, (List.cons.inj z2).1⟩
theorem eqv_handA : (pD (dW handA) 0 3).eqv (.tuple [tD [], tD [2, 2, 7]]) = true := by
  show PyData.eqv (.tuple [tD (nI (seg (dW handA) 0 0)), tD (nI (seg (dW handA) 0 3))]) _ = _
  rw [handA_seg, eqv_pair]; exact decide_eq_true ⟨rfl, rfl⟩
theorem eqv_handB : (pD (dW handB) 0 1).eqv (.tuple [tD [], tD [1]]) = true := by
  show PyData.eqv (.tuple [tD (nI (seg (dW handB) 0 0)), tD (nI (seg (dW handB) 0 1))]) _ = _
  rw [handB_seg, eqv_pair]; exact decide_eq_true ⟨rfl, rfl⟩
theorem near_bars {nn its : List Int} {far : Int} (h : Blk nn far its) (u : Unlike nn) (f0 : 0 ≤ far) (f8 : far ≤ 8) : ∀ d ∈ barsN its its, d ≤ 8 := by
  intro d hd
  obtain ⟨j, x, h1, h2, h3⟩ := clashB_iff.mp (List.mem_filter.mp hd).2
  have := h.near u f0 h2 h1 h3
  omega
def spLaw (K : PySem.W.Frag) : Sp := fun vs H Q _ => ∃ (a : Addr) (ns : List Int), vs = [.ref a] ∧ SqL K H a (ns.map V.int) ∧ ns.length ≤ 63 ∧ ∀ H', Q (.bl true) H'
section
variable {P : Program} {w : World} {K : PySem.W.Frag} {mg : Str → Option Value} {base : Heap}
theorem ok_law {f f1 f2 f4 f6 f7 f8 f9 fs ft : Addr} {fd fd1 fd2 fd4 fd6 fd7 fd8 fd9 fds fdt : FuncData} {k : Nat} (F : Fun K "law" "law" s_law f fd)
    (G1 : FnOk P w K mg base CX0 k f1 fd1 ["_law_script", "_law_k"] (spCell K)) (kp1 : PySem.W.keepIn K (.ref f1) = true) (b1 : Binds K fd1 ["_law_script", "_law_k"] []) (g1 : mg "_law_cell_at" = some (.ref f1))
    (G2 : FnOk P w K mg base CX0 k f2 fd2 ["_law_cell"] spPen) (kp2 : PySem.W.keepIn K (.ref f2) = true) (b2 : Binds K fd2 ["_law_cell"] []) (g2 : mg "_law_pen" = some (.ref f2))
    (G4 : FnOk P w K mg base CX0 k f4 fd4 ["_law_pen_here", "_law_some"] spPick) (kp4 : PySem.W.keepIn K (.ref f4) = true) (b4 : Binds K fd4 ["_law_pen_here", "_law_some"] []) (g4 : mg "_law_pick" = some (.ref f4))
    (G6 : FnOk P w K mg base CX0 k f6 fd6 ["_law_pen_here"] spNames) (kp6 : PySem.W.keepIn K (.ref f6) = true) (b6 : Binds K fd6 ["_law_pen_here"] []) (g6 : mg "_law_names" = some (.ref f6))
    (G7 : FnOk P w K mg base CX0 k f7 fd7 ["_law_pen_here", "_law_names_here", "_law_far", "_law_blocks"] spLWork) (kp7 : PySem.W.keepIn K (.ref f7) = true) (b7 : Binds K fd7 ["_law_pen_here", "_law_names_here", "_law_far", "_law_blocks"] []) (g7 : mg "_law_work" = some (.ref f7))
    (G8 : FnOk P w K mg base CX0 k f8 fd8 ["_law_one", "_law_other"] (spBetween K)) (kp8 : PySem.W.keepIn K (.ref f8) = true) (b8 : Binds K fd8 ["_law_one", "_law_other"] []) (g8 : mg "_law_between" = some (.ref f8))
    (Gt : FnOk P w K mg base CX0 k ft fdt ["_law_spans"] (spLGreedy K)) (kpt : PySem.W.keepIn K (.ref ft) = true) (bt : Binds K fdt ["_law_spans"] []) (gt : mg "_law_greedy" = some (.ref ft))
    (G9 : FnOk P w K mg base CX0 k f9 fd9 ["work"] (spGreedy K)) (kp9 : PySem.W.keepIn K (.ref f9) = true) (b9 : Binds K fd9 ["work"] []) (g9 : mg "greedy" = some (.ref f9))
    (Gs : FnG P w K mg base k fs fds ["_law_found", "_law_due"] (spSame K)) (kps : PySem.W.keepIn K (.ref fs) = true) (bs : Binds K fds ["_law_found", "_law_due"] []) (gs : mg "_law_same" = some (.ref fs))
    (kb : KBinds K fd9 ["work"] ["work"] kwI kwI)
    (m1 : mg "len" = none) (m2 : mg "range" = none) (m5 : mg "max" = none) (m6 : mg "min" = none) : FnG P w K mg base (k + 1) f fd ["_law_script"] (spLaw K) := by
  refine fnG_mk F sc_law (fun vs H Q h => ?_) (fun cdv A outer s H vs Q hgd hr h => ?_)
  · obtain ⟨a, ns, rfl, _⟩ := h; rfl
  · obtain ⟨a, ns, rfl, hS, hlen, q⟩ := h
    have hu := hr.units
    refine ⟨_, pss_cons (ps_for PassesOwn.never rfl (pi_range1 (by rfl) m2 (pa_cons (pe_callB (call_max2 rfl) (by rfl) m5 (by decide +kernel) (pa_cons pe_int (pa_cons (pe_callB (call_min2 rfl) (by rfl) m6 (by decide +kernel) (pa_cons (pe_callB call_len_seq (by rfl) m1 PySem.boot_len (pa_cons (pv 0) pa_nil)) (pa_cons pe_int pa_nil))) pa_nil))) pa_nil)) (pg_name (i := 1) sc_law.nd rfl (.inl rfl))
          (pss_cons (ps_set (i := 2) sc_law.nd rfl (.inl rfl) (pe_call G2 hr (by rfl) g2 kp2 b2 .nil pass0 (pa_cons (pe_call G1 hr (by rfl) g1 kp1 b1 .nil pass0 (pa_cons (pv 0) (pa_cons (pv 1) pa_nil))) pa_nil)))
          (pss_one (ps_for PassesOwn.never rfl (pi_range1 (by rfl) m2 (pa_cons pe_int pa_nil)) (pg_name (i := 3) sc_law.nd rfl (.inl rfl))
            (pss_cons (ps_set (i := 4) sc_law.nd rfl (.inl rfl) (pe_call G4 hr (by rfl) g4 kp4 b4 .nil pass0 (pa_cons (pv 2) (pa_cons (pe_lst (pa_cons pe_int (pa_cons pe_int (pa_cons pe_int (pa_cons pe_int (pa_cons pe_int (pa_cons pe_int pa_nil))))))) pa_nil))))
            (pss_cons (ps_set (i := 5) sc_law.nd rfl (.inl rfl) (pe_call G7 hr (by rfl) g7 kp7 b7 .nil pass0 (pa_cons (pv 2) (pa_cons (pe_call G6 hr (by rfl) g6 kp6 b6 .nil pass0 (pa_cons (pv 2) pa_nil)) (pa_cons (pv 4)
              (pa_cons (pe_call G4 hr (by rfl) g4 kp4 b4 .nil pass0 (pa_cons (pv 2) (pa_cons (pe_lst (pa_cons pe_int (pa_cons pe_int (pa_cons pe_int pa_nil)))) pa_nil))) pa_nil))))))
            (pss_cons (ps_set (i := 6) sc_law.nd rfl (.inl rfl) (pe_call Gt hr (by rfl) gt kpt bt .nil pass0 (pa_cons (pe_call G8 hr (by rfl) g8 kp8 b8 .nil pass0 (pa_cons (pv 5) (pa_cons (pv 5) pa_nil))) pa_nil)))
            (pss_cons (ps_for PassesOwn.never rfl (pi_range1 (by rfl) m2 (pa_cons pe_int pa_nil)) (pg_name (i := 7) sc_law.nd rfl (.inl rfl))
              (pss_one (ps_if (pt_not (pt_val (pe_callG Gs hgd hr (by rfl) gs kps bs (pa_cons (pe_call G9 hr (by rfl) g9 kp9 b9 .nil pass0 (pa_cons (pv 5) pa_nil)) (pa_cons (pv 6) pa_nil))))) (pss_one (ps_ret pe_bl)) pss_nil)))
            (pss_one (ps_if (pt_not (pt_val (pe_callG Gs hgd hr (by rfl) gs kps bs (pa_cons (pe_callK0 G9 hr (by rfl) g9 kp9 kb pass0 (pk_cons (pv 5) pk_nil)) (pa_cons (pv 6) pa_nil))))) (pss_one (ps_ret pe_bl)) pss_nil)))))))))) 
        (pss_one (ps_ret (pe_and (pe_cmpR (op_eqD hu) (pe_call G9 hr (by rfl) g9 kp9 b9 .nil pass0 (pa_cons (pe_tup (pa_cons pe_int (pa_cons pe_int (pa_cons (pe_un un_neg pe_int) (pa_cons (pe_un un_neg pe_int) (pa_cons (pe_un un_neg pe_int) (pa_cons (pe_un un_neg pe_int) (pa_cons pe_int pa_nil)))))))) pa_nil)) (pe_tup (pa_cons (pe_tup pa_nil) (pa_cons (pe_tup (pa_cons pe_int (pa_cons pe_int (pa_cons pe_int pa_nil)))) pa_nil))) (nomark _))
          (pe_one (pe_cmpR (op_eqD hu) (pe_call G9 hr (by rfl) g9 kp9 b9 .nil pass0 (pa_cons (pe_tup (pa_cons pe_int pa_nil)) pa_nil)) (pe_tup (pa_cons (pe_tup pa_nil) (pa_cons (pe_tup (pa_cons pe_int pa_nil)) pa_nil))) (nomark _)))))), ?_⟩
    have big : 4000 ≤ sizeLine := by rw [sizeLine_eq]; decide
    have l63 : ((ns.map V.int).length : Int) ≤ 63 := by rw [List.length_map]; omega
    refine ⟨.ref a, rfl, a, _, rfl, .inl hS, _, 4, rfl, 1, _, rfl, ?_⟩
    obtain ⟨N, hN, hN0, hN4⟩ : ∃ N : Int, (if (if (4 : Int) < ((ns.map V.int).length : Nat) then (4 : Int) else ((ns.map V.int).length : Nat)) > 1 then (if (4 : Int) < ((ns.map V.int).length : Nat) then (4 : Int) else ((ns.map V.int).length : Nat)) else 1) = N ∧ 0 ≤ N ∧ N ≤ 4 := by
      refine ⟨_, rfl, ?_, ?_⟩
      · split <;> split <;> omega
      · split <;> split <;> omega
    rw [hN]
    refine ⟨N, rfl, by omega, by omega, ?_⟩
    refine for_range (lo := 0) (n := N.toNat) (fun i σ H' => ∃ v1 v2 v3 v4 v5 v6 v7, σ = [some (.ref a), v1, v2, v3, v4, v5, v6, v7] ∧ Same H H') ⟨_, _, _, _, _, _, _, rfl, fun _ _ z => z⟩ ?_ ?_
    · rintro i σ H1 hi ⟨v1, v2, v3, v4, v5, v6, v7, rfl, e1⟩
      refine ⟨.ref a, rfl, .int (0 + i), rfl, a, ns, i, by rw [Int.zero_add]; rfl, e1.seq hS, fun cell => ?_⟩
      refine ⟨cell, rfl, fun H2 p np s2 p2 => ?_⟩
      have npH : H p = none := freeS e1 np
      have o2 : Same H H2 := e1.trans s2
      refine ⟨3, rfl, by decide, by decide, ?_⟩
      refine for_range (lo := 0) (n := 3) (fun j σ H' => ∃ v3 v4 v5 v6 v7, σ = [some (.ref a), some (.int (0 + i)), some (.ref p), v3, v4, v5, v6, v7] ∧ But p H2 H' ∧ PenAt H' p) ⟨_, _, _, _, _, rfl, fun _ _ _ z => z, p2⟩ ?_ ?_
      · rintro j σ H3 hj ⟨v3, v4, v5, v6, v7, rfl, c3, p3⟩
        refine ⟨.ref p, rfl, by show 6 ≤ sizeLine; omega, fun l nl => ⟨p, l, [0, 2, 4, 6, 8, 8], rfl, p3.new nl, (p3.ne nl).symm, upd_same, by decide, by decide, fun H4 far hfar p4 b4' => ?_⟩⟩
        have hf : 0 ≤ far ∧ far ≤ 8 := by
          have h6 : ∀ z ∈ ([0, 2, 4, 6, 8, 8] : List Int), 0 ≤ z ∧ z ≤ 8 := by decide
          exact h6 far hfar
        have c4 : But p H2 H4 := (c3.trans (.of (same_new nl))).trans b4'
        clear b4'
        refine ⟨.ref p, rfl, .ref p, rfl, p, rfl, p4, fun H5 nmA nn p5 b5 nnm nnp hnm lnn inn unn => ?_⟩
        have c5 : But p H2 H5 := c4.trans b5
        refine ⟨.int far, rfl, .ref p, rfl, by show 3 ≤ sizeLine; omega, fun l2 nl2 => ⟨p, l2, [1, 1, 3], rfl, p5.new nl2, (p5.ne nl2).symm, upd_same, by decide, by decide, fun H6 bl hbl p6 b6' => ?_⟩⟩
        have hb3 : 1 ≤ bl ∧ bl ≤ 3 := by
          have h3 : ∀ z ∈ ([1, 1, 3] : List Int), 1 ≤ z ∧ z ≤ 3 := by decide
          exact h3 bl hbl
        have b56 : But p H5 H6 := (But.of (same_new nl2)).trans b6'
        have c6 := c5.trans b56
        refine ⟨p, nmA, nn, far, bl, rfl, p6, nnp, b56 _ _ nnp hnm, lnn, inn, hf.1, by omega, hb3.1, hb3.2, fun H7 t its p7 b7' nt ht hk hblk => ?_⟩
        have c7 := c6.trans b7'
        have hb8 := near_bars hblk unn hf.1 hf.2
        have hT7 : SqT K H7 t (its.map V.int) := .inl (.inl ht)
        clear b7' b56 b6' b5
        refine ⟨.ref t, rfl, .ref t, rfl, t, its, rfl, hT7, hk, fun H8 l8 ms e8 hl8 lms mem => ?_⟩
        refine ⟨l8, ms, barsN its its, topN (barsN its its), rfl, hl8, mem, by omega, topN_barred hb8, topN_tops _, fun H9 t9 a9 g9 n9 p9 e9 ht9 ha9 hg9 hc9 hn9 hp9 => ?_⟩
        have e79 := e8.trans e9
        have d9 : ∀ H', Same H9 H' → Dp K H' (.ref t9) (pD (dW its) n9 p9) := fun H' e => pD_dp (e _ _ ht9) (.inl (.inl (e _ _ ha9))) (.inl (.inl (e _ _ hg9)))
        have sh : Shows (pD (dW its) n9 p9) := (pD_small hn9 hp9).shows (by decide) (by decide)
        refine ⟨2, rfl, by decide, by decide, ?_⟩
        refine for_range (lo := 0) (n := 2) (fun m σ H' => ∃ v7, σ = [some (.ref a), some (.int (0 + i)), some (.ref p), some (.int (0 + j)), some (.int far), some (.ref t), some (.ref t9), v7] ∧ Same H9 H') ⟨_, rfl, fun _ _ z => z⟩ ?_ ?_
        · rintro m σ H10 hm ⟨v7, rfl, e10⟩
          refine ⟨.ref t, rfl, t, its, rfl, Same.tup (e79.trans e10) hT7, hk, hb8, fun H11 u au gu nu pu e11 hu' hau hgu hcu hnu hpu => ?_⟩
          obtain ⟨rfl, rfl⟩ := hcu.uniq hc9
          exact ⟨.ref t9, rfl, u, t9, pD (dW its) nu pu, rfl, pD_dp hu' hau hgu, d9 _ (e10.trans e11), sh, true, rfl, iteF ⟨_, rfl, e10.trans e11⟩⟩
        · rintro σ H10 ⟨v7, rfl, e10⟩
          refine ⟨.ref t, rfl, t, its, rfl, Same.tup (e79.trans e10) hT7, hk, hb8, fun H11 u au gu nu pu e11 hu' hau hgu hcu hnu hpu => ?_⟩
          obtain ⟨rfl, rfl⟩ := hcu.uniq hc9
          exact ⟨.ref t9, rfl, u, t9, pD (dW its) nu pu, rfl, pD_dp hu' hau hgu, d9 _ (e10.trans e11), sh, true, rfl, iteF ⟨_, _, _, _, _, rfl, c7.trans (.of (e79.trans (e10.trans e11))), p7.same (e79.trans (e10.trans e11))⟩⟩
      · rintro σ H3 ⟨v3, v4, v5, v6, v7, rfl, c3, p3⟩
        exact ⟨_, _, _, _, _, _, _, rfl, fun b o h => c3 _ _ (ne_of_none h npH) (o2 _ _ h)⟩
    · rintro σ H1 ⟨v1, v2, v3, v4, v5, v6, v7, rfl, e1⟩
      refine ⟨1, rfl, 1, rfl, 1, rfl, 1, rfl, by show 7 ≤ sizeLine; omega, fun o no => ⟨o, handA, rfl, .of upd_same, handA_work, handA_bars, fun H2 u au gu nu pu e2 hu' hau hgu hcu hnu hpu => ?_⟩⟩
      obtain ⟨rfl, rfl⟩ := hcu.uniq handA_canon
      refine ⟨by show 0 ≤ sizeLine; omega, fun o1 no1 => ⟨by show 3 ≤ sizeLine; omega, fun o2 no2 => ⟨by show 2 ≤ sizeLine; omega, fun o3 no3 => ?_⟩⟩⟩
      have s1 := same_new (o := .tup []) no1
      have s2 := same_new (o := .tup [V.int 2, .int 2, .int 7]) no2
      have s3 := same_new (o := .tup [V.ref o1, .ref o2]) no3
      have s13 := (s1.trans s2).trans s3
      have h1 := s3 _ _ (s2 _ _ (upd_same (H := H2) (a := o1) (o := .tup [])))
      have h2 := s3 _ _ (upd_same (H := L2.upd H2 o1 (.tup [])) (a := o2) (o := .tup [V.int 2, .int 2, .int 7]))
      have h3 := upd_same (H := L2.upd (L2.upd H2 o1 (.tup [])) o2 (.tup [V.int 2, .int 2, .int 7])) (a := o3) (o := .tup [V.ref o1, .ref o2])
      generalize L2.upd (L2.upd (L2.upd H2 o1 (.tup [])) o2 (.tup [V.int 2, .int 2, .int 7])) o3 (.tup [V.ref o1, .ref o2]) = H3 at s13 h1 h2 h3 ⊢
      have dA := pD_dp (s13 _ _ hu') (Same.tup s13 hau) (Same.tup s13 hgu)
      refine ⟨pD (dW handA) 0 3, .tuple [tD [], tD [2, 2, 7]], dA, .tup (.of h3) (.cons (.tup (.of h1) (dpInts [])) (.cons (.tup (.of h2) (dpInts [2, 2, 7])) .nil)), (pD_small (by decide) (by decide)).shaped (by decide), shaped_tDs [[], [2, 2, 7]], ?_⟩
      rw [eqv_handA]
      refine ⟨true, rfl, iteT ?_⟩
      refine ⟨by show 1 ≤ sizeLine; omega, fun o' no' => ⟨o', handB, rfl, .of upd_same, handB_work, handB_bars, fun H2 u au gu nu pu e2 hu' hau hgu hcu hnu hpu => ?_⟩⟩
      obtain ⟨rfl, rfl⟩ := hcu.uniq handB_canon
      refine ⟨by show 0 ≤ sizeLine; omega, fun o1 no1 => ⟨by show 1 ≤ sizeLine; omega, fun o2 no2 => ⟨by show 2 ≤ sizeLine; omega, fun o3 no3 => ?_⟩⟩⟩
      have s1 := same_new (o := .tup []) no1
      have s2 := same_new (o := .tup [V.int 1]) no2
      have s3 := same_new (o := .tup [V.ref o1, .ref o2]) no3
      have s13 := (s1.trans s2).trans s3
      have h1 := s3 _ _ (s2 _ _ (upd_same (H := H2) (a := o1) (o := .tup [])))
      have h2 := s3 _ _ (upd_same (H := L2.upd H2 o1 (.tup [])) (a := o2) (o := .tup [V.int 1]))
      have h3 := upd_same (H := L2.upd (L2.upd H2 o1 (.tup [])) o2 (.tup [V.int 1])) (a := o3) (o := .tup [V.ref o1, .ref o2])
      generalize L2.upd (L2.upd (L2.upd H2 o1 (.tup [])) o2 (.tup [V.int 1])) o3 (.tup [V.ref o1, .ref o2]) = H3 at s13 h1 h2 h3 ⊢
      have dB := pD_dp (s13 _ _ hu') (Same.tup s13 hau) (Same.tup s13 hgu)
      refine ⟨pD (dW handB) 0 1, .tuple [tD [], tD [1]], dB, .tup (.of h3) (.cons (.tup (.of h1) (dpInts [])) (.cons (.tup (.of h2) (dpInts [1])) .nil)), (pD_small (by decide) (by decide)).shaped (by decide), shaped_tDs [[], [1]], ?_⟩
      rw [eqv_handB]
      exact q _
end
end Sg

set_option Elab.async false
set_option linter.all false
set_option maxRecDepth 100000
set_option maxHeartbeats 4000000
namespace Sg
open PySem PySem.Spec PyProof.Rows L2 StX
theorem all_mk {l : PySem.W.OpenLaw} {w : World} {K : PySem.W.Frag} {h : Heap} {mg : Str → Option Value} {fa fd0 fd1 fd2 fd3 fd4 fd5 fd6 fd7 fd8 fd9 fd10 Dd10 fd11 fd12 fd13 fd14 fd15 fd16 fd17 fd18 fd19 fd20 fd21 fd22 fd23 fd24 fd25 C fm0 fm1 fm2 fm3 fm4 fm5 fm6 fm7 fm8 pp0 fp0 pp1 fp1 : Addr} {tu_NOWHERE tu_STATIONS tu_MOST_ITEMS tu_MOST_WORKS : Tok} {rsp0 rsp1 : List Value} {fo ro : Option Value} {odd0 and0 odd1 and1 odd2 and2 odd3 and3 odd4 and4 odd5 and5 odd6 and6 odd7 and7 odd8 and8 odd9 and9 odd10 and10 odd11 and11 odd12 and12 odd13 and13 odd14 and14 odd15 and15 odd16 and16 odd17 and17 odd18 and18 odd19 and19 odd20 and20 odd21 and21 odd22 and22 odd23 and23 odd24 and24 odd25 and25 odm0 anm0 odm1 anm1 odm2 anm2 odm3 anm3 odm4 anm4 odm5 anm5 odm6 anm6 odm7 anm7 odm8 anm8 odp0 anp0 odp1 anp1 : Option Addr} {sld0 sld1 sld2 sld3 sld4 sld5 sld6 sld7 sld8 sld9 sld10 sld11 sld12 sld13 sld14 sld15 sld16 sld17 sld18 sld19 sld20 sld21 sld22 sld23 sld24 sld25 slm0 slm1 slm2 slm3 slm4 slm5 slm6 slm7 slm8 slp0 slp1 : Array (Option Value)} {ocd0 kVd0 dcd0 pmd0 cdd0 ctd0 ocd1 kVd1 dcd1 pmd1 cdd1 ctd1 ocd2 kVd2 dcd2 pmd2 cdd2 ctd2 ocd3 kVd3 dcd3 pmd3 cdd3 ctd3 ocd4 kVd4 dcd4 pmd4 cdd4 ctd4 ocd5 kVd5 dcd5 pmd5 cdd5 ctd5 ocd6 kVd6 dcd6 pmd6 cdd6 ctd6 ocd7 kVd7 dcd7 pmd7 cdd7 ctd7 ocd8 kVd8 dcd8 pmd8 cdd8 ctd8 ocd9 kVd9 dcd9 pmd9 cdd9 ctd9 ocd10 kVd10 dcd10 pmd10 cdd10 ctd10 ocd11 kVd11 dcd11 pmd11 cdd11 ctd11 ocd12 kVd12 dcd12 pmd12 cdd12 ctd12 ocd13 kVd13 dcd13 pmd13 cdd13 ctd13 ocd14 kVd14 dcd14 pmd14 cdd14 ctd14 ocd15 kVd15 dcd15 pmd15 cdd15 ctd15 ocd16 kVd16 dcd16 pmd16 cdd16 ctd16 ocd17 kVd17 dcd17 pmd17 cdd17 ctd17 ocd18 kVd18 dcd18 pmd18 cdd18 ctd18 ocd19 kVd19 dcd19 pmd19 cdd19 ctd19 ocd20 kVd20 dcd20 pmd20 cdd20 ctd20 ocd21 kVd21 dcd21 pmd21 cdd21 ctd21 ocd22 kVd22 dcd22 pmd22 cdd22 ctd22 ocd23 kVd23 dcd23 pmd23 cdd23 ctd23 ocd24 kVd24 dcd24 pmd24 cdd24 ctd24 ocd25 kVd25 dcd25 pmd25 cdd25 ctd25 ocm0 kVm0 dcm0 pmm0 cdm0 ctm0 ocm1 kVm1 dcm1 pmm1 cdm1 ctm1 ocm2 kVm2 dcm2 pmm2 cdm2 ctm2 ocm3 kVm3 dcm3 pmm3 cdm3 ctm3 ocm4 kVm4 dcm4 pmm4 cdm4 ctm4 ocm5 kVm5 dcm5 pmm5 cdm5 ctm5 ocm6 kVm6 dcm6 pmm6 cdm6 ctm6 ocm7 kVm7 dcm7 pmm7 cdm7 ctm7 ocm8 kVm8 dcm8 pmm8 cdm8 ctm8 ocp0 kVp0 dcp0 pmp0 cdp0 ctp0 ocp1 kVp1 dcp1 pmp1 cdp1 ctp1 : Value} {ocDd10 : Value} {odDd10 : Option Addr} {nDd10 : Nat} {slDd10 : Array (Option Value)} {tDd10_0 tDd10_1 : Tok} (X : K.In h) (G : h.Ns mainGlobals mg) (hfa : mg "law" = some (.ref fa))
    (ad0 : PySem.W.nsIn K mainGlobals "is_int" = some (some (.ref fd0)))
    (ld0 : K.lookup fd0 = some ⟨ocd0, odd0, .func (PySem.W.fnOf "is_int" "is_int" (defArgs s_is_int) (defBody s_is_int) (defScope s_is_int) .none kVd0 dcd0 pmd0 and0 cdd0 ctd0), sld0⟩)
    (cd0 : PySem.W.codeIn K cdd0 "is_int" = true)
    (kd0 : PySem.W.keepIn K (.ref fd0) = true)
    (ad1 : PySem.W.nsIn K mainGlobals "is_between" = some (some (.ref fd1)))
    (ld1 : K.lookup fd1 = some ⟨ocd1, odd1, .func (PySem.W.fnOf "is_between" "is_between" (defArgs s_is_between) (defBody s_is_between) (defScope s_is_between) .none kVd1 dcd1 pmd1 and1 cdd1 ctd1), sld1⟩)
    (cd1 : PySem.W.codeIn K cdd1 "is_between" = true)
    (kd1 : PySem.W.keepIn K (.ref fd1) = true)
    (ad2 : PySem.W.nsIn K mainGlobals "is_work" = some (some (.ref fd2)))
    (ld2 : K.lookup fd2 = some ⟨ocd2, odd2, .func (PySem.W.fnOf "is_work" "is_work" (defArgs s_is_work) (defBody s_is_work) (defScope s_is_work) .none kVd2 dcd2 pmd2 and2 cdd2 ctd2), sld2⟩)
    (cd2 : PySem.W.codeIn K cdd2 "is_work" = true)
    (kd2 : PySem.W.keepIn K (.ref fd2) = true)
    (ad3 : PySem.W.nsIn K mainGlobals "bars" = some (some (.ref fd3)))
    (ld3 : K.lookup fd3 = some ⟨ocd3, odd3, .func (PySem.W.fnOf "bars" "bars" (defArgs s_bars) (defBody s_bars) (defScope s_bars) .none kVd3 dcd3 pmd3 and3 cdd3 ctd3), sld3⟩)
    (cd3 : PySem.W.codeIn K cdd3 "bars" = true)
    (kd3 : PySem.W.keepIn K (.ref fd3) = true)
    (ad4 : PySem.W.nsIn K mainGlobals "require_work" = some (some (.ref fd4)))
    (ld4 : K.lookup fd4 = some ⟨ocd4, odd4, .func (PySem.W.fnOf "require_work" "require_work" (defArgs s_require_work) (defBody s_require_work) (defScope s_require_work) .none kVd4 dcd4 pmd4 and4 cdd4 ctd4), sld4⟩)
    (cd4 : PySem.W.codeIn K cdd4 "require_work" = true)
    (kd4 : PySem.W.keepIn K (.ref fd4) = true)
    (ad5 : PySem.W.nsIn K mainGlobals "_clashes_behind" = some (some (.ref fd5)))
    (ld5 : K.lookup fd5 = some ⟨ocd5, odd5, .func (PySem.W.fnOf "_clashes_behind" "_clashes_behind" (defArgs s_clashes_behind) (defBody s_clashes_behind) (defScope s_clashes_behind) .none kVd5 dcd5 pmd5 and5 cdd5 ctd5), sld5⟩)
    (cd5 : PySem.W.codeIn K cdd5 "_clashes_behind" = true)
    (kd5 : PySem.W.keepIn K (.ref fd5) = true)
    (ad6 : PySem.W.nsIn K mainGlobals "is_kind" = some (some (.ref fd6)))
    (ld6 : K.lookup fd6 = some ⟨ocd6, odd6, .func (PySem.W.fnOf "is_kind" "is_kind" (defArgs s_is_kind) (defBody s_is_kind) (defScope s_is_kind) .none kVd6 dcd6 pmd6 and6 cdd6 ctd6), sld6⟩)
    (cd6 : PySem.W.codeIn K cdd6 "is_kind" = true)
    (kd6 : PySem.W.keepIn K (.ref fd6) = true)
    (ad7 : PySem.W.nsIn K mainGlobals "require_kind" = some (some (.ref fd7)))
    (ld7 : K.lookup fd7 = some ⟨ocd7, odd7, .func (PySem.W.fnOf "require_kind" "require_kind" (defArgs s_require_kind) (defBody s_require_kind) (defScope s_require_kind) .none kVd7 dcd7 pmd7 and7 cdd7 ctd7), sld7⟩)
    (cd7 : PySem.W.codeIn K cdd7 "require_kind" = true)
    (kd7 : PySem.W.keepIn K (.ref fd7) = true)
    (ad8 : PySem.W.nsIn K mainGlobals "_bars_of_all" = some (some (.ref fd8)))
    (ld8 : K.lookup fd8 = some ⟨ocd8, odd8, .func (PySem.W.fnOf "_bars_of_all" "_bars_of_all" (defArgs s_bars_of_all) (defBody s_bars_of_all) (defScope s_bars_of_all) .none kVd8 dcd8 pmd8 and8 cdd8 ctd8), sld8⟩)
    (cd8 : PySem.W.codeIn K cdd8 "_bars_of_all" = true)
    (kd8 : PySem.W.keepIn K (.ref fd8) = true)
    (ad9 : PySem.W.nsIn K mainGlobals "require_line" = some (some (.ref fd9)))
    (ld9 : K.lookup fd9 = some ⟨ocd9, odd9, .func (PySem.W.fnOf "require_line" "require_line" (defArgs s_require_line) (defBody s_require_line) (defScope s_require_line) .none kVd9 dcd9 pmd9 and9 cdd9 ctd9), sld9⟩)
    (cd9 : PySem.W.codeIn K cdd9 "require_line" = true)
    (kd9 : PySem.W.keepIn K (.ref fd9) = true)
    (ad10 : PySem.W.nsIn K mainGlobals "require_near" = some (some (.ref fd10)))
    (ld10 : K.lookup fd10 = some ⟨ocd10, odd10, .func (PySem.W.fnOf "require_near" "require_near" (defArgs s_require_near) (defBody s_require_near) (defScope s_require_near) (.ref Dd10) kVd10 dcd10 pmd10 and10 cdd10 ctd10), sld10⟩)
    (D_d10 : K.lookup Dd10 = some ⟨ocDd10, odDd10, .seq #[.int 8 tDd10_0, .int 5 tDd10_1] nDd10, slDd10⟩)
    (cd10 : PySem.W.codeIn K cdd10 "require_near" = true)
    (kd10 : PySem.W.keepIn K (.ref fd10) = true)
    (ad11 : PySem.W.nsIn K mainGlobals "greedy" = some (some (.ref fd11)))
    (ld11 : K.lookup fd11 = some ⟨ocd11, odd11, .func (PySem.W.fnOf "greedy" "greedy" (defArgs s_greedy) (defBody s_greedy) (defScope s_greedy) .none kVd11 dcd11 pmd11 and11 cdd11 ctd11), sld11⟩)
    (cd11 : PySem.W.codeIn K cdd11 "greedy" = true)
    (kd11 : PySem.W.keepIn K (.ref fd11) = true)
    (ad12 : PySem.W.nsIn K mainGlobals "_until_repeated" = some (some (.ref fd12)))
    (ld12 : K.lookup fd12 = some ⟨ocd12, odd12, .func (PySem.W.fnOf "_until_repeated" "_until_repeated" (defArgs s_until_repeated) (defBody s_until_repeated) (defScope s_until_repeated) .none kVd12 dcd12 pmd12 and12 cdd12 ctd12), sld12⟩)
    (cd12 : PySem.W.codeIn K cdd12 "_until_repeated" = true)
    (kd12 : PySem.W.keepIn K (.ref fd12) = true)
    (ad13 : PySem.W.nsIn K mainGlobals "_next_distance" = some (some (.ref fd13)))
    (ld13 : K.lookup fd13 = some ⟨ocd13, odd13, .func (PySem.W.fnOf "_next_distance" "_next_distance" (defArgs s_next_distance) (defBody s_next_distance) (defScope s_next_distance) .none kVd13 dcd13 pmd13 and13 cdd13 ctd13), sld13⟩)
    (cd13 : PySem.W.codeIn K cdd13 "_next_distance" = true)
    (kd13 : PySem.W.keepIn K (.ref fd13) = true)
    (ad14 : PySem.W.nsIn K mainGlobals "_with_fewest_before" = some (some (.ref fd14)))
    (ld14 : K.lookup fd14 = some ⟨ocd14, odd14, .func (PySem.W.fnOf "_with_fewest_before" "_with_fewest_before" (defArgs s_with_fewest_before) (defBody s_with_fewest_before) (defScope s_with_fewest_before) .none kVd14 dcd14 pmd14 and14 cdd14 ctd14), sld14⟩)
    (cd14 : PySem.W.codeIn K cdd14 "_with_fewest_before" = true)
    (kd14 : PySem.W.keepIn K (.ref fd14) = true)
    (ad15 : PySem.W.nsIn K mainGlobals "_law_cell_at" = some (some (.ref fd15)))
    (ld15 : K.lookup fd15 = some ⟨ocd15, odd15, .func (PySem.W.fnOf "_law_cell_at" "_law_cell_at" (defArgs s_l_cell_at) (defBody s_l_cell_at) (defScope s_l_cell_at) .none kVd15 dcd15 pmd15 and15 cdd15 ctd15), sld15⟩)
    (cd15 : PySem.W.codeIn K cdd15 "_law_cell_at" = true)
    (kd15 : PySem.W.keepIn K (.ref fd15) = true)
    (ad16 : PySem.W.nsIn K mainGlobals "_law_pen" = some (some (.ref fd16)))
    (ld16 : K.lookup fd16 = some ⟨ocd16, odd16, .func (PySem.W.fnOf "_law_pen" "_law_pen" (defArgs s_l_pen) (defBody s_l_pen) (defScope s_l_pen) .none kVd16 dcd16 pmd16 and16 cdd16 ctd16), sld16⟩)
    (cd16 : PySem.W.codeIn K cdd16 "_law_pen" = true)
    (kd16 : PySem.W.keepIn K (.ref fd16) = true)
    (ad17 : PySem.W.nsIn K mainGlobals "_law_draw" = some (some (.ref fd17)))
    (ld17 : K.lookup fd17 = some ⟨ocd17, odd17, .func (PySem.W.fnOf "_law_draw" "_law_draw" (defArgs s_l_draw) (defBody s_l_draw) (defScope s_l_draw) .none kVd17 dcd17 pmd17 and17 cdd17 ctd17), sld17⟩)
    (cd17 : PySem.W.codeIn K cdd17 "_law_draw" = true)
    (kd17 : PySem.W.keepIn K (.ref fd17) = true)
    (ad18 : PySem.W.nsIn K mainGlobals "_law_pick" = some (some (.ref fd18)))
    (ld18 : K.lookup fd18 = some ⟨ocd18, odd18, .func (PySem.W.fnOf "_law_pick" "_law_pick" (defArgs s_l_pick) (defBody s_l_pick) (defScope s_l_pick) .none kVd18 dcd18 pmd18 and18 cdd18 ctd18), sld18⟩)
    (cd18 : PySem.W.codeIn K cdd18 "_law_pick" = true)
    (kd18 : PySem.W.keepIn K (.ref fd18) = true)
    (ad19 : PySem.W.nsIn K mainGlobals "_law_same" = some (some (.ref fd19)))
    (ld19 : K.lookup fd19 = some ⟨ocd19, odd19, .func (PySem.W.fnOf "_law_same" "_law_same" (defArgs s_l_same) (defBody s_l_same) (defScope s_l_same) .none kVd19 dcd19 pmd19 and19 cdd19 ctd19), sld19⟩)
    (cd19 : PySem.W.codeIn K cdd19 "_law_same" = true)
    (kd19 : PySem.W.keepIn K (.ref fd19) = true)
    (ad20 : PySem.W.nsIn K mainGlobals "_law_names" = some (some (.ref fd20)))
    (ld20 : K.lookup fd20 = some ⟨ocd20, odd20, .func (PySem.W.fnOf "_law_names" "_law_names" (defArgs s_l_names) (defBody s_l_names) (defScope s_l_names) .none kVd20 dcd20 pmd20 and20 cdd20 ctd20), sld20⟩)
    (cd20 : PySem.W.codeIn K cdd20 "_law_names" = true)
    (kd20 : PySem.W.keepIn K (.ref fd20) = true)
    (ad21 : PySem.W.nsIn K mainGlobals "_law_work" = some (some (.ref fd21)))
    (ld21 : K.lookup fd21 = some ⟨ocd21, odd21, .func (PySem.W.fnOf "_law_work" "_law_work" (defArgs s_l_work) (defBody s_l_work) (defScope s_l_work) .none kVd21 dcd21 pmd21 and21 cdd21 ctd21), sld21⟩)
    (cd21 : PySem.W.codeIn K cdd21 "_law_work" = true)
    (kd21 : PySem.W.keepIn K (.ref fd21) = true)
    (ad22 : PySem.W.nsIn K mainGlobals "_law_between" = some (some (.ref fd22)))
    (ld22 : K.lookup fd22 = some ⟨ocd22, odd22, .func (PySem.W.fnOf "_law_between" "_law_between" (defArgs s_l_between) (defBody s_l_between) (defScope s_l_between) .none kVd22 dcd22 pmd22 and22 cdd22 ctd22), sld22⟩)
    (cd22 : PySem.W.codeIn K cdd22 "_law_between" = true)
    (kd22 : PySem.W.keepIn K (.ref fd22) = true)
    (ad23 : PySem.W.nsIn K mainGlobals "_law_walk" = some (some (.ref fd23)))
    (ld23 : K.lookup fd23 = some ⟨ocd23, odd23, .func (PySem.W.fnOf "_law_walk" "_law_walk" (defArgs s_l_walk) (defBody s_l_walk) (defScope s_l_walk) .none kVd23 dcd23 pmd23 and23 cdd23 ctd23), sld23⟩)
    (cd23 : PySem.W.codeIn K cdd23 "_law_walk" = true)
    (kd23 : PySem.W.keepIn K (.ref fd23) = true)
    (ad24 : PySem.W.nsIn K mainGlobals "_law_greedy" = some (some (.ref fd24)))
    (ld24 : K.lookup fd24 = some ⟨ocd24, odd24, .func (PySem.W.fnOf "_law_greedy" "_law_greedy" (defArgs s_l_greedy) (defBody s_l_greedy) (defScope s_l_greedy) .none kVd24 dcd24 pmd24 and24 cdd24 ctd24), sld24⟩)
    (cd24 : PySem.W.codeIn K cdd24 "_law_greedy" = true)
    (kd24 : PySem.W.keepIn K (.ref fd24) = true)
    (ad25 : PySem.W.nsIn K mainGlobals "law" = some (some (.ref fd25)))
    (ld25 : K.lookup fd25 = some ⟨ocd25, odd25, .func (PySem.W.fnOf "law" "law" (defArgs s_law) (defBody s_law) (defScope s_law) .none kVd25 dcd25 pmd25 and25 cdd25 ctd25), sld25⟩)
    (cd25 : PySem.W.codeIn K cdd25 "law" = true)
    (kd25 : PySem.W.keepIn K (.ref fd25) = true)
    (aC : PySem.W.nsIn K mainGlobals "Line" = some (some (.ref C)))
    (am0 : PySem.W.findIn K (.ref C) "__init__" = some (some (.ref fm0)))
    (im0 : PySem.W.isFn K (.ref fm0) = true)
    (lm0 : K.lookup fm0 = some ⟨ocm0, odm0, .func (PySem.W.fnOf "__init__" "Line.__init__" (defArgs s_Line_init) (defBody s_Line_init) (defScope s_Line_init) .none kVm0 dcm0 pmm0 anm0 cdm0 ctm0), slm0⟩)
    (cm0 : PySem.W.codeIn K cdm0 "Line.__init__" = true)
    (km0 : PySem.W.keepIn K (.ref fm0) = true)
    (am1 : PySem.W.findIn K (.ref C) "__len__" = some (some (.ref fm1)))
    (im1 : PySem.W.isFn K (.ref fm1) = true)
    (lm1 : K.lookup fm1 = some ⟨ocm1, odm1, .func (PySem.W.fnOf "__len__" "Line.__len__" (defArgs s_Line_len) (defBody s_Line_len) (defScope s_Line_len) .none kVm1 dcm1 pmm1 anm1 cdm1 ctm1), slm1⟩)
    (cm1 : PySem.W.codeIn K cdm1 "Line.__len__" = true)
    (km1 : PySem.W.keepIn K (.ref fm1) = true)
    (am2 : PySem.W.findIn K (.ref C) "__call__" = some (some (.ref fm2)))
    (im2 : PySem.W.isFn K (.ref fm2) = true)
    (lm2 : K.lookup fm2 = some ⟨ocm2, odm2, .func (PySem.W.fnOf "__call__" "Line.__call__" (defArgs s_Line_call) (defBody s_Line_call) (defScope s_Line_call) .none kVm2 dcm2 pmm2 anm2 cdm2 ctm2), slm2⟩)
    (cm2 : PySem.W.codeIn K cdm2 "Line.__call__" = true)
    (km2 : PySem.W.keepIn K (.ref fm2) = true)
    (am3 : PySem.W.findIn K (.ref C) "__add__" = some (some (.ref fm3)))
    (im3 : PySem.W.isFn K (.ref fm3) = true)
    (lm3 : K.lookup fm3 = some ⟨ocm3, odm3, .func (PySem.W.fnOf "__add__" "Line.__add__" (defArgs s_Line_add) (defBody s_Line_add) (defScope s_Line_add) .none kVm3 dcm3 pmm3 anm3 cdm3 ctm3), slm3⟩)
    (cm3 : PySem.W.codeIn K cdm3 "Line.__add__" = true)
    (km3 : PySem.W.keepIn K (.ref fm3) = true)
    (am4 : PySem.W.findIn K (.ref C) "__sub__" = some (some (.ref fm4)))
    (im4 : PySem.W.isFn K (.ref fm4) = true)
    (lm4 : K.lookup fm4 = some ⟨ocm4, odm4, .func (PySem.W.fnOf "__sub__" "Line.__sub__" (defArgs s_Line_sub) (defBody s_Line_sub) (defScope s_Line_sub) .none kVm4 dcm4 pmm4 anm4 cdm4 ctm4), slm4⟩)
    (cm4 : PySem.W.codeIn K cdm4 "Line.__sub__" = true)
    (km4 : PySem.W.keepIn K (.ref fm4) = true)
    (am5 : PySem.W.findIn K (.ref C) "__neg__" = some (some (.ref fm5)))
    (im5 : PySem.W.isFn K (.ref fm5) = true)
    (lm5 : K.lookup fm5 = some ⟨ocm5, odm5, .func (PySem.W.fnOf "__neg__" "Line.__neg__" (defArgs s_Line_neg) (defBody s_Line_neg) (defScope s_Line_neg) .none kVm5 dcm5 pmm5 anm5 cdm5 ctm5), slm5⟩)
    (cm5 : PySem.W.codeIn K cdm5 "Line.__neg__" = true)
    (km5 : PySem.W.keepIn K (.ref fm5) = true)
    (am6 : PySem.W.findIn K (.ref C) "__eq__" = some (some (.ref fm6)))
    (im6 : PySem.W.isFn K (.ref fm6) = true)
    (lm6 : K.lookup fm6 = some ⟨ocm6, odm6, .func (PySem.W.fnOf "__eq__" "Line.__eq__" (defArgs s_Line_eq) (defBody s_Line_eq) (defScope s_Line_eq) .none kVm6 dcm6 pmm6 anm6 cdm6 ctm6), slm6⟩)
    (cm6 : PySem.W.codeIn K cdm6 "Line.__eq__" = true)
    (km6 : PySem.W.keepIn K (.ref fm6) = true)
    (am7 : PySem.W.findIn K (.ref C) "__getitem__" = some (some (.ref fm7)))
    (im7 : PySem.W.isFn K (.ref fm7) = true)
    (lm7 : K.lookup fm7 = some ⟨ocm7, odm7, .func (PySem.W.fnOf "__getitem__" "Line.__getitem__" (defArgs s_Line_getitem) (defBody s_Line_getitem) (defScope s_Line_getitem) .none kVm7 dcm7 pmm7 anm7 cdm7 ctm7), slm7⟩)
    (cm7 : PySem.W.codeIn K cdm7 "Line.__getitem__" = true)
    (km7 : PySem.W.keepIn K (.ref fm7) = true)
    (am8 : PySem.W.findIn K (.ref C) "__repr__" = some (some (.ref fm8)))
    (im8 : PySem.W.isFn K (.ref fm8) = true)
    (lm8 : K.lookup fm8 = some ⟨ocm8, odm8, .func (PySem.W.fnOf "__repr__" "Line.__repr__" (defArgs s_Line_repr) (defBody s_Line_repr) (defScope s_Line_repr) .none kVm8 dcm8 pmm8 anm8 cdm8 ctm8), slm8⟩)
    (cm8 : PySem.W.codeIn K cdm8 "Line.__repr__" = true)
    (km8 : PySem.W.keepIn K (.ref fm8) = true)
    (ap0 : PySem.W.findIn K (.ref C) "works" = some (some (.ref pp0)))
    (gp0 : PySem.W.specialIn K (.ref pp0) "__get__" = some (some (.builtin "property.__get__")))
    (tp0 : PySem.W.takesIn K (.ref pp0) = some true)
    (rp0 : PySem.W.recIn K pp0 "property" = some (.ref fp0 :: rsp0))
    (lp0 : K.lookup fp0 = some ⟨ocp0, odp0, .func (PySem.W.fnOf "works" "Line.works" (defArgs s_Line_works) (defBody s_Line_works) (defScope s_Line_works) .none kVp0 dcp0 pmp0 anp0 cdp0 ctp0), slp0⟩)
    (cp0 : PySem.W.codeIn K cdp0 "Line.works" = true)
    (kp0 : PySem.W.keepIn K (.ref fp0) = true)
    (ap1 : PySem.W.findIn K (.ref C) "reach" = some (some (.ref pp1)))
    (gp1 : PySem.W.specialIn K (.ref pp1) "__get__" = some (some (.builtin "property.__get__")))
    (tp1 : PySem.W.takesIn K (.ref pp1) = some true)
    (rp1 : PySem.W.recIn K pp1 "property" = some (.ref fp1 :: rsp1))
    (lp1 : K.lookup fp1 = some ⟨ocp1, odp1, .func (PySem.W.fnOf "reach" "Line.reach" (defArgs s_Line_reach) (defBody s_Line_reach) (defScope s_Line_reach) .none kVp1 dcp1 pmp1 anp1 cdp1 ctp1), slp1⟩)
    (cp1 : PySem.W.codeIn K cdp1 "Line.reach" = true)
    (kp1 : PySem.W.keepIn K (.ref fp1) = true)
    (pg : PySem.W.plainGet K C Str.empty = true)
    (hd : PySem.W.hasDictIn K C = true)
    (po : PySem.W.plainOver K C = true)
    (sa : PySem.W.findIn K (.ref C) "__setattr__" = some (some (.builtin "object.__setattr__")))
    (mk : PySem.W.makesIn K C = true)
    (kc : PySem.W.keepIn K (.ref C) = true)
    (nW : PySem.W.findIn K (.ref C) "_works" = some none)
    (nB : PySem.W.findIn K (.ref C) "_bars" = some none)
    (nR : PySem.W.findIn K (.ref C) "_reach" = some none)
    (ha : PySem.W.findIn K (.ref C) "__class__" = some (some (.builtin "object.__class__")))
    (hn : PySem.W.specialIn K (.builtin "object.__class__") "__get__" = some (some (.builtin "getset_descriptor.__get__")))
    (ht : PySem.W.takesIn K (.builtin "object.__class__") = some true)
    (hm : PySem.W.mroIn K C (.type "object") = some true)
    (sf : PySem.W.selfFirst K C = true)
    (rs : PySem.W.findIn K (.ref C) "__rsub__" = some none)
    (is1 : PySem.W.findIn K (.type "int") "__sub__" = some fo)
    (ir1 : PySem.W.findIn K (.type "int") "__rsub__" = some ro)
    (nsub : PySem.W.subIn K (.type "int") (.ref C) = some false)
    (ne : PySem.W.findIn K (.ref C) "__ne__" = some (some (.builtin "object.__ne__")))
    (ob : PySem.W.subIn K (.ref C) (.type "object") = some true)
    (fi : PySem.W.fnIn K fm2 = true)
    (fg : PySem.W.fnIn K fm7 = true)
    (z_isinstance : PySem.W.nsIn K mainGlobals "isinstance" = some none)
    (z_int : PySem.W.nsIn K mainGlobals "int" = some none)
    (z_bool : PySem.W.nsIn K mainGlobals "bool" = some none)
    (z_tuple : PySem.W.nsIn K mainGlobals "tuple" = some none)
    (z_len : PySem.W.nsIn K mainGlobals "len" = some none)
    (z_all : PySem.W.nsIn K mainGlobals "all" = some none)
    (z_any : PySem.W.nsIn K mainGlobals "any" = some none)
    (z_zip : PySem.W.nsIn K mainGlobals "zip" = some none)
    (z_range : PySem.W.nsIn K mainGlobals "range" = some none)
    (z_max : PySem.W.nsIn K mainGlobals "max" = some none)
    (z_min : PySem.W.nsIn K mainGlobals "min" = some none)
    (z_enumerate : PySem.W.nsIn K mainGlobals "enumerate" = some none)
    (z_repr : PySem.W.nsIn K mainGlobals "repr" = some none)
    (z_sorted : PySem.W.nsIn K mainGlobals "sorted" = some none)
    (z_set : PySem.W.nsIn K mainGlobals "set" = some none)
    (u_NOWHERE : PySem.W.nsIn K mainGlobals "NOWHERE" = some (some (.int (-1) tu_NOWHERE)))
    (u_STATIONS : PySem.W.nsIn K mainGlobals "STATIONS" = some (some (.int (10) tu_STATIONS)))
    (u_MOST_ITEMS : PySem.W.nsIn K mainGlobals "MOST_ITEMS" = some (some (.int (60) tu_MOST_ITEMS)))
    (u_MOST_WORKS : PySem.W.nsIn K mainGlobals "MOST_WORKS" = some (some (.int (3) tu_MOST_WORKS))) :
    ∃ fd : FuncData, (∀ (s : Shared) (v : Value), BindsTo s fd ⟨[v], []⟩ [("_law_script", v)]) ∧ ∀ base : Heap, K.In base → base.Ns mainGlobals mg → FnG l.prog w K mg base 21 fa fd ["_law_script"] (spLaw K) := by
  have e := hfa.symm.trans (PySem.W.mg_of X G ad25)
  cases e
  have y_isinstance := PySem.W.mg_none_of X G z_isinstance
  have y_int := PySem.W.mg_none_of X G z_int
  have y_bool := PySem.W.mg_none_of X G z_bool
  have y_tuple := PySem.W.mg_none_of X G z_tuple
  have y_len := PySem.W.mg_none_of X G z_len
  have y_all := PySem.W.mg_none_of X G z_all
  have y_any := PySem.W.mg_none_of X G z_any
  have y_zip := PySem.W.mg_none_of X G z_zip
  have y_range := PySem.W.mg_none_of X G z_range
  have y_max := PySem.W.mg_none_of X G z_max
  have y_min := PySem.W.mg_none_of X G z_min
  have y_enumerate := PySem.W.mg_none_of X G z_enumerate
  have y_repr := PySem.W.mg_none_of X G z_repr
  have y_sorted := PySem.W.mg_none_of X G z_sorted
  have y_set := PySem.W.mg_none_of X G z_set
  have Fd0 := fun_mk (st := s_is_int) ld0 cd0 kd0
  have bd0 := Fd0.binds (ps := ["thing"]) fun _ _ _ _ _ _ us hl => match us, hl with | [_], _ => rfl
  have vd0 := PySem.W.mg_of X G ad0
  have Fd1 := fun_mk (st := s_is_between) ld1 cd1 kd1
  have bd1 := Fd1.binds (ps := ["thing", "least", "most"]) fun _ _ _ _ _ _ us hl => match us, hl with | [_, _, _], _ => rfl
  have vd1 := PySem.W.mg_of X G ad1
  have Fd2 := fun_mk (st := s_is_work) ld2 cd2 kd2
  have bd2 := Fd2.binds (ps := ["thing"]) fun _ _ _ _ _ _ us hl => match us, hl with | [_], _ => rfl
  have vd2 := PySem.W.mg_of X G ad2
  have Fd3 := fun_mk (st := s_bars) ld3 cd3 kd3
  have bd3 := Fd3.binds (ps := ["one", "other"]) fun _ _ _ _ _ _ us hl => match us, hl with | [_, _], _ => rfl
  have vd3 := PySem.W.mg_of X G ad3
  have Fd4 := fun_mk (st := s_require_work) ld4 cd4 kd4
  have bd4 := Fd4.binds (ps := ["thing"]) fun _ _ _ _ _ _ us hl => match us, hl with | [_], _ => rfl
  have vd4 := PySem.W.mg_of X G ad4
  have Fd5 := fun_mk (st := s_clashes_behind) ld5 cd5 kd5
  have bd5 := Fd5.binds (ps := ["one", "other", "distance"]) fun _ _ _ _ _ _ us hl => match us, hl with | [_, _, _], _ => rfl
  have vd5 := PySem.W.mg_of X G ad5
  have Fd6 := fun_mk (st := s_is_kind) ld6 cd6 kd6
  have bd6 := Fd6.binds (ps := ["line", "thing"]) fun _ _ _ _ _ _ us hl => match us, hl with | [_, _], _ => rfl
  have vd6 := PySem.W.mg_of X G ad6
  have Fd7 := fun_mk (st := s_require_kind) ld7 cd7 kd7
  have bd7 := Fd7.binds (ps := ["line", "thing"]) fun _ _ _ _ _ _ us hl => match us, hl with | [_, _], _ => rfl
  have vd7 := PySem.W.mg_of X G ad7
  have Fd8 := fun_mk (st := s_bars_of_all) ld8 cd8 kd8
  have bd8 := Fd8.binds (ps := ["works"]) fun _ _ _ _ _ _ us hl => match us, hl with | [_], _ => rfl
  have vd8 := PySem.W.mg_of X G ad8
  have Fd9 := fun_mk (st := s_require_line) ld9 cd9 kd9
  have bd9 := Fd9.binds (ps := ["thing"]) fun _ _ _ _ _ _ us hl => match us, hl with | [_], _ => rfl
  have vd9 := PySem.W.mg_of X G ad9
  have Fd10 : FunD K "require_near" "require_near" (defArgs s_require_near) (defBody s_require_near) (defScope s_require_near) [.int 8, .int 5] [] fd10 _ := ⟨⟨_, _, _, _, _, _, _, _, _, _, rfl, ld10, cd10, .inr ⟨(fun z => nomatch z), Dd10, _, [.int 8 tDd10_0, .int 5 tDd10_1], _, rfl, D_d10, rfl, (.cons ⟨_, rfl⟩ (.cons ⟨_, rfl⟩ .nil))⟩, .inl rfl⟩, kd10⟩
  obtain ⟨dsd10, bd10⟩ := FunD.binds1 (ps := ["line", "of_one", "of_several"]) Fd10 1 0 (fun z => nomatch z) rfl fun _ _ _ _ _ _ _ us its h1 h2 => match us, its, h1, h2 with | [_], [_, _], _, _ => ⟨_, rfl, rfl⟩
  have vd10 := PySem.W.mg_of X G ad10
  have Fd11 := fun_mk (st := s_greedy) ld11 cd11 kd11
  have bd11 := Fd11.binds (ps := ["work"]) fun _ _ _ _ _ _ us hl => match us, hl with | [_], _ => rfl
  have vd11 := PySem.W.mg_of X G ad11
  have Fd12 := fun_mk (st := s_until_repeated) ld12 cd12 kd12
  have bd12 := Fd12.binds (ps := ["barred"]) fun _ _ _ _ _ _ us hl => match us, hl with | [_], _ => rfl
  have vd12 := PySem.W.mg_of X G ad12
  have Fd13 := fun_mk (st := s_next_distance) ld13 cd13 kd13
  have bd13 := Fd13.binds (ps := ["barred", "agos"]) fun _ _ _ _ _ _ us hl => match us, hl with | [_, _], _ => rfl
  have vd13 := PySem.W.mg_of X G ad13
  have Fd14 := fun_mk (st := s_with_fewest_before) ld14 cd14 kd14
  have bd14 := Fd14.binds (ps := ["before", "again"]) fun _ _ _ _ _ _ us hl => match us, hl with | [_, _], _ => rfl
  have vd14 := PySem.W.mg_of X G ad14
  have Fd15 := fun_mk (st := s_l_cell_at) ld15 cd15 kd15
  have bd15 := Fd15.binds (ps := ["_law_script", "_law_k"]) fun _ _ _ _ _ _ us hl => match us, hl with | [_, _], _ => rfl
  have vd15 := PySem.W.mg_of X G ad15
  have Fd16 := fun_mk (st := s_l_pen) ld16 cd16 kd16
  have bd16 := Fd16.binds (ps := ["_law_cell"]) fun _ _ _ _ _ _ us hl => match us, hl with | [_], _ => rfl
  have vd16 := PySem.W.mg_of X G ad16
  have Fd17 := fun_mk (st := s_l_draw) ld17 cd17 kd17
  have bd17 := Fd17.binds (ps := ["_law_pen_here", "_law_many"]) fun _ _ _ _ _ _ us hl => match us, hl with | [_, _], _ => rfl
  have vd17 := PySem.W.mg_of X G ad17
  have Fd18 := fun_mk (st := s_l_pick) ld18 cd18 kd18
  have bd18 := Fd18.binds (ps := ["_law_pen_here", "_law_some"]) fun _ _ _ _ _ _ us hl => match us, hl with | [_, _], _ => rfl
  have vd18 := PySem.W.mg_of X G ad18
  have Fd19 := fun_mk (st := s_l_same) ld19 cd19 kd19
  have bd19 := Fd19.binds (ps := ["_law_found", "_law_due"]) fun _ _ _ _ _ _ us hl => match us, hl with | [_, _], _ => rfl
  have vd19 := PySem.W.mg_of X G ad19
  have Fd20 := fun_mk (st := s_l_names) ld20 cd20 kd20
  have bd20 := Fd20.binds (ps := ["_law_pen_here"]) fun _ _ _ _ _ _ us hl => match us, hl with | [_], _ => rfl
  have vd20 := PySem.W.mg_of X G ad20
  have Fd21 := fun_mk (st := s_l_work) ld21 cd21 kd21
  have bd21 := Fd21.binds (ps := ["_law_pen_here", "_law_names_here", "_law_far", "_law_blocks"]) fun _ _ _ _ _ _ us hl => match us, hl with | [_, _, _, _], _ => rfl
  have vd21 := PySem.W.mg_of X G ad21
  have Fd22 := fun_mk (st := s_l_between) ld22 cd22 kd22
  have bd22 := Fd22.binds (ps := ["_law_one", "_law_other"]) fun _ _ _ _ _ _ us hl => match us, hl with | [_, _], _ => rfl
  have vd22 := PySem.W.mg_of X G ad22
  have Fd23 := fun_mk (st := s_l_walk) ld23 cd23 kd23
  have bd23 := Fd23.binds (ps := ["_law_spans"]) fun _ _ _ _ _ _ us hl => match us, hl with | [_], _ => rfl
  have vd23 := PySem.W.mg_of X G ad23
  have Fd24 := fun_mk (st := s_l_greedy) ld24 cd24 kd24
  have bd24 := Fd24.binds (ps := ["_law_spans"]) fun _ _ _ _ _ _ us hl => match us, hl with | [_], _ => rfl
  have vd24 := PySem.W.mg_of X G ad24
  have Fd25 := fun_mk (st := s_law) ld25 cd25 kd25
  have bd25 := Fd25.binds (ps := ["_law_script"]) fun _ _ _ _ _ _ us hl => match us, hl with | [_], _ => rfl
  have vd25 := PySem.W.mg_of X G ad25
  have Fm0 := fun_mk (st := s_Line_init) lm0 cm0 km0
  have Fm1 := fun_mk (st := s_Line_len) lm1 cm1 km1
  have bm1 := Fm1.binds (ps := ["self"]) fun _ _ _ _ _ _ us hl => match us, hl with | [_], _ => rfl
  have Fm2 := fun_mk (st := s_Line_call) lm2 cm2 km2
  have bm2 := Fm2.binds (ps := ["self", "one", "other"]) fun _ _ _ _ _ _ us hl => match us, hl with | [_, _, _], _ => rfl
  have Fm3 := fun_mk (st := s_Line_add) lm3 cm3 km3
  have bm3 := Fm3.binds (ps := ["self", "other"]) fun _ _ _ _ _ _ us hl => match us, hl with | [_, _], _ => rfl
  have Fm4 := fun_mk (st := s_Line_sub) lm4 cm4 km4
  have bm4 := Fm4.binds (ps := ["self", "other"]) fun _ _ _ _ _ _ us hl => match us, hl with | [_, _], _ => rfl
  have Fm5 := fun_mk (st := s_Line_neg) lm5 cm5 km5
  have bm5 := Fm5.binds (ps := ["self"]) fun _ _ _ _ _ _ us hl => match us, hl with | [_], _ => rfl
  have Fm6 := fun_mk (st := s_Line_eq) lm6 cm6 km6
  have bm6 := Fm6.binds (ps := ["self", "other"]) fun _ _ _ _ _ _ us hl => match us, hl with | [_, _], _ => rfl
  have Fm7 := fun_mk (st := s_Line_getitem) lm7 cm7 km7
  have bm7 := Fm7.binds (ps := ["self", "at"]) fun _ _ _ _ _ _ us hl => match us, hl with | [_, _], _ => rfl
  have Fm8 := fun_mk (st := s_Line_repr) lm8 cm8 km8
  have bm8 := Fm8.binds (ps := ["self"]) fun _ _ _ _ _ _ us hl => match us, hl with | [_], _ => rfl
  have Fp0 := fun_mk (st := s_Line_works) lp0 cp0 kp0
  have bp0 := Fp0.binds (ps := ["self"]) fun _ _ _ _ _ _ us hl => match us, hl with | [_], _ => rfl
  have Fp1 := fun_mk (st := s_Line_reach) lp1 cp1 kp1
  have bp1 := Fp1.binds (ps := ["self"]) fun _ _ _ _ _ _ us hl => match us, hl with | [_], _ => rfl
  have N_NOWHERE : ∃ t, mg "NOWHERE" = some (.int (-1) t) := ⟨_, PySem.W.mg_of X G u_NOWHERE⟩
  have N_STATIONS : ∃ t, mg "STATIONS" = some (.int (10) t) := ⟨_, PySem.W.mg_of X G u_STATIONS⟩
  have N_MOST_ITEMS : ∃ t, mg "MOST_ITEMS" = some (.int (60) t) := ⟨_, PySem.W.mg_of X G u_MOST_ITEMS⟩
  have N_MOST_WORKS : ∃ t, mg "MOST_WORKS" = some (.int (3) t) := ⟨_, PySem.W.mg_of X G u_MOST_WORKS⟩
  have cl : Cls K C := ⟨pg, hd, po, sa⟩
  have T : LC K mg C := ⟨cl, nW, nB, nR, PySem.W.mg_of X G aC⟩
  have kit : PySem.W.kitOne K (.ref C) (.ref C) = some true := by unfold PySem.W.kitOne; simp
  have I : LI K C := ⟨ha, hn, ht, hm, kit⟩
  have O : Ops K C := ⟨sf, ⟨none, rs, .inl rfl⟩, ⟨_, is1⟩, ⟨_, ir1⟩, nsub, ne, ob⟩
  have Mi : Mk K C fm0 := ⟨mk, am0, im0, kc⟩
  refine ⟨PySem.W.fnOf "law" "law" (defArgs s_law) (defBody s_law) (defScope s_law) .none kVd25 dcd25 pmd25 and25 cdd25 ctd25, fun s v => .of_eq rfl, fun base _ _ => ?_⟩
  have Gd0 := ok_is_int (P := l.prog) (w := w) (mg := mg) (base := base) (k := 0) Fd0 y_isinstance y_int y_bool
  have Gd1 := ok_is_between (P := l.prog) (w := w) (mg := mg) (base := base) (k := 1) Fd1 (Gd0.mono (by decide)) kd0 bd0 vd0
  have N : Nums mg := ⟨N_NOWHERE, N_STATIONS, N_MOST_ITEMS⟩
  have Gd2 := ok_is_work (P := l.prog) (w := w) (mg := mg) (base := base) (k := 2) Fd2 N (Gd1.mono (by decide)) kd1 bd1 vd1 y_isinstance y_tuple y_len y_all
  have Gd4 := ok_require_work (P := l.prog) (w := w) (mg := mg) (base := base) (k := 3) Fd4 (Gd2.mono (by decide)) kd2 bd2 vd2
  have Gd5 := ok_clashes_behind (P := l.prog) (w := w) (mg := mg) (base := base) (k := 3) Fd5 N y_any y_zip
  have Gd3 := ok_bars (P := l.prog) (w := w) (mg := mg) (base := base) (k := 4) Fd3 Gd4 kd4 bd4 vd4 Gd5 kd5 bd5 vd5 y_tuple y_range y_len
  have Gd8 := ok_bars_of_all (P := l.prog) (w := w) (mg := mg) (base := base) (k := 5) Fd8 y_tuple Gd3 kd3 bd3 vd3
  have Gi := ok_init (P := l.prog) (w := w) (mg := mg) (base := base) (k := 6) Fm0 T N_MOST_WORKS (Gd2.mono (by decide)) kd2 bd2 vd2 Gd8 kd8 bd8 vd8 y_all y_len y_max
  have Glen := ok_len (P := l.prog) (w := w) (mg := mg) (base := base) (k := 1) Fm1 T y_len
  have Gd6 := ok_is_kind (P := l.prog) (w := w) (mg := mg) (base := base) (k := 2) Fd6 T y_len Gd1 kd1 bd1 vd1 Glen bm1 am1 im1
  have Gd7 := ok_require_kind (P := l.prog) (w := w) (mg := mg) (base := base) (k := 4) Fd7 Gd6 kd6 bd6 vd6
  have Gcall := ok_call (P := l.prog) (w := w) (mg := mg) (base := base) (k := 5) Fm2 T Gd7 kd7 bd7 vd7
  have Gadd := ok_add (P := l.prog) (w := w) (mg := mg) (base := base) (k := 7) Fm3 T I Mi Gi y_isinstance
  have Gsub := ok_sub (P := l.prog) (w := w) (mg := mg) (base := base) (k := 7) Fm4 T Mi Gi (Gd7.mono (by decide)) kd7 bd7 vd7 y_len
  have Gneg := ok_neg (P := l.prog) (w := w) (mg := mg) (base := base) (k := 7) Fm5 T Mi Gi
  have Geq := ok_eq (P := l.prog) (w := w) (mg := mg) (base := base) (k := 0) Fm6 T I y_isinstance
  have Gw := fn_getter (CX := CX0) (P := l.prog) (w := w) (mg := mg) (base := base) (k := 0) lp0 cp0 sc_Line_works rfl rfl cl nW
  have Gr := fn_getter (CX := CX0) (P := l.prog) (w := w) (mg := mg) (base := base) (k := 0) lp1 cp1 sc_Line_reach rfl rfl cl nR
  have M : Meths l.prog w K mg base 10 C := ⟨T, I, O, ⟨_, _, Glen.mono (by decide), bm1, am1, im1⟩, ⟨_, _, ⟨Gcall.mono (by decide), bm2, am2, im2⟩, fi⟩, ⟨_, _, Gadd.mono (by decide), bm3, am3, im3⟩, ⟨_, _, Gsub.mono (by decide), bm4, am4, im4⟩, ⟨_, _, Gneg.mono (by decide), bm5, am5, im5⟩, ⟨_, _, Geq.mono (by decide), bm6, am6, im6⟩, ⟨_, _, _, ⟨ap0, gp0, tp0, _, rp0⟩, Gw.mono (by decide), bp0⟩, ⟨_, _, _, ⟨ap1, gp1, tp1, _, rp1⟩, Gr.mono (by decide), bp1⟩, ⟨_, Mi, Gi.mono (by decide)⟩⟩
  have Gitem := ok_item (P := l.prog) (w := w) (mg := mg) (base := base) (k := 5) Fm7 T Gd7 kd7 bd7 vd7
  have Grepr := ok_repr (P := l.prog) (w := w) (mg := mg) (base := base) (k := 0) Fm8 T y_len
  have M2 : Meths2 l.prog w K mg base 10 C := ⟨M, ⟨_, _, ⟨Gitem.mono (by decide), bm7, am7, im7⟩, fg⟩, ⟨_, _, Grepr.mono (by decide), bm8, am8, im8⟩⟩
  have Gd9 := ok_require_line (P := l.prog) (w := w) (mg := mg) (base := base) (k := 0) Fd9 T I y_isinstance
  have Gd10 := ok_require_near (P := l.prog) (w := w) (mg := mg) (base := base) (k := 10) Fd10 M (Gd9.mono (by decide)) kd9 bd9 vd9 y_len
  have Gd13 := ok_next_distance (P := l.prog) (w := w) (mg := mg) (base := base) (k := 0) Fd13 y_any
  have Gd12 := ok_until (P := l.prog) (w := w) (mg := mg) (base := base) (k := 1) Fd12 (Gd13.mono (by decide)) kd13 bd13 vd13 y_max y_len
  have Gd14 := ok_fewest (P := l.prog) (w := w) (mg := mg) (base := base) (k := 0) Fd14
  have Gd11 := ok_greedy (P := l.prog) (w := w) (mg := mg) (base := base) (k := 10) Fd11 M (Gd10.mono (by decide)) kd10 ⟨bd10.1, bd10.2⟩ vd10 (Gd12.mono (by decide)) kd12 bd12 vd12 (Gd14.mono (by decide)) kd14 bd14 vd14 y_tuple
  have Gd15 := ok_l_cell_at (P := l.prog) (w := w) (mg := mg) (base := base) (k := 0) Fd15 y_len
  have Gd16 := ok_l_pen (P := l.prog) (w := w) (mg := mg) (base := base) (k := 0) Fd16 y_max
  have Gd17 := ok_l_draw (P := l.prog) (w := w) (mg := mg) (base := base) (k := 0) Fd17
  have Gd18 := ok_pick (P := l.prog) (w := w) (mg := mg) (base := base) (k := 1) Fd18 (Gd17.mono (by decide)) kd17 bd17 vd17 y_len
  have Gd19 := ok_l_same (P := l.prog) (w := w) (mg := mg) (base := base) (k := 0) Fd19 y_repr
  have Gd20 := ok_names (P := l.prog) (w := w) (mg := mg) (base := base) (k := 2) Fd20 (Gd17.mono (by decide)) kd17 bd17 vd17 (Gd18.mono (by decide)) kd18 bd18 vd18 y_range
  have Gd21 := ok_lwork (P := l.prog) (w := w) (mg := mg) (base := base) (k := 2) Fd21 (Gd17.mono (by decide)) kd17 bd17 vd17 (Gd18.mono (by decide)) kd18 bd18 vd18 y_range y_tuple y_len
  have Gd22 := ok_between (P := l.prog) (w := w) (mg := mg) (base := base) (k := 0) Fd22 y_enumerate y_len y_range y_min y_sorted y_set
  have Gd23 := ok_walk (P := l.prog) (w := w) (mg := mg) (base := base) (k := 0) Fd23 y_max
  have Gd24 := ok_lgreedy (P := l.prog) (w := w) (mg := mg) (base := base) (k := 1) Fd24 (Gd23.mono (by decide)) kd23 bd23 vd23 y_len y_tuple
  have kb_greedy : KBinds K (PySem.W.fnOf "greedy" "greedy" (defArgs s_greedy) (defBody s_greedy) (defScope s_greedy) .none kVd11 dcd11 pmd11 and11 cdd11 ctd11) ["work"] ["work"] kwI kwI := by
    refine ⟨fun s us ws _ hl => ?_, kwI_rel⟩
    match us, ws, hl with
    | [], [a], _ => exact .of_eq rfl
    | [], [], hl => exact absurd hl (by simp [kwI])
    | [], _ :: _ :: _, hl => exact absurd hl (by simp [kwI])
    | _ :: _, _, hl => exact absurd hl (by simp [kwI])
  exact ok_law (P := l.prog) (w := w) (mg := mg) (base := base) (k := 20) Fd25 (Gd15.mono (by decide)) kd15 bd15 vd15 (Gd16.mono (by decide)) kd16 bd16 vd16 (Gd18.mono (by decide)) kd18 bd18 vd18 (Gd20.mono (by decide)) kd20 bd20 vd20 (Gd21.mono (by decide)) kd21 bd21 vd21 (Gd22.mono (by decide)) kd22 bd22 vd22 (Gd24.mono (by decide)) kd24 bd24 vd24 (Gd11.mono (by decide)) kd11 bd11 vd11 (Gd19.mono (by decide)) kd19 bd19 vd19 kb_greedy y_len y_range y_max y_min
end Sg

set_option Elab.async false
set_option linter.all false
open PySem PySem.W PyProof.Rows
set_option maxRecDepth 100000 in
set_option maxHeartbeats 0 in
theorem PySem.Challenge.cw_startgaps_k32_greedy_distances_holds : PySem.Challenge.rw_startgaps_k32_greedy_distances.Holds := by
  w_on; o_law; k_head; (case hw => w_witness2)
  k_fill
  refine Sg.walk_law (l := PySem.Challenge.rw_startgaps_k32_greedy_distances) (k := 21) (x := "_law_script") (sp := Sg.spLaw) rfl rfl ⟨rfl, by decide, by decide⟩ (fun w h Y => PySem.W.kIn_of Y) ?F (fun K H a ns hl _ hS => ⟨a, ns, rfl, hS, hl, fun _ => rfl⟩)
  case F =>
    intro w mg fa h KX G hmg
    refine' Sg.all_mk KX G hmg ?ad0 ?ld0 ?cd0 ?kd0 ?ad1 ?ld1 ?cd1 ?kd1 ?ad2 ?ld2 ?cd2 ?kd2 ?ad3 ?ld3 ?cd3 ?kd3 ?ad4 ?ld4 ?cd4 ?kd4 ?ad5 ?ld5 ?cd5 ?kd5 ?ad6 ?ld6 ?cd6 ?kd6 ?ad7 ?ld7 ?cd7 ?kd7 ?ad8 ?ld8 ?cd8 ?kd8 ?ad9 ?ld9 ?cd9 ?kd9 ?ad10 ?ld10 ?D_d10 ?cd10 ?kd10 ?ad11 ?ld11 ?cd11 ?kd11 ?ad12 ?ld12 ?cd12 ?kd12 ?ad13 ?ld13 ?cd13 ?kd13 ?ad14 ?ld14 ?cd14 ?kd14 ?ad15 ?ld15 ?cd15 ?kd15 ?ad16 ?ld16 ?cd16 ?kd16 ?ad17 ?ld17 ?cd17 ?kd17 ?ad18 ?ld18 ?cd18 ?kd18 ?ad19 ?ld19 ?cd19 ?kd19 ?ad20 ?ld20 ?cd20 ?kd20 ?ad21 ?ld21 ?cd21 ?kd21 ?ad22 ?ld22 ?cd22 ?kd22 ?ad23 ?ld23 ?cd23 ?kd23 ?ad24 ?ld24 ?cd24 ?kd24 ?ad25 ?ld25 ?cd25 ?kd25 ?aC ?am0 ?im0 ?lm0 ?cm0 ?km0 ?am1 ?im1 ?lm1 ?cm1 ?km1 ?am2 ?im2 ?lm2 ?cm2 ?km2 ?am3 ?im3 ?lm3 ?cm3 ?km3 ?am4 ?im4 ?lm4 ?cm4 ?km4 ?am5 ?im5 ?lm5 ?cm5 ?km5 ?am6 ?im6 ?lm6 ?cm6 ?km6 ?am7 ?im7 ?lm7 ?cm7 ?km7 ?am8 ?im8 ?lm8 ?cm8 ?km8 ?ap0 ?gp0 ?tp0 ?rp0 ?lp0 ?cp0 ?kp0 ?ap1 ?gp1 ?tp1 ?rp1 ?lp1 ?cp1 ?kp1 ?pg ?hd ?po ?sa ?mk ?kc ?nW ?nB ?nR ?ha ?hn ?ht ?hm ?sf ?rs ?is1 ?ir1 ?nsub ?ne ?ob ?fi ?fg ?z_isinstance ?z_int ?z_bool ?z_tuple ?z_len ?z_all ?z_any ?z_zip ?z_range ?z_max ?z_min ?z_enumerate ?z_repr ?z_sorted ?z_set ?u_NOWHERE ?u_STATIONS ?u_MOST_ITEMS ?u_MOST_WORKS
    (case ad0 => k_is)
    (case ld0 => k_is)
    (case cd0 => k_is)
    (case kd0 => k_is)
    (case ad1 => k_is)
    (case ld1 => k_is)
    (case cd1 => k_is)
    (case kd1 => k_is)
    (case ad2 => k_is)
    (case ld2 => k_is)
    (case cd2 => k_is)
    (case kd2 => k_is)
    (case ad3 => k_is)
    (case ld3 => k_is)
    (case cd3 => k_is)
    (case kd3 => k_is)
    (case ad4 => k_is)
    (case ld4 => k_is)
    (case cd4 => k_is)
    (case kd4 => k_is)
    (case ad5 => k_is)
    (case ld5 => k_is)
    (case cd5 => k_is)
    (case kd5 => k_is)
    (case ad6 => k_is)
    (case ld6 => k_is)
    (case cd6 => k_is)
    (case kd6 => k_is)
    (case ad7 => k_is)
    (case ld7 => k_is)
    (case cd7 => k_is)
    (case kd7 => k_is)
    (case ad8 => k_is)
    (case ld8 => k_is)
    (case cd8 => k_is)
    (case kd8 => k_is)
    (case ad9 => k_is)
    (case ld9 => k_is)
    (case cd9 => k_is)
    (case kd9 => k_is)
    (case ad10 => k_is)
    (case ld10 => k_is)
    (case D_d10 => k_is)
    (case cd10 => k_is)
    (case kd10 => k_is)
    (case ad11 => k_is)
    (case ld11 => k_is)
    (case cd11 => k_is)
    (case kd11 => k_is)
    (case ad12 => k_is)
    (case ld12 => k_is)
    (case cd12 => k_is)
    (case kd12 => k_is)
    (case ad13 => k_is)
    (case ld13 => k_is)
    (case cd13 => k_is)
    (case kd13 => k_is)
    (case ad14 => k_is)
    (case ld14 => k_is)
    (case cd14 => k_is)
    (case kd14 => k_is)
    (case ad15 => k_is)
    (case ld15 => k_is)
    (case cd15 => k_is)
    (case kd15 => k_is)
    (case ad16 => k_is)
    (case ld16 => k_is)
    (case cd16 => k_is)
    (case kd16 => k_is)
    (case ad17 => k_is)
    (case ld17 => k_is)
    (case cd17 => k_is)
    (case kd17 => k_is)
    (case ad18 => k_is)
    (case ld18 => k_is)
    (case cd18 => k_is)
    (case kd18 => k_is)
    (case ad19 => k_is)
    (case ld19 => k_is)
    (case cd19 => k_is)
    (case kd19 => k_is)
    (case ad20 => k_is)
    (case ld20 => k_is)
    (case cd20 => k_is)
    (case kd20 => k_is)
    (case ad21 => k_is)
    (case ld21 => k_is)
    (case cd21 => k_is)
    (case kd21 => k_is)
    (case ad22 => k_is)
    (case ld22 => k_is)
    (case cd22 => k_is)
    (case kd22 => k_is)
    (case ad23 => k_is)
    (case ld23 => k_is)
    (case cd23 => k_is)
    (case kd23 => k_is)
    (case ad24 => k_is)
    (case ld24 => k_is)
    (case cd24 => k_is)
    (case kd24 => k_is)
    (case ad25 => k_is)
    (case ld25 => k_is)
    (case cd25 => k_is)
    (case kd25 => k_is)
    (case aC => k_is)
    (case am0 => k_is)
    (case im0 => k_is)
    (case lm0 => k_is)
    (case cm0 => k_is)
    (case km0 => k_is)
    (case am1 => k_is)
    (case im1 => k_is)
    (case lm1 => k_is)
    (case cm1 => k_is)
    (case km1 => k_is)
    (case am2 => k_is)
    (case im2 => k_is)
    (case lm2 => k_is)
    (case cm2 => k_is)
    (case km2 => k_is)
    (case am3 => k_is)
    (case im3 => k_is)
    (case lm3 => k_is)
    (case cm3 => k_is)
    (case km3 => k_is)
    (case am4 => k_is)
    (case im4 => k_is)
    (case lm4 => k_is)
    (case cm4 => k_is)
    (case km4 => k_is)
    (case am5 => k_is)
    (case im5 => k_is)
    (case lm5 => k_is)
    (case cm5 => k_is)
    (case km5 => k_is)
    (case am6 => k_is)
    (case im6 => k_is)
    (case lm6 => k_is)
    (case cm6 => k_is)
    (case km6 => k_is)
    (case am7 => k_is)
    (case im7 => k_is)
    (case lm7 => k_is)
    (case cm7 => k_is)
    (case km7 => k_is)
    (case am8 => k_is)
    (case im8 => k_is)
    (case lm8 => k_is)
    (case cm8 => k_is)
    (case km8 => k_is)
    (case ap0 => k_is)
    (case gp0 => k_is)
    (case tp0 => k_is)
    (case rp0 => k_is)
    (case lp0 => k_is)
    (case cp0 => k_is)
    (case kp0 => k_is)
    (case ap1 => k_is)
    (case gp1 => k_is)
    (case tp1 => k_is)
    (case rp1 => k_is)
    (case lp1 => k_is)
    (case cp1 => k_is)
    (case kp1 => k_is)
    (case pg => k_is)
    (case hd => k_is)
    (case po => k_is)
    (case sa => k_is)
    (case mk => k_is)
    (case kc => k_is)
    (case nW => k_is)
    (case nB => k_is)
    (case nR => k_is)
    (case ha => k_is)
    (case hn => k_is)
    (case ht => k_is)
    (case hm => k_is)
    (case sf => k_is)
    (case rs => k_is)
    (case is1 => k_is)
    (case ir1 => k_is)
    (case nsub => k_is)
    (case ne => k_is)
    (case ob => k_is)
    (case fi => k_is)
    (case fg => k_is)
    (case z_isinstance => k_is)
    (case z_int => k_is)
    (case z_bool => k_is)
    (case z_tuple => k_is)
    (case z_len => k_is)
    (case z_all => k_is)
    (case z_any => k_is)
    (case z_zip => k_is)
    (case z_range => k_is)
    (case z_max => k_is)
    (case z_min => k_is)
    (case z_enumerate => k_is)
    (case z_repr => k_is)
    (case z_sorted => k_is)
    (case z_set => k_is)
    (case u_NOWHERE => k_is)
    (case u_STATIONS => k_is)
    (case u_MOST_ITEMS => k_is)
    (case u_MOST_WORKS => k_is)

