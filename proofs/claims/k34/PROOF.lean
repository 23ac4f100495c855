import PyProof.Rows.All
import HandS.ForMost
import HandS.IsInst
import HandS.TupMul
import HandS.TupAny
import HandS.Walk
import HandS.Zip
import PyProof.ReprRoads
import PyProof.ReprBulk
import KE.GoesMore
import PyProof.EnumMake
import HandS.Star
import HandS.Property
import HandS.SortKw
import KE.KOpsOwn
import KE.DataMinMax
import PyProof.InstNe
import HandS.Style
import HandS.DictTup
import PyProof.DictMoreH
import HandS.Iter
import PyProof.Rows.RowBridgeK
import HandS.Wide
import PyProof.Rows.ReprShort
import PyProof.ReprLen
import HandS.Conv
import HandS.TupSets
import PyProof.P3Statements
import PySem.Challenge.RW_startgaps_k34_constant_distances
set_option Elab.async false
set_option linter.all false
set_option maxRecDepth 100000
set_option maxHeartbeats 4000000
namespace Sg
open PySem PySem.Spec PyProof.Rows L2

/-! ## defs that may ask for a text of data: they run outside of every such text -/
/-- a promise that holds where no text of data is being made -/
structure FnG (P : Program) (w : World) (K : PySem.W.Frag) (mg : Str → Option Value) (base : Heap) (k : Nat) (f : Addr)
    (fd : FuncData) (ps : List Str) (sp : Sp) : Prop where
  arity : ∀ vs H Q, sp vs H Q E0 → vs.length = ps.length
  go : ∀ (A : Around) (outer : List Env) (s : Shared) (H : Hp) (args : Args) (us : List Value) (vs : List V) (Q : VK),
    A.guards = some [] → Room k A → Env0 P w K mg base A outer s H → BindsTo s fd args (ps.zip us) → Vals vs us →
    sp vs H Q E0 → codeAny (model P w) A (.call (.ref f) args) (CR CX0 outer P w H s Q E0) s

section
variable {P : Program} {w : World} {K : PySem.W.Frag} {mg : Str → Option Value} {base : Heap} {k : Nat} {f : Addr}
variable {fd : FuncData} {ps : List Str} {sp : Sp}

theorem FnG.of (F : FnOk P w K mg base CX0 k f fd ps sp) : FnG P w K mg base k f fd ps sp :=
  ⟨fun vs H Q h => F.len vs H Q E0 h, fun A outer s H args us vs Q _ hr e0 hb hv h =>
    F.run A outer s H args us vs Q E0 hr e0 hb hv h⟩

theorem FnG.mono {j : Nat} (F : FnG P w K mg base j f fd ps sp) (h : j ≤ k) : FnG P w K mg base k f fd ps sp :=
  ⟨F.arity, fun A outer s H args us vs Q hg hr => F.go A outer s H args us vs Q hg (hr.mono h)⟩

/-- a def's body, where no text of data is being made -/
theorem fnG_mk {x qual : Str} {st : Stmt} {N : List Str} (F : Fun K x qual st f fd)
    (S : FnScope N ps (defScope st)) (arity : ∀ vs H Q, sp vs H Q E0 → vs.length = ps.length)
    (hbody : ∀ (cdv : Value) (A : Around) (outer : List Env) (s : Shared) (H : Hp) (vs : List V) (Q : VK),
      (A.deeper (envOfC qual (defScope st) s.heap.objs.size f cdv)).guards = some [] →
      Room k (A.deeper (envOfC qual (defScope st) s.heap.objs.size f cdv)) → sp vs H Q E0 →
      ∃ t, PSs (cxOf CX0 P w K mg base N qual (defScope st) f cdv A outer s H E0).nox (defBody st) t ∧
        t { nx := fun _ H' => Q .non H', rt := Q } (start N vs) H) :
    FnG P w K mg base (k + 1) f fd ps sp := by
  obtain ⟨oc, od, kV, doc, pm, an, cdv, ct, osl, rfl, lk, hcd⟩ := F.ex
  refine ⟨arity, ?_⟩
  intro A outer s H args us vs Q hg hr e0 hb r hsp
  have hl := arity _ _ _ hsp
  have hk0 : ∀ b o, base.get? b = some o → s.heap.get? b = some o := fun b o e => (e0.bs b o e).1
  have KX : K.In s.heap := e0.mod.kin.keeps hk0
  have lim : s.heap.NoLimit := e0.mod.nolimit.keeps hk0
  refine codeAny_call_function hr.depth (KX _ _ lk) rfl S.co S.gen rfl (PySem.W.codeRec_of KX hcd) ?_
  refine hb _ _ _ _ (wpAny_newFunctionEnv_cells S.kind ?_ ?_)
  · rintro ⟨n, v⟩ hy
    have hn := S.par n (List.of_mem_zip hy).1
    cases hn with
    | inl q => exact .inl q
    | inr q => exact .inr ⟨q, PySem.W.cellsFrom_some _ _ _ (.inl q)⟩
  · intro env he s1 x
    subst he
    refine ⟨lim.keeps x.toInCall.keep, ?_⟩
    apply codeAny_func
    obtain ⟨t, ht, hq⟩ := hbody cdv A outer s H vs Q hg (hr.deeper _) hsp
    have ht' := ht.nox
    have I := inv_start (CX := CX0) (E := E0) (cd := cdv) (qual := qual) (f := f) S hr.hd e0 hl r x
    refine wpAny_mono (ht'.run [] s1 (start N vs) H _ I hq) ?_ (fun e s' hs => hs)
    intro fl s' hs
    cases fl with
    | ret u =>
      obtain ⟨v, σ', H', J, rv, q⟩ := hs
      exact ⟨v, H', J.os, J.bare, J.base, J.hok, rv, q⟩
    | next =>
      obtain ⟨σ', H', J, q⟩ := hs
      exact ⟨V.non, H', J.os, J.bare, J.base, J.hok, rfl, q⟩
    | brk => obtain ⟨_, _, _, q⟩ := hs; exact q.elim
    | cont => obtain ⟨_, _, _, q⟩ := hs; exact q.elim
end

section
variable {X : Cx} {k : Nat} {f : Addr} {fd : FuncData} {ps : List Str} {sp : Sp} {dvs : List V} {ds : List Value}
variable {x : Str} {p pos : Pos} {e : Expr} {es : List Expr} {t : TA}
/-- f(a, ..) of such a def -/
theorem pe_callG (F : FnG X.prog X.w X.K X.mg X.base k f fd ps sp) (hgd : X.A.guards = some []) (hr : Room k X.A)
    (hg : Gl X x) (hm : X.mg x = some (.ref f)) (hk : PySem.W.keepIn X.K (.ref f) = true) (hb : Binds X.K fd ps [])
    (ha : PA X (e :: es) t) (hdb : (x == ("__debug__" : Str)) = false := by decide)
    (he : starEach (e :: es) X.env = (false, eval e X.env) :: starEach es X.env := by rfl)
    (hpl : (backTo pos (starEach es X.env)).any (·.1) = false := by rfl) :
    PE X (.Call (.Name x p) (e :: es) [] pos) (tCall sp [] E0 t) := by
  constructor
  intro pins s σ H Q I h
  refine wpAny_Call_Name_kw (ld_glob I hg hm (PySem.W.callWith_K (h₀ := X.base) I.ok.mod.kin hk ?_ he hpl) hdb)
  refine thn (ha.run pos pins s σ H _ I h) ?_
  rintro us s1 ⟨vs, H1, I1, r, q⟩
  refine ⟨I1.kIn, ?_⟩
  rw [List.append_nil] at q
  have hl : (us ++ []).length = ps.length := by rw [List.append_nil, ← r.length]; exact F.arity _ _ _ q
  have hbb := hb s1 us I1.kIn hl
  rw [List.append_nil] at hbb
  refine wpAny_call (codeAny_mono (F.go X.A X.stack s1 H1 ⟨us, []⟩ us vs Q hgd hr I1.env0 hbb r q) ?_)
  intro r' s' hq
  match r', hq with
  | .error _, hq => exact hq.elim
  | .ok (.ret _), hq => exact I1.after hq
  | .ok .next, hq => exact hq.elim
  | .ok .brk, hq => exact hq.elim
  | .ok .cont, hq => exact hq.elim

/-! ## repr of data -/
/-- what may be shown: its ints are not too great, and the text is not too long -/
def Shows (d : PyData) : Prop := d.showable = true ∧ d.hasDict = false ∧ d.depth ≤ 40 ∧ d.shown.length ≤ sizeLine
theorem call_reprD {j : Nat} (hgd : X.A.guards = some []) (hr : Room j X.A) :
    CallR X (.builtin "repr") (fun xs H Q => ∃ a d, xs = [.ref a] ∧ Dp X.K H (.ref a) d ∧ Shows d ∧ Q (.str d.shown) H) := by
  intro pins s σ H xs us Q I r h
  obtain ⟨a, d, rfl, hd, ⟨h1, h2, h3, h4⟩, q⟩ := h
  obtain ⟨u, rfl, rfl⟩ := vals1 r
  obtain ⟨as, rd⟩ := Dp.reads I d (.ref a) (.ref a) hd rfl
  have hu := hr.units
  refine repr_of_reads' (h₀ := s.heap) rd h1 (fun z => ?_) hgd (by omega) (fun _ _ z => z) (fun h' u tk hk => ?_) h4
  · rw [h2] at z; cases z
  · exact ⟨.str d.shown, H, I.kept hk, ⟨u, rfl⟩, q⟩
end
end Sg

set_option Elab.async false
set_option linter.all false
set_option maxRecDepth 100000
set_option maxHeartbeats 4000000
namespace Sg
open PySem PySem.Spec PyProof.Rows L2
/-! ## the law's own call -/
section
variable {P : Program} {w : World} {K : PySem.W.Frag} {mg mb : Str → Option Value} {k : Nat} {fa a : Addr}
variable {fd : FuncData} {x : Str} {sp : Sp} {s₁ : Shared} {vs : List Value} {ns : List Int}

/-- what is asked of the law's call -/
abbrev Ended (s₁ : Shared) : Result → Shared → Prop := fun r s' =>
  r = .ok (.ret (.bool true)) ∧ OldK s₁.heap s'.heap ∧ s'.os = s₁.os ∧ AllBare s'.gens

theorem call_from {H : Hp} (KX : K.In s₁.heap) (hns : s₁.heap.Ns mainGlobals mg) (hb : s₁.heap.Ns builtinsNs mb)
    (hbb : ∀ x : Str, x ≠ "__name__" → mb x = bootBuiltins x) (hlim : s₁.heap.NoLimit) (hg : s₁.gens = #[])
    (ha : s₁.heap.get? a = some { cls := .type "list", data := .seq vs.toArray }) (hr : Room k callerA)
    (F : ∀ base : Heap, K.In base → base.Ns mainGlobals mg → FnG P w K mg base k fa fd [x] sp)
    (hbind : ∀ (s : Shared) (u : Value), BindsTo s fd ⟨[u], []⟩ [(x, u)])
    (hsp : sp [.ref a] H (fun v _ => v = .bl true) E0) (hO : Only H) (hok : HOk P w H s₁.heap)
    (hA : ∀ b, H b ≠ none → b = a) (hK : H a ≠ none → K.lookup a = none) :
    codeAny (model P w) callerA (.call (.ref fa) ⟨[.ref a], []⟩) (Ended s₁) s₁ := by
  have only : ∀ {b : Addr} {u : HO}, H b = some u → b = a := fun z => hA _ (by rw [z]; exact fun q => nomatch q)
  have free : ∀ {b : Addr} {o : Obj} {es : Array DictEntry} {ep : Nat},
      s₁.heap.get? b = some o → o.data = .dict es ep → H b = none := by
    intro b o es ep e d
    rcases q : H b with _ | u
    · rfl
    · rw [only q, ha] at e
      have e' := Option.some.inj e
      rw [← e'] at d
      exact nomatch d
  have nsK : ∀ {b : Addr} {m : Str → Option Value}, s₁.heap.Ns b m → (hidT s₁.heap H).Ns b m := by
    rintro b m ⟨o, es, ep, e, d, r⟩
    exact ⟨o, es, ep, hidT_get e (free e d), d, r⟩
  have hKb : K.In (hidT s₁.heap H) := by
    intro b o e
    refine hidT_get (KX b o e) ?_
    rcases q : H b with _ | u
    · rfl
    · have e' := only q
      subst e'
      have z := hK (by rw [q]; exact fun q => nomatch q)
      rw [z] at e
      exact nomatch e
  have hM : Mod K mg (hidT s₁.heap H) := by
    refine ⟨hKb, nsK hns, ⟨mb, nsK hb, hbb⟩, ?_⟩
    obtain ⟨mc, h1, h2⟩ := hlim
    exact ⟨mc, nsK h1, h2⟩
  have e0 : Env0 P w K mg (hidT s₁.heap H) callerA [] s₁ H := by
    refine ⟨rfl, hM, fun b o e => of_hidT e, Nat.le_of_eq (hidT_size _ _), trivial, ?_, hok, .of_eq hg⟩
    intro b hb
    have hb' : b ∈ ([] : List Addr) := hb
    exact nomatch hb'
  have run := (F _ hKb (nsK hns)).go callerA [] s₁ H ⟨[.ref a], []⟩ [.ref a] [.ref a] _ rfl hr e0
    (hbind s₁ (.ref a)) (.cons rfl .nil) hsp
  refine codeAny_mono run ?_
  intro r s' h
  match r, h with
  | .error _, h => exact h.elim
  | .ok .next, h => exact h.elim
  | .ok .brk, h => exact h.elim
  | .ok .cont, h => exact h.elim
  | .ok (.ret u), h =>
    obtain ⟨v, H', os, bare, un, hok', r', q⟩ := h
    have q' : v = .bl true := q
    subst q'
    have eu : u = Value.bool true := r'
    subst eu
    refine ⟨rfl, OldK.of_keep ?_, os, bare⟩
    intro b o e
    rcases q : H b with _ | u
    · refine un.keep b o e q (fun z => ?_) (fun z => nomatch z)
      have z' : b ∈ ([] : List Addr) := z
      exact nomatch z'
    · rcases hO b with z | ⟨ob, xs, z⟩
      · rw [q] at z; exact nomatch z
      · obtain ⟨e1, _⟩ := hok b _ z
        obtain ⟨e2, _⟩ := hok' b _ (un.frzs b ob _ z)
        rw [e] at e1
        rw [e2, Option.some.inj e1]

theorem call_law (KX : K.In s₁.heap) (hns : s₁.heap.Ns mainGlobals mg) (hb : s₁.heap.Ns builtinsNs mb)
    (hbb : ∀ x : Str, x ≠ "__name__" → mb x = bootBuiltins x) (hlim : s₁.heap.NoLimit) (hg : s₁.gens = #[])
    (ha : s₁.heap.get? a = some { cls := .type "list", data := .seq vs.toArray }) (hi : IntsAre vs ns)
    (hl : ns.length ≤ sizeLine) (hr : Room k callerA)
    (F : ∀ base : Heap, K.In base → base.Ns mainGlobals mg → FnG P w K mg base k fa fd [x] sp)
    (hbind : ∀ (s : Shared) (u : Value), BindsTo s fd ⟨[u], []⟩ [(x, u)])
    (hsp : ∀ H : Hp, Only H → SqL K H a (ns.map V.int) → sp [.ref a] H (fun v _ => v = .bl true) E0) :
    codeAny (model P w) callerA (.call (.ref fa) ⟨[.ref a], []⟩) (Ended s₁) s₁ := by
  have rv := vals_ints hi
  have lenV := hi.length
  rcases hk : K.lookup a with _ | o
  · let H : Hp := fun b => if b = a then some (.frz { cls := .type "list", data := .seq vs.toArray } (.lst (ns.map V.int))) else none
    have at_a : H a = some (.frz { cls := .type "list", data := .seq vs.toArray } (.lst (ns.map V.int))) := if_pos rfl
    have off : ∀ b, b ≠ a → H b = none := fun b hb => if_neg hb
    have onlyH : Only H := by
      intro b
      by_cases hb : b = a
      · exact .inr ⟨_, _, if_pos hb⟩
      · exact .inl (off b hb)
    refine call_from (H := H) KX hns hb hbb hlim hg ha hr F hbind (hsp H onlyH (.inl (.inr ⟨_, at_a⟩))) onlyH ?_ ?_ (fun _ => hk)
    · intro b u z
      by_cases hb : b = a
      · subst hb
        rw [at_a] at z
        obtain rfl := Option.some.inj z
        exact ⟨ha, by rw [List.length_map]; exact hl, vs, _, rv, ha⟩
      · rw [off b hb] at z; exact nomatch z
    · intro b z
      by_cases hb : b = a
      · exact hb
      · exact absurd (off b hb) z
  · have e := KX a o hk
    rw [ha] at e
    obtain rfl := Option.some.inj e
    refine call_from (H := fun _ => none) KX hns hb hbb hlim hg ha hr F hbind (hsp _ (fun _ => .inl rfl) (.inr ?_)) (fun _ => .inl rfl)
      (fun b u z => nomatch z) (fun b z => absurd rfl z) (fun z => absurd rfl z)
    exact ⟨_, vs.toArray, _, hk, rfl, rfl, rfl, by rw [List.size_toArray, lenV]; exact hl, rv⟩
end

/-- the end of a law's proof -/
theorem walk_law {l : PySem.W.OpenLaw} {k : Nat} {q : Program} {loose : List Str} {XP : (Str → Option Value) → Heap → Prop}
    {YP : World → Heap → Prop} {d : DefRec} {K : Params → PySem.W.Frag} {sp : PySem.W.Frag → Sp} {x : Str}
    (hn : l.most = some 63) (hdf : d.params.defaults = []) (hr : Room k callerA)
    (hY : ∀ (w : World) (h : Heap), YP w h → (K w.params).In h)
    (F : ∀ (w : World) (mg : Str → Option Value) (fa : Addr) (h : Heap), (K w.params).In h → h.Ns mainGlobals mg →
      mg d.name = some (.ref fa) → ∃ fd : FuncData, (∀ (s : Shared) (u : Value), BindsTo s fd ⟨[u], []⟩ [(x, u)]) ∧
        ∀ base : Heap, (K w.params).In base → base.Ns mainGlobals mg →
          FnG l.prog w (K w.params) mg base k fa fd [x] (sp (K w.params)))
    (hsp : ∀ (K : PySem.W.Frag) (H : Hp) (a : Addr) (ns : List Int), ns.length ≤ 63 → Only H → SqL K H a (ns.map V.int) →
      sp K [.ref a] H (fun v _ => v = .bl true) E0) :
    PySem.W.WalkO q loose XP YP l.row.toRowW d [] (fun f vs => PySem.call f vs) := by
  refine Att.attach_call hn hdf ?_
  intro w s₀ s₁ mg mb fa o pm cd doc a vs ns G Y ho hd hcd hmg hobj hints hlen hg
  obtain ⟨fd, hb, hF⟩ := F w mg fa _ (hY w _ Y) G.T.g hmg
  exact call_law (hY w _ Y) G.T.g G.T.b G.T.builtins G.T.nolimit hg hobj hints
    (Nat.le_trans hlen (by decide)) hr hF hb (fun H hO hS => hsp _ H a ns hlen hO hS)
end Sg

set_option Elab.async false
set_option linter.all false
set_option maxRecDepth 100000
set_option maxHeartbeats 4000000
namespace PySem
open Sem (wp)
open AutoSeq1 (wpAny_loadPart')
/-- enumerate(t), t a tuple: its two new cells -/
theorem sg_enum_new (l : Addr) (items : Array Value) :
    Meets (Builtin.«enumerate.__new__» ⟨[.type "enumerate", .ref l], []⟩) (fun _ R s => s.heap.IsTuple l items ∧
      R (.ok (.ret (.ref (s.heap.push { cls := .type "tuple_iterator", data := .fields #[.ref l, .int 0 0] }).objs.size)))
        { s with heap := ((s.heap.push { cls := .type "tuple_iterator", data := .fields #[.ref l, .int 0 0] }).push { cls := .type "enumerate", data := .fields #[.none, .bool false, .ref s.heap.objs.size, rawInt 0, .none, .none] }) }) := by
  refine .of_wp ?_
  intro prog w A R s h
  obtain ⟨hp, g, d, tk, os⟩ := s
  obtain ⟨hT, h⟩ := h
  obtain ⟨o, hl, hc, n, hd⟩ := id hT
  have hsub := sub_enumerate
  wp_walk using wpAny_loadPart' hl
  refine wpAny_stack_any fun st => wpAny_pure ?_
  split
  · rename_i c _ _ _ _ _
    rcases hcc : (c == Value.type "enumerate") with _ | _ <;>
    · wp_walk using wpAny_loadPart' hl, wpAny_pyIter_tuple hT
      exact ⟨_, rfl, h⟩
  · wp_walk using wpAny_loadPart' hl, wpAny_pyIter_tuple hT
    exact ⟨_, rfl, h⟩

section
variable {prog : Program} {w : World} {A : Around} {E : Value → Shared → Prop} {s : Shared}
theorem sg_call_enum {l : Addr} {items : Array Value} {Q : Value → Shared → Prop} (hL : s.heap.IsTuple l items)
    (h : ∀ h', IsEnum h' (s.heap.objs.size + 1) s.heap.objs.size 0 .none → h'.IsTupleIter s.heap.objs.size l 0 →
      (∀ b o, s.heap.get? b = some o → h'.get? b = some o) → Q (.ref (s.heap.objs.size + 1)) { s with heap := h' }) :
    wpAny (model prog w) A (call (.type "enumerate") [.ref l]) Q E s := by
  refine callType_new F.called_enumerate (by decide) (F.typeCall_enumerate_1 _) (F.newCall_enumerate_1 _)
    (fun obj => F.args_object_init_2 obj _) F.entry_enumerate_new (sg_enum_new l items) ⟨hL, ?_⟩
  let o1 : Obj := { cls := .type "tuple_iterator", data := .fields #[.ref l, .int 0 0] }
  have hz : (s.heap.push o1).objs.size = s.heap.objs.size + 1 := Heap.size_push ..
  show _ ∧ _
  rw [hz]
  have he : IsEnum ((s.heap.push o1).push { cls := .type "enumerate", data := .fields #[.none, .bool false, .ref s.heap.objs.size, rawInt 0, .none, .none] })
      (s.heap.objs.size + 1) s.heap.objs.size 0 .none := by
    have z := Heap.get?_push_size (s.heap.push o1)
      (o := { cls := .type "enumerate", data := .fields #[.none, .bool false, .ref s.heap.objs.size, rawInt 0, .none, .none] }) rfl
    rw [hz] at z
    exact z
  refine ⟨⟨_, he, rfl⟩, h _ he ⟨_, Heap.get?_push_of_some _ (Heap.get?_push_size _ rfl), rfl, rfl⟩ ?_⟩
  intro b o x
  exact Heap.get?_push_of_some _ (Heap.get?_push_of_some _ x)
end
end PySem
namespace Sg
open PySem PySem.Spec PyProof.Rows L2
/-- the tuple at a, item by item, each in a new pair with its place -/
def ItE (K : PySem.W.Frag) (a : Addr) : It :=
  ⟨fun i H => ∃ (xs : List V) (x : V), SqT K H a xs ∧ xs[i]? = some x,
   fun i H v H' => ∃ T x, v = .ref T ∧ H T = none ∧ H' = upd H T (.tup [.int (i : Nat), x]) ∧ ∀ xs, SqT K H a xs → xs[i]? = some x,
   fun i H => ∃ xs : List V, SqT K H a xs ∧ xs.length ≤ i⟩
theorem turn_enumT {P : Program} {w : World} {K : PySem.W.Frag} {elts : List Expr} {kk : Nat} {tpos : Pos} (a e it : Addr) :
    Turn P w K (.Tuple elts kk tpos) (ItE K a) [e, it] e
      (fun i h => (∃ old, IsEnum h e it ((i : Nat) : Int) old) ∧ h.IsTupleIter it a i ∧ e ≠ it) := by
  have two : ∀ {b : Addr}, b ∈ [e, it] → b = e ∨ b = it := fun {b} hb => by simpa using hb
  refine ⟨by simp, ?_, ?_, ?_, ?_, ?_⟩
  · rintro i h ⟨⟨old, he⟩, ⟨o, ho, hc, hd⟩, _⟩ b hb
    rcases two hb with rfl | rfl
    · exact ⟨_, he, fun v q => nomatch q⟩
    · refine ⟨o, ho, fun v q => ?_⟩
      rw [hd] at q
      exact nomatch q
  · rintro i h h' ⟨⟨old, he⟩, hi, hne⟩ k
    exact ⟨⟨old, k e (by simp) _ he⟩, hi.at fun o q => k it (by simp) o q, hne⟩
  · intro X hP hw hK hc i pins s σ H E I hf st hg
    subst hP hw hK
    obtain ⟨⟨old, he⟩, hit, hne⟩ := st
    obtain ⟨xs, x, hq, hx⟩ := hg
    obtain ⟨its, rv, p, hz⟩ := I.tuple hq
    obtain ⟨u, hu, ru⟩ := rv.get hx
    have hel : e < s.heap.objs.size := Heap.lt_size he
    have hil : it < s.heap.objs.size := by obtain ⟨_, q, _⟩ := hit; exact Heap.lt_size q
    have hai : a ≠ it := by
      rintro rfl
      obtain ⟨o, ho, hcl, _⟩ := p
      obtain ⟨o', ho', hcl', _⟩ := hit
      rw [ho] at ho'
      obtain rfl := Option.some.inj ho'
      rw [hcl] at hcl'
      exact absurd hcl' (by decide)
    have hae : e ≠ a := by
      rintro rfl
      obtain ⟨o, ho, hcl, _⟩ := p
      have he' : s.heap.get? e = _ := he
      rw [ho] at he'
      obtain rfl := Option.some.inj he'
      have z : ("enumerate" : String) = "tuple" := Value.type.inj hcl
      exact absurd z (by decide)
    have hlt : i < its.length := (List.getElem?_eq_some_iff.mp hu).1
    refine wpAny_pyNext_enum_itemD (Draws.tuple (A := X.A.in1) (I.ok.hd hc) it a hai its.toArray) he ⟨hit, p⟩
      (by simpa using hlt) hne (by simp [hne, hae]) ?_
    intro x' h' tk hP ho hs' hT hsz hk
    have hxu : x' = u := by
      have z : its[i]? = some x' := by simpa using hP
      rw [hu] at z
      exact (Option.some.inj z).symm
    subst hxu
    refine ⟨_, rfl, wpAny_letOwnedTupleGo_enum (s := { s with heap := h', toks := tk + 1 }) ho ?_⟩
    intro h'' he' sb
    have hT2 : h''.get? s.heap.objs.size = some { cls := .type "tuple", data := .seq #[.int i tk, x'] } :=
      (sb.2 _ (Nat.ne_of_gt hel)).trans hT
    have new : ObjOk X.prog X.w (upd H s.heap.objs.size (.tup [.int (i : Nat), x])) h'' s.heap.objs.size (.tup [.int (i : Nat), x]) := by
      refine ⟨by show 2 ≤ sizeLine; decide, [.int i tk, x'], .cons ⟨_, rfl⟩ (.cons ru .nil), ⟨_, hT2, rfl, _, rfl⟩⟩
    have I1 : Inv X pins σ (upd H s.heap.objs.size (.tup [.int (i : Nat), x])) { s with heap := h'', toks := tk + 1 } := by
      refine I.turnedNew (ch := [e, it]) ?_ hf (Nat.le_refl _) new
      intro b ob hb q
      have n1 : b ≠ e := fun z => hb (by simp [z])
      have n2 : b ≠ it := fun z => hb (by simp [z])
      exact (sb.2 b n1).trans (hk b ob n1 n2 q)
    refine ⟨.ref s.heap.objs.size, _, I1, rfl, ⟨_, x, rfl, I.hok.fresh (Nat.le_refl _), rfl, ?_⟩, ⟨⟨x', ?_⟩, ?_, hne⟩, ?_⟩
    · intro ys hy
      rw [I.tuple_inj hy hq]
      exact hx
    · have e1 : ((i + 1 : Nat) : Int) = (i : Int) + 1 := by omega
      rw [e1]
      exact he'
    · exact hs'.1.at fun o q => (sb.2 it (Ne.symm hne)).trans q
    · intro b hb
      have hb' : b < s.heap.objs.size := by
        rcases two hb with rfl | rfl
        · exact hel
        · exact hil
      rw [upd_ne (Nat.ne_of_lt hb')]
      exact (hf b hb).1
  · intro X hP hw hK hc i pins s σ H E I hf st hg
    subst hP hw hK
    obtain ⟨⟨old, he⟩, hit, hne⟩ := st
    obtain ⟨xs, hq, hx⟩ := hg
    obtain ⟨its, rv, p, hz⟩ := I.tuple hq
    obtain ⟨f0, f1, f2, f3, f4, f5⟩ := hf it (by simp)
    have hl := rv.length
    have hh : X.A.in1.in1.handled = none := I.ok.hd hc
    have hai : a ≠ it := by
      rintro rfl
      obtain ⟨o, ho, hcl, _⟩ := p
      obtain ⟨o', ho', hcl', _⟩ := hit
      rw [ho] at ho'
      obtain rfl := Option.some.inj ho'
      rw [hcl] at hcl'
      exact absurd hcl' (by decide)
    unfold pyNext
    have hTy : s.TypeIs (.ref e) "enumerate" := ⟨_, he, rfl⟩
    refine wpAny_bind (wpAny_attempt (wpAny_callSpecial?_slot (name := Str.ofString "__next__") hTy F.slot_enumerate_next
      (wpAny_call_entry F.slot_enumerate_next hTy F.entry_enumerate_next ?_ (F.args_enumerate_next_1 _))))
    show wpAny _ _ (field (.ref e) 2 >>= _) _ _ _
    refine wpAny_bind (wpAny_field he rfl (x := .ref it) rfl ?_)
    refine wpAny_bind (wpAny_nextOf_tuple_end hh hit p (by simp; omega) ?_)
    rintro h' x he' ⟨o, ho, hcl⟩
    refine wpAny_bind (wpAny_isInstance (T := "StopIteration") (b := true) ⟨o, ho, hcl⟩ isSubtype_stop (wpAny_pure ?_))
    exact ⟨rfl, I.turned (t' := s.toks) (fun b o hb q => he' b o hb q) f0 f1 f3 f4 f5⟩
  · intro A i s Q E st h
    obtain ⟨⟨_, he⟩, _⟩ := st
    exact wpAny_pyIter_enum he h
def iEnT (K : PySem.W.Frag) (ta : TA) : TI := fun σ H R => ta σ H fun vs H1 => ∃ a xs, vs = [.ref a] ∧ SqT K H1 a xs ∧ R (ItE K a) H1
theorem pi_enumT {X : Cx} {e : Expr} {ta : TA} {p pos tpos : Pos} {elts : List Expr} {kk : Nat} (hg : Gl X "enumerate")
    (hm : X.mg "enumerate" = none) (ha : PA X [e] ta) (hs : starEach [e] X.env = [(false, eval e X.env)] := by rfl) :
    PI X (.Tuple elts kk tpos) (.Call (.Name "enumerate" p) [e] [] pos) (iEnT X.K ta) := by
  constructor
  intro pins s σ H R I h
  refine Call_ (ld_blt I hg hm boot_enumerate (PyProof.Rows.callWith_type1 (thn (ha.run pos pins s σ H _ I h) ?_) hs rfl))
  rintro us s1 ⟨vs, H1, I1, r1, a, xs, rfl, hq, q⟩
  obtain ⟨u, rfl, rfl⟩ := vals1 r1
  obtain ⟨its, rv, p', hz⟩ := I1.tuple hq
  refine sg_call_enum p' ?_
  intro h' he hit hk
  refine wpAny_pyIter_enum he ?_
  have I2 : Inv X pins σ H1 { s1 with heap := h' } := I1.kept (t' := s1.toks) hk
  refine ⟨s1.heap.objs.size + 1, [s1.heap.objs.size + 1, s1.heap.objs.size], _, _, H1, rfl, I2,
    turn_enumT a (s1.heap.objs.size + 1) s1.heap.objs.size, ⟨⟨.none, he⟩, hit, Nat.succ_ne_self _⟩, ?_, q⟩
  intro b hb
  have hle : s1.heap.objs.size ≤ b := by
    have e' : b = s1.heap.objs.size + 1 ∨ b = s1.heap.objs.size := by simpa using hb
    rcases e' with rfl | rfl
    · exact Nat.le_succ _
    · exact Nat.le_refl _
  exact I1.fpOk hle (I1.hok.fresh hle)
end Sg

set_option Elab.async false
set_option linter.all false
set_option maxRecDepth 100000
set_option maxHeartbeats 4000000
namespace Sg
open PySem PySem.Spec PyProof.Rows L2
/-! ## [c for a in t for b in a for c in b], tuples all the way down -/
/-- slots that agree but for those of ws -/
def Ag (ws : List Nat) (σ σ' : L2.St) : Prop := σ'.length = σ.length ∧ ∀ j, j ∉ ws → σ'[j]? = σ[j]?
theorem Ag.refl (ws : List Nat) (σ : L2.St) : Ag ws σ σ := ⟨rfl, fun _ _ => rfl⟩
theorem Ag.trans {ws : List Nat} {a b c : L2.St} (h : Ag ws a b) (k : Ag ws b c) : Ag ws a c := ⟨k.1.trans h.1, fun j hj => (k.2 j hj).trans (h.2 j hj)⟩
theorem Ag.set {ws : List Nat} {σ : L2.St} {k : Nat} {v : Option V} (hk : k ∈ ws) : Ag ws σ (σ.set k v) := ⟨List.length_set, fun j hj => by
  rw [List.getElem?_set_ne]
  rintro rfl
  exact hj hk⟩
theorem Ag.mono {ws us : List Nat} {σ σ' : L2.St} (h : Ag ws σ σ') (k : ∀ j ∈ ws, j ∈ us) : Ag us σ σ' := ⟨h.1, fun j hj => h.2 j fun z => hj (k j z)⟩
/-- a turn of a loop of a comprehension without tests -/
def flatTurn (e : Expr) (d : Nat) (it D : Addr) (n : Str) (p pos : Pos) (bd : Sem Fin → Sem Fin) (env : Env) : Sem Fin :=
  standAt pos >>= fun _ => pyNext (.ref it) >>= fun r => match r with
    | none => pure (.done .next)
    | some v => letOwnedTupleGo (.Name n p) (.ref it) v >>= fun _ => assign (.Name n p) env v >>= fun _ =>
      bd (again (.compLoop e d (.ref it) (.ref D) env))
section
variable {Z : Cx} {elt : Expr} {gens : List Comprehension} {scope : Scope} {cpos p pos : Pos} {d k : Nat} {it D c : Addr} {n : Str} {bd : Sem Fin → Sem Fin}
variable {R : Result → Shared → Prop} {xs : List V} {pins : List (Addr × Obj)} {ws : List Nat}
theorem flat_loop (hxe : Z.xe = fun _ _ => False) (hcalm : Z.calm = true) (hN : Z.N.Nodup)
    (hturn : compTurn (.ListComp elt gens scope cpos) d (.ref it) (.ref D) Z.env = flatTurn (.ListComp elt gens scope cpos) d it D n p pos bd Z.env)
    (hk : Z.N[k]? = some n) (hloc : Loc Z.env.scope n) (hfn : Z.fn n = true ∨ Z.env.scope.names.lookup n = some .local) (hkw : k ∈ ws)
    (σ : L2.St) (G : Nat → Hp → Prop) (hG : ∀ i H, i ≤ xs.length → G i H → SqT Z.K H c xs) (hfp : ∀ H, H it = none → FpOk Z pins H it)
    (hbd : ∀ i x s σ' H, xs[i]? = some x → G i H → H it = none → Inv Z (pins ++ pinsAt [it] s.heap) σ' H s → σ'[k]? = some (some x) → Ag ws σ σ' →
      ∀ (kk : Sem Fin) (Qf : Fin → Shared → Prop) (Ef : Value → Shared → Prop),
        (∀ s' σ'' H', Inv Z (pins ++ pinsAt [it] s.heap) σ'' H' s' → Ag ws σ σ'' → G (i + 1) H' → wpAny (model Z.prog Z.w) Z.A kk Qf Ef s') → wpAny (model Z.prog Z.w) Z.A (bd kk) Qf Ef s)
    (hfin : ∀ s' σ' H', Inv Z pins σ' H' s' → Ag ws σ σ' → G xs.length H' → R (.ok .next) s')
    {s : Shared} {σ₀ : L2.St} {H₀ : Hp} (I₀ : Inv Z pins σ₀ H₀ s) (ag₀ : Ag ws σ σ₀) (g₀ : G 0 H₀) (n₀ : H₀ it = none) (st₀ : s.heap.IsTupleIter it c 0) :
    codeAny (model Z.prog Z.w) Z.A (.compLoop (.ListComp elt gens scope cpos) d (.ref it) (.ref D) Z.env) R s := by
  have T := turn_tuple (P := Z.prog) (w := Z.w) (K := Z.K) (tg := .Name n p) c it
  have hb1 : ∀ {H : Hp}, H it = none → ∀ b ∈ [it], FpOk Z pins H b := by
    intro H hn b hb
    rw [List.mem_singleton.mp hb]
    exact hfp H hn
  refine codeAny_loop rfl (fun m s' => ∃ i σ' H', Inv Z pins σ' H' s' ∧ Ag ws σ σ' ∧ G i H' ∧ H' it = none ∧ s'.heap.IsTupleIter it c i ∧ i ≤ xs.length ∧ m = xs.length - i) ?_ xs.length
    ⟨0, σ₀, H₀, I₀, ag₀, g₀, n₀, st₀, Nat.zero_le _, rfl⟩
  rintro m s1 ⟨i, σ1, H1, I1, ag1, g1, n1, st1, hi, rfl⟩
  show wpAny _ Z.A ((compTurn (.ListComp elt gens scope cpos) d (.ref it) (.ref D) Z.env).onRaise (fun x => do noteFrame x Z.env; theTreesLotGoes x)) _ _ s1
  refine wpAny_noted ?_
  rw [hturn]
  refine wpAny_bind (wpAny_standAt (wpAny_bind ?_))
  have hq := hG i H1 hi g1
  by_cases hlt : i < xs.length
  · have go := T.item Z rfl rfl rfl hcalm i pins s1 σ1 H1 (fun _ _ => False) I1 (hb1 n1) st1 ⟨xs, xs[i], hq, List.getElem?_eq_getElem hlt⟩
    refine thnF go ?_
    rintro r s2 ⟨u, rfl, h2⟩
    refine wpAny_bind (thnF h2 ?_)
    rintro _ s3 ⟨x, H3, I3, r3, ⟨eH, hy⟩, st3, n3⟩
    subst eH
    have hx : xs[i]? = some x := hy xs hq
    have n3' : H3 it = none := n3 it (List.mem_singleton.mpr rfl)
    have I3' := I3.pinned (hb1 n3') (T.obj _ _ st3)
    have ia := (pg_name (X := Z) (pos := p) hN hk hloc hfn).run _ s3 σ1 H3 x u (fun σ' H' => σ' = σ1.set k (some x) ∧ H' = H3) I3' r3 ⟨rfl, rfl⟩
    rw [hxe] at ia
    refine wpAny_bind (thnF ia ?_)
    rintro _ s4 ⟨σ4, H4, I4, rfl, rfl⟩
    obtain ⟨o, ho, hoc⟩ := T.obj _ _ st3 it (List.mem_singleton.mpr rfl)
    have pin4 := I4.pin (it, o) (List.mem_append_right _ (List.mem_append_right _ (mem_pinsAt (List.mem_singleton.mpr rfl) ho)))
    have ep : pinsAt [it] s3.heap = pinsAt [it] s4.heap := by
      unfold pinsAt
      rw [List.filterMap_cons, List.filterMap_cons, ho, pin4.1]
      rfl
    rw [ep] at I4
    have hσ4 : (σ1.set k (some x))[k]? = some (some x) := by
      have hkl : k < σ1.length := by rw [I1.len]; exact (List.getElem?_eq_some_iff.mp hk).1
      rw [List.getElem?_set_self hkl]
    refine hbd i x s4 _ _ hx g1 n3' I4 hσ4 (ag1.trans (Ag.set hkw)) _ _ _ ?_
    intro s5 σ5 H5 I5 ag5 g5
    have pin5 := I5.pin (it, o) (List.mem_append_right _ (List.mem_append_right _ (mem_pinsAt (List.mem_singleton.mpr rfl) pin4.1)))
    have st5 : s5.heap.IsTupleIter it c (i + 1) := T.keep _ _ _ st3 (by
      intro b hb o' e
      rw [List.mem_singleton.mp hb] at e ⊢
      rw [ho] at e
      rw [← Option.some.inj e]
      exact pin5.1)
    exact wpAny_pure ⟨rfl, xs.length - (i + 1), by omega, i + 1, σ5, H5, I5.unpinned, ag5, g5, pin5.2.1, st5, hlt, rfl⟩
  · have e : i = xs.length := by omega
    subst e
    have stop := T.done Z rfl rfl rfl hcalm xs.length pins s1 σ1 H1 (fun _ _ => False) I1 (hb1 n1) st1 ⟨xs, hq, Nat.le_refl _⟩
    refine thnF stop ?_
    rintro r s2 ⟨rfl, I2⟩
    exact wpAny_pure (hfin s2 σ1 H1 I2 ag1 g1)
end
/-! ### the three clauses -/
abbrev flatE (n1 n2 n3 : Str) (iter : Expr) (scope : Scope) (q1 q2 q3 a1 a2 a3 pos : Pos) : Expr :=
  .ListComp (.Name n3 a3) [⟨.Name n1 q1, iter, [], 0⟩, ⟨.Name n2 q2, .Name n1 a1, [], 0⟩, ⟨.Name n3 q3, .Name n2 a2, [], 0⟩] scope pos
section
variable {n1 n2 n3 : Str} {iter : Expr} {scope : Scope} {q1 q2 q3 a1 a2 a3 pos : Pos} {it D : Addr} {env : Env}
abbrev downBody (e i : Expr) (d : Nat) (D : Addr) (env : Env) (kk : Sem Fin) : Sem Fin := eval i env >>= fun x => standAt i.pos >>= fun _ =>
  foldedSetIterable i env x >>= fun x => holding [x] (pyIter x) >>= fun it' => runOwn (.compStart e d it' (.ref D) env) env >>= fun _ => kk
abbrev addBody (elt : Expr) (D : Addr) (env : Env) (kk : Sem Fin) : Sem Fin :=
  (eval elt env >>= fun x => call (.builtin "list.append") [.ref D, x] >>= fun _ => pure ()) >>= fun _ => kk
theorem flat_t0 : compTurn (flatE n1 n2 n3 iter scope q1 q2 q3 a1 a2 a3 pos) 0 (.ref it) (.ref D) env =
    flatTurn (flatE n1 n2 n3 iter scope q1 q2 q3 a1 a2 a3 pos) 0 it D n1 q1 iter.pos (downBody (flatE n1 n2 n3 iter scope q1 q2 q3 a1 a2 a3 pos) (.Name n1 a1) 1 D env) env := by rfl
theorem flat_t1 : compTurn (flatE n1 n2 n3 iter scope q1 q2 q3 a1 a2 a3 pos) 1 (.ref it) (.ref D) env =
    flatTurn (flatE n1 n2 n3 iter scope q1 q2 q3 a1 a2 a3 pos) 1 it D n2 q2 a1 (downBody (flatE n1 n2 n3 iter scope q1 q2 q3 a1 a2 a3 pos) (.Name n2 a2) 2 D env) env := by rfl
theorem flat_t2 : compTurn (flatE n1 n2 n3 iter scope q1 q2 q3 a1 a2 a3 pos) 2 (.ref it) (.ref D) env =
    flatTurn (flatE n1 n2 n3 iter scope q1 q2 q3 a1 a2 a3 pos) 2 it D n3 q3 a2 (addBody (.Name n3 a3) D env) env := by rfl
end
section
variable {prog : Program} {w : World} {A : Around} {R : Result → Shared → Prop} {s : Shared} {n1 n2 n3 : Str} {iter : Expr} {scope : Scope} {q1 q2 q3 a1 a2 a3 pos : Pos} {it acc : Value} {env : Env}
theorem flat_s1 (h0 : codeAny (model prog w) A (.compLoop (flatE n1 n2 n3 iter scope q1 q2 q3 a1 a2 a3 pos) 1 it acc env) R s)
    (h : wpAny (model prog w) A (pyIter it) (fun it' s' => codeAny (model prog w) A (.compLoop (flatE n1 n2 n3 iter scope q1 q2 q3 a1 a2 a3 pos) 1 it' acc env) R s') (notedBy (model prog w) A env fun x s' => R (.error x) s') s) :
    codeAny (model prog w) A (.compStart (flatE n1 n2 n3 iter scope q1 q2 q3 a1 a2 a3 pos) 1 it acc env) R s := by
  apply codeAny_of_tree
  show wpAny _ _ ((compStart (flatE n1 n2 n3 iter scope q1 q2 q3 a1 a2 a3 pos) 1 it acc env).onRaise (fun x => do noteFrame x env; standAt theWindowsPlace)) _ _ s
  apply wpAny_notedAt
  unfold compStart
  show wpAny _ _ (ask >>= _) _ _ s
  refine wpAny_bind (wpAny_askSetting (wpAny_ite ?_))
  split
  · first | exact wpAny_pure (And.intro rfl h0) | exact wpAny_bind (wpAny_pure (wpAny_pure (And.intro rfl h0)))
  · refine wpAny_bind (wpAny_rule ?_)
    show wpAny _ _ (standAt a1 >>= _) _ _ s
    exact wpAny_bind (wpAny_standAt (wpAny_bind (wpAny_mono h (fun it' s' h' => wpAny_pure (And.intro rfl h')) fun _ _ x => x)))
theorem flat_s2 (h0 : codeAny (model prog w) A (.compLoop (flatE n1 n2 n3 iter scope q1 q2 q3 a1 a2 a3 pos) 2 it acc env) R s)
    (h : wpAny (model prog w) A (pyIter it) (fun it' s' => codeAny (model prog w) A (.compLoop (flatE n1 n2 n3 iter scope q1 q2 q3 a1 a2 a3 pos) 2 it' acc env) R s') (notedBy (model prog w) A env fun x s' => R (.error x) s') s) :
    codeAny (model prog w) A (.compStart (flatE n1 n2 n3 iter scope q1 q2 q3 a1 a2 a3 pos) 2 it acc env) R s := by
  apply codeAny_of_tree
  show wpAny _ _ ((compStart (flatE n1 n2 n3 iter scope q1 q2 q3 a1 a2 a3 pos) 2 it acc env).onRaise (fun x => do noteFrame x env; standAt theWindowsPlace)) _ _ s
  apply wpAny_notedAt
  unfold compStart
  show wpAny _ _ (ask >>= _) _ _ s
  refine wpAny_bind (wpAny_askSetting (wpAny_ite ?_))
  split
  · first | exact wpAny_pure (And.intro rfl h0) | exact wpAny_bind (wpAny_pure (wpAny_pure (And.intro rfl h0)))
  · refine wpAny_bind (wpAny_rule ?_)
    show wpAny _ _ (standAt a2 >>= _) _ _ s
    exact wpAny_bind (wpAny_standAt (wpAny_bind (wpAny_mono h (fun it' s' h' => wpAny_pure (And.intro rfl h')) fun _ _ x => x)))
end
end Sg

set_option Elab.async false
set_option linter.all false
set_option maxRecDepth 100000
set_option maxHeartbeats 4000000
namespace Sg
open PySem PySem.Spec PyProof.Rows L2
/-- cells are tuples; xs are all their items -/
inductive FlatL (K : PySem.W.Frag) (H : Hp) : List V → List V → Prop
  | nil : FlatL K H [] []
  | cons {a : Addr} {ys cells xs : List V} : SqT K H a ys → FlatL K H cells xs → FlatL K H (.ref a :: cells) (ys ++ xs)
/-- rows are tuples of tuples; xs are all the items of these -/
inductive FlatR (K : PySem.W.Frag) (H : Hp) : List V → List V → Prop
  | nil : FlatR K H [] []
  | cons {a : Addr} {cells ys rows xs : List V} : SqT K H a cells → FlatL K H cells ys → FlatR K H rows xs → FlatR K H (.ref a :: rows) (ys ++ xs)
section
variable {K : PySem.W.Frag} {H : Hp}
theorem FlatL.snoc {a : Addr} {ys : List V} (h : SqT K H a ys) : ∀ {cells xs : List V}, FlatL K H cells xs → FlatL K H (cells ++ [.ref a]) (xs ++ ys)
  | _, _, .nil => by have z := FlatL.cons h .nil; rwa [List.append_nil] at z
  | _, _, .cons h1 r => by rw [List.append_assoc]; exact .cons h1 (FlatL.snoc h r)
theorem FlatR.snoc {a : Addr} {cells ys : List V} (h : SqT K H a cells) (hl : FlatL K H cells ys) : ∀ {rows xs : List V}, FlatR K H rows xs → FlatR K H (rows ++ [.ref a]) (xs ++ ys)
  | _, _, .nil => by have z := FlatR.cons h hl .nil; rwa [List.append_nil] at z
  | _, _, .cons h1 h2 r => by rw [List.append_assoc]; exact .cons h1 h2 (FlatR.snoc h hl r)
theorem FlatL.same {H' : Hp} (e : Same H H') : ∀ {cells xs : List V}, FlatL K H cells xs → FlatL K H' cells xs
  | _, _, .nil => .nil
  | _, _, .cons h r => .cons (h.imp (fun z => z.imp (e _ _) fun ⟨o, z⟩ => ⟨o, e _ _ z⟩) id) (FlatL.same e r)
theorem FlatR.same {H' : Hp} (e : Same H H') : ∀ {rows xs : List V}, FlatR K H rows xs → FlatR K H' rows xs
  | _, _, .nil => .nil
  | _, _, .cons h l r => .cons (h.imp (fun z => z.imp (e _ _) fun ⟨o, z⟩ => ⟨o, e _ _ z⟩) id) (FlatL.same e l) (FlatR.same e r)
theorem sqT_new {D a : Addr} {o : HO} {ys : List V} (n : H D = none) (h : SqT K H a ys) : SqT K (upd H D o) a ys :=
  h.imp (fun z => z.imp (fun z => by rw [upd_ne (ne_of_none z n)]; exact z) fun ⟨u, z⟩ => ⟨u, by rw [upd_ne (ne_of_none z n)]; exact z⟩) id
end
section
variable {Z : Cx} {n1 n2 n3 : Str} {iter : Expr} {scope : Scope} {q1 q2 q3 a1 a2 a3 pos : Pos} {k1 k2 k3 : Nat}
/-- what the block says of its names -/
structure FlatN (Z : Cx) (n1 n2 n3 : Str) (k1 k2 k3 : Nat) : Prop where
  xe : Z.xe = fun _ _ => False
  calm : Z.calm = true
  nd : Z.N.Nodup
  h1 : Z.N[k1]? = some n1
  h2 : Z.N[k2]? = some n2
  h3 : Z.N[k3]? = some n3
  l1 : Z.env.scope.names.lookup n1 = some .local
  l2 : Z.env.scope.names.lookup n2 = some .local
  l3 : Z.env.scope.names.lookup n3 = some .local
  d1 : (n1 == ("__debug__" : Str)) = false
  d2 : (n2 == ("__debug__" : Str)) = false
  d3 : (n3 == ("__debug__" : Str)) = false
  c1 : (n1 == ("__classdict__" : Str)) = false
  c2 : (n2 == ("__classdict__" : Str)) = false
  c3 : (n3 == ("__classdict__" : Str)) = false
/-- the innermost loop -/
theorem flat_in (B : FlatN Z n1 n2 n3 k1 k2 k3) {pins : List (Addr × Obj)} {σ : L2.St} {H : Hp} {s : Shared} {R : Result → Shared → Prop} {it D c : Addr} {acc xs : List V}
    (hn : H D = none) (hc : SqT Z.K H c xs) (hz : acc.length + xs.length ≤ 1000000) (I : Inv Z pins σ (upd H D (.lst acc)) s) (st : s.heap.IsTupleIter it c 0) (hit : (upd H D (.lst acc)) it = none)
    (hfp : ∀ H, H it = none → FpOk Z pins H it)
    (fin : ∀ s' σ', Inv Z pins σ' (upd H D (.lst (acc ++ xs))) s' → Ag [k3] σ σ' → R (.ok .next) s') :
    codeAny (model Z.prog Z.w) Z.A (.compLoop (flatE n1 n2 n3 iter scope q1 q2 q3 a1 a2 a3 pos) 2 (.ref it) (.ref D) Z.env) R s := by
  refine flat_loop B.xe B.calm B.nd flat_t2 B.h3 (.inl B.l3) (.inr B.l3) (List.mem_singleton.mpr rfl) σ (fun i H' => H' = upd H D (.lst (acc ++ xs.take i)))
    (fun i H' _ e => by rw [e]; exact sqT_new hn hc) hfp (fun i x s1 σ1 H1 hx e hi I1 hk ag kk Qf Ef cont => ?_) (fun s' σ' H' I' ag e => ?_) I (Ag.refl _ _) (by rw [List.take_zero, List.append_nil]) hit st
  · subst e
    have ev := (pe_var (pos := a3) (X := Z) B.h3 (.inl B.l3) B.d3 B.c3).run _ s1 σ1 _ (fun v H2 => v = x ∧ H2 = upd H D (.lst (acc ++ xs.take i))) I1 ⟨x, hk, rfl, rfl⟩
    rw [B.xe] at ev
    refine wpAny_bind (wpAny_bind (thnF ev ?_))
    rintro u s2 ⟨v, H2, I2, r2, rfl, rfl⟩
    have lt : (acc ++ xs.take i).length < sizeLine := by
      have h4 : sizeLine = 16777216 := sizeLine_eq
      rw [List.length_append, List.length_take]
      have := Nat.min_le_right i xs.length
      omega
    refine wpAny_bind (app_ok (X := Z) I2 upd_same lt r2 fun s3 I3 => wpAny_pure ?_)
    rw [upd_upd] at I3
    refine cont s3 σ1 _ I3 ag ?_
    rw [List.take_add_one, hx, List.append_assoc]
    rfl
  · subst e
    rw [List.take_length] at I'
    exact fin s' σ' I' ag
/-- down a level: name, iterator, loop -/
theorem flat_down {pins : List (Addr × Obj)} {σ : L2.St} {H : Hp} {s : Shared} {c : Addr} {ys : List V} {nn : Str} {aa : Pos} {e : Expr} {d k : Nat} {D : Addr} {kk : Sem Fin} {Qf : Fin → Shared → Prop} {Ef : Value → Shared → Prop}
    (hxe : Z.xe = fun _ _ => False) (hN : Z.N[k]? = some nn) (hl : Z.env.scope.names.lookup nn = some .local) (hd : (nn == ("__debug__" : Str)) = false) (hcd : (nn == ("__classdict__" : Str)) = false)
    (I : Inv Z pins σ H s) (hk : σ[k]? = some (some (.ref c))) (hq : SqT Z.K H c ys)
    (go : ∀ s1 it, Inv Z pins σ H s1 → H it = none → (∀ H, H it = none → FpOk Z pins H it) → s1.heap.IsTupleIter it c 0 →
      codeAny (model Z.prog Z.w) Z.A (.compStart e d (.ref it) (.ref D) Z.env) (fun r s' => r = .ok .next ∧ wpAny (model Z.prog Z.w) Z.A kk Qf Ef s') s1) :
    wpAny (model Z.prog Z.w) Z.A (downBody e (.Name nn aa) d D Z.env kk) Qf Ef s := by
  have ev := (pe_var (pos := aa) (X := Z) hN (.inl hl) hd hcd).run _ s σ H (fun v H2 => v = .ref c ∧ H2 = H) I ⟨.ref c, hk, rfl, rfl⟩
  rw [hxe] at ev
  refine wpAny_bind (thnF ev ?_)
  rintro u s2 ⟨v, H2, I2, r2, rfl, rfl⟩
  obtain rfl : u = Value.ref c := r2
  refine wpAny_bind (wpAny_standAt (wpAny_bind (wpAny_of_eq (a := Value.ref c) rfl (wpAny_bind (wpAny_holding ?_)))))
  obtain ⟨its, rv, p, hz⟩ := I2.tuple hq
  refine wpAny_pyIter_tuple (show s2.heap.IsTuple c its.toArray from p) ?_
  refine wpAny_bind (wpAny_runOwn ?_)
  rw [Around.mark_none]
  have I3 : Inv Z pins σ H2 { s2 with heap := s2.heap.push { cls := .type "tuple_iterator", data := .fields #[.ref c, .int 0 0] } } := I2.kept (t' := s2.toks) fun b o e => Heap.get?_push_of_some _ e
  refine codeAny_mono (go _ s2.heap.objs.size I3 (I2.hok.fresh (Nat.le_refl _)) (fun H' h => I2.fpOk (Nat.le_refl _) h) ⟨_, Heap.get?_push_size _ rfl, rfl, rfl⟩) ?_
  rintro r s' ⟨rfl, hkk⟩
  exact hkk
/-- the middle loop -/
theorem flat_mid (B : FlatN Z n1 n2 n3 k1 k2 k3) {pins : List (Addr × Obj)} {σ : L2.St} {H : Hp} {s : Shared} {R : Result → Shared → Prop} {it D c : Addr} {acc cells xs : List V}
    (hn : H D = none) (hc : SqT Z.K H c cells) (hf : FlatL Z.K H cells xs) (hz : acc.length + xs.length ≤ 1000000) (I : Inv Z pins σ (upd H D (.lst acc)) s) (st : s.heap.IsTupleIter it c 0) (hit : (upd H D (.lst acc)) it = none)
    (hfp : ∀ H, H it = none → FpOk Z pins H it)
    (fin : ∀ s' σ', Inv Z pins σ' (upd H D (.lst (acc ++ xs))) s' → Ag [k2, k3] σ σ' → R (.ok .next) s') :
    codeAny (model Z.prog Z.w) Z.A (.compLoop (flatE n1 n2 n3 iter scope q1 q2 q3 a1 a2 a3 pos) 1 (.ref it) (.ref D) Z.env) R s := by
  refine flat_loop (ws := [k2, k3]) B.xe B.calm B.nd flat_t1 B.h2 (.inl B.l2) (.inr B.l2) (List.mem_cons_self) σ
    (fun i H' => ∃ pre suf ys zs, cells = pre ++ suf ∧ pre.length = i ∧ FlatL Z.K H pre ys ∧ FlatL Z.K H suf zs ∧ xs = ys ++ zs ∧ H' = upd H D (.lst (acc ++ ys)))
    (fun i H' _ ⟨_, _, _, _, _, _, _, _, _, e⟩ => by rw [e]; exact sqT_new hn hc) hfp (fun i x s1 σ1 H1 hx e hi I1 hk ag kk Qf Ef cont => ?_) (fun s' σ' H' I' ag e => ?_) I (Ag.refl _ _)
    ⟨[], cells, [], xs, rfl, rfl, .nil, hf, rfl, by rw [List.append_nil]⟩ hit st
  · obtain ⟨pre, suf, ys, zs, ec, el, f1, f2, ex, rfl⟩ := e
    cases f2 with
    | nil =>
      rw [ec, List.append_nil, ← el, List.getElem?_eq_none (Nat.le_refl _)] at hx
      exact nomatch hx
    | @cons b bs suf' zs' hb r =>
      have xb : x = .ref b := by
        rw [ec, ← el, List.getElem?_append_right (Nat.le_refl _), Nat.sub_self] at hx
        exact (Option.some.inj hx).symm
      subst xb
      have zl : acc.length + ys.length + bs.length ≤ 1000000 := by
        rw [ex, List.length_append, List.length_append] at hz
        omega
      refine flat_down B.xe B.h2 B.l2 B.d2 B.c2 I1 hk (sqT_new hn hb) fun s2 it2 I2 n2' fp2 st2 => ?_
      have loop : codeAny (model Z.prog Z.w) Z.A (.compLoop (flatE n1 n2 n3 iter scope q1 q2 q3 a1 a2 a3 pos) 2 (.ref it2) (.ref D) Z.env) (fun r s' => r = .ok .next ∧ wpAny (model Z.prog Z.w) Z.A kk Qf Ef s') s2 := by
        refine flat_in B hn hb (by rw [List.length_append]; exact zl) I2 st2 n2' fp2 fun s3 σ3 I3 ag3 => ⟨rfl, ?_⟩
        refine cont s3 σ3 _ I3 (ag.trans (ag3.mono (by simp))) ⟨pre ++ [.ref b], suf', ys ++ bs, zs', by rw [ec, List.append_assoc]; rfl, by rw [List.length_append, el]; rfl, FlatL.snoc hb f1, r, by rw [ex, List.append_assoc], by rw [List.append_assoc]⟩
      exact flat_s2 loop (wpAny_pyIter_tupleiter st2 loop)
  · obtain ⟨pre, suf, ys, zs, ec, el, f1, f2, ex, rfl⟩ := e
    have es : suf = [] := by
      have z := congrArg List.length ec
      rw [List.length_append, el] at z
      exact List.eq_nil_of_length_eq_zero (by omega)
    subst es
    cases f2
    rw [List.append_nil] at ex
    subst ex
    exact fin s' σ' I' ag
/-- the outer loop -/
theorem flat_out (B : FlatN Z n1 n2 n3 k1 k2 k3) {σ : L2.St} {H : Hp} {s : Shared} {R : Result → Shared → Prop} {it D c : Addr} {rows xs : List V}
    (hn : H D = none) (hc : SqT Z.K H c rows) (hf : FlatR Z.K H rows xs) (hz : xs.length ≤ 1000000) (I : Inv Z [] σ (upd H D (.lst [])) s) (st : s.heap.IsTupleIter it c 0) (hit : (upd H D (.lst [])) it = none)
    (hfp : ∀ H, H it = none → FpOk Z [] H it)
    (fin : ∀ s' σ', Inv Z [] σ' (upd H D (.lst xs)) s' → R (.ok .next) s') :
    codeAny (model Z.prog Z.w) Z.A (.compLoop (flatE n1 n2 n3 iter scope q1 q2 q3 a1 a2 a3 pos) 0 (.ref it) (.ref D) Z.env) R s := by
  refine flat_loop (ws := [k1, k2, k3]) B.xe B.calm B.nd flat_t0 B.h1 (.inl B.l1) (.inr B.l1) (List.mem_cons_self) σ
    (fun i H' => ∃ pre suf ys zs, rows = pre ++ suf ∧ pre.length = i ∧ FlatR Z.K H pre ys ∧ FlatR Z.K H suf zs ∧ xs = ys ++ zs ∧ H' = upd H D (.lst ys))
    (fun i H' _ ⟨_, _, _, _, _, _, _, _, _, e⟩ => by rw [e]; exact sqT_new hn hc) hfp (fun i x s1 σ1 H1 hx e hi I1 hk ag kk Qf Ef cont => ?_) (fun s' σ' H' I' ag e => ?_) I (Ag.refl _ _)
    ⟨[], rows, [], xs, rfl, rfl, .nil, hf, rfl, rfl⟩ hit st
  · obtain ⟨pre, suf, ys, zs, ec, el, f1, f2, ex, rfl⟩ := e
    cases f2 with
    | nil =>
      rw [ec, List.append_nil, ← el, List.getElem?_eq_none (Nat.le_refl _)] at hx
      exact nomatch hx
    | @cons b bcells bs suf' zs' hb hbl r =>
      have xb : x = .ref b := by
        rw [ec, ← el, List.getElem?_append_right (Nat.le_refl _), Nat.sub_self] at hx
        exact (Option.some.inj hx).symm
      subst xb
      have zl : ys.length + bs.length ≤ 1000000 := by
        rw [ex, List.length_append, List.length_append] at hz
        omega
      refine flat_down B.xe B.h1 B.l1 B.d1 B.c1 I1 hk (sqT_new hn hb) fun s2 it2 I2 n2' fp2 st2 => ?_
      have loop : codeAny (model Z.prog Z.w) Z.A (.compLoop (flatE n1 n2 n3 iter scope q1 q2 q3 a1 a2 a3 pos) 1 (.ref it2) (.ref D) Z.env) (fun r s' => r = .ok .next ∧ wpAny (model Z.prog Z.w) Z.A kk Qf Ef s') s2 := by
        refine flat_mid B hn hb hbl zl I2 st2 n2' fp2 fun s3 σ3 I3 ag3 => ⟨rfl, ?_⟩
        refine cont s3 σ3 _ I3 (ag.trans (ag3.mono (by simp))) ⟨pre ++ [.ref b], suf', ys ++ bs, zs', by rw [ec, List.append_assoc]; rfl, by rw [List.length_append, el]; rfl, FlatR.snoc hb hbl f1, r, by rw [ex, List.append_assoc], rfl⟩
      exact flat_s1 loop (wpAny_pyIter_tupleiter st2 loop)
  · obtain ⟨pre, suf, ys, zs, ec, el, f1, f2, ex, rfl⟩ := e
    have es : suf = [] := by
      have z := congrArg List.length ec
      rw [List.length_append, el] at z
      exact List.eq_nil_of_length_eq_zero (by omega)
    subst es
    cases f2
    rw [List.append_nil] at ex
    subst ex
    exact fin s' σ' I'
end
end Sg

set_option Elab.async false
set_option linter.all false
set_option maxRecDepth 100000
set_option maxHeartbeats 4000000
namespace Sg
open PySem PySem.Spec PyProof.Rows L2
/-- [c for a in e for b in a for c in b]: e a tuple of tuples of tuples -/
def tFlat (K : PySem.W.Frag) (te : TE) : TE := fun σ H Q => te σ H fun v H1 => ∃ t rows xs, v = .ref t ∧ SqT K H1 t rows ∧ FlatR K H1 rows xs ∧ xs.length ≤ 1000000 ∧
  ∀ D, H1 D = none → Q (.ref D) (upd H1 D (.lst xs))
section
variable {X : Cx} {n1 n2 n3 : Str} {iter : Expr} {scope : Scope} {q1 q2 q3 a1 a2 a3 pos : Pos} {k1 k2 k3 : Nat} {own : List (Str × Nat)} {te : TE}
theorem pe_flat (hc : X.calm = true) (hN : X.N.Nodup) (hi : PE X iter te) (ok : BlkOk X.N X.env.scope scope own)
    (h1 : X.N[k1]? = some n1) (h2 : X.N[k2]? = some n2) (h3 : X.N[k3]? = some n3)
    (l1 : ∀ (C : Addr) (cl : List (Str × Addr)), (compEnvC scope cl C X.env).scope.names.lookup n1 = some .local)
    (l2 : ∀ (C : Addr) (cl : List (Str × Addr)), (compEnvC scope cl C X.env).scope.names.lookup n2 = some .local)
    (l3 : ∀ (C : Addr) (cl : List (Str × Addr)), (compEnvC scope cl C X.env).scope.names.lookup n3 = some .local)
    (dd : ((n1 == ("__debug__" : Str)) || (n2 == ("__debug__" : Str)) || (n3 == ("__debug__" : Str)) || (n1 == ("__classdict__" : Str)) || (n2 == ("__classdict__" : Str)) || (n3 == ("__classdict__" : Str))) = false := by decide)
    (hs : ∀ x, foldedSetIterable iter X.env x = pure x := by intro _; rfl) :
    PE X (flatE n1 n2 n3 iter scope q1 q2 q3 a1 a2 a3 pos) (tFlat X.K te) := by
  simp only [Bool.or_eq_false_iff] at dd
  obtain ⟨⟨⟨⟨⟨d1, d2⟩, d3⟩, c1⟩, c2⟩, c3⟩ := dd
  constructor
  intro pins s σ H Q I h
  rw [eval_ListComp]
  have hfree : ∀ y ∈ scope.names, y.2 = .free → ∃ c, X.env.cells.lookup y.1 = some c := by
    intro y hy e
    cases ok.free y hy e with
    | inl k => exact I.ok.has _ (.inl k)
    | inr k => exact I.ok.has _ (.inr k)
  refine wpAny_comprehension_free (use := none) rfl hs (closure_ok hfree) ok.kind (fun y hy e => by rw [ok.uniq y hy, e]) (thn (hi.run pins s σ H _ I h) ?_)
  rintro xv s1 ⟨v, H1, I1, r1, t, rows, xs, rfl, hq, hf, hz, q⟩
  obtain rfl : xv = Value.ref t := r1
  obtain ⟨its, rv, p, hzz⟩ := I1.tuple hq
  refine wpAny_pyIter_tuple (show s1.heap.IsTuple t its.toArray from p) ?_
  generalize hs2 : ({ s1 with heap := s1.heap.push { cls := .type "tuple_iterator", data := .fields #[.ref t, .int 0 0] } } : Shared) = s2
  have I2 : Inv X pins σ H1 s2 := by
    rw [← hs2]
    exact I1.kept (t' := s1.toks) fun b o e => Heap.get?_push_of_some _ e
  generalize hit : s1.heap.objs.size = it
  have st2 : s2.heap.IsTupleIter it t 0 := by
    rw [← hs2, ← hit]
    exact ⟨_, Heap.get?_push_size _ rfl, rfl, rfl⟩
  have nn2 : H1 it = none := I1.hok.fresh (Nat.le_of_eq hit)
  have lt2 : it < s2.heap.objs.size := by
    obtain ⟨_, e, _⟩ := st2
    exact Heap.lt_size e
  have f2 : ∀ H', H' it = none → FpOk X pins H' it := fun H' hn => I1.fpOk (Nat.le_of_eq hit) hn
  refine wpAny_newObj_type (newEnv_comp ?_) (by show 0 ≤ sizeLine; decide)
  generalize hD : s2.heap.objs.size = D
  have hDn : H1 D = none := I2.hok.fresh (Nat.le_of_eq hD)
  generalize hs3 : ({ s2 with heap := s2.heap.push { cls := .type "list", data := .seq ([] : List Value).toArray } } : Shared) = s3
  have I3 : Inv X pins σ (upd H1 D (.lst [])) s3 := by
    rw [← hs3]
    refine I2.laid (t' := s2.toks) (fun b o e => Heap.get?_push_of_some _ e) (Nat.le_of_eq hD) ⟨Nat.zero_le _, [], 0, .nil, ?_⟩
    rw [← hD]
    exact Heap.get?_push_size _ rfl
  have k3' : ∀ b o, s2.heap.get? b = some o → s3.heap.get? b = some o := by
    intro b o e
    rw [← hs3]
    exact Heap.get?_push_of_some _ e
  have st3 : s3.heap.IsTupleIter it t 0 := st2.at fun o e => k3' it o e
  have lt3 : it < s3.heap.objs.size := by
    obtain ⟨_, e, _⟩ := st3
    exact Heap.lt_size e
  have nit : (upd H1 D (.lst [])) it = none := by
    rw [upd_ne (by rw [← hD]; exact Nat.ne_of_lt lt2)]
    exact nn2
  have I4 := block_start (fp := [it]) I3 ok hN (by
    intro b hb
    rw [List.mem_singleton.mp hb]
    exact ⟨f2 _ nit, lt3⟩)
  show codeAny _ _ (.compStart (flatE n1 n2 n3 iter scope q1 q2 q3 a1 a2 a3 pos) 0 (.ref it) (.ref D) (compEnvC scope (cellsFrom (s3.heap.objs.size + 1) scope.names (cloFrom X.env.cells scope.names [])) s3.heap.objs.size X.env))
    (compPost (model X.prog X.w) X.A X.xe none (EP X pins σ Q) (.ref D) s3.heap.objs.size) { s3 with heap := pushCells (s3.heap.push { cls := .type "dict", data := .dict #[] }) scope.names }
  have hl1 := l1 s3.heap.objs.size (cellsFrom (s3.heap.objs.size + 1) scope.names (cloFrom X.env.cells scope.names []))
  have hl2 := l2 s3.heap.objs.size (cellsFrom (s3.heap.objs.size + 1) scope.names (cloFrom X.env.cells scope.names []))
  have hl3 := l3 s3.heap.objs.size (cellsFrom (s3.heap.objs.size + 1) scope.names (cloFrom X.env.cells scope.names []))
  have cL : (compEnvC scope (cellsFrom (s3.heap.objs.size + 1) scope.names (cloFrom X.env.cells scope.names [])) s3.heap.objs.size X.env).locals = s3.heap.objs.size := rfl
  generalize compEnvC scope (cellsFrom (s3.heap.objs.size + 1) scope.names (cloFrom X.env.cells scope.names [])) s3.heap.objs.size X.env = ce at I4 hl1 hl2 hl3 cL ⊢
  have st4 : (pushCells (s3.heap.push { cls := .type "dict", data := .dict #[] }) scope.names).IsTupleIter it t 0 :=
    st3.at fun o e => pushCells_keeps _ _ _ _ (Heap.get?_push_of_some _ e)
  generalize hs4 : ({ s3 with heap := pushCells (s3.heap.push { cls := .type "dict", data := .dict #[] }) scope.names } : Shared) = s4 at I4 ⊢
  have st4' : s4.heap.IsTupleIter it t 0 := by rw [← hs4]; exact st4
  have B : FlatN (X.blk s3 (upd H1 D (.lst [])) scope ce [it]) n1 n2 n3 k1 k2 k3 := ⟨rfl, hc, hN, h1, h2, h3, hl1, hl2, hl3, d1, d2, d3, c1, c2, c3⟩
  have fpZ : ∀ H', H' it = none → FpOk (X.blk s3 (upd H1 D (.lst [])) scope ce [it]) [] H' it := by
    intro H' hn
    refine ⟨hn, (I4.ok.exf it (List.mem_singleton.mpr rfl)).1, I4.ok.exfs it (List.mem_singleton.mpr rfl), .inl (List.mem_singleton.mpr rfl), (I4.ok.exf it (List.mem_singleton.mpr rfl)).2, ?_⟩
    intro p hp
    have hp' : p ∈ ([] : List (Addr × Obj)) ++ [] := hp
    exact nomatch hp'
  have loop : codeAny (model X.prog X.w) X.A (.compLoop (flatE n1 n2 n3 iter scope q1 q2 q3 a1 a2 a3 pos) 0 (.ref it) (.ref D) ce)
      (compPost (model X.prog X.w) X.A X.xe none (EP X pins σ Q) (.ref D) s3.heap.objs.size) s4 := by
    refine flat_out B hDn hq hf hz I4 st4' nit fpZ ?_
    intro s' σ' I5
    have I6 : Inv X pins σ (upd H1 D (.lst xs)) s' := by
      refine I3.call' (ch := [it]) I5.os I5.base I5.hok I5.bare ?_
      intro b hb
      rw [List.mem_singleton.mp hb]
      obtain ⟨_, g1, g2, g3, g4, g5⟩ := f2 _ nit
      exact ⟨g3, g1, g4, g5⟩
    have nC : (upd H1 D (.lst xs)) s3.heap.objs.size = none := by
      have z : (upd H1 D (.lst xs)) ce.locals = none := I5.free
      rw [cL] at z
      exact z
    obtain ⟨m, hn, _⟩ := I5.loc
    have hn' : s'.heap.Ns ce.locals m := hn
    rw [cL] at hn'
    refine ⟨m, hn', ?_⟩
    intro h'' sb
    obtain ⟨f0, f1, f2', f3, f4, f5⟩ := I3.fpOk (Nat.le_refl _) nC
    exact ⟨.ref D, _, I6.turned (t' := s'.toks) (fun b o hb e => (sb.2 b hb).trans e) f0 f1 f3 f4 f5, rfl, q D hDn⟩
  exact codeAny_compStart_list loop (wpAny_pyIter_tupleiter st4' loop)
end
end Sg

set_option Elab.async false
set_option linter.all false
set_option maxRecDepth 100000
set_option maxHeartbeats 4000000
namespace Sg
open PySem PySem.Spec PyProof.Rows L2
/-! ## max with a default -/
section
variable {X : Cx}
theorem cr_maxD (hc : X.calm = true) {j : Nat} (hr : Room j X.A) : CallRK X (.builtin "max") ["default"] (fun vs zs H Q => ∃ (a : Addr) (ns : List Int) (d : Int), vs = [.ref a] ∧ zs = [.int d] ∧ SqL X.K H a (ns.map V.int) ∧
    ∀ m : Int, (ns = [] → m = d) → (ns ≠ [] → m ∈ ns ∧ ∀ x ∈ ns, x ≤ m) → Q (.int m) H) := by
  intro pins s σ H xs zs us ws Q I r rz h
  obtain ⟨a, ns, d, rfl, rfl, hs, q⟩ := h
  obtain ⟨u, rfl, rfl⟩ := vals1 r
  obtain ⟨dv, rfl, td, rfl⟩ := vals1 rz
  obtain ⟨its, rv, hl, hzz⟩ := I.list hs
  have dp : DpAll X.K H (ns.map V.int) (ns.map PyData.int) := by
    clear hs q rv hl hzz
    induction ns with
    | nil => exact .nil
    | cons x r ih => exact .cons (.int x) ih
  obtain ⟨as, rd⟩ := Dp.readsAll I (ns.map PyData.int) _ its dp rv
  have al : PySem.W.AlikeAll (ns.map PyData.int) := by
    constructor
    · intro x hx y hy
      obtain ⟨i, _, rfl⟩ := List.mem_map.mp hx
      obtain ⟨j, _, rfl⟩ := List.mem_map.mp hy
      rfl
    · intro x hx z
      obtain ⟨i, _, rfl⟩ := List.mem_map.mp hx
      exact nomatch z
  have dep : PyData.depthAll (ns.map PyData.int) = 0 := by
    clear hs q rv hl rd al dp hzz
    induction ns with
    | nil => rfl
    | cons x r ih =>
      show max (PyData.depth (.int x)) (PyData.depthAll (r.map PyData.int)) = 0
      rw [ih]; rfl
  have hu := hr.units
  refine PySem.W.max_list_default (I.ok.hd hc) hl.isList (by simpa using rd) al (by rw [dep]; omega) (fun e h' tk hk => ?_) (fun y ys i v h' tk bs e hv hrd hk => ?_)
  · exact ⟨.int d, H, I.kept hk, ⟨_, rfl⟩, q d (fun _ => rfl) (fun z => absurd (List.map_eq_nil_iff.mp e) z)⟩
  · cases ns with
    | nil => exact nomatch e
    | cons n ns' =>
      obtain ⟨e1, e2⟩ := List.cons.inj e
      subst e1 e2
      rw [PySem.W.maxD_ints] at hrd
      cases hrd
      refine ⟨.int _, H, I.kept hk, ⟨_, rfl⟩, q _ (fun z => nomatch z) (fun _ => ?_)⟩
      have key : ∀ (l : List Int) (a : Int), (l.foldl max a = a ∨ l.foldl max a ∈ l) ∧ a ≤ l.foldl max a ∧ ∀ x ∈ l, x ≤ l.foldl max a := by
        intro l
        induction l with
        | nil => intro a; exact ⟨.inl rfl, Int.le_refl _, fun x hx => nomatch hx⟩
        | cons b l ih =>
          intro a
          obtain ⟨g1, g2, g3⟩ := ih (max a b)
          refine ⟨?_, by show a ≤ l.foldl max (max a b); omega, fun x hx => ?_⟩
          · show l.foldl max (max a b) = a ∨ l.foldl max (max a b) ∈ b :: l
            rcases g1 with g | g
            · rcases Int.le_total a b with z | z
              · right; rw [g, Int.max_eq_right z]; exact List.mem_cons_self
              · left; rw [g, Int.max_eq_left z]
            · exact .inr (List.mem_cons_of_mem _ g)
          · show x ≤ l.foldl max (max a b)
            rcases List.mem_cons.mp hx with rfl | z
            · omega
            · exact g3 x z
      obtain ⟨g1, g2, g3⟩ := key ns' n
      refine ⟨?_, fun x hx => ?_⟩
      · rcases g1 with g | g
        · rw [g]; exact List.mem_cons_self
        · exact List.mem_cons_of_mem _ g
      · rcases List.mem_cons.mp hx with rfl | z
        · exact g2
        · exact g3 x z
end
/-! ## operators of one's own -/
section
variable {X : Cx} {k : Nat} {C g : Addr} {fd : FuncData} {ps : List Str} {sp : Sp}
theorem back_of {pins : List (Addr × Obj)} {σ : L2.St} {Q : VK} {u : Value} {s : Shared} (h : EP X pins σ Q u s) : PySem.W.CmpBack (EP X pins σ Q) u s := by
  obtain ⟨v, H, I, r, q⟩ := id h
  cases v with
  | non => cases r; exact h
  | bl b => cases r; exact h
  | int i => obtain ⟨t, rfl⟩ := r; exact h
  | str i => obtain ⟨t, rfl⟩ := r; exact h
  | byt i => obtain ⟨t, rfl⟩ := r; exact h
  | flt i => obtain ⟨t, rfl⟩ := r; exact h
  | ref a => cases r; exact h
  | ty n => cases r; exact h
/-- an instance of C -/
def InsAt (H : Hp) (C a : Addr) : Prop := ∃ dx fs, H a = some (.ins C dx fs)
theorem insAt_look {pins : List (Addr × Obj)} {σ : L2.St} {H : Hp} {s : Shared} {a : Addr} (I : Inv X pins σ H s) (h : InsAt H C a) : ∃ ox od, PySem.W.InstAt s.heap a ox C od := by
  obtain ⟨dx, fs, h⟩ := h
  obtain ⟨mA, O, _⟩ := ins_get I.hok h
  obtain ⟨od, J, _⟩ := O.look
  exact ⟨_, _, J⟩
/-- a + b and its like, both instances of C -/
theorem op_own {op : Operator} (F : FnOk X.prog X.w X.K X.mg X.base CX0 k g fd ps sp) (hr : Room k X.A) (hb : Binds X.K fd ps []) (hs : PySem.W.findIn X.K (.ref C) (PySem.dunder op.info.2) = some (some (.ref g)))
    (hf : PySem.W.isFn X.K (.ref g) = true) (hc : PySem.W.selfFirst X.K C = true) :
    OpR X (binaryOp op) (fun x y H Q => ∃ a b, x = .ref a ∧ y = .ref b ∧ InsAt H C a ∧ InsAt H C b ∧ sp [.ref a, .ref b] H Q E0) := by
  intro pins s σ H x y v u Q I rx ry h
  obtain ⟨a, b, rfl, rfl, ha, hb', h⟩ := h
  obtain rfl : v = Value.ref a := rx
  obtain rfl : u = Value.ref b := ry
  obtain ⟨m, hF⟩ := I.fr
  obtain ⟨_, _, J⟩ := insAt_look I ha
  obtain ⟨_, _, J'⟩ := insAt_look I hb'
  refine PySem.W.binop_K hF I.ok.mod.kin J J'.type hc hs hf ?_
  exact thn (run_fn (us := [.ref a, .ref b]) (vs := [.ref a, .ref b]) F hr hb .nil pass0 I (.cons rfl (.cons rfl .nil)) h) fun _ _ z => back_of z
/-- a - n, n a whole number -/
theorem op_ownI {op : Operator} {fo ro rc : Option Value} (F : FnOk X.prog X.w X.K X.mg X.base CX0 k g fd ps sp) (hr : Room k X.A) (hb : Binds X.K fd ps []) (hs : PySem.W.findIn X.K (.ref C) (PySem.dunder op.info.2) = some (some (.ref g)))
    (hf : PySem.W.isFn X.K (.ref g) = true) (hc : PySem.W.selfFirst X.K C = true) (hrr : PySem.W.findIn X.K (.ref C) (dunderR op.info.2) = some rc) (hp : rc = none ∨ ∃ g : Addr, rc = some (.ref g))
    (h1 : PySem.W.findIn X.K (.type "int") (PySem.dunder op.info.2) = some fo) (h2 : PySem.W.findIn X.K (.type "int") (dunderR op.info.2) = some ro) (hsub : PySem.W.subIn X.K (.type "int") (.ref C) = some false) :
    OpR X (binaryOp op) (fun x y H Q => ∃ a i, x = .ref a ∧ y = .int i ∧ InsAt H C a ∧ sp [.ref a, .int i] H Q E0) := by
  intro pins s σ H x y v u Q I rx ry h
  obtain ⟨a, i, rfl, rfl, ha, h⟩ := h
  obtain rfl : v = Value.ref a := rx
  obtain ⟨t, rfl⟩ := ry
  obtain ⟨m, hF⟩ := I.fr
  obtain ⟨_, _, J⟩ := insAt_look I ha
  refine PySem.W.ksp_binT (T := "int") hF I.ok.mod.kin J rfl hc hs hf hrr hp h1 h2 hsub ?_
  exact thn (run_fn (us := [.ref a, .int i t]) (vs := [.ref a, .int i]) F hr hb .nil pass0 I (.cons rfl (.cons ⟨t, rfl⟩ .nil)) h) fun _ _ z => back_of z
/-- -a -/
theorem un_own (F : FnOk X.prog X.w X.K X.mg X.base CX0 k g fd ps sp) (hr : Room k X.A) (hb : Binds X.K fd ps []) (hs : PySem.W.findIn X.K (.ref C) "__neg__" = some (some (.ref g))) (hf : PySem.W.isFn X.K (.ref g) = true) :
    UnR X (unaryOp .USub) (fun x H Q => ∃ a, x = .ref a ∧ InsAt H C a ∧ sp [.ref a] H Q E0) := by
  intro pins s σ H x v Q I rx h
  obtain ⟨a, rfl, ha, h⟩ := h
  obtain rfl : v = Value.ref a := rx
  obtain ⟨m, hF⟩ := I.fr
  obtain ⟨_, _, J⟩ := insAt_look I ha
  exact PySem.W.ksp_neg hF I.ok.mod.kin J hs hf (run_fn (us := [.ref a]) (vs := [.ref a]) F hr hb .nil pass0 I (.cons rfl .nil) h)
/-- a == b, both instances of C -/
theorem op_ownEq (F : FnOk X.prog X.w X.K X.mg X.base CX0 k g fd ps sp) (hr : Room k X.A) (hb : Binds X.K fd ps []) (hs : PySem.W.findIn X.K (.ref C) "__eq__" = some (some (.ref g))) (hf : PySem.W.isFn X.K (.ref g) = true) :
    OpR X (compareOp .Eq) (fun x y H Q => ∃ a b, x = .ref a ∧ y = .ref b ∧ InsAt H C a ∧ InsAt H C b ∧ sp [.ref a, .ref b] H Q E0) := by
  intro pins s σ H x y v u Q I rx ry h
  obtain ⟨a, b, rfl, rfl, ha, hb', h⟩ := h
  obtain rfl : v = Value.ref a := rx
  obtain rfl : u = Value.ref b := ry
  obtain ⟨m, hF⟩ := I.fr
  obtain ⟨_, _, J⟩ := insAt_look I ha
  obtain ⟨_, _, J'⟩ := insAt_look I hb'
  show wpAny (model X.prog X.w) X.A (richCompare .Eq (.ref a) (.ref b)) (EP X pins σ Q) X.xe s
  refine PySem.W.cmp_K (op := .Eq) (tb := .ref C) hr.units0 hF I.ok.mod.kin J J'.type (by simp [PySem.W.notFirst]) hs hf ?_
  exact thn (run_fn (us := [.ref a, .ref b]) (vs := [.ref a, .ref b]) F hr hb .nil pass0 I (.cons rfl (.cons rfl .nil)) h) fun _ _ z => back_of z
/-- a def called one C frame further in -/
theorem run_in1 {pins : List (Addr × Obj)} {σ : L2.St} {H : Hp} {s : Shared} {Q : VK} {us : List Value} {vs : List V} (F : FnOk X.prog X.w X.K X.mg X.base CX0 k g fd ps sp) (hr : Room (k + 1) X.A) (hb : Binds X.K fd ps [])
    (I : Inv X pins σ H s) (r : Vals vs us) (h : sp vs H Q E0) {E : Value → Shared → Prop} : wpAny (model X.prog X.w) X.A.in1 (call (.ref g) us) (EP X pins σ Q) E s := by
  have hl : (us ++ []).length = ps.length := by rw [List.append_nil, ← r.length]; exact F.len _ _ _ _ h
  have hbb := hb s us I.kIn hl
  rw [List.append_nil] at hbb
  refine wpAny_call (codeAny_mono (F.run X.A.in1 X.stack s H ⟨us, []⟩ us vs Q E0 hr.in1 I.env0.in1 hbb r h) ?_)
  intro r' s' hq
  match r', hq with
  | .error _, hq => exact hq.elim
  | .ok (.ret _), hq => exact I.after hq
  | .ok .next, hq => exact hq.elim
  | .ok .brk, hq => exact hq.elim
  | .ok .cont, hq => exact hq.elim
/-- len(a) -/
theorem call_lenO (F : FnOk X.prog X.w X.K X.mg X.base CX0 k g fd ps sp) (hr : Room (k + 1) X.A) (hb : Binds X.K fd ps []) (hs : PySem.W.findIn X.K (.ref C) "__len__" = some (some (.ref g))) (hf : PySem.W.isFn X.K (.ref g) = true) :
    CallR X (.builtin "len") (fun xs H Q => ∃ a, xs = [.ref a] ∧ InsAt H C a ∧ sp [.ref a] H (fun v H' => ∃ n : Nat, v = .int n ∧ n < 1000000 ∧ Q (.int n) H') E0) := by
  intro pins s σ H xs us Q I r h
  obtain ⟨a, rfl, ha, h⟩ := h
  obtain ⟨u, rfl, rfl⟩ := vals1 r
  obtain ⟨m, hF⟩ := I.fr
  obtain ⟨_, _, J⟩ := insAt_look I ha
  refine PySem.W.len_K hF I.ok.mod.kin J hs hf (thn (run_in1 (us := [.ref a]) (vs := [.ref a]) F hr hb I (.cons rfl .nil) h) ?_)
  rintro v s' ⟨x, H', I', rx, n, rfl, hn, q⟩
  obtain ⟨t, rfl⟩ := rx
  exact ⟨⟨by omega, by omega⟩, ⟨.int n, H', I'.tok _, ⟨_, rfl⟩, q⟩⟩
/-- a[i] -/
theorem ix_own (F : FnOk X.prog X.w X.K X.mg X.base CX0 k g fd ps sp) (hr : Room k X.A) (hb : Binds X.K fd ps []) (hs : PySem.W.findIn X.K (.ref C) "__getitem__" = some (some (.ref g))) (hf : PySem.W.isFn X.K (.ref g) = true) (hq : PySem.W.noSeq X.K C = true) :
    ∀ (pins : List (Addr × Obj)) (s : Shared) (σ : L2.St) (H : Hp) (a : Addr) (y : V) (u : Value) (Q : VK), Inv X pins σ H s → RelV y u → InsAt H C a → sp [.ref a, y] H Q E0 →
      wpAny (model X.prog X.w) X.A (getItem (.ref a) u) (EP X pins σ Q) X.xe s := by
  intro pins s σ H a y u Q I ry ha h
  obtain ⟨m, hF⟩ := I.fr
  obtain ⟨_, _, J⟩ := insAt_look I ha
  exact PySem.W.getItem_K hF I.ok.mod.kin J hq hs hf (run_fn (us := [.ref a, u]) (vs := [.ref a, y]) F hr hb .nil pass0 I (.cons rfl (.cons ry .nil)) h)
/-- the same as an FnR -/
theorem fnR_of {P : Program} {w : World} {K : PySem.W.Frag} {mg : Str → Option Value} {base : Heap} (F : FnOk P w K mg base CX0 k g fd ps sp) (hb : Binds K fd ps []) : FnR P w K mg base CX0 k g sp := by
  intro A outer s H us vs Q E hr e0 r h
  have hl : (us ++ []).length = ps.length := by rw [List.append_nil, ← r.length]; exact F.len _ _ _ _ h
  have KX : K.In s.heap := e0.mod.kin.keeps fun b o e => (e0.bs b o e).1
  have hbb := hb s us KX hl
  rw [List.append_nil] at hbb
  exact F.run A outer s H ⟨us, []⟩ us vs Q E hr e0 hbb r h
end
end Sg

set_option Elab.async false
set_option linter.all false
set_option maxRecDepth 100000
set_option maxHeartbeats 4000000
namespace Sg
open PySem PySem.Spec PyProof.Rows L2
/-! ## != by an own __eq__ -/
theorem slot_object_ne : Slot "object" "__ne__" "object.__ne__" :=
  Slot.of (T := "object") (name := "__ne__") (owner := "object") (n := "__ne__") (by rw [typeLookup_type, builtinLookup_eq_fast]; kernel_rfl)
    (by decide +kernel) (by decide +kernel) (by decide +kernel) (.inl (by decide +kernel)) (by rw [isSubtype_type]; kernel_rfl)
section
variable {X : Cx} {k : Nat} {C g : Addr} {fd : FuncData} {ps : List Str} {sp : Sp}
theorem op_ownNe (F : FnOk X.prog X.w X.K X.mg X.base CX0 k g fd ps sp) (hr : Room (k + 2) X.A) (hb : Binds X.K fd ps []) (hs : PySem.W.findIn X.K (.ref C) "__eq__" = some (some (.ref g))) (hf : PySem.W.isFn X.K (.ref g) = true)
    (hne : PySem.W.findIn X.K (.ref C) "__ne__" = some (some (.builtin "object.__ne__"))) (hsub : PySem.W.subIn X.K (.ref C) (.type "object") = some true) :
    OpR X (compareOp .NotEq) (fun x y H Q => ∃ a b, x = .ref a ∧ y = .ref b ∧ InsAt H C a ∧ InsAt H C b ∧ sp [.ref a, .ref b] H (fun v H' => ∃ c, v = .bl c ∧ Q (.bl (!c)) H') E0) := by
  intro pins s σ H x y v u Q I rx ry h
  obtain ⟨a, b, rfl, rfl, ha, hb', h⟩ := h
  obtain rfl : v = Value.ref a := rx
  obtain rfl : u = Value.ref b := ry
  obtain ⟨_, _, J⟩ := insAt_look I ha
  obtain ⟨_, _, J'⟩ := insAt_look I hb'
  have hcall := run_in1 (us := [.ref a, .ref b]) (vs := [.ref a, .ref b]) (E := X.xe) F (hr.mono (by omega)) hb I (.cons rfl (.cons rfl .nil)) h
  have inner : wpAny (model X.prog X.w) X.A.in1 (Builtin.«object.__ne__» ⟨[.ref a, .ref b], []⟩) (fun fin s' => ∃ r, fin = .done (.ret (.bool r)) ∧ EP X pins σ Q (.bool r) s') X.xe s := by
    unfold Builtin.«object.__ne__»
    refine wpAny_bind (m := slotArgs "__ne__" 1 ⟨[.ref a, .ref b], []⟩) (wpAny_of_eq (a := (Value.ref a, [Value.ref b])) (by first | rfl | (simp only [slotArgs]; rfl)) ?_)
    refine wpAny_bind (wpAny_cRoomFor (show X.A.in1.units < cLine from (hr.mono (show k + 1 ≤ k + 2 by omega)).in1.units0) ?_)
    refine wpAny_bind (m := callSpecialIfBound? (.ref a) (Str.ofString "__eq__") [.ref b]) (PySem.W.ifBound_K I.kIn J hs hf (thn hcall ?_))
    rintro w' s' ⟨z, H', I', rz, c, rfl, q⟩
    obtain rfl : w' = Value.bool c := rz
    refine wpAny_bind (wpAny_truthy_bool ?_)
    exact wpAny_pure ⟨!c, rfl, .bl (!c), H', I', rfl, q⟩
  have isI : PySem.W.Looks (model X.prog X.w) s.heap (isInstance (.ref a) (.type "object")) true := J.type.andThen (PySem.W.looks_subIn I.kIn hsub)
  have one : wpAny (model X.prog X.w) X.A (tryCompare (.ref a) "__ne__" (.ref b)) (fun r s' => ∃ c, r = some (.bool c) ∧ EP X pins σ Q (.bool c) s') X.xe s := by
    unfold tryCompare
    have call1 : wpAny (model X.prog X.w) X.A (call (.builtin "object.__ne__") [.ref a, .ref b]) (fun r s' => ∃ c, r = .bool c ∧ EP X pins σ Q (.bool c) s') X.xe s := by
      refine wpAny_call (codeAny_call_builtin slot_object_ne.plain PySem.F.cmpEntry_ne ?_)
      refine PySem.W.check_slot PySem.F.cmpKind_ne PySem.F.cmpSplit_ne isI (PySem.F.cmpArgs_ne _ _) (thn inner ?_)
      rintro fin s' ⟨r, rfl, q⟩
      exact ⟨r, rfl, q⟩
    have call2 : wpAny (model X.prog X.w) X.A (callSpecialIfBound? (.ref a) "__ne__" [.ref b]) (fun r s' => ∃ c, r = some (.bool c) ∧ EP X pins σ Q (.bool c) s') X.xe s := by
      simp only [callSpecialIfBound?, bindSpecialIfBound?]
      refine wpAny_holding (wpAny_bind (wpAny_bind (wpAny_bind (J.type.here ((PySem.W.looks_findIn I.kIn hne).here ?_)))))
      refine wpAny_bind (wpAny_askSetting (wpAny_ite ?_))
      have fin : wpAny (model X.prog X.w) X.A (call (.builtin "object.__ne__") ([.ref a] ++ [.ref b]) >>= fun v => pure (some v)) (fun r s' => ∃ c, r = some (.bool c) ∧ EP X pins σ Q (.bool c) s') X.xe s := by
        refine wpAny_bind (thn call1 ?_)
        rintro r s' ⟨c, rfl, q⟩
        exact wpAny_pure ⟨c, rfl, q⟩
      have bind : (bindSpecial (.builtin "object.__ne__") (.ref a) : Sem _) = pure (.builtin "object.__ne__", [.ref a]) := slot_object_ne.bind (.ref a)
      split
      · rw [bind]; exact wpAny_bind (wpAny_pure (wpAny_pure (by exact fin)))
      · rw [bind]; exact wpAny_tryCatch (wpAny_bind (wpAny_pure (wpAny_pure (by exact fin))))
    refine wpAny_bind (thn call2 ?_)
    rintro r s' ⟨c, rfl, q⟩
    exact wpAny_pure ⟨c, rfl, q⟩
  show wpAny (model X.prog X.w) X.A (richCompare .NotEq (.ref a) (.ref b)) (EP X pins σ Q) X.xe s
  unfold richCompare
  simp only [oneThing_ref]
  refine wpAny_holding (wpAny_bind (wpAny_cRoomFor hr.units0 ?_))
  refine wpAny_bind (J.type.here (wpAny_bind (J'.type.here ?_)))
  rw [show (Value.ref C != Value.ref C) = false from by simp]
  simp only [Bool.false_eq_true, if_false]
  refine wpAny_bind (wpAny_pure ?_)
  simp only [Bool.false_eq_true, if_false]
  refine wpAny_bind (thn one ?_)
  rintro r s' ⟨c, rfl, q⟩
  exact wpAny_pure q
end
end Sg

set_option Elab.async false
set_option linter.all false
set_option maxRecDepth 100000
set_option maxHeartbeats 4000000
namespace Sg
open PySem PySem.Spec PyProof.Rows L2 HT
/-! ## t[::-1] of a tuple -/
section
variable {prog : Program} {w : World} {A : Around} {E : Value → Shared → Prop} {s : Shared}
theorem slicePlaces_rev (n : Nat) : Builtin.Slice.slicePlaces ((n : Int) - 1) (-1) (-1) = n := by
  unfold Builtin.Slice.slicePlaces
  have h1 : ¬ ((-1 : Int) > 0) := by omega
  simp only [h1, if_false, Int.neg_neg, Int.ediv_one]
  split <;> omega
theorem sliceApplied_rev {sl : Addr} {vl vu vs : Value} {n : Nat} {Q : Int × Int × Nat → Shared → Prop} (hs : s.heap.IsSliceOf sl vl vu vs) (pl : IsPart vl none) (pu : IsPart vu none) (ps : IsPart vs (some (-1)))
    (h : Q ((n : Int) - 1, -1, n) s) : wpAny (model prog w) A (Builtin.Slice.sliceApplied (.ref sl) (pure (n : Int))) Q E s := by
  obtain ⟨os, hos, hcs, hds⟩ := id hs
  unfold Builtin.Slice.sliceApplied Builtin.Slice.sliceFields
  refine wpAny_bind (wpAny_bind (wpAny_field hos hds (x := vl) rfl (wpAny_bind (wpAny_field hos hds (x := vu) rfl (wpAny_bind (wpAny_field hos hds (x := vs) rfl (wpAny_pure ?_)))))))
  refine wpAny_bind (slicePart_ ps ?_)
  show wpAny _ _ (if ((-1 : Int) == 0) = true then _ else _) _ _ s
  rw [if_neg (by decide)]
  refine wpAny_bind (slicePart_ pl (wpAny_bind (slicePart_ pu (wpAny_bind (wpAny_pure ?_)))))
  show wpAny _ _ (pure ((n : Int) - 1, (-1 : Int), Builtin.Slice.slicePlaces ((n : Int) - 1) (-1) (-1))) _ _ s
  rw [slicePlaces_rev]
  exact wpAny_pure h
theorem filterMap_on {α β : Type} {f g : α → Option β} : ∀ {l : List α}, (∀ x ∈ l, f x = g x) → l.filterMap f = l.filterMap g
  | [], _ => rfl
  | x :: r, h => by
    rw [List.filterMap_cons, List.filterMap_cons, h x List.mem_cons_self, filterMap_on fun y hy => h y (List.mem_cons_of_mem _ hy)]
theorem pick_rev (xs : Array Value) : ((List.range xs.size).filterMap fun (m : Nat) => xs[(((xs.size : Int) - 1) + (m : Int) * (-1)).toNat]?).toArray = xs.toList.reverse.toArray := by
  have e1 : ∀ m ∈ List.range xs.size, xs[(((xs.size : Int) - 1) + (m : Int) * (-1)).toNat]? = xs[xs.size - 1 - m]? := by
    intro m hm
    have := List.mem_range.mp hm
    rw [show (((xs.size : Int) - 1) + (m : Int) * (-1)).toNat = xs.size - 1 - m from by omega]
  have e2 : ((List.range xs.size).map fun k => xs.size - 1 - k).filterMap (xs[·]?) = xs.toList.reverse := by
    rw [PySem.W.krv_range, List.filterMap_reverse, PySem.W.krv_all]
  rw [List.filterMap_map] at e2
  rw [← e2]
  congr 1
  exact filterMap_on (fun m hm => e1 m hm)
theorem getItem_tuple_rev {t sl : Addr} {items : Array Value} {vl vu vs : Value} {Q : Value → Shared → Prop} (ht : IsTup s.heap t items) (hs : s.heap.IsSliceOf sl vl vu vs) (pl : IsPart vl none) (pu : IsPart vu none) (ps : IsPart vs (some (-1)))
    (h : Q (.ref s.heap.objs.size) { s with heap := s.heap.push { cls := .type "tuple", data := .seq items.toList.reverse.toArray } })
    (hsz : items.size ≤ sizeLine) : wpAny (model prog w) A (getItem (.ref t) (.ref sl)) Q E s := by
  have htake : sizeOk (.seq items.toList.reverse.toArray) := by
    show items.toList.reverse.toArray.size ≤ sizeLine
    rw [List.size_toArray, List.length_reverse, Array.length_toList]
    exact hsz
  obtain ⟨os, hos, hcs, hds⟩ := id hs
  have hTs : s.TypeIs (.ref sl) "slice" := ⟨os, hos, hcs⟩
  unfold getItem
  try with_reducible refine wpAny_holding ?_
  first | refine wpAny_bind (wpAny_pure ?_) | skip
  refine wpAny_bind (wpAny_sequenceKey ht.typeIs (by decide) ?_)
  refine wpAny_bind (wpAny_callSpecial?_slot (name := Str.ofString "__getitem__") ht.typeIs PyProof.Rows.slot_tuple_getitem
    (wpAny_call_entry PyProof.Rows.slot_tuple_getitem ht.typeIs entry_tuple_getitem ?_ (args_tuple_getitem _ _)))
  show wpAny _ _ (Builtin.Tuple.tupleItemsOf (.ref t) >>= _) _ _ s
  refine wpAny_bind (tupleItemsOf_ ht ?_)
  refine wpAny_bind (wpAny_typeOf hTs ?_)
  rw [if_pos (by decide)]
  refine wpAny_bind (sliceApplied_rev hs pl pu ps ?_)
  have hno : ¬ ((((items.size : Int) - 1) == 0 && (-1 : Int) == 1 && items.size == items.size) = true) := by
    rw [show ((-1 : Int) == 1) = false from by decide, Bool.and_false, Bool.false_and]
    exact Bool.false_ne_true
  show wpAny _ _ (if (((items.size : Int) - 1) == 0 && (-1 : Int) == 1 && items.size == items.size) = true then _ else _) _ _ s
  rw [if_neg hno, pick_rev]
  first
    | exact wpAny_bind (m := Builtin.Tuple.tupleExact _) (wpAny_newObj_type (wpAny_pure ⟨_, rfl, wpAny_pure h⟩) htake)
    | exact wpAny_bind (m := Builtin.Tuple.tupleExact _) (wpAny_newObj_type (wpAny_bind (wpAny_pure (wpAny_pure ⟨_, rfl, wpAny_pure h⟩))) htake)
    | exact wpAny_bind (wpAny_bind (m := Builtin.Tuple.tupleExact _) (wpAny_newObj_type (wpAny_pure (wpAny_pure ⟨_, rfl, wpAny_pure h⟩)) htake))
    | exact wpAny_bind (wpAny_bind (m := Builtin.Tuple.tupleExact _) (wpAny_newObj_type (wpAny_pure ⟨_, rfl, wpAny_pure h⟩) htake))
end
def tRevT (K : PySem.W.Frag) (te : TE) : TE := fun σ H Q => te σ H fun x H1 => ∃ a xs, x = .ref a ∧ SqT K H1 a xs ∧ ∀ p, H1 p = none → Q (.ref p) (upd H1 p (.tup xs.reverse))
theorem pe_revT {X : Cx} {K : PySem.W.Frag} {e : Expr} {te : TE} {k : Nat} {p1 p2 p3 pos : Pos} (hK : X.K = K) (he : PE X e te) : PE X (.Subscript e (.Slice none none (some (.UnaryOp .USub (.Constant (.int 1) k p1) p2)) p3) pos) (tRevT K te) := by
  subst hK
  refine ⟨fun pins s σ H Q I h => ?_⟩
  refine Subscript_ (thn (he.run pins s σ H _ I h) fun v s1 ⟨x, H1, I1, r1, q1⟩ => ?_)
  obtain ⟨a, xs, ex, hx, q⟩ := q1
  subst ex
  cases r1
  have hst : PO X (some (.UnaryOp .USub (.Constant (.int 1) k p1) p2)) (tPart (tUn (rU fun i => .int (-i)) (tC (.int 1)))) := po_some (pe_un un_neg pe_int)
  refine wpAny_Slice (thn (po_none.run pins s1 σ H1 (fun o H2 => o = none ∧ H2 = H1) I1 ⟨rfl, rfl⟩) fun vl s2 ⟨l, H2, I2, pl, el, e2⟩ => ?_)
  subst el e2
  refine thn (po_none.run pins s2 σ H2 (fun o H3 => o = none ∧ H3 = H2) I2 ⟨rfl, rfl⟩) fun vu s3 ⟨u, H3, I3, pu, eu, e3⟩ => ?_
  subst eu e3
  refine thn (hst.run pins s3 σ H3 (fun o H4 => o = some (-1) ∧ H4 = H3) I3 ⟨1, rfl, -1, rfl, rfl, rfl⟩) fun vs s4 ⟨o, H4, I4, ps, eo, e4⟩ => ?_
  subst eo e4
  have I5 : Inv X pins σ H4 { s4 with heap := s4.heap.push { cls := .type "slice", data := .fields #[vl, vu, vs] } } := I4.kept (t' := s4.toks) fun b ob q => Heap.get?_push_of_some _ q
  obtain ⟨its, r, ht, hz⟩ := I5.tuple hx
  have hlen := r.length
  show wpAny (model X.prog X.w) X.A (subscriptTail e (.Slice none none (some (.UnaryOp .USub (.Constant (.int 1) k p1) p2)) p3) (.ref a) (.ref s4.heap.objs.size)) (EP X pins σ Q) X.xe { s4 with heap := s4.heap.push { cls := .type "slice", data := .fields #[vl, vu, vs] } }
  refine tail_any (ops := [.ref a, .ref s4.heap.objs.size]) ht.typeIs PyProof.Rows.slot_tuple_getitem.lookup ?_ (by with_unfolding_all rfl)
  refine getItem_tuple_rev ht (Heap.IsSliceOf.new _ vl vu vs) pl pu ps ?_ (by rw [List.size_toArray]; omega)
  refine ⟨.ref _, _, I5.laid (t' := s4.toks) (o := .tup xs.reverse) (fun b ob q => Heap.get?_push_of_some _ q) (Nat.le_refl _) ?_, rfl, q _ (I5.hok.fresh (Nat.le_refl _))⟩
  exact ⟨by rw [List.length_reverse]; exact hz, _, r.reverse, IsTup.new _ _⟩
end Sg

set_option Elab.async false
set_option linter.all false
set_option maxRecDepth 100000
set_option maxHeartbeats 4000000
namespace Sg
open PySem PySem.Spec PyProof.Rows L2
/-! ## d.setdefault(t, v), t a tuple of ints and texts -/
def rSetdT : V → List V → Hp → VK → Prop := fun x xs H Q => ∃ (a : Addr) (kvs : List (List L2.Key × V)) (k : List L2.Key) (b : Addr) (d : V), x = .ref a ∧ xs = [.ref b, d] ∧ H a = some (.dT kvs) ∧ H b = some (.tup (k.map kV)) ∧ kvs.length < sizeLine ∧
  (∀ v, valV kvs k = some v → Q v H) ∧ (valV kvs k = none → Q d (upd H a (.dT (putK kvs k d))))
theorem mt_setdT {X : Cx} (hu : X.A.units + 1 < cLine) : MtR X "dict.setdefault" rSetdT := by
  intro pins s σ H x xs v us Q I rx rxs h
  obtain ⟨a, kvs, k, b, d, rfl, rfl, ha, hb, hl, q1, q2⟩ := h
  cases rx
  obtain ⟨u1, u2, rfl, r1, r2⟩ := vals2 rxs
  cases r1
  obtain ⟨z, hd, xs', rel, dd⟩ := dt_of I.hok ha
  have hz : xs'.length ≤ sizeLine := by rw [← Paired.length rel]; exact z
  refine call_meetsIn PySem.F.slot_dict_setdefault dd.typeIs PySem.F.entry_dict_setdefault (PySem.F.args_dict_setdefault_3 _ _ _) (meetsH_dict_setdefault (tupleKind (mixKind X.prog X.w)) a b hd u2)
    ⟨tupleKind_room_in1 hu, k, xs', key_of I.hok hb, dd, hz, fun p hp => ?_, fun hn h' dd' hs => ?_⟩
  · have r := rel.val k
    rw [hp] at r
    obtain ⟨v0, ev, rv⟩ : ∃ v0, valV kvs k = some v0 ∧ RelV v0 p.2 := by
      cases ev : valV kvs k with
      | none =>
        rw [ev] at r
        exact (show False from r).elim
      | some v0 =>
        rw [ev] at r
        exact ⟨v0, rfl, r⟩
    exact ⟨v0, H, I.tok _, rv, q1 v0 ev⟩
  · have r := rel.val k
    rw [hn] at r
    have e : valV kvs k = none := by
      cases ev : valV kvs k with
      | none => rfl
      | some v0 =>
        rw [ev] at r
        exact (show False from r).elim
    have hl2 : (putK kvs k d).length ≤ sizeLine := by
      have := length_putK kvs k d
      omega
    obtain ⟨o, es, ep, hq, h2, h3, h4, _, h5⟩ := dd'
    refine ⟨d, _, ?_, r2, q2 e⟩
    exact d_write I (by rw [ha]; exact True.intro) hs ⟨o, hq⟩ ⟨hl2, hd, _, (rel.put k hb r2).keeps (fun c ys ec => (by rw [upd_ne (ne_of ec ha (fun z => nomatch z))]; exact ec)), o, es, ep, hq, h2, h3, h4, h5⟩
end Sg

set_option Elab.async false
set_option linter.all false
set_option maxRecDepth 100000
set_option maxHeartbeats 4000000
namespace Sg
open PySem PySem.Spec PyProof.Rows L2
/-! ## for k, v in d.items(), d with tuples as keys -/
theorem pair_at {α β : Type} {G : α → β → Prop} : ∀ {l : List α} {m : List β}, Paired G l m → ∀ {i : Nat} {x : α}, l[i]? = some x → ∃ y, m[i]? = some y ∧ G x y
  | _, _, .nil, i, x, e => nomatch e
  | _, _, .cons r t, 0, x, e => by
    cases e
    exact ⟨_, rfl, r⟩
  | _, _, .cons r t, i + 1, x, e => pair_at t (i := i) (by simpa using e)
/-- the entries, as new pairs of the key's own tuple and the value -/
def IteT (d : Addr) (ob : Obj) (es : List (List L2.Key × V)) : It where
  go := fun j G => G d = some (.frz ob (.dT es)) ∧ j < es.length
  yld := fun j G x G' => ∃ t r k u, es[j]? = some (k, u) ∧ G r = some (.tup (k.map kV)) ∧ x = .ref t ∧ G t = none ∧ G' = upd G t (.tup [.ref r, u])
  stop := fun j G => G d = some (.frz ob (.dT es)) ∧ es.length ≤ j
section
variable {X : Cx} {pins : List (Addr × Obj)} {σ : L2.St} {H : Hp} {s : Shared} {d : Addr} {ob : Obj}
theorem frz_dT {ks : List (List L2.Key × V)} (I : Inv X pins σ H s) (h : H d = some (.frz ob (.dT ks))) : (d == sysModules) = false ∧ ∃ (es : Array DictEntry) (ep : Nat), DT.Raw s.heap d es ep ∧ ob.data = .dict es ep ∧ es.size = ks.length ∧
    ∀ (i : Nat) (k : List L2.Key) (v : V), ks[i]? = some (k, v) → ∃ (en : DictEntry) (q : Addr), es[i]? = some en ∧ en.key = .ref q ∧ RelV v en.val ∧ H q = some (.tup (k.map kV)) := by
  obtain ⟨g, _, ns, ys, pr, o2, es, ep, g2, hx, hdt, he, _⟩ := I.hok d _ h
  rw [g] at g2
  cases g2
  have l1 : es.size = ys.length := by
    have := congrArg List.length he
    rw [List.length_map, Array.length_toList] at this
    exact this
  have l2 : ks.length = ys.length := Paired.length pr
  refine ⟨ns, es, ep, ⟨ob, g, hx, hdt⟩, hdt, by omega, fun i k v e => ?_⟩
  obtain ⟨b, hb, e1, e2, e3⟩ := pair_at pr e
  have q : es[i]? = some (entryOfKey (tupleKind (mixKind X.prog X.w)) b) := by
    rw [← Array.getElem?_toList, he, List.getElem?_map, hb]
    rfl
  exact ⟨_, b.2.1, q, rfl, e3, e2⟩
end
theorem same_dict {o : Obj} {x y : Array DictEntry} {m n : Nat} (h : o.data = .dict x m) (h' : o.data = .dict y n) : y = x ∧ n = m := by
  rw [h] at h'
  cases h'
  exact ⟨rfl, rfl⟩
section
variable {P : Program} {w : World} {K : PySem.W.Frag} {d : Addr} {o : Obj} {es : Array DictEntry} {ep : Nat}
theorem turn_itemsT {ks : List (List L2.Key × V)} {elts : List Expr} {kk : Nat} {tpos : Pos} (it : Addr) (hod : o.data = .dict es ep) (hsz : es.size = ks.length) :
    Turn P w K (.Tuple elts kk tpos) (IteT d o ks) [it] it (fun i h => ∃ x y, IsItemIter h it d i es.size ep x y) where
  mem := List.mem_singleton.mpr rfl
  obj := by
    rintro i h ⟨x, y, e⟩ b hb
    obtain rfl := List.mem_singleton.mp hb
    exact ⟨_, e, fun v z => nomatch z⟩
  keep := by
    rintro i h h' ⟨x, y, e⟩ k
    exact ⟨x, y, k it (List.mem_singleton.mpr rfl) _ e⟩
  item := by
    intro X e1 e2 e3 hc i pins s σ H E I hf ⟨x, y, st⟩ ⟨hd, hi⟩
    subst e1 e2 e3
    obtain ⟨ns, es2, ep2, raw, hdt, hz, ent⟩ := frz_dT I hd
    obtain ⟨rfl, rfl⟩ := same_dict hod hdt
    obtain ⟨⟨k, v⟩, hkv⟩ : ∃ p, ks[i]? = some p := ⟨ks[i], List.getElem?_eq_getElem hi⟩
    obtain ⟨en, q, g1, g2, g3, g4⟩ := ent i k v hkv
    have hi2 : i < es2.size := by omega
    have g5 : es2[i] = en := by
      rw [Array.getElem?_eq_getElem hi2] at g1
      exact Option.some.inj g1
    have below : it < s.heap.objs.size := Heap.lt_size st
    have apart : s.heap.objs.size ≠ it := Nat.ne_of_gt below
    refine DT.nextI st raw hi2 fun h1 ho hT hz1 hk => ?_
    refine ⟨_, rfl, wpAny_letOwnedTupleGo_items (s := { s with heap := h1 }) ho fun h2 he sb => ?_⟩
    rw [g5] at hT he
    rw [g2] at hT
    have hT2 := (sb.2 s.heap.objs.size apart).trans hT
    have new : ObjOk X.prog X.w (upd H s.heap.objs.size (.tup [.ref q, v])) h2 s.heap.objs.size (.tup [.ref q, v]) :=
      ⟨by show 2 ≤ sizeLine; decide, [.ref q, en.val], .cons rfl (.cons g3 .nil), ⟨_, hT2, rfl, _, rfl⟩⟩
    have only : ∀ {b : Addr}, b ∉ [it] → b ≠ it := fun hb z => hb (List.mem_singleton.mpr z)
    have J := I.turnedNew (t' := s.toks) (ch := [it]) (fun b ob hb e => (sb.2 b (only hb)).trans (hk b ob (only hb) e)) hf (Nat.le_refl _) new
    refine ⟨.ref s.heap.objs.size, _, J, rfl, ⟨_, q, k, v, hkv, g4, rfl, I.hok.fresh (Nat.le_refl _), rfl⟩, ⟨_, _, he⟩, fun b hb => ?_⟩
    obtain rfl := List.mem_singleton.mp hb
    rw [upd_ne apart.symm]
    exact (hf b hb).1
  done := by
    intro X e1 e2 e3 hc i pins s σ H E I hf ⟨x, y, st⟩ ⟨hd, hi⟩
    subst e1 e2 e3
    obtain ⟨f0, f1, f2, f3, f4, f5⟩ := hf it (List.mem_singleton.mpr rfl)
    obtain ⟨ns, es2, ep2, raw, hdt, hz, ent⟩ := frz_dT I hd
    obtain ⟨rfl, rfl⟩ := same_dict hod hdt
    exact DT.endI (I.ok.hd hc) st raw (by omega) fun h1 eb => ⟨rfl, I.turned (t' := s.toks) (fun b ob hb e => eb b ob hb e) f0 f1 f3 f4 f5⟩
  self := by
    rintro A i s Q E ⟨x, y, e⟩ h
    exact PySem.W.kcp_self e h
end
def iItemsT (td : TE) : TI := fun σ H R => td σ H fun x H1 => ∃ d ob ks, x = .ref d ∧ H1 d = some (.frz ob (.dT ks)) ∧ R (IteT d ob ks) H1
theorem pi_itemsT {X : Cx} {e : Expr} {td : TE} {p1 p2 : Pos} {elts : List Expr} {kk : Nat} {tpos : Pos} (he : PE X e td) (hb : attributeBase e "items" X.env (eval e X.env) = eval e X.env := by rfl) (hl : (p1.endLine == p2.line) = true := by rfl) :
    PI X (.Tuple elts kk tpos) (.Call (.Attribute e "items" p1) [] [] p2) (iItemsT td) := by
  refine ⟨fun pins s σ H R I h => ?_⟩
  refine wpAny_Call_method (T := "dict") (id := "dict.items") hb rfl hl PySem.F.plainAttrs_dict PySem.F.slot_dict_items PySem.F.type_dict_items (thn (he.run pins s σ H _ I h) fun u s1 ⟨x, H1, I1, rx, d, ob, ks, ex, hd, q⟩ => ?_)
  subst ex
  obtain rfl : u = Value.ref d := rx
  obtain ⟨ns, es, ep, raw, hdt, hz, ent⟩ := frz_dT I1 hd
  obtain ⟨o2, g1, g2, g3⟩ := id raw
  refine ⟨raw.typeIs, ?_, ?_⟩
  · intro b e
    injection e with e
    subst e
    exact ⟨o2, g1, g2.2.1⟩
  have I2 : Inv X pins σ H1 { s1 with heap := s1.heap.push { cls := .type "dict_items", data := .fields #[.ref d] } } := I1.kept (t' := s1.toks) fun b o z => Heap.get?_push_of_some _ z
  have fin : wpAny (model X.prog X.w) X.A (pyIter (.ref s1.heap.objs.size)) (PIE X pins σ (.Tuple elts kk tpos) R) X.xe { s1 with heap := s1.heap.push { cls := .type "dict_items", data := .fields #[.ref d] } } :=
    DT.iterI (d := d) ⟨_, Heap.get?_push_size _ rfl, rfl, rfl⟩ (raw.push _) (pi_one (tk := s1.toks) I2 _ (turn_itemsT _ hdt hz) ⟨_, _, Heap.get?_push_size _ rfl⟩ q)
  show wpAny _ _ (callWith p2 (.builtin "dict.items") [.ref d] [] []) _ X.xe s1
  exact method_meetsIn PySem.F.slot_dict_items PySem.F.entry_dict_items rfl (PySem.evalArgs_none ⟨rfl, raw.typeIs, PySem.F.args_dict_items_1 _, _, DT.meetsItems (es := es) (ep := ep) ns, ⟨raw, fin⟩⟩)
theorem walk_itemsT {d : Addr} {ob : Obj} {ks : List (List L2.Key × V)} : Walk (IteT d ob ks) ks.length (fun G => G d = some (.frz ob (.dT ks)))
    (fun j G x G' => ∃ t r k u, ks[j]? = some (k, u) ∧ G r = some (.tup (k.map kV)) ∧ x = .ref t ∧ G t = none ∧ G' = upd G t (.tup [.ref r, u])) :=
  ⟨fun _ _ h q => ⟨q, h⟩, fun _ q => ⟨q, Nat.le_refl _⟩, fun _ _ _ _ _ _ y => y⟩
end Sg

set_option Elab.async false
set_option linter.all false
set_option maxRecDepth 100000
set_option maxHeartbeats 4000000
namespace Sg
open PySem PySem.Spec PyProof.Rows L2
/-! ## min(xs, default=z), xs a list of data that are alike -/
theorem vals_back : ∀ {ys : List V} {us : List Value}, Vals ys us → ∀ {i : Nat} {v : Value}, us[i]? = some v → ∃ y, ys[i]? = some y ∧ RelV y v
  | _, _, .nil, i, v, e => nomatch e
  | _, _, .cons r t, 0, v, e => by
    cases e
    exact ⟨_, rfl, r⟩
  | _, _, .cons r t, i + 1, v, e => vals_back t (i := i) (by simpa using e)
theorem reads_back {h : Heap} : ∀ {us : List Value} {ds : List PyData} {as : List Addr}, ReadsAll h us ds as → ∀ {i : Nat} {v : Value}, us[i]? = some v → ∃ d bs, ds[i]? = some d ∧ Reads h v d bs
  | _, _, _, .nil, i, v, e => nomatch e
  | _, _, _, .cons r t, 0, v, e => by
    cases e
    exact ⟨_, _, rfl, r⟩
  | _, _, _, .cons r t, i + 1, v, e => reads_back t (i := i) (by simpa using e)
theorem cr_minD {X : Cx} (hc : X.calm = true) {j : Nat} (hr : Room j X.A) : CallRK X (.builtin "min") ["default"] (fun vs zs H Q => ∃ (a : Addr) (ys : List V) (ds : List PyData) (z : V), vs = [.ref a] ∧ zs = [z] ∧ SqL X.K H a ys ∧ DpAll X.K H ys ds ∧
    PySem.W.AlikeAll ds ∧ PyData.depthAll ds ≤ 10 ∧ (ds = [] → Q z H) ∧ (∀ (i : Nat) (y : V) (e : PyData) (es : List PyData), ds = e :: es → ys[i]? = some y → ds[i]? = some (PySem.W.minD e es) → Q y H)) := by
  intro pins s σ H xs zs us ws Q I r rz h
  obtain ⟨a, ys, ds, z, rfl, rfl, hs, dp, al, dep, q1, q2⟩ := h
  obtain ⟨u, rfl, rfl⟩ := vals1 r
  obtain ⟨dv, rfl, rd0⟩ := vals1 rz
  obtain ⟨its, rv, hl, hzz⟩ := I.list hs
  obtain ⟨as, rd⟩ := Dp.readsAll I ds _ its dp rv
  have hu := hr.units
  refine PySem.W.min_list_default (I.ok.hd hc) hl.isList (by simpa using rd) al (by omega) (fun e h' tk hk => ?_) (fun e es i v h' tk bs ee hv hrd hk => ?_)
  · exact ⟨z, H, I.kept hk, rd0, q1 e⟩
  · have hv' : its[i]? = some v := by simpa using hv
    obtain ⟨y, hy, ry⟩ := vals_back rv hv'
    obtain ⟨d, bs2, hd, rd2⟩ := reads_back rd hv'
    obtain ⟨e1, _⟩ := reads_det (fun b o g _ => hk b o g) rd2 hrd
    rw [← e1] at hd
    exact ⟨y, H, I.kept hk, ry, q2 i y e es ee hy hd⟩
end Sg

set_option Elab.async false
set_option linter.all false
set_option maxRecDepth 100000
set_option maxHeartbeats 4000000
namespace Sg
open PySem PySem.Spec PyProof.Rows L2
/-! ## heaps -/
/-- all but p is as it was -/
def But (p : Addr) (H H' : Hp) : Prop := ∀ q o, q ≠ p → H q = some o → H' q = some o
theorem But.refl (p : Addr) (H : Hp) : But p H H := fun _ _ _ h => h
theorem But.trans {p : Addr} {H H1 H2 : Hp} (a : But p H H1) (b : But p H1 H2) : But p H H2 := fun q o n h => b q o n (a q o n h)
theorem But.of {p : Addr} {H H' : Hp} (a : Same H H') : But p H H' := fun q o _ h => a q o h
theorem But.upd {p : Addr} {H : Hp} {o : HO} : But p H (upd H p o) := fun q u n h => by rw [upd_ne n]; exact h
theorem same_new {H : Hp} {p : Addr} {o : HO} (h : H p = none) : Same H (upd H p o) := fun b x e => by
  rw [upd_ne (ne_of_none e h)]
  exact e
/-- what is new behind a But is new ahead -/
theorem But.free {p q : Addr} {H H' : Hp} {u : HO} (e : But p H H') (hp : H p = some u) (hp' : ∃ v, H' p = some v) (h : H' q = none) : H q = none := by
  by_cases n : q = p
  · subst n
    obtain ⟨v, hv⟩ := hp'
    rw [hv] at h
    exact nomatch h
  · rcases z : H q with _ | o
    · rfl
    · rw [e q o n z] at h
      exact nomatch h
theorem But.tup {K : PySem.W.Frag} {p : Addr} {H H' : Hp} {a : Addr} {xs ys : List V} (e : But p H H') (hp : H p = some (.lst ys)) (h : SqT K H a xs) : SqT K H' a xs := by
  rcases h with (h | ⟨o, h⟩) | h
  · exact .inl (.inl (e _ _ (ne_of h hp (fun z => nomatch z)) h))
  · exact .inl (.inr ⟨o, e _ _ (ne_of h hp (fun z => nomatch z)) h⟩)
  · exact .inr h
theorem Same.tup {K : PySem.W.Frag} {H H' : Hp} {a : Addr} {xs : List V} (e : Same H H') (h : SqT K H a xs) : SqT K H' a xs := by
  rcases h with (h | ⟨o, h⟩) | h
  · exact .inl (.inl (e _ _ h))
  · exact .inl (.inr ⟨o, e _ _ h⟩)
  · exact .inr h
/-- a pen at p -/
def PenAt (H : Hp) (p : Addr) : Prop := ∃ a b c : Int, H p = some (.lst [.int a, .int b, .int c]) ∧ 0 ≤ b ∧ b < 2147483648
theorem PenAt.same {H H' : Hp} {p : Addr} (h : PenAt H p) (e : Same H H') : PenAt H' p := by
  obtain ⟨a, b, c, h1, h2⟩ := h
  exact ⟨a, b, c, e _ _ h1, h2⟩
theorem PenAt.tup {K : PySem.W.Frag} {p : Addr} {H H' : Hp} {a : Addr} {xs : List V} (h : PenAt H p) (e : But p H H') (q : SqT K H a xs) : SqT K H' a xs := by
  obtain ⟨_, _, _, h1, _⟩ := h
  exact e.tup h1 q
theorem PenAt.free {p q : Addr} {H H' : Hp} (h : PenAt H p) (h' : PenAt H' p) (e : But p H H') (n : H' q = none) : H q = none := by
  obtain ⟨_, _, _, h1, _⟩ := h
  obtain ⟨_, _, _, h2, _⟩ := h'
  exact e.free h1 ⟨_, h2⟩ n
theorem atI0 {x : V} {r : List V} : atI (x :: r) 0 = some x := atI_nat (j := 0) rfl
theorem atI1 {x y : V} {r : List V} : atI (x :: y :: r) 1 = some y := atI_nat (j := 1) rfl
theorem atI2 {x y z : V} {r : List V} : atI (x :: y :: z :: r) 2 = some z := atI_nat (j := 2) rfl

def atD (ns : List Int) (t : Int) : Int := if 0 ≤ t ∧ t < ns.length then ns.getD t.toNat 0 else -1
end Sg

set_option Elab.async false
set_option linter.all false
set_option maxRecDepth 100000
set_option maxHeartbeats 4000000
namespace Sg
open PySem PySem.Spec PyProof.Rows L2
/-! ## the mathematics of bars -/
/-- a work, as its items -/
structure IsWork (ns : List Int) : Prop where
  pos : 1 ≤ ns.length
  most : ns.length ≤ 60
  items : ∀ x ∈ ns, -1 ≤ x ∧ x ≤ 9
  head : ∀ x, ns[0]? = some x → x ≠ -1
  last : ∀ x, ns[ns.length - 1]? = some x → x ≠ -1
/-- a piece of other, d ticks behind one of one, clashes with it -/
def clashB (one other : List Int) (d : Nat) : Bool := ((one.drop d).zip other).any fun p => p.1 == p.2 && p.1 != -1
def barsN (one other : List Int) : List Nat := (List.range' 1 (one.length - 1)).filter (clashB one other)
/-- as the law looks: tick by tick of the first piece -/
def lawHit (one other : List Int) (d : Nat) (i : Nat) : Bool := match one[i]? with
  | some x => decide (x > -1) && decide (atD other ((i : Int) - d) = x)
  | none => false
def lawCount (one other : List Int) (d : Nat) (n : Nat) : Nat := ((List.range n).filter (lawHit one other d)).length
theorem lawCount_zero {one other : List Int} {d : Nat} : lawCount one other d 0 = 0 := rfl
theorem lawCount_succ {one other : List Int} {d n : Nat} : lawCount one other d (n + 1) = lawCount one other d n + (if lawHit one other d n = true then 1 else 0) := by
  unfold lawCount
  rw [List.range_succ, List.filter_append, List.length_append]
  congr 1
  by_cases h : lawHit one other d n = true
  · rw [if_pos h, List.filter_cons_of_pos h]; rfl
  · rw [if_neg h, List.filter_cons_of_neg h]; rfl
theorem atD_in {ns : List Int} {j : Nat} {x : Int} (h : ns[j]? = some x) : atD ns (j : Int) = x := by
  have hl := (List.getElem?_eq_some_iff.mp h).1
  unfold atD
  rw [if_pos ⟨by omega, by omega⟩, Int.toNat_natCast, List.getD_eq_getElem?_getD, h]; rfl
theorem atD_cases (ns : List Int) (t : Int) : (∃ j : Nat, t = j ∧ ns[j]? = some (atD ns t)) ∨ atD ns t = -1 := by
  by_cases h : 0 ≤ t ∧ t < ns.length
  · obtain ⟨j, rfl⟩ : ∃ j : Nat, t = j := ⟨t.toNat, by omega⟩
    have hj : j < ns.length := by omega
    exact .inl ⟨j, rfl, by rw [atD_in (List.getElem?_eq_getElem hj), List.getElem?_eq_getElem hj]⟩
  · refine .inr ?_
    unfold atD
    rw [if_neg h]
theorem clashB_iff {one other : List Int} {d : Nat} : clashB one other d = true ↔ ∃ j x, one[d + j]? = some x ∧ other[j]? = some x ∧ x ≠ -1 := by
  unfold clashB
  rw [List.any_eq_true]
  constructor
  · rintro ⟨⟨x, y⟩, hm, h⟩
    obtain ⟨j, hj⟩ := List.mem_iff_getElem?.mp hm
    obtain ⟨h1, h2⟩ := List.getElem?_zip_eq_some.mp hj
    simp only [Bool.and_eq_true, beq_iff_eq, bne_iff_ne, ne_eq] at h
    rw [List.getElem?_drop] at h1
    exact ⟨j, x, h1, h.1 ▸ h2, h.2⟩
  · rintro ⟨j, x, h1, h2, h3⟩
    refine ⟨(x, x), List.mem_iff_getElem?.mpr ⟨j, List.getElem?_zip_eq_some.mpr ⟨by rw [List.getElem?_drop]; exact h1, h2⟩⟩, ?_⟩
    simp [h3]
theorem lawCount_iff {one other : List Int} {d : Nat} (hw : IsWork one) : decide (lawCount one other d one.length ≠ 0) = clashB one other d := by
  have key : lawCount one other d one.length ≠ 0 ↔ clashB one other d = true := by
    rw [clashB_iff]
    unfold lawCount
    rw [ne_eq, List.length_eq_zero_iff, List.filter_eq_nil_iff]
    constructor
    · intro h
      have h' : ∃ i ∈ List.range one.length, lawHit one other d i = true := by
        refine Classical.byContradiction fun z => h fun i hi hh => z ⟨i, hi, hh⟩
      obtain ⟨i, hi, hh⟩ := h'
      have hi' : i < one.length := List.mem_range.mp hi
      unfold lawHit at hh
      rw [List.getElem?_eq_getElem hi'] at hh
      simp only [Bool.and_eq_true, decide_eq_true_eq] at hh
      rcases atD_cases other ((i : Int) - d) with ⟨j, ej, hj⟩ | e
      · refine ⟨j, one[i], ?_, ?_, by omega⟩
        · rw [show d + j = i by omega]; exact List.getElem?_eq_getElem hi'
        · rw [hj, hh.2]
      · omega
    · rintro ⟨j, x, h1, h2, h3⟩ z
      have hl := (List.getElem?_eq_some_iff.mp h1).1
      refine z (d + j) (List.mem_range.mpr hl) ?_
      unfold lawHit
      rw [h1]
      have hm : x ∈ one := List.mem_of_getElem? h1
      have := (hw.items x hm).1
      simp only [Bool.and_eq_true, decide_eq_true_eq]
      refine ⟨by omega, ?_⟩
      rw [show (((d + j : Nat) : Int) - d) = (j : Int) by omega]
      exact atD_in h2
  by_cases h : clashB one other d = true
  · rw [h]; exact decide_eq_true (key.mpr h)
  · rw [Bool.eq_false_iff.mpr h]
    exact decide_eq_false fun z => h (key.mp z)
/-! ### lists step by step -/
theorem filter_range'_succ (f : Nat → Bool) (a n : Nat) : (List.range' a (n + 1)).filter f = (List.range' a n).filter f ++ (if f (a + n) = true then [a + n] else []) := by
  rw [List.range'_concat, List.filter_append, Nat.one_mul]
  congr 1
  by_cases h : f (a + n) = true
  · rw [if_pos h, List.filter_cons_of_pos h]; rfl
  · rw [if_neg h, List.filter_cons_of_neg h]; rfl
/-- the bars found below 1 + n -/
def barsTo (one other : List Int) (n : Nat) : List Nat := (List.range' 1 n).filter (clashB one other)
theorem barsTo_len (one other : List Int) (n : Nat) : (barsTo one other n).length ≤ n := by
  unfold barsTo
  refine Nat.le_trans (List.length_filter_le _ _) ?_
  rw [List.length_range']
  exact Nat.le_refl _
abbrev nV (l : List Nat) : List V := l.map fun d => V.int (d : Nat)
theorem barsTo_yes {one other : List Int} {n : Nat} (h : clashB one other (1 + n) = true) : nV (barsTo one other (n + 1)) = nV (barsTo one other n) ++ [.int ((1 : Int) + n)] := by
  unfold nV barsTo
  rw [filter_range'_succ, if_pos h, List.map_append]
  have e : (((1 + n : Nat) : Int)) = (1 : Int) + n := by omega
  simp only [List.map_cons, List.map_nil, e]
theorem barsTo_no {one other : List Int} {n : Nat} (h : clashB one other (1 + n) = false) : barsTo one other (n + 1) = barsTo one other n := by
  unfold barsTo
  rw [filter_range'_succ, if_neg (by rw [h]; exact Bool.false_ne_true), List.append_nil]
/-- the pairs of a zip, looked at in turn -/
def hitsTo (one other : List Int) (d n : Nat) : List Bool := (((one.drop d).zip other).take n).map fun p => p.1 == p.2 && p.1 != -1
theorem hits_any (one other : List Int) (d : Nat) : (hitsTo one other d (min (one.drop d).length other.length)).any id = clashB one other d := by
  unfold hitsTo clashB
  rw [List.take_of_length_le (by rw [List.length_zip]; exact Nat.le_refl _), List.any_map]
  rfl
theorem hits_succ {one other : List Int} {d n : Nat} {x y : Int} (h1 : (one.drop d)[n]? = some x) (h2 : other[n]? = some y) : hitsTo one other d (n + 1) = hitsTo one other d n ++ [x == y && x != -1] := by
  unfold hitsTo
  rw [List.take_add_one, List.getElem?_zip_eq_some (z := (x, y)) |>.mpr ⟨h1, h2⟩, List.map_append]
  rfl
theorem hits_len (one other : List Int) (d n : Nat) : (hitsTo one other d n).length ≤ n := by
  unfold hitsTo
  rw [List.length_map, List.length_take]
  exact Nat.min_le_left _ _
end Sg

set_option Elab.async false
set_option linter.all false
set_option maxRecDepth 100000
set_option maxHeartbeats 4000000
namespace Sg
open PySem PySem.Spec PyProof.Rows L2
theorem walk_zipT {K : PySem.W.Frag} {a b : Addr} {xs ys : List V} {n : Nat} (hn : n = min xs.length ys.length) :
    Walk (RZ.ItzT K a b) n (fun H => SqT K H a xs ∧ SqT K H b ys) (YPair (fun i => xs[i]?) (fun i => ys[i]?)) := by
  subst hn
  constructor
  · intro i H hi q
    have h1 : i < xs.length := by omega
    have h2 : i < ys.length := by omega
    exact ⟨xs, ys, xs[i], ys[i], q.1, q.2, List.getElem?_eq_getElem h1, List.getElem?_eq_getElem h2⟩
  · intro H q
    exact ⟨xs, ys, q.1, q.2, by omega⟩
  · rintro i H v H' hi q ⟨T, x, z, h1, h2, h3, h4, h5⟩
    exact ⟨T, x, z, h1, h2, h3, h4 xs q.1, h5 ys q.2⟩
theorem walk_enumT {K : PySem.W.Frag} {a : Addr} {xs : List V} :
    Walk (ItE K a) xs.length (fun H => SqT K H a xs) (YPair (fun i => some (.int (i : Nat))) (fun i => xs[i]?)) := by
  constructor
  · intro i H hi q
    exact ⟨xs, xs[i], q, List.getElem?_eq_getElem hi⟩
  · intro H q
    exact ⟨xs, q, Nat.le_refl _⟩
  · rintro i H v H' hi q ⟨T, x, h1, h2, h3, h4⟩
    exact ⟨T, .int (i : Nat), x, h1, h2, h3, rfl, h4 xs q⟩
theorem cut_from (xs : List V) (d : Nat) : cutV xs (some (d : Int)) none = xs.drop d := by
  unfold cutV
  rw [HT.sIx_nat, HT.sIx_none]
  rcases Nat.le_total d xs.length with h | h
  · rw [Nat.min_eq_left h]
    exact List.take_of_length_le (by rw [List.length_drop]; exact Nat.le_refl _)
  · rw [Nat.min_eq_right h, List.drop_of_length_le (Nat.le_refl _), List.drop_of_length_le h]
    exact List.take_nil
section
variable {P : Program} {w : World} {K : PySem.W.Frag} {mg : Str → Option Value} {base : Heap}
theorem tyT {H : Hp} {a : Addr} {xs : List V} (h : SqT K H a xs) : TyX K H (.ref a) (.type "tuple") := by
  rcases h with (h | ⟨o, h⟩) | ⟨o, _, _, h, hc, _⟩
  · exact .base (.tup h)
  · exact .fTuple h
  · exact .kTuple h hc
/-- the module's numbers -/
structure Nums (mg : Str → Option Value) : Prop where
  nowhere : ∃ t, mg "NOWHERE" = some (.int (-1) t)
  stations : ∃ t, mg "STATIONS" = some (.int 10 t)
  most : ∃ t, mg "MOST_ITEMS" = some (.int 60 t)
def inR (x : Int) : Bool := decide (-1 ≤ x) && decide (x ≤ 9)
end
end Sg

set_option Elab.async false
set_option linter.all false
set_option maxRecDepth 100000
set_option maxHeartbeats 4000000
namespace Sg
open PySem PySem.Spec PyProof.Rows L2
/-! ## data that is shown -/
/-- data made of small ints, in lists and tuples, no deeper than n, of bulk b at most -/
structure Small (d : PyData) (n b : Nat) : Prop where
  sh : d.showable = true
  nd : d.hasDict = false
  dp : d.depth ≤ n
  lv : d.leavesShort 15 = true
  bk : d.bulk ≤ b
  ly : d.canLay0 = true
structure SmallAll (ds : List PyData) (n b : Nat) : Prop where
  sh : PyData.showableAll ds = true
  nd : PyData.hasDictAll ds = false
  dp : PyData.depthAll ds ≤ n
  lv : PyData.leavesShortAll 15 ds = true
  bk : PyData.bulkAll ds ≤ b
  ly : PyData.canLayAll0 ds = true
theorem Small.shows {d : PyData} {n b : Nat} (h : Small d n b) (hn : n ≤ 40) (hb : b ≤ 900000) : Shows d := by
  refine ⟨h.sh, h.nd, Nat.le_trans h.dp hn, ?_⟩
  have h1 := PyData.shown_le_bulk 15 (by decide) d h.lv
  have h2 := h.bk
  have h3 : (15 + 2) * d.bulk ≤ (15 + 2) * 900000 := Nat.mul_le_mul_left _ (Nat.le_trans h2 hb)
  have h4 : sizeLine = 16777216 := sizeLine_eq
  omega
theorem Small.shaped {d : PyData} {n b : Nat} (h : Small d n b) (hn : n ≤ 64) : SeqAt.shaped d = true := by
  unfold SeqAt.shaped
  rw [h.ly, decide_eq_true (Nat.le_trans h.dp hn)]
  rfl
theorem Small.list {ds : List PyData} {n b : Nat} (h : SmallAll ds n b) : Small (.list ds) (n + 1) b :=
  ⟨by simpa only [PyData.showable] using h.sh, by simpa only [PyData.hasDict] using h.nd, by simpa only [PyData.depth] using Nat.succ_le_succ h.dp,
    by simpa only [PyData.leavesShort] using h.lv, by simpa only [PyData.bulk] using h.bk, by simpa only [PyData.canLay0] using h.ly⟩
theorem Small.tuple {ds : List PyData} {n b : Nat} (h : SmallAll ds n b) : Small (.tuple ds) (n + 1) b :=
  ⟨by simpa only [PyData.showable] using h.sh, by simpa only [PyData.hasDict] using h.nd, by simpa only [PyData.depth] using Nat.succ_le_succ h.dp,
    by simpa only [PyData.leavesShort] using h.lv, by simpa only [PyData.bulk] using h.bk, by simpa only [PyData.canLay0] using h.ly⟩
theorem SmallAll.nil {n b : Nat} : SmallAll [] n b := ⟨by simp only [PyData.showableAll], by simp only [PyData.hasDictAll], by simp only [PyData.depthAll]; exact Nat.zero_le _,
  by simp only [PyData.leavesShortAll], by simp only [PyData.bulkAll]; exact Nat.zero_le _, by simp only [PyData.canLayAll0]⟩
theorem SmallAll.cons {d : PyData} {ds : List PyData} {n b c : Nat} (h : Small d n b) (r : SmallAll ds n c) : SmallAll (d :: ds) n (b + 1 + c) :=
  ⟨by simp only [PyData.showableAll, h.sh, r.sh, Bool.and_self], by simp only [PyData.hasDictAll, h.nd, r.nd, Bool.or_self], by simp only [PyData.depthAll]; exact Nat.max_le.mpr ⟨h.dp, r.dp⟩,
    by simp only [PyData.leavesShortAll, h.lv, r.lv, Bool.and_self], by simp only [PyData.bulkAll]; have h1 := h.bk; have h2 := r.bk; omega, by simp only [PyData.canLayAll0, h.ly, r.ly, Bool.and_self]⟩
theorem Small.int {i : Int} {n b : Nat} (h1 : -99999999999999 ≤ i) (h2 : i ≤ 99999999999999) : Small (.int i) n b := by
  refine ⟨?_, by simp only [PyData.hasDict], by simp only [PyData.depth]; exact Nat.zero_le _, ?_, by simp only [PyData.bulk]; exact Nat.zero_le _, by simp only [PyData.canLay0]⟩
  · simp only [PyData.showable, decide_eq_true_eq]
    have h3 : i.natAbs < 2 ^ 47 := by omega
    have h4 := PySem.Flt.log2_lt_of (show 0 < 47 by decide) h3
    omega
  · simp only [PyData.leavesShort, decide_eq_true_eq]
    have h6 : i.natAbs < 10 ^ 14 := by
      have e : (10 : Nat) ^ 14 = 100000000000000 := by decide
      rw [e]
      omega
    have h5 := int_text_length_le10 (k := 14) (by decide) h6
    show (Str.ofString (toString i)).length ≤ 15
    rw [PySem.ofString_length]
    exact h5
theorem Small.mono {d : PyData} {n m b c : Nat} (h : Small d n b) (hn : n ≤ m) (hb : b ≤ c) : Small d m c := ⟨h.sh, h.nd, Nat.le_trans h.dp hn, h.lv, Nat.le_trans h.bk hb, h.ly⟩
theorem SmallAll.mono {d : List PyData} {n m b c : Nat} (h : SmallAll d n b) (hn : n ≤ m) (hb : b ≤ c) : SmallAll d m c := ⟨h.sh, h.nd, Nat.le_trans h.dp hn, h.lv, Nat.le_trans h.bk hb, h.ly⟩
abbrev iD (ns : List Int) : List PyData := ns.map PyData.int
theorem SmallAll.ints {n : Nat} : ∀ (ns : List Int), (∀ x ∈ ns, -99999999999999 ≤ x ∧ x ≤ 99999999999999) → SmallAll (iD ns) n ns.length
  | [], _ => .nil
  | x :: r, h => by
    have h1 := h x List.mem_cons_self
    have h2 := SmallAll.cons (Small.int (n := n) (b := 0) h1.1 h1.2) (SmallAll.ints r fun y hy => h y (List.mem_cons_of_mem _ hy))
    exact h2.mono (Nat.le_refl _) (by show 0 + 1 + r.length ≤ r.length + 1; omega)
theorem dpInts {K : PySem.W.Frag} {H : Hp} : ∀ (ns : List Int), DpAll K H (ns.map V.int) (iD ns)
  | [] => .nil
  | x :: r => .cons (.int x) (dpInts r)
abbrev nI (l : List Nat) : List Int := l.map fun d => ((d : Nat) : Int)
theorem nV_eq (l : List Nat) : nV l = (nI l).map V.int := by rw [List.map_map]; rfl
theorem IsWork.small {ns : List Int} (h : IsWork ns) {n : Nat} : SmallAll (iD ns) n 60 :=
  (SmallAll.ints ns fun x hx => by have := h.items x hx; omega).mono (Nat.le_refl _) h.most
theorem bars_small {one other : List Int} (h : IsWork one) {n : Nat} : SmallAll (iD (nI (barsN one other))) n 60 := by
  refine (SmallAll.ints _ fun x hx => ?_).mono (Nat.le_refl _) ?_
  · obtain ⟨d, hd, rfl⟩ := List.mem_map.mp hx
    have h1 := (List.mem_filter.mp hd).1
    have h2 := List.mem_range'_1.mp h1
    have := h.most
    omega
  · rw [List.length_map]
    have := barsTo_len one other (one.length - 1)
    have := h.most
    exact Nat.le_trans (barsTo_len one other (one.length - 1)) (by omega)
section
variable {P : Program} {w : World} {K : PySem.W.Frag} {mg : Str → Option Value} {base : Heap}
/-! ### _law_same -/
def spSame (K : PySem.W.Frag) : Sp := fun vs H Q _ => ∃ (a b : Addr) (d : PyData), vs = [.ref a, .ref b] ∧ Dp K H (.ref a) d ∧ Dp K H (.ref b) d ∧ Shows d ∧ Q (.bl true) H
theorem PenAt.upd {H : Hp} {p q : Addr} {o : HO} (h : PenAt H p) (n : p ≠ q) : PenAt (upd H q o) p := by
  obtain ⟨a, b, c, h1, h2⟩ := h
  exact ⟨a, b, c, by rw [upd_ne n]; exact h1, h2⟩
theorem PenAt.ne {H : Hp} {p q : Addr} (h : PenAt H p) (n : H q = none) : p ≠ q := by
  obtain ⟨a, b, c, h1, _⟩ := h
  exact ne_of_none h1 n
end
end Sg

set_option Elab.async false
set_option linter.all false
set_option maxRecDepth 100000
set_option maxHeartbeats 4000000
namespace Sg
open PySem PySem.Spec PyProof.Rows L2
/-! ## data of ints and tuples alone -/
section
variable {K : PySem.W.Frag} {H H' : Hp}
mutual
inductive Tp (K : PySem.W.Frag) (H : Hp) : V → PyData → Prop
  | int (i : Int) : Tp K H (.int i) (.int i)
  | tu {a : Addr} {xs : List V} {ds : List PyData} : SqT K H a xs → TpAll K H xs ds → Tp K H (.ref a) (.tuple ds)
inductive TpAll (K : PySem.W.Frag) (H : Hp) : List V → List PyData → Prop
  | no : TpAll K H [] []
  | on {v : V} {vs : List V} {d : PyData} {ds : List PyData} : Tp K H v d → TpAll K H vs ds → TpAll K H (v :: vs) (d :: ds)
end
mutual
theorem Tp.dp : ∀ {v : V} {d : PyData}, Tp K H v d → Dp K H v d
  | _, _, .int i => .int i
  | _, _, .tu h r => .tup h (TpAll.dp r)
theorem TpAll.dp : ∀ {v : List V} {d : List PyData}, TpAll K H v d → DpAll K H v d
  | _, _, .no => .nil
  | _, _, .on a r => .cons (Tp.dp a) (TpAll.dp r)
end
/-- all tuples and all instances are as they were -/
structure St (K : PySem.W.Frag) (H H' : Hp) : Prop where
  tu : ∀ a xs, SqT K H a xs → SqT K H' a xs
  ob : ∀ a C dx fs, H a = some (.ins C dx fs) → H' a = some (.ins C dx fs)
theorem St.refl : St K H H := ⟨fun _ _ h => h, fun _ _ _ _ h => h⟩
theorem St.trans {H2 : Hp} (a : St K H H') (b : St K H' H2) : St K H H2 := ⟨fun _ _ h => b.tu _ _ (a.tu _ _ h), fun _ _ _ _ h => b.ob _ _ _ _ (a.ob _ _ _ _ h)⟩
theorem St.of (e : Same H H') : St K H H' := ⟨fun _ _ h => Same.tup e h, fun _ _ _ _ h => e _ _ h⟩
theorem St.but {p : Addr} {ys : List V} (e : But p H H') (hp : H p = some (.lst ys)) : St K H H' :=
  ⟨fun _ _ h => But.tup e hp h, fun a C dx fs h => e _ _ (fun z => by rw [z, hp] at h; exact nomatch h) h⟩
theorem St.pen {p : Addr} (e : But p H H') (hp : PenAt H p) : St K H H' := by
  obtain ⟨a, b, c, h, _⟩ := hp
  exact .but e h
mutual
theorem Tp.stayT (e : ∀ a xs, SqT K H a xs → SqT K H' a xs) : ∀ {v : V} {d : PyData}, Tp K H v d → Tp K H' v d
  | _, _, .int i => .int i
  | _, _, .tu h r => .tu (e _ _ h) (TpAll.stayT e r)
theorem TpAll.stayT (e : ∀ a xs, SqT K H a xs → SqT K H' a xs) : ∀ {v : List V} {d : List PyData}, TpAll K H v d → TpAll K H' v d
  | _, _, .no => .no
  | _, _, .on a r => .on (Tp.stayT e a) (TpAll.stayT e r)
end
theorem tu_ins {p C dx : Addr} {fs : List (Str × V)} {o : HO} (hp : H p = some (.ins C dx fs)) : ∀ a xs, SqT K H a xs → SqT K (upd H p o) a xs := by
  intro a xs h
  have ne : ∀ u, H a = some u → (∀ C dx fs, u ≠ .ins C dx fs) → a ≠ p := fun u hu n z => by
    rw [z, hp] at hu
    exact n _ _ _ (Option.some.inj hu).symm
  exact h.imp (fun z => z.imp (fun z => by rw [upd_ne (ne _ z (fun _ _ _ q => nomatch q))]; exact z) fun ⟨u, z⟩ => ⟨u, by rw [upd_ne (ne _ z (fun _ _ _ q => nomatch q))]; exact z⟩) id
mutual
theorem Tp.stay (e : St K H H') : ∀ {v : V} {d : PyData}, Tp K H v d → Tp K H' v d
  | _, _, .int i => .int i
  | _, _, .tu h r => .tu (e.tu _ _ h) (TpAll.stay e r)
theorem TpAll.stay (e : St K H H') : ∀ {v : List V} {d : List PyData}, TpAll K H v d → TpAll K H' v d
  | _, _, .no => .no
  | _, _, .on a r => .on (Tp.stay e a) (TpAll.stay e r)
end
theorem TpAll.len : ∀ {vs : List V} {ds : List PyData}, TpAll K H vs ds → vs.length = ds.length
  | _, _, .no => rfl
  | _, _, .on _ r => congrArg (· + 1) (TpAll.len r)
theorem TpAll.at : ∀ {vs : List V} {ds : List PyData} {i : Nat} {v : V}, TpAll K H vs ds → vs[i]? = some v → ∃ d, ds[i]? = some d ∧ Tp K H v d
  | _, _, 0, _, .on a _, e => by cases e; exact ⟨_, rfl, a⟩
  | _, _, i + 1, _, .on _ r, e => TpAll.at (i := i) r e
theorem TpAll.add : ∀ {vs us : List V} {ds es : List PyData}, TpAll K H vs ds → TpAll K H us es → TpAll K H (vs ++ us) (ds ++ es)
  | _, _, _, _, .no, b => b
  | _, _, _, _, .on a r, b => .on a (TpAll.add r b)
theorem TpAll.cut : ∀ {vs : List V} {ds : List PyData} (n : Nat), TpAll K H vs ds → TpAll K H (vs.take n) (ds.take n)
  | _, _, 0, _ => .no
  | _, _, _ + 1, .no => .no
  | _, _, n + 1, .on a r => .on a (TpAll.cut n r)
theorem TpAll.off : ∀ {vs : List V} {ds : List PyData} (n : Nat), TpAll K H vs ds → TpAll K H (vs.drop n) (ds.drop n)
  | _, _, 0, r => r
  | _, _, _ + 1, .no => .no
  | _, _, n + 1, .on _ r => TpAll.off n r
theorem TpAll.ints : ∀ (ns : List Int), TpAll K H (ns.map V.int) (iD ns)
  | [] => .no
  | x :: r => .on (.int x) (TpAll.ints r)
theorem TpAll.isInts : ∀ {vs : List V} {ns : List Int}, TpAll K H vs (iD ns) → vs = ns.map V.int
  | _, [], .no => rfl
  | _, _ :: _, .on (.int _) r => by rw [TpAll.isInts r]; rfl
theorem Tp.ofInts {a : Addr} {ns : List Int} (h : SqT K H a (ns.map V.int)) : Tp K H (.ref a) (.tuple (iD ns)) := .tu h (TpAll.ints ns)
theorem Tp.toInts {v : V} {ns : List Int} (h : Tp K H v (.tuple (iD ns))) : ∃ a, v = .ref a ∧ SqT K H a (ns.map V.int) := by
  cases h with
  | tu h r => exact ⟨_, rfl, by rw [← TpAll.isInts r]; exact h⟩
theorem Tp.toTup {v : V} {ds : List PyData} (h : Tp K H v (.tuple ds)) : ∃ a xs, v = .ref a ∧ SqT K H a xs ∧ TpAll K H xs ds := by
  cases h with
  | tu h r => exact ⟨_, _, rfl, h, r⟩
end
/-! ## lines -/
/-- one to three works -/
structure GoodL (ws : List (List Int)) : Prop where
  least : 1 ≤ ws.length
  few : ws.length ≤ 3
  work : ∀ w ∈ ws, IsWork w
abbrev tD (ns : List Int) : PyData := .tuple (iD ns)
abbrev tDs (ws : List (List Int)) : List PyData := ws.map tD
abbrev cellD (a b : List Int) : PyData := tD (nI (barsN a b))
abbrev rowD (a : List Int) (ws : List (List Int)) : PyData := .tuple (ws.map (cellD a))
abbrev barD (ws : List (List Int)) : List PyData := ws.map fun a => rowD a ws
/-- the bars of all, row by row -/
def rowB (a : List Int) (ws : List (List Int)) : List Int := ws.flatMap fun b => nI (barsN a b)
def allB (ws vs : List (List Int)) : List Int := ws.flatMap fun a => rowB a vs
/-- the greatest, or 0 -/
structure Top (l : List Int) (m : Int) : Prop where
  pos : 0 ≤ m
  le : ∀ x ∈ l, x ≤ m
  eq : m = 0 ∨ m ∈ l
theorem Top.uniq {l k : List Int} {m n : Int} (h : Top l m) (g : Top k n) (e : ∀ x, x ∈ l ↔ x ∈ k) : m = n := by
  have a : m ≤ n := by
    rcases h.eq with z | z
    · rw [z]; exact g.pos
    · exact g.le _ ((e _).mp z)
  have b : n ≤ m := by
    rcases g.eq with z | z
    · rw [z]; exact h.pos
    · exact h.le _ ((e _).mpr z)
  omega
/-! ### the object -/
def lf (t b : Addr) (r : Int) : List (Str × V) := putF "_reach" (.int r) (putF "_bars" (.ref b) (putF "_works" (.ref t) []))
theorem k1 : ¬ (("_works" : Str) = "_bars") := by decide +kernel
theorem k2 : ¬ (("_works" : Str) = "_reach") := by decide +kernel
theorem k3 : ¬ (("_bars" : Str) = "_reach") := by decide +kernel
theorem lf_works (t b : Addr) (r : Int) : (lf t b r).lookup ("_works" : Str) = some (.ref t) := by
  unfold lf
  rw [lookup_putF, if_neg k2, lookup_putF, if_neg k1, lookup_putF, if_pos rfl]
theorem lf_bars (t b : Addr) (r : Int) : (lf t b r).lookup ("_bars" : Str) = some (.ref b) := by
  unfold lf
  rw [lookup_putF, if_neg k3, lookup_putF, if_pos rfl]
theorem lf_reach (t b : Addr) (r : Int) : (lf t b r).lookup ("_reach" : Str) = some (.int r) := by
  unfold lf
  rw [lookup_putF, if_pos rfl]
/-- a Line of these works stands at a -/
def LineAt (K : PySem.W.Frag) (C : Addr) (H : Hp) (a : Addr) (ws : List (List Int)) : Prop :=
  ∃ (dx t b : Addr) (r : Int), H a = some (.ins C dx (lf t b r)) ∧ Tp K H (.ref t) (.tuple (tDs ws)) ∧ Tp K H (.ref b) (.tuple (barD ws)) ∧ Top (allB ws ws) r ∧ GoodL ws
theorem LineAt.ins {K : PySem.W.Frag} {C a : Addr} {H : Hp} {ws : List (List Int)} (h : LineAt K C H a ws) : InsAt H C a := by
  obtain ⟨dx, t, b, r, h1, _⟩ := h
  exact ⟨_, _, h1⟩
theorem LineAt.good {K : PySem.W.Frag} {C a : Addr} {H : Hp} {ws : List (List Int)} (h : LineAt K C H a ws) : GoodL ws := by
  obtain ⟨dx, t, b, r, _, _, _, _, g⟩ := h
  exact g
theorem LineAt.stay {K : PySem.W.Frag} {C a : Addr} {H H' : Hp} {ws : List (List Int)} (e : St K H H') (h : LineAt K C H a ws) : LineAt K C H' a ws := by
  obtain ⟨dx, t, b, r, h1, h2, h3, h4, h5⟩ := h
  exact ⟨dx, t, b, r, e.ob _ _ _ _ h1, h2.stay e, h3.stay e, h4, h5⟩
theorem TpAll.works {K : PySem.W.Frag} {H : Hp} {vs : List V} {ws : List (List Int)} {i : Nat} {v : V} (h : TpAll K H vs (tDs ws)) (e : vs[i]? = some v) : ∃ w a, ws[i]? = some w ∧ v = .ref a ∧ SqT K H a (w.map V.int) := by
  obtain ⟨d, hd, t⟩ := h.at e
  rw [List.getElem?_map] at hd
  obtain ⟨w, hw, rfl⟩ := Option.map_eq_some_iff.mp hd
  obtain ⟨a, rfl, hs⟩ := t.toInts
  exact ⟨w, a, hw, rfl, hs⟩
end Sg

set_option Elab.async false
set_option linter.all false
set_option maxRecDepth 100000
set_option maxHeartbeats 4000000
namespace Sg
open PySem PySem.Spec PyProof.Rows L2
theorem call_tuple_ofK {X : Cx} {K : PySem.W.Frag} (hK : X.K = K) : CallR X (.type "tuple") (fun xs H Q => ∃ p ys, xs = [.ref p] ∧ ((SqL K H p ys ∧ ∀ l, H l = none → Q (.ref l) (upd H l (.tup ys))) ∨ (SqT K H p ys ∧ Q (.ref p) H))) := by
  subst hK; exact call_tuple_of
theorem pi_tupK {X : Cx} {K : PySem.W.Frag} {tg l : Expr} {tl : TE} (hK : X.K = K) (hl : PE X l tl) : PI X tg l (iTup K tl) := by
  subst hK; exact pi_tup hl
/-! ## a list of tuple data that grows -/
def Grow (K : PySem.W.Frag) (H1 : Hp) (D : Addr) (ds : List PyData) (i : Nat) (H' : Hp) : Prop := Same H1 H' ∧ ∃ acc, H' D = some (.lst acc) ∧ TpAll K H' acc (ds.take i)
theorem Grow.zero {K : PySem.W.Frag} {H1 : Hp} {D : Addr} {ds : List PyData} (hD : H1 D = none) : Grow K H1 D ds 0 (upd H1 D (.lst [])) :=
  ⟨same_new hD, [], upd_same, .no⟩
theorem Grow.next {K : PySem.W.Frag} {H1 H' H'' : Hp} {D : Addr} {ds : List PyData} {i : Nat} {d : PyData} {v : V} (hD : H1 D = none) (hz : ds.length ≤ 1000) (h : Grow K H1 D ds i H') (e : Same H' H'') (hd : ds[i]? = some d) (t : Tp K H'' v d) :
    ∃ acc, H'' D = some (.lst acc) ∧ acc.length < sizeLine ∧ Grow K H1 D ds (i + 1) (upd H'' D (.lst (acc ++ [v]))) := by
  obtain ⟨s1, acc, h1, h2⟩ := h
  have hD2 := e _ _ h1
  have st : St K H'' (upd H'' D (.lst (acc ++ [v]))) := .but (.upd) hD2
  refine ⟨acc, hD2, ?_, fun b o q => ?_, _, upd_same, ?_⟩
  · have z := h2.len
    have z2 : i < ds.length := (List.getElem?_eq_some_iff.mp hd).1
    rw [List.length_take] at z
    exact small1000 (by omega)
  · rw [upd_ne (ne_of_none q hD)]
    exact e _ _ (s1 _ _ q)
  · rw [List.take_add_one, hd]
    exact ((h2.stay (.of e)).stay st).add (.on (t.stay st) .no)
theorem Grow.done {K : PySem.W.Frag} {H1 H' : Hp} {D : Addr} {ds : List PyData} {n : Nat} (h : Grow K H1 D ds n H') (hn : n = ds.length) : Same H1 H' ∧ ∃ acc, H' D = some (.lst acc) ∧ TpAll K H' acc ds := by
  obtain ⟨s1, acc, h1, h2⟩ := h
  rw [hn, List.take_length] at h2
  exact ⟨s1, acc, h1, h2⟩
theorem Tp.new {K : PySem.W.Frag} {H : Hp} {l : Addr} {acc : List V} {ds : List PyData} (nl : H l = none) (t : TpAll K H acc ds) : Tp K (upd H l (.tup acc)) (.ref l) (.tuple ds) :=
  .tu (.of upd_same) (t.stay (.of (same_new nl)))
theorem GoodL.mem {ws : List (List Int)} (h : GoodL ws) {i : Nat} {w : List Int} (e : ws[i]? = Option.some w) : IsWork w := h.work w (List.mem_of_getElem? e)
theorem GoodL.lt {ws : List (List Int)} (h : GoodL ws) : (barD ws).length ≤ 1000 := by
  have := h.few
  rw [List.length_map]
  omega
/-- what the class has -/
structure LC (K : PySem.W.Frag) (mg : Str → Option Value) (C : Addr) : Prop where
  cl : Cls K C
  nW : NoAttr K C "_works"
  nB : NoAttr K C "_bars"
  nR : NoAttr K C "_reach"
  mgC : mg "Line" = some (.ref C)
end Sg

set_option Elab.async false
set_option linter.all false
set_option maxRecDepth 100000
set_option maxHeartbeats 4000000
namespace Sg
open PySem PySem.Spec PyProof.Rows L2
/-! ## a tuple times 0, 1 or more -/
theorem tuple_mulOne (l : Addr) (items : Array Value) (n : Nat) (dd : Option Addr) (sl : Array (Option Value)) (u : Tok) :
    Meets (Builtin.«tuple.__mul__» ⟨[.ref l, .int 1 u], []⟩) (fun _ R s => s.heap.get? l = some { cls := .type "tuple", dict := dd, data := .seq items n, slots := sl } ∧ R (.ok (.ret (Value.ref l))) s) :=
  .of_wp fun prog w A R s h => by
    obtain ⟨hp, g, d, tk, os⟩ := s
    obtain ⟨hl, h⟩ := h
    have f1 := AutoSeq1.idx_int
    have ht : Shared.TypeIs ⟨hp, g, d, tk, os⟩ (.ref l) "tuple" := ⟨_, hl, rfl⟩
    wp_walk using wpAny_loadPart' hl, wpAny_typeOf ht
    repeat (first
      | (refine wpAny_ite_true (by rw [Bool.or_eq_true]; exact .inr rfl) ?_; wp_walk using wpAny_loadPart' hl, wpAny_typeOf ht)
      | (refine wpAny_ite_true rfl ?_; wp_walk using wpAny_loadPart' hl, wpAny_typeOf ht)
      | (refine wpAny_ite_false (by decide) ?_; wp_walk using wpAny_loadPart' hl, wpAny_typeOf ht))
    exact ⟨_, rfl, h⟩
theorem tuple_mulNone (l : Addr) (items : Array Value) (n : Nat) (dd : Option Addr) (sl : Array (Option Value)) (u : Tok) (c1 : items.isEmpty = false) :
    Meets (Builtin.«tuple.__mul__» ⟨[.ref l, .int 0 u], []⟩) (fun _ R s => s.heap.get? l = some { cls := .type "tuple", dict := dd, data := .seq items n, slots := sl } ∧
      R (.ok (.ret (Value.ref s.heap.objs.size))) { s with heap := s.heap.push { cls := Value.type "tuple", data := Data.seq #[] }, toks := s.toks }) :=
  .of_wp fun prog w A R s h => by
    obtain ⟨hp, g, d, tk, os⟩ := s
    obtain ⟨hl, h⟩ := h
    have f1 := AutoSeq1.idx_int
    have c2 : (items.isEmpty || (0 : Int) == 1) = false := by rw [c1]; rfl
    wp_walk using wpAny_loadPart' hl
    repeat (first
      | (refine wpAny_ite_false (by rw [c2]; exact Bool.false_ne_true) ?_; wp_walk using wpAny_loadPart' hl)
      | (refine wpAny_ite_true rfl ?_; wp_walk using wpAny_loadPart' hl)
      | (refine wpAny_ite_false (by decide) ?_; wp_walk using wpAny_loadPart' hl))
    exact ⟨_, rfl, h⟩
def rRepN (K : PySem.W.Frag) : R2 := fun x y H Q => ∃ (l : Addr) (k : Nat) (xs : List V), x = .ref l ∧ y = .int k ∧ SqT K H l xs ∧ xs ≠ [] ∧ k ≤ 1000 ∧ xs.length ≤ 1000 ∧
  (k = 1 → Q (.ref l) H) ∧ (k ≠ 1 → ∀ p, H p = none → Q (.ref p) (upd H p (.tup (List.replicate k xs).flatten)))
theorem op_repN {X : Cx} : OpR X (binaryOp .Mult) (rRepN X.K) := by
  intro pins s σ H x y v u Q I rx ry h
  obtain ⟨l, k, xs, rfl, rfl, hT, hne, h2, hz, q1, q2⟩ := h
  by_cases h1 : 2 ≤ k
  · refine op_repT pins s σ H _ _ v u Q I rx ry ⟨l, k, xs, rfl, rfl, hT, hne, by omega, by omega, hz, fun p np => ?_⟩
    rw [Int.toNat_natCast]
    exact q2 (by omega) p np
  cases rx
  obtain ⟨t, rfl⟩ := ry
  obtain ⟨its, r, ⟨⟨cls, dd, data, sl⟩, ho, hc, n, hd⟩, hs⟩ := I.tuple hT
  simp only at hc hd
  subst hc hd
  have hle : its.length = xs.length := r.length.symm
  have hn : its ≠ [] := fun e => hne (by
    rw [e] at hle
    exact List.eq_nil_of_length_eq_zero hle.symm)
  have hi : its.toArray.isEmpty = false := by
    cases its with
    | nil => exact absurd rfl hn
    | cons a b => rfl
  rcases (show k = 0 ∨ k = 1 by omega) with rfl | rfl
  · refine wpAny_binaryOp_repeat_ref (T := "tuple") (U := "int") (by decide) ⟨_, ho, rfl⟩ (fun s' => typeIs_int s' _ t) noFill_tuple_mul F.fills_int_mul F.slot_int_rmul repeat_tuple PySem.F.slot_int_index.lookup
      (call_meets F.slot_int_rmul (typeIs_int s _ t) F.entry_int_rmul (F.args_int_rmul_2 _ _) (int_rmul_tuple _ t l its.toArray n dd sl)
        ⟨ho, rfl, ⟨_, ho, rfl⟩, call_meets F.slot_tuple_mul ⟨_, ho, rfl⟩ F.entry_tuple_mul (F.args_tuple_mul_2 _ _) (tuple_mulNone l its.toArray n dd sl t hi) ⟨ho, ?_⟩⟩)
    refine ⟨.ref s.heap.objs.size, _, I.laid (t' := s.toks) (o := .tup (List.replicate 0 xs).flatten) (fun b ob q => Heap.get?_push_of_some _ q) (Nat.le_refl _) ?_, rfl, q2 (by decide) _ (I.hok.fresh (Nat.le_refl _))⟩
    exact ⟨Nat.zero_le _, [], .nil, IsTup.new _ _⟩
  · refine wpAny_binaryOp_repeat_ref (T := "tuple") (U := "int") (by decide) ⟨_, ho, rfl⟩ (fun s' => typeIs_int s' _ t) noFill_tuple_mul F.fills_int_mul F.slot_int_rmul repeat_tuple PySem.F.slot_int_index.lookup
      (call_meets F.slot_int_rmul (typeIs_int s _ t) F.entry_int_rmul (F.args_int_rmul_2 _ _) (int_rmul_tuple _ t l its.toArray n dd sl)
        ⟨ho, rfl, ⟨_, ho, rfl⟩, call_meets F.slot_tuple_mul ⟨_, ho, rfl⟩ F.entry_tuple_mul (F.args_tuple_mul_2 _ _) (tuple_mulOne l its.toArray n dd sl t) ⟨ho, ?_⟩⟩)
    exact ⟨.ref l, H, I, rfl, q1 rfl⟩
/-- .. asked once for all -/
def rRepS (K : PySem.W.Frag) : R2 := fun x y H Q => ∃ (l : Addr) (k : Nat) (xs : List V), x = .ref l ∧ y = .int k ∧ SqT K H l xs ∧ xs ≠ [] ∧ k ≤ 1000 ∧ xs.length ≤ 1000 ∧
  ∀ H' u, Same H H' → SqT K H' u (List.replicate k xs).flatten → Q (.ref u) H'
theorem op_repS {X : Cx} : OpR X (binaryOp .Mult) (rRepS X.K) := by
  intro pins s σ H x y v u Q I rx ry h
  obtain ⟨l, k, xs, rfl, rfl, hT, hne, h2, hz, q⟩ := h
  refine op_repN pins s σ H _ _ v u Q I rx ry ⟨l, k, xs, rfl, rfl, hT, hne, h2, hz, fun z => q H l (fun _ _ h => h) ?_, fun _ p np => q _ p (same_new np) (.of upd_same)⟩
  subst z
  rw [show (List.replicate 1 xs).flatten = xs from by simp]
  exact hT
/-! ## a part of a tuple, the whole of it too -/
section
variable {prog : Program} {w : World} {A : Around} {E : Value → Shared → Prop} {s : Shared}
theorem getItem_tuple_whole {t sl : Addr} {items : Array Value} {vl vu : Value} {lo hi : Option Int} {Q : Value → Shared → Prop} (ht : IsTup s.heap t items) (hs : s.heap.IsSliceOf sl vl vu .none) (pl : IsPart vl lo) (pu : IsPart vu hi)
    (hw : HT.sIx items.size 0 lo = 0 ∧ HT.sIx items.size items.size hi = items.size) (h : Q (.ref t) s) : wpAny (model prog w) A (getItem (.ref t) (.ref sl)) Q E s := by
  obtain ⟨os, hos, hcs, hds⟩ := id hs
  have hTs : s.TypeIs (.ref sl) "slice" := ⟨os, hos, hcs⟩
  unfold getItem
  try with_reducible refine wpAny_holding ?_
  first | refine wpAny_bind (wpAny_pure ?_) | skip
  refine wpAny_bind (wpAny_sequenceKey ht.typeIs (by decide) ?_)
  refine wpAny_bind (wpAny_callSpecial?_slot (name := Str.ofString "__getitem__") ht.typeIs PyProof.Rows.slot_tuple_getitem
    (wpAny_call_entry PyProof.Rows.slot_tuple_getitem ht.typeIs entry_tuple_getitem ?_ (args_tuple_getitem _ _)))
  show wpAny _ _ (Builtin.Tuple.tupleItemsOf (.ref t) >>= _) _ _ s
  refine wpAny_bind (PyProof.Rows.tupleItemsOf_ ht ?_)
  refine wpAny_bind (wpAny_typeOf hTs ?_)
  rw [if_pos (by decide)]
  refine wpAny_bind (HT.sliceApplied_gen hs pl pu ?_)
  have hyes : ((((HT.sIx items.size 0 lo : Nat) : Int) == 0 && (1 : Int) == 1 && (HT.sIx items.size items.size hi - HT.sIx items.size 0 lo) == items.size) = true) := by
    rw [hw.1, hw.2]
    simp
  show wpAny _ _ (if (((HT.sIx items.size 0 lo : Nat) : Int) == 0 && (1 : Int) == 1 && (HT.sIx items.size items.size hi - HT.sIx items.size 0 lo) == items.size) = true then _ else _) _ _ s
  rw [if_pos hyes]
  refine wpAny_bind (m := Builtin.Tuple.tupleIsExact _) ?_
  unfold Builtin.Tuple.tupleIsExact
  refine wpAny_bind (wpAny_typeOf ht.typeIs (wpAny_pure ?_))
  rw [if_pos (by decide)]
  exact wpAny_bind (wpAny_rule (wpAny_pure ⟨_, rfl, wpAny_pure h⟩))
end
def rSlN (K : PySem.W.Frag) : V → Option Int → Option Int → Hp → VK → Prop := fun x lo hi H Q => ∃ a xs, x = .ref a ∧ SqT K H a xs ∧
  ((HT.sIx xs.length 0 lo = 0 ∧ HT.sIx xs.length xs.length hi = xs.length) → cutV xs lo hi = xs → Q (.ref a) H) ∧ ∀ p, H p = none → Q (.ref p) (upd H p (.tup (cutV xs lo hi)))
theorem sl_tupN {X : Cx} : SlR X (rSlN X.K) := by
  intro pins s σ H x v vl vu lo hi sl Q I rx hs pl pu h
  obtain ⟨a, xs, rfl, hx, q1, q2⟩ := h
  by_cases hw : HT.sIx xs.length 0 lo = 0 ∧ HT.sIx xs.length xs.length hi = xs.length
  · cases rx
    obtain ⟨its, r, ht, hz⟩ := I.tuple hx
    have hlen : its.toArray.size = xs.length := by rw [List.size_toArray]; exact r.length.symm
    refine ⟨"tuple", _, PyProof.Rows.slot_tuple_getitem.lookup, ht.typeIs, ?_⟩
    refine getItem_tuple_whole ht hs pl pu (by rw [hlen]; exact hw) ⟨.ref a, H, I, rfl, q1 hw ?_⟩
    unfold cutV
    rw [hw.1, hw.2, List.drop_zero, Nat.sub_zero, List.take_length]
  · exact sl_tup pins s σ H _ v vl vu lo hi sl Q I rx hs pl pu ⟨a, xs, rfl, hx, hw, q2⟩
def rSlS (K : PySem.W.Frag) : V → Option Int → Option Int → Hp → VK → Prop := fun x lo hi H Q => ∃ a xs, x = .ref a ∧ SqT K H a xs ∧ ∀ H' u, Same H H' → SqT K H' u (cutV xs lo hi) → Q (.ref u) H'
theorem sl_tupS {X : Cx} : SlR X (rSlS X.K) := by
  intro pins s σ H x v vl vu lo hi sl Q I rx hs pl pu h
  obtain ⟨a, xs, rfl, hx, q⟩ := h
  exact sl_tupN pins s σ H _ v vl vu lo hi sl Q I rx hs pl pu ⟨a, xs, rfl, hx, fun _ e => q H a (fun _ _ h => h) (by rw [e]; exact hx), fun p np => q _ p (same_new np) (.of upd_same)⟩
end Sg

set_option Elab.async false
set_option linter.all false
set_option maxRecDepth 100000
set_option maxHeartbeats 4000000
namespace Sg
open PySem PySem.Spec PyProof.Rows L2
theorem tup_upd {K : PySem.W.Frag} {H : Hp} {p a : Addr} {xs : List V} {u o : HO} (hp : H p = some u) (hu : ∀ ys, HO.tup ys ≠ u) (hv : ∀ ob ys, HO.frz ob (.tup ys) ≠ u) (h : SqT K H a xs) : SqT K (upd H p o) a xs := by
  rcases h with (h | ⟨ob, h⟩) | h
  · exact .inl (.inl (by rw [upd_ne (ne_of h hp (hu _))]; exact h))
  · exact .inl (.inr ⟨ob, by rw [upd_ne (ne_of h hp (hv _ _))]; exact h⟩)
  · exact .inr h
theorem ixN_nat {n j : Nat} (h : j < n) : ixN n (j : Int) = some j := by
  unfold ixN
  rw [if_pos (by omega), if_pos (by omega), Int.toNat_natCast]
theorem ixN_end {n : Nat} (h : 0 < n) : ixN n (-1) = some (n - 1) := by
  unfold ixN
  rw [if_neg (by decide), if_pos (by omega)]
  congr 1
  omega
theorem mem_set {l : List Int} {i : Nat} {v x : Int} (h : x ∈ l.set i v) : x = v ∨ x ∈ l := by
  rcases List.mem_or_eq_of_mem_set h with z | z
  · exact .inr z
  · exact .inl z
theorem eraseIdx_map {f : Int → V} : ∀ (l : List Int) (j : Nat), (l.map f).eraseIdx j = (l.eraseIdx j).map f
  | [], _ => by simp
  | _ :: _, 0 => by simp
  | a :: r, j + 1 => by
    rw [List.map_cons, List.eraseIdx_cons_succ, List.eraseIdx_cons_succ, List.map_cons, eraseIdx_map r j]
theorem set_at {l : List Int} {i j : Nat} {v x : Int} (h : (l.set i v)[j]? = some x) : x = v ∨ (i ≠ j ∧ l[j]? = some x) := by
  by_cases e : i = j
  · have hm := List.mem_of_getElem? h
    subst e
    rw [List.getElem?_set_self'] at h
    left
    cases hl : l[i]? with
    | none =>
      rw [hl] at h
      exact nomatch h
    | some y =>
      rw [hl] at h
      exact (Option.some.inj h).symm
  · rw [List.getElem?_set_ne e] at h
    exact .inr ⟨e, h⟩
theorem PenAt.new {H : Hp} {p l : Addr} {o : HO} (h : PenAt H p) (n : H l = none) : PenAt (L2.upd H l o) p := h.upd (h.ne n)
theorem cut_to (xs : List V) (d : Nat) : cutV xs none (some (d : Int)) = xs.take d := by
  unfold cutV
  rw [HT.sIx_nat, HT.sIx_none]
  show (xs.drop 0).take (min d xs.length - 0) = _
  rw [List.drop_zero, Nat.sub_zero]
  rcases Nat.le_total d xs.length with h | h
  · rw [Nat.min_eq_left h]
  · rw [Nat.min_eq_right h, List.take_of_length_le h, List.take_of_length_le (Nat.le_refl _)]
theorem cut_one (xs : List V) (d : Nat) : cutV xs (some (d : Int)) (some ((d : Int) + 1)) = (xs.drop d).take 1 := by
  unfold cutV
  rw [HT.sIx_nat, show (d : Int) + 1 = ((d + 1 : Nat) : Int) from rfl, HT.sIx_nat]
  rcases Nat.lt_or_ge d xs.length with h | h
  · rw [Nat.min_eq_left (by omega), Nat.min_eq_left (by omega)]
    congr 1
    omega
  · rw [Nat.min_eq_right (by omega), Nat.min_eq_right (by omega), List.drop_of_length_le (Nat.le_refl _), List.drop_of_length_le h, List.take_nil, List.take_nil]
theorem freeS {H H' : Hp} {t : Addr} (e : Same H H') (n : H' t = none) : H t = none := by
  rcases z : H t with _ | o
  · rfl
  · rw [e _ _ z] at n
    exact nomatch n
theorem cr_sumT {X : Cx} (hc : X.calm = true) : CallR X (.builtin "sum") (fun vs H Q => ∃ (a : Addr) (ns : List Int), vs = [.ref a] ∧ SqT X.K H a (ns.map V.int) ∧ Q (.int ns.sum) H) := by
  intro pins s σ H vs us Q I r h
  obtain ⟨a, ns, rfl, hs, q⟩ := h
  obtain ⟨its, rv, ht, hz⟩ := I.tuple hs
  rw [Vals.ref1 r]
  obtain ⟨xs, e⟩ := rv.ints.allInts.items
  have hn : numsOf (intItems xs).toList = ns := by rw [← e]; exact rv.ints.numsOf
  rw [nums_intItems] at hn
  rw [e] at ht
  refine PySem.W.ktm_sumG (I.ok.hd hc) ht fun h' tk t' hk => ?_
  refine ⟨.int ns.sum, H, I.kept hk, ⟨t', ?_⟩, q⟩
  rw [preSum_eq, List.take_of_length_le (by simp), hn]
theorem rep_flat (n : Nat) (x : Int) : (List.replicate n [V.int x]).flatten = (List.replicate n x).map V.int := by
  rw [List.map_replicate]
  induction n with
  | zero => rfl
  | succ n ih => rw [List.replicate_succ, List.flatten_cons, ih, List.replicate_succ]; rfl
/-- a tuple is no pen -/
theorem PenAt.tupNe {H : Hp} {p u : Addr} {zs : List V} (h : PenAt H p) (hu : H u = some (.tup zs)) : u ≠ p := fun z => by
  subst z
  obtain ⟨_, _, _, e, _⟩ := h
  rw [hu] at e
  exact nomatch e
end Sg

set_option Elab.async false
set_option linter.all false
set_option maxRecDepth 100000
set_option maxHeartbeats 4000000
namespace Sg
open PySem PySem.Spec PyProof.Rows L2
/-! ## how many different tuples of ints a list has -/
theorem nodup_len_le {α : Type} [DecidableEq α] : ∀ (l D : List α), l.Nodup → (∀ x ∈ l, x ∈ D) → l.length ≤ D.length
  | [], _, _, _ => Nat.zero_le _
  | x :: r, D, h, s => by
    obtain ⟨h1, h2⟩ := List.nodup_cons.mp h
    have hx := s x List.mem_cons_self
    have := nodup_len_le r (D.erase x) h2 fun y hy => (List.mem_erase_of_ne (fun e => h1 (by rw [← e]; exact hy))).mpr (s y (List.mem_cons_of_mem _ hy))
    rw [List.length_erase_of_mem hx] at this
    have := List.length_pos_of_mem hx
    rw [List.length_cons]
    omega
theorem shorter {α : Type} [DecidableEq α] : ∀ (l : List α), ¬ l.Nodup → ∃ m : List α, m.length < l.length ∧ ∀ x ∈ l, x ∈ m
  | [], h => absurd List.nodup_nil h
  | x :: r, h => by
    by_cases hx : x ∈ r
    · refine ⟨r, Nat.lt_succ_self _, fun y hy => ?_⟩
      rcases List.mem_cons.mp hy with rfl | hy
      · exact hx
      · exact hy
    · obtain ⟨m, h1, h2⟩ := shorter r fun z => h (List.nodup_cons.mpr ⟨hx, z⟩)
      refine ⟨x :: m, Nat.succ_lt_succ h1, fun y hy => ?_⟩
      rcases List.mem_cons.mp hy with rfl | hy
      · exact List.mem_cons_self
      · exact List.mem_cons_of_mem _ (h2 y hy)
theorem met_nodup {α : Type} [DecidableEq α] {M V : List α} (h : M.Nodup) (h1 : ∀ x ∈ M, x ∈ V) (h2 : ∀ x ∈ V, x ∈ M) : M.length = V.length ↔ V.Nodup := by
  constructor
  · intro e
    by_cases z : V.Nodup
    · exact z
    · obtain ⟨m, l1, l2⟩ := shorter V z
      have := nodup_len_le M m h fun x hx => l2 x (h1 x hx)
      omega
  · intro z
    exact Nat.le_antisymm (nodup_len_le M V h h1) (nodup_len_le V M z h2)
def tLenSetT (K : PySem.W.Frag) (ta : TE) : TE := fun σ H Q => ta σ H fun x H1 => ∃ (l : Addr) (ks : List (Addr × List Int)), x = .ref l ∧ SqL K H1 l (ks.map fun p => V.ref p.1) ∧ (∀ p ∈ ks, SqT K H1 p.1 (p.2.map V.int)) ∧ ks.length < 64 ∧
  ∀ n : Nat, (n = ks.length ↔ (ks.map (·.2)).Nodup) → Q (.int n) H1
theorem pe_lenSetT {X : Cx} {K : PySem.W.Frag} {a : Expr} {ta : TE} {p p2 q pos : Pos} (hK : X.K = K) (hu : X.A.units + 3 < cLine) (g1 : Gl X "len") (m1 : X.mg "len" = none) (g2 : Gl X "set") (m2 : X.mg "set" = none) (ha : PE X a ta) (hc : X.calm = true := by rfl)
    (na : starEach [a] X.env = (false, eval a X.env) :: starEach [] X.env := by rfl) : PE X (.Call (.Name "len" p) [.Call (.Name "set" p2) [a] [] q] [] pos) (tLenSetT K ta) := by
  subst hK
  constructor
  intro pins s σ H Q I h
  refine Call_ ?_
  apply ld_blt I g1 m1 boot_len
  apply callWith_builtin1 _ rfl rfl
  apply args_cons _ rfl
  refine Call_ ?_
  apply ld_blt I g2 m2 boot_set
  apply callWith_type1 _ na rfl
  apply args_cons _ na
  refine thn (ha.run pins s σ H _ I h) ?_
  rintro v s1 ⟨x, H1, I1, r1, l, ks, rfl, hq, hk, hl, q1⟩
  cases r1
  apply args_nil
  obtain ⟨its, rv, pl, hz⟩ := I1.list hq
  refine call_set_tups (P := X.prog) (w := X.w) ks (I1.ok.hd hc) pl.isList (by simpa using refs_of_vals rv) (fun p hp => I1.isT (hk p hp)) hl hu fun h' tk L es ep t R g k => ?_
  apply args_nil
  have I2 : Inv X pins σ H1 { s1 with heap := h', toks := tk } := I1.kept k
  obtain ⟨o, ho, hex, hd⟩ := R.ob
  have sz := SetTR.size (s := { s1 with heap := h', toks := tk }) R
  refine call_len_set ho hex hd (SetTR.fits (s := { s1 with heap := h', toks := tk }) R) (by rw [sz]; have := R.few; omega) ⟨.int (L.length : Nat), H1, I2.tok _, ⟨_, by rw [sz]⟩, q1 L.length ?_⟩
  have mn := met_nodup (M := L.map (·.2)) (V := ks.map (·.2)) R.nd (fun x hx => ?_) (fun x hx => ?_)
  · rw [List.length_map, List.length_map] at mn
    exact mn
  · obtain ⟨p, hp, rfl⟩ := List.mem_map.mp hx
    exact List.mem_map.mpr ⟨p, List.mem_of_mem_take (g.sub p hp), rfl⟩
  · obtain ⟨p, hp, rfl⟩ := List.mem_map.mp hx
    exact g.all p (by rw [List.take_length]; exact hp)
end Sg

set_option Elab.async false
set_option linter.all false
set_option maxRecDepth 100000
set_option maxHeartbeats 4000000
namespace Sg
open PySem PySem.Spec PyProof.Rows L2 StX
/-! ## data compared -/
theorem eqv_ints : ∀ (xs ys : List Int), PyData.eqvAll (iD xs) (iD ys) = decide (xs = ys)
  | [], [] => by simp [PyData.eqvAll]
  | [], _ :: _ => by simp [PyData.eqvAll]
  | _ :: _, [] => by simp [PyData.eqvAll]
  | x :: xs, y :: ys => by
    show PyData.eqvAll (.int x :: iD xs) (.int y :: iD ys) = _
    rw [PyData.eqvAll, eqv_ints xs ys, PyData.eqv]
    by_cases h : x = y
    · subst h; simp
    · simp [h]
theorem eqv_tD (xs ys : List Int) : PyData.eqv (tD xs) (tD ys) = decide (xs = ys) := by
  show PyData.eqv (.tuple (iD xs)) (.tuple (iD ys)) = _
  rw [PyData.eqv, eqv_ints]
theorem eqv_tDs : ∀ (xs ys : List (List Int)), PyData.eqvAll (tDs xs) (tDs ys) = decide (xs = ys)
  | [], [] => by simp [PyData.eqvAll]
  | [], _ :: _ => by simp [PyData.eqvAll]
  | _ :: _, [] => by simp [PyData.eqvAll]
  | x :: xs, y :: ys => by
    show PyData.eqvAll (tD x :: tDs xs) (tD y :: tDs ys) = _
    rw [PyData.eqvAll, eqv_tDs xs ys, eqv_tD]
    by_cases h : x = y
    · subst h; simp
    · simp [h]
theorem lay_iD : ∀ (xs : List Int), PyData.canLayAll0 (iD xs) = true
  | [] => by simp [PyData.canLayAll0]
  | x :: r => by
    show PyData.canLayAll0 (.int x :: iD r) = true
    rw [PyData.canLayAll0, lay_iD r, PyData.canLay0]; rfl
theorem dep_iD : ∀ (xs : List Int), PyData.depthAll (iD xs) = 0
  | [] => by simp [PyData.depthAll]
  | x :: r => by
    show PyData.depthAll (.int x :: iD r) = 0
    rw [PyData.depthAll, dep_iD r, PyData.depth]; rfl
theorem shaped_tD (xs : List Int) : SeqAt.shaped (tD xs) = true := by
  unfold SeqAt.shaped
  have a : (tD xs).canLay0 = true := by show PyData.canLay0 (.tuple (iD xs)) = true; rw [PyData.canLay0, lay_iD]
  have b : (tD xs).depth ≤ 64 := by show PyData.depth (.tuple (iD xs)) ≤ 64; rw [PyData.depth, dep_iD]; decide
  rw [a, decide_eq_true b]; rfl
theorem lay_tDs : ∀ (xs : List (List Int)), PyData.canLayAll0 (tDs xs) = true
  | [] => by simp [PyData.canLayAll0]
  | x :: r => by
    show PyData.canLayAll0 (.tuple (iD x) :: tDs r) = true
    rw [PyData.canLayAll0, lay_tDs r, PyData.canLay0, lay_iD]; rfl
theorem dep_tDs : ∀ (xs : List (List Int)), PyData.depthAll (tDs xs) ≤ 1
  | [] => by simp [PyData.depthAll]
  | x :: r => by
    show PyData.depthAll (.tuple (iD x) :: tDs r) ≤ 1
    rw [PyData.depthAll, PyData.depth, dep_iD]
    exact Nat.max_le.mpr ⟨Nat.le_refl _, dep_tDs r⟩
theorem shaped_tDs (xs : List (List Int)) : SeqAt.shaped (.tuple (tDs xs)) = true := by
  unfold SeqAt.shaped
  have a : (PyData.tuple (tDs xs)).canLay0 = true := by rw [PyData.canLay0, lay_tDs]
  have b : (PyData.tuple (tDs xs)).depth ≤ 64 := by rw [PyData.depth]; have := dep_tDs xs; omega
  rw [a, decide_eq_true b]; rfl
end Sg
namespace Sg
open PySem PySem.Spec PyProof.Rows L2 StX
/-- a call of a def by names alone, in their order -/
def kwI {α : Type} : List α → List α → List α
  | [], ws => ws
  | _ :: _, _ => []
theorem kwI_rel {vs : List V} {us : List Value} {zs : List V} {ws : List Value} (r : Vals vs us) (rz : Vals zs ws) : Vals (kwI vs zs) (kwI us ws) := by
  cases r with
  | nil => exact rz
  | cons a r1 => exact .nil
/-- .. two names, the second one first -/
def kwG {α : Type} : List α → List α → List α
  | [], [a, b] => [b, a]
  | _, _ => []
theorem kw_rel {vs : List V} {us : List Value} {zs : List V} {ws : List Value} (r : Vals vs us) (rz : Vals zs ws) : Vals (kwG vs zs) (kwG us ws) := by
  cases r with
  | nil =>
    cases rz with
    | nil => exact .nil
    | cons a r1 =>
      cases r1 with
      | nil => exact .nil
      | cons b r2 =>
        cases r2 with
        | nil => exact .cons b (.cons a .nil)
        | cons c r3 => exact .nil
  | cons a r1 => exact .nil
section
variable {X : Cx} {CX : CXT} {k : Nat} {f : Addr} {fd : FuncData} {ps ks : List Str} {sp : Sp} {E : XK} {x : Str} {p pos : Pos} {kws : List Keyword} {tk : TA} {g : List Value → List Value → List Value} {gV : List V → List V → List V}
theorem pe_callK0 (F : FnOk X.prog X.w X.K X.mg X.base CX k f fd ps sp) (hr : Room k X.A) (hg : Gl X x) (hm : X.mg x = some (.ref f)) (hk : PySem.W.keepIn X.K (.ref f) = true) (hb : KBinds X.K fd ps ks g gV) (hx : Passes CX X E) (hkw : PK X kws tk)
    (ha : (backToKw pos (keywordEach kws X.env)).all (·.1.isSome) = true := by rfl) (hs : (backToKw pos (keywordEach kws X.env)).filterMap (·.1) = ks := by rfl) (hd : (x == ("__debug__" : Str)) = false := by decide)
    (hp : ((backTo pos (starEach [] X.env)).any (·.1) || (backToKw pos (keywordEach kws X.env)).any (·.1.isNone)) = false := by rfl) : PE X (.Call (.Name x p) [] kws pos) (tCallK sp gV E tNil tk) := by
  refine ⟨fun pins s σ H Q I h => wpAny_Call_Name_kw (ld_glob I hg hm ?_ hd)⟩
  refine PySem.W.callWith_KW0 (h₀ := X.base) I.ok.mod.kin hk ha ?_ hp
  refine thn (hkw.run pos pins s σ H _ I h) fun ws s2 ⟨zs, H2, I2, rz, q2⟩ => ⟨I2.kIn, ?_⟩
  rw [hs]
  exact run_fnk (us := []) (vs := []) F hr hb hx I2 .nil rz q2
end
end Sg

set_option Elab.async false
set_option linter.all false
set_option maxRecDepth 100000
set_option maxHeartbeats 4000000
namespace Sg
open PySem PySem.Spec PyProof.Rows L2
/-! the places of the text -/
def topS (i : Nat) : Stmt := PySem.Challenge.pw_startgaps_k34_constant_distances.main.body.getD i (.Pass ⟨0, 0, 0, 0⟩)
abbrev s_is_int : Stmt := topS 1
theorem sc_is_int : FnScope ["thing"] ["thing"] (defScope s_is_int) := ⟨rfl, rfl, rfl, by decide +kernel, rfl, by decide +kernel, by decide +kernel⟩
abbrev s_is_between : Stmt := topS 2
theorem sc_is_between : FnScope ["thing", "least", "most"] ["thing", "least", "most"] (defScope s_is_between) := ⟨rfl, rfl, rfl, by decide +kernel, rfl, by decide +kernel, by decide +kernel⟩
abbrev s_is_work : Stmt := topS 10
theorem sc_is_work : FnScope ["thing", "item"] ["thing"] (defScope s_is_work) := ⟨rfl, rfl, rfl, by decide +kernel, rfl, by decide +kernel, by decide +kernel⟩
abbrev s_require_work : Stmt := topS 11
theorem sc_require_work : FnScope ["thing"] ["thing"] (defScope s_require_work) := ⟨rfl, rfl, rfl, by decide +kernel, rfl, by decide +kernel, by decide +kernel⟩
abbrev s_constants : Stmt := topS 13
theorem sc_constants : FnScope ["work", "distance"] ["work"] (defScope s_constants) := ⟨rfl, rfl, rfl, by decide +kernel, rfl, by decide +kernel, by decide +kernel⟩
abbrev s_is_constant : Stmt := topS 14
theorem sc_is_constant : FnScope ["items", "distance", "places", "tick", "station"] ["items", "distance"] (defScope s_is_constant) := ⟨rfl, rfl, rfl, by decide +kernel, rfl, by decide +kernel, by decide +kernel⟩
abbrev s_l_cell_at : Stmt := topS 16
theorem sc_l_cell_at : FnScope ["_law_script", "_law_k"] ["_law_script", "_law_k"] (defScope s_l_cell_at) := ⟨rfl, rfl, rfl, by decide +kernel, rfl, by decide +kernel, by decide +kernel⟩
abbrev s_l_pen : Stmt := topS 17
theorem sc_l_pen : FnScope ["_law_cell"] ["_law_cell"] (defScope s_l_pen) := ⟨rfl, rfl, rfl, by decide +kernel, rfl, by decide +kernel, by decide +kernel⟩
abbrev s_l_draw : Stmt := topS 18
theorem sc_l_draw : FnScope ["_law_pen_here", "_law_many", "_law_found", "_law_mixed"] ["_law_pen_here", "_law_many"] (defScope s_l_draw) := ⟨rfl, rfl, rfl, by decide +kernel, rfl, by decide +kernel, by decide +kernel⟩
abbrev s_l_pick : Stmt := topS 19
theorem sc_l_pick : FnScope ["_law_pen_here", "_law_some"] ["_law_pen_here", "_law_some"] (defScope s_l_pick) := ⟨rfl, rfl, rfl, by decide +kernel, rfl, by decide +kernel, by decide +kernel⟩
abbrev s_l_same : Stmt := topS 20
theorem sc_l_same : FnScope ["_law_found", "_law_due"] ["_law_found", "_law_due"] (defScope s_l_same) := ⟨rfl, rfl, rfl, by decide +kernel, rfl, by decide +kernel, by decide +kernel⟩
abbrev s_l_names : Stmt := topS 21
theorem sc_l_names : FnScope ["_law_pen_here", "_law_first", "_law_step", "_law_at"] ["_law_pen_here"] (defScope s_l_names) := ⟨rfl, rfl, rfl, by decide +kernel, rfl, by decide +kernel, by decide +kernel⟩
abbrev s_l_work : Stmt := topS 22
theorem sc_l_work : FnScope ["_law_pen_here", "_law_names_here", "_law_far", "_law_blocks", "_law_many", "_law_rare", "_law_items", "_law_tick", "_law_station"] ["_law_pen_here", "_law_names_here", "_law_far", "_law_blocks"] (defScope s_l_work) := ⟨rfl, rfl, rfl, by decide +kernel, rfl, by decide +kernel, by decide +kernel⟩
abbrev s_l_long : Stmt := topS 23
theorem sc_l_long : FnScope ["_law_pen_here", "_law_most", "_law_found", "_law_stations", "_law_first", "_law_at", "_law_rare", "_law_items", "_law_tick", "_law_station", "_law_end"] ["_law_pen_here", "_law_most"] (defScope s_l_long) := ⟨rfl, rfl, rfl, by decide +kernel, rfl, by decide +kernel, by decide +kernel⟩
abbrev s_l_is_constant : Stmt := topS 24
theorem sc_l_is_constant : FnScope ["_law_task", "_law_distance", "_law_seen", "_law_tick", "_law_station"] ["_law_task", "_law_distance"] (defScope s_l_is_constant) := ⟨rfl, rfl, rfl, by decide +kernel, rfl, by decide +kernel, by decide +kernel⟩
abbrev s_law : Stmt := topS 25
theorem sc_law : FnScope ["_law_script", "_law_k", "_law_pen_here", "_law_works", "_law_task", "_law_due", "_law_far", "_law_again"] ["_law_script"] (defScope s_law) := ⟨rfl, rfl, rfl, by decide +kernel, rfl, by decide +kernel, by decide +kernel⟩
end Sg

set_option Elab.async false
set_option linter.all false
set_option maxRecDepth 100000
set_option maxHeartbeats 4000000
namespace Sg
open PySem PySem.Spec PyProof.Rows L2 StX
section
variable {P : Program} {w : World} {K : PySem.W.Frag} {mg : Str → Option Value} {base : Heap}
/-! ### is_int, is_between: of ints -/
def spIsInt : Sp := fun vs H Q _ => ∃ i : Int, vs = [.int i] ∧ Q (.bl true) H
theorem ok_is_int {f : Addr} {fd : FuncData} {k : Nat} (F : Fun K "is_int" "is_int" s_is_int f fd) (m1 : mg "isinstance" = none) (m2 : mg "int" = none) (m3 : mg "bool" = none) :
    FnOk P w K mg base CX0 (k + 1) f fd ["thing"] spIsInt := by
  refine F.ok sc_is_int (fun vs H Q E h => ?_) (fun cdv A outer s H vs Q E hr h => ?_)
  · obtain ⟨i, rfl, _⟩ := h; rfl
  · obtain ⟨i, rfl, q⟩ := h
    refine ⟨_, pss_one (ps_ret (pe_and
      (pe_callB call_isi (by rfl) m1 (by decide +kernel) (pa_cons (pv 0) (pa_cons (pe_bltn (v := .ty "int") (by rfl) m2 (by decide +kernel) rfl) pa_nil)))
      (pe_one (pe_not (pe_callB call_isi (by rfl) m1 (by decide +kernel) (pa_cons (pv 0) (pa_cons (pe_bltn (v := .ty "bool") (by rfl) m3 (by decide +kernel) rfl) pa_nil))))))), ?_⟩
    refine ⟨.int i, rfl, .int i, .ty "int", _, _, true, rfl, .ty _, .base (.int i), kit_ty (by decide +kernel), true, rfl, iteT ?_⟩
    exact ⟨.int i, rfl, .int i, .ty "bool", _, _, false, rfl, .ty _, .base (.int i), kit_ty (by decide +kernel), false, rfl, q⟩
def spIsBetween : Sp := fun vs H Q _ => ∃ i l m : Int, vs = [.int i, .int l, .int m] ∧ Q (.bl (decide (l ≤ i) && decide (i ≤ m))) H
theorem ok_is_between {f f1 : Addr} {fd fd1 : FuncData} {k : Nat} (F : Fun K "is_between" "is_between" s_is_between f fd)
    (G1 : FnOk P w K mg base CX0 k f1 fd1 ["thing"] spIsInt) (kp1 : PySem.W.keepIn K (.ref f1) = true) (b1 : Binds K fd1 ["thing"] []) (g1 : mg "is_int" = some (.ref f1)) :
    FnOk P w K mg base CX0 (k + 1) f fd ["thing", "least", "most"] spIsBetween := by
  refine F.ok sc_is_between (fun vs H Q E h => ?_) (fun cdv A outer s H vs Q E hr h => ?_)
  · obtain ⟨i, l, m, rfl, _⟩ := h; rfl
  · obtain ⟨i, l, m, rfl, q⟩ := h
    refine ⟨_, pss_one (ps_ret (pe_and (pe_call G1 hr (by rfl) g1 kp1 b1 .nil pass0 (pa_cons (pv 0) pa_nil)) (pe_one (pe_chain op_le op_le (pv 1) (pv 0) (pv 2))))), ?_⟩
    refine ⟨.int i, rfl, i, rfl, true, rfl, iteT ?_⟩
    refine ⟨.int l, rfl, .int i, rfl, l, i, rfl, rfl, decide (l ≤ i), rfl, ?_⟩
    by_cases h1 : l ≤ i
    · rw [decide_eq_true h1] at q ⊢
      exact iteT ⟨.int m, rfl, i, m, rfl, rfl, q⟩
    · rw [decide_eq_false h1] at q ⊢
      exact iteF q
/-! ### the script's cells, the pen -/
def spCell (K : PySem.W.Frag) : Sp := fun vs H Q _ => ∃ (a : Addr) (ns : List Int) (k : Nat), vs = [.ref a, .int k] ∧ SqL K H a (ns.map V.int) ∧ ∀ r : Int, Q (.int r) H
theorem ok_l_cell_at {f : Addr} {fd : FuncData} {k : Nat} (F : Fun K "_law_cell_at" "_law_cell_at" s_l_cell_at f fd) (m1 : mg "len" = none) :
    FnOk P w K mg base CX0 (k + 1) f fd ["_law_script", "_law_k"] (spCell K) := by
  refine F.ok sc_l_cell_at (fun vs H Q E h => ?_) (fun cdv A outer s H vs Q E hr h => ?_)
  · obtain ⟨a, ns, j, rfl, _⟩ := h; rfl
  · obtain ⟨a, ns, j, rfl, hS, q⟩ := h
    refine ⟨_, pss_cons (ps_if (pt_cmpR op_lt (pv 1) (pe_callB call_len_seq (by rfl) m1 PySem.boot_len (pa_cons (pv 0) pa_nil)) (nomark _))
      (pss_one (ps_ret (pe_ix ix_list (pv 0) (pv 1) (fun _ _ => rfl)))) pss_nil) (pss_one (ps_ret pe_int)), ?_⟩
    refine ⟨.int j, rfl, .ref a, rfl, a, ns.map V.int, rfl, .inl hS, _, _, rfl, rfl, _, rfl, ite2 (fun e => ?_) (fun e => ?_)⟩
    · have e1 : (j : Int) < ((ns.map V.int).length : Nat) := of_decide_eq_true e
      have e2 : j < ns.length := by rw [List.length_map] at e1; omega
      refine ⟨.ref a, rfl, .int j, rfl, a, ns.map V.int, (j : Int), .int ns[j], rfl, rfl, hS, atI_nat ?_, q _⟩
      rw [List.getElem?_map, List.getElem?_eq_getElem e2]; rfl
    · exact q 0
def spPen : Sp := fun vs H Q _ => ∃ c : Int, vs = [.int c] ∧ ∀ H' p, H p = none → Same H H' → PenAt H' p → Q (.ref p) H'
theorem ok_l_pen {f : Addr} {fd : FuncData} {k : Nat} (F : Fun K "_law_pen" "_law_pen" s_l_pen f fd) (m1 : mg "max" = none) :
    FnOk P w K mg base CX0 (k + 1) f fd ["_law_cell"] spPen := by
  refine F.ok sc_l_pen (fun vs H Q E h => ?_) (fun cdv A outer s H vs Q E hr h => ?_)
  · obtain ⟨c, rfl, _⟩ := h; rfl
  · obtain ⟨c, rfl, q⟩ := h
    refine ⟨_, pss_one (ps_ret (pe_lst (pa_cons (pe_callB (call_max2 rfl) (by rfl) m1 (by decide +kernel) (pa_cons pe_int (pa_cons (pe_op op_sub (pv 0) (pe_op op_pow pe_int pe_int)) pa_nil)))
      (pa_cons (pe_op op_add (pe_op op_mod (pv 0) pe_int) pe_int) (pa_cons pe_int pa_nil))))), ?_⟩
    refine ⟨.int c, rfl, 10, 18, rfl, rfl, (by show (0 : Int) ≤ 18 ∧ (18 : Int) ≤ 1000000 ∧ _; decide), c, _, rfl, rfl, _, _, rfl, ?_⟩
    refine ⟨.int c, rfl, c, 2147483629, rfl, rfl, (by show (0 : Int) < 2147483629; decide), _, _, rfl, rfl, ?_⟩
    refine ⟨by show 3 ≤ sizeLine; decide, fun p hp => q _ p hp (same_new hp) ⟨_, _, _, upd_same, ?_⟩⟩
    have h1 := Int.emod_nonneg c (show (2147483629 : Int) ≠ 0 by decide)
    have h2 := Int.emod_lt_of_pos c (show (0 : Int) < 2147483629 by decide)
    constructor <;> omega
/-! ### a draw -/
def spDraw : Sp := fun vs H Q _ => ∃ (p : Addr) (m : Int), vs = [.ref p, .int m] ∧ PenAt H p ∧ 0 < m ∧ m < 1000000 ∧
  ∀ H' (r : Int), 0 ≤ r → r < m → PenAt H' p → But p H H' → Q (.int r) H'
theorem ok_l_draw {f : Addr} {fd : FuncData} {k : Nat} (F : Fun K "_law_draw" "_law_draw" s_l_draw f fd) :
    FnOk P w K mg base CX0 (k + 1) f fd ["_law_pen_here", "_law_many"] spDraw := by
  refine F.ok sc_l_draw (fun vs H Q E h => ?_) (fun cdv A outer s H vs Q E hr h => ?_)
  · obtain ⟨p, m, rfl, _⟩ := h; rfl
  · obtain ⟨p, m, rfl, ⟨a, b, c, hp, hb0, hb1⟩, hm0, hm1, q⟩ := h
    refine ⟨_, pss_cons (ps_if (pt_cmpR op_gt (pe_ix ix_list (pv 0) pe_int (fun _ _ => rfl)) pe_int (nomark _))
        (pss_cons (ps_set (i := 2) sc_l_draw.nd rfl (.inl rfl) (pe_op op_mod (pe_ix ix_list (pv 0) pe_int (fun _ _ => rfl)) (pv 1)))
        (pss_cons (ps_asg (pe_op op_fdiv (pe_ix ix_list (pv 0) pe_int (fun _ _ => rfl)) (pv 1)) (pg_sub (pv 0) pe_int set_list))
        (pss_one (ps_ret (pv 2))))) pss_nil)
      (pss_cons (ps_asg (pe_op op_add (pe_ix ix_list (pv 0) pe_int (fun _ _ => rfl)) pe_int) (pg_sub (pv 0) pe_int set_list))
      (pss_cons (ps_asg (pe_op op_mod (pe_op op_add (pe_op op_add (pe_op op_mul (pe_ix ix_list (pv 0) pe_int (fun _ _ => rfl)) pe_int)
            (pe_op op_mul pe_int (pe_ix ix_list (pv 0) pe_int (fun _ _ => rfl)))) pe_int) pe_int) (pg_sub (pv 0) pe_int set_list))
      (pss_cons (ps_set (i := 3) sc_l_draw.nd rfl (.inl rfl) (pe_op op_mod (pe_op op_add (pe_op op_add (pe_op op_mul (pe_ix ix_list (pv 0) pe_int (fun _ _ => rfl)) (pe_ix ix_list (pv 0) pe_int (fun _ _ => rfl)))
            (pe_op op_mul pe_int (pe_ix ix_list (pv 0) pe_int (fun _ _ => rfl)))) pe_int) pe_int))
      (pss_cons (ps_set (i := 3) sc_l_draw.nd rfl (.inl rfl) (pe_op op_mod (pe_op op_add (pe_op op_mul (pv 3) (pv 3)) (pe_op op_mul pe_int (pv 3))) pe_int))
      (pss_one (ps_ret (pe_op op_mod (pe_op op_fdiv (pv 3) pe_int) (pv 1)))))))), ?_⟩
    refine ⟨.ref p, rfl, p, _, 0, .int a, rfl, rfl, .of hp, atI0, a, 0, rfl, rfl, _, rfl, ite2 (fun e => ?_) (fun e => ?_)⟩
    · have ha : 0 < a := of_decide_eq_true e
      refine ⟨.ref p, rfl, p, _, 0, .int a, rfl, rfl, .of hp, atI0, .int m, rfl, a, m, rfl, rfl, hm0, ?_⟩
      refine ⟨.ref p, rfl, p, _, 0, .int a, rfl, rfl, .of hp, atI0, .int m, rfl, a, m, rfl, rfl, ⟨hm0, (by omega)⟩, ?_⟩
      refine ⟨.ref p, rfl, p, _, 0, 0, rfl, rfl, hp, rfl, ?_⟩
      refine ⟨.int (a % m), rfl, q _ _ (Int.emod_nonneg a (by omega)) (Int.emod_lt_of_pos a hm0) ⟨a / m, b, c, upd_same, hb0, hb1⟩ But.upd⟩
    · refine ⟨.ref p, rfl, p, _, 2, .int c, rfl, rfl, .of hp, atI2, c, 1, rfl, rfl, ?_⟩
      refine ⟨.ref p, rfl, p, _, 2, 2, rfl, rfl, hp, rfl, ?_⟩
      have hp1 : (upd H p (.lst [.int a, .int b, .int (c + 1)])) p = some (.lst [.int a, .int b, .int (c + 1)]) := upd_same
      refine ⟨.ref p, rfl, p, _, 1, .int b, rfl, rfl, .of hp1, atI1, b, 48271, rfl, rfl, .inl ⟨by omega, by omega⟩, ?_⟩
      refine ⟨.ref p, rfl, p, _, 2, .int (c + 1), rfl, rfl, .of hp1, atI2, 1009, c + 1, rfl, rfl, .inl (by decide), ?_⟩
      refine ⟨_, _, rfl, rfl, _, _, rfl, rfl, _, 2147483647, rfl, rfl, (by show (0 : Int) < 2147483647; decide), ?_⟩
      refine ⟨.ref p, rfl, p, _, 1, 1, rfl, rfl, hp1, rfl, ?_⟩
      dsimp only [List.set]
      generalize hb' : (b * 48271 + 1009 * (c + 1) + 7) % 2147483647 = b'
      have g1 : 0 ≤ b' := by rw [← hb']; exact Int.emod_nonneg _ (by decide)
      have g2 : b' < 2147483647 := by rw [← hb']; exact Int.emod_lt_of_pos _ (by decide)
      have hp2 : (upd (upd H p (.lst [.int a, .int b, .int (c + 1)])) p (.lst [.int a, .int b', .int (c + 1)])) p = some (.lst [.int a, .int b', .int (c + 1)]) := upd_same
      refine ⟨.ref p, rfl, p, _, 1, .int b', rfl, rfl, .of hp2, atI1, .ref p, rfl, p, _, 1, .int b', rfl, rfl, .of hp2, atI1, b', b', rfl, rfl, .inl ⟨by omega, by omega⟩, ?_⟩
      refine ⟨.ref p, rfl, p, _, 1, .int b', rfl, rfl, .of hp2, atI1, 69621, b', rfl, rfl, .inl (by decide), ?_⟩
      refine ⟨_, _, rfl, rfl, _, _, rfl, rfl, _, 2147483629, rfl, rfl, (by show (0 : Int) < 2147483629; decide), ?_⟩
      dsimp only
      generalize ht : (b' * b' + 69621 * b' + 11) % 2147483629 = t
      have t1 : 0 ≤ t := by rw [← ht]; exact Int.emod_nonneg _ (by decide)
      have t2 : t < 2147483629 := by rw [← ht]; exact Int.emod_lt_of_pos _ (by decide)
      refine ⟨.int t, rfl, .int t, rfl, t, t, rfl, rfl, .inl ⟨by omega, by omega⟩, .int t, rfl, 40014, t, rfl, rfl, .inl (by decide), _, _, rfl, rfl, _, 2147483587, rfl, rfl, (by show (0 : Int) < 2147483587; decide), ?_⟩
      refine ⟨_, rfl, _, 16, rfl, rfl, ⟨by decide, by decide⟩, .int m, rfl, _, m, rfl, rfl, hm0, ?_⟩
      refine q _ _ (Int.emod_nonneg _ (by omega)) (Int.emod_lt_of_pos _ hm0) ⟨a, b', c + 1, upd_same, by omega, by omega⟩ ?_
      exact But.upd.trans But.upd
end
end Sg

set_option Elab.async false
set_option linter.all false
set_option maxRecDepth 100000
set_option maxHeartbeats 4000000
namespace Sg
open PySem PySem.Spec PyProof.Rows L2 StX
section
variable {P : Program} {w : World} {K : PySem.W.Frag} {mg : Str → Option Value} {base : Heap}
/-! ### is_work, of a work -/
def spIsWork (K : PySem.W.Frag) : Sp := fun vs H Q _ => ∃ (a : Addr) (ns : List Int), vs = [.ref a] ∧ SqT K H a (ns.map V.int) ∧ IsWork ns ∧ ∀ H', Same H H' → Q (.bl true) H'
theorem ok_is_work {f f1 : Addr} {fd fd1 : FuncData} {k : Nat} (F : Fun K "is_work" "is_work" s_is_work f fd) (N : Nums mg)
    (G1 : FnOk P w K mg base CX0 k f1 fd1 ["thing", "least", "most"] spIsBetween) (kp1 : PySem.W.keepIn K (.ref f1) = true) (b1 : Binds K fd1 ["thing", "least", "most"] []) (g1 : mg "is_between" = some (.ref f1))
    (m1 : mg "isinstance" = none) (m2 : mg "tuple" = none) (m3 : mg "len" = none) (m4 : mg "all" = none) :
    FnOk P w K mg base CX0 (k + 1) f fd ["thing"] (spIsWork K) := by
  obtain ⟨t1, n1⟩ := N.nowhere
  obtain ⟨t2, n2⟩ := N.stations
  obtain ⟨t3, n3⟩ := N.most
  refine F.ok sc_is_work (fun vs H Q E h => ?_) (fun cdv A outer s H vs Q E hr h => ?_)
  · obtain ⟨a, ns, rfl, _⟩ := h; rfl
  · obtain ⟨a, ns, rfl, hS, hw, q⟩ := h
    refine ⟨_, pss_cons (ps_if (PW.pt (pw_or (pt_not (pt_val (pe_callB call_isi (by rfl) m1 (by decide +kernel) (pa_cons (pv 0) (pa_cons (pe_bltn (v := .ty "tuple") (by rfl) m2 (by decide +kernel) rfl) pa_nil)))))
          (pw_or1 (pt_not (pt_chain op_le op_le pe_int (pe_callB call_len_seq (by rfl) m3 PySem.boot_len (pa_cons (pv 0) pa_nil)) (pe_glob (v := .int 60) (by rfl) n3 ⟨_, rfl⟩))))))
        (pss_one (ps_ret pe_bl)) pss_nil)
      (pss_cons (ps_if (pt_not (pt_val (pe_callB (cr_all rfl) (by rfl) m4 (by decide +kernel) (pa_cons
          (pe_lc (own := [("item", 1)]) (g := gName 1) (tt := tYes) rfl sc_is_work.nd (pi_tup (pv 0)) (blkOk_by (N := ["thing", "item"]) (sc := defScope s_is_work) (by decide +kernel))
            (fun _ _ _ _ _ => pg_name (i := 1) sc_is_work.nd rfl (Or.inl rfl)) (fun _ _ _ _ _ => pts_nil)
            (fun _ _ _ _ _ => pe_call G1 hr (by rfl) g1 kp1 b1 .nil pass0 (pa_cons (pv 1) (pa_cons (pe_glob (v := .int (-1)) (by rfl) n1 ⟨_, rfl⟩) (pa_cons (pe_op op_sub (pe_glob (v := .int 10) (by rfl) n2 ⟨_, rfl⟩) pe_int) pa_nil))))) pa_nil))))
        (pss_one (ps_ret pe_bl)) pss_nil)
      (pss_one (ps_ret (pe_and (pe_cmpR op_ne (pe_ix ix_tup (pv 0) pe_int (fun _ _ => rfl)) (pe_glob (v := .int (-1)) (by rfl) n1 ⟨_, rfl⟩) (nomark _))
        (pe_one (pe_cmpR op_ne (pe_ix ix_tup (pv 0) (pe_un un_neg pe_int) (fun _ _ => rfl)) (pe_glob (v := .int (-1)) (by rfl) n1 ⟨_, rfl⟩) (nomark _))))))), ?_⟩
    have l1 : ((ns.map V.int).length : Int) = ns.length := by rw [List.length_map]
    refine ⟨.ref a, rfl, .ref a, .ty "tuple", _, _, true, rfl, .ty _, tyT hS, kit_ty (by decide +kernel), true, rfl, iteF ?_⟩
    refine ⟨.ref a, rfl, a, ns.map V.int, rfl, .inr hS, 1, _, rfl, rfl, _, rfl, ?_⟩
    have c1 : decide ((1 : Int) ≤ ((ns.map V.int).length : Nat)) = true := decide_eq_true (by rw [List.length_map]; have := hw.pos; omega)
    rw [c1]
    refine iteT ⟨_, 60, rfl, rfl, _, rfl, ?_⟩
    have c2 : decide ((((ns.map V.int).length : Nat) : Int) ≤ 60) = true := decide_eq_true (by rw [List.length_map]; have := hw.most; omega)
    rw [c2]
    refine iteF ?_
    refine ⟨.ref a, rfl, a, rfl, ⟨_, hS⟩, fun D hD => ?_⟩
    refine lc_tup (xs := ns.map V.int) (fun i H' => Same H H' ∧ H' D = some (.lst ((((ns.take i).map inR)).map V.bl))) ⟨same_new hD, upd_same⟩ (fun i H' _ h => Same.tup h.1 hS) (fun i x H' hx h => ?_) (fun H' h => ?_)
    · rw [List.getElem?_map] at hx
      obtain ⟨z, hz, rfl⟩ := Option.map_eq_some_iff.mp hx
      have hl : i < ns.length := (List.getElem?_eq_some_iff.mp hz).1
      refine ⟨rfl, .int z, rfl, 10, 1, rfl, rfl, z, -1, _, rfl, ?_⟩
      refine ⟨_, h.2, ?_, fun b o e => ?_, ?_⟩
      · rw [List.length_map, List.length_map, List.length_take]
        have := hw.most
        exact small1000 (by omega)
      · rw [upd_ne (ne_of_none e hD)]
        exact h.1 _ _ e
      · rw [upd_same, List.take_add_one, hz, List.map_append, List.map_append]
        rfl
    · have hall : (((ns.take ns.length).map inR)).all id = true := by
        rw [List.take_length, List.all_map, List.all_eq_true]
        intro x hx
        have := hw.items x hx
        simp [inR, this.1, this.2]
      have h2 := h.2
      rw [List.length_map] at h2
      refine ⟨D, _, rfl, .of h2, true, congrArg V.bl hall, iteF ?_⟩
      have hS' : SqT K H' a (ns.map V.int) := Same.tup h.1 hS
      obtain ⟨x, hx⟩ : ∃ x, ns[0]? = some x := ⟨ns[0]'(hw.pos), List.getElem?_eq_getElem _⟩
      have hpos := hw.pos
      obtain ⟨y, hy⟩ : ∃ y, ns[ns.length - 1]? = some y := ⟨ns[ns.length - 1]'(by omega), List.getElem?_eq_getElem _⟩
      have gx : (ns.map V.int)[0]? = some (.int x) := by rw [List.getElem?_map, hx]; rfl
      have gy : atI (ns.map V.int) (-1) = some (.int y) := by
        have hne : ns ≠ [] := fun z => by rw [z] at hpos; exact absurd hpos (by decide)
        have e1 : ns = ns.dropLast ++ [y] := by
          have e2 : ns.getLast hne = y := by
            have := List.getLast_eq_getElem hne
            rw [this]
            exact (List.getElem?_eq_some_iff.mp hy).2
          rw [← e2, List.dropLast_concat_getLast]
        rw [e1, List.map_append]
        exact atI_last _ _
      refine ⟨.ref a, rfl, a, _, 0, .int x, rfl, rfl, hS', atI_nat (j := 0) gx, rfl, ?_⟩
      have d1 : decide (V.int x = V.int (-1)) = false := decide_eq_false fun z => hw.head x hx (V.int.inj z)
      rw [d1]
      refine ⟨true, rfl, iteT ?_⟩
      refine ⟨.ref a, rfl, 1, rfl, a, _, -1, .int y, rfl, rfl, hS', gy, rfl, ?_⟩
      have d2 : decide (V.int y = V.int (-1)) = false := decide_eq_false fun z => hw.last y hy (V.int.inj z)
      rw [d2]
      exact q H' h.1
def spReq (K : PySem.W.Frag) : Sp := fun vs H Q _ => ∃ (a : Addr) (ns : List Int), vs = [.ref a] ∧ SqT K H a (ns.map V.int) ∧ IsWork ns ∧ ∀ H', Same H H' → Q .non H'
theorem ok_require_work {f f1 : Addr} {fd fd1 : FuncData} {k : Nat} (F : Fun K "require_work" "require_work" s_require_work f fd)
    (G1 : FnOk P w K mg base CX0 k f1 fd1 ["thing"] (spIsWork K)) (kp1 : PySem.W.keepIn K (.ref f1) = true) (b1 : Binds K fd1 ["thing"] []) (g1 : mg "is_work" = some (.ref f1)) :
    FnOk P w K mg base CX0 (k + 1) f fd ["thing"] (spReq K) := by
  refine F.ok sc_require_work (fun vs H Q E h => ?_) (fun cdv A outer s H vs Q E hr h => ?_)
  · obtain ⟨a, ns, rfl, _⟩ := h; rfl
  · obtain ⟨a, ns, rfl, hS, hw, q⟩ := h
    refine ⟨_, pss_one (ps_if (pt_not (pt_val (pe_call G1 hr (by rfl) g1 kp1 b1 .nil pass0 (pa_cons (pv 0) pa_nil)))) (pss_one ps_never) pss_nil), ?_⟩
    exact ⟨.ref a, rfl, a, ns, rfl, hS, hw, fun H' sm => ⟨true, rfl, iteF (q H' sm)⟩⟩
end
end Sg

set_option Elab.async false
set_option linter.all false
set_option maxRecDepth 100000
set_option maxHeartbeats 4000000
namespace Sg
open PySem PySem.Spec PyProof.Rows L2 StX
section
variable {P : Program} {w : World} {K : PySem.W.Frag} {mg : Str → Option Value} {base : Heap}
/-! ### _law_same -/
theorem ok_l_same {f : Addr} {fd : FuncData} {k : Nat} (F : Fun K "_law_same" "_law_same" s_l_same f fd) (m1 : mg "repr" = none) :
    FnG P w K mg base (k + 1) f fd ["_law_found", "_law_due"] (spSame K) := by
  refine fnG_mk F sc_l_same (fun vs H Q h => ?_) (fun cdv A outer s H vs Q hg hr h => ?_)
  · obtain ⟨a, b, d, rfl, _⟩ := h; rfl
  · obtain ⟨a, b, d, rfl, h1, h2, hd, q⟩ := h
    refine ⟨_, pss_one (ps_ret (pe_cmpR op_eq (pe_callB (call_reprD hg hr) (by rfl) m1 (by decide +kernel) (pa_cons (pv 0) pa_nil))
      (pe_callB (call_reprD hg hr) (by rfl) m1 (by decide +kernel) (pa_cons (pv 1) pa_nil)) (nomark _))), ?_⟩
    refine ⟨.ref a, rfl, a, d, rfl, h1, hd, .ref b, rfl, b, d, rfl, h2, hd, rfl, ?_⟩
    rw [decide_eq_true rfl]
    exact q
/-! ### _law_pick -/
def spPick : Sp := fun vs H Q _ => ∃ (p l : Addr) (ns : List Int), vs = [.ref p, .ref l] ∧ PenAt H p ∧ l ≠ p ∧ H l = some (.lst (ns.map V.int)) ∧ 0 < ns.length ∧ ns.length < 1000000 ∧
  ∀ H' n, n ∈ ns → PenAt H' p → But p H H' → Q (.int n) H'
theorem ok_pick {f f1 : Addr} {fd fd1 : FuncData} {k : Nat} (F : Fun K "_law_pick" "_law_pick" s_l_pick f fd)
    (G1 : FnOk P w K mg base CX0 k f1 fd1 ["_law_pen_here", "_law_many"] spDraw) (kp1 : PySem.W.keepIn K (.ref f1) = true) (b1 : Binds K fd1 ["_law_pen_here", "_law_many"] []) (g1 : mg "_law_draw" = some (.ref f1))
    (m1 : mg "len" = none) : FnOk P w K mg base CX0 (k + 1) f fd ["_law_pen_here", "_law_some"] spPick := by
  refine F.ok sc_l_pick (fun vs H Q E h => ?_) (fun cdv A outer s H vs Q E hr h => ?_)
  · obtain ⟨p, l, ns, rfl, _⟩ := h; rfl
  · obtain ⟨p, l, ns, rfl, hp, nlp, hl, z0, z1, q⟩ := h
    refine ⟨_, pss_one (ps_ret (pe_ix ix_list (pv 1) (pe_call G1 hr (by rfl) g1 kp1 b1 .nil pass0 (pa_cons (pv 0) (pa_cons (pe_callB call_len_seq (by rfl) m1 PySem.boot_len (pa_cons (pv 1) pa_nil)) pa_nil))) (fun _ _ => rfl))), ?_⟩
    have len : (ns.map V.int).length = ns.length := List.length_map _
    refine ⟨.ref l, rfl, .ref p, rfl, .ref l, rfl, l, _, rfl, .inl (.of hl), p, _, rfl, hp, by rw [len]; omega, by rw [len]; omega, fun H' r r0 r1 p' b' => ?_⟩
    rw [len] at r1
    obtain ⟨j, rfl⟩ : ∃ j : Nat, r = j := ⟨r.toNat, by omega⟩
    have hj : j < ns.length := by omega
    refine ⟨l, _, (j : Int), .int ns[j], rfl, rfl, .of (b' _ _ nlp hl), atI_nat ?_, q H' ns[j] (List.getElem_mem hj) p' b'⟩
    rw [List.getElem?_map, List.getElem?_eq_getElem hj]
    rfl
end
end Sg

set_option Elab.async false
set_option linter.all false
set_option maxRecDepth 100000
set_option maxHeartbeats 4000000
namespace Sg
open PySem PySem.Spec PyProof.Rows L2 StX
section
variable {P : Program} {w : World} {K : PySem.W.Frag} {mg : Str → Option Value} {base : Heap}
/-! ### _law_long -/
def spLong (K : PySem.W.Frag) : Sp := fun vs H Q _ => ∃ (p : Addr) (m : Int), vs = [.ref p, .int m] ∧ PenAt H p ∧ 1 ≤ m ∧ m ≤ 60 ∧
  ∀ H' t ws, PenAt H' p → But p H H' → H t = none → Tp K H' (.ref t) (.tuple (tDs ws)) → GoodL ws → Q (.ref t) H'
abbrev longN : List Str := ["_law_pen_here", "_law_most", "_law_found", "_law_stations", "_law_first", "_law_at", "_law_rare", "_law_items", "_law_tick", "_law_station", "_law_end"]
theorem ok_long {f f1 f2 : Addr} {fd fd1 fd2 : FuncData} {k : Nat} (F : Fun K "_law_long" "_law_long" s_l_long f fd)
    (G1 : FnOk P w K mg base CX0 k f1 fd1 ["_law_pen_here", "_law_many"] spDraw) (kp1 : PySem.W.keepIn K (.ref f1) = true) (b1 : Binds K fd1 ["_law_pen_here", "_law_many"] []) (g1 : mg "_law_draw" = some (.ref f1))
    (G2 : FnOk P w K mg base CX0 k f2 fd2 ["_law_pen_here", "_law_some"] spPick) (kp2 : PySem.W.keepIn K (.ref f2) = true) (b2 : Binds K fd2 ["_law_pen_here", "_law_some"] []) (g2 : mg "_law_pick" = some (.ref f2))
    (m1 : mg "range" = none) (m2 : mg "tuple" = none) : FnOk P w K mg base CX0 (k + 1) f fd ["_law_pen_here", "_law_most"] (spLong K) := by
  refine F.ok sc_l_long (fun vs H Q E h => ?_) (fun cdv A outer s H vs Q E hr h => ?_)
  · obtain ⟨p, m, rfl, _⟩ := h; rfl
  · obtain ⟨p, m, rfl, hp, hm1, hm2, q⟩ := h
    refine ⟨_, pss_cons (ps_par (i := 2) (j := 3) (by rfl) sc_l_long.nd rfl rfl (by decide) rfl rfl (pa_cons (pe_lst pa_nil)
          (pa_cons (pe_call G2 hr (by rfl) g2 kp2 b2 .nil pass0 (pa_cons (pv 0) (pa_cons (pe_lst (pa_cons pe_int (pa_cons pe_int (pa_cons pe_int (pa_cons pe_int pa_nil))))) pa_nil))) pa_nil)) (by rfl))
      (pss_cons (ps_set (i := 4) sc_l_long.nd rfl (.inl rfl) (pe_call G1 hr (by rfl) g1 kp1 b1 .nil pass0 (pa_cons (pv 0) (pa_cons pe_int pa_nil))))
      (pss_cons (ps_for PassesOwn.never rfl (pi_range1 (by rfl) m1 (pa_cons (pe_call G2 hr (by rfl) g2 kp2 b2 .nil pass0 (pa_cons (pv 0) (pa_cons (pe_lst (pa_cons pe_int (pa_cons pe_int (pa_cons pe_int pa_nil)))) pa_nil))) pa_nil)) (pg_name (i := 5) sc_l_long.nd rfl (.inl rfl))
        (pss_cons (ps_set (i := 6) sc_l_long.nd rfl (.inl rfl) (pe_call G2 hr (by rfl) g2 kp2 b2 .nil pass0 (pa_cons (pv 0) (pa_cons (pe_lst (pa_cons pe_int (pa_cons pe_int (pa_cons pe_int pa_nil)))) pa_nil))))
        (pss_cons (ps_set (i := 7) sc_l_long.nd rfl (.inl rfl) (pe_lst pa_nil))
        (pss_cons (ps_for PassesOwn.never rfl (pi_range1 (by rfl) m1 (pa_cons (pe_op op_add pe_int (pe_call G1 hr (by rfl) g1 kp1 b1 .nil pass0 (pa_cons (pv 0) (pa_cons (pv 1) pa_nil)))) pa_nil)) (pg_name (i := 8) sc_l_long.nd rfl (.inl rfl))
          (pss_cons (ps_set (i := 9) sc_l_long.nd rfl (.inl rfl) (pe_op op_mod (pe_op op_add (pv 4) (pe_call G1 hr (by rfl) g1 kp1 b1 .nil pass0 (pa_cons (pv 0) (pa_cons (pv 3) pa_nil)))) pe_int))
          (pss_one (ps_expr (pe_bm PySem.F.plainAttrs_list PySem.F.slot_list_append PySem.F.type_list_append mt_append (pv 7)
            (pa_cons (pe_ifExp (pt_cmpR op_eq (pe_call G1 hr (by rfl) g1 kp1 b1 .nil pass0 (pa_cons (pv 0) (pa_cons (pv 6) pa_nil))) pe_int (nomark _)) (pv 9) (pe_un un_neg pe_int)) pa_nil))))))
        (pss_cons (ps_for PassesOwn.never rfl (pi_tup (pe_tup (pa_cons pe_int (pa_cons (pe_un un_neg pe_int) pa_nil)))) (pg_name (i := 10) sc_l_long.nd rfl (.inl rfl))
          (pss_one (ps_if (pt_cmpR op_eq (pe_ix ix_list (pv 7) (pv 10) (fun _ _ => rfl)) (pe_un un_neg pe_int) (nomark _))
            (pss_one (ps_asg (pv 4) (pg_sub (pv 7) (pv 10) set_list))) pss_nil)))
        (pss_one (ps_expr (pe_bm PySem.F.plainAttrs_list PySem.F.slot_list_append PySem.F.type_list_append mt_append (pv 2)
            (pa_cons (pe_callTy call_tuple_of (by rfl) m2 (by decide +kernel) (pa_cons (pv 7) pa_nil)) pa_nil)))))))))
      (pss_one (ps_ret (pe_callTy call_tuple_of (by rfl) m2 (by decide +kernel) (pa_cons (pv 2) pa_nil)))))), ?_⟩
    refine ⟨by show 0 ≤ sizeLine; decide, fun F0 nF => ?_⟩
    have eF : Same H (upd H F0 (.lst [])) := same_new nF
    have hF0 : (upd H F0 (.lst [])) F0 = some (.lst []) := upd_same
    have pF := hp.new (o := .lst []) nF
    have npF : F0 ≠ p := (hp.ne nF).symm
    generalize upd H F0 (.lst []) = H1 at eF hF0 pF ⊢
    refine ⟨.ref p, rfl, by show 4 ≤ sizeLine; decide, fun l nl => ⟨p, l, [1, 2, 4, 10], rfl, pF.new nl, (pF.ne nl).symm, upd_same, by decide, by decide, fun H2 st hst p2 b2' => ?_⟩⟩
    have c2 : But p H1 H2 := (But.of (same_new nl)).trans b2'
    clear b2'
    refine ⟨_, _, rfl, ?_⟩
    refine ⟨.ref p, rfl, p, 10, rfl, p2, by decide, by decide, fun H3 fi fi0 fi1 p3 b3 => ?_⟩
    have c3 := c2.trans b3
    have hst1 : 1 ≤ st ∧ st ≤ 10 := by
      rcases List.mem_cons.mp hst with rfl | hst
      · decide
      rcases List.mem_cons.mp hst with rfl | hst
      · decide
      rcases List.mem_cons.mp hst with rfl | hst
      · decide
      rw [List.mem_singleton.mp hst]; decide
    refine ⟨.ref p, rfl, by show 3 ≤ sizeLine; decide, fun l2 nl2 => ⟨p, l2, [1, 2, 3], rfl, p3.new nl2, (p3.ne nl2).symm, upd_same, by decide, by decide, fun H4 many hmany p4 b4 => ?_⟩⟩
    have c4 : But p H1 H4 := c3.trans ((But.of (same_new nl2)).trans b4)
    clear b4 b3 c3 c2 p3 p2
    have hm3 : 1 ≤ many ∧ many ≤ 3 := by
      rcases List.mem_cons.mp hmany with rfl | h
      · decide
      rcases List.mem_cons.mp h with rfl | h
      · decide
      rw [List.mem_singleton.mp h]; decide
    refine ⟨many, rfl, by omega, by omega, ?_⟩
    refine for_range (lo := 0) (n := many.toNat) (fun i σ H' => ∃ v5 v6 v7 v8 v9 v10, σ = [some (.ref p), some (.int m), some (.ref F0), some (.int st), some (.int fi), v5, v6, v7, v8, v9, v10] ∧ PenAt H' p ∧ But p H H' ∧
        ∃ us ws, H' F0 = some (.lst us) ∧ TpAll K H' us (tDs ws) ∧ ws.length = i ∧ ∀ w ∈ ws, IsWork w) ⟨_, _, _, _, _, _, rfl, p4, (But.of eF).trans c4, [], [], c4 _ _ npF hF0, .no, rfl, fun w hw => (nomatch hw)⟩ ?_ ?_
    · rintro i σ H5 hi ⟨v5, v6, v7, v8, v9, v10, rfl, p5, c5, us, ws, hF5, hT5, lw, hw5⟩
      refine ⟨.ref p, rfl, by show 3 ≤ sizeLine; decide, fun l3 nl3 => ⟨p, l3, [1, 2, 5], rfl, p5.new nl3, (p5.ne nl3).symm, upd_same, by decide, by decide, fun H6 ra hra p6 b6 => ?_⟩⟩
      have c56 : But p H5 H6 := (But.of (same_new nl3)).trans b6
      clear b6
      have hra1 : 0 < ra ∧ ra < 1000000 := by
        rcases List.mem_cons.mp hra with rfl | h
        · decide
        rcases List.mem_cons.mp h with rfl | h
        · decide
        rw [List.mem_singleton.mp h]; decide
      refine ⟨by show 0 ≤ sizeLine; decide, fun I nI => ?_⟩
      have e7 : Same H6 (upd H6 I (.lst [])) := same_new nI
      have hI7 : (upd H6 I (.lst [])) I = some (.lst []) := upd_same
      have p7 := p6.new (o := .lst []) nI
      have nIp : I ≠ p := (p6.ne nI).symm
      have hF6 := c56 _ _ npF hF5
      have nIF : F0 ≠ I := ne_of_none hF6 nI
      have nIH : H I = none := hp.free p6 (c5.trans c56) nI
      generalize upd H6 I (.lst []) = H7 at e7 hI7 p7 ⊢
      refine ⟨.ref p, rfl, .int m, rfl, p, m, rfl, p7, by omega, by omega, fun H8 r r0 r1 p8 b8 => ⟨1, r, rfl, rfl, 1 + r, rfl, by omega, by omega, ?_⟩⟩
      have hT8 : TpAll K H8 us (tDs ws) := ((hT5.stay (.pen c56 p5)).stay (.of e7)).stay (.pen b8 p7)
      have c8 : But p H H8 := (c5.trans c56).trans ((But.of e7).trans b8)
      have hF8 := b8 _ _ npF (e7 _ _ hF6)
      have hI8 := b8 _ _ nIp hI7
      refine for_range (lo := 0) (n := (1 + r).toNat) (fun j σ H' => ∃ v8 v9 v10, σ = [some (.ref p), some (.int m), some (.ref F0), some (.int st), some (.int fi), some (.int (0 + i)), some (.int ra), some (.ref I), v8, v9, v10] ∧ PenAt H' p ∧ But p H H' ∧
        H' F0 = some (.lst us) ∧ TpAll K H' us (tDs ws) ∧ ∃ ns : List Int, H' I = some (.lst (ns.map V.int)) ∧ ns.length = j ∧ ∀ x ∈ ns, -1 ≤ x ∧ x ≤ 9) ⟨_, _, _, rfl, p8, c8, hF8, hT8, [], hI8, rfl, fun x hx => (nomatch hx)⟩ ?_ ?_
      · rintro j σ H9 hj ⟨v8, v9, v10, rfl, p9, c9, hF9, hT9, ns, hI9, ln, hns⟩
        refine ⟨.int fi, rfl, .ref p, rfl, .int st, rfl, p, st, rfl, p9, by omega, by omega, fun H10 r' r'0 r'1 p10 b10 => ⟨fi, r', rfl, rfl, fi + r', 10, rfl, rfl, by show (0 : Int) < 10; decide, ?_⟩⟩
        have hI10 := b10 _ _ nIp hI9
        refine ⟨.ref I, rfl, .inl ⟨rfl, _, .of hI10⟩, ?_⟩
        refine ⟨.ref p, rfl, .int ra, rfl, p, ra, rfl, p10, hra1.1, hra1.2, fun H11 r'' _ _ p11 b11 => ?_⟩
        have hI11 := b11 _ _ nIp hI10
        have hT11 : TpAll K H11 us (tDs ws) := (hT9.stay (.pen b10 p9)).stay (.pen b11 p10)
        have fin : ∀ z : Int, -1 ≤ z → z ≤ 9 → PenAt (L2.upd H11 I (.lst (ns.map V.int ++ [V.int z]))) p ∧ But p H (L2.upd H11 I (.lst (ns.map V.int ++ [V.int z]))) ∧ (L2.upd H11 I (.lst (ns.map V.int ++ [V.int z]))) F0 = some (.lst us) ∧
            TpAll K (L2.upd H11 I (.lst (ns.map V.int ++ [V.int z]))) us (tDs ws) ∧ ∃ ns' : List Int, (L2.upd H11 I (.lst (ns.map V.int ++ [V.int z]))) I = some (.lst (ns'.map V.int)) ∧ ns'.length = j + 1 ∧ ∀ x ∈ ns', -1 ≤ x ∧ x ≤ 9 := by
          intro z z1 z2
          refine ⟨p11.upd nIp.symm, fun b o n e => ?_, ?_, hT11.stayT (fun _ _ z => tup_upd hI11 (fun _ z => nomatch z) (fun _ _ z => nomatch z) z), ns ++ [z], ?_, ?_, fun x hx => ?_⟩
          · rw [upd_ne (ne_of_none e nIH)]
            exact b11 _ _ n (b10 _ _ n (c9 _ _ n e))
          · rw [upd_ne nIF]
            exact b11 _ _ npF (b10 _ _ npF hF9)
          · rw [upd_same, List.map_append]
            rfl
          · rw [List.length_append]
            show ns.length + 1 = j + 1
            omega
          · rcases List.mem_append.mp hx with h | h
            · exact hns x h
            · rw [List.mem_singleton.mp h]
              exact ⟨z1, z2⟩
        have lns : (ns.map V.int).length < sizeLine := by
          rw [List.length_map]
          exact small1000 (by omega)
        refine ⟨rfl, _, rfl, ite2 (fun _ => ?_) (fun _ => ?_)⟩
        · exact ⟨.int ((fi + r') % 10), rfl, I, _, _, rfl, rfl, hI11, lns, _, _, _, rfl, fin _ (by omega) (by omega)⟩
        · exact ⟨1, rfl, I, _, _, rfl, rfl, hI11, lns, _, _, _, rfl, fin (-1) (by decide) (by decide)⟩
      · rintro σ H9 ⟨v8, v9, v10, rfl, p9, c9, hF9, hT9, ns, hI9, ln, hns⟩
        have ln1 : 1 ≤ ns.length := by omega
        have ln2 : ns.length ≤ 60 := by omega
        refine ⟨1, rfl, by show 2 ≤ sizeLine; decide, fun W nW => ?_⟩
        have eW : Same H9 (L2.upd H9 W (.tup [V.int 0, .int (-1)])) := same_new nW
        have hW0 : (L2.upd H9 W (.tup [V.int 0, .int (-1)])) W = some (.tup [V.int 0, .int (-1)]) := upd_same
        have pW := p9.new (o := .tup [V.int 0, .int (-1)]) nW
        generalize L2.upd H9 W (.tup [V.int 0, .int (-1)]) = H10 at eW hW0 pW ⊢
        refine ⟨W, rfl, ⟨_, .of hW0⟩, ?_⟩
        refine for_tup (xs := [V.int 0, .int (-1)]) (fun j σ H' => ∃ v10, σ = [some (.ref p), some (.int m), some (.ref F0), some (.int st), some (.int fi), some (.int (0 + i)), some (.int ra), some (.ref I), v8, v9, v10] ∧ PenAt H' p ∧ But p H H' ∧
            H' F0 = some (.lst us) ∧ TpAll K H' us (tDs ws) ∧ H' W = some (.tup [V.int 0, .int (-1)]) ∧ ∃ ns : List Int, H' I = some (.lst (ns.map V.int)) ∧ 1 ≤ ns.length ∧ ns.length ≤ 60 ∧ (∀ x ∈ ns, -1 ≤ x ∧ x ≤ 9) ∧
            (1 ≤ j → ∀ x, ns[0]? = some x → x ≠ -1) ∧ (2 ≤ j → ∀ x, ns[ns.length - 1]? = some x → x ≠ -1))
          ⟨_, rfl, pW, c9.trans (.of eW), eW _ _ hF9, hT9.stay (.of eW), hW0, ns, eW _ _ hI9, ln1, ln2, hns, fun z => absurd z (by decide), fun z => absurd z (by decide)⟩ (fun j σ H' _ h => ?_) ?_ ?_
        · obtain ⟨_, _, _, _, _, _, h, _⟩ := h
          exact .of h
        · rintro j x σ H11 hx ⟨v10', rfl, p11, c11, hF11, hT11, hW11, ms, hI11, lm1, lm2, hms, hh, ht⟩
          have nIW : I ≠ W := ne_of hI11 hW11 (fun z => nomatch z)
          have lms : (ms.map V.int).length = ms.length := List.length_map _
          obtain ⟨e, j0, hj0, rfl, hix, hcase⟩ : ∃ (e : Int) (j0 : Nat), j0 < ms.length ∧ x = .int e ∧ ixN (ms.map V.int).length e = some j0 ∧ ((j = 0 ∧ j0 = 0) ∨ (j = 1 ∧ j0 = ms.length - 1)) := by
            match j, hx with
            | 0, hx =>
              cases hx
              refine ⟨0, 0, by omega, rfl, ?_, .inl ⟨rfl, rfl⟩⟩
              unfold ixN
              rw [if_pos (by decide), if_pos (by rw [lms]; omega)]
              rfl
            | 1, hx =>
              cases hx
              refine ⟨-1, ms.length - 1, by omega, rfl, ?_, .inr ⟨rfl, rfl⟩⟩
              unfold ixN
              rw [lms, if_neg (by decide), if_pos (by omega)]
              congr 1
              omega
          have hat : atI (ms.map V.int) e = some (.int ms[j0]) := by
            unfold atI
            rw [hix]
            show (ms.map V.int)[j0]? = _
            rw [List.getElem?_map, List.getElem?_eq_getElem hj0]
            rfl
          refine ⟨.ref I, rfl, .int e, rfl, I, _, e, .int ms[j0], rfl, rfl, .of hI11, hat, 1, rfl, rfl, _, rfl, ite2 (fun eq => ?_) (fun ne => ?_)⟩
          · refine ⟨.int fi, rfl, .ref I, rfl, .int e, rfl, I, _, e, j0, rfl, rfl, hI11, hix, ?_⟩
            rw [show (ms.map V.int).set j0 (.int fi) = (ms.set j0 fi).map V.int from by rw [List.map_set]]
            refine ⟨_, rfl, p11.upd nIp.symm, fun b o n e => ?_, ?_, hT11.stayT (fun _ _ z => tup_upd hI11 (fun _ z => nomatch z) (fun _ _ z => nomatch z) z), ?_, ms.set j0 fi, upd_same, by rw [List.length_set]; exact lm1, by rw [List.length_set]; exact lm2, fun x hx => ?_, fun _ x hx => ?_, fun hj x hx => ?_⟩
            · rw [upd_ne (ne_of_none e nIH)]
              exact c11 _ _ n e
            · rw [upd_ne nIF]
              exact hF11
            · rw [upd_ne nIW.symm]
              exact hW11
            · rcases List.mem_or_eq_of_mem_set hx with z | z
              · exact hms x z
              · omega
            · rcases set_at hx with h | ⟨h1, h2⟩
              · omega
              · refine hh ?_ x h2
                omega
            · rw [List.length_set] at hx
              rcases set_at hx with h | ⟨h1, h2⟩
              · omega
              · omega
          · have hne : ms[j0] ≠ -1 := fun z => ne (decide_eq_true (by rw [z]))
            refine ⟨_, rfl, p11, c11, hF11, hT11, hW11, ms, hI11, lm1, lm2, hms, fun _ x hx => ?_, fun hj x hx => ?_⟩
            · rcases hcase with ⟨_, rfl⟩ | ⟨hj1, _⟩
              · rw [List.getElem?_eq_getElem hj0] at hx
                rw [← Option.some.inj hx]
                exact hne
              · exact hh (by omega) x hx
            · rcases hcase with ⟨hj1, _⟩ | ⟨_, rfl⟩
              · omega
              · rw [List.getElem?_eq_getElem hj0] at hx
                rw [← Option.some.inj hx]
                exact hne
        · rintro σ H11 ⟨v10', rfl, p11, c11, hF11, hT11, hW11, ms, hI11, lm1, lm2, hms, hh, ht⟩
          refine ⟨.ref F0, rfl, .inl ⟨rfl, _, .of hF11⟩, .ref I, rfl, I, _, rfl, .inl ⟨.of hI11, fun t nt => ?_⟩⟩
          have et : Same H11 (L2.upd H11 t (.tup (ms.map V.int))) := same_new nt
          have ht0 : (L2.upd H11 t (.tup (ms.map V.int))) t = some (.tup (ms.map V.int)) := upd_same
          have pt := p11.new (o := .tup (ms.map V.int)) nt
          generalize L2.upd H11 t (.tup (ms.map V.int)) = H12 at et ht0 pt ⊢
          have hF12 := et _ _ hF11
          have wms : IsWork ms := ⟨lm1, lm2, hms, hh (by decide), ht (by decide)⟩
          have lus : us.length < sizeLine := by
            have := hT11.len
            rw [List.length_map] at this
            exact small1000 (by omega)
          have nF0H : H F0 = none := nF
          refine ⟨F0, _, _, rfl, rfl, hF12, lus, ?_⟩
          refine ⟨_, _, _, _, _, _, rfl, pt.upd npF.symm, fun b o n e => ?_, us ++ [.ref t], ws ++ [ms], upd_same, ?_, ?_, fun w hw => ?_⟩
          · rw [upd_ne (ne_of_none e nF0H)]
            exact et _ _ (c11 _ _ n e)
          · rw [show tDs (ws ++ [ms]) = tDs ws ++ [tD ms] from List.map_append]
            refine TpAll.stayT (fun _ _ z => tup_upd hF12 (fun _ z => nomatch z) (fun _ _ z => nomatch z) z) ((hT11.stay (.of et)).add (.on (.ofInts (.of ht0)) .no))
          · rw [List.length_append, lw]
            rfl
          · rcases List.mem_append.mp hw with h | h
            · exact hw5 w h
            · rw [List.mem_singleton.mp h]
              exact wms
    · rintro σ H5 ⟨v5, v6, v7, v8, v9, v10, rfl, p5, c5, us, ws, hF5, hT5, lw, hw5⟩
      refine ⟨.ref F0, rfl, F0, us, rfl, .inl ⟨.of hF5, fun t nt => ?_⟩⟩
      exact q _ t ws (p5.new nt) (c5.trans (.of (same_new nt))) (hp.free p5 c5 nt) (Tp.new nt hT5) ⟨by omega, by omega, hw5⟩
end
end Sg

set_option Elab.async false
set_option linter.all false
set_option maxRecDepth 100000
set_option maxHeartbeats 4000000
namespace Sg
open PySem PySem.Spec PyProof.Rows L2 StX
section
variable {P : Program} {w : World} {K : PySem.W.Frag} {mg : Str → Option Value} {base : Heap}
/-! ### _law_names -/
def spNames : Sp := fun vs H Q _ => ∃ (p : Addr), vs = [.ref p] ∧ PenAt H p ∧
  ∀ H' q (ns : List Int), PenAt H' p → But p H H' → H q = none → q ≠ p → H' q = some (.lst (ns.map V.int)) → ns.length = 10 → (∀ x ∈ ns, 0 ≤ x ∧ x ≤ 9) → Q (.ref q) H'
theorem ok_names {f f1 f2 : Addr} {fd fd1 fd2 : FuncData} {k : Nat} (F : Fun K "_law_names" "_law_names" s_l_names f fd)
    (G1 : FnOk P w K mg base CX0 k f1 fd1 ["_law_pen_here", "_law_many"] spDraw) (kp1 : PySem.W.keepIn K (.ref f1) = true) (b1 : Binds K fd1 ["_law_pen_here", "_law_many"] []) (g1 : mg "_law_draw" = some (.ref f1))
    (G2 : FnOk P w K mg base CX0 k f2 fd2 ["_law_pen_here", "_law_some"] spPick) (kp2 : PySem.W.keepIn K (.ref f2) = true) (b2 : Binds K fd2 ["_law_pen_here", "_law_some"] []) (g2 : mg "_law_pick" = some (.ref f2))
    (m1 : mg "range" = none) : FnOk P w K mg base CX0 (k + 1) f fd ["_law_pen_here"] spNames := by
  refine F.ok sc_l_names (fun vs H Q E h => ?_) (fun cdv A outer s H vs Q E hr h => ?_)
  · obtain ⟨p, rfl, _⟩ := h; rfl
  · obtain ⟨p, rfl, hp, q⟩ := h
    refine ⟨_, pss_cons (ps_asg (pe_tup (pa_cons (pe_call G1 hr (by rfl) g1 kp1 b1 .nil pass0 (pa_cons (pv 0) (pa_cons pe_int pa_nil)))
          (pa_cons (pe_call G2 hr (by rfl) g2 kp2 b2 .nil pass0 (pa_cons (pv 0) (pa_cons (pe_lst (pa_cons pe_int (pa_cons pe_int (pa_cons pe_int (pa_cons pe_int pa_nil))))) pa_nil))) pa_nil)))
        (pg_tup rfl (pgs_cons (pg_name (i := 1) sc_l_names.nd rfl (.inr rfl)) (pgs_cons (pg_name (i := 2) sc_l_names.nd rfl (.inr rfl)) pgs_nil))))
      (pss_one (ps_ret (pe_lc (own := [("_law_at", 3)]) (g := gName 3) (tt := tYes) rfl sc_l_names.nd (pi_range1 (by rfl) m1 (pa_cons pe_int pa_nil)) (blkOk_by (N := ["_law_pen_here", "_law_first", "_law_step", "_law_at"]) (sc := defScope s_l_names) (by decide +kernel))
        (fun _ _ _ _ _ => pg_name (i := 3) sc_l_names.nd rfl (Or.inl rfl)) (fun _ _ _ _ _ => pts_nil)
        (fun _ _ _ _ _ => pe_op op_mod (pe_op op_add (pv 1) (pe_op op_mul (pv 2) (pv 3))) pe_int)))), ?_⟩
    refine ⟨.ref p, rfl, p, 10, rfl, hp, by decide, by decide, fun H1 fi fi0 fi1 p1 b1' => ?_⟩
    refine ⟨.ref p, rfl, by show 4 ≤ sizeLine; decide, fun l nl => ⟨p, l, [1, 3, 7, 9], rfl, p1.new nl, (p1.ne nl).symm, upd_same, by decide, by decide, fun H2 st hst p2 b2' => ?_⟩⟩
    have c2 : But p H H2 := (b1'.trans (.of (same_new nl))).trans b2'
    have hst1 : 1 ≤ st ∧ st ≤ 9 := by
      have h4 : ∀ z ∈ ([1, 3, 7, 9] : List Int), 1 ≤ z ∧ z ≤ 9 := by decide
      exact h4 st hst
    refine ⟨by show 2 ≤ sizeLine; decide, fun T nT => ⟨T, _, rfl, .of upd_same, rfl, _, _, rfl, _, _, rfl, rfl, ?_⟩⟩
    have c3 : But p H (upd H2 T (.tup [V.int fi, .int st])) := c2.trans (.of (same_new nT))
    have p3 := p2.new (o := .tup [V.int fi, .int st]) nT
    generalize upd H2 T (.tup [V.int fi, .int st]) = H3 at c3 p3 ⊢
    refine ⟨10, rfl, by decide, by decide, fun D hD => ?_⟩
    have nDp : D ≠ p := (p3.ne hD).symm
    have nDH : H D = none := hp.free p3 c3 hD
    refine lc_range (lo := 0) (n := 10) (fun i H' => PenAt H' p ∧ But p H H' ∧ ∃ ns : List Int, H' D = some (.lst (ns.map V.int)) ∧ ns.length = i ∧ ∀ x ∈ ns, 0 ≤ x ∧ x ≤ 9) ⟨p3.new hD, c3.trans (.of (same_new hD)), [], upd_same, rfl, fun x hx => nomatch hx⟩ (fun i H' hi h => ?_) (fun H' h => ?_)
    · obtain ⟨p4, c4, ns, hD4, l4, i4⟩ := h
      refine ⟨rfl, .int fi, rfl, .int st, rfl, .int (0 + (i : Nat)), rfl, st, 0 + (i : Nat), rfl, rfl, .inl ⟨by omega, by omega⟩, _, _, rfl, rfl, _, 10, rfl, rfl, by show (0 : Int) < 10; decide, _, hD4, ?_, p4.upd nDp.symm, fun b o nb e => ?_, ns ++ [(fi + st * (0 + (i : Int))) % 10], ?_, ?_, fun x hx => ?_⟩
      · rw [List.length_map]; exact small1000 (by omega)
      · rw [upd_ne (ne_of_none e nDH)]
        exact c4 _ _ nb e
      · rw [upd_same, List.map_append]; rfl
      · rw [List.length_append]; show ns.length + 1 = _; omega
      · rcases List.mem_append.mp hx with h | h
        · exact i4 x h
        · rw [List.mem_singleton.mp h]
          have h1 := Int.emod_nonneg (fi + st * (0 + (i : Int))) (show (10 : Int) ≠ 0 by decide)
          have h2 := Int.emod_lt_of_pos (fi + st * (0 + (i : Int))) (show (0 : Int) < 10 by decide)
          exact ⟨h1, Int.le_of_lt_add_one h2⟩
    · obtain ⟨p4, c4, ns, hD4, l4, i4⟩ := h
      exact q _ D ns p4 c4 nDH nDp hD4 l4 i4
/-! ### _law_work -/
def spLWork : Sp := fun vs H Q _ => ∃ (p l : Addr) (nn : List Int) (far bl : Int), vs = [.ref p, .ref l, .int far, .int bl] ∧ PenAt H p ∧ l ≠ p ∧ H l = some (.lst (nn.map V.int)) ∧ nn.length = 10 ∧ (∀ x ∈ nn, 0 ≤ x ∧ x ≤ 9) ∧ 0 ≤ far ∧ far ≤ 19 ∧ 1 ≤ bl ∧ bl ≤ 3 ∧
  ∀ H' t (ns : List Int), PenAt H' p → But p H H' → H t = none → H' t = some (.tup (ns.map V.int)) → IsWork ns → Q (.ref t) H'
theorem ok_lwork {f f1 f2 : Addr} {fd fd1 fd2 : FuncData} {k : Nat} (F : Fun K "_law_work" "_law_work" s_l_work f fd)
    (G1 : FnOk P w K mg base CX0 k f1 fd1 ["_law_pen_here", "_law_many"] spDraw) (kp1 : PySem.W.keepIn K (.ref f1) = true) (b1 : Binds K fd1 ["_law_pen_here", "_law_many"] []) (g1 : mg "_law_draw" = some (.ref f1))
    (G2 : FnOk P w K mg base CX0 k f2 fd2 ["_law_pen_here", "_law_some"] spPick) (kp2 : PySem.W.keepIn K (.ref f2) = true) (b2 : Binds K fd2 ["_law_pen_here", "_law_some"] []) (g2 : mg "_law_pick" = some (.ref f2))
    (m1 : mg "range" = none) (m2 : mg "tuple" = none) (m3 : mg "len" = none) : FnOk P w K mg base CX0 (k + 1) f fd ["_law_pen_here", "_law_names_here", "_law_far", "_law_blocks"] spLWork := by
  refine F.ok sc_l_work (fun vs H Q E h => ?_) (fun cdv A outer s H vs Q E hr h => ?_)
  · obtain ⟨p, l, nn, far, bl, rfl, _⟩ := h; rfl
  · obtain ⟨p, l, nn, far, bl, rfl, hp, nlp, hl, lnn, inn, hf0, hf1, hb0, hb1, q⟩ := h
    refine ⟨_, pss_cons (ps_par (i := 4) (j := 5) (by rfl) sc_l_work.nd rfl rfl (by decide) rfl rfl (pa_cons (pe_op op_add pe_int (pe_call G1 hr (by rfl) g1 kp1 b1 .nil pass0 (pa_cons (pv 0) (pa_cons pe_int pa_nil))))
          (pa_cons (pe_call G2 hr (by rfl) g2 kp2 b2 .nil pass0 (pa_cons (pv 0) (pa_cons (pe_lst (pa_cons pe_int (pa_cons pe_int (pa_cons pe_int (pa_cons pe_int pa_nil))))) pa_nil))) pa_nil)) (by rfl))
      (pss_cons (ps_set (i := 6) sc_l_work.nd rfl (.inl rfl) (pe_lst pa_nil))
      (pss_cons (ps_for PassesOwn.never rfl (pi_range1 (by rfl) m1 (pa_cons (pe_op op_add pe_int (pe_call G1 hr (by rfl) g1 kp1 b1 .nil pass0 (pa_cons (pv 0) (pa_cons (pe_op op_mul (pv 3) (pe_op op_add (pv 2) pe_int)) pa_nil)))) pa_nil)) (pg_name (i := 7) sc_l_work.nd rfl (.inl rfl))
        (pss_cons (ps_set (i := 8) sc_l_work.nd rfl (.inl rfl) (pe_ix ix_list (pv 1) (pe_op op_add (pe_op op_mul pe_int (pe_op op_fdiv (pv 7) (pe_op op_add (pv 2) pe_int))) (pe_call G1 hr (by rfl) g1 kp1 b1 .nil pass0 (pa_cons (pv 0) (pa_cons (pv 4) pa_nil)))) (fun _ _ => rfl)))
        (pss_one (ps_expr (pe_bm PySem.F.plainAttrs_list PySem.F.slot_list_append PySem.F.type_list_append mt_append (pv 6)
          (pa_cons (pe_ifExp (pt_cmpR op_eq (pe_call G1 hr (by rfl) g1 kp1 b1 .nil pass0 (pa_cons (pv 0) (pa_cons (pv 5) pa_nil))) pe_int (nomark _)) (pv 8) (pe_un un_neg pe_int)) pa_nil))))))
      (pss_cons (ps_if (pt_cmpR op_eq (pe_ix ix_list (pv 6) pe_int (fun _ _ => rfl)) (pe_un un_neg pe_int) (nomark _))
        (pss_one (ps_asg (pe_ix ix_list (pv 1) pe_int (fun _ _ => rfl)) (pg_sub (pv 6) pe_int set_list))) pss_nil)
      (pss_cons (ps_if (pt_cmpR op_eq (pe_ix ix_list (pv 6) (pe_un un_neg pe_int) (fun _ _ => rfl)) (pe_un un_neg pe_int) (nomark _))
        (pss_one (ps_asg (pe_ix ix_list (pv 1) (pe_op op_mul pe_int (pe_op op_fdiv (pe_op op_sub (pe_callB call_len_seq (by rfl) m3 PySem.boot_len (pa_cons (pv 6) pa_nil)) pe_int) (pe_op op_add (pv 2) pe_int))) (fun _ _ => rfl)) (pg_sub (pv 6) (pe_un un_neg pe_int) set_list))) pss_nil)
      (pss_one (ps_ret (pe_callTy call_tuple_of (by rfl) m2 (by decide +kernel) (pa_cons (pv 6) pa_nil)))))))), ?_⟩
    refine ⟨.ref p, rfl, p, 3, rfl, hp, by decide, by decide, fun H1 ma ma0 ma1 p1 b1' => ⟨1, ma, rfl, rfl, ?_⟩⟩
    refine ⟨.ref p, rfl, by show 4 ≤ sizeLine; decide, fun l2 nl2 => ⟨p, l2, [1, 1, 2, 4], rfl, p1.new nl2, (p1.ne nl2).symm, upd_same, by decide, by decide, fun H2 ra hra p2 b2' => ⟨_, _, rfl, ?_⟩⟩⟩
    have c2 : But p H H2 := (b1'.trans (.of (same_new nl2))).trans b2'
    have hra1 : 1 ≤ ra ∧ ra ≤ 4 := by
      have h4 : ∀ z ∈ ([1, 1, 2, 4] : List Int), 1 ≤ z ∧ z ≤ 4 := by decide
      exact h4 ra hra
    clear b1' b2'
    refine ⟨by show 0 ≤ sizeLine; decide, fun I nI => ?_⟩
    have c3 : But p H (upd H2 I (.lst [])) := c2.trans (.of (same_new nI))
    have hI3 : (upd H2 I (.lst [])) I = some (.lst []) := upd_same
    have p3 := p2.new (o := .lst []) nI
    have nIp : I ≠ p := (p2.ne nI).symm
    have nIH : H I = none := hp.free p2 c2 nI
    have nlI : l ≠ I := ne_of_none hl nIH
    generalize upd H2 I (.lst []) = H3 at c3 hI3 p3 ⊢
    have hbf : bl * (far + 1) ≤ 3 * (far + 1) := Int.mul_le_mul_of_nonneg_right hb1 (by omega)
    have hbf0 : 0 < bl * (far + 1) := Int.mul_pos (by omega) (by omega)
    refine ⟨.ref p, rfl, .int bl, rfl, .int far, rfl, far, 1, rfl, rfl, bl, far + 1, rfl, rfl, .inl ⟨by omega, by omega⟩, p, bl * (far + 1), rfl, p3, hbf0, by omega, fun H4 c c0 c1 p4 b4 => ⟨1, c, rfl, rfl, 1 + c, rfl, by omega, by omega, ?_⟩⟩
    have c4 := c3.trans b4
    have hI4 := b4 _ _ nIp hI3
    refine for_range (lo := 0) (n := (1 + c).toNat) (fun i σ H' => ∃ v7 v8, σ = [some (.ref p), some (.ref l), some (.int far), some (.int bl), some (.int (1 + ma)), some (.int ra), some (.ref I), v7, v8] ∧ PenAt H' p ∧ But p H H' ∧
        ∃ ns : List Int, H' I = some (.lst (ns.map V.int)) ∧ ns.length = i ∧ ∀ x ∈ ns, -1 ≤ x ∧ x ≤ 9) ⟨_, _, rfl, p4, c4, [], hI4, rfl, fun x hx => nomatch hx⟩ ?_ ?_
    · rintro i σ H5 hi ⟨v7, v8, rfl, p5, c5, ns, hI5, l5, i5⟩
      have hl5 := c5 _ _ nlp hl
      have hq0 : 0 ≤ (0 + (i : Int)) / (far + 1) := Int.ediv_nonneg (by omega) (by omega)
      have hq1 : (0 + (i : Int)) / (far + 1) < 3 := Int.ediv_lt_of_lt_mul (by omega) (by omega)
      refine ⟨.ref l, rfl, .int (0 + (i : Nat)), rfl, .int far, rfl, far, 1, rfl, rfl, 0 + (i : Nat), far + 1, rfl, rfl, ⟨by omega, by omega⟩, 3, _, rfl, rfl, .inl (by decide), .ref p, rfl, .int (1 + ma), rfl, p, 1 + ma, rfl, p5, by omega, by omega, fun H6 r r0 r1 p6 b6 => ⟨_, _, rfl, rfl, ?_⟩⟩
      obtain ⟨j, hj, hj10⟩ : ∃ j : Nat, 3 * ((0 + (i : Int)) / (far + 1)) + r = j ∧ j < nn.length := ⟨(3 * ((0 + (i : Int)) / (far + 1)) + r).toNat, by omega, by omega⟩
      have hl6 := b6 _ _ nlp hl5
      have hI6 := b6 _ _ nIp hI5
      have gj : (nn.map V.int)[j]? = some (.int nn[j]) := by rw [List.getElem?_map, List.getElem?_eq_getElem hj10]; rfl
      have hx := inn nn[j] (List.getElem_mem hj10)
      refine ⟨l, _, (j : Int), .int nn[j], rfl, congrArg V.int hj, .of hl6, atI_nat gj, ?_⟩
      refine ⟨.ref I, rfl, .inl ⟨rfl, _, .of hI6⟩, .ref p, rfl, .int ra, rfl, p, ra, rfl, p6, by omega, by omega, fun H7 r7 _ _ p7 b7 => ?_⟩
      have hI7 := b7 _ _ nIp hI6
      have lns : (ns.map V.int).length < sizeLine := by rw [List.length_map]; exact small1000 (by omega)
      have fin : ∀ z : Int, -1 ≤ z → z ≤ 9 → PenAt (L2.upd H7 I (.lst (ns.map V.int ++ [V.int z]))) p ∧ But p H (L2.upd H7 I (.lst (ns.map V.int ++ [V.int z]))) ∧
          ∃ ns' : List Int, (L2.upd H7 I (.lst (ns.map V.int ++ [V.int z]))) I = some (.lst (ns'.map V.int)) ∧ ns'.length = i + 1 ∧ ∀ x ∈ ns', -1 ≤ x ∧ x ≤ 9 := by
        intro z z1 z2
        refine ⟨p7.upd nIp.symm, fun b o n e => ?_, ns ++ [z], ?_, ?_, fun x hx => ?_⟩
        · rw [upd_ne (ne_of_none e nIH)]
          exact b7 _ _ n (b6 _ _ n (c5 _ _ n e))
        · rw [upd_same, List.map_append]; rfl
        · rw [List.length_append]; show ns.length + 1 = _; omega
        · rcases List.mem_append.mp hx with h | h
          · exact i5 x h
          · rw [List.mem_singleton.mp h]; exact ⟨z1, z2⟩
      refine ⟨rfl, _, rfl, ite2 (fun _ => ?_) (fun _ => ?_)⟩
      · exact ⟨.int nn[j], rfl, I, _, _, rfl, rfl, hI7, lns, _, _, rfl, fin _ (by omega) (by omega)⟩
      · exact ⟨1, rfl, I, _, _, rfl, rfl, hI7, lns, _, _, rfl, fin (-1) (by decide) (by decide)⟩
    · rintro σ H5 ⟨v7, v8, rfl, p5, c5, ns, hI5, l5, i5⟩
      have ln1 : 1 ≤ ns.length := by omega
      have ln2 : ns.length ≤ 60 := by omega
      have lm : (ns.map V.int).length = ns.length := List.length_map _
      have hl5 := c5 _ _ nlp hl
      -- the last step: from any list of such items
      have last : ∀ (H' : Hp) (gs : List Int), PenAt H' p → But p H H' → H' I = some (.lst (gs.map V.int)) → gs.length = ns.length → (∀ x ∈ gs, -1 ≤ x ∧ x ≤ 9) → (∀ x, gs[0]? = some x → x ≠ -1) → (∀ x, gs[gs.length - 1]? = some x → x ≠ -1) →
          ∃ v, (some (some (V.ref I)) : Option (Option V)) = some (some v) ∧ ∃ (q0 : Addr) (ys : List V), [v] = [V.ref q0] ∧ ((SqL K H' q0 ys ∧ ∀ l, H' l = none → Q (.ref l) (L2.upd H' l (.tup ys))) ∨ (SqT K H' q0 ys ∧ Q (.ref q0) H')) := by
        intro H' gs pg cg hg lg ig h0 hL
        exact ⟨_, rfl, I, _, rfl, .inl ⟨.of hg, fun t nt => q _ t gs (pg.new nt) (cg.trans (.of (same_new nt))) (hp.free pg cg nt) upd_same ⟨by omega, by omega, ig, h0, hL⟩⟩⟩
      have h00 : (ns.map V.int)[0]? = some (.int ns[0]) := by rw [List.getElem?_map, List.getElem?_eq_getElem (by omega)]; rfl
      have n0 : (nn.map V.int)[0]? = some (.int nn[0]) := by rw [List.getElem?_map, List.getElem?_eq_getElem (by omega)]; rfl
      have hn0 := inn nn[0] (List.getElem_mem (by omega))
      refine ⟨.ref I, rfl, I, _, 0, .int ns[0], rfl, rfl, .of hI5, atI_nat h00, 1, rfl, rfl, _, rfl, ite2 (fun eq => ?a) (fun ne => ?b)⟩
      case' a =>
        refine ⟨.ref l, rfl, l, _, 0, .int nn[0], rfl, rfl, .of hl5, atI_nat n0, .ref I, rfl, I, _, 0, 0, rfl, rfl, hI5, ixN_nat (j := 0) (by rw [lm]; omega), ?_⟩
        rw [show (ns.map V.int).set 0 (.int nn[0]) = (ns.set 0 nn[0]).map V.int from by rw [List.map_set]]
        have hI6 : (L2.upd H5 I (.lst ((ns.set 0 nn[0]).map V.int))) I = some (.lst ((ns.set 0 nn[0]).map V.int)) := upd_same
        have p6 := p5.upd (o := .lst ((ns.set 0 nn[0]).map V.int)) nIp.symm
        have c6 : But p H (L2.upd H5 I (.lst ((ns.set 0 nn[0]).map V.int))) := fun b o n e => by
          rw [upd_ne (ne_of_none e nIH)]
          exact c5 _ _ n e
        have lg : (ns.set 0 nn[0]).length = ns.length := List.length_set
        have ig : ∀ x ∈ ns.set 0 nn[0], -1 ≤ x ∧ x ≤ 9 := fun x hx => by
          rcases mem_set hx with h | h
          · omega
          · exact i5 x h
        have h0 : ∀ x, (ns.set 0 nn[0])[0]? = some x → x ≠ -1 := fun x hx => by
          rcases set_at hx with h | ⟨h, _⟩
          · omega
          · exact absurd rfl h
        generalize ns.set 0 nn[0] = gs at hI6 p6 c6 lg ig h0 ⊢
        generalize L2.upd H5 I (.lst (gs.map V.int)) = H6 at hI6 p6 c6 ⊢
      case' b =>
        obtain ⟨gs, hgs⟩ : ∃ gs, gs = ns := ⟨ns, rfl⟩
        have h0 : ∀ x, gs[0]? = some x → x ≠ -1 := fun x hx e => by
          subst e
          rw [hgs, List.getElem?_eq_getElem (by omega)] at hx
          exact ne (decide_eq_true (congrArg V.int (Option.some.inj hx)))
        have hI6 : H5 I = some (.lst (gs.map V.int)) := by rw [hgs]; exact hI5
        have p6 := p5
        have c6 := c5
        have lg : gs.length = ns.length := by rw [hgs]
        have ig : ∀ x ∈ gs, -1 ≤ x ∧ x ≤ 9 := by rw [hgs]; exact i5
      all_goals
        have hl6 := c6 _ _ nlp hl
        have lgm : (gs.map V.int).length = gs.length := List.length_map _
        have hlt : gs.length - 1 < gs.length := by omega
        have hat : atI (gs.map V.int) (-1) = some (.int gs[gs.length - 1]) := by
          unfold atI
          rw [lgm, ixN_end (by omega)]
          show (gs.map V.int)[gs.length - 1]? = _
          rw [List.getElem?_map, List.getElem?_eq_getElem hlt]
          rfl
        refine ⟨.ref I, rfl, 1, rfl, I, _, -1, .int gs[gs.length - 1], rfl, rfl, .of hI6, hat, 1, rfl, rfl, _, rfl, ite2 (fun eq => ?_) (fun ne2 => ?_)⟩
        · have hq0 : 0 ≤ ((gs.length : Int) - 1) / (far + 1) := Int.ediv_nonneg (by omega) (by omega)
          have hq1 : ((gs.length : Int) - 1) / (far + 1) < 3 := Int.ediv_lt_of_lt_mul (by omega) (by omega)
          obtain ⟨j, hj, hj10⟩ : ∃ j : Nat, 3 * (((gs.length : Int) - 1) / (far + 1)) = j ∧ j < nn.length := ⟨(3 * (((gs.length : Int) - 1) / (far + 1))).toNat, by omega, by omega⟩
          have gj : (nn.map V.int)[j]? = some (.int nn[j]) := by rw [List.getElem?_map, List.getElem?_eq_getElem hj10]; rfl
          have hx := inn nn[j] (List.getElem_mem hj10)
          refine ⟨.ref l, rfl, .ref I, rfl, I, _, rfl, .inl (.of hI6), _, 1, rfl, rfl, .int far, rfl, far, 1, rfl, rfl, _, far + 1, rfl, rfl, ⟨by omega, by omega⟩, 3, _, rfl, rfl, .inl (by decide), l, _, (j : Int), .int nn[j], rfl, ?_, .of hl6, atI_nat gj, ?_⟩
          · rw [← hj, lgm]
          refine ⟨.ref I, rfl, 1, rfl, I, _, -1, gs.length - 1, rfl, rfl, hI6, by rw [lgm]; exact ixN_end (by omega), ?_⟩
          rw [show (gs.map V.int).set (gs.length - 1) (.int nn[j]) = (gs.set (gs.length - 1) nn[j]).map V.int from by rw [List.map_set]]
          refine last _ (gs.set (gs.length - 1) nn[j]) (p6.upd nIp.symm) (fun b o n e => ?_) upd_same (by rw [List.length_set]; exact lg) (fun y hy => ?_) (fun y hy => ?_) (fun y hy => ?_)
          · rw [upd_ne (ne_of_none e nIH)]
            exact c6 _ _ n e
          · rcases mem_set hy with h | h
            · omega
            · exact ig y h
          · rcases set_at hy with h | ⟨_, h⟩
            · omega
            · exact h0 y h
          · rw [List.length_set] at hy
            rcases set_at hy with h | ⟨h, _⟩
            · omega
            · exact absurd rfl h
        · refine last _ gs p6 c6 hI6 lg ig h0 (fun y hy e => ?_)
          subst e
          rw [List.getElem?_eq_getElem hlt] at hy
          exact ne2 (decide_eq_true (congrArg V.int (Option.some.inj hy)))
end
end Sg

set_option Elab.async false
set_option linter.all false
set_option maxRecDepth 100000
set_option maxHeartbeats 4000000
namespace Sg
open PySem PySem.Spec PyProof.Rows L2 StX
/-! ## the mathematics: stations and rests -/
def prOf (d : Int) (x : Int) (t : Nat) : List (Int × Int) := if x = -1 then [] else [(x, (t : Int) % d)]
def prs (ns : List Int) (d : Int) (i : Nat) : List (Int × Int) := (List.range i).flatMap fun t => match ns[t]? with
  | some x => prOf d x t
  | none => []
theorem prs_succ {ns : List Int} {d : Int} {i : Nat} {x : Int} (h : ns[i]? = some x) : prs ns d (i + 1) = prs ns d i ++ prOf d x i := by
  unfold prs
  rw [List.range_succ, List.flatMap_append, List.flatMap_cons, List.flatMap_nil, List.append_nil, h]
theorem prs_len (ns : List Int) (d : Int) : ∀ i, (prs ns d i).length ≤ i
  | 0 => Nat.le_refl _
  | i + 1 => by
    have ih := prs_len ns d i
    rcases h : ns[i]? with _ | x
    · unfold prs at ih ⊢
      rw [List.range_succ, List.flatMap_append, List.flatMap_cons, List.flatMap_nil, List.append_nil, h, List.append_nil]
      omega
    · rw [prs_succ h, List.length_append]
      unfold prOf
      split
      · simp only [List.length_nil]; omega
      · show _ + 1 ≤ _; omega
def constB (ns : List Int) (d : Int) : Bool := decide (prs ns d ns.length).Nodup
def constTo (ns : List Int) (i : Nat) : List Int := ((List.range i).map fun j => (1 : Int) + (j : Nat)).filter (constB ns)
theorem constTo_succ (ns : List Int) (i : Nat) : constTo ns (i + 1) = constTo ns i ++ (if constB ns (1 + (i : Int)) = true then [1 + (i : Int)] else []) := by
  unfold constTo
  rw [List.range_succ, List.map_append, List.filter_append]
  congr 1
  by_cases h : constB ns (1 + (i : Int)) = true
  · rw [if_pos h]; exact List.filter_cons_of_pos h
  · rw [if_neg h]; exact List.filter_cons_of_neg h
theorem constTo_len (ns : List Int) (i : Nat) : (constTo ns i).length ≤ i := by
  unfold constTo
  have := List.length_filter_le (constB ns) ((List.range i).map fun j => (1 : Int) + (j : Nat))
  rw [List.length_map, List.length_range] at this
  exact this
theorem constTo_items {ns : List Int} {i : Nat} {x : Int} (h : x ∈ constTo ns i) : 1 ≤ x ∧ x ≤ i := by
  obtain ⟨h1, _⟩ := List.mem_filter.mp h
  obtain ⟨j, hj, rfl⟩ := List.mem_map.mp h1
  have := List.mem_range.mp hj
  omega
abbrev pairL (p : Int × Int) : List Int := [p.1, p.2]
theorem pairL_nodup (l : List (Int × Int)) : (l.map pairL).Nodup ↔ l.Nodup := by
  constructor
  · exact fun h => nodup_of_map h
  · intro h
    induction l with
    | nil => exact List.nodup_nil
    | cons x r ih =>
      obtain ⟨h1, h2⟩ := List.nodup_cons.mp h
      refine List.nodup_cons.mpr ⟨fun z => h1 ?_, ih h2⟩
      obtain ⟨y, hy, e⟩ := List.mem_map.mp z
      have e1 := (List.cons.inj e).1
      have e2 := (List.cons.inj (List.cons.inj e).2).1
      rw [show x = y from Prod.ext e1.symm e2.symm]
      exact hy
abbrev keyP (p : Int × Int) : List L2.Key := [Sum.inl p.1, Sum.inl p.2]
theorem keyP_inj {p q : Int × Int} (h : keyP p = keyP q) : p = q := by
  have e1 := Sum.inl.inj (List.cons.inj h).1
  have e2 := Sum.inl.inj (List.cons.inj (List.cons.inj h).2).1
  exact Prod.ext e1 e2
section
variable {P : Program} {w : World} {K : PySem.W.Frag} {mg : Str → Option Value} {base : Heap}
/-! ### is_constant -/
def spIsConst (K : PySem.W.Frag) : Sp := fun vs H Q _ => ∃ (a : Addr) (ns : List Int) (d : Int), vs = [.ref a, .int d] ∧ SqT K H a (ns.map V.int) ∧ ns.length ≤ 1000 ∧ (prs ns d ns.length).length < 64 ∧ 1 ≤ d ∧ ∀ H', Same H H' → Q (.bl (constB ns d)) H'
abbrev constN : List Str := ["items", "distance", "places", "tick", "station"]
theorem ok_is_constant {f : Addr} {fd : FuncData} {k : Nat} (F : Fun K "is_constant" "is_constant" s_is_constant f fd) (nN : ∃ t, mg "NOWHERE" = some (.int (-1) t))
    (m1 : mg "enumerate" = none) (m2 : mg "len" = none) (m3 : mg "set" = none) : FnOk P w K mg base CX0 (k + 1) f fd ["items", "distance"] (spIsConst K) := by
  obtain ⟨t1, n1⟩ := nN
  refine F.ok sc_is_constant (fun vs H Q E h => ?_) (fun cdv A outer s H vs Q E hr h => ?_)
  · obtain ⟨a, ns, d, rfl, _⟩ := h; rfl
  · obtain ⟨a, ns, d, rfl, hA, hl, hfew, hd, q⟩ := h
    have hu3 : (A.deeper (envOfC "is_constant" (defScope s_is_constant) s.heap.objs.size f cdv)).units + 3 < cLine := by have := hr.units; omega
    refine ⟨_, pss_cons (ps_setLc (i := 2) (own := [("tick", 3), ("station", 4)]) (g := gTup K 2 (gCons (gName 3) (gCons (gName 4) gNil))) (by rfl) sc_is_constant.nd rfl rfl (sw_true rfl rfl rfl (by decide +kernel)) (pi_enumT (by rfl) m1 (pa_cons (pv 0) pa_nil))
        (blkOk_by (N := constN) (sc := defScope s_is_constant) (by decide +kernel))
        (fun _ _ _ _ _ => pg_tup rfl (pgs_cons (pg_name (i := 3) sc_is_constant.nd rfl (Or.inl rfl)) (pgs_cons (pg_name (i := 4) sc_is_constant.nd rfl (Or.inl rfl)) pgs_nil)))
        (fun _ _ _ _ _ => pts_one (pt_cmpR op_ne (pv 4) (pe_glob (v := .int (-1)) (by rfl) n1 ⟨_, rfl⟩) (nomark _)))
        (fun _ _ _ _ _ => pe_tup (pa_cons (pv 4) (pa_cons (pe_op op_mod (pv 3) (pv 1)) pa_nil))))
      (pss_one (ps_ret (pe_cmpR op_eq (pe_lenSetT (K := K) rfl hu3 (by rfl) m2 (by rfl) m3 (pv 2)) (pe_callB call_len_seq (by rfl) m2 PySem.boot_len (pa_cons (pv 2) pa_nil)) (nomark _)))), ?_⟩
    refine ⟨.ref a, rfl, a, _, rfl, hA, fun D hD => ?_⟩
    have lm : (ns.map V.int).length = ns.length := List.length_map _
    refine lc_it (walk_enumT (xs := ns.map V.int)) (fun i H' => Same H H' ∧ ∃ ks : List (Addr × List Int), H' D = some (.lst (ks.map fun p => V.ref p.1)) ∧ (∀ p ∈ ks, SqT K H' p.1 (p.2.map V.int)) ∧ ks.map (·.2) = (prs ns d i).map pairL)
      ⟨same_new hD, [], upd_same, fun p hp => (nomatch hp), rfl⟩ (fun i H' _ h => Same.tup h.1 hA) (fun i x H' H'' hi h hY => ?_) (fun H' h => ?_)
    · obtain ⟨e1, ks, hK, hT, em⟩ := h
      obtain ⟨T, x1, x2, rfl, nT, rfl, f1, f2⟩ := hY
      dsimp only at f1 f2
      cases f1
      rw [List.getElem?_map] at f2
      obtain ⟨z, hz, rfl⟩ := Option.map_eq_some_iff.mp f2
      have eT : Same H' (upd H' T (.tup [V.int (i : Nat), .int z])) := same_new nT
      refine ⟨T, _, rfl, .of upd_same, rfl, _, _, rfl, _, _, rfl, rfl, rfl, ?_⟩
      have hK2 := eT _ _ hK
      have e2 := e1.trans eT
      have hT2 : ∀ p ∈ ks, SqT K (upd H' T (.tup [V.int (i : Nat), .int z])) p.1 (p.2.map V.int) := fun p hp => Same.tup eT (hT p hp)
      generalize upd H' T (.tup [V.int (i : Nat), .int z]) = H2 at hK2 e2 hT2 ⊢
      rw [prs_succ hz]
      refine ⟨.int z, rfl, rfl, ?_⟩
      by_cases hz1 : z = -1
      · rw [show (!decide (V.int z = V.int (-1))) = false from by rw [hz1, decide_eq_true rfl]; rfl]
        refine ⟨_, rfl, iteF ⟨e2, ks, hK2, hT2, ?_⟩⟩
        rw [show prOf d z i = [] from if_pos hz1, List.append_nil]
        exact em
      · rw [show (!decide (V.int z = V.int (-1))) = true from by rw [decide_eq_false fun y => hz1 (V.int.inj y)]; rfl]
        refine ⟨_, rfl, iteT ⟨.int z, rfl, .int (i : Nat), rfl, .int d, rfl, (i : Nat), d, rfl, rfl, by show (0 : Int) < d; omega, by show 2 ≤ sizeLine; decide, fun c nc => ?_⟩⟩
        have ec : Same H2 (upd H2 c (.tup [V.int z, .int ((i : Int) % d)])) := same_new nc
        have hc : (upd H2 c (.tup [V.int z, .int ((i : Int) % d)])) c = some (.tup [V.int z, .int ((i : Int) % d)]) := upd_same
        have nDc : D ≠ c := ne_of_none hK2 nc
        have hK3 := ec _ _ hK2
        have hT3 : ∀ p ∈ ks, SqT K (upd H2 c (.tup [V.int z, .int ((i : Int) % d)])) p.1 (p.2.map V.int) := fun p hp => Same.tup ec (hT2 p hp)
        have e3 := e2.trans ec
        show ∃ acc, (upd H2 c (.tup [V.int z, .int ((i : Int) % d)])) D = some (.lst acc) ∧ _
        generalize upd H2 c (.tup [V.int z, .int ((i : Int) % d)]) = H3 at ec hc hK3 hT3 e3 ⊢
        have lk : ks.length ≤ i := by
          have z1 := congrArg List.length em
          rw [List.length_map, List.length_map] at z1
          have := prs_len ns d i
          omega
        refine ⟨_, hK3, ?_, fun b o e => ?_, ks ++ [(c, [z, (i : Int) % d])], ?_, fun p hp => ?_, ?_⟩
        · rw [List.length_map]; exact small1000 (by omega)
        · rw [upd_ne (ne_of_none e hD)]
          exact e3 _ _ e
        · rw [upd_same, List.map_append]; rfl
        · rcases List.mem_append.mp hp with h | h
          · exact tup_upd hK3 (fun _ z => nomatch z) (fun _ _ z => nomatch z) (hT3 p h)
          · rw [List.mem_singleton.mp h]
            exact .of (by rw [upd_ne nDc.symm]; exact hc)
        · rw [List.map_append, List.map_append, em, show prOf d z i = [(z, (i : Int) % d)] from if_neg hz1]
          rfl
    · obtain ⟨e1, ks, hK, hT, em⟩ := h
      rw [lm] at em
      have lk := congrArg List.length em
      rw [List.length_map, List.length_map] at lk
      refine ⟨.ref D, rfl, D, ks, rfl, .of hK, hT, by omega, fun n hn => ⟨.ref D, rfl, D, _, rfl, .inl (.of hK), rfl, ?_⟩⟩
      have ev : decide (V.int (n : Nat) = V.int ((ks.map fun p => V.ref p.1).length : Nat)) = constB ns d := by
        unfold constB
        rw [em, pairL_nodup] at hn
        rw [List.length_map]
        by_cases h : (prs ns d ns.length).Nodup
        · rw [decide_eq_true h, hn.mpr h, decide_eq_true rfl]
        · rw [decide_eq_false h, decide_eq_false fun y => h (hn.mp (by have := V.int.inj y; omega))]
      rw [ev]
      exact q H' e1
/-! ### constants -/
def spConstants (K : PySem.W.Frag) : Sp := fun vs H Q _ => ∃ (a : Addr) (ns : List Int), vs = [.ref a] ∧ SqT K H a (ns.map V.int) ∧ IsWork ns ∧
  ∀ H' t, Same H H' → H t = none → H' t = some (.tup ((constTo ns ns.length).map V.int)) → Q (.ref t) H'
theorem ok_constants {f f1 f2 : Addr} {fd fd1 fd2 : FuncData} {k : Nat} (F : Fun K "constants" "constants" s_constants f fd)
    (G1 : FnOk P w K mg base CX0 k f1 fd1 ["thing"] (spReq K)) (kp1 : PySem.W.keepIn K (.ref f1) = true) (b1 : Binds K fd1 ["thing"] []) (g1 : mg "require_work" = some (.ref f1))
    (G2 : FnOk P w K mg base CX0 k f2 fd2 ["items", "distance"] (spIsConst K)) (kp2 : PySem.W.keepIn K (.ref f2) = true) (b2 : Binds K fd2 ["items", "distance"] []) (g2 : mg "is_constant" = some (.ref f2))
    (m1 : mg "tuple" = none) (m2 : mg "range" = none) (m3 : mg "len" = none) : FnOk P w K mg base CX0 (k + 1) f fd ["work"] (spConstants K) := by
  refine F.ok sc_constants (fun vs H Q E h => ?_) (fun cdv A outer s H vs Q E hr h => ?_)
  · obtain ⟨a, ns, rfl, _⟩ := h; rfl
  · obtain ⟨a, ns, rfl, hA, hw, q⟩ := h
    refine ⟨_, pss_cons (ps_expr (pe_call G1 hr (by rfl) g1 kp1 b1 .nil pass0 (pa_cons (pv 0) pa_nil)))
      (pss_one (ps_ret (pe_callTy (call_tuple_ofK (K := K) rfl) (by rfl) m1 (by decide +kernel) (pa_cons
        (pe_lc (own := [("distance", 1)]) (g := gName 1) (by rfl) sc_constants.nd (pi_range2 (by rfl) m2 (pa_cons pe_int (pa_cons (pe_op op_add (pe_callB call_len_seq (by rfl) m3 PySem.boot_len (pa_cons (pv 0) pa_nil)) pe_int) pa_nil))) (blkOk_by (N := ["work", "distance"]) (sc := defScope s_constants) (by decide +kernel))
          (fun _ _ _ _ _ => pg_name (i := 1) sc_constants.nd rfl (Or.inl rfl))
          (fun _ _ _ _ _ => pts_one (pt_val (pe_call G2 hr (by rfl) g2 kp2 b2 .nil pass0 (pa_cons (pv 0) (pa_cons (pv 1) pa_nil)))))
          (fun _ _ _ _ _ => pv 1)) pa_nil)))), ?_⟩
    have lm : (ns.map V.int).length = ns.length := List.length_map _
    have most := hw.most
    refine ⟨.ref a, rfl, a, ns, rfl, hA, hw, fun H1 e1 => ?_⟩
    refine ⟨.ref a, rfl, a, _, rfl, .inr (Same.tup e1 hA), _, 1, rfl, rfl, 1, (((ns.map V.int).length : Nat) : Int) + 1, rfl, ⟨by omega, by omega, by omega, by omega⟩, fun D hD => ?_⟩
    have en : ((((ns.map V.int).length : Nat) : Int) + 1 - 1).toNat = ns.length := by rw [lm]; omega
    rw [en]
    refine lc_range (lo := 1) (n := ns.length) (fun i H' => Same H H' ∧ H' D = some (.lst ((constTo ns i).map V.int))) ⟨e1.trans (same_new hD), upd_same⟩ (fun i H' hi h => ?_) (fun H' h => ?_)
    · obtain ⟨e2, hD2⟩ := h
      have pl := prs_len ns (1 + (i : Int)) ns.length
      refine ⟨rfl, .ref a, rfl, .int (1 + (i : Nat)), rfl, a, ns, 1 + (i : Nat), rfl, Same.tup e2 hA, by omega, by omega, by omega, fun H3 e3 => ⟨_, rfl, ?_⟩⟩
      rw [constTo_succ]
      have hD3 := e3 _ _ hD2
      have hDH : H D = none := freeS e1 hD
      by_cases hc : constB ns (1 + (i : Int)) = true
      · rw [hc, if_pos rfl]
        refine iteT ⟨_, rfl, _, hD3, ?_, fun b o e => ?_, ?_⟩
        · rw [List.length_map]
          have := constTo_len ns i
          exact small1000 (by omega)
        · rw [upd_ne (ne_of_none e hDH)]
          exact e3 _ _ (e2 _ _ e)
        · rw [upd_same, List.map_append]; rfl
      · have hc' : constB ns (1 + (i : Int)) = false := by cases z : constB ns (1 + (i : Int)) <;> simp_all
        rw [hc', if_neg (by decide), List.append_nil]
        exact iteF ⟨e2.trans e3, hD3⟩
    · obtain ⟨e2, hD2⟩ := h
      exact ⟨D, _, rfl, .inl ⟨.of hD2, fun t nt => q _ t (e2.trans (same_new nt)) (freeS e2 nt) upd_same⟩⟩
end
end Sg

set_option Elab.async false
set_option linter.all false
set_option maxRecDepth 100000
set_option maxHeartbeats 4000000
namespace Sg
open PySem PySem.Spec PyProof.Rows L2 StX
theorem prs_ext (ns : List Int) (d : Int) : ∀ (m j : Nat), ∃ r, prs ns d (j + m) = prs ns d j ++ r
  | 0, j => ⟨[], by rw [List.append_nil]; rfl⟩
  | m + 1, j => by
    obtain ⟨r, hr⟩ := prs_ext ns d m j
    refine ⟨r ++ (match ns[j + m]? with | some x => prOf d x (j + m) | none => []), ?_⟩
    rw [← List.append_assoc, ← hr, show j + (m + 1) = (j + m) + 1 from rfl]
    unfold prs
    rw [List.range_succ, List.flatMap_append, List.flatMap_cons, List.flatMap_nil, List.append_nil] <;> rfl
def spLConst (K : PySem.W.Frag) : Sp := fun vs H Q _ => ∃ (a : Addr) (ns : List Int) (d : Int), vs = [.ref a, .int d] ∧ SqT K H a (ns.map V.int) ∧ ns.length ≤ 1000 ∧ 1 ≤ d ∧ ∀ H', Same H H' → Q (.bl (constB ns d)) H'
section
variable {P : Program} {w : World} {K : PySem.W.Frag} {mg : Str → Option Value} {base : Heap}
theorem ok_lconst {f : Addr} {fd : FuncData} {k : Nat} (F : Fun K "_law_is_constant" "_law_is_constant" s_l_is_constant f fd)
    (m1 : mg "enumerate" = none) : FnOk P w K mg base CX0 (k + 1) f fd ["_law_task", "_law_distance"] (spLConst K) := by
  refine F.ok sc_l_is_constant (fun vs H Q E h => ?_) (fun cdv A outer s H vs Q E hr h => ?_)
  · obtain ⟨a, ns, d, rfl, _⟩ := h; rfl
  · obtain ⟨a, ns, d, rfl, hA, hl, hd, q⟩ := h
    have hu2 := hu_of hr
    refine ⟨_, pss_cons (ps_set (i := 2) sc_l_is_constant.nd rfl (.inl rfl) pe_dnewT)
      (pss_cons (ps_for PassesOwn.never rfl (pi_enumT (by rfl) m1 (pa_cons (pv 0) pa_nil))
          (pg_tup rfl (pgs_cons (pg_name (i := 3) sc_l_is_constant.nd rfl (.inl rfl)) (pgs_cons (pg_name (i := 4) sc_l_is_constant.nd rfl (.inl rfl)) pgs_nil)))
        (pss_one (ps_if (pt_cmpR op_ne (pv 4) (pe_un un_neg pe_int) (nomark _))
          (pss_cons (ps_if (pt_cmp (pc_din hu2 (pe_tup (pa_cons (pv 4) (pa_cons (pe_op op_mod (pv 3) (pv 1)) pa_nil))) (pv 2))) (pss_one (ps_ret pe_bl)) pss_nil)
          (pss_one (ps_dput hu2 (pv 2) (pe_tup (pa_cons (pv 4) (pa_cons (pe_op op_mod (pv 3) (pv 1)) pa_nil))) pe_bl rfl))) pss_nil)))
      (pss_one (ps_ret pe_bl))), ?_⟩
    have lm : (ns.map V.int).length = ns.length := List.length_map _
    intro D nD
    have e1 : Same H (upd H D (.dT [])) := same_new nD
    have hD1 : (upd H D (.dT [])) D = some (.dT []) := upd_same
    generalize upd H D (.dT []) = H1 at e1 hD1 ⊢
    refine ⟨.ref a, rfl, a, _, rfl, Same.tup e1 hA, ?_⟩
    refine for_it (walk_enumT (xs := ns.map V.int)) (fun i σ H' => ∃ v3 v4, σ = [some (.ref a), some (.int d), some (.ref D), v3, v4] ∧ Same H H' ∧ (prs ns d i).Nodup ∧
        ∃ kvs : List (List L2.Key × V), H' D = some (.dT kvs) ∧ kvs.length ≤ i ∧ ∀ p, (valV kvs (keyP p)).isSome = true ↔ p ∈ prs ns d i)
      ⟨_, _, rfl, e1, List.nodup_nil, [], hD1, Nat.le_refl _, fun p => ⟨(fun z => nomatch z), (fun z => nomatch z)⟩⟩ (fun i σ H' _ h => ?_) (fun i y σ H' H'' hi h hY => ?_) (fun σ H' h => ?_)
    · obtain ⟨_, _, _, e, _⟩ := h
      exact Same.tup e hA
    · obtain ⟨v3, v4, rfl, e, nd, kvs, hD2, lk, mem⟩ := h
      obtain ⟨T, x1, x2, rfl, nT, rfl, f1, f2⟩ := hY
      dsimp only at f1 f2
      cases f1
      rw [List.getElem?_map] at f2
      obtain ⟨z, hz, rfl⟩ := Option.map_eq_some_iff.mp f2
      have eT : Same H' (upd H' T (.tup [V.int (i : Nat), .int z])) := same_new nT
      refine ⟨T, _, rfl, .of upd_same, rfl, _, _, rfl, _, _, rfl, rfl, ?_⟩
      have e2 := e.trans eT
      have hD3 := eT _ _ hD2
      generalize upd H' T (.tup [V.int (i : Nat), .int z]) = H3 at eT e2 hD3 ⊢
      have hps := prs_succ (ns := ns) (d := d) hz
      refine ⟨.int z, rfl, 1, rfl, rfl, ?_⟩
      by_cases hz1 : z = -1
      · rw [show (!decide (V.int z = V.int (-1))) = false from by rw [hz1, decide_eq_true rfl]; rfl]
        refine ⟨_, rfl, iteF ?_⟩
        rw [show prOf d z i = [] from if_pos hz1, List.append_nil] at hps
        exact ⟨_, _, rfl, e2, by rw [hps]; exact nd, kvs, hD3, by omega, by rw [hps]; exact mem⟩
      · rw [show (!decide (V.int z = V.int (-1))) = true from by rw [decide_eq_false fun y => hz1 (V.int.inj y)]; rfl]
        rw [show prOf d z i = [(z, (i : Int) % d)] from if_neg hz1] at hps
        refine ⟨_, rfl, iteT ?_⟩
        refine ⟨.int z, rfl, .int (i : Nat), rfl, .int d, rfl, (i : Nat), d, rfl, rfl, by show (0 : Int) < d; omega, by show 2 ≤ sizeLine; decide, fun b nb => ?_⟩
        have eb : Same H3 (upd H3 b (.tup [V.int z, .int ((i : Int) % d)])) := same_new nb
        have hb : (upd H3 b (.tup [V.int z, .int ((i : Int) % d)])) b = some (.tup ((keyP (z, (i : Int) % d)).map kV)) := upd_same
        have hD4 := eb _ _ hD3
        have e4 := e2.trans eb
        show ∃ v, _ ∧ _
        generalize upd H3 b (.tup [V.int z, .int ((i : Int) % d)]) = H4 at eb hb hD4 e4 ⊢
        refine ⟨.ref D, rfl, D, _, rfl, DGet.t hD4 hb, _, rfl, ite2 (fun e5 => ?_) (fun e5 => ?_)⟩
        · have dup : ¬ (prs ns d ns.length).Nodup := by
            intro hnd
            have hm := (mem (z, (i : Int) % d)).mp e5
            have hsub : List.Sublist (prs ns d (i + 1)) (prs ns d ns.length) := by
              rw [lm] at hi
              obtain ⟨r, hr⟩ := prs_ext ns d (ns.length - (i + 1)) (i + 1)
              rw [show i + 1 + (ns.length - (i + 1)) = ns.length by omega] at hr
              rw [hr]
              exact List.sublist_append_left _ _
            have h2 := hnd.sublist hsub
            rw [hps] at h2
            exact (List.nodup_append.mp h2).2.2 _ hm _ (List.mem_singleton.mpr rfl) rfl
          have := q H4 e4
          unfold constB at this
          rw [decide_eq_false dup] at this
          exact this
        · have hnm : (z, (i : Int) % d) ∉ prs ns d i := fun y => e5 ((mem _).mpr y)
          refine ⟨.ref D, rfl, .int z, rfl, .int (i : Nat), rfl, .int d, rfl, (i : Nat), d, rfl, rfl, by show (0 : Int) < d; omega, by show 2 ≤ sizeLine; decide, fun b2 nb2 => ?_⟩
          have eb2 : Same H4 (upd H4 b2 (.tup [V.int z, .int ((i : Int) % d)])) := same_new nb2
          have hb2 : (upd H4 b2 (.tup [V.int z, .int ((i : Int) % d)])) b2 = some (.tup ((keyP (z, (i : Int) % d)).map kV)) := upd_same
          have hD5 := eb2 _ _ hD4
          have e5' := e4.trans eb2
          show ∃ (a0 : Addr) (H6 : Hp), _
          generalize upd H4 b2 (.tup [V.int z, .int ((i : Int) % d)]) = H5 at eb2 hb2 hD5 e5' ⊢
          rw [lm] at hi
          refine ⟨D, _, rfl, .inr ⟨kvs, keyP (z, (i : Int) % d), b2, hD5, rfl, hb2, by exact small1000 (by omega), rfl⟩, _, _, rfl, fun y o g => ?_, ?_, _, upd_same, ?_, fun p => ?_⟩
          · rw [upd_ne (ne_of_none g nD)]
            exact e5' _ _ g
          · rw [hps]
            exact List.nodup_append.mpr ⟨nd, by simp, fun x hx y hy e => hnm (by rw [List.mem_singleton.mp hy] at e; rw [← e]; exact hx)⟩
          · have := length_putK kvs (keyP (z, (i : Int) % d)) (V.bl true)
            omega
          · rw [valV_put, hps, List.mem_append, List.mem_singleton]
            by_cases hp : keyP p = keyP (z, (i : Int) % d)
            · rw [if_pos hp]
              exact ⟨fun _ => .inr (keyP_inj hp), fun _ => rfl⟩
            · rw [if_neg hp, mem p]
              exact ⟨.inl, fun y => y.elim id fun y => absurd (congrArg keyP y) hp⟩
    · obtain ⟨v3, v4, rfl, e, nd, kvs, hD2, lk, mem⟩ := h
      rw [lm] at nd
      have := q H' e
      unfold constB at this
      rw [decide_eq_true nd] at this
      exact this
end
end Sg

set_option Elab.async false
set_option linter.all false
set_option maxRecDepth 100000
set_option maxHeartbeats 4000000
namespace Sg
open PySem PySem.Spec PyProof.Rows L2 StX
theorem const_small {ns : List Int} (h : ns.length ≤ 60) {n : Nat} : SmallAll (iD (constTo ns ns.length)) n 60 := by
  refine (SmallAll.ints _ fun y hy => ?_).mono (Nat.le_refl _) (Nat.le_trans (constTo_len ns _) h)
  have := constTo_items hy
  omega
def handA : List Int := [0, 0, -1, -1, -1, -1, 0]
def handB : List Int := [5]
theorem handA_work : IsWork handA := ⟨by decide, by decide, by decide, fun x hx => by cases hx; decide, fun x hx => by cases hx; decide⟩
theorem handB_work : IsWork handB := ⟨by decide, by decide, by decide, fun x hx => by cases hx; decide, fun x hx => by cases hx; decide⟩
theorem handA_const : constTo handA handA.length = [4, 7] := by decide +kernel
theorem handB_const : constTo handB handB.length = [1] := by decide +kernel
def spLaw (K : PySem.W.Frag) : Sp := fun vs H Q _ => ∃ (a : Addr) (ns : List Int), vs = [.ref a] ∧ SqL K H a (ns.map V.int) ∧ ns.length ≤ 63 ∧ ∀ H', Q (.bl true) H'
section
variable {P : Program} {w : World} {K : PySem.W.Frag} {mg : Str → Option Value} {base : Heap}
theorem ok_law {f f1 f2 f3 f4 f5 f6 f7 f8 f9 fs : Addr} {fd fd1 fd2 fd3 fd4 fd5 fd6 fd7 fd8 fd9 fds : FuncData} {k : Nat} (F : Fun K "law" "law" s_law f fd)
    (G1 : FnOk P w K mg base CX0 k f1 fd1 ["_law_script", "_law_k"] (spCell K)) (kp1 : PySem.W.keepIn K (.ref f1) = true) (b1 : Binds K fd1 ["_law_script", "_law_k"] []) (g1 : mg "_law_cell_at" = some (.ref f1))
    (G2 : FnOk P w K mg base CX0 k f2 fd2 ["_law_cell"] spPen) (kp2 : PySem.W.keepIn K (.ref f2) = true) (b2 : Binds K fd2 ["_law_cell"] []) (g2 : mg "_law_pen" = some (.ref f2))
    (G3 : FnOk P w K mg base CX0 k f3 fd3 ["_law_pen_here", "_law_many"] spDraw) (kp3 : PySem.W.keepIn K (.ref f3) = true) (b3 : Binds K fd3 ["_law_pen_here", "_law_many"] []) (g3 : mg "_law_draw" = some (.ref f3))
    (G4 : FnOk P w K mg base CX0 k f4 fd4 ["_law_pen_here", "_law_some"] spPick) (kp4 : PySem.W.keepIn K (.ref f4) = true) (b4 : Binds K fd4 ["_law_pen_here", "_law_some"] []) (g4 : mg "_law_pick" = some (.ref f4))
    (G5 : FnOk P w K mg base CX0 k f5 fd5 ["_law_pen_here", "_law_most"] (spLong K)) (kp5 : PySem.W.keepIn K (.ref f5) = true) (b5 : Binds K fd5 ["_law_pen_here", "_law_most"] []) (g5 : mg "_law_long" = some (.ref f5))
    (G6 : FnOk P w K mg base CX0 k f6 fd6 ["_law_pen_here"] spNames) (kp6 : PySem.W.keepIn K (.ref f6) = true) (b6 : Binds K fd6 ["_law_pen_here"] []) (g6 : mg "_law_names" = some (.ref f6))
    (G7 : FnOk P w K mg base CX0 k f7 fd7 ["_law_pen_here", "_law_names_here", "_law_far", "_law_blocks"] spLWork) (kp7 : PySem.W.keepIn K (.ref f7) = true) (b7 : Binds K fd7 ["_law_pen_here", "_law_names_here", "_law_far", "_law_blocks"] []) (g7 : mg "_law_work" = some (.ref f7))
    (G8 : FnOk P w K mg base CX0 k f8 fd8 ["_law_task", "_law_distance"] (spLConst K)) (kp8 : PySem.W.keepIn K (.ref f8) = true) (b8 : Binds K fd8 ["_law_task", "_law_distance"] []) (g8 : mg "_law_is_constant" = some (.ref f8))
    (G9 : FnOk P w K mg base CX0 k f9 fd9 ["work"] (spConstants K)) (kp9 : PySem.W.keepIn K (.ref f9) = true) (b9 : Binds K fd9 ["work"] []) (g9 : mg "constants" = some (.ref f9))
    (Gs : FnG P w K mg base k fs fds ["_law_found", "_law_due"] (spSame K)) (kps : PySem.W.keepIn K (.ref fs) = true) (bs : Binds K fds ["_law_found", "_law_due"] []) (gs : mg "_law_same" = some (.ref fs))
    (kb : KBinds K fd9 ["work"] ["work"] kwI kwI)
    (m1 : mg "len" = none) (m2 : mg "range" = none) (m3 : mg "tuple" = none) (m4 : mg "list" = none) (m5 : mg "max" = none) (m6 : mg "min" = none) : FnG P w K mg base (k + 1) f fd ["_law_script"] (spLaw K) := by
  refine fnG_mk F sc_law (fun vs H Q h => ?_) (fun cdv A outer s H vs Q hgd hr h => ?_)
  · obtain ⟨a, ns, rfl, _⟩ := h; rfl
  · obtain ⟨a, ns, rfl, hS, hlen, q⟩ := h
    have hu := hr.units
    refine ⟨_, pss_cons (ps_for PassesOwn.never rfl (pi_range1 (by rfl) m2 (pa_cons (pe_callB (call_max2 rfl) (by rfl) m5 (by decide +kernel) (pa_cons pe_int (pa_cons (pe_callB (call_min2 rfl) (by rfl) m6 (by decide +kernel) (pa_cons (pe_callB call_len_seq (by rfl) m1 PySem.boot_len (pa_cons (pv 0) pa_nil)) (pa_cons pe_int pa_nil))) pa_nil))) pa_nil)) (pg_name (i := 1) sc_law.nd rfl (.inl rfl))
          (pss_cons (ps_set (i := 2) sc_law.nd rfl (.inl rfl) (pe_call G2 hr (by rfl) g2 kp2 b2 .nil pass0 (pa_cons (pe_call G1 hr (by rfl) g1 kp1 b1 .nil pass0 (pa_cons (pv 0) (pa_cons (pv 1) pa_nil))) pa_nil)))
          (pss_cons (ps_set (i := 3) sc_law.nd rfl (.inl rfl) (pe_callTy call_list_of (by rfl) m4 (by decide +kernel) (pa_cons (pe_call G5 hr (by rfl) g5 kp5 b5 .nil pass0 (pa_cons (pv 2) (pa_cons (pe_call G4 hr (by rfl) g4 kp4 b4 .nil pass0 (pa_cons (pv 2) (pa_cons (pe_lst (pa_cons pe_int (pa_cons pe_int (pa_cons pe_int pa_nil)))) pa_nil))) pa_nil))) pa_nil)))
          (pss_cons (ps_expr (pe_bm PySem.F.plainAttrs_list PySem.F.slot_list_append PySem.F.type_list_append mt_append (pv 3) (pa_cons (pe_call G7 hr (by rfl) g7 kp7 b7 .nil pass0 (pa_cons (pv 2) (pa_cons (pe_call G6 hr (by rfl) g6 kp6 b6 .nil pass0 (pa_cons (pv 2) pa_nil))
              (pa_cons (pe_call G3 hr (by rfl) g3 kp3 b3 .nil pass0 (pa_cons (pv 2) (pa_cons pe_int pa_nil))) (pa_cons pe_int pa_nil))))) pa_nil)))
          (pss_one (ps_for PassesOwn.never rfl (pi_list (pv 3)) (pg_name (i := 4) sc_law.nd rfl (.inr rfl))
            (pss_cons (ps_setLc (i := 5) (own := [("_law_far", 6)]) (g := gName 6) (by rfl) sc_law.nd rfl rfl (sw_true rfl rfl rfl (by decide +kernel)) (pi_range2 (by rfl) m2 (pa_cons pe_int (pa_cons (pe_op op_add (pe_callB call_len_seq (by rfl) m1 PySem.boot_len (pa_cons (pv 4) pa_nil)) pe_int) pa_nil)))
                (blkOk_by (N := ["_law_script", "_law_k", "_law_pen_here", "_law_works", "_law_task", "_law_due", "_law_far", "_law_again"]) (sc := defScope s_law) (by decide +kernel))
                (fun _ _ _ _ _ => pg_name (i := 6) sc_law.nd rfl (Or.inl rfl))
                (fun _ _ _ _ _ => pts_one (pt_val (pe_call G8 hr (by rfl) g8 kp8 b8 .nil pass0 (pa_cons (pv 4) (pa_cons (pv 6) pa_nil)))))
                (fun _ _ _ _ _ => pv 6))
            (pss_cons (ps_for PassesOwn.never rfl (pi_range1 (by rfl) m2 (pa_cons pe_int pa_nil)) (pg_name (i := 7) sc_law.nd rfl (.inl rfl))
              (pss_one (ps_if (pt_not (pt_val (pe_callG Gs hgd hr (by rfl) gs kps bs (pa_cons (pe_call G9 hr (by rfl) g9 kp9 b9 .nil pass0 (pa_cons (pv 4) pa_nil)) (pa_cons (pe_callTy call_tuple_of (by rfl) m3 (by decide +kernel) (pa_cons (pv 5) pa_nil)) pa_nil))))) (pss_one (ps_ret pe_bl)) pss_nil)))
            (pss_one (ps_if (pt_not (pt_val (pe_callG Gs hgd hr (by rfl) gs kps bs (pa_cons (pe_callK0 G9 hr (by rfl) g9 kp9 kb pass0 (pk_cons (pv 4) pk_nil)) (pa_cons (pe_callTy call_tuple_of (by rfl) m3 (by decide +kernel) (pa_cons (pv 5) pa_nil)) pa_nil))))) (pss_one (ps_ret pe_bl)) pss_nil))))))))))
        (pss_one (ps_ret (pe_and (pe_cmpR (op_eqD hu) (pe_call G9 hr (by rfl) g9 kp9 b9 .nil pass0 (pa_cons (pe_tup (pa_cons pe_int (pa_cons pe_int (pa_cons (pe_un un_neg pe_int) (pa_cons (pe_un un_neg pe_int) (pa_cons (pe_un un_neg pe_int) (pa_cons (pe_un un_neg pe_int) (pa_cons pe_int pa_nil)))))))) pa_nil)) (pe_tup (pa_cons pe_int (pa_cons pe_int pa_nil))) (nomark _))
          (pe_one (pe_cmpR (op_eqD hu) (pe_call G9 hr (by rfl) g9 kp9 b9 .nil pass0 (pa_cons (pe_tup (pa_cons pe_int pa_nil)) pa_nil)) (pe_tup (pa_cons pe_int pa_nil)) (nomark _)))))), ?_⟩
    have l63 : ((ns.map V.int).length : Int) ≤ 63 := by rw [List.length_map]; omega
    refine ⟨.ref a, rfl, a, _, rfl, .inl hS, _, 5, rfl, 1, _, rfl, ?_⟩
    obtain ⟨N, hN, hN0, hN4⟩ : ∃ N : Int, (if (if (5 : Int) < ((ns.map V.int).length : Nat) then (5 : Int) else ((ns.map V.int).length : Nat)) > 1 then (if (5 : Int) < ((ns.map V.int).length : Nat) then (5 : Int) else ((ns.map V.int).length : Nat)) else 1) = N ∧ 0 ≤ N ∧ N ≤ 5 := by
      refine ⟨_, rfl, ?_, ?_⟩
      · split <;> split <;> omega
      · split <;> split <;> omega
    rw [hN]
    refine ⟨N, rfl, by omega, by omega, ?_⟩
    refine for_range (lo := 0) (n := N.toNat) (fun i σ H' => ∃ v1 v2 v3 v4 v5 v6 v7, σ = [some (.ref a), v1, v2, v3, v4, v5, v6, v7] ∧ Same H H') ⟨_, _, _, _, _, _, _, rfl, fun _ _ z => z⟩ ?_ ?_
    · rintro i σ H1 hi ⟨v1, v2, v3, v4, v5, v6, v7, rfl, e1⟩
      refine ⟨.ref a, rfl, .int (0 + i), rfl, a, ns, i, by rw [Int.zero_add]; rfl, e1.seq hS, fun cell => ?_⟩
      refine ⟨cell, rfl, fun H2 p np s2 p2 => ?_⟩
      have npH : H p = none := freeS e1 np
      have o2 : Same H H2 := e1.trans s2
      refine ⟨.ref p, rfl, .ref p, rfl, by show 3 ≤ sizeLine; decide, fun l nl => ⟨p, l, [4, 12, 60], rfl, p2.new nl, (p2.ne nl).symm, upd_same, by decide, by decide, fun H3 mo hmo p3 b3' => ?_⟩⟩
      have c3 : But p H2 H3 := (But.of (same_new nl)).trans b3'
      have hmo1 : 1 ≤ mo ∧ mo ≤ 60 := by
        have h3 : ∀ z ∈ ([4, 12, 60] : List Int), 1 ≤ z ∧ z ≤ 60 := by decide
        exact h3 mo hmo
      refine ⟨p, mo, rfl, p3, hmo1.1, hmo1.2, fun H4 t ws p4 b4 nt hT gw => ?_⟩
      obtain ⟨_, xs, et, hSt, hTx⟩ := hT.toTup
      cases et
      refine ⟨t, xs, rfl, .inr hSt, fun L nL => ?_⟩
      have c4 : But p H2 (L2.upd H4 L (.lst xs)) := (c3.trans b4).trans (.of (same_new nL))
      have hL4 : (L2.upd H4 L (.lst xs)) L = some (.lst xs) := upd_same
      have p4' := p4.new (o := .lst xs) nL
      have nLp : L ≠ p := (p4.ne nL).symm
      have nLH : H L = none := freeS o2 (p2.free p4 (c3.trans b4) nL)
      have hTx4 := hTx.stay (.of (same_new (o := .lst xs) nL))
      have lx := hTx.len
      rw [List.length_map] at lx
      have few := gw.few
      generalize L2.upd H4 L (.lst xs) = H5 at c4 hL4 p4' hTx4 ⊢
      refine ⟨.ref L, rfl, .inl ⟨rfl, _, .of hL4⟩, .ref p, rfl, .ref p, rfl, p, rfl, p4', fun H6 nmA nn p6 b6 nnm nnp hnm lnn inn => ?_⟩
      refine ⟨.ref p, rfl, p, 20, rfl, p6, by decide, by decide, fun H7 far far0 far1 p7 b7' => ?_⟩
      refine ⟨p, nmA, nn, far, 3, rfl, p7, nnp, b7' _ _ nnp hnm, lnn, inn, far0, by omega, by decide, by decide, fun H8 t2 its p8 b8 nt2 ht2 hk => ?_⟩
      have c58 : But p H5 H8 := (b6.trans b7').trans b8
      have hL8 := c58 _ _ nLp hL4
      have hTx8 := hTx4.stay (.pen c58 p4')
      refine ⟨L, _, _, rfl, rfl, hL8, by exact small1000 (by omega), ?_⟩
      have nt2L : t2 ≠ L := fun z => by rw [z, hL8] at ht2; exact nomatch ht2
      have all9 : ∀ v ∈ xs ++ [V.ref t2], ∃ u is, v = .ref u ∧ SqT K (L2.upd H8 L (.lst (xs ++ [V.ref t2]))) u (is.map V.int) ∧ IsWork is := by
        intro v hv
        rcases List.mem_append.mp hv with h | h
        · obtain ⟨j, hj⟩ := List.mem_iff_getElem?.mp h
          obtain ⟨x, u, hx, rfl, hu⟩ := hTx8.works hj
          exact ⟨u, x, rfl, tup_upd hL8 (fun _ z => nomatch z) (fun _ _ z => nomatch z) hu, gw.mem hx⟩
        · rw [List.mem_singleton.mp h]
          exact ⟨t2, its, rfl, .of (by rw [upd_ne nt2L]; exact ht2), hk⟩
      have o9 : Same H (L2.upd H8 L (.lst (xs ++ [V.ref t2]))) := fun b o h => by
        rw [upd_ne (ne_of_none h nLH)]
        exact c58 _ _ (ne_of_none h npH) (c4 _ _ (ne_of_none h npH) (o2 _ _ h))
      have hL9 : (L2.upd H8 L (.lst (xs ++ [V.ref t2]))) L = some (.lst (xs ++ [V.ref t2])) := upd_same
      generalize L2.upd H8 L (.lst (xs ++ [V.ref t2])) = H9 at all9 o9 hL9 ⊢
      clear c58 hL8 hTx8 c4 hL4 p4' hTx4 b8 b7' b6
      refine ⟨.ref L, rfl, L, rfl, ⟨_, .of hL9⟩, ?_⟩
      refine for_list (xs := xs ++ [V.ref t2]) (fun m σ H' => ∃ v4 v5 v6 v7, σ = [some (.ref a), some (.int (0 + i)), some (.ref p), some (.ref L), v4, v5, v6, v7] ∧ Same H9 H') ⟨_, _, _, _, rfl, fun _ _ z => z⟩ (fun m σ H' _ h => ?_) (fun m v σ H' hv h => ?_) (fun σ H' h => ?_)
      · obtain ⟨_, _, _, _, _, e⟩ := h
        exact .of (e _ _ hL9)
      · obtain ⟨v4, v5, v6, v7, rfl, eM⟩ := h
        obtain ⟨u, is, rfl, hu9, hw⟩ := all9 v (List.mem_of_getElem? hv)
        have most := hw.most
        have huM := Same.tup eM hu9
        have lm : (is.map V.int).length = is.length := List.length_map _
        refine ⟨.ref u, rfl, u, _, rfl, .inr huM, _, 1, rfl, rfl, 1, (((is.map V.int).length : Nat) : Int) + 1, rfl, ⟨by omega, by omega, by omega, by omega⟩, fun D hD => ?_⟩
        have en : ((((is.map V.int).length : Nat) : Int) + 1 - 1).toNat = is.length := by rw [lm]; omega
        rw [en]
        refine lc_range (lo := 1) (n := is.length) (fun j H'' => Same H' H'' ∧ H'' D = some (.lst ((constTo is j).map V.int))) ⟨same_new hD, upd_same⟩ (fun j H'' hj h => ?_) (fun H'' h => ?_)
        · obtain ⟨e2, hD2⟩ := h
          refine ⟨rfl, .ref u, rfl, .int (1 + (j : Nat)), rfl, u, is, 1 + (j : Nat), rfl, Same.tup e2 huM, by omega, by omega, fun H3' e3 => ⟨_, rfl, ?_⟩⟩
          rw [constTo_succ]
          have hD3 := e3 _ _ hD2
          by_cases hc : constB is (1 + (j : Int)) = true
          · rw [hc, if_pos rfl]
            refine iteT ⟨_, rfl, _, hD3, ?_, fun b o e => ?_, ?_⟩
            · rw [List.length_map]
              have := constTo_len is j
              exact small1000 (by omega)
            · rw [upd_ne (ne_of_none e hD)]
              exact e3 _ _ (e2 _ _ e)
            · rw [upd_same, List.map_append]; rfl
          · have hc' : constB is (1 + (j : Int)) = false := by cases z : constB is (1 + (j : Int)) <;> simp_all
            rw [hc', if_neg (by decide), List.append_nil]
            exact iteF ⟨e2.trans e3, hD3⟩
        · obtain ⟨e2, hD2⟩ := h
          have sm : Small (tD (constTo is is.length)) 2 60 := Small.tuple (n := 1) (const_small most)
          refine ⟨2, rfl, by decide, by decide, ?_⟩
          refine for_range (lo := 0) (n := 2) (fun j σ H3' => ∃ v6 v7, σ = [some (.ref a), some (.int (0 + i)), some (.ref p), some (.ref L), some (.ref u), some (.ref D), v6, v7] ∧ Same H'' H3') ⟨_, _, rfl, fun _ _ z => z⟩ ?_ ?_
          · rintro j σ H3' hj ⟨v6, v7, rfl, e3⟩
            refine ⟨.ref u, rfl, u, is, rfl, Same.tup (e2.trans e3) huM, hw, fun H4' t' e4 nt' ht' => ?_⟩
            refine ⟨.ref D, rfl, D, _, rfl, .inl ⟨.of ((e3.trans e4) _ _ hD2), fun t3 nt3 => ?_⟩⟩
            exact ⟨t', t3, tD (constTo is is.length), rfl, .tup (.of (same_new nt3 _ _ ht')) (dpInts _), .tup (.of upd_same) (dpInts _), sm.shows (by decide) (by decide), true, rfl, iteF ⟨_, _, rfl, (e3.trans e4).trans (same_new nt3)⟩⟩
          · rintro σ H3' ⟨v6, v7, rfl, e3⟩
            refine ⟨.ref u, rfl, u, is, rfl, Same.tup (e2.trans e3) huM, hw, fun H4' t' e4 nt' ht' => ?_⟩
            refine ⟨.ref D, rfl, D, _, rfl, .inl ⟨.of ((e3.trans e4) _ _ hD2), fun t3 nt3 => ?_⟩⟩
            exact ⟨t', t3, tD (constTo is is.length), rfl, .tup (.of (same_new nt3 _ _ ht')) (dpInts _), .tup (.of upd_same) (dpInts _), sm.shows (by decide) (by decide), true, rfl, iteF ⟨_, _, _, _, rfl, eM.trans (e2.trans ((e3.trans e4).trans (same_new nt3)))⟩⟩
      · obtain ⟨v4, v5, v6, v7, rfl, eM⟩ := h
        exact ⟨_, _, _, _, _, _, _, rfl, o9.trans eM⟩
    · rintro σ H1 ⟨v1, v2, v3, v4, v5, v6, v7, rfl, e1⟩
      refine ⟨1, rfl, 1, rfl, 1, rfl, 1, rfl, by show 7 ≤ sizeLine; decide, fun o no => ⟨o, handA, rfl, .of upd_same, handA_work, fun H2 t e2 nt ht => ⟨by show 2 ≤ sizeLine; decide, fun c nc => ?_⟩⟩⟩
      rw [handA_const] at ht
      refine ⟨tD [4, 7], tD [4, 7], .tup (.of (same_new nc _ _ ht)) (dpInts [4, 7]), .tup (.of upd_same) (dpInts [4, 7]), shaped_tD _, shaped_tD _, ?_⟩
      rw [eqv_tD, decide_eq_true rfl]
      refine ⟨true, rfl, iteT ?_⟩
      refine ⟨by show 1 ≤ sizeLine; decide, fun o' no' => ⟨o', handB, rfl, .of upd_same, handB_work, fun H2' t' e2' nt' ht' => ⟨by show 1 ≤ sizeLine; decide, fun c' nc' => ?_⟩⟩⟩
      rw [handB_const] at ht'
      refine ⟨tD [1], tD [1], .tup (.of (same_new nc' _ _ ht')) (dpInts [1]), .tup (.of upd_same) (dpInts [1]), shaped_tD _, shaped_tD _, ?_⟩
      rw [eqv_tD, decide_eq_true rfl]
      exact q _
end
end Sg

set_option Elab.async false
set_option linter.all false
set_option maxRecDepth 100000
set_option maxHeartbeats 4000000
namespace Sg
open PySem PySem.Spec PyProof.Rows L2 StX
theorem all_mk {l : PySem.W.OpenLaw} {w : World} {K : PySem.W.Frag} {h : Heap} {mg : Str → Option Value} {fa fd0 fd1 fd2 fd3 fd4 fd5 fd6 fd7 fd8 fd9 fd10 fd11 fd12 fd13 fd14 fd15 : Addr} {tu_NOWHERE tu_STATIONS tu_MOST_ITEMS : Tok} {odd0 and0 odd1 and1 odd2 and2 odd3 and3 odd4 and4 odd5 and5 odd6 and6 odd7 and7 odd8 and8 odd9 and9 odd10 and10 odd11 and11 odd12 and12 odd13 and13 odd14 and14 odd15 and15 : Option Addr} {sld0 sld1 sld2 sld3 sld4 sld5 sld6 sld7 sld8 sld9 sld10 sld11 sld12 sld13 sld14 sld15 : Array (Option Value)} {ocd0 kVd0 dcd0 pmd0 cdd0 ctd0 ocd1 kVd1 dcd1 pmd1 cdd1 ctd1 ocd2 kVd2 dcd2 pmd2 cdd2 ctd2 ocd3 kVd3 dcd3 pmd3 cdd3 ctd3 ocd4 kVd4 dcd4 pmd4 cdd4 ctd4 ocd5 kVd5 dcd5 pmd5 cdd5 ctd5 ocd6 kVd6 dcd6 pmd6 cdd6 ctd6 ocd7 kVd7 dcd7 pmd7 cdd7 ctd7 ocd8 kVd8 dcd8 pmd8 cdd8 ctd8 ocd9 kVd9 dcd9 pmd9 cdd9 ctd9 ocd10 kVd10 dcd10 pmd10 cdd10 ctd10 ocd11 kVd11 dcd11 pmd11 cdd11 ctd11 ocd12 kVd12 dcd12 pmd12 cdd12 ctd12 ocd13 kVd13 dcd13 pmd13 cdd13 ctd13 ocd14 kVd14 dcd14 pmd14 cdd14 ctd14 ocd15 kVd15 dcd15 pmd15 cdd15 ctd15 : Value} (X : K.In h) (G : h.Ns mainGlobals mg) (hfa : mg "law" = some (.ref fa))
    (ad0 : PySem.W.nsIn K mainGlobals "is_int" = some (some (.ref fd0)))
    (ld0 : K.lookup fd0 = some ⟨ocd0, odd0, .func (PySem.W.fnOf "is_int" "is_int" (defArgs s_is_int) (defBody s_is_int) (defScope s_is_int) .none kVd0 dcd0 pmd0 and0 cdd0 ctd0), sld0⟩)
    (cd0 : PySem.W.codeIn K cdd0 "is_int" = true)
    (kd0 : PySem.W.keepIn K (.ref fd0) = true)
    (ad1 : PySem.W.nsIn K mainGlobals "is_between" = some (some (.ref fd1)))
    (ld1 : K.lookup fd1 = some ⟨ocd1, odd1, .func (PySem.W.fnOf "is_between" "is_between" (defArgs s_is_between) (defBody s_is_between) (defScope s_is_between) .none kVd1 dcd1 pmd1 and1 cdd1 ctd1), sld1⟩)
    (cd1 : PySem.W.codeIn K cdd1 "is_between" = true)
    (kd1 : PySem.W.keepIn K (.ref fd1) = true)
    (ad2 : PySem.W.nsIn K mainGlobals "is_work" = some (some (.ref fd2)))
    (ld2 : K.lookup fd2 = some ⟨ocd2, odd2, .func (PySem.W.fnOf "is_work" "is_work" (defArgs s_is_work) (defBody s_is_work) (defScope s_is_work) .none kVd2 dcd2 pmd2 and2 cdd2 ctd2), sld2⟩)
    (cd2 : PySem.W.codeIn K cdd2 "is_work" = true)
    (kd2 : PySem.W.keepIn K (.ref fd2) = true)
    (ad3 : PySem.W.nsIn K mainGlobals "require_work" = some (some (.ref fd3)))
    (ld3 : K.lookup fd3 = some ⟨ocd3, odd3, .func (PySem.W.fnOf "require_work" "require_work" (defArgs s_require_work) (defBody s_require_work) (defScope s_require_work) .none kVd3 dcd3 pmd3 and3 cdd3 ctd3), sld3⟩)
    (cd3 : PySem.W.codeIn K cdd3 "require_work" = true)
    (kd3 : PySem.W.keepIn K (.ref fd3) = true)
    (ad4 : PySem.W.nsIn K mainGlobals "constants" = some (some (.ref fd4)))
    (ld4 : K.lookup fd4 = some ⟨ocd4, odd4, .func (PySem.W.fnOf "constants" "constants" (defArgs s_constants) (defBody s_constants) (defScope s_constants) .none kVd4 dcd4 pmd4 and4 cdd4 ctd4), sld4⟩)
    (cd4 : PySem.W.codeIn K cdd4 "constants" = true)
    (kd4 : PySem.W.keepIn K (.ref fd4) = true)
    (ad5 : PySem.W.nsIn K mainGlobals "is_constant" = some (some (.ref fd5)))
    (ld5 : K.lookup fd5 = some ⟨ocd5, odd5, .func (PySem.W.fnOf "is_constant" "is_constant" (defArgs s_is_constant) (defBody s_is_constant) (defScope s_is_constant) .none kVd5 dcd5 pmd5 and5 cdd5 ctd5), sld5⟩)
    (cd5 : PySem.W.codeIn K cdd5 "is_constant" = true)
    (kd5 : PySem.W.keepIn K (.ref fd5) = true)
    (ad6 : PySem.W.nsIn K mainGlobals "_law_cell_at" = some (some (.ref fd6)))
    (ld6 : K.lookup fd6 = some ⟨ocd6, odd6, .func (PySem.W.fnOf "_law_cell_at" "_law_cell_at" (defArgs s_l_cell_at) (defBody s_l_cell_at) (defScope s_l_cell_at) .none kVd6 dcd6 pmd6 and6 cdd6 ctd6), sld6⟩)
    (cd6 : PySem.W.codeIn K cdd6 "_law_cell_at" = true)
    (kd6 : PySem.W.keepIn K (.ref fd6) = true)
    (ad7 : PySem.W.nsIn K mainGlobals "_law_pen" = some (some (.ref fd7)))
    (ld7 : K.lookup fd7 = some ⟨ocd7, odd7, .func (PySem.W.fnOf "_law_pen" "_law_pen" (defArgs s_l_pen) (defBody s_l_pen) (defScope s_l_pen) .none kVd7 dcd7 pmd7 and7 cdd7 ctd7), sld7⟩)
    (cd7 : PySem.W.codeIn K cdd7 "_law_pen" = true)
    (kd7 : PySem.W.keepIn K (.ref fd7) = true)
    (ad8 : PySem.W.nsIn K mainGlobals "_law_draw" = some (some (.ref fd8)))
    (ld8 : K.lookup fd8 = some ⟨ocd8, odd8, .func (PySem.W.fnOf "_law_draw" "_law_draw" (defArgs s_l_draw) (defBody s_l_draw) (defScope s_l_draw) .none kVd8 dcd8 pmd8 and8 cdd8 ctd8), sld8⟩)
    (cd8 : PySem.W.codeIn K cdd8 "_law_draw" = true)
    (kd8 : PySem.W.keepIn K (.ref fd8) = true)
    (ad9 : PySem.W.nsIn K mainGlobals "_law_pick" = some (some (.ref fd9)))
    (ld9 : K.lookup fd9 = some ⟨ocd9, odd9, .func (PySem.W.fnOf "_law_pick" "_law_pick" (defArgs s_l_pick) (defBody s_l_pick) (defScope s_l_pick) .none kVd9 dcd9 pmd9 and9 cdd9 ctd9), sld9⟩)
    (cd9 : PySem.W.codeIn K cdd9 "_law_pick" = true)
    (kd9 : PySem.W.keepIn K (.ref fd9) = true)
    (ad10 : PySem.W.nsIn K mainGlobals "_law_same" = some (some (.ref fd10)))
    (ld10 : K.lookup fd10 = some ⟨ocd10, odd10, .func (PySem.W.fnOf "_law_same" "_law_same" (defArgs s_l_same) (defBody s_l_same) (defScope s_l_same) .none kVd10 dcd10 pmd10 and10 cdd10 ctd10), sld10⟩)
    (cd10 : PySem.W.codeIn K cdd10 "_law_same" = true)
    (kd10 : PySem.W.keepIn K (.ref fd10) = true)
    (ad11 : PySem.W.nsIn K mainGlobals "_law_names" = some (some (.ref fd11)))
    (ld11 : K.lookup fd11 = some ⟨ocd11, odd11, .func (PySem.W.fnOf "_law_names" "_law_names" (defArgs s_l_names) (defBody s_l_names) (defScope s_l_names) .none kVd11 dcd11 pmd11 and11 cdd11 ctd11), sld11⟩)
    (cd11 : PySem.W.codeIn K cdd11 "_law_names" = true)
    (kd11 : PySem.W.keepIn K (.ref fd11) = true)
    (ad12 : PySem.W.nsIn K mainGlobals "_law_work" = some (some (.ref fd12)))
    (ld12 : K.lookup fd12 = some ⟨ocd12, odd12, .func (PySem.W.fnOf "_law_work" "_law_work" (defArgs s_l_work) (defBody s_l_work) (defScope s_l_work) .none kVd12 dcd12 pmd12 and12 cdd12 ctd12), sld12⟩)
    (cd12 : PySem.W.codeIn K cdd12 "_law_work" = true)
    (kd12 : PySem.W.keepIn K (.ref fd12) = true)
    (ad13 : PySem.W.nsIn K mainGlobals "_law_long" = some (some (.ref fd13)))
    (ld13 : K.lookup fd13 = some ⟨ocd13, odd13, .func (PySem.W.fnOf "_law_long" "_law_long" (defArgs s_l_long) (defBody s_l_long) (defScope s_l_long) .none kVd13 dcd13 pmd13 and13 cdd13 ctd13), sld13⟩)
    (cd13 : PySem.W.codeIn K cdd13 "_law_long" = true)
    (kd13 : PySem.W.keepIn K (.ref fd13) = true)
    (ad14 : PySem.W.nsIn K mainGlobals "_law_is_constant" = some (some (.ref fd14)))
    (ld14 : K.lookup fd14 = some ⟨ocd14, odd14, .func (PySem.W.fnOf "_law_is_constant" "_law_is_constant" (defArgs s_l_is_constant) (defBody s_l_is_constant) (defScope s_l_is_constant) .none kVd14 dcd14 pmd14 and14 cdd14 ctd14), sld14⟩)
    (cd14 : PySem.W.codeIn K cdd14 "_law_is_constant" = true)
    (kd14 : PySem.W.keepIn K (.ref fd14) = true)
    (ad15 : PySem.W.nsIn K mainGlobals "law" = some (some (.ref fd15)))
    (ld15 : K.lookup fd15 = some ⟨ocd15, odd15, .func (PySem.W.fnOf "law" "law" (defArgs s_law) (defBody s_law) (defScope s_law) .none kVd15 dcd15 pmd15 and15 cdd15 ctd15), sld15⟩)
    (cd15 : PySem.W.codeIn K cdd15 "law" = true)
    (kd15 : PySem.W.keepIn K (.ref fd15) = true)
    (z_isinstance : PySem.W.nsIn K mainGlobals "isinstance" = some none)
    (z_int : PySem.W.nsIn K mainGlobals "int" = some none)
    (z_bool : PySem.W.nsIn K mainGlobals "bool" = some none)
    (z_tuple : PySem.W.nsIn K mainGlobals "tuple" = some none)
    (z_len : PySem.W.nsIn K mainGlobals "len" = some none)
    (z_all : PySem.W.nsIn K mainGlobals "all" = some none)
    (z_range : PySem.W.nsIn K mainGlobals "range" = some none)
    (z_max : PySem.W.nsIn K mainGlobals "max" = some none)
    (z_min : PySem.W.nsIn K mainGlobals "min" = some none)
    (z_list : PySem.W.nsIn K mainGlobals "list" = some none)
    (z_enumerate : PySem.W.nsIn K mainGlobals "enumerate" = some none)
    (z_set : PySem.W.nsIn K mainGlobals "set" = some none)
    (z_repr : PySem.W.nsIn K mainGlobals "repr" = some none)
    (u_NOWHERE : PySem.W.nsIn K mainGlobals "NOWHERE" = some (some (.int (-1) tu_NOWHERE)))
    (u_STATIONS : PySem.W.nsIn K mainGlobals "STATIONS" = some (some (.int (10) tu_STATIONS)))
    (u_MOST_ITEMS : PySem.W.nsIn K mainGlobals "MOST_ITEMS" = some (some (.int (60) tu_MOST_ITEMS))) :
    ∃ fd : FuncData, (∀ (s : Shared) (v : Value), BindsTo s fd ⟨[v], []⟩ [("_law_script", v)]) ∧ ∀ base : Heap, K.In base → base.Ns mainGlobals mg → FnG l.prog w K mg base 8 fa fd ["_law_script"] (spLaw K) := by
  have e := hfa.symm.trans (PySem.W.mg_of X G ad15)
  cases e
  have y_isinstance := PySem.W.mg_none_of X G z_isinstance
  have y_int := PySem.W.mg_none_of X G z_int
  have y_bool := PySem.W.mg_none_of X G z_bool
  have y_tuple := PySem.W.mg_none_of X G z_tuple
  have y_len := PySem.W.mg_none_of X G z_len
  have y_all := PySem.W.mg_none_of X G z_all
  have y_range := PySem.W.mg_none_of X G z_range
  have y_max := PySem.W.mg_none_of X G z_max
  have y_min := PySem.W.mg_none_of X G z_min
  have y_list := PySem.W.mg_none_of X G z_list
  have y_enumerate := PySem.W.mg_none_of X G z_enumerate
  have y_set := PySem.W.mg_none_of X G z_set
  have y_repr := PySem.W.mg_none_of X G z_repr
  have Fd0 := fun_mk (st := s_is_int) ld0 cd0 kd0
  have bd0 := Fd0.binds (ps := ["thing"]) fun _ _ _ _ _ _ us hl => match us, hl with | [_], _ => rfl
  have vd0 := PySem.W.mg_of X G ad0
  have Fd1 := fun_mk (st := s_is_between) ld1 cd1 kd1
  have bd1 := Fd1.binds (ps := ["thing", "least", "most"]) fun _ _ _ _ _ _ us hl => match us, hl with | [_, _, _], _ => rfl
  have vd1 := PySem.W.mg_of X G ad1
  have Fd2 := fun_mk (st := s_is_work) ld2 cd2 kd2
  have bd2 := Fd2.binds (ps := ["thing"]) fun _ _ _ _ _ _ us hl => match us, hl with | [_], _ => rfl
  have vd2 := PySem.W.mg_of X G ad2
  have Fd3 := fun_mk (st := s_require_work) ld3 cd3 kd3
  have bd3 := Fd3.binds (ps := ["thing"]) fun _ _ _ _ _ _ us hl => match us, hl with | [_], _ => rfl
  have vd3 := PySem.W.mg_of X G ad3
  have Fd4 := fun_mk (st := s_constants) ld4 cd4 kd4
  have bd4 := Fd4.binds (ps := ["work"]) fun _ _ _ _ _ _ us hl => match us, hl with | [_], _ => rfl
  have vd4 := PySem.W.mg_of X G ad4
  have Fd5 := fun_mk (st := s_is_constant) ld5 cd5 kd5
  have bd5 := Fd5.binds (ps := ["items", "distance"]) fun _ _ _ _ _ _ us hl => match us, hl with | [_, _], _ => rfl
  have vd5 := PySem.W.mg_of X G ad5
  have Fd6 := fun_mk (st := s_l_cell_at) ld6 cd6 kd6
  have bd6 := Fd6.binds (ps := ["_law_script", "_law_k"]) fun _ _ _ _ _ _ us hl => match us, hl with | [_, _], _ => rfl
  have vd6 := PySem.W.mg_of X G ad6
  have Fd7 := fun_mk (st := s_l_pen) ld7 cd7 kd7
  have bd7 := Fd7.binds (ps := ["_law_cell"]) fun _ _ _ _ _ _ us hl => match us, hl with | [_], _ => rfl
  have vd7 := PySem.W.mg_of X G ad7
  have Fd8 := fun_mk (st := s_l_draw) ld8 cd8 kd8
  have bd8 := Fd8.binds (ps := ["_law_pen_here", "_law_many"]) fun _ _ _ _ _ _ us hl => match us, hl with | [_, _], _ => rfl
  have vd8 := PySem.W.mg_of X G ad8
  have Fd9 := fun_mk (st := s_l_pick) ld9 cd9 kd9
  have bd9 := Fd9.binds (ps := ["_law_pen_here", "_law_some"]) fun _ _ _ _ _ _ us hl => match us, hl with | [_, _], _ => rfl
  have vd9 := PySem.W.mg_of X G ad9
  have Fd10 := fun_mk (st := s_l_same) ld10 cd10 kd10
  have bd10 := Fd10.binds (ps := ["_law_found", "_law_due"]) fun _ _ _ _ _ _ us hl => match us, hl with | [_, _], _ => rfl
  have vd10 := PySem.W.mg_of X G ad10
  have Fd11 := fun_mk (st := s_l_names) ld11 cd11 kd11
  have bd11 := Fd11.binds (ps := ["_law_pen_here"]) fun _ _ _ _ _ _ us hl => match us, hl with | [_], _ => rfl
  have vd11 := PySem.W.mg_of X G ad11
  have Fd12 := fun_mk (st := s_l_work) ld12 cd12 kd12
  have bd12 := Fd12.binds (ps := ["_law_pen_here", "_law_names_here", "_law_far", "_law_blocks"]) fun _ _ _ _ _ _ us hl => match us, hl with | [_, _, _, _], _ => rfl
  have vd12 := PySem.W.mg_of X G ad12
  have Fd13 := fun_mk (st := s_l_long) ld13 cd13 kd13
  have bd13 := Fd13.binds (ps := ["_law_pen_here", "_law_most"]) fun _ _ _ _ _ _ us hl => match us, hl with | [_, _], _ => rfl
  have vd13 := PySem.W.mg_of X G ad13
  have Fd14 := fun_mk (st := s_l_is_constant) ld14 cd14 kd14
  have bd14 := Fd14.binds (ps := ["_law_task", "_law_distance"]) fun _ _ _ _ _ _ us hl => match us, hl with | [_, _], _ => rfl
  have vd14 := PySem.W.mg_of X G ad14
  have Fd15 := fun_mk (st := s_law) ld15 cd15 kd15
  have bd15 := Fd15.binds (ps := ["_law_script"]) fun _ _ _ _ _ _ us hl => match us, hl with | [_], _ => rfl
  have vd15 := PySem.W.mg_of X G ad15
  have N_NOWHERE : ∃ t, mg "NOWHERE" = some (.int (-1) t) := ⟨_, PySem.W.mg_of X G u_NOWHERE⟩
  have N_STATIONS : ∃ t, mg "STATIONS" = some (.int (10) t) := ⟨_, PySem.W.mg_of X G u_STATIONS⟩
  have N_MOST_ITEMS : ∃ t, mg "MOST_ITEMS" = some (.int (60) t) := ⟨_, PySem.W.mg_of X G u_MOST_ITEMS⟩
  refine ⟨PySem.W.fnOf "law" "law" (defArgs s_law) (defBody s_law) (defScope s_law) .none kVd15 dcd15 pmd15 and15 cdd15 ctd15, fun s v => .of_eq rfl, fun base _ _ => ?_⟩
  have Gd0 := ok_is_int (P := l.prog) (w := w) (mg := mg) (base := base) (k := 0) Fd0 y_isinstance y_int y_bool
  have Gd1 := ok_is_between (P := l.prog) (w := w) (mg := mg) (base := base) (k := 1) Fd1 (Gd0.mono (by decide)) kd0 bd0 vd0
  have N : Nums mg := ⟨N_NOWHERE, N_STATIONS, N_MOST_ITEMS⟩
  have Gd2 := ok_is_work (P := l.prog) (w := w) (mg := mg) (base := base) (k := 2) Fd2 N (Gd1.mono (by decide)) kd1 bd1 vd1 y_isinstance y_tuple y_len y_all
  have Gd3 := ok_require_work (P := l.prog) (w := w) (mg := mg) (base := base) (k := 3) Fd3 (Gd2.mono (by decide)) kd2 bd2 vd2
  have Gd5 := ok_is_constant (P := l.prog) (w := w) (mg := mg) (base := base) (k := 0) Fd5 N_NOWHERE y_enumerate y_len y_set
  have Gd4 := ok_constants (P := l.prog) (w := w) (mg := mg) (base := base) (k := 4) Fd4 (Gd3.mono (by decide)) kd3 bd3 vd3 (Gd5.mono (by decide)) kd5 bd5 vd5 y_tuple y_range y_len
  have Gd6 := ok_l_cell_at (P := l.prog) (w := w) (mg := mg) (base := base) (k := 0) Fd6 y_len
  have Gd7 := ok_l_pen (P := l.prog) (w := w) (mg := mg) (base := base) (k := 0) Fd7 y_max
  have Gd8 := ok_l_draw (P := l.prog) (w := w) (mg := mg) (base := base) (k := 0) Fd8
  have Gd9 := ok_pick (P := l.prog) (w := w) (mg := mg) (base := base) (k := 1) Fd9 (Gd8.mono (by decide)) kd8 bd8 vd8 y_len
  have Gd10 := ok_l_same (P := l.prog) (w := w) (mg := mg) (base := base) (k := 0) Fd10 y_repr
  have Gd11 := ok_names (P := l.prog) (w := w) (mg := mg) (base := base) (k := 2) Fd11 (Gd8.mono (by decide)) kd8 bd8 vd8 (Gd9.mono (by decide)) kd9 bd9 vd9 y_range
  have Gd12 := ok_lwork (P := l.prog) (w := w) (mg := mg) (base := base) (k := 2) Fd12 (Gd8.mono (by decide)) kd8 bd8 vd8 (Gd9.mono (by decide)) kd9 bd9 vd9 y_range y_tuple y_len
  have Gd13 := ok_long (P := l.prog) (w := w) (mg := mg) (base := base) (k := 2) Fd13 (Gd8.mono (by decide)) kd8 bd8 vd8 (Gd9.mono (by decide)) kd9 bd9 vd9 y_range y_tuple
  have Gd14 := ok_lconst (P := l.prog) (w := w) (mg := mg) (base := base) (k := 0) Fd14 y_enumerate
  have kb_constants : KBinds K (PySem.W.fnOf "constants" "constants" (defArgs s_constants) (defBody s_constants) (defScope s_constants) .none kVd4 dcd4 pmd4 and4 cdd4 ctd4) ["work"] ["work"] kwI kwI := by
    refine ⟨fun s us ws _ hl => ?_, kwI_rel⟩
    match us, ws, hl with
    | [], [a], _ => exact .of_eq rfl
    | [], [], hl => exact absurd hl (by simp [kwI])
    | [], _ :: _ :: _, hl => exact absurd hl (by simp [kwI])
    | _ :: _, _, hl => exact absurd hl (by simp [kwI])
  exact ok_law (P := l.prog) (w := w) (mg := mg) (base := base) (k := 7) Fd15 (Gd6.mono (by decide)) kd6 bd6 vd6 (Gd7.mono (by decide)) kd7 bd7 vd7 (Gd8.mono (by decide)) kd8 bd8 vd8 (Gd9.mono (by decide)) kd9 bd9 vd9 (Gd13.mono (by decide)) kd13 bd13 vd13 (Gd11.mono (by decide)) kd11 bd11 vd11 (Gd12.mono (by decide)) kd12 bd12 vd12 (Gd14.mono (by decide)) kd14 bd14 vd14 (Gd4.mono (by decide)) kd4 bd4 vd4 (Gd10.mono (by decide)) kd10 bd10 vd10 kb_constants y_len y_range y_tuple y_list y_max y_min
end Sg

set_option Elab.async false
set_option linter.all false
open PySem PySem.W PyProof.Rows
set_option maxRecDepth 100000 in
set_option maxHeartbeats 0 in
theorem PySem.Challenge.cw_startgaps_k34_constant_distances_holds : PySem.Challenge.rw_startgaps_k34_constant_distances.Holds := by
  w_on; o_law; k_head; (case hw => w_witness2)
  k_fill
  refine Sg.walk_law (l := PySem.Challenge.rw_startgaps_k34_constant_distances) (k := 8) (x := "_law_script") (sp := Sg.spLaw) rfl rfl ⟨rfl, by decide, by decide⟩ (fun w h Y => PySem.W.kIn_of Y) ?F (fun K H a ns hl _ hS => ⟨a, ns, rfl, hS, hl, fun _ => rfl⟩)
  case F =>
    intro w mg fa h KX G hmg
    refine' Sg.all_mk KX G hmg ?ad0 ?ld0 ?cd0 ?kd0 ?ad1 ?ld1 ?cd1 ?kd1 ?ad2 ?ld2 ?cd2 ?kd2 ?ad3 ?ld3 ?cd3 ?kd3 ?ad4 ?ld4 ?cd4 ?kd4 ?ad5 ?ld5 ?cd5 ?kd5 ?ad6 ?ld6 ?cd6 ?kd6 ?ad7 ?ld7 ?cd7 ?kd7 ?ad8 ?ld8 ?cd8 ?kd8 ?ad9 ?ld9 ?cd9 ?kd9 ?ad10 ?ld10 ?cd10 ?kd10 ?ad11 ?ld11 ?cd11 ?kd11 ?ad12 ?ld12 ?cd12 ?kd12 ?ad13 ?ld13 ?cd13 ?kd13 ?ad14 ?ld14 ?cd14 ?kd14 ?ad15 ?ld15 ?cd15 ?kd15 ?z_isinstance ?z_int ?z_bool ?z_tuple ?z_len ?z_all ?z_range ?z_max ?z_min ?z_list ?z_enumerate ?z_set ?z_repr ?u_NOWHERE ?u_STATIONS ?u_MOST_ITEMS
    (case ad0 => k_is)
    (case ld0 => k_is)
    (case cd0 => k_is)
    (case kd0 => k_is)
    (case ad1 => k_is)
    (case ld1 => k_is)
    (case cd1 => k_is)
    (case kd1 => k_is)
    (case ad2 => k_is)
    (case ld2 => k_is)
    (case cd2 => k_is)
    (case kd2 => k_is)
    (case ad3 => k_is)
    (case ld3 => k_is)
    (case cd3 => k_is)
    (case kd3 => k_is)
    (case ad4 => k_is)
    (case ld4 => k_is)
    (case cd4 => k_is)
    (case kd4 => k_is)
    (case ad5 => k_is)
    (case ld5 => k_is)
    (case cd5 => k_is)
    (case kd5 => k_is)
    (case ad6 => k_is)
    (case ld6 => k_is)
    (case cd6 => k_is)
    (case kd6 => k_is)
    (case ad7 => k_is)
    (case ld7 => k_is)
    (case cd7 => k_is)
    (case kd7 => k_is)
    (case ad8 => k_is)
    (case ld8 => k_is)
    (case cd8 => k_is)
    (case kd8 => k_is)
    (case ad9 => k_is)
    (case ld9 => k_is)
    (case cd9 => k_is)
    (case kd9 => k_is)
    (case ad10 => k_is)
    (case ld10 => k_is)
    (case cd10 => k_is)
    (case kd10 => k_is)
    (case ad11 => k_is)
    (case ld11 => k_is)
    (case cd11 => k_is)
    (case kd11 => k_is)
    (case ad12 => k_is)
    (case ld12 => k_is)
    (case cd12 => k_is)
    (case kd12 => k_is)
    (case ad13 => k_is)
    (case ld13 => k_is)
    (case cd13 => k_is)
    (case kd13 => k_is)
    (case ad14 => k_is)
    (case ld14 => k_is)
    (case cd14 => k_is)
    (case kd14 => k_is)
    (case ad15 => k_is)
    (case ld15 => k_is)
    (case cd15 => k_is)
    (case kd15 => k_is)
    (case z_isinstance => k_is)
    (case z_int => k_is)
    (case z_bool => k_is)
    (case z_tuple => k_is)
    (case z_len => k_is)
    (case z_all => k_is)
    (case z_range => k_is)
    (case z_max => k_is)
    (case z_min => k_is)
    (case z_list => k_is)
    (case z_enumerate => k_is)
    (case z_set => k_is)
    (case z_repr => k_is)
    (case u_NOWHERE => k_is)
    (case u_STATIONS => k_is)
    (case u_MOST_ITEMS => k_is)

