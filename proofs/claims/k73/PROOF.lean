import PyProof.Rows.All
import HandS.ForMost
import HandS.IsInst
import HandS.TupMul
import HandS.TupAny
import HandS.Walk
import HandS.Zip
import PyProof.ReprRoads
import PyProof.ReprBulk
import KE.GoesMore
import PyProof.EnumMake
import HandS.Star
import HandS.Property
import HandS.SortKw
import KE.KOpsOwn
import KE.DataMinMax
import PyProof.InstNe
import HandS.Style
import HandS.DictTup
import PyProof.DictMoreH
import HandS.Iter
import PyProof.Rows.RowBridgeK
import HandS.Wide
import PyProof.Rows.ReprShort
import PyProof.ReprLen
import HandS.Conv
import HandS.TupSets
import PyProof.P3Statements
import PySem.Challenge.RW_startgaps_k73_works_with_given_bars
import HandS.SetKeys
set_option Elab.async false
set_option linter.all false
set_option maxRecDepth 100000
set_option maxHeartbeats 4000000
namespace Sg
open PySem PySem.Spec PyProof.Rows L2

/-! ## defs that may ask for a text of data: they run outside of every such text -/
/-- a promise that holds where no text of data is being made -/
structure FnG (P : Program) (w : World) (K : PySem.W.Frag) (mg : Str → Option Value) (base : Heap) (k : Nat) (f : Addr)
    (fd : FuncData) (ps : List Str) (sp : Sp) : Prop where
  arity : ∀ vs H Q, sp vs H Q E0 → vs.length = ps.length
  go : ∀ (A : Around) (outer : List Env) (s : Shared) (H : Hp) (args : Args) (us : List Value) (vs : List V) (Q : VK),
    A.guards = some [] → Room k A → Env0 P w K mg base A outer s H → BindsTo s fd args (ps.zip us) → Vals vs us →
    sp vs H Q E0 → codeAny (model P w) A (.call (.ref f) args) (CR CX0 outer P w H s Q E0) s

section
variable {P : Program} {w : World} {K : PySem.W.Frag} {mg : Str → Option Value} {base : Heap} {k : Nat} {f : Addr}
variable {fd : FuncData} {ps : List Str} {sp : Sp}

theorem FnG.of (F : FnOk P w K mg base CX0 k f fd ps sp) : FnG P w K mg base k f fd ps sp :=
  ⟨fun vs H Q h => F.len vs H Q E0 h, fun A outer s H args us vs Q _ hr e0 hb hv h =>
    F.run A outer s H args us vs Q E0 hr e0 hb hv h⟩

theorem FnG.mono {j : Nat} (F : FnG P w K mg base j f fd ps sp) (h : j ≤ k) : FnG P w K mg base k f fd ps sp :=
  ⟨F.arity, fun A outer s H args us vs Q hg hr => F.go A outer s H args us vs Q hg (hr.mono h)⟩

/-- a def's body, where no text of data is being made -/
theorem fnG_mk {x qual : Str} {st : Stmt} {N : List Str} (F : Fun K x qual st f fd)
    (S : FnScope N ps (defScope st)) (arity : ∀ vs H Q, sp vs H Q E0 → vs.length = ps.length)
    (hbody : ∀ (cdv : Value) (A : Around) (outer : List Env) (s : Shared) (H : Hp) (vs : List V) (Q : VK),
      (A.deeper (envOfC qual (defScope st) s.heap.objs.size f cdv)).guards = some [] →
      Room k (A.deeper (envOfC qual (defScope st) s.heap.objs.size f cdv)) → sp vs H Q E0 →
      ∃ t, PSs (cxOf CX0 P w K mg base N qual (defScope st) f cdv A outer s H E0).nox (defBody st) t ∧
        t { nx := fun _ H' => Q .non H', rt := Q } (start N vs) H) :
    FnG P w K mg base (k + 1) f fd ps sp := by
  obtain ⟨oc, od, kV, doc, pm, an, cdv, ct, osl, rfl, lk, hcd⟩ := F.ex
  refine ⟨arity, ?_⟩
  intro A outer s H args us vs Q hg hr e0 hb r hsp
  have hl := arity _ _ _ hsp
  have hk0 : ∀ b o, base.get? b = some o → s.heap.get? b = some o := fun b o e => (e0.bs b o e).1
  have KX : K.In s.heap := e0.mod.kin.keeps hk0
  have lim : s.heap.NoLimit := e0.mod.nolimit.keeps hk0
  refine codeAny_call_function hr.depth (KX _ _ lk) rfl S.co S.gen rfl (PySem.W.codeRec_of KX hcd) ?_
  refine hb _ _ _ _ (wpAny_newFunctionEnv_cells S.kind ?_ ?_)
  · rintro ⟨n, v⟩ hy
    have hn := S.par n (List.of_mem_zip hy).1
    cases hn with
    | inl q => exact .inl q
    | inr q => exact .inr ⟨q, PySem.W.cellsFrom_some _ _ _ (.inl q)⟩
  · intro env he s1 x
    subst he
    refine ⟨lim.keeps x.toInCall.keep, ?_⟩
    apply codeAny_func
    obtain ⟨t, ht, hq⟩ := hbody cdv A outer s H vs Q hg (hr.deeper _) hsp
    have ht' := ht.nox
    have I := inv_start (CX := CX0) (E := E0) (cd := cdv) (qual := qual) (f := f) S hr.hd e0 hl r x
    refine wpAny_mono (ht'.run [] s1 (start N vs) H _ I hq) ?_ (fun e s' hs => hs)
    intro fl s' hs
    cases fl with
    | ret u =>
      obtain ⟨v, σ', H', J, rv, q⟩ := hs
      exact ⟨v, H', J.os, J.bare, J.base, J.hok, rv, q⟩
    | next =>
      obtain ⟨σ', H', J, q⟩ := hs
      exact ⟨V.non, H', J.os, J.bare, J.base, J.hok, rfl, q⟩
    | brk => obtain ⟨_, _, _, q⟩ := hs; exact q.elim
    | cont => obtain ⟨_, _, _, q⟩ := hs; exact q.elim
end

section
variable {X : Cx} {k : Nat} {f : Addr} {fd : FuncData} {ps : List Str} {sp : Sp} {dvs : List V} {ds : List Value}
variable {x : Str} {p pos : Pos} {e : Expr} {es : List Expr} {t : TA}
/-- f(a, ..) of such a def -/
theorem pe_callG (F : FnG X.prog X.w X.K X.mg X.base k f fd ps sp) (hgd : X.A.guards = some []) (hr : Room k X.A)
    (hg : Gl X x) (hm : X.mg x = some (.ref f)) (hk : PySem.W.keepIn X.K (.ref f) = true) (hb : Binds X.K fd ps [])
    (ha : PA X (e :: es) t) (hdb : (x == ("__debug__" : Str)) = false := by decide)
    (he : starEach (e :: es) X.env = (false, eval e X.env) :: starEach es X.env := by rfl)
    (hpl : (backTo pos (starEach es X.env)).any (·.1) = false := by rfl) :
    PE X (.Call (.Name x p) (e :: es) [] pos) (tCall sp [] E0 t) := by
  constructor
  intro pins s σ H Q I h
  refine wpAny_Call_Name_kw (ld_glob I hg hm (PySem.W.callWith_K (h₀ := X.base) I.ok.mod.kin hk ?_ he hpl) hdb)
  refine thn (ha.run pos pins s σ H _ I h) ?_
  rintro us s1 ⟨vs, H1, I1, r, q⟩
  refine ⟨I1.kIn, ?_⟩
  rw [List.append_nil] at q
  have hl : (us ++ []).length = ps.length := by rw [List.append_nil, ← r.length]; exact F.arity _ _ _ q
  have hbb := hb s1 us I1.kIn hl
  rw [List.append_nil] at hbb
  refine wpAny_call (codeAny_mono (F.go X.A X.stack s1 H1 ⟨us, []⟩ us vs Q hgd hr I1.env0 hbb r q) ?_)
  intro r' s' hq
  match r', hq with
  | .error _, hq => exact hq.elim
  | .ok (.ret _), hq => exact I1.after hq
  | .ok .next, hq => exact hq.elim
  | .ok .brk, hq => exact hq.elim
  | .ok .cont, hq => exact hq.elim

/-! ## repr of data -/
/-- what may be shown: its ints are not too great, and the text is not too long -/
def Shows (d : PyData) : Prop := d.showable = true ∧ d.hasDict = false ∧ d.depth ≤ 40 ∧ d.shown.length ≤ sizeLine
theorem call_reprD {j : Nat} (hgd : X.A.guards = some []) (hr : Room j X.A) :
    CallR X (.builtin "repr") (fun xs H Q => ∃ a d, xs = [.ref a] ∧ Dp X.K H (.ref a) d ∧ Shows d ∧ Q (.str d.shown) H) := by
  intro pins s σ H xs us Q I r h
  obtain ⟨a, d, rfl, hd, ⟨h1, h2, h3, h4⟩, q⟩ := h
  obtain ⟨u, rfl, rfl⟩ := vals1 r
  obtain ⟨as, rd⟩ := Dp.reads I d (.ref a) (.ref a) hd rfl
  have hu := hr.units
  refine repr_of_reads' (h₀ := s.heap) rd h1 (fun z => ?_) hgd (by omega) (fun _ _ z => z) (fun h' u tk hk => ?_) h4
  · rw [h2] at z; cases z
  · exact ⟨.str d.shown, H, I.kept hk, ⟨u, rfl⟩, q⟩
end
end Sg

set_option Elab.async false
set_option linter.all false
set_option maxRecDepth 100000
set_option maxHeartbeats 4000000
namespace Sg
open PySem PySem.Spec PyProof.Rows L2
/-! ## the law's own call -/
section
variable {P : Program} {w : World} {K : PySem.W.Frag} {mg mb : Str → Option Value} {k : Nat} {fa a : Addr}
variable {fd : FuncData} {x : Str} {sp : Sp} {s₁ : Shared} {vs : List Value} {ns : List Int}

/-- what is asked of the law's call -/
abbrev Ended (s₁ : Shared) : Result → Shared → Prop := fun r s' =>
  r = .ok (.ret (.bool true)) ∧ OldK s₁.heap s'.heap ∧ s'.os = s₁.os ∧ AllBare s'.gens

theorem call_from {H : Hp} (KX : K.In s₁.heap) (hns : s₁.heap.Ns mainGlobals mg) (hb : s₁.heap.Ns builtinsNs mb)
    (hbb : ∀ x : Str, x ≠ "__name__" → mb x = bootBuiltins x) (hlim : s₁.heap.NoLimit) (hg : s₁.gens = #[])
    (ha : s₁.heap.get? a = some { cls := .type "list", data := .seq vs.toArray }) (hr : Room k callerA)
    (F : ∀ base : Heap, K.In base → base.Ns mainGlobals mg → FnG P w K mg base k fa fd [x] sp)
    (hbind : ∀ (s : Shared) (u : Value), BindsTo s fd ⟨[u], []⟩ [(x, u)])
    (hsp : sp [.ref a] H (fun v _ => v = .bl true) E0) (hO : Only H) (hok : HOk P w H s₁.heap)
    (hA : ∀ b, H b ≠ none → b = a) (hK : H a ≠ none → K.lookup a = none) :
    codeAny (model P w) callerA (.call (.ref fa) ⟨[.ref a], []⟩) (Ended s₁) s₁ := by
  have only : ∀ {b : Addr} {u : HO}, H b = some u → b = a := fun z => hA _ (by rw [z]; exact fun q => nomatch q)
  have free : ∀ {b : Addr} {o : Obj} {es : Array DictEntry} {ep : Nat},
      s₁.heap.get? b = some o → o.data = .dict es ep → H b = none := by
    intro b o es ep e d
    rcases q : H b with _ | u
    · rfl
    · rw [only q, ha] at e
      have e' := Option.some.inj e
      rw [← e'] at d
      exact nomatch d
  have nsK : ∀ {b : Addr} {m : Str → Option Value}, s₁.heap.Ns b m → (hidT s₁.heap H).Ns b m := by
    rintro b m ⟨o, es, ep, e, d, r⟩
    exact ⟨o, es, ep, hidT_get e (free e d), d, r⟩
  have hKb : K.In (hidT s₁.heap H) := by
    intro b o e
    refine hidT_get (KX b o e) ?_
    rcases q : H b with _ | u
    · rfl
    · have e' := only q
      subst e'
      have z := hK (by rw [q]; exact fun q => nomatch q)
      rw [z] at e
      exact nomatch e
  have hM : Mod K mg (hidT s₁.heap H) := by
    refine ⟨hKb, nsK hns, ⟨mb, nsK hb, hbb⟩, ?_⟩
    obtain ⟨mc, h1, h2⟩ := hlim
    exact ⟨mc, nsK h1, h2⟩
  have e0 : Env0 P w K mg (hidT s₁.heap H) callerA [] s₁ H := by
    refine ⟨rfl, hM, fun b o e => of_hidT e, Nat.le_of_eq (hidT_size _ _), trivial, ?_, hok, .of_eq hg⟩
    intro b hb
    have hb' : b ∈ ([] : List Addr) := hb
    exact nomatch hb'
  have run := (F _ hKb (nsK hns)).go callerA [] s₁ H ⟨[.ref a], []⟩ [.ref a] [.ref a] _ rfl hr e0
    (hbind s₁ (.ref a)) (.cons rfl .nil) hsp
  refine codeAny_mono run ?_
  intro r s' h
  match r, h with
  | .error _, h => exact h.elim
  | .ok .next, h => exact h.elim
  | .ok .brk, h => exact h.elim
  | .ok .cont, h => exact h.elim
  | .ok (.ret u), h =>
    obtain ⟨v, H', os, bare, un, hok', r', q⟩ := h
    have q' : v = .bl true := q
    subst q'
    have eu : u = Value.bool true := r'
    subst eu
    refine ⟨rfl, OldK.of_keep ?_, os, bare⟩
    intro b o e
    rcases q : H b with _ | u
    · refine un.keep b o e q (fun z => ?_) (fun z => nomatch z)
      have z' : b ∈ ([] : List Addr) := z
      exact nomatch z'
    · rcases hO b with z | ⟨ob, xs, z⟩
      · rw [q] at z; exact nomatch z
      · obtain ⟨e1, _⟩ := hok b _ z
        obtain ⟨e2, _⟩ := hok' b _ (un.frzs b ob _ z)
        rw [e] at e1
        rw [e2, Option.some.inj e1]

theorem call_law (KX : K.In s₁.heap) (hns : s₁.heap.Ns mainGlobals mg) (hb : s₁.heap.Ns builtinsNs mb)
    (hbb : ∀ x : Str, x ≠ "__name__" → mb x = bootBuiltins x) (hlim : s₁.heap.NoLimit) (hg : s₁.gens = #[])
    (ha : s₁.heap.get? a = some { cls := .type "list", data := .seq vs.toArray }) (hi : IntsAre vs ns)
    (hl : ns.length ≤ sizeLine) (hr : Room k callerA)
    (F : ∀ base : Heap, K.In base → base.Ns mainGlobals mg → FnG P w K mg base k fa fd [x] sp)
    (hbind : ∀ (s : Shared) (u : Value), BindsTo s fd ⟨[u], []⟩ [(x, u)])
    (hsp : ∀ H : Hp, Only H → SqL K H a (ns.map V.int) → sp [.ref a] H (fun v _ => v = .bl true) E0) :
    codeAny (model P w) callerA (.call (.ref fa) ⟨[.ref a], []⟩) (Ended s₁) s₁ := by
  have rv := vals_ints hi
  have lenV := hi.length
  rcases hk : K.lookup a with _ | o
  · let H : Hp := fun b => if b = a then some (.frz { cls := .type "list", data := .seq vs.toArray } (.lst (ns.map V.int))) else none
    have at_a : H a = some (.frz { cls := .type "list", data := .seq vs.toArray } (.lst (ns.map V.int))) := if_pos rfl
    have off : ∀ b, b ≠ a → H b = none := fun b hb => if_neg hb
    have onlyH : Only H := by
      intro b
      by_cases hb : b = a
      · exact .inr ⟨_, _, if_pos hb⟩
      · exact .inl (off b hb)
    refine call_from (H := H) KX hns hb hbb hlim hg ha hr F hbind (hsp H onlyH (.inl (.inr ⟨_, at_a⟩))) onlyH ?_ ?_ (fun _ => hk)
    · intro b u z
      by_cases hb : b = a
      · subst hb
        rw [at_a] at z
        obtain rfl := Option.some.inj z
        exact ⟨ha, by rw [List.length_map]; exact hl, vs, _, rv, ha⟩
      · rw [off b hb] at z; exact nomatch z
    · intro b z
      by_cases hb : b = a
      · exact hb
      · exact absurd (off b hb) z
  · have e := KX a o hk
    rw [ha] at e
    obtain rfl := Option.some.inj e
    refine call_from (H := fun _ => none) KX hns hb hbb hlim hg ha hr F hbind (hsp _ (fun _ => .inl rfl) (.inr ?_)) (fun _ => .inl rfl)
      (fun b u z => nomatch z) (fun b z => absurd rfl z) (fun z => absurd rfl z)
    exact ⟨_, vs.toArray, _, hk, rfl, rfl, rfl, by rw [List.size_toArray, lenV]; exact hl, rv⟩
end

/-- the end of a law's proof -/
theorem walk_law {l : PySem.W.OpenLaw} {k : Nat} {q : Program} {loose : List Str} {XP : (Str → Option Value) → Heap → Prop}
    {YP : World → Heap → Prop} {d : DefRec} {K : Params → PySem.W.Frag} {sp : PySem.W.Frag → Sp} {x : Str}
    (hn : l.most = some 63) (hdf : d.params.defaults = []) (hr : Room k callerA)
    (hY : ∀ (w : World) (h : Heap), YP w h → (K w.params).In h)
    (F : ∀ (w : World) (mg : Str → Option Value) (fa : Addr) (h : Heap), (K w.params).In h → h.Ns mainGlobals mg →
      mg d.name = some (.ref fa) → ∃ fd : FuncData, (∀ (s : Shared) (u : Value), BindsTo s fd ⟨[u], []⟩ [(x, u)]) ∧
        ∀ base : Heap, (K w.params).In base → base.Ns mainGlobals mg →
          FnG l.prog w (K w.params) mg base k fa fd [x] (sp (K w.params)))
    (hsp : ∀ (K : PySem.W.Frag) (H : Hp) (a : Addr) (ns : List Int), ns.length ≤ 63 → Only H → SqL K H a (ns.map V.int) →
      sp K [.ref a] H (fun v _ => v = .bl true) E0) :
    PySem.W.WalkO q loose XP YP l.row.toRowW d [] (fun f vs => PySem.call f vs) := by
  refine Att.attach_call hn hdf ?_
  intro w s₀ s₁ mg mb fa o pm cd doc a vs ns G Y ho hd hcd hmg hobj hints hlen hg
  obtain ⟨fd, hb, hF⟩ := F w mg fa _ (hY w _ Y) G.T.g hmg
  exact call_law (hY w _ Y) G.T.g G.T.b G.T.builtins G.T.nolimit hg hobj hints
    (Nat.le_trans hlen (by decide)) hr hF hb (fun H hO hS => hsp _ H a ns hlen hO hS)
end Sg

set_option Elab.async false
set_option linter.all false
set_option maxRecDepth 100000
set_option maxHeartbeats 4000000
namespace PySem
open Sem (wp)
open AutoSeq1 (wpAny_loadPart')
/-- enumerate(t), t a tuple: its two new cells -/
theorem sg_enum_new (l : Addr) (items : Array Value) :
    Meets (Builtin.«enumerate.__new__» ⟨[.type "enumerate", .ref l], []⟩) (fun _ R s => s.heap.IsTuple l items ∧
      R (.ok (.ret (.ref (s.heap.push { cls := .type "tuple_iterator", data := .fields #[.ref l, .int 0 0] }).objs.size)))
        { s with heap := ((s.heap.push { cls := .type "tuple_iterator", data := .fields #[.ref l, .int 0 0] }).push { cls := .type "enumerate", data := .fields #[.none, .bool false, .ref s.heap.objs.size, rawInt 0, .none, .none] }) }) := by
  refine .of_wp ?_
  intro prog w A R s h
  obtain ⟨hp, g, d, tk, os⟩ := s
  obtain ⟨hT, h⟩ := h
  obtain ⟨o, hl, hc, n, hd⟩ := id hT
  have hsub := sub_enumerate
  wp_walk using wpAny_loadPart' hl
  refine wpAny_stack_any fun st => wpAny_pure ?_
  split
  · rename_i c _ _ _ _ _
    rcases hcc : (c == Value.type "enumerate") with _ | _ <;>
    · wp_walk using wpAny_loadPart' hl, wpAny_pyIter_tuple hT
      exact ⟨_, rfl, h⟩
  · wp_walk using wpAny_loadPart' hl, wpAny_pyIter_tuple hT
    exact ⟨_, rfl, h⟩

section
variable {prog : Program} {w : World} {A : Around} {E : Value → Shared → Prop} {s : Shared}
theorem sg_call_enum {l : Addr} {items : Array Value} {Q : Value → Shared → Prop} (hL : s.heap.IsTuple l items)
    (h : ∀ h', IsEnum h' (s.heap.objs.size + 1) s.heap.objs.size 0 .none → h'.IsTupleIter s.heap.objs.size l 0 →
      (∀ b o, s.heap.get? b = some o → h'.get? b = some o) → Q (.ref (s.heap.objs.size + 1)) { s with heap := h' }) :
    wpAny (model prog w) A (call (.type "enumerate") [.ref l]) Q E s := by
  refine callType_new F.called_enumerate (by decide) (F.typeCall_enumerate_1 _) (F.newCall_enumerate_1 _)
    (fun obj => F.args_object_init_2 obj _) F.entry_enumerate_new (sg_enum_new l items) ⟨hL, ?_⟩
  let o1 : Obj := { cls := .type "tuple_iterator", data := .fields #[.ref l, .int 0 0] }
  have hz : (s.heap.push o1).objs.size = s.heap.objs.size + 1 := Heap.size_push ..
  show _ ∧ _
  rw [hz]
  have he : IsEnum ((s.heap.push o1).push { cls := .type "enumerate", data := .fields #[.none, .bool false, .ref s.heap.objs.size, rawInt 0, .none, .none] })
      (s.heap.objs.size + 1) s.heap.objs.size 0 .none := by
    have z := Heap.get?_push_size (s.heap.push o1)
      (o := { cls := .type "enumerate", data := .fields #[.none, .bool false, .ref s.heap.objs.size, rawInt 0, .none, .none] }) rfl
    rw [hz] at z
    exact z
  refine ⟨⟨_, he, rfl⟩, h _ he ⟨_, Heap.get?_push_of_some _ (Heap.get?_push_size _ rfl), rfl, rfl⟩ ?_⟩
  intro b o x
  exact Heap.get?_push_of_some _ (Heap.get?_push_of_some _ x)
end
end PySem
namespace Sg
open PySem PySem.Spec PyProof.Rows L2
/-- the tuple at a, item by item, each in a new pair with its place -/
def ItE (K : PySem.W.Frag) (a : Addr) : It :=
  ⟨fun i H => ∃ (xs : List V) (x : V), SqT K H a xs ∧ xs[i]? = some x,
   fun i H v H' => ∃ T x, v = .ref T ∧ H T = none ∧ H' = upd H T (.tup [.int (i : Nat), x]) ∧ ∀ xs, SqT K H a xs → xs[i]? = some x,
   fun i H => ∃ xs : List V, SqT K H a xs ∧ xs.length ≤ i⟩
theorem turn_enumT {P : Program} {w : World} {K : PySem.W.Frag} {elts : List Expr} {kk : Nat} {tpos : Pos} (a e it : Addr) :
    Turn P w K (.Tuple elts kk tpos) (ItE K a) [e, it] e
      (fun i h => (∃ old, IsEnum h e it ((i : Nat) : Int) old) ∧ h.IsTupleIter it a i ∧ e ≠ it) := by
  have two : ∀ {b : Addr}, b ∈ [e, it] → b = e ∨ b = it := fun {b} hb => by simpa using hb
  refine ⟨by simp, ?_, ?_, ?_, ?_, ?_⟩
  · rintro i h ⟨⟨old, he⟩, ⟨o, ho, hc, hd⟩, _⟩ b hb
    rcases two hb with rfl | rfl
    · exact ⟨_, he, fun v q => nomatch q⟩
    · refine ⟨o, ho, fun v q => ?_⟩
      rw [hd] at q
      exact nomatch q
  · rintro i h h' ⟨⟨old, he⟩, hi, hne⟩ k
    exact ⟨⟨old, k e (by simp) _ he⟩, hi.at fun o q => k it (by simp) o q, hne⟩
  · intro X hP hw hK hc i pins s σ H E I hf st hg
    subst hP hw hK
    obtain ⟨⟨old, he⟩, hit, hne⟩ := st
    obtain ⟨xs, x, hq, hx⟩ := hg
    obtain ⟨its, rv, p, hz⟩ := I.tuple hq
    obtain ⟨u, hu, ru⟩ := rv.get hx
    have hel : e < s.heap.objs.size := Heap.lt_size he
    have hil : it < s.heap.objs.size := by obtain ⟨_, q, _⟩ := hit; exact Heap.lt_size q
    have hai : a ≠ it := by
      rintro rfl
      obtain ⟨o, ho, hcl, _⟩ := p
      obtain ⟨o', ho', hcl', _⟩ := hit
      rw [ho] at ho'
      obtain rfl := Option.some.inj ho'
      rw [hcl] at hcl'
      exact absurd hcl' (by decide)
    have hae : e ≠ a := by
      rintro rfl
      obtain ⟨o, ho, hcl, _⟩ := p
      have he' : s.heap.get? e = _ := he
      rw [ho] at he'
      obtain rfl := Option.some.inj he'
      have z : ("enumerate" : String) = "tuple" := Value.type.inj hcl
      exact absurd z (by decide)
    have hlt : i < its.length := (List.getElem?_eq_some_iff.mp hu).1
    refine wpAny_pyNext_enum_itemD (Draws.tuple (A := X.A.in1) (I.ok.hd hc) it a hai its.toArray) he ⟨hit, p⟩
      (by simpa using hlt) hne (by simp [hne, hae]) ?_
    intro x' h' tk hP ho hs' hT hsz hk
    have hxu : x' = u := by
      have z : its[i]? = some x' := by simpa using hP
      rw [hu] at z
      exact (Option.some.inj z).symm
    subst hxu
    refine ⟨_, rfl, wpAny_letOwnedTupleGo_enum (s := { s with heap := h', toks := tk + 1 }) ho ?_⟩
    intro h'' he' sb
    have hT2 : h''.get? s.heap.objs.size = some { cls := .type "tuple", data := .seq #[.int i tk, x'] } :=
      (sb.2 _ (Nat.ne_of_gt hel)).trans hT
    have new : ObjOk X.prog X.w (upd H s.heap.objs.size (.tup [.int (i : Nat), x])) h'' s.heap.objs.size (.tup [.int (i : Nat), x]) := by
      refine ⟨by show 2 ≤ sizeLine; decide, [.int i tk, x'], .cons ⟨_, rfl⟩ (.cons ru .nil), ⟨_, hT2, rfl, _, rfl⟩⟩
    have I1 : Inv X pins σ (upd H s.heap.objs.size (.tup [.int (i : Nat), x])) { s with heap := h'', toks := tk + 1 } := by
      refine I.turnedNew (ch := [e, it]) ?_ hf (Nat.le_refl _) new
      intro b ob hb q
      have n1 : b ≠ e := fun z => hb (by simp [z])
      have n2 : b ≠ it := fun z => hb (by simp [z])
      exact (sb.2 b n1).trans (hk b ob n1 n2 q)
    refine ⟨.ref s.heap.objs.size, _, I1, rfl, ⟨_, x, rfl, I.hok.fresh (Nat.le_refl _), rfl, ?_⟩, ⟨⟨x', ?_⟩, ?_, hne⟩, ?_⟩
    · intro ys hy
      rw [I.tuple_inj hy hq]
      exact hx
    · have e1 : ((i + 1 : Nat) : Int) = (i : Int) + 1 := by omega
      rw [e1]
      exact he'
    · exact hs'.1.at fun o q => (sb.2 it (Ne.symm hne)).trans q
    · intro b hb
      have hb' : b < s.heap.objs.size := by
        rcases two hb with rfl | rfl
        · exact hel
        · exact hil
      rw [upd_ne (Nat.ne_of_lt hb')]
      exact (hf b hb).1
  · intro X hP hw hK hc i pins s σ H E I hf st hg
    subst hP hw hK
    obtain ⟨⟨old, he⟩, hit, hne⟩ := st
    obtain ⟨xs, hq, hx⟩ := hg
    obtain ⟨its, rv, p, hz⟩ := I.tuple hq
    obtain ⟨f0, f1, f2, f3, f4, f5⟩ := hf it (by simp)
    have hl := rv.length
    have hh : X.A.in1.in1.handled = none := I.ok.hd hc
    have hai : a ≠ it := by
      rintro rfl
      obtain ⟨o, ho, hcl, _⟩ := p
      obtain ⟨o', ho', hcl', _⟩ := hit
      rw [ho] at ho'
      obtain rfl := Option.some.inj ho'
      rw [hcl] at hcl'
      exact absurd hcl' (by decide)
    unfold pyNext
    have hTy : s.TypeIs (.ref e) "enumerate" := ⟨_, he, rfl⟩
    refine wpAny_bind (wpAny_attempt (wpAny_callSpecial?_slot (name := Str.ofString "__next__") hTy F.slot_enumerate_next
      (wpAny_call_entry F.slot_enumerate_next hTy F.entry_enumerate_next ?_ (F.args_enumerate_next_1 _))))
    show wpAny _ _ (field (.ref e) 2 >>= _) _ _ _
    refine wpAny_bind (wpAny_field he rfl (x := .ref it) rfl ?_)
    refine wpAny_bind (wpAny_nextOf_tuple_end hh hit p (by simp; omega) ?_)
    rintro h' x he' ⟨o, ho, hcl⟩
    refine wpAny_bind (wpAny_isInstance (T := "StopIteration") (b := true) ⟨o, ho, hcl⟩ isSubtype_stop (wpAny_pure ?_))
    exact ⟨rfl, I.turned (t' := s.toks) (fun b o hb q => he' b o hb q) f0 f1 f3 f4 f5⟩
  · intro A i s Q E st h
    obtain ⟨⟨_, he⟩, _⟩ := st
    exact wpAny_pyIter_enum he h
def iEnT (K : PySem.W.Frag) (ta : TA) : TI := fun σ H R => ta σ H fun vs H1 => ∃ a xs, vs = [.ref a] ∧ SqT K H1 a xs ∧ R (ItE K a) H1
theorem pi_enumT {X : Cx} {e : Expr} {ta : TA} {p pos tpos : Pos} {elts : List Expr} {kk : Nat} (hg : Gl X "enumerate")
    (hm : X.mg "enumerate" = none) (ha : PA X [e] ta) (hs : starEach [e] X.env = [(false, eval e X.env)] := by rfl) :
    PI X (.Tuple elts kk tpos) (.Call (.Name "enumerate" p) [e] [] pos) (iEnT X.K ta) := by
  constructor
  intro pins s σ H R I h
  refine Call_ (ld_blt I hg hm boot_enumerate (PyProof.Rows.callWith_type1 (thn (ha.run pos pins s σ H _ I h) ?_) hs rfl))
  rintro us s1 ⟨vs, H1, I1, r1, a, xs, rfl, hq, q⟩
  obtain ⟨u, rfl, rfl⟩ := vals1 r1
  obtain ⟨its, rv, p', hz⟩ := I1.tuple hq
  refine sg_call_enum p' ?_
  intro h' he hit hk
  refine wpAny_pyIter_enum he ?_
  have I2 : Inv X pins σ H1 { s1 with heap := h' } := I1.kept (t' := s1.toks) hk
  refine ⟨s1.heap.objs.size + 1, [s1.heap.objs.size + 1, s1.heap.objs.size], _, _, H1, rfl, I2,
    turn_enumT a (s1.heap.objs.size + 1) s1.heap.objs.size, ⟨⟨.none, he⟩, hit, Nat.succ_ne_self _⟩, ?_, q⟩
  intro b hb
  have hle : s1.heap.objs.size ≤ b := by
    have e' : b = s1.heap.objs.size + 1 ∨ b = s1.heap.objs.size := by simpa using hb
    rcases e' with rfl | rfl
    · exact Nat.le_succ _
    · exact Nat.le_refl _
  exact I1.fpOk hle (I1.hok.fresh hle)
end Sg

set_option Elab.async false
set_option linter.all false
set_option maxRecDepth 100000
set_option maxHeartbeats 4000000
namespace Sg
open PySem PySem.Spec PyProof.Rows L2
/-! ## [c for a in t for b in a for c in b], tuples all the way down -/
/-- slots that agree but for those of ws -/
def Ag (ws : List Nat) (σ σ' : L2.St) : Prop := σ'.length = σ.length ∧ ∀ j, j ∉ ws → σ'[j]? = σ[j]?
theorem Ag.refl (ws : List Nat) (σ : L2.St) : Ag ws σ σ := ⟨rfl, fun _ _ => rfl⟩
theorem Ag.trans {ws : List Nat} {a b c : L2.St} (h : Ag ws a b) (k : Ag ws b c) : Ag ws a c := ⟨k.1.trans h.1, fun j hj => (k.2 j hj).trans (h.2 j hj)⟩
theorem Ag.set {ws : List Nat} {σ : L2.St} {k : Nat} {v : Option V} (hk : k ∈ ws) : Ag ws σ (σ.set k v) := ⟨List.length_set, fun j hj => by
  rw [List.getElem?_set_ne]
  rintro rfl
  exact hj hk⟩
theorem Ag.mono {ws us : List Nat} {σ σ' : L2.St} (h : Ag ws σ σ') (k : ∀ j ∈ ws, j ∈ us) : Ag us σ σ' := ⟨h.1, fun j hj => h.2 j fun z => hj (k j z)⟩
/-- a turn of a loop of a comprehension without tests -/
def flatTurn (e : Expr) (d : Nat) (it D : Addr) (n : Str) (p pos : Pos) (bd : Sem Fin → Sem Fin) (env : Env) : Sem Fin :=
  standAt pos >>= fun _ => pyNext (.ref it) >>= fun r => match r with
    | none => pure (.done .next)
    | some v => letOwnedTupleGo (.Name n p) (.ref it) v >>= fun _ => assign (.Name n p) env v >>= fun _ =>
      bd (again (.compLoop e d (.ref it) (.ref D) env))
section
variable {Z : Cx} {elt : Expr} {gens : List Comprehension} {scope : Scope} {cpos p pos : Pos} {d k : Nat} {it D c : Addr} {n : Str} {bd : Sem Fin → Sem Fin}
variable {R : Result → Shared → Prop} {xs : List V} {pins : List (Addr × Obj)} {ws : List Nat}
theorem flat_loop (hxe : Z.xe = fun _ _ => False) (hcalm : Z.calm = true) (hN : Z.N.Nodup)
    (hturn : compTurn (.ListComp elt gens scope cpos) d (.ref it) (.ref D) Z.env = flatTurn (.ListComp elt gens scope cpos) d it D n p pos bd Z.env)
    (hk : Z.N[k]? = some n) (hloc : Loc Z.env.scope n) (hfn : Z.fn n = true ∨ Z.env.scope.names.lookup n = some .local) (hkw : k ∈ ws)
    (σ : L2.St) (G : Nat → Hp → Prop) (hG : ∀ i H, i ≤ xs.length → G i H → SqT Z.K H c xs) (hfp : ∀ H, H it = none → FpOk Z pins H it)
    (hbd : ∀ i x s σ' H, xs[i]? = some x → G i H → H it = none → Inv Z (pins ++ pinsAt [it] s.heap) σ' H s → σ'[k]? = some (some x) → Ag ws σ σ' →
      ∀ (kk : Sem Fin) (Qf : Fin → Shared → Prop) (Ef : Value → Shared → Prop),
        (∀ s' σ'' H', Inv Z (pins ++ pinsAt [it] s.heap) σ'' H' s' → Ag ws σ σ'' → G (i + 1) H' → wpAny (model Z.prog Z.w) Z.A kk Qf Ef s') → wpAny (model Z.prog Z.w) Z.A (bd kk) Qf Ef s)
    (hfin : ∀ s' σ' H', Inv Z pins σ' H' s' → Ag ws σ σ' → G xs.length H' → R (.ok .next) s')
    {s : Shared} {σ₀ : L2.St} {H₀ : Hp} (I₀ : Inv Z pins σ₀ H₀ s) (ag₀ : Ag ws σ σ₀) (g₀ : G 0 H₀) (n₀ : H₀ it = none) (st₀ : s.heap.IsTupleIter it c 0) :
    codeAny (model Z.prog Z.w) Z.A (.compLoop (.ListComp elt gens scope cpos) d (.ref it) (.ref D) Z.env) R s := by
  have T := turn_tuple (P := Z.prog) (w := Z.w) (K := Z.K) (tg := .Name n p) c it
  have hb1 : ∀ {H : Hp}, H it = none → ∀ b ∈ [it], FpOk Z pins H b := by
    intro H hn b hb
    rw [List.mem_singleton.mp hb]
    exact hfp H hn
  refine codeAny_loop rfl (fun m s' => ∃ i σ' H', Inv Z pins σ' H' s' ∧ Ag ws σ σ' ∧ G i H' ∧ H' it = none ∧ s'.heap.IsTupleIter it c i ∧ i ≤ xs.length ∧ m = xs.length - i) ?_ xs.length
    ⟨0, σ₀, H₀, I₀, ag₀, g₀, n₀, st₀, Nat.zero_le _, rfl⟩
  rintro m s1 ⟨i, σ1, H1, I1, ag1, g1, n1, st1, hi, rfl⟩
  show wpAny _ Z.A ((compTurn (.ListComp elt gens scope cpos) d (.ref it) (.ref D) Z.env).onRaise (fun x => do noteFrame x Z.env; theTreesLotGoes x)) _ _ s1
  refine wpAny_noted ?_
  rw [hturn]
  refine wpAny_bind (wpAny_standAt (wpAny_bind ?_))
  have hq := hG i H1 hi g1
  by_cases hlt : i < xs.length
  · have go := T.item Z rfl rfl rfl hcalm i pins s1 σ1 H1 (fun _ _ => False) I1 (hb1 n1) st1 ⟨xs, xs[i], hq, List.getElem?_eq_getElem hlt⟩
    refine thnF go ?_
    rintro r s2 ⟨u, rfl, h2⟩
    refine wpAny_bind (thnF h2 ?_)
    rintro _ s3 ⟨x, H3, I3, r3, ⟨eH, hy⟩, st3, n3⟩
    subst eH
    have hx : xs[i]? = some x := hy xs hq
    have n3' : H3 it = none := n3 it (List.mem_singleton.mpr rfl)
    have I3' := I3.pinned (hb1 n3') (T.obj _ _ st3)
    have ia := (pg_name (X := Z) (pos := p) hN hk hloc hfn).run _ s3 σ1 H3 x u (fun σ' H' => σ' = σ1.set k (some x) ∧ H' = H3) I3' r3 ⟨rfl, rfl⟩
    rw [hxe] at ia
    refine wpAny_bind (thnF ia ?_)
    rintro _ s4 ⟨σ4, H4, I4, rfl, rfl⟩
    obtain ⟨o, ho, hoc⟩ := T.obj _ _ st3 it (List.mem_singleton.mpr rfl)
    have pin4 := I4.pin (it, o) (List.mem_append_right _ (List.mem_append_right _ (mem_pinsAt (List.mem_singleton.mpr rfl) ho)))
    have ep : pinsAt [it] s3.heap = pinsAt [it] s4.heap := by
      unfold pinsAt
      rw [List.filterMap_cons, List.filterMap_cons, ho, pin4.1]
      rfl
    rw [ep] at I4
    have hσ4 : (σ1.set k (some x))[k]? = some (some x) := by
      have hkl : k < σ1.length := by rw [I1.len]; exact (List.getElem?_eq_some_iff.mp hk).1
      rw [List.getElem?_set_self hkl]
    refine hbd i x s4 _ _ hx g1 n3' I4 hσ4 (ag1.trans (Ag.set hkw)) _ _ _ ?_
    intro s5 σ5 H5 I5 ag5 g5
    have pin5 := I5.pin (it, o) (List.mem_append_right _ (List.mem_append_right _ (mem_pinsAt (List.mem_singleton.mpr rfl) pin4.1)))
    have st5 : s5.heap.IsTupleIter it c (i + 1) := T.keep _ _ _ st3 (by
      intro b hb o' e
      rw [List.mem_singleton.mp hb] at e ⊢
      rw [ho] at e
      rw [← Option.some.inj e]
      exact pin5.1)
    exact wpAny_pure ⟨rfl, xs.length - (i + 1), by omega, i + 1, σ5, H5, I5.unpinned, ag5, g5, pin5.2.1, st5, hlt, rfl⟩
  · have e : i = xs.length := by omega
    subst e
    have stop := T.done Z rfl rfl rfl hcalm xs.length pins s1 σ1 H1 (fun _ _ => False) I1 (hb1 n1) st1 ⟨xs, hq, Nat.le_refl _⟩
    refine thnF stop ?_
    rintro r s2 ⟨rfl, I2⟩
    exact wpAny_pure (hfin s2 σ1 H1 I2 ag1 g1)
end
/-! ### the three clauses -/
abbrev flatE (n1 n2 n3 : Str) (iter : Expr) (scope : Scope) (q1 q2 q3 a1 a2 a3 pos : Pos) : Expr :=
  .ListComp (.Name n3 a3) [⟨.Name n1 q1, iter, [], 0⟩, ⟨.Name n2 q2, .Name n1 a1, [], 0⟩, ⟨.Name n3 q3, .Name n2 a2, [], 0⟩] scope pos
section
variable {n1 n2 n3 : Str} {iter : Expr} {scope : Scope} {q1 q2 q3 a1 a2 a3 pos : Pos} {it D : Addr} {env : Env}
abbrev downBody (e i : Expr) (d : Nat) (D : Addr) (env : Env) (kk : Sem Fin) : Sem Fin := eval i env >>= fun x => standAt i.pos >>= fun _ =>
  foldedSetIterable i env x >>= fun x => holding [x] (pyIter x) >>= fun it' => runOwn (.compStart e d it' (.ref D) env) env >>= fun _ => kk
abbrev addBody (elt : Expr) (D : Addr) (env : Env) (kk : Sem Fin) : Sem Fin :=
  (eval elt env >>= fun x => call (.builtin "list.append") [.ref D, x] >>= fun _ => pure ()) >>= fun _ => kk
theorem flat_t0 : compTurn (flatE n1 n2 n3 iter scope q1 q2 q3 a1 a2 a3 pos) 0 (.ref it) (.ref D) env =
    flatTurn (flatE n1 n2 n3 iter scope q1 q2 q3 a1 a2 a3 pos) 0 it D n1 q1 iter.pos (downBody (flatE n1 n2 n3 iter scope q1 q2 q3 a1 a2 a3 pos) (.Name n1 a1) 1 D env) env := by rfl
theorem flat_t1 : compTurn (flatE n1 n2 n3 iter scope q1 q2 q3 a1 a2 a3 pos) 1 (.ref it) (.ref D) env =
    flatTurn (flatE n1 n2 n3 iter scope q1 q2 q3 a1 a2 a3 pos) 1 it D n2 q2 a1 (downBody (flatE n1 n2 n3 iter scope q1 q2 q3 a1 a2 a3 pos) (.Name n2 a2) 2 D env) env := by rfl
theorem flat_t2 : compTurn (flatE n1 n2 n3 iter scope q1 q2 q3 a1 a2 a3 pos) 2 (.ref it) (.ref D) env =
    flatTurn (flatE n1 n2 n3 iter scope q1 q2 q3 a1 a2 a3 pos) 2 it D n3 q3 a2 (addBody (.Name n3 a3) D env) env := by rfl
end
section
variable {prog : Program} {w : World} {A : Around} {R : Result → Shared → Prop} {s : Shared} {n1 n2 n3 : Str} {iter : Expr} {scope : Scope} {q1 q2 q3 a1 a2 a3 pos : Pos} {it acc : Value} {env : Env}
theorem flat_s1 (h0 : codeAny (model prog w) A (.compLoop (flatE n1 n2 n3 iter scope q1 q2 q3 a1 a2 a3 pos) 1 it acc env) R s)
    (h : wpAny (model prog w) A (pyIter it) (fun it' s' => codeAny (model prog w) A (.compLoop (flatE n1 n2 n3 iter scope q1 q2 q3 a1 a2 a3 pos) 1 it' acc env) R s') (notedBy (model prog w) A env fun x s' => R (.error x) s') s) :
    codeAny (model prog w) A (.compStart (flatE n1 n2 n3 iter scope q1 q2 q3 a1 a2 a3 pos) 1 it acc env) R s := by
  apply codeAny_of_tree
  show wpAny _ _ ((compStart (flatE n1 n2 n3 iter scope q1 q2 q3 a1 a2 a3 pos) 1 it acc env).onRaise (fun x => do noteFrame x env; standAt theWindowsPlace)) _ _ s
  apply wpAny_notedAt
  unfold compStart
  show wpAny _ _ (ask >>= _) _ _ s
  refine wpAny_bind (wpAny_askSetting (wpAny_ite ?_))
  split
  · first | exact wpAny_pure (And.intro rfl h0) | exact wpAny_bind (wpAny_pure (wpAny_pure (And.intro rfl h0)))
  · refine wpAny_bind (wpAny_rule ?_)
    show wpAny _ _ (standAt a1 >>= _) _ _ s
    exact wpAny_bind (wpAny_standAt (wpAny_bind (wpAny_mono h (fun it' s' h' => wpAny_pure (And.intro rfl h')) fun _ _ x => x)))
theorem flat_s2 (h0 : codeAny (model prog w) A (.compLoop (flatE n1 n2 n3 iter scope q1 q2 q3 a1 a2 a3 pos) 2 it acc env) R s)
    (h : wpAny (model prog w) A (pyIter it) (fun it' s' => codeAny (model prog w) A (.compLoop (flatE n1 n2 n3 iter scope q1 q2 q3 a1 a2 a3 pos) 2 it' acc env) R s') (notedBy (model prog w) A env fun x s' => R (.error x) s') s) :
    codeAny (model prog w) A (.compStart (flatE n1 n2 n3 iter scope q1 q2 q3 a1 a2 a3 pos) 2 it acc env) R s := by
  apply codeAny_of_tree
  show wpAny _ _ ((compStart (flatE n1 n2 n3 iter scope q1 q2 q3 a1 a2 a3 pos) 2 it acc env).onRaise (fun x => do noteFrame x env; standAt theWindowsPlace)) _ _ s
  apply wpAny_notedAt
  unfold compStart
  show wpAny _ _ (ask >>= _) _ _ s
  refine wpAny_bind (wpAny_askSetting (wpAny_ite ?_))
  split
  · first | exact wpAny_pure (And.intro rfl h0) | exact wpAny_bind (wpAny_pure (wpAny_pure (And.intro rfl h0)))
  · refine wpAny_bind (wpAny_rule ?_)
    show wpAny _ _ (standAt a2 >>= _) _ _ s
    exact wpAny_bind (wpAny_standAt (wpAny_bind (wpAny_mono h (fun it' s' h' => wpAny_pure (And.intro rfl h')) fun _ _ x => x)))
end
end Sg

set_option Elab.async false
set_option linter.all false
set_option maxRecDepth 100000
set_option maxHeartbeats 4000000
namespace Sg
open PySem PySem.Spec PyProof.Rows L2
/-- cells are tuples; xs are all their items -/
inductive FlatL (K : PySem.W.Frag) (H : Hp) : List V → List V → Prop
  | nil : FlatL K H [] []
  | cons {a : Addr} {ys cells xs : List V} : SqT K H a ys → FlatL K H cells xs → FlatL K H (.ref a :: cells) (ys ++ xs)
/-- rows are tuples of tuples; xs are all the items of these -/
inductive FlatR (K : PySem.W.Frag) (H : Hp) : List V → List V → Prop
  | nil : FlatR K H [] []
  | cons {a : Addr} {cells ys rows xs : List V} : SqT K H a cells → FlatL K H cells ys → FlatR K H rows xs → FlatR K H (.ref a :: rows) (ys ++ xs)
section
variable {K : PySem.W.Frag} {H : Hp}
theorem FlatL.snoc {a : Addr} {ys : List V} (h : SqT K H a ys) : ∀ {cells xs : List V}, FlatL K H cells xs → FlatL K H (cells ++ [.ref a]) (xs ++ ys)
  | _, _, .nil => by have z := FlatL.cons h .nil; rwa [List.append_nil] at z
  | _, _, .cons h1 r => by rw [List.append_assoc]; exact .cons h1 (FlatL.snoc h r)
theorem FlatR.snoc {a : Addr} {cells ys : List V} (h : SqT K H a cells) (hl : FlatL K H cells ys) : ∀ {rows xs : List V}, FlatR K H rows xs → FlatR K H (rows ++ [.ref a]) (xs ++ ys)
  | _, _, .nil => by have z := FlatR.cons h hl .nil; rwa [List.append_nil] at z
  | _, _, .cons h1 h2 r => by rw [List.append_assoc]; exact .cons h1 h2 (FlatR.snoc h hl r)
theorem FlatL.same {H' : Hp} (e : Same H H') : ∀ {cells xs : List V}, FlatL K H cells xs → FlatL K H' cells xs
  | _, _, .nil => .nil
  | _, _, .cons h r => .cons (h.imp (fun z => z.imp (e _ _) fun ⟨o, z⟩ => ⟨o, e _ _ z⟩) id) (FlatL.same e r)
theorem FlatR.same {H' : Hp} (e : Same H H') : ∀ {rows xs : List V}, FlatR K H rows xs → FlatR K H' rows xs
  | _, _, .nil => .nil
  | _, _, .cons h l r => .cons (h.imp (fun z => z.imp (e _ _) fun ⟨o, z⟩ => ⟨o, e _ _ z⟩) id) (FlatL.same e l) (FlatR.same e r)
theorem sqT_new {D a : Addr} {o : HO} {ys : List V} (n : H D = none) (h : SqT K H a ys) : SqT K (upd H D o) a ys :=
  h.imp (fun z => z.imp (fun z => by rw [upd_ne (ne_of_none z n)]; exact z) fun ⟨u, z⟩ => ⟨u, by rw [upd_ne (ne_of_none z n)]; exact z⟩) id
end
section
variable {Z : Cx} {n1 n2 n3 : Str} {iter : Expr} {scope : Scope} {q1 q2 q3 a1 a2 a3 pos : Pos} {k1 k2 k3 : Nat}
/-- what the block says of its names -/
structure FlatN (Z : Cx) (n1 n2 n3 : Str) (k1 k2 k3 : Nat) : Prop where
  xe : Z.xe = fun _ _ => False
  calm : Z.calm = true
  nd : Z.N.Nodup
  h1 : Z.N[k1]? = some n1
  h2 : Z.N[k2]? = some n2
  h3 : Z.N[k3]? = some n3
  l1 : Z.env.scope.names.lookup n1 = some .local
  l2 : Z.env.scope.names.lookup n2 = some .local
  l3 : Z.env.scope.names.lookup n3 = some .local
  d1 : (n1 == ("__debug__" : Str)) = false
  d2 : (n2 == ("__debug__" : Str)) = false
  d3 : (n3 == ("__debug__" : Str)) = false
  c1 : (n1 == ("__classdict__" : Str)) = false
  c2 : (n2 == ("__classdict__" : Str)) = false
  c3 : (n3 == ("__classdict__" : Str)) = false
/-- the innermost loop -/
theorem flat_in (B : FlatN Z n1 n2 n3 k1 k2 k3) {pins : List (Addr × Obj)} {σ : L2.St} {H : Hp} {s : Shared} {R : Result → Shared → Prop} {it D c : Addr} {acc xs : List V}
    (hn : H D = none) (hc : SqT Z.K H c xs) (hz : acc.length + xs.length ≤ 1000000) (I : Inv Z pins σ (upd H D (.lst acc)) s) (st : s.heap.IsTupleIter it c 0) (hit : (upd H D (.lst acc)) it = none)
    (hfp : ∀ H, H it = none → FpOk Z pins H it)
    (fin : ∀ s' σ', Inv Z pins σ' (upd H D (.lst (acc ++ xs))) s' → Ag [k3] σ σ' → R (.ok .next) s') :
    codeAny (model Z.prog Z.w) Z.A (.compLoop (flatE n1 n2 n3 iter scope q1 q2 q3 a1 a2 a3 pos) 2 (.ref it) (.ref D) Z.env) R s := by
  refine flat_loop B.xe B.calm B.nd flat_t2 B.h3 (.inl B.l3) (.inr B.l3) (List.mem_singleton.mpr rfl) σ (fun i H' => H' = upd H D (.lst (acc ++ xs.take i)))
    (fun i H' _ e => by rw [e]; exact sqT_new hn hc) hfp (fun i x s1 σ1 H1 hx e hi I1 hk ag kk Qf Ef cont => ?_) (fun s' σ' H' I' ag e => ?_) I (Ag.refl _ _) (by rw [List.take_zero, List.append_nil]) hit st
  · subst e
    have ev := (pe_var (pos := a3) (X := Z) B.h3 (.inl B.l3) B.d3 B.c3).run _ s1 σ1 _ (fun v H2 => v = x ∧ H2 = upd H D (.lst (acc ++ xs.take i))) I1 ⟨x, hk, rfl, rfl⟩
    rw [B.xe] at ev
    refine wpAny_bind (wpAny_bind (thnF ev ?_))
    rintro u s2 ⟨v, H2, I2, r2, rfl, rfl⟩
    have lt : (acc ++ xs.take i).length < sizeLine := by
      have h4 : sizeLine = 16777216 := sizeLine_eq
      rw [List.length_append, List.length_take]
      have := Nat.min_le_right i xs.length
      omega
    refine wpAny_bind (app_ok (X := Z) I2 upd_same lt r2 fun s3 I3 => wpAny_pure ?_)
    rw [upd_upd] at I3
    refine cont s3 σ1 _ I3 ag ?_
    rw [List.take_add_one, hx, List.append_assoc]
    rfl
  · subst e
    rw [List.take_length] at I'
    exact fin s' σ' I' ag
/-- down a level: name, iterator, loop -/
theorem flat_down {pins : List (Addr × Obj)} {σ : L2.St} {H : Hp} {s : Shared} {c : Addr} {ys : List V} {nn : Str} {aa : Pos} {e : Expr} {d k : Nat} {D : Addr} {kk : Sem Fin} {Qf : Fin → Shared → Prop} {Ef : Value → Shared → Prop}
    (hxe : Z.xe = fun _ _ => False) (hN : Z.N[k]? = some nn) (hl : Z.env.scope.names.lookup nn = some .local) (hd : (nn == ("__debug__" : Str)) = false) (hcd : (nn == ("__classdict__" : Str)) = false)
    (I : Inv Z pins σ H s) (hk : σ[k]? = some (some (.ref c))) (hq : SqT Z.K H c ys)
    (go : ∀ s1 it, Inv Z pins σ H s1 → H it = none → (∀ H, H it = none → FpOk Z pins H it) → s1.heap.IsTupleIter it c 0 →
      codeAny (model Z.prog Z.w) Z.A (.compStart e d (.ref it) (.ref D) Z.env) (fun r s' => r = .ok .next ∧ wpAny (model Z.prog Z.w) Z.A kk Qf Ef s') s1) :
    wpAny (model Z.prog Z.w) Z.A (downBody e (.Name nn aa) d D Z.env kk) Qf Ef s := by
  have ev := (pe_var (pos := aa) (X := Z) hN (.inl hl) hd hcd).run _ s σ H (fun v H2 => v = .ref c ∧ H2 = H) I ⟨.ref c, hk, rfl, rfl⟩
  rw [hxe] at ev
  refine wpAny_bind (thnF ev ?_)
  rintro u s2 ⟨v, H2, I2, r2, rfl, rfl⟩
  obtain rfl : u = Value.ref c := r2
  refine wpAny_bind (wpAny_standAt (wpAny_bind (wpAny_of_eq (a := Value.ref c) rfl (wpAny_bind (wpAny_holding ?_)))))
  obtain ⟨its, rv, p, hz⟩ := I2.tuple hq
  refine wpAny_pyIter_tuple (show s2.heap.IsTuple c its.toArray from p) ?_
  refine wpAny_bind (wpAny_runOwn ?_)
  rw [Around.mark_none]
  have I3 : Inv Z pins σ H2 { s2 with heap := s2.heap.push { cls := .type "tuple_iterator", data := .fields #[.ref c, .int 0 0] } } := I2.kept (t' := s2.toks) fun b o e => Heap.get?_push_of_some _ e
  refine codeAny_mono (go _ s2.heap.objs.size I3 (I2.hok.fresh (Nat.le_refl _)) (fun H' h => I2.fpOk (Nat.le_refl _) h) ⟨_, Heap.get?_push_size _ rfl, rfl, rfl⟩) ?_
  rintro r s' ⟨rfl, hkk⟩
  exact hkk
/-- the middle loop -/
theorem flat_mid (B : FlatN Z n1 n2 n3 k1 k2 k3) {pins : List (Addr × Obj)} {σ : L2.St} {H : Hp} {s : Shared} {R : Result → Shared → Prop} {it D c : Addr} {acc cells xs : List V}
    (hn : H D = none) (hc : SqT Z.K H c cells) (hf : FlatL Z.K H cells xs) (hz : acc.length + xs.length ≤ 1000000) (I : Inv Z pins σ (upd H D (.lst acc)) s) (st : s.heap.IsTupleIter it c 0) (hit : (upd H D (.lst acc)) it = none)
    (hfp : ∀ H, H it = none → FpOk Z pins H it)
    (fin : ∀ s' σ', Inv Z pins σ' (upd H D (.lst (acc ++ xs))) s' → Ag [k2, k3] σ σ' → R (.ok .next) s') :
    codeAny (model Z.prog Z.w) Z.A (.compLoop (flatE n1 n2 n3 iter scope q1 q2 q3 a1 a2 a3 pos) 1 (.ref it) (.ref D) Z.env) R s := by
  refine flat_loop (ws := [k2, k3]) B.xe B.calm B.nd flat_t1 B.h2 (.inl B.l2) (.inr B.l2) (List.mem_cons_self) σ
    (fun i H' => ∃ pre suf ys zs, cells = pre ++ suf ∧ pre.length = i ∧ FlatL Z.K H pre ys ∧ FlatL Z.K H suf zs ∧ xs = ys ++ zs ∧ H' = upd H D (.lst (acc ++ ys)))
    (fun i H' _ ⟨_, _, _, _, _, _, _, _, _, e⟩ => by rw [e]; exact sqT_new hn hc) hfp (fun i x s1 σ1 H1 hx e hi I1 hk ag kk Qf Ef cont => ?_) (fun s' σ' H' I' ag e => ?_) I (Ag.refl _ _)
    ⟨[], cells, [], xs, rfl, rfl, .nil, hf, rfl, by rw [List.append_nil]⟩ hit st
  · obtain ⟨pre, suf, ys, zs, ec, el, f1, f2, ex, rfl⟩ := e
    cases f2 with
    | nil =>
      rw [ec, List.append_nil, ← el, List.getElem?_eq_none (Nat.le_refl _)] at hx
      exact nomatch hx
    | @cons b bs suf' zs' hb r =>
      have xb : x = .ref b := by
        rw [ec, ← el, List.getElem?_append_right (Nat.le_refl _), Nat.sub_self] at hx
        exact (Option.some.inj hx).symm
      subst xb
      have zl : acc.length + ys.length + bs.length ≤ 1000000 := by
        rw [ex, List.length_append, List.length_append] at hz
        omega
      refine flat_down B.xe B.h2 B.l2 B.d2 B.c2 I1 hk (sqT_new hn hb) fun s2 it2 I2 n2' fp2 st2 => ?_
      have loop : codeAny (model Z.prog Z.w) Z.A (.compLoop (flatE n1 n2 n3 iter scope q1 q2 q3 a1 a2 a3 pos) 2 (.ref it2) (.ref D) Z.env) (fun r s' => r = .ok .next ∧ wpAny (model Z.prog Z.w) Z.A kk Qf Ef s') s2 := by
        refine flat_in B hn hb (by rw [List.length_append]; exact zl) I2 st2 n2' fp2 fun s3 σ3 I3 ag3 => ⟨rfl, ?_⟩
        refine cont s3 σ3 _ I3 (ag.trans (ag3.mono (by simp))) ⟨pre ++ [.ref b], suf', ys ++ bs, zs', by rw [ec, List.append_assoc]; rfl, by rw [List.length_append, el]; rfl, FlatL.snoc hb f1, r, by rw [ex, List.append_assoc], by rw [List.append_assoc]⟩
      exact flat_s2 loop (wpAny_pyIter_tupleiter st2 loop)
  · obtain ⟨pre, suf, ys, zs, ec, el, f1, f2, ex, rfl⟩ := e
    have es : suf = [] := by
      have z := congrArg List.length ec
      rw [List.length_append, el] at z
      exact List.eq_nil_of_length_eq_zero (by omega)
    subst es
    cases f2
    rw [List.append_nil] at ex
    subst ex
    exact fin s' σ' I' ag
/-- the outer loop -/
theorem flat_out (B : FlatN Z n1 n2 n3 k1 k2 k3) {σ : L2.St} {H : Hp} {s : Shared} {R : Result → Shared → Prop} {it D c : Addr} {rows xs : List V}
    (hn : H D = none) (hc : SqT Z.K H c rows) (hf : FlatR Z.K H rows xs) (hz : xs.length ≤ 1000000) (I : Inv Z [] σ (upd H D (.lst [])) s) (st : s.heap.IsTupleIter it c 0) (hit : (upd H D (.lst [])) it = none)
    (hfp : ∀ H, H it = none → FpOk Z [] H it)
    (fin : ∀ s' σ', Inv Z [] σ' (upd H D (.lst xs)) s' → R (.ok .next) s') :
    codeAny (model Z.prog Z.w) Z.A (.compLoop (flatE n1 n2 n3 iter scope q1 q2 q3 a1 a2 a3 pos) 0 (.ref it) (.ref D) Z.env) R s := by
  refine flat_loop (ws := [k1, k2, k3]) B.xe B.calm B.nd flat_t0 B.h1 (.inl B.l1) (.inr B.l1) (List.mem_cons_self) σ
    (fun i H' => ∃ pre suf ys zs, rows = pre ++ suf ∧ pre.length = i ∧ FlatR Z.K H pre ys ∧ FlatR Z.K H suf zs ∧ xs = ys ++ zs ∧ H' = upd H D (.lst ys))
    (fun i H' _ ⟨_, _, _, _, _, _, _, _, _, e⟩ => by rw [e]; exact sqT_new hn hc) hfp (fun i x s1 σ1 H1 hx e hi I1 hk ag kk Qf Ef cont => ?_) (fun s' σ' H' I' ag e => ?_) I (Ag.refl _ _)
    ⟨[], rows, [], xs, rfl, rfl, .nil, hf, rfl, rfl⟩ hit st
  · obtain ⟨pre, suf, ys, zs, ec, el, f1, f2, ex, rfl⟩ := e
    cases f2 with
    | nil =>
      rw [ec, List.append_nil, ← el, List.getElem?_eq_none (Nat.le_refl _)] at hx
      exact nomatch hx
    | @cons b bcells bs suf' zs' hb hbl r =>
      have xb : x = .ref b := by
        rw [ec, ← el, List.getElem?_append_right (Nat.le_refl _), Nat.sub_self] at hx
        exact (Option.some.inj hx).symm
      subst xb
      have zl : ys.length + bs.length ≤ 1000000 := by
        rw [ex, List.length_append, List.length_append] at hz
        omega
      refine flat_down B.xe B.h1 B.l1 B.d1 B.c1 I1 hk (sqT_new hn hb) fun s2 it2 I2 n2' fp2 st2 => ?_
      have loop : codeAny (model Z.prog Z.w) Z.A (.compLoop (flatE n1 n2 n3 iter scope q1 q2 q3 a1 a2 a3 pos) 1 (.ref it2) (.ref D) Z.env) (fun r s' => r = .ok .next ∧ wpAny (model Z.prog Z.w) Z.A kk Qf Ef s') s2 := by
        refine flat_mid B hn hb hbl zl I2 st2 n2' fp2 fun s3 σ3 I3 ag3 => ⟨rfl, ?_⟩
        refine cont s3 σ3 _ I3 (ag.trans (ag3.mono (by simp))) ⟨pre ++ [.ref b], suf', ys ++ bs, zs', by rw [ec, List.append_assoc]; rfl, by rw [List.length_append, el]; rfl, FlatR.snoc hb hbl f1, r, by rw [ex, List.append_assoc], rfl⟩
      exact flat_s1 loop (wpAny_pyIter_tupleiter st2 loop)
  · obtain ⟨pre, suf, ys, zs, ec, el, f1, f2, ex, rfl⟩ := e
    have es : suf = [] := by
      have z := congrArg List.length ec
      rw [List.length_append, el] at z
      exact List.eq_nil_of_length_eq_zero (by omega)
    subst es
    cases f2
    rw [List.append_nil] at ex
    subst ex
    exact fin s' σ' I'
end
end Sg

set_option Elab.async false
set_option linter.all false
set_option maxRecDepth 100000
set_option maxHeartbeats 4000000
namespace Sg
open PySem PySem.Spec PyProof.Rows L2
/-- [c for a in e for b in a for c in b]: e a tuple of tuples of tuples -/
def tFlat (K : PySem.W.Frag) (te : TE) : TE := fun σ H Q => te σ H fun v H1 => ∃ t rows xs, v = .ref t ∧ SqT K H1 t rows ∧ FlatR K H1 rows xs ∧ xs.length ≤ 1000000 ∧
  ∀ D, H1 D = none → Q (.ref D) (upd H1 D (.lst xs))
section
variable {X : Cx} {n1 n2 n3 : Str} {iter : Expr} {scope : Scope} {q1 q2 q3 a1 a2 a3 pos : Pos} {k1 k2 k3 : Nat} {own : List (Str × Nat)} {te : TE}
theorem pe_flat (hc : X.calm = true) (hN : X.N.Nodup) (hi : PE X iter te) (ok : BlkOk X.N X.env.scope scope own)
    (h1 : X.N[k1]? = some n1) (h2 : X.N[k2]? = some n2) (h3 : X.N[k3]? = some n3)
    (l1 : ∀ (C : Addr) (cl : List (Str × Addr)), (compEnvC scope cl C X.env).scope.names.lookup n1 = some .local)
    (l2 : ∀ (C : Addr) (cl : List (Str × Addr)), (compEnvC scope cl C X.env).scope.names.lookup n2 = some .local)
    (l3 : ∀ (C : Addr) (cl : List (Str × Addr)), (compEnvC scope cl C X.env).scope.names.lookup n3 = some .local)
    (dd : ((n1 == ("__debug__" : Str)) || (n2 == ("__debug__" : Str)) || (n3 == ("__debug__" : Str)) || (n1 == ("__classdict__" : Str)) || (n2 == ("__classdict__" : Str)) || (n3 == ("__classdict__" : Str))) = false := by decide)
    (hs : ∀ x, foldedSetIterable iter X.env x = pure x := by intro _; rfl) :
    PE X (flatE n1 n2 n3 iter scope q1 q2 q3 a1 a2 a3 pos) (tFlat X.K te) := by
  simp only [Bool.or_eq_false_iff] at dd
  obtain ⟨⟨⟨⟨⟨d1, d2⟩, d3⟩, c1⟩, c2⟩, c3⟩ := dd
  constructor
  intro pins s σ H Q I h
  rw [eval_ListComp]
  have hfree : ∀ y ∈ scope.names, y.2 = .free → ∃ c, X.env.cells.lookup y.1 = some c := by
    intro y hy e
    cases ok.free y hy e with
    | inl k => exact I.ok.has _ (.inl k)
    | inr k => exact I.ok.has _ (.inr k)
  refine wpAny_comprehension_free (use := none) rfl hs (closure_ok hfree) ok.kind (fun y hy e => by rw [ok.uniq y hy, e]) (thn (hi.run pins s σ H _ I h) ?_)
  rintro xv s1 ⟨v, H1, I1, r1, t, rows, xs, rfl, hq, hf, hz, q⟩
  obtain rfl : xv = Value.ref t := r1
  obtain ⟨its, rv, p, hzz⟩ := I1.tuple hq
  refine wpAny_pyIter_tuple (show s1.heap.IsTuple t its.toArray from p) ?_
  generalize hs2 : ({ s1 with heap := s1.heap.push { cls := .type "tuple_iterator", data := .fields #[.ref t, .int 0 0] } } : Shared) = s2
  have I2 : Inv X pins σ H1 s2 := by
    rw [← hs2]
    exact I1.kept (t' := s1.toks) fun b o e => Heap.get?_push_of_some _ e
  generalize hit : s1.heap.objs.size = it
  have st2 : s2.heap.IsTupleIter it t 0 := by
    rw [← hs2, ← hit]
    exact ⟨_, Heap.get?_push_size _ rfl, rfl, rfl⟩
  have nn2 : H1 it = none := I1.hok.fresh (Nat.le_of_eq hit)
  have lt2 : it < s2.heap.objs.size := by
    obtain ⟨_, e, _⟩ := st2
    exact Heap.lt_size e
  have f2 : ∀ H', H' it = none → FpOk X pins H' it := fun H' hn => I1.fpOk (Nat.le_of_eq hit) hn
  refine wpAny_newObj_type (newEnv_comp ?_) (by show 0 ≤ sizeLine; decide)
  generalize hD : s2.heap.objs.size = D
  have hDn : H1 D = none := I2.hok.fresh (Nat.le_of_eq hD)
  generalize hs3 : ({ s2 with heap := s2.heap.push { cls := .type "list", data := .seq ([] : List Value).toArray } } : Shared) = s3
  have I3 : Inv X pins σ (upd H1 D (.lst [])) s3 := by
    rw [← hs3]
    refine I2.laid (t' := s2.toks) (fun b o e => Heap.get?_push_of_some _ e) (Nat.le_of_eq hD) ⟨Nat.zero_le _, [], 0, .nil, ?_⟩
    rw [← hD]
    exact Heap.get?_push_size _ rfl
  have k3' : ∀ b o, s2.heap.get? b = some o → s3.heap.get? b = some o := by
    intro b o e
    rw [← hs3]
    exact Heap.get?_push_of_some _ e
  have st3 : s3.heap.IsTupleIter it t 0 := st2.at fun o e => k3' it o e
  have lt3 : it < s3.heap.objs.size := by
    obtain ⟨_, e, _⟩ := st3
    exact Heap.lt_size e
  have nit : (upd H1 D (.lst [])) it = none := by
    rw [upd_ne (by rw [← hD]; exact Nat.ne_of_lt lt2)]
    exact nn2
  have I4 := block_start (fp := [it]) I3 ok hN (by
    intro b hb
    rw [List.mem_singleton.mp hb]
    exact ⟨f2 _ nit, lt3⟩)
  show codeAny _ _ (.compStart (flatE n1 n2 n3 iter scope q1 q2 q3 a1 a2 a3 pos) 0 (.ref it) (.ref D) (compEnvC scope (cellsFrom (s3.heap.objs.size + 1) scope.names (cloFrom X.env.cells scope.names [])) s3.heap.objs.size X.env))
    (compPost (model X.prog X.w) X.A X.xe none (EP X pins σ Q) (.ref D) s3.heap.objs.size) { s3 with heap := pushCells (s3.heap.push { cls := .type "dict", data := .dict #[] }) scope.names }
  have hl1 := l1 s3.heap.objs.size (cellsFrom (s3.heap.objs.size + 1) scope.names (cloFrom X.env.cells scope.names []))
  have hl2 := l2 s3.heap.objs.size (cellsFrom (s3.heap.objs.size + 1) scope.names (cloFrom X.env.cells scope.names []))
  have hl3 := l3 s3.heap.objs.size (cellsFrom (s3.heap.objs.size + 1) scope.names (cloFrom X.env.cells scope.names []))
  have cL : (compEnvC scope (cellsFrom (s3.heap.objs.size + 1) scope.names (cloFrom X.env.cells scope.names [])) s3.heap.objs.size X.env).locals = s3.heap.objs.size := rfl
  generalize compEnvC scope (cellsFrom (s3.heap.objs.size + 1) scope.names (cloFrom X.env.cells scope.names [])) s3.heap.objs.size X.env = ce at I4 hl1 hl2 hl3 cL ⊢
  have st4 : (pushCells (s3.heap.push { cls := .type "dict", data := .dict #[] }) scope.names).IsTupleIter it t 0 :=
    st3.at fun o e => pushCells_keeps _ _ _ _ (Heap.get?_push_of_some _ e)
  generalize hs4 : ({ s3 with heap := pushCells (s3.heap.push { cls := .type "dict", data := .dict #[] }) scope.names } : Shared) = s4 at I4 ⊢
  have st4' : s4.heap.IsTupleIter it t 0 := by rw [← hs4]; exact st4
  have B : FlatN (X.blk s3 (upd H1 D (.lst [])) scope ce [it]) n1 n2 n3 k1 k2 k3 := ⟨rfl, hc, hN, h1, h2, h3, hl1, hl2, hl3, d1, d2, d3, c1, c2, c3⟩
  have fpZ : ∀ H', H' it = none → FpOk (X.blk s3 (upd H1 D (.lst [])) scope ce [it]) [] H' it := by
    intro H' hn
    refine ⟨hn, (I4.ok.exf it (List.mem_singleton.mpr rfl)).1, I4.ok.exfs it (List.mem_singleton.mpr rfl), .inl (List.mem_singleton.mpr rfl), (I4.ok.exf it (List.mem_singleton.mpr rfl)).2, ?_⟩
    intro p hp
    have hp' : p ∈ ([] : List (Addr × Obj)) ++ [] := hp
    exact nomatch hp'
  have loop : codeAny (model X.prog X.w) X.A (.compLoop (flatE n1 n2 n3 iter scope q1 q2 q3 a1 a2 a3 pos) 0 (.ref it) (.ref D) ce)
      (compPost (model X.prog X.w) X.A X.xe none (EP X pins σ Q) (.ref D) s3.heap.objs.size) s4 := by
    refine flat_out B hDn hq hf hz I4 st4' nit fpZ ?_
    intro s' σ' I5
    have I6 : Inv X pins σ (upd H1 D (.lst xs)) s' := by
      refine I3.call' (ch := [it]) I5.os I5.base I5.hok I5.bare ?_
      intro b hb
      rw [List.mem_singleton.mp hb]
      obtain ⟨_, g1, g2, g3, g4, g5⟩ := f2 _ nit
      exact ⟨g3, g1, g4, g5⟩
    have nC : (upd H1 D (.lst xs)) s3.heap.objs.size = none := by
      have z : (upd H1 D (.lst xs)) ce.locals = none := I5.free
      rw [cL] at z
      exact z
    obtain ⟨m, hn, _⟩ := I5.loc
    have hn' : s'.heap.Ns ce.locals m := hn
    rw [cL] at hn'
    refine ⟨m, hn', ?_⟩
    intro h'' sb
    obtain ⟨f0, f1, f2', f3, f4, f5⟩ := I3.fpOk (Nat.le_refl _) nC
    exact ⟨.ref D, _, I6.turned (t' := s'.toks) (fun b o hb e => (sb.2 b hb).trans e) f0 f1 f3 f4 f5, rfl, q D hDn⟩
  exact codeAny_compStart_list loop (wpAny_pyIter_tupleiter st4' loop)
end
end Sg

set_option Elab.async false
set_option linter.all false
set_option maxRecDepth 100000
set_option maxHeartbeats 4000000
namespace Sg
open PySem PySem.Spec PyProof.Rows L2
/-! ## max with a default -/
section
variable {X : Cx}
theorem cr_maxD (hc : X.calm = true) {j : Nat} (hr : Room j X.A) : CallRK X (.builtin "max") ["default"] (fun vs zs H Q => ∃ (a : Addr) (ns : List Int) (d : Int), vs = [.ref a] ∧ zs = [.int d] ∧ SqL X.K H a (ns.map V.int) ∧
    ∀ m : Int, (ns = [] → m = d) → (ns ≠ [] → m ∈ ns ∧ ∀ x ∈ ns, x ≤ m) → Q (.int m) H) := by
  intro pins s σ H xs zs us ws Q I r rz h
  obtain ⟨a, ns, d, rfl, rfl, hs, q⟩ := h
  obtain ⟨u, rfl, rfl⟩ := vals1 r
  obtain ⟨dv, rfl, td, rfl⟩ := vals1 rz
  obtain ⟨its, rv, hl, hzz⟩ := I.list hs
  have dp : DpAll X.K H (ns.map V.int) (ns.map PyData.int) := by
    clear hs q rv hl hzz
    induction ns with
    | nil => exact .nil
    | cons x r ih => exact .cons (.int x) ih
  obtain ⟨as, rd⟩ := Dp.readsAll I (ns.map PyData.int) _ its dp rv
  have al : PySem.W.AlikeAll (ns.map PyData.int) := by
    constructor
    · intro x hx y hy
      obtain ⟨i, _, rfl⟩ := List.mem_map.mp hx
      obtain ⟨j, _, rfl⟩ := List.mem_map.mp hy
      rfl
    · intro x hx z
      obtain ⟨i, _, rfl⟩ := List.mem_map.mp hx
      exact nomatch z
  have dep : PyData.depthAll (ns.map PyData.int) = 0 := by
    clear hs q rv hl rd al dp hzz
    induction ns with
    | nil => rfl
    | cons x r ih =>
      show max (PyData.depth (.int x)) (PyData.depthAll (r.map PyData.int)) = 0
      rw [ih]; rfl
  have hu := hr.units
  refine PySem.W.max_list_default (I.ok.hd hc) hl.isList (by simpa using rd) al (by rw [dep]; omega) (fun e h' tk hk => ?_) (fun y ys i v h' tk bs e hv hrd hk => ?_)
  · exact ⟨.int d, H, I.kept hk, ⟨_, rfl⟩, q d (fun _ => rfl) (fun z => absurd (List.map_eq_nil_iff.mp e) z)⟩
  · cases ns with
    | nil => exact nomatch e
    | cons n ns' =>
      obtain ⟨e1, e2⟩ := List.cons.inj e
      subst e1 e2
      rw [PySem.W.maxD_ints] at hrd
      cases hrd
      refine ⟨.int _, H, I.kept hk, ⟨_, rfl⟩, q _ (fun z => nomatch z) (fun _ => ?_)⟩
      have key : ∀ (l : List Int) (a : Int), (l.foldl max a = a ∨ l.foldl max a ∈ l) ∧ a ≤ l.foldl max a ∧ ∀ x ∈ l, x ≤ l.foldl max a := by
        intro l
        induction l with
        | nil => intro a; exact ⟨.inl rfl, Int.le_refl _, fun x hx => nomatch hx⟩
        | cons b l ih =>
          intro a
          obtain ⟨g1, g2, g3⟩ := ih (max a b)
          refine ⟨?_, by show a ≤ l.foldl max (max a b); omega, fun x hx => ?_⟩
          · show l.foldl max (max a b) = a ∨ l.foldl max (max a b) ∈ b :: l
            rcases g1 with g | g
            · rcases Int.le_total a b with z | z
              · right; rw [g, Int.max_eq_right z]; exact List.mem_cons_self
              · left; rw [g, Int.max_eq_left z]
            · exact .inr (List.mem_cons_of_mem _ g)
          · show x ≤ l.foldl max (max a b)
            rcases List.mem_cons.mp hx with rfl | z
            · omega
            · exact g3 x z
      obtain ⟨g1, g2, g3⟩ := key ns' n
      refine ⟨?_, fun x hx => ?_⟩
      · rcases g1 with g | g
        · rw [g]; exact List.mem_cons_self
        · exact List.mem_cons_of_mem _ g
      · rcases List.mem_cons.mp hx with rfl | z
        · exact g2
        · exact g3 x z
end
/-! ## operators of one's own -/
section
variable {X : Cx} {k : Nat} {C g : Addr} {fd : FuncData} {ps : List Str} {sp : Sp}
theorem back_of {pins : List (Addr × Obj)} {σ : L2.St} {Q : VK} {u : Value} {s : Shared} (h : EP X pins σ Q u s) : PySem.W.CmpBack (EP X pins σ Q) u s := by
  obtain ⟨v, H, I, r, q⟩ := id h
  cases v with
  | non => cases r; exact h
  | bl b => cases r; exact h
  | int i => obtain ⟨t, rfl⟩ := r; exact h
  | str i => obtain ⟨t, rfl⟩ := r; exact h
  | byt i => obtain ⟨t, rfl⟩ := r; exact h
  | flt i => obtain ⟨t, rfl⟩ := r; exact h
  | ref a => cases r; exact h
  | ty n => cases r; exact h
/-- an instance of C -/
def InsAt (H : Hp) (C a : Addr) : Prop := ∃ dx fs, H a = some (.ins C dx fs)
theorem insAt_look {pins : List (Addr × Obj)} {σ : L2.St} {H : Hp} {s : Shared} {a : Addr} (I : Inv X pins σ H s) (h : InsAt H C a) : ∃ ox od, PySem.W.InstAt s.heap a ox C od := by
  obtain ⟨dx, fs, h⟩ := h
  obtain ⟨mA, O, _⟩ := ins_get I.hok h
  obtain ⟨od, J, _⟩ := O.look
  exact ⟨_, _, J⟩
/-- a + b and its like, both instances of C -/
theorem op_own {op : Operator} (F : FnOk X.prog X.w X.K X.mg X.base CX0 k g fd ps sp) (hr : Room k X.A) (hb : Binds X.K fd ps []) (hs : PySem.W.findIn X.K (.ref C) (PySem.dunder op.info.2) = some (some (.ref g)))
    (hf : PySem.W.isFn X.K (.ref g) = true) (hc : PySem.W.selfFirst X.K C = true) :
    OpR X (binaryOp op) (fun x y H Q => ∃ a b, x = .ref a ∧ y = .ref b ∧ InsAt H C a ∧ InsAt H C b ∧ sp [.ref a, .ref b] H Q E0) := by
  intro pins s σ H x y v u Q I rx ry h
  obtain ⟨a, b, rfl, rfl, ha, hb', h⟩ := h
  obtain rfl : v = Value.ref a := rx
  obtain rfl : u = Value.ref b := ry
  obtain ⟨m, hF⟩ := I.fr
  obtain ⟨_, _, J⟩ := insAt_look I ha
  obtain ⟨_, _, J'⟩ := insAt_look I hb'
  refine PySem.W.binop_K hF I.ok.mod.kin J J'.type hc hs hf ?_
  exact thn (run_fn (us := [.ref a, .ref b]) (vs := [.ref a, .ref b]) F hr hb .nil pass0 I (.cons rfl (.cons rfl .nil)) h) fun _ _ z => back_of z
/-- a - n, n a whole number -/
theorem op_ownI {op : Operator} {fo ro rc : Option Value} (F : FnOk X.prog X.w X.K X.mg X.base CX0 k g fd ps sp) (hr : Room k X.A) (hb : Binds X.K fd ps []) (hs : PySem.W.findIn X.K (.ref C) (PySem.dunder op.info.2) = some (some (.ref g)))
    (hf : PySem.W.isFn X.K (.ref g) = true) (hc : PySem.W.selfFirst X.K C = true) (hrr : PySem.W.findIn X.K (.ref C) (dunderR op.info.2) = some rc) (hp : rc = none ∨ ∃ g : Addr, rc = some (.ref g))
    (h1 : PySem.W.findIn X.K (.type "int") (PySem.dunder op.info.2) = some fo) (h2 : PySem.W.findIn X.K (.type "int") (dunderR op.info.2) = some ro) (hsub : PySem.W.subIn X.K (.type "int") (.ref C) = some false) :
    OpR X (binaryOp op) (fun x y H Q => ∃ a i, x = .ref a ∧ y = .int i ∧ InsAt H C a ∧ sp [.ref a, .int i] H Q E0) := by
  intro pins s σ H x y v u Q I rx ry h
  obtain ⟨a, i, rfl, rfl, ha, h⟩ := h
  obtain rfl : v = Value.ref a := rx
  obtain ⟨t, rfl⟩ := ry
  obtain ⟨m, hF⟩ := I.fr
  obtain ⟨_, _, J⟩ := insAt_look I ha
  refine PySem.W.ksp_binT (T := "int") hF I.ok.mod.kin J rfl hc hs hf hrr hp h1 h2 hsub ?_
  exact thn (run_fn (us := [.ref a, .int i t]) (vs := [.ref a, .int i]) F hr hb .nil pass0 I (.cons rfl (.cons ⟨t, rfl⟩ .nil)) h) fun _ _ z => back_of z
/-- -a -/
theorem un_own (F : FnOk X.prog X.w X.K X.mg X.base CX0 k g fd ps sp) (hr : Room k X.A) (hb : Binds X.K fd ps []) (hs : PySem.W.findIn X.K (.ref C) "__neg__" = some (some (.ref g))) (hf : PySem.W.isFn X.K (.ref g) = true) :
    UnR X (unaryOp .USub) (fun x H Q => ∃ a, x = .ref a ∧ InsAt H C a ∧ sp [.ref a] H Q E0) := by
  intro pins s σ H x v Q I rx h
  obtain ⟨a, rfl, ha, h⟩ := h
  obtain rfl : v = Value.ref a := rx
  obtain ⟨m, hF⟩ := I.fr
  obtain ⟨_, _, J⟩ := insAt_look I ha
  exact PySem.W.ksp_neg hF I.ok.mod.kin J hs hf (run_fn (us := [.ref a]) (vs := [.ref a]) F hr hb .nil pass0 I (.cons rfl .nil) h)
/-- a == b, both instances of C -/
theorem op_ownEq (F : FnOk X.prog X.w X.K X.mg X.base CX0 k g fd ps sp) (hr : Room k X.A) (hb : Binds X.K fd ps []) (hs : PySem.W.findIn X.K (.ref C) "__eq__" = some (some (.ref g))) (hf : PySem.W.isFn X.K (.ref g) = true) :
    OpR X (compareOp .Eq) (fun x y H Q => ∃ a b, x = .ref a ∧ y = .ref b ∧ InsAt H C a ∧ InsAt H C b ∧ sp [.ref a, .ref b] H Q E0) := by
  intro pins s σ H x y v u Q I rx ry h
  obtain ⟨a, b, rfl, rfl, ha, hb', h⟩ := h
  obtain rfl : v = Value.ref a := rx
  obtain rfl : u = Value.ref b := ry
  obtain ⟨m, hF⟩ := I.fr
  obtain ⟨_, _, J⟩ := insAt_look I ha
  obtain ⟨_, _, J'⟩ := insAt_look I hb'
  show wpAny (model X.prog X.w) X.A (richCompare .Eq (.ref a) (.ref b)) (EP X pins σ Q) X.xe s
  refine PySem.W.cmp_K (op := .Eq) (tb := .ref C) hr.units0 hF I.ok.mod.kin J J'.type (by simp [PySem.W.notFirst]) hs hf ?_
  exact thn (run_fn (us := [.ref a, .ref b]) (vs := [.ref a, .ref b]) F hr hb .nil pass0 I (.cons rfl (.cons rfl .nil)) h) fun _ _ z => back_of z
/-- a def called one C frame further in -/
theorem run_in1 {pins : List (Addr × Obj)} {σ : L2.St} {H : Hp} {s : Shared} {Q : VK} {us : List Value} {vs : List V} (F : FnOk X.prog X.w X.K X.mg X.base CX0 k g fd ps sp) (hr : Room (k + 1) X.A) (hb : Binds X.K fd ps [])
    (I : Inv X pins σ H s) (r : Vals vs us) (h : sp vs H Q E0) {E : Value → Shared → Prop} : wpAny (model X.prog X.w) X.A.in1 (call (.ref g) us) (EP X pins σ Q) E s := by
  have hl : (us ++ []).length = ps.length := by rw [List.append_nil, ← r.length]; exact F.len _ _ _ _ h
  have hbb := hb s us I.kIn hl
  rw [List.append_nil] at hbb
  refine wpAny_call (codeAny_mono (F.run X.A.in1 X.stack s H ⟨us, []⟩ us vs Q E0 hr.in1 I.env0.in1 hbb r h) ?_)
  intro r' s' hq
  match r', hq with
  | .error _, hq => exact hq.elim
  | .ok (.ret _), hq => exact I.after hq
  | .ok .next, hq => exact hq.elim
  | .ok .brk, hq => exact hq.elim
  | .ok .cont, hq => exact hq.elim
/-- len(a) -/
theorem call_lenO (F : FnOk X.prog X.w X.K X.mg X.base CX0 k g fd ps sp) (hr : Room (k + 1) X.A) (hb : Binds X.K fd ps []) (hs : PySem.W.findIn X.K (.ref C) "__len__" = some (some (.ref g))) (hf : PySem.W.isFn X.K (.ref g) = true) :
    CallR X (.builtin "len") (fun xs H Q => ∃ a, xs = [.ref a] ∧ InsAt H C a ∧ sp [.ref a] H (fun v H' => ∃ n : Nat, v = .int n ∧ n < 1000000 ∧ Q (.int n) H') E0) := by
  intro pins s σ H xs us Q I r h
  obtain ⟨a, rfl, ha, h⟩ := h
  obtain ⟨u, rfl, rfl⟩ := vals1 r
  obtain ⟨m, hF⟩ := I.fr
  obtain ⟨_, _, J⟩ := insAt_look I ha
  refine PySem.W.len_K hF I.ok.mod.kin J hs hf (thn (run_in1 (us := [.ref a]) (vs := [.ref a]) F hr hb I (.cons rfl .nil) h) ?_)
  rintro v s' ⟨x, H', I', rx, n, rfl, hn, q⟩
  obtain ⟨t, rfl⟩ := rx
  exact ⟨⟨by omega, by omega⟩, ⟨.int n, H', I'.tok _, ⟨_, rfl⟩, q⟩⟩
/-- a[i] -/
theorem ix_own (F : FnOk X.prog X.w X.K X.mg X.base CX0 k g fd ps sp) (hr : Room k X.A) (hb : Binds X.K fd ps []) (hs : PySem.W.findIn X.K (.ref C) "__getitem__" = some (some (.ref g))) (hf : PySem.W.isFn X.K (.ref g) = true) (hq : PySem.W.noSeq X.K C = true) :
    ∀ (pins : List (Addr × Obj)) (s : Shared) (σ : L2.St) (H : Hp) (a : Addr) (y : V) (u : Value) (Q : VK), Inv X pins σ H s → RelV y u → InsAt H C a → sp [.ref a, y] H Q E0 →
      wpAny (model X.prog X.w) X.A (getItem (.ref a) u) (EP X pins σ Q) X.xe s := by
  intro pins s σ H a y u Q I ry ha h
  obtain ⟨m, hF⟩ := I.fr
  obtain ⟨_, _, J⟩ := insAt_look I ha
  exact PySem.W.getItem_K hF I.ok.mod.kin J hq hs hf (run_fn (us := [.ref a, u]) (vs := [.ref a, y]) F hr hb .nil pass0 I (.cons rfl (.cons ry .nil)) h)
/-- the same as an FnR -/
theorem fnR_of {P : Program} {w : World} {K : PySem.W.Frag} {mg : Str → Option Value} {base : Heap} (F : FnOk P w K mg base CX0 k g fd ps sp) (hb : Binds K fd ps []) : FnR P w K mg base CX0 k g sp := by
  intro A outer s H us vs Q E hr e0 r h
  have hl : (us ++ []).length = ps.length := by rw [List.append_nil, ← r.length]; exact F.len _ _ _ _ h
  have KX : K.In s.heap := e0.mod.kin.keeps fun b o e => (e0.bs b o e).1
  have hbb := hb s us KX hl
  rw [List.append_nil] at hbb
  exact F.run A outer s H ⟨us, []⟩ us vs Q E hr e0 hbb r h
end
end Sg

set_option Elab.async false
set_option linter.all false
set_option maxRecDepth 100000
set_option maxHeartbeats 4000000
namespace Sg
open PySem PySem.Spec PyProof.Rows L2
/-! ## != by an own __eq__ -/
theorem slot_object_ne : Slot "object" "__ne__" "object.__ne__" :=
  Slot.of (T := "object") (name := "__ne__") (owner := "object") (n := "__ne__") (by rw [typeLookup_type, builtinLookup_eq_fast]; kernel_rfl)
    (by decide +kernel) (by decide +kernel) (by decide +kernel) (.inl (by decide +kernel)) (by rw [isSubtype_type]; kernel_rfl)
section
variable {X : Cx} {k : Nat} {C g : Addr} {fd : FuncData} {ps : List Str} {sp : Sp}
theorem op_ownNe (F : FnOk X.prog X.w X.K X.mg X.base CX0 k g fd ps sp) (hr : Room (k + 2) X.A) (hb : Binds X.K fd ps []) (hs : PySem.W.findIn X.K (.ref C) "__eq__" = some (some (.ref g))) (hf : PySem.W.isFn X.K (.ref g) = true)
    (hne : PySem.W.findIn X.K (.ref C) "__ne__" = some (some (.builtin "object.__ne__"))) (hsub : PySem.W.subIn X.K (.ref C) (.type "object") = some true) :
    OpR X (compareOp .NotEq) (fun x y H Q => ∃ a b, x = .ref a ∧ y = .ref b ∧ InsAt H C a ∧ InsAt H C b ∧ sp [.ref a, .ref b] H (fun v H' => ∃ c, v = .bl c ∧ Q (.bl (!c)) H') E0) := by
  intro pins s σ H x y v u Q I rx ry h
  obtain ⟨a, b, rfl, rfl, ha, hb', h⟩ := h
  obtain rfl : v = Value.ref a := rx
  obtain rfl : u = Value.ref b := ry
  obtain ⟨_, _, J⟩ := insAt_look I ha
  obtain ⟨_, _, J'⟩ := insAt_look I hb'
  have hcall := run_in1 (us := [.ref a, .ref b]) (vs := [.ref a, .ref b]) (E := X.xe) F (hr.mono (by omega)) hb I (.cons rfl (.cons rfl .nil)) h
  have inner : wpAny (model X.prog X.w) X.A.in1 (Builtin.«object.__ne__» ⟨[.ref a, .ref b], []⟩) (fun fin s' => ∃ r, fin = .done (.ret (.bool r)) ∧ EP X pins σ Q (.bool r) s') X.xe s := by
    unfold Builtin.«object.__ne__»
    refine wpAny_bind (m := slotArgs "__ne__" 1 ⟨[.ref a, .ref b], []⟩) (wpAny_of_eq (a := (Value.ref a, [Value.ref b])) (by first | rfl | (simp only [slotArgs]; rfl)) ?_)
    refine wpAny_bind (wpAny_cRoomFor (show X.A.in1.units < cLine from (hr.mono (show k + 1 ≤ k + 2 by omega)).in1.units0) ?_)
    refine wpAny_bind (m := callSpecialIfBound? (.ref a) (Str.ofString "__eq__") [.ref b]) (PySem.W.ifBound_K I.kIn J hs hf (thn hcall ?_))
    rintro w' s' ⟨z, H', I', rz, c, rfl, q⟩
    obtain rfl : w' = Value.bool c := rz
    refine wpAny_bind (wpAny_truthy_bool ?_)
    exact wpAny_pure ⟨!c, rfl, .bl (!c), H', I', rfl, q⟩
  have isI : PySem.W.Looks (model X.prog X.w) s.heap (isInstance (.ref a) (.type "object")) true := J.type.andThen (PySem.W.looks_subIn I.kIn hsub)
  have one : wpAny (model X.prog X.w) X.A (tryCompare (.ref a) "__ne__" (.ref b)) (fun r s' => ∃ c, r = some (.bool c) ∧ EP X pins σ Q (.bool c) s') X.xe s := by
    unfold tryCompare
    have call1 : wpAny (model X.prog X.w) X.A (call (.builtin "object.__ne__") [.ref a, .ref b]) (fun r s' => ∃ c, r = .bool c ∧ EP X pins σ Q (.bool c) s') X.xe s := by
      refine wpAny_call (codeAny_call_builtin slot_object_ne.plain PySem.F.cmpEntry_ne ?_)
      refine PySem.W.check_slot PySem.F.cmpKind_ne PySem.F.cmpSplit_ne isI (PySem.F.cmpArgs_ne _ _) (thn inner ?_)
      rintro fin s' ⟨r, rfl, q⟩
      exact ⟨r, rfl, q⟩
    have call2 : wpAny (model X.prog X.w) X.A (callSpecialIfBound? (.ref a) "__ne__" [.ref b]) (fun r s' => ∃ c, r = some (.bool c) ∧ EP X pins σ Q (.bool c) s') X.xe s := by
      simp only [callSpecialIfBound?, bindSpecialIfBound?]
      refine wpAny_holding (wpAny_bind (wpAny_bind (wpAny_bind (J.type.here ((PySem.W.looks_findIn I.kIn hne).here ?_)))))
      refine wpAny_bind (wpAny_askSetting (wpAny_ite ?_))
      have fin : wpAny (model X.prog X.w) X.A (call (.builtin "object.__ne__") ([.ref a] ++ [.ref b]) >>= fun v => pure (some v)) (fun r s' => ∃ c, r = some (.bool c) ∧ EP X pins σ Q (.bool c) s') X.xe s := by
        refine wpAny_bind (thn call1 ?_)
        rintro r s' ⟨c, rfl, q⟩
        exact wpAny_pure ⟨c, rfl, q⟩
      have bind : (bindSpecial (.builtin "object.__ne__") (.ref a) : Sem _) = pure (.builtin "object.__ne__", [.ref a]) := slot_object_ne.bind (.ref a)
      split
      · rw [bind]; exact wpAny_bind (wpAny_pure (wpAny_pure (by exact fin)))
      · rw [bind]; exact wpAny_tryCatch (wpAny_bind (wpAny_pure (wpAny_pure (by exact fin))))
    refine wpAny_bind (thn call2 ?_)
    rintro r s' ⟨c, rfl, q⟩
    exact wpAny_pure ⟨c, rfl, q⟩
  show wpAny (model X.prog X.w) X.A (richCompare .NotEq (.ref a) (.ref b)) (EP X pins σ Q) X.xe s
  unfold richCompare
  simp only [oneThing_ref]
  refine wpAny_holding (wpAny_bind (wpAny_cRoomFor hr.units0 ?_))
  refine wpAny_bind (J.type.here (wpAny_bind (J'.type.here ?_)))
  rw [show (Value.ref C != Value.ref C) = false from by simp]
  simp only [Bool.false_eq_true, if_false]
  refine wpAny_bind (wpAny_pure ?_)
  simp only [Bool.false_eq_true, if_false]
  refine wpAny_bind (thn one ?_)
  rintro r s' ⟨c, rfl, q⟩
  exact wpAny_pure q
end
end Sg

set_option Elab.async false
set_option linter.all false
set_option maxRecDepth 100000
set_option maxHeartbeats 4000000
namespace Sg
open PySem PySem.Spec PyProof.Rows L2 HT
/-! ## t[::-1] of a tuple -/
section
variable {prog : Program} {w : World} {A : Around} {E : Value → Shared → Prop} {s : Shared}
theorem slicePlaces_rev (n : Nat) : Builtin.Slice.slicePlaces ((n : Int) - 1) (-1) (-1) = n := by
  unfold Builtin.Slice.slicePlaces
  have h1 : ¬ ((-1 : Int) > 0) := by omega
  simp only [h1, if_false, Int.neg_neg, Int.ediv_one]
  split <;> omega
theorem sliceApplied_rev {sl : Addr} {vl vu vs : Value} {n : Nat} {Q : Int × Int × Nat → Shared → Prop} (hs : s.heap.IsSliceOf sl vl vu vs) (pl : IsPart vl none) (pu : IsPart vu none) (ps : IsPart vs (some (-1)))
    (h : Q ((n : Int) - 1, -1, n) s) : wpAny (model prog w) A (Builtin.Slice.sliceApplied (.ref sl) (pure (n : Int))) Q E s := by
  obtain ⟨os, hos, hcs, hds⟩ := id hs
  unfold Builtin.Slice.sliceApplied Builtin.Slice.sliceFields
  refine wpAny_bind (wpAny_bind (wpAny_field hos hds (x := vl) rfl (wpAny_bind (wpAny_field hos hds (x := vu) rfl (wpAny_bind (wpAny_field hos hds (x := vs) rfl (wpAny_pure ?_)))))))
  refine wpAny_bind (slicePart_ ps ?_)
  show wpAny _ _ (if ((-1 : Int) == 0) = true then _ else _) _ _ s
  rw [if_neg (by decide)]
  refine wpAny_bind (slicePart_ pl (wpAny_bind (slicePart_ pu (wpAny_bind (wpAny_pure ?_)))))
  show wpAny _ _ (pure ((n : Int) - 1, (-1 : Int), Builtin.Slice.slicePlaces ((n : Int) - 1) (-1) (-1))) _ _ s
  rw [slicePlaces_rev]
  exact wpAny_pure h
theorem filterMap_on {α β : Type} {f g : α → Option β} : ∀ {l : List α}, (∀ x ∈ l, f x = g x) → l.filterMap f = l.filterMap g
  | [], _ => rfl
  | x :: r, h => by
    rw [List.filterMap_cons, List.filterMap_cons, h x List.mem_cons_self, filterMap_on fun y hy => h y (List.mem_cons_of_mem _ hy)]
theorem pick_rev (xs : Array Value) : ((List.range xs.size).filterMap fun (m : Nat) => xs[(((xs.size : Int) - 1) + (m : Int) * (-1)).toNat]?).toArray = xs.toList.reverse.toArray := by
  have e1 : ∀ m ∈ List.range xs.size, xs[(((xs.size : Int) - 1) + (m : Int) * (-1)).toNat]? = xs[xs.size - 1 - m]? := by
    intro m hm
    have := List.mem_range.mp hm
    rw [show (((xs.size : Int) - 1) + (m : Int) * (-1)).toNat = xs.size - 1 - m from by omega]
  have e2 : ((List.range xs.size).map fun k => xs.size - 1 - k).filterMap (xs[·]?) = xs.toList.reverse := by
    rw [PySem.W.krv_range, List.filterMap_reverse, PySem.W.krv_all]
  rw [List.filterMap_map] at e2
  rw [← e2]
  congr 1
  exact filterMap_on (fun m hm => e1 m hm)
theorem getItem_tuple_rev {t sl : Addr} {items : Array Value} {vl vu vs : Value} {Q : Value → Shared → Prop} (ht : IsTup s.heap t items) (hs : s.heap.IsSliceOf sl vl vu vs) (pl : IsPart vl none) (pu : IsPart vu none) (ps : IsPart vs (some (-1)))
    (h : Q (.ref s.heap.objs.size) { s with heap := s.heap.push { cls := .type "tuple", data := .seq items.toList.reverse.toArray } })
    (hsz : items.size ≤ sizeLine) : wpAny (model prog w) A (getItem (.ref t) (.ref sl)) Q E s := by
  have htake : sizeOk (.seq items.toList.reverse.toArray) := by
    show items.toList.reverse.toArray.size ≤ sizeLine
    rw [List.size_toArray, List.length_reverse, Array.length_toList]
    exact hsz
  obtain ⟨os, hos, hcs, hds⟩ := id hs
  have hTs : s.TypeIs (.ref sl) "slice" := ⟨os, hos, hcs⟩
  unfold getItem
  try with_reducible refine wpAny_holding ?_
  first | refine wpAny_bind (wpAny_pure ?_) | skip
  refine wpAny_bind (wpAny_sequenceKey ht.typeIs (by decide) ?_)
  refine wpAny_bind (wpAny_callSpecial?_slot (name := Str.ofString "__getitem__") ht.typeIs PyProof.Rows.slot_tuple_getitem
    (wpAny_call_entry PyProof.Rows.slot_tuple_getitem ht.typeIs entry_tuple_getitem ?_ (args_tuple_getitem _ _)))
  show wpAny _ _ (Builtin.Tuple.tupleItemsOf (.ref t) >>= _) _ _ s
  refine wpAny_bind (tupleItemsOf_ ht ?_)
  refine wpAny_bind (wpAny_typeOf hTs ?_)
  rw [if_pos (by decide)]
  refine wpAny_bind (sliceApplied_rev hs pl pu ps ?_)
  have hno : ¬ ((((items.size : Int) - 1) == 0 && (-1 : Int) == 1 && items.size == items.size) = true) := by
    rw [show ((-1 : Int) == 1) = false from by decide, Bool.and_false, Bool.false_and]
    exact Bool.false_ne_true
  show wpAny _ _ (if (((items.size : Int) - 1) == 0 && (-1 : Int) == 1 && items.size == items.size) = true then _ else _) _ _ s
  rw [if_neg hno, pick_rev]
  first
    | exact wpAny_bind (m := Builtin.Tuple.tupleExact _) (wpAny_newObj_type (wpAny_pure ⟨_, rfl, wpAny_pure h⟩) htake)
    | exact wpAny_bind (m := Builtin.Tuple.tupleExact _) (wpAny_newObj_type (wpAny_bind (wpAny_pure (wpAny_pure ⟨_, rfl, wpAny_pure h⟩))) htake)
    | exact wpAny_bind (wpAny_bind (m := Builtin.Tuple.tupleExact _) (wpAny_newObj_type (wpAny_pure (wpAny_pure ⟨_, rfl, wpAny_pure h⟩)) htake))
    | exact wpAny_bind (wpAny_bind (m := Builtin.Tuple.tupleExact _) (wpAny_newObj_type (wpAny_pure ⟨_, rfl, wpAny_pure h⟩) htake))
end
def tRevT (K : PySem.W.Frag) (te : TE) : TE := fun σ H Q => te σ H fun x H1 => ∃ a xs, x = .ref a ∧ SqT K H1 a xs ∧ ∀ p, H1 p = none → Q (.ref p) (upd H1 p (.tup xs.reverse))
theorem pe_revT {X : Cx} {K : PySem.W.Frag} {e : Expr} {te : TE} {k : Nat} {p1 p2 p3 pos : Pos} (hK : X.K = K) (he : PE X e te) : PE X (.Subscript e (.Slice none none (some (.UnaryOp .USub (.Constant (.int 1) k p1) p2)) p3) pos) (tRevT K te) := by
  subst hK
  refine ⟨fun pins s σ H Q I h => ?_⟩
  refine Subscript_ (thn (he.run pins s σ H _ I h) fun v s1 ⟨x, H1, I1, r1, q1⟩ => ?_)
  obtain ⟨a, xs, ex, hx, q⟩ := q1
  subst ex
  cases r1
  have hst : PO X (some (.UnaryOp .USub (.Constant (.int 1) k p1) p2)) (tPart (tUn (rU fun i => .int (-i)) (tC (.int 1)))) := po_some (pe_un un_neg pe_int)
  refine wpAny_Slice (thn (po_none.run pins s1 σ H1 (fun o H2 => o = none ∧ H2 = H1) I1 ⟨rfl, rfl⟩) fun vl s2 ⟨l, H2, I2, pl, el, e2⟩ => ?_)
  subst el e2
  refine thn (po_none.run pins s2 σ H2 (fun o H3 => o = none ∧ H3 = H2) I2 ⟨rfl, rfl⟩) fun vu s3 ⟨u, H3, I3, pu, eu, e3⟩ => ?_
  subst eu e3
  refine thn (hst.run pins s3 σ H3 (fun o H4 => o = some (-1) ∧ H4 = H3) I3 ⟨1, rfl, -1, rfl, rfl, rfl⟩) fun vs s4 ⟨o, H4, I4, ps, eo, e4⟩ => ?_
  subst eo e4
  have I5 : Inv X pins σ H4 { s4 with heap := s4.heap.push { cls := .type "slice", data := .fields #[vl, vu, vs] } } := I4.kept (t' := s4.toks) fun b ob q => Heap.get?_push_of_some _ q
  obtain ⟨its, r, ht, hz⟩ := I5.tuple hx
  have hlen := r.length
  show wpAny (model X.prog X.w) X.A (subscriptTail e (.Slice none none (some (.UnaryOp .USub (.Constant (.int 1) k p1) p2)) p3) (.ref a) (.ref s4.heap.objs.size)) (EP X pins σ Q) X.xe { s4 with heap := s4.heap.push { cls := .type "slice", data := .fields #[vl, vu, vs] } }
  refine tail_any (ops := [.ref a, .ref s4.heap.objs.size]) ht.typeIs PyProof.Rows.slot_tuple_getitem.lookup ?_ (by with_unfolding_all rfl)
  refine getItem_tuple_rev ht (Heap.IsSliceOf.new _ vl vu vs) pl pu ps ?_ (by rw [List.size_toArray]; omega)
  refine ⟨.ref _, _, I5.laid (t' := s4.toks) (o := .tup xs.reverse) (fun b ob q => Heap.get?_push_of_some _ q) (Nat.le_refl _) ?_, rfl, q _ (I5.hok.fresh (Nat.le_refl _))⟩
  exact ⟨by rw [List.length_reverse]; exact hz, _, r.reverse, IsTup.new _ _⟩
end Sg

set_option Elab.async false
set_option linter.all false
set_option maxRecDepth 100000
set_option maxHeartbeats 4000000
namespace Sg
open PySem PySem.Spec PyProof.Rows L2
/-! ## d.setdefault(t, v), t a tuple of ints and texts -/
def rSetdT : V → List V → Hp → VK → Prop := fun x xs H Q => ∃ (a : Addr) (kvs : List (List L2.Key × V)) (k : List L2.Key) (b : Addr) (d : V), x = .ref a ∧ xs = [.ref b, d] ∧ H a = some (.dT kvs) ∧ H b = some (.tup (k.map kV)) ∧ kvs.length < sizeLine ∧
  (∀ v, valV kvs k = some v → Q v H) ∧ (valV kvs k = none → Q d (upd H a (.dT (putK kvs k d))))
theorem mt_setdT {X : Cx} (hu : X.A.units + 1 < cLine) : MtR X "dict.setdefault" rSetdT := by
  intro pins s σ H x xs v us Q I rx rxs h
  obtain ⟨a, kvs, k, b, d, rfl, rfl, ha, hb, hl, q1, q2⟩ := h
  cases rx
  obtain ⟨u1, u2, rfl, r1, r2⟩ := vals2 rxs
  cases r1
  obtain ⟨z, hd, xs', rel, dd⟩ := dt_of I.hok ha
  have hz : xs'.length ≤ sizeLine := by rw [← Paired.length rel]; exact z
  refine call_meetsIn PySem.F.slot_dict_setdefault dd.typeIs PySem.F.entry_dict_setdefault (PySem.F.args_dict_setdefault_3 _ _ _) (meetsH_dict_setdefault (tupleKind (mixKind X.prog X.w)) a b hd u2)
    ⟨tupleKind_room_in1 hu, k, xs', key_of I.hok hb, dd, hz, fun p hp => ?_, fun hn h' dd' hs => ?_⟩
  · have r := rel.val k
    rw [hp] at r
    obtain ⟨v0, ev, rv⟩ : ∃ v0, valV kvs k = some v0 ∧ RelV v0 p.2 := by
      cases ev : valV kvs k with
      | none =>
        rw [ev] at r
        exact (show False from r).elim
      | some v0 =>
        rw [ev] at r
        exact ⟨v0, rfl, r⟩
    exact ⟨v0, H, I.tok _, rv, q1 v0 ev⟩
  · have r := rel.val k
    rw [hn] at r
    have e : valV kvs k = none := by
      cases ev : valV kvs k with
      | none => rfl
      | some v0 =>
        rw [ev] at r
        exact (show False from r).elim
    have hl2 : (putK kvs k d).length ≤ sizeLine := by
      have := length_putK kvs k d
      omega
    obtain ⟨o, es, ep, hq, h2, h3, h4, _, h5⟩ := dd'
    refine ⟨d, _, ?_, r2, q2 e⟩
    exact d_write I (by rw [ha]; exact True.intro) hs ⟨o, hq⟩ ⟨hl2, hd, _, (rel.put k hb r2).keeps (fun c ys ec => (by rw [upd_ne (ne_of ec ha (fun z => nomatch z))]; exact ec)), o, es, ep, hq, h2, h3, h4, h5⟩
end Sg

set_option Elab.async false
set_option linter.all false
set_option maxRecDepth 100000
set_option maxHeartbeats 4000000
namespace Sg
open PySem PySem.Spec PyProof.Rows L2
/-! ## for k, v in d.items(), d with tuples as keys -/
theorem pair_at {α β : Type} {G : α → β → Prop} : ∀ {l : List α} {m : List β}, Paired G l m → ∀ {i : Nat} {x : α}, l[i]? = some x → ∃ y, m[i]? = some y ∧ G x y
  | _, _, .nil, i, x, e => nomatch e
  | _, _, .cons r t, 0, x, e => by
    cases e
    exact ⟨_, rfl, r⟩
  | _, _, .cons r t, i + 1, x, e => pair_at t (i := i) (by simpa using e)
/-- the entries, as new pairs of the key's own tuple and the value -/
def IteT (d : Addr) (ob : Obj) (es : List (List L2.Key × V)) : It where
  go := fun j G => G d = some (.frz ob (.dT es)) ∧ j < es.length
  yld := fun j G x G' => ∃ t r k u, es[j]? = some (k, u) ∧ G r = some (.tup (k.map kV)) ∧ x = .ref t ∧ G t = none ∧ G' = upd G t (.tup [.ref r, u])
  stop := fun j G => G d = some (.frz ob (.dT es)) ∧ es.length ≤ j
section
variable {X : Cx} {pins : List (Addr × Obj)} {σ : L2.St} {H : Hp} {s : Shared} {d : Addr} {ob : Obj}
theorem frz_dT {ks : List (List L2.Key × V)} (I : Inv X pins σ H s) (h : H d = some (.frz ob (.dT ks))) : (d == sysModules) = false ∧ ∃ (es : Array DictEntry) (ep : Nat), DT.Raw s.heap d es ep ∧ ob.data = .dict es ep ∧ es.size = ks.length ∧
    ∀ (i : Nat) (k : List L2.Key) (v : V), ks[i]? = some (k, v) → ∃ (en : DictEntry) (q : Addr), es[i]? = some en ∧ en.key = .ref q ∧ RelV v en.val ∧ H q = some (.tup (k.map kV)) := by
  obtain ⟨g, _, ns, ys, pr, o2, es, ep, g2, hx, hdt, he, _⟩ := I.hok d _ h
  rw [g] at g2
  cases g2
  have l1 : es.size = ys.length := by
    have := congrArg List.length he
    rw [List.length_map, Array.length_toList] at this
    exact this
  have l2 : ks.length = ys.length := Paired.length pr
  refine ⟨ns, es, ep, ⟨ob, g, hx, hdt⟩, hdt, by omega, fun i k v e => ?_⟩
  obtain ⟨b, hb, e1, e2, e3⟩ := pair_at pr e
  have q : es[i]? = some (entryOfKey (tupleKind (mixKind X.prog X.w)) b) := by
    rw [← Array.getElem?_toList, he, List.getElem?_map, hb]
    rfl
  exact ⟨_, b.2.1, q, rfl, e3, e2⟩
end
theorem same_dict {o : Obj} {x y : Array DictEntry} {m n : Nat} (h : o.data = .dict x m) (h' : o.data = .dict y n) : y = x ∧ n = m := by
  rw [h] at h'
  cases h'
  exact ⟨rfl, rfl⟩
section
variable {P : Program} {w : World} {K : PySem.W.Frag} {d : Addr} {o : Obj} {es : Array DictEntry} {ep : Nat}
theorem turn_itemsT {ks : List (List L2.Key × V)} {elts : List Expr} {kk : Nat} {tpos : Pos} (it : Addr) (hod : o.data = .dict es ep) (hsz : es.size = ks.length) :
    Turn P w K (.Tuple elts kk tpos) (IteT d o ks) [it] it (fun i h => ∃ x y, IsItemIter h it d i es.size ep x y) where
  mem := List.mem_singleton.mpr rfl
  obj := by
    rintro i h ⟨x, y, e⟩ b hb
    obtain rfl := List.mem_singleton.mp hb
    exact ⟨_, e, fun v z => nomatch z⟩
  keep := by
    rintro i h h' ⟨x, y, e⟩ k
    exact ⟨x, y, k it (List.mem_singleton.mpr rfl) _ e⟩
  item := by
    intro X e1 e2 e3 hc i pins s σ H E I hf ⟨x, y, st⟩ ⟨hd, hi⟩
    subst e1 e2 e3
    obtain ⟨ns, es2, ep2, raw, hdt, hz, ent⟩ := frz_dT I hd
    obtain ⟨rfl, rfl⟩ := same_dict hod hdt
    obtain ⟨⟨k, v⟩, hkv⟩ : ∃ p, ks[i]? = some p := ⟨ks[i], List.getElem?_eq_getElem hi⟩
    obtain ⟨en, q, g1, g2, g3, g4⟩ := ent i k v hkv
    have hi2 : i < es2.size := by omega
    have g5 : es2[i] = en := by
      rw [Array.getElem?_eq_getElem hi2] at g1
      exact Option.some.inj g1
    have below : it < s.heap.objs.size := Heap.lt_size st
    have apart : s.heap.objs.size ≠ it := Nat.ne_of_gt below
    refine DT.nextI st raw hi2 fun h1 ho hT hz1 hk => ?_
    refine ⟨_, rfl, wpAny_letOwnedTupleGo_items (s := { s with heap := h1 }) ho fun h2 he sb => ?_⟩
    rw [g5] at hT he
    rw [g2] at hT
    have hT2 := (sb.2 s.heap.objs.size apart).trans hT
    have new : ObjOk X.prog X.w (upd H s.heap.objs.size (.tup [.ref q, v])) h2 s.heap.objs.size (.tup [.ref q, v]) :=
      ⟨by show 2 ≤ sizeLine; decide, [.ref q, en.val], .cons rfl (.cons g3 .nil), ⟨_, hT2, rfl, _, rfl⟩⟩
    have only : ∀ {b : Addr}, b ∉ [it] → b ≠ it := fun hb z => hb (List.mem_singleton.mpr z)
    have J := I.turnedNew (t' := s.toks) (ch := [it]) (fun b ob hb e => (sb.2 b (only hb)).trans (hk b ob (only hb) e)) hf (Nat.le_refl _) new
    refine ⟨.ref s.heap.objs.size, _, J, rfl, ⟨_, q, k, v, hkv, g4, rfl, I.hok.fresh (Nat.le_refl _), rfl⟩, ⟨_, _, he⟩, fun b hb => ?_⟩
    obtain rfl := List.mem_singleton.mp hb
    rw [upd_ne apart.symm]
    exact (hf b hb).1
  done := by
    intro X e1 e2 e3 hc i pins s σ H E I hf ⟨x, y, st⟩ ⟨hd, hi⟩
    subst e1 e2 e3
    obtain ⟨f0, f1, f2, f3, f4, f5⟩ := hf it (List.mem_singleton.mpr rfl)
    obtain ⟨ns, es2, ep2, raw, hdt, hz, ent⟩ := frz_dT I hd
    obtain ⟨rfl, rfl⟩ := same_dict hod hdt
    exact DT.endI (I.ok.hd hc) st raw (by omega) fun h1 eb => ⟨rfl, I.turned (t' := s.toks) (fun b ob hb e => eb b ob hb e) f0 f1 f3 f4 f5⟩
  self := by
    rintro A i s Q E ⟨x, y, e⟩ h
    exact PySem.W.kcp_self e h
end
def iItemsT (td : TE) : TI := fun σ H R => td σ H fun x H1 => ∃ d ob ks, x = .ref d ∧ H1 d = some (.frz ob (.dT ks)) ∧ R (IteT d ob ks) H1
theorem pi_itemsT {X : Cx} {e : Expr} {td : TE} {p1 p2 : Pos} {elts : List Expr} {kk : Nat} {tpos : Pos} (he : PE X e td) (hb : attributeBase e "items" X.env (eval e X.env) = eval e X.env := by rfl) (hl : (p1.endLine == p2.line) = true := by rfl) :
    PI X (.Tuple elts kk tpos) (.Call (.Attribute e "items" p1) [] [] p2) (iItemsT td) := by
  refine ⟨fun pins s σ H R I h => ?_⟩
  refine wpAny_Call_method (T := "dict") (id := "dict.items") hb rfl hl PySem.F.plainAttrs_dict PySem.F.slot_dict_items PySem.F.type_dict_items (thn (he.run pins s σ H _ I h) fun u s1 ⟨x, H1, I1, rx, d, ob, ks, ex, hd, q⟩ => ?_)
  subst ex
  obtain rfl : u = Value.ref d := rx
  obtain ⟨ns, es, ep, raw, hdt, hz, ent⟩ := frz_dT I1 hd
  obtain ⟨o2, g1, g2, g3⟩ := id raw
  refine ⟨raw.typeIs, ?_, ?_⟩
  · intro b e
    injection e with e
    subst e
    exact ⟨o2, g1, g2.2.1⟩
  have I2 : Inv X pins σ H1 { s1 with heap := s1.heap.push { cls := .type "dict_items", data := .fields #[.ref d] } } := I1.kept (t' := s1.toks) fun b o z => Heap.get?_push_of_some _ z
  have fin : wpAny (model X.prog X.w) X.A (pyIter (.ref s1.heap.objs.size)) (PIE X pins σ (.Tuple elts kk tpos) R) X.xe { s1 with heap := s1.heap.push { cls := .type "dict_items", data := .fields #[.ref d] } } :=
    DT.iterI (d := d) ⟨_, Heap.get?_push_size _ rfl, rfl, rfl⟩ (raw.push _) (pi_one (tk := s1.toks) I2 _ (turn_itemsT _ hdt hz) ⟨_, _, Heap.get?_push_size _ rfl⟩ q)
  show wpAny _ _ (callWith p2 (.builtin "dict.items") [.ref d] [] []) _ X.xe s1
  exact method_meetsIn PySem.F.slot_dict_items PySem.F.entry_dict_items rfl (PySem.evalArgs_none ⟨rfl, raw.typeIs, PySem.F.args_dict_items_1 _, _, DT.meetsItems (es := es) (ep := ep) ns, ⟨raw, fin⟩⟩)
theorem walk_itemsT {d : Addr} {ob : Obj} {ks : List (List L2.Key × V)} : Walk (IteT d ob ks) ks.length (fun G => G d = some (.frz ob (.dT ks)))
    (fun j G x G' => ∃ t r k u, ks[j]? = some (k, u) ∧ G r = some (.tup (k.map kV)) ∧ x = .ref t ∧ G t = none ∧ G' = upd G t (.tup [.ref r, u])) :=
  ⟨fun _ _ h q => ⟨q, h⟩, fun _ q => ⟨q, Nat.le_refl _⟩, fun _ _ _ _ _ _ y => y⟩
end Sg

set_option Elab.async false
set_option linter.all false
set_option maxRecDepth 100000
set_option maxHeartbeats 4000000
namespace Sg
open PySem PySem.Spec PyProof.Rows L2
/-! ## min(xs, default=z), xs a list of data that are alike -/
theorem vals_back : ∀ {ys : List V} {us : List Value}, Vals ys us → ∀ {i : Nat} {v : Value}, us[i]? = some v → ∃ y, ys[i]? = some y ∧ RelV y v
  | _, _, .nil, i, v, e => nomatch e
  | _, _, .cons r t, 0, v, e => by
    cases e
    exact ⟨_, rfl, r⟩
  | _, _, .cons r t, i + 1, v, e => vals_back t (i := i) (by simpa using e)
theorem reads_back {h : Heap} : ∀ {us : List Value} {ds : List PyData} {as : List Addr}, ReadsAll h us ds as → ∀ {i : Nat} {v : Value}, us[i]? = some v → ∃ d bs, ds[i]? = some d ∧ Reads h v d bs
  | _, _, _, .nil, i, v, e => nomatch e
  | _, _, _, .cons r t, 0, v, e => by
    cases e
    exact ⟨_, _, rfl, r⟩
  | _, _, _, .cons r t, i + 1, v, e => reads_back t (i := i) (by simpa using e)
theorem cr_minD {X : Cx} (hc : X.calm = true) {j : Nat} (hr : Room j X.A) : CallRK X (.builtin "min") ["default"] (fun vs zs H Q => ∃ (a : Addr) (ys : List V) (ds : List PyData) (z : V), vs = [.ref a] ∧ zs = [z] ∧ SqL X.K H a ys ∧ DpAll X.K H ys ds ∧
    PySem.W.AlikeAll ds ∧ PyData.depthAll ds ≤ 10 ∧ (ds = [] → Q z H) ∧ (∀ (i : Nat) (y : V) (e : PyData) (es : List PyData), ds = e :: es → ys[i]? = some y → ds[i]? = some (PySem.W.minD e es) → Q y H)) := by
  intro pins s σ H xs zs us ws Q I r rz h
  obtain ⟨a, ys, ds, z, rfl, rfl, hs, dp, al, dep, q1, q2⟩ := h
  obtain ⟨u, rfl, rfl⟩ := vals1 r
  obtain ⟨dv, rfl, rd0⟩ := vals1 rz
  obtain ⟨its, rv, hl, hzz⟩ := I.list hs
  obtain ⟨as, rd⟩ := Dp.readsAll I ds _ its dp rv
  have hu := hr.units
  refine PySem.W.min_list_default (I.ok.hd hc) hl.isList (by simpa using rd) al (by omega) (fun e h' tk hk => ?_) (fun e es i v h' tk bs ee hv hrd hk => ?_)
  · exact ⟨z, H, I.kept hk, rd0, q1 e⟩
  · have hv' : its[i]? = some v := by simpa using hv
    obtain ⟨y, hy, ry⟩ := vals_back rv hv'
    obtain ⟨d, bs2, hd, rd2⟩ := reads_back rd hv'
    obtain ⟨e1, _⟩ := reads_det (fun b o g _ => hk b o g) rd2 hrd
    rw [← e1] at hd
    exact ⟨y, H, I.kept hk, ry, q2 i y e es ee hy hd⟩
end Sg

set_option Elab.async false
set_option linter.all false
set_option maxRecDepth 100000
set_option maxHeartbeats 4000000
namespace Sg
open PySem PySem.Spec PyProof.Rows L2
/-! ## heaps -/
/-- all but p is as it was -/
def But (p : Addr) (H H' : Hp) : Prop := ∀ q o, q ≠ p → H q = some o → H' q = some o
theorem But.refl (p : Addr) (H : Hp) : But p H H := fun _ _ _ h => h
theorem But.trans {p : Addr} {H H1 H2 : Hp} (a : But p H H1) (b : But p H1 H2) : But p H H2 := fun q o n h => b q o n (a q o n h)
theorem But.of {p : Addr} {H H' : Hp} (a : Same H H') : But p H H' := fun q o _ h => a q o h
theorem But.upd {p : Addr} {H : Hp} {o : HO} : But p H (upd H p o) := fun q u n h => by rw [upd_ne n]; exact h
theorem same_new {H : Hp} {p : Addr} {o : HO} (h : H p = none) : Same H (upd H p o) := fun b x e => by
  rw [upd_ne (ne_of_none e h)]
  exact e
/-- what is new behind a But is new ahead -/
theorem But.free {p q : Addr} {H H' : Hp} {u : HO} (e : But p H H') (hp : H p = some u) (hp' : ∃ v, H' p = some v) (h : H' q = none) : H q = none := by
  by_cases n : q = p
  · subst n
    obtain ⟨v, hv⟩ := hp'
    rw [hv] at h
    exact nomatch h
  · rcases z : H q with _ | o
    · rfl
    · rw [e q o n z] at h
      exact nomatch h
theorem But.tup {K : PySem.W.Frag} {p : Addr} {H H' : Hp} {a : Addr} {xs ys : List V} (e : But p H H') (hp : H p = some (.lst ys)) (h : SqT K H a xs) : SqT K H' a xs := by
  rcases h with (h | ⟨o, h⟩) | h
  · exact .inl (.inl (e _ _ (ne_of h hp (fun z => nomatch z)) h))
  · exact .inl (.inr ⟨o, e _ _ (ne_of h hp (fun z => nomatch z)) h⟩)
  · exact .inr h
theorem Same.tup {K : PySem.W.Frag} {H H' : Hp} {a : Addr} {xs : List V} (e : Same H H') (h : SqT K H a xs) : SqT K H' a xs := by
  rcases h with (h | ⟨o, h⟩) | h
  · exact .inl (.inl (e _ _ h))
  · exact .inl (.inr ⟨o, e _ _ h⟩)
  · exact .inr h
/-- a pen at p -/
def PenAt (H : Hp) (p : Addr) : Prop := ∃ a b c : Int, H p = some (.lst [.int a, .int b, .int c]) ∧ 0 ≤ b ∧ b < 2147483648
theorem PenAt.same {H H' : Hp} {p : Addr} (h : PenAt H p) (e : Same H H') : PenAt H' p := by
  obtain ⟨a, b, c, h1, h2⟩ := h
  exact ⟨a, b, c, e _ _ h1, h2⟩
theorem PenAt.tup {K : PySem.W.Frag} {p : Addr} {H H' : Hp} {a : Addr} {xs : List V} (h : PenAt H p) (e : But p H H') (q : SqT K H a xs) : SqT K H' a xs := by
  obtain ⟨_, _, _, h1, _⟩ := h
  exact e.tup h1 q
theorem PenAt.free {p q : Addr} {H H' : Hp} (h : PenAt H p) (h' : PenAt H' p) (e : But p H H') (n : H' q = none) : H q = none := by
  obtain ⟨_, _, _, h1, _⟩ := h
  obtain ⟨_, _, _, h2, _⟩ := h'
  exact e.free h1 ⟨_, h2⟩ n
theorem atI0 {x : V} {r : List V} : atI (x :: r) 0 = some x := atI_nat (j := 0) rfl
theorem atI1 {x y : V} {r : List V} : atI (x :: y :: r) 1 = some y := atI_nat (j := 1) rfl
theorem atI2 {x y z : V} {r : List V} : atI (x :: y :: z :: r) 2 = some z := atI_nat (j := 2) rfl

def atD (ns : List Int) (t : Int) : Int := if 0 ≤ t ∧ t < ns.length then ns.getD t.toNat 0 else -1
end Sg

set_option Elab.async false
set_option linter.all false
set_option maxRecDepth 100000
set_option maxHeartbeats 4000000
namespace Sg
open PySem PySem.Spec PyProof.Rows L2
/-! ## the mathematics of bars -/
/-- a work, as its items -/
structure IsWork (ns : List Int) : Prop where
  pos : 1 ≤ ns.length
  most : ns.length ≤ 60
  items : ∀ x ∈ ns, -1 ≤ x ∧ x ≤ 9
  head : ∀ x, ns[0]? = some x → x ≠ -1
  last : ∀ x, ns[ns.length - 1]? = some x → x ≠ -1
/-- a piece of other, d ticks behind one of one, clashes with it -/
def clashB (one other : List Int) (d : Nat) : Bool := ((one.drop d).zip other).any fun p => p.1 == p.2 && p.1 != -1
def barsN (one other : List Int) : List Nat := (List.range' 1 (one.length - 1)).filter (clashB one other)
/-- as the law looks: tick by tick of the first piece -/
def lawHit (one other : List Int) (d : Nat) (i : Nat) : Bool := match one[i]? with
  | some x => decide (x > -1) && decide (atD other ((i : Int) - d) = x)
  | none => false
def lawCount (one other : List Int) (d : Nat) (n : Nat) : Nat := ((List.range n).filter (lawHit one other d)).length
theorem lawCount_zero {one other : List Int} {d : Nat} : lawCount one other d 0 = 0 := rfl
theorem lawCount_succ {one other : List Int} {d n : Nat} : lawCount one other d (n + 1) = lawCount one other d n + (if lawHit one other d n = true then 1 else 0) := by
  unfold lawCount
  rw [List.range_succ, List.filter_append, List.length_append]
  congr 1
  by_cases h : lawHit one other d n = true
  · rw [if_pos h, List.filter_cons_of_pos h]; rfl
  · rw [if_neg h, List.filter_cons_of_neg h]; rfl
theorem atD_in {ns : List Int} {j : Nat} {x : Int} (h : ns[j]? = some x) : atD ns (j : Int) = x := by
  have hl := (List.getElem?_eq_some_iff.mp h).1
  unfold atD
  rw [if_pos ⟨by omega, by omega⟩, Int.toNat_natCast, List.getD_eq_getElem?_getD, h]; rfl
theorem atD_cases (ns : List Int) (t : Int) : (∃ j : Nat, t = j ∧ ns[j]? = some (atD ns t)) ∨ atD ns t = -1 := by
  by_cases h : 0 ≤ t ∧ t < ns.length
  · obtain ⟨j, rfl⟩ : ∃ j : Nat, t = j := ⟨t.toNat, by omega⟩
    have hj : j < ns.length := by omega
    exact .inl ⟨j, rfl, by rw [atD_in (List.getElem?_eq_getElem hj), List.getElem?_eq_getElem hj]⟩
  · refine .inr ?_
    unfold atD
    rw [if_neg h]
theorem clashB_iff {one other : List Int} {d : Nat} : clashB one other d = true ↔ ∃ j x, one[d + j]? = some x ∧ other[j]? = some x ∧ x ≠ -1 := by
  unfold clashB
  rw [List.any_eq_true]
  constructor
  · rintro ⟨⟨x, y⟩, hm, h⟩
    obtain ⟨j, hj⟩ := List.mem_iff_getElem?.mp hm
    obtain ⟨h1, h2⟩ := List.getElem?_zip_eq_some.mp hj
    simp only [Bool.and_eq_true, beq_iff_eq, bne_iff_ne, ne_eq] at h
    rw [List.getElem?_drop] at h1
    exact ⟨j, x, h1, h.1 ▸ h2, h.2⟩
  · rintro ⟨j, x, h1, h2, h3⟩
    refine ⟨(x, x), List.mem_iff_getElem?.mpr ⟨j, List.getElem?_zip_eq_some.mpr ⟨by rw [List.getElem?_drop]; exact h1, h2⟩⟩, ?_⟩
    simp [h3]
theorem lawCount_iff {one other : List Int} {d : Nat} (hw : IsWork one) : decide (lawCount one other d one.length ≠ 0) = clashB one other d := by
  have key : lawCount one other d one.length ≠ 0 ↔ clashB one other d = true := by
    rw [clashB_iff]
    unfold lawCount
    rw [ne_eq, List.length_eq_zero_iff, List.filter_eq_nil_iff]
    constructor
    · intro h
      have h' : ∃ i ∈ List.range one.length, lawHit one other d i = true := by
        refine Classical.byContradiction fun z => h fun i hi hh => z ⟨i, hi, hh⟩
      obtain ⟨i, hi, hh⟩ := h'
      have hi' : i < one.length := List.mem_range.mp hi
      unfold lawHit at hh
      rw [List.getElem?_eq_getElem hi'] at hh
      simp only [Bool.and_eq_true, decide_eq_true_eq] at hh
      rcases atD_cases other ((i : Int) - d) with ⟨j, ej, hj⟩ | e
      · refine ⟨j, one[i], ?_, ?_, by omega⟩
        · rw [show d + j = i by omega]; exact List.getElem?_eq_getElem hi'
        · rw [hj, hh.2]
      · omega
    · rintro ⟨j, x, h1, h2, h3⟩ z
      have hl := (List.getElem?_eq_some_iff.mp h1).1
      refine z (d + j) (List.mem_range.mpr hl) ?_
      unfold lawHit
      rw [h1]
      have hm : x ∈ one := List.mem_of_getElem? h1
      have := (hw.items x hm).1
      simp only [Bool.and_eq_true, decide_eq_true_eq]
      refine ⟨by omega, ?_⟩
      rw [show (((d + j : Nat) : Int) - d) = (j : Int) by omega]
      exact atD_in h2
  by_cases h : clashB one other d = true
  · rw [h]; exact decide_eq_true (key.mpr h)
  · rw [Bool.eq_false_iff.mpr h]
    exact decide_eq_false fun z => h (key.mp z)
/-! ### lists step by step -/
theorem filter_range'_succ (f : Nat → Bool) (a n : Nat) : (List.range' a (n + 1)).filter f = (List.range' a n).filter f ++ (if f (a + n) = true then [a + n] else []) := by
  rw [List.range'_concat, List.filter_append, Nat.one_mul]
  congr 1
  by_cases h : f (a + n) = true
  · rw [if_pos h, List.filter_cons_of_pos h]; rfl
  · rw [if_neg h, List.filter_cons_of_neg h]; rfl
/-- the bars found below 1 + n -/
def barsTo (one other : List Int) (n : Nat) : List Nat := (List.range' 1 n).filter (clashB one other)
theorem barsTo_len (one other : List Int) (n : Nat) : (barsTo one other n).length ≤ n := by
  unfold barsTo
  refine Nat.le_trans (List.length_filter_le _ _) ?_
  rw [List.length_range']
  exact Nat.le_refl _
abbrev nV (l : List Nat) : List V := l.map fun d => V.int (d : Nat)
theorem barsTo_yes {one other : List Int} {n : Nat} (h : clashB one other (1 + n) = true) : nV (barsTo one other (n + 1)) = nV (barsTo one other n) ++ [.int ((1 : Int) + n)] := by
  unfold nV barsTo
  rw [filter_range'_succ, if_pos h, List.map_append]
  have e : (((1 + n : Nat) : Int)) = (1 : Int) + n := by omega
  simp only [List.map_cons, List.map_nil, e]
theorem barsTo_no {one other : List Int} {n : Nat} (h : clashB one other (1 + n) = false) : barsTo one other (n + 1) = barsTo one other n := by
  unfold barsTo
  rw [filter_range'_succ, if_neg (by rw [h]; exact Bool.false_ne_true), List.append_nil]
/-- the pairs of a zip, looked at in turn -/
def hitsTo (one other : List Int) (d n : Nat) : List Bool := (((one.drop d).zip other).take n).map fun p => p.1 == p.2 && p.1 != -1
theorem hits_any (one other : List Int) (d : Nat) : (hitsTo one other d (min (one.drop d).length other.length)).any id = clashB one other d := by
  unfold hitsTo clashB
  rw [List.take_of_length_le (by rw [List.length_zip]; exact Nat.le_refl _), List.any_map]
  rfl
theorem hits_succ {one other : List Int} {d n : Nat} {x y : Int} (h1 : (one.drop d)[n]? = some x) (h2 : other[n]? = some y) : hitsTo one other d (n + 1) = hitsTo one other d n ++ [x == y && x != -1] := by
  unfold hitsTo
  rw [List.take_add_one, List.getElem?_zip_eq_some (z := (x, y)) |>.mpr ⟨h1, h2⟩, List.map_append]
  rfl
theorem hits_len (one other : List Int) (d n : Nat) : (hitsTo one other d n).length ≤ n := by
  unfold hitsTo
  rw [List.length_map, List.length_take]
  exact Nat.min_le_left _ _
end Sg

set_option Elab.async false
set_option linter.all false
set_option maxRecDepth 100000
set_option maxHeartbeats 4000000
namespace Sg
open PySem PySem.Spec PyProof.Rows L2
theorem walk_zipT {K : PySem.W.Frag} {a b : Addr} {xs ys : List V} {n : Nat} (hn : n = min xs.length ys.length) :
    Walk (RZ.ItzT K a b) n (fun H => SqT K H a xs ∧ SqT K H b ys) (YPair (fun i => xs[i]?) (fun i => ys[i]?)) := by
  subst hn
  constructor
  · intro i H hi q
    have h1 : i < xs.length := by omega
    have h2 : i < ys.length := by omega
    exact ⟨xs, ys, xs[i], ys[i], q.1, q.2, List.getElem?_eq_getElem h1, List.getElem?_eq_getElem h2⟩
  · intro H q
    exact ⟨xs, ys, q.1, q.2, by omega⟩
  · rintro i H v H' hi q ⟨T, x, z, h1, h2, h3, h4, h5⟩
    exact ⟨T, x, z, h1, h2, h3, h4 xs q.1, h5 ys q.2⟩
theorem walk_enumT {K : PySem.W.Frag} {a : Addr} {xs : List V} :
    Walk (ItE K a) xs.length (fun H => SqT K H a xs) (YPair (fun i => some (.int (i : Nat))) (fun i => xs[i]?)) := by
  constructor
  · intro i H hi q
    exact ⟨xs, xs[i], q, List.getElem?_eq_getElem hi⟩
  · intro H q
    exact ⟨xs, q, Nat.le_refl _⟩
  · rintro i H v H' hi q ⟨T, x, h1, h2, h3, h4⟩
    exact ⟨T, .int (i : Nat), x, h1, h2, h3, rfl, h4 xs q⟩
theorem cut_from (xs : List V) (d : Nat) : cutV xs (some (d : Int)) none = xs.drop d := by
  unfold cutV
  rw [HT.sIx_nat, HT.sIx_none]
  rcases Nat.le_total d xs.length with h | h
  · rw [Nat.min_eq_left h]
    exact List.take_of_length_le (by rw [List.length_drop]; exact Nat.le_refl _)
  · rw [Nat.min_eq_right h, List.drop_of_length_le (Nat.le_refl _), List.drop_of_length_le h]
    exact List.take_nil
section
variable {P : Program} {w : World} {K : PySem.W.Frag} {mg : Str → Option Value} {base : Heap}
theorem tyT {H : Hp} {a : Addr} {xs : List V} (h : SqT K H a xs) : TyX K H (.ref a) (.type "tuple") := by
  rcases h with (h | ⟨o, h⟩) | ⟨o, _, _, h, hc, _⟩
  · exact .base (.tup h)
  · exact .fTuple h
  · exact .kTuple h hc
/-- the module's numbers -/
structure Nums (mg : Str → Option Value) : Prop where
  nowhere : ∃ t, mg "NOWHERE" = some (.int (-1) t)
  stations : ∃ t, mg "STATIONS" = some (.int 10 t)
  most : ∃ t, mg "MOST_ITEMS" = some (.int 60 t)
def inR (x : Int) : Bool := decide (-1 ≤ x) && decide (x ≤ 9)
end
end Sg

set_option Elab.async false
set_option linter.all false
set_option maxRecDepth 100000
set_option maxHeartbeats 4000000
namespace Sg
open PySem PySem.Spec PyProof.Rows L2
/-! ## data that is shown -/
/-- data made of small ints, in lists and tuples, no deeper than n, of bulk b at most -/
structure Small (d : PyData) (n b : Nat) : Prop where
  sh : d.showable = true
  nd : d.hasDict = false
  dp : d.depth ≤ n
  lv : d.leavesShort 15 = true
  bk : d.bulk ≤ b
  ly : d.canLay0 = true
structure SmallAll (ds : List PyData) (n b : Nat) : Prop where
  sh : PyData.showableAll ds = true
  nd : PyData.hasDictAll ds = false
  dp : PyData.depthAll ds ≤ n
  lv : PyData.leavesShortAll 15 ds = true
  bk : PyData.bulkAll ds ≤ b
  ly : PyData.canLayAll0 ds = true
theorem Small.shows {d : PyData} {n b : Nat} (h : Small d n b) (hn : n ≤ 40) (hb : b ≤ 900000) : Shows d := by
  refine ⟨h.sh, h.nd, Nat.le_trans h.dp hn, ?_⟩
  have h1 := PyData.shown_le_bulk 15 (by decide) d h.lv
  have h2 := h.bk
  have h3 : (15 + 2) * d.bulk ≤ (15 + 2) * 900000 := Nat.mul_le_mul_left _ (Nat.le_trans h2 hb)
  have h4 : sizeLine = 16777216 := sizeLine_eq
  omega
theorem Small.shaped {d : PyData} {n b : Nat} (h : Small d n b) (hn : n ≤ 64) : SeqAt.shaped d = true := by
  unfold SeqAt.shaped
  rw [h.ly, decide_eq_true (Nat.le_trans h.dp hn)]
  rfl
theorem Small.list {ds : List PyData} {n b : Nat} (h : SmallAll ds n b) : Small (.list ds) (n + 1) b :=
  ⟨by simpa only [PyData.showable] using h.sh, by simpa only [PyData.hasDict] using h.nd, by simpa only [PyData.depth] using Nat.succ_le_succ h.dp,
    by simpa only [PyData.leavesShort] using h.lv, by simpa only [PyData.bulk] using h.bk, by simpa only [PyData.canLay0] using h.ly⟩
theorem Small.tuple {ds : List PyData} {n b : Nat} (h : SmallAll ds n b) : Small (.tuple ds) (n + 1) b :=
  ⟨by simpa only [PyData.showable] using h.sh, by simpa only [PyData.hasDict] using h.nd, by simpa only [PyData.depth] using Nat.succ_le_succ h.dp,
    by simpa only [PyData.leavesShort] using h.lv, by simpa only [PyData.bulk] using h.bk, by simpa only [PyData.canLay0] using h.ly⟩
theorem SmallAll.nil {n b : Nat} : SmallAll [] n b := ⟨by simp only [PyData.showableAll], by simp only [PyData.hasDictAll], by simp only [PyData.depthAll]; exact Nat.zero_le _,
  by simp only [PyData.leavesShortAll], by simp only [PyData.bulkAll]; exact Nat.zero_le _, by simp only [PyData.canLayAll0]⟩
theorem SmallAll.cons {d : PyData} {ds : List PyData} {n b c : Nat} (h : Small d n b) (r : SmallAll ds n c) : SmallAll (d :: ds) n (b + 1 + c) :=
  ⟨by simp only [PyData.showableAll, h.sh, r.sh, Bool.and_self], by simp only [PyData.hasDictAll, h.nd, r.nd, Bool.or_self], by simp only [PyData.depthAll]; exact Nat.max_le.mpr ⟨h.dp, r.dp⟩,
    by simp only [PyData.leavesShortAll, h.lv, r.lv, Bool.and_self], by simp only [PyData.bulkAll]; have h1 := h.bk; have h2 := r.bk; omega, by simp only [PyData.canLayAll0, h.ly, r.ly, Bool.and_self]⟩
theorem Small.int {i : Int} {n b : Nat} (h1 : -99999999999999 ≤ i) (h2 : i ≤ 99999999999999) : Small (.int i) n b := by
  refine ⟨?_, by simp only [PyData.hasDict], by simp only [PyData.depth]; exact Nat.zero_le _, ?_, by simp only [PyData.bulk]; exact Nat.zero_le _, by simp only [PyData.canLay0]⟩
  · simp only [PyData.showable, decide_eq_true_eq]
    have h3 : i.natAbs < 2 ^ 47 := by omega
    have h4 := PySem.Flt.log2_lt_of (show 0 < 47 by decide) h3
    omega
  · simp only [PyData.leavesShort, decide_eq_true_eq]
    have h6 : i.natAbs < 10 ^ 14 := by
      have e : (10 : Nat) ^ 14 = 100000000000000 := by decide
      rw [e]
      omega
    have h5 := int_text_length_le10 (k := 14) (by decide) h6
    show (Str.ofString (toString i)).length ≤ 15
    rw [PySem.ofString_length]
    exact h5
theorem Small.mono {d : PyData} {n m b c : Nat} (h : Small d n b) (hn : n ≤ m) (hb : b ≤ c) : Small d m c := ⟨h.sh, h.nd, Nat.le_trans h.dp hn, h.lv, Nat.le_trans h.bk hb, h.ly⟩
theorem SmallAll.mono {d : List PyData} {n m b c : Nat} (h : SmallAll d n b) (hn : n ≤ m) (hb : b ≤ c) : SmallAll d m c := ⟨h.sh, h.nd, Nat.le_trans h.dp hn, h.lv, Nat.le_trans h.bk hb, h.ly⟩
abbrev iD (ns : List Int) : List PyData := ns.map PyData.int
theorem SmallAll.ints {n : Nat} : ∀ (ns : List Int), (∀ x ∈ ns, -99999999999999 ≤ x ∧ x ≤ 99999999999999) → SmallAll (iD ns) n ns.length
  | [], _ => .nil
  | x :: r, h => by
    have h1 := h x List.mem_cons_self
    have h2 := SmallAll.cons (Small.int (n := n) (b := 0) h1.1 h1.2) (SmallAll.ints r fun y hy => h y (List.mem_cons_of_mem _ hy))
    exact h2.mono (Nat.le_refl _) (by show 0 + 1 + r.length ≤ r.length + 1; omega)
theorem dpInts {K : PySem.W.Frag} {H : Hp} : ∀ (ns : List Int), DpAll K H (ns.map V.int) (iD ns)
  | [] => .nil
  | x :: r => .cons (.int x) (dpInts r)
abbrev nI (l : List Nat) : List Int := l.map fun d => ((d : Nat) : Int)
theorem nV_eq (l : List Nat) : nV l = (nI l).map V.int := by rw [List.map_map]; rfl
theorem IsWork.small {ns : List Int} (h : IsWork ns) {n : Nat} : SmallAll (iD ns) n 60 :=
  (SmallAll.ints ns fun x hx => by have := h.items x hx; omega).mono (Nat.le_refl _) h.most
theorem bars_small {one other : List Int} (h : IsWork one) {n : Nat} : SmallAll (iD (nI (barsN one other))) n 60 := by
  refine (SmallAll.ints _ fun x hx => ?_).mono (Nat.le_refl _) ?_
  · obtain ⟨d, hd, rfl⟩ := List.mem_map.mp hx
    have h1 := (List.mem_filter.mp hd).1
    have h2 := List.mem_range'_1.mp h1
    have := h.most
    omega
  · rw [List.length_map]
    have := barsTo_len one other (one.length - 1)
    have := h.most
    exact Nat.le_trans (barsTo_len one other (one.length - 1)) (by omega)
section
variable {P : Program} {w : World} {K : PySem.W.Frag} {mg : Str → Option Value} {base : Heap}
/-! ### _law_same -/
def spSame (K : PySem.W.Frag) : Sp := fun vs H Q _ => ∃ (a b : Addr) (d : PyData), vs = [.ref a, .ref b] ∧ Dp K H (.ref a) d ∧ Dp K H (.ref b) d ∧ Shows d ∧ Q (.bl true) H
theorem PenAt.upd {H : Hp} {p q : Addr} {o : HO} (h : PenAt H p) (n : p ≠ q) : PenAt (upd H q o) p := by
  obtain ⟨a, b, c, h1, h2⟩ := h
  exact ⟨a, b, c, by rw [upd_ne n]; exact h1, h2⟩
theorem PenAt.ne {H : Hp} {p q : Addr} (h : PenAt H p) (n : H q = none) : p ≠ q := by
  obtain ⟨a, b, c, h1, _⟩ := h
  exact ne_of_none h1 n
end
end Sg

set_option Elab.async false
set_option linter.all false
set_option maxRecDepth 100000
set_option maxHeartbeats 4000000
namespace Sg
open PySem PySem.Spec PyProof.Rows L2
/-! ## data of ints and tuples alone -/
section
variable {K : PySem.W.Frag} {H H' : Hp}
mutual
inductive Tp (K : PySem.W.Frag) (H : Hp) : V → PyData → Prop
  | int (i : Int) : Tp K H (.int i) (.int i)
  | tu {a : Addr} {xs : List V} {ds : List PyData} : SqT K H a xs → TpAll K H xs ds → Tp K H (.ref a) (.tuple ds)
inductive TpAll (K : PySem.W.Frag) (H : Hp) : List V → List PyData → Prop
  | no : TpAll K H [] []
  | on {v : V} {vs : List V} {d : PyData} {ds : List PyData} : Tp K H v d → TpAll K H vs ds → TpAll K H (v :: vs) (d :: ds)
end
mutual
theorem Tp.dp : ∀ {v : V} {d : PyData}, Tp K H v d → Dp K H v d
  | _, _, .int i => .int i
  | _, _, .tu h r => .tup h (TpAll.dp r)
theorem TpAll.dp : ∀ {v : List V} {d : List PyData}, TpAll K H v d → DpAll K H v d
  | _, _, .no => .nil
  | _, _, .on a r => .cons (Tp.dp a) (TpAll.dp r)
end
/-- all tuples and all instances are as they were -/
structure St (K : PySem.W.Frag) (H H' : Hp) : Prop where
  tu : ∀ a xs, SqT K H a xs → SqT K H' a xs
  ob : ∀ a C dx fs, H a = some (.ins C dx fs) → H' a = some (.ins C dx fs)
theorem St.refl : St K H H := ⟨fun _ _ h => h, fun _ _ _ _ h => h⟩
theorem St.trans {H2 : Hp} (a : St K H H') (b : St K H' H2) : St K H H2 := ⟨fun _ _ h => b.tu _ _ (a.tu _ _ h), fun _ _ _ _ h => b.ob _ _ _ _ (a.ob _ _ _ _ h)⟩
theorem St.of (e : Same H H') : St K H H' := ⟨fun _ _ h => Same.tup e h, fun _ _ _ _ h => e _ _ h⟩
theorem St.but {p : Addr} {ys : List V} (e : But p H H') (hp : H p = some (.lst ys)) : St K H H' :=
  ⟨fun _ _ h => But.tup e hp h, fun a C dx fs h => e _ _ (fun z => by rw [z, hp] at h; exact nomatch h) h⟩
theorem St.pen {p : Addr} (e : But p H H') (hp : PenAt H p) : St K H H' := by
  obtain ⟨a, b, c, h, _⟩ := hp
  exact .but e h
mutual
theorem Tp.stayT (e : ∀ a xs, SqT K H a xs → SqT K H' a xs) : ∀ {v : V} {d : PyData}, Tp K H v d → Tp K H' v d
  | _, _, .int i => .int i
  | _, _, .tu h r => .tu (e _ _ h) (TpAll.stayT e r)
theorem TpAll.stayT (e : ∀ a xs, SqT K H a xs → SqT K H' a xs) : ∀ {v : List V} {d : List PyData}, TpAll K H v d → TpAll K H' v d
  | _, _, .no => .no
  | _, _, .on a r => .on (Tp.stayT e a) (TpAll.stayT e r)
end
theorem tu_ins {p C dx : Addr} {fs : List (Str × V)} {o : HO} (hp : H p = some (.ins C dx fs)) : ∀ a xs, SqT K H a xs → SqT K (upd H p o) a xs := by
  intro a xs h
  have ne : ∀ u, H a = some u → (∀ C dx fs, u ≠ .ins C dx fs) → a ≠ p := fun u hu n z => by
    rw [z, hp] at hu
    exact n _ _ _ (Option.some.inj hu).symm
  exact h.imp (fun z => z.imp (fun z => by rw [upd_ne (ne _ z (fun _ _ _ q => nomatch q))]; exact z) fun ⟨u, z⟩ => ⟨u, by rw [upd_ne (ne _ z (fun _ _ _ q => nomatch q))]; exact z⟩) id
mutual
theorem Tp.stay (e : St K H H') : ∀ {v : V} {d : PyData}, Tp K H v d → Tp K H' v d
  | _, _, .int i => .int i
  | _, _, .tu h r => .tu (e.tu _ _ h) (TpAll.stay e r)
theorem TpAll.stay (e : St K H H') : ∀ {v : List V} {d : List PyData}, TpAll K H v d → TpAll K H' v d
  | _, _, .no => .no
  | _, _, .on a r => .on (Tp.stay e a) (TpAll.stay e r)
end
theorem TpAll.len : ∀ {vs : List V} {ds : List PyData}, TpAll K H vs ds → vs.length = ds.length
  | _, _, .no => rfl
  | _, _, .on _ r => congrArg (· + 1) (TpAll.len r)
theorem TpAll.at : ∀ {vs : List V} {ds : List PyData} {i : Nat} {v : V}, TpAll K H vs ds → vs[i]? = some v → ∃ d, ds[i]? = some d ∧ Tp K H v d
  | _, _, 0, _, .on a _, e => by cases e; exact ⟨_, rfl, a⟩
  | _, _, i + 1, _, .on _ r, e => TpAll.at (i := i) r e
theorem TpAll.add : ∀ {vs us : List V} {ds es : List PyData}, TpAll K H vs ds → TpAll K H us es → TpAll K H (vs ++ us) (ds ++ es)
  | _, _, _, _, .no, b => b
  | _, _, _, _, .on a r, b => .on a (TpAll.add r b)
theorem TpAll.cut : ∀ {vs : List V} {ds : List PyData} (n : Nat), TpAll K H vs ds → TpAll K H (vs.take n) (ds.take n)
  | _, _, 0, _ => .no
  | _, _, _ + 1, .no => .no
  | _, _, n + 1, .on a r => .on a (TpAll.cut n r)
theorem TpAll.off : ∀ {vs : List V} {ds : List PyData} (n : Nat), TpAll K H vs ds → TpAll K H (vs.drop n) (ds.drop n)
  | _, _, 0, r => r
  | _, _, _ + 1, .no => .no
  | _, _, n + 1, .on _ r => TpAll.off n r
theorem TpAll.ints : ∀ (ns : List Int), TpAll K H (ns.map V.int) (iD ns)
  | [] => .no
  | x :: r => .on (.int x) (TpAll.ints r)
theorem TpAll.isInts : ∀ {vs : List V} {ns : List Int}, TpAll K H vs (iD ns) → vs = ns.map V.int
  | _, [], .no => rfl
  | _, _ :: _, .on (.int _) r => by rw [TpAll.isInts r]; rfl
theorem Tp.ofInts {a : Addr} {ns : List Int} (h : SqT K H a (ns.map V.int)) : Tp K H (.ref a) (.tuple (iD ns)) := .tu h (TpAll.ints ns)
theorem Tp.toInts {v : V} {ns : List Int} (h : Tp K H v (.tuple (iD ns))) : ∃ a, v = .ref a ∧ SqT K H a (ns.map V.int) := by
  cases h with
  | tu h r => exact ⟨_, rfl, by rw [← TpAll.isInts r]; exact h⟩
theorem Tp.toTup {v : V} {ds : List PyData} (h : Tp K H v (.tuple ds)) : ∃ a xs, v = .ref a ∧ SqT K H a xs ∧ TpAll K H xs ds := by
  cases h with
  | tu h r => exact ⟨_, _, rfl, h, r⟩
end
/-! ## lines -/
/-- one to three works -/
structure GoodL (ws : List (List Int)) : Prop where
  least : 1 ≤ ws.length
  few : ws.length ≤ 3
  work : ∀ w ∈ ws, IsWork w
abbrev tD (ns : List Int) : PyData := .tuple (iD ns)
abbrev tDs (ws : List (List Int)) : List PyData := ws.map tD
abbrev cellD (a b : List Int) : PyData := tD (nI (barsN a b))
abbrev rowD (a : List Int) (ws : List (List Int)) : PyData := .tuple (ws.map (cellD a))
abbrev barD (ws : List (List Int)) : List PyData := ws.map fun a => rowD a ws
/-- the bars of all, row by row -/
def rowB (a : List Int) (ws : List (List Int)) : List Int := ws.flatMap fun b => nI (barsN a b)
def allB (ws vs : List (List Int)) : List Int := ws.flatMap fun a => rowB a vs
/-- the greatest, or 0 -/
structure Top (l : List Int) (m : Int) : Prop where
  pos : 0 ≤ m
  le : ∀ x ∈ l, x ≤ m
  eq : m = 0 ∨ m ∈ l
theorem Top.uniq {l k : List Int} {m n : Int} (h : Top l m) (g : Top k n) (e : ∀ x, x ∈ l ↔ x ∈ k) : m = n := by
  have a : m ≤ n := by
    rcases h.eq with z | z
    · rw [z]; exact g.pos
    · exact g.le _ ((e _).mp z)
  have b : n ≤ m := by
    rcases g.eq with z | z
    · rw [z]; exact h.pos
    · exact h.le _ ((e _).mpr z)
  omega
/-! ### the object -/
def lf (t b : Addr) (r : Int) : List (Str × V) := putF "_reach" (.int r) (putF "_bars" (.ref b) (putF "_works" (.ref t) []))
theorem k1 : ¬ (("_works" : Str) = "_bars") := by decide +kernel
theorem k2 : ¬ (("_works" : Str) = "_reach") := by decide +kernel
theorem k3 : ¬ (("_bars" : Str) = "_reach") := by decide +kernel
theorem lf_works (t b : Addr) (r : Int) : (lf t b r).lookup ("_works" : Str) = some (.ref t) := by
  unfold lf
  rw [lookup_putF, if_neg k2, lookup_putF, if_neg k1, lookup_putF, if_pos rfl]
theorem lf_bars (t b : Addr) (r : Int) : (lf t b r).lookup ("_bars" : Str) = some (.ref b) := by
  unfold lf
  rw [lookup_putF, if_neg k3, lookup_putF, if_pos rfl]
theorem lf_reach (t b : Addr) (r : Int) : (lf t b r).lookup ("_reach" : Str) = some (.int r) := by
  unfold lf
  rw [lookup_putF, if_pos rfl]
/-- a Line of these works stands at a -/
def LineAt (K : PySem.W.Frag) (C : Addr) (H : Hp) (a : Addr) (ws : List (List Int)) : Prop :=
  ∃ (dx t b : Addr) (r : Int), H a = some (.ins C dx (lf t b r)) ∧ Tp K H (.ref t) (.tuple (tDs ws)) ∧ Tp K H (.ref b) (.tuple (barD ws)) ∧ Top (allB ws ws) r ∧ GoodL ws
theorem LineAt.ins {K : PySem.W.Frag} {C a : Addr} {H : Hp} {ws : List (List Int)} (h : LineAt K C H a ws) : InsAt H C a := by
  obtain ⟨dx, t, b, r, h1, _⟩ := h
  exact ⟨_, _, h1⟩
theorem LineAt.good {K : PySem.W.Frag} {C a : Addr} {H : Hp} {ws : List (List Int)} (h : LineAt K C H a ws) : GoodL ws := by
  obtain ⟨dx, t, b, r, _, _, _, _, g⟩ := h
  exact g
theorem LineAt.stay {K : PySem.W.Frag} {C a : Addr} {H H' : Hp} {ws : List (List Int)} (e : St K H H') (h : LineAt K C H a ws) : LineAt K C H' a ws := by
  obtain ⟨dx, t, b, r, h1, h2, h3, h4, h5⟩ := h
  exact ⟨dx, t, b, r, e.ob _ _ _ _ h1, h2.stay e, h3.stay e, h4, h5⟩
theorem TpAll.works {K : PySem.W.Frag} {H : Hp} {vs : List V} {ws : List (List Int)} {i : Nat} {v : V} (h : TpAll K H vs (tDs ws)) (e : vs[i]? = some v) : ∃ w a, ws[i]? = some w ∧ v = .ref a ∧ SqT K H a (w.map V.int) := by
  obtain ⟨d, hd, t⟩ := h.at e
  rw [List.getElem?_map] at hd
  obtain ⟨w, hw, rfl⟩ := Option.map_eq_some_iff.mp hd
  obtain ⟨a, rfl, hs⟩ := t.toInts
  exact ⟨w, a, hw, rfl, hs⟩
end Sg

set_option Elab.async false
set_option linter.all false
set_option maxRecDepth 100000
set_option maxHeartbeats 4000000
namespace Sg
open PySem PySem.Spec PyProof.Rows L2
theorem call_tuple_ofK {X : Cx} {K : PySem.W.Frag} (hK : X.K = K) : CallR X (.type "tuple") (fun xs H Q => ∃ p ys, xs = [.ref p] ∧ ((SqL K H p ys ∧ ∀ l, H l = none → Q (.ref l) (upd H l (.tup ys))) ∨ (SqT K H p ys ∧ Q (.ref p) H))) := by
  subst hK; exact call_tuple_of
theorem pi_tupK {X : Cx} {K : PySem.W.Frag} {tg l : Expr} {tl : TE} (hK : X.K = K) (hl : PE X l tl) : PI X tg l (iTup K tl) := by
  subst hK; exact pi_tup hl
/-! ## a list of tuple data that grows -/
def Grow (K : PySem.W.Frag) (H1 : Hp) (D : Addr) (ds : List PyData) (i : Nat) (H' : Hp) : Prop := Same H1 H' ∧ ∃ acc, H' D = some (.lst acc) ∧ TpAll K H' acc (ds.take i)
theorem Grow.zero {K : PySem.W.Frag} {H1 : Hp} {D : Addr} {ds : List PyData} (hD : H1 D = none) : Grow K H1 D ds 0 (upd H1 D (.lst [])) :=
  ⟨same_new hD, [], upd_same, .no⟩
theorem Grow.next {K : PySem.W.Frag} {H1 H' H'' : Hp} {D : Addr} {ds : List PyData} {i : Nat} {d : PyData} {v : V} (hD : H1 D = none) (hz : ds.length ≤ 1000) (h : Grow K H1 D ds i H') (e : Same H' H'') (hd : ds[i]? = some d) (t : Tp K H'' v d) :
    ∃ acc, H'' D = some (.lst acc) ∧ acc.length < sizeLine ∧ Grow K H1 D ds (i + 1) (upd H'' D (.lst (acc ++ [v]))) := by
  obtain ⟨s1, acc, h1, h2⟩ := h
  have hD2 := e _ _ h1
  have st : St K H'' (upd H'' D (.lst (acc ++ [v]))) := .but (.upd) hD2
  refine ⟨acc, hD2, ?_, fun b o q => ?_, _, upd_same, ?_⟩
  · have z := h2.len
    have z2 : i < ds.length := (List.getElem?_eq_some_iff.mp hd).1
    rw [List.length_take] at z
    exact small1000 (by omega)
  · rw [upd_ne (ne_of_none q hD)]
    exact e _ _ (s1 _ _ q)
  · rw [List.take_add_one, hd]
    exact ((h2.stay (.of e)).stay st).add (.on (t.stay st) .no)
theorem Grow.done {K : PySem.W.Frag} {H1 H' : Hp} {D : Addr} {ds : List PyData} {n : Nat} (h : Grow K H1 D ds n H') (hn : n = ds.length) : Same H1 H' ∧ ∃ acc, H' D = some (.lst acc) ∧ TpAll K H' acc ds := by
  obtain ⟨s1, acc, h1, h2⟩ := h
  rw [hn, List.take_length] at h2
  exact ⟨s1, acc, h1, h2⟩
theorem Tp.new {K : PySem.W.Frag} {H : Hp} {l : Addr} {acc : List V} {ds : List PyData} (nl : H l = none) (t : TpAll K H acc ds) : Tp K (upd H l (.tup acc)) (.ref l) (.tuple ds) :=
  .tu (.of upd_same) (t.stay (.of (same_new nl)))
theorem GoodL.mem {ws : List (List Int)} (h : GoodL ws) {i : Nat} {w : List Int} (e : ws[i]? = Option.some w) : IsWork w := h.work w (List.mem_of_getElem? e)
theorem GoodL.lt {ws : List (List Int)} (h : GoodL ws) : (barD ws).length ≤ 1000 := by
  have := h.few
  rw [List.length_map]
  omega
/-- what the class has -/
structure LC (K : PySem.W.Frag) (mg : Str → Option Value) (C : Addr) : Prop where
  cl : Cls K C
  nW : NoAttr K C "_works"
  nB : NoAttr K C "_bars"
  nR : NoAttr K C "_reach"
  mgC : mg "Line" = some (.ref C)
end Sg

set_option Elab.async false
set_option linter.all false
set_option maxRecDepth 100000
set_option maxHeartbeats 4000000
namespace Sg
open PySem PySem.Spec PyProof.Rows L2
/-! ## a tuple times 0, 1 or more -/
theorem tuple_mulOne (l : Addr) (items : Array Value) (n : Nat) (dd : Option Addr) (sl : Array (Option Value)) (u : Tok) :
    Meets (Builtin.«tuple.__mul__» ⟨[.ref l, .int 1 u], []⟩) (fun _ R s => s.heap.get? l = some { cls := .type "tuple", dict := dd, data := .seq items n, slots := sl } ∧ R (.ok (.ret (Value.ref l))) s) :=
  .of_wp fun prog w A R s h => by
    obtain ⟨hp, g, d, tk, os⟩ := s
    obtain ⟨hl, h⟩ := h
    have f1 := AutoSeq1.idx_int
    have ht : Shared.TypeIs ⟨hp, g, d, tk, os⟩ (.ref l) "tuple" := ⟨_, hl, rfl⟩
    wp_walk using wpAny_loadPart' hl, wpAny_typeOf ht
    repeat (first
      | (refine wpAny_ite_true (by rw [Bool.or_eq_true]; exact .inr rfl) ?_; wp_walk using wpAny_loadPart' hl, wpAny_typeOf ht)
      | (refine wpAny_ite_true rfl ?_; wp_walk using wpAny_loadPart' hl, wpAny_typeOf ht)
      | (refine wpAny_ite_false (by decide) ?_; wp_walk using wpAny_loadPart' hl, wpAny_typeOf ht))
    exact ⟨_, rfl, h⟩
theorem tuple_mulNone (l : Addr) (items : Array Value) (n : Nat) (dd : Option Addr) (sl : Array (Option Value)) (u : Tok) (c1 : items.isEmpty = false) :
    Meets (Builtin.«tuple.__mul__» ⟨[.ref l, .int 0 u], []⟩) (fun _ R s => s.heap.get? l = some { cls := .type "tuple", dict := dd, data := .seq items n, slots := sl } ∧
      R (.ok (.ret (Value.ref s.heap.objs.size))) { s with heap := s.heap.push { cls := Value.type "tuple", data := Data.seq #[] }, toks := s.toks }) :=
  .of_wp fun prog w A R s h => by
    obtain ⟨hp, g, d, tk, os⟩ := s
    obtain ⟨hl, h⟩ := h
    have f1 := AutoSeq1.idx_int
    have c2 : (items.isEmpty || (0 : Int) == 1) = false := by rw [c1]; rfl
    wp_walk using wpAny_loadPart' hl
    repeat (first
      | (refine wpAny_ite_false (by rw [c2]; exact Bool.false_ne_true) ?_; wp_walk using wpAny_loadPart' hl)
      | (refine wpAny_ite_true rfl ?_; wp_walk using wpAny_loadPart' hl)
      | (refine wpAny_ite_false (by decide) ?_; wp_walk using wpAny_loadPart' hl))
    exact ⟨_, rfl, h⟩
def rRepN (K : PySem.W.Frag) : R2 := fun x y H Q => ∃ (l : Addr) (k : Nat) (xs : List V), x = .ref l ∧ y = .int k ∧ SqT K H l xs ∧ xs ≠ [] ∧ k ≤ 1000 ∧ xs.length ≤ 1000 ∧
  (k = 1 → Q (.ref l) H) ∧ (k ≠ 1 → ∀ p, H p = none → Q (.ref p) (upd H p (.tup (List.replicate k xs).flatten)))
theorem op_repN {X : Cx} : OpR X (binaryOp .Mult) (rRepN X.K) := by
  intro pins s σ H x y v u Q I rx ry h
  obtain ⟨l, k, xs, rfl, rfl, hT, hne, h2, hz, q1, q2⟩ := h
  by_cases h1 : 2 ≤ k
  · refine op_repT pins s σ H _ _ v u Q I rx ry ⟨l, k, xs, rfl, rfl, hT, hne, by omega, by omega, hz, fun p np => ?_⟩
    rw [Int.toNat_natCast]
    exact q2 (by omega) p np
  cases rx
  obtain ⟨t, rfl⟩ := ry
  obtain ⟨its, r, ⟨⟨cls, dd, data, sl⟩, ho, hc, n, hd⟩, hs⟩ := I.tuple hT
  simp only at hc hd
  subst hc hd
  have hle : its.length = xs.length := r.length.symm
  have hn : its ≠ [] := fun e => hne (by
    rw [e] at hle
    exact List.eq_nil_of_length_eq_zero hle.symm)
  have hi : its.toArray.isEmpty = false := by
    cases its with
    | nil => exact absurd rfl hn
    | cons a b => rfl
  rcases (show k = 0 ∨ k = 1 by omega) with rfl | rfl
  · refine wpAny_binaryOp_repeat_ref (T := "tuple") (U := "int") (by decide) ⟨_, ho, rfl⟩ (fun s' => typeIs_int s' _ t) noFill_tuple_mul F.fills_int_mul F.slot_int_rmul repeat_tuple PySem.F.slot_int_index.lookup
      (call_meets F.slot_int_rmul (typeIs_int s _ t) F.entry_int_rmul (F.args_int_rmul_2 _ _) (int_rmul_tuple _ t l its.toArray n dd sl)
        ⟨ho, rfl, ⟨_, ho, rfl⟩, call_meets F.slot_tuple_mul ⟨_, ho, rfl⟩ F.entry_tuple_mul (F.args_tuple_mul_2 _ _) (tuple_mulNone l its.toArray n dd sl t hi) ⟨ho, ?_⟩⟩)
    refine ⟨.ref s.heap.objs.size, _, I.laid (t' := s.toks) (o := .tup (List.replicate 0 xs).flatten) (fun b ob q => Heap.get?_push_of_some _ q) (Nat.le_refl _) ?_, rfl, q2 (by decide) _ (I.hok.fresh (Nat.le_refl _))⟩
    exact ⟨Nat.zero_le _, [], .nil, IsTup.new _ _⟩
  · refine wpAny_binaryOp_repeat_ref (T := "tuple") (U := "int") (by decide) ⟨_, ho, rfl⟩ (fun s' => typeIs_int s' _ t) noFill_tuple_mul F.fills_int_mul F.slot_int_rmul repeat_tuple PySem.F.slot_int_index.lookup
      (call_meets F.slot_int_rmul (typeIs_int s _ t) F.entry_int_rmul (F.args_int_rmul_2 _ _) (int_rmul_tuple _ t l its.toArray n dd sl)
        ⟨ho, rfl, ⟨_, ho, rfl⟩, call_meets F.slot_tuple_mul ⟨_, ho, rfl⟩ F.entry_tuple_mul (F.args_tuple_mul_2 _ _) (tuple_mulOne l its.toArray n dd sl t) ⟨ho, ?_⟩⟩)
    exact ⟨.ref l, H, I, rfl, q1 rfl⟩
/-- .. asked once for all -/
def rRepS (K : PySem.W.Frag) : R2 := fun x y H Q => ∃ (l : Addr) (k : Nat) (xs : List V), x = .ref l ∧ y = .int k ∧ SqT K H l xs ∧ xs ≠ [] ∧ k ≤ 1000 ∧ xs.length ≤ 1000 ∧
  ∀ H' u, Same H H' → SqT K H' u (List.replicate k xs).flatten → Q (.ref u) H'
theorem op_repS {X : Cx} : OpR X (binaryOp .Mult) (rRepS X.K) := by
  intro pins s σ H x y v u Q I rx ry h
  obtain ⟨l, k, xs, rfl, rfl, hT, hne, h2, hz, q⟩ := h
  refine op_repN pins s σ H _ _ v u Q I rx ry ⟨l, k, xs, rfl, rfl, hT, hne, h2, hz, fun z => q H l (fun _ _ h => h) ?_, fun _ p np => q _ p (same_new np) (.of upd_same)⟩
  subst z
  rw [show (List.replicate 1 xs).flatten = xs from by simp]
  exact hT
/-! ## a part of a tuple, the whole of it too -/
section
variable {prog : Program} {w : World} {A : Around} {E : Value → Shared → Prop} {s : Shared}
theorem getItem_tuple_whole {t sl : Addr} {items : Array Value} {vl vu : Value} {lo hi : Option Int} {Q : Value → Shared → Prop} (ht : IsTup s.heap t items) (hs : s.heap.IsSliceOf sl vl vu .none) (pl : IsPart vl lo) (pu : IsPart vu hi)
    (hw : HT.sIx items.size 0 lo = 0 ∧ HT.sIx items.size items.size hi = items.size) (h : Q (.ref t) s) : wpAny (model prog w) A (getItem (.ref t) (.ref sl)) Q E s := by
  obtain ⟨os, hos, hcs, hds⟩ := id hs
  have hTs : s.TypeIs (.ref sl) "slice" := ⟨os, hos, hcs⟩
  unfold getItem
  try with_reducible refine wpAny_holding ?_
  first | refine wpAny_bind (wpAny_pure ?_) | skip
  refine wpAny_bind (wpAny_sequenceKey ht.typeIs (by decide) ?_)
  refine wpAny_bind (wpAny_callSpecial?_slot (name := Str.ofString "__getitem__") ht.typeIs PyProof.Rows.slot_tuple_getitem
    (wpAny_call_entry PyProof.Rows.slot_tuple_getitem ht.typeIs entry_tuple_getitem ?_ (args_tuple_getitem _ _)))
  show wpAny _ _ (Builtin.Tuple.tupleItemsOf (.ref t) >>= _) _ _ s
  refine wpAny_bind (PyProof.Rows.tupleItemsOf_ ht ?_)
  refine wpAny_bind (wpAny_typeOf hTs ?_)
  rw [if_pos (by decide)]
  refine wpAny_bind (HT.sliceApplied_gen hs pl pu ?_)
  have hyes : ((((HT.sIx items.size 0 lo : Nat) : Int) == 0 && (1 : Int) == 1 && (HT.sIx items.size items.size hi - HT.sIx items.size 0 lo) == items.size) = true) := by
    rw [hw.1, hw.2]
    simp
  show wpAny _ _ (if (((HT.sIx items.size 0 lo : Nat) : Int) == 0 && (1 : Int) == 1 && (HT.sIx items.size items.size hi - HT.sIx items.size 0 lo) == items.size) = true then _ else _) _ _ s
  rw [if_pos hyes]
  refine wpAny_bind (m := Builtin.Tuple.tupleIsExact _) ?_
  unfold Builtin.Tuple.tupleIsExact
  refine wpAny_bind (wpAny_typeOf ht.typeIs (wpAny_pure ?_))
  rw [if_pos (by decide)]
  exact wpAny_bind (wpAny_rule (wpAny_pure ⟨_, rfl, wpAny_pure h⟩))
end
def rSlN (K : PySem.W.Frag) : V → Option Int → Option Int → Hp → VK → Prop := fun x lo hi H Q => ∃ a xs, x = .ref a ∧ SqT K H a xs ∧
  ((HT.sIx xs.length 0 lo = 0 ∧ HT.sIx xs.length xs.length hi = xs.length) → cutV xs lo hi = xs → Q (.ref a) H) ∧ ∀ p, H p = none → Q (.ref p) (upd H p (.tup (cutV xs lo hi)))
theorem sl_tupN {X : Cx} : SlR X (rSlN X.K) := by
  intro pins s σ H x v vl vu lo hi sl Q I rx hs pl pu h
  obtain ⟨a, xs, rfl, hx, q1, q2⟩ := h
  by_cases hw : HT.sIx xs.length 0 lo = 0 ∧ HT.sIx xs.length xs.length hi = xs.length
  · cases rx
    obtain ⟨its, r, ht, hz⟩ := I.tuple hx
    have hlen : its.toArray.size = xs.length := by rw [List.size_toArray]; exact r.length.symm
    refine ⟨"tuple", _, PyProof.Rows.slot_tuple_getitem.lookup, ht.typeIs, ?_⟩
    refine getItem_tuple_whole ht hs pl pu (by rw [hlen]; exact hw) ⟨.ref a, H, I, rfl, q1 hw ?_⟩
    unfold cutV
    rw [hw.1, hw.2, List.drop_zero, Nat.sub_zero, List.take_length]
  · exact sl_tup pins s σ H _ v vl vu lo hi sl Q I rx hs pl pu ⟨a, xs, rfl, hx, hw, q2⟩
def rSlS (K : PySem.W.Frag) : V → Option Int → Option Int → Hp → VK → Prop := fun x lo hi H Q => ∃ a xs, x = .ref a ∧ SqT K H a xs ∧ ∀ H' u, Same H H' → SqT K H' u (cutV xs lo hi) → Q (.ref u) H'
theorem sl_tupS {X : Cx} : SlR X (rSlS X.K) := by
  intro pins s σ H x v vl vu lo hi sl Q I rx hs pl pu h
  obtain ⟨a, xs, rfl, hx, q⟩ := h
  exact sl_tupN pins s σ H _ v vl vu lo hi sl Q I rx hs pl pu ⟨a, xs, rfl, hx, fun _ e => q H a (fun _ _ h => h) (by rw [e]; exact hx), fun p np => q _ p (same_new np) (.of upd_same)⟩
end Sg

set_option Elab.async false
set_option linter.all false
set_option maxRecDepth 100000
set_option maxHeartbeats 4000000
namespace Sg
open PySem PySem.Spec PyProof.Rows L2
theorem tup_upd {K : PySem.W.Frag} {H : Hp} {p a : Addr} {xs : List V} {u o : HO} (hp : H p = some u) (hu : ∀ ys, HO.tup ys ≠ u) (hv : ∀ ob ys, HO.frz ob (.tup ys) ≠ u) (h : SqT K H a xs) : SqT K (upd H p o) a xs := by
  rcases h with (h | ⟨ob, h⟩) | h
  · exact .inl (.inl (by rw [upd_ne (ne_of h hp (hu _))]; exact h))
  · exact .inl (.inr ⟨ob, by rw [upd_ne (ne_of h hp (hv _ _))]; exact h⟩)
  · exact .inr h
theorem ixN_nat {n j : Nat} (h : j < n) : ixN n (j : Int) = some j := by
  unfold ixN
  rw [if_pos (by omega), if_pos (by omega), Int.toNat_natCast]
theorem ixN_end {n : Nat} (h : 0 < n) : ixN n (-1) = some (n - 1) := by
  unfold ixN
  rw [if_neg (by decide), if_pos (by omega)]
  congr 1
  omega
theorem mem_set {l : List Int} {i : Nat} {v x : Int} (h : x ∈ l.set i v) : x = v ∨ x ∈ l := by
  rcases List.mem_or_eq_of_mem_set h with z | z
  · exact .inr z
  · exact .inl z
theorem eraseIdx_map {f : Int → V} : ∀ (l : List Int) (j : Nat), (l.map f).eraseIdx j = (l.eraseIdx j).map f
  | [], _ => by simp
  | _ :: _, 0 => by simp
  | a :: r, j + 1 => by
    rw [List.map_cons, List.eraseIdx_cons_succ, List.eraseIdx_cons_succ, List.map_cons, eraseIdx_map r j]
theorem set_at {l : List Int} {i j : Nat} {v x : Int} (h : (l.set i v)[j]? = some x) : x = v ∨ (i ≠ j ∧ l[j]? = some x) := by
  by_cases e : i = j
  · have hm := List.mem_of_getElem? h
    subst e
    rw [List.getElem?_set_self'] at h
    left
    cases hl : l[i]? with
    | none =>
      rw [hl] at h
      exact nomatch h
    | some y =>
      rw [hl] at h
      exact (Option.some.inj h).symm
  · rw [List.getElem?_set_ne e] at h
    exact .inr ⟨e, h⟩
theorem PenAt.new {H : Hp} {p l : Addr} {o : HO} (h : PenAt H p) (n : H l = none) : PenAt (L2.upd H l o) p := h.upd (h.ne n)
theorem cut_to (xs : List V) (d : Nat) : cutV xs none (some (d : Int)) = xs.take d := by
  unfold cutV
  rw [HT.sIx_nat, HT.sIx_none]
  show (xs.drop 0).take (min d xs.length - 0) = _
  rw [List.drop_zero, Nat.sub_zero]
  rcases Nat.le_total d xs.length with h | h
  · rw [Nat.min_eq_left h]
  · rw [Nat.min_eq_right h, List.take_of_length_le h, List.take_of_length_le (Nat.le_refl _)]
theorem cut_one (xs : List V) (d : Nat) : cutV xs (some (d : Int)) (some ((d : Int) + 1)) = (xs.drop d).take 1 := by
  unfold cutV
  rw [HT.sIx_nat, show (d : Int) + 1 = ((d + 1 : Nat) : Int) from rfl, HT.sIx_nat]
  rcases Nat.lt_or_ge d xs.length with h | h
  · rw [Nat.min_eq_left (by omega), Nat.min_eq_left (by omega)]
    congr 1
    omega
  · rw [Nat.min_eq_right (by omega), Nat.min_eq_right (by omega), List.drop_of_length_le (Nat.le_refl _), List.drop_of_length_le h, List.take_nil, List.take_nil]
theorem freeS {H H' : Hp} {t : Addr} (e : Same H H') (n : H' t = none) : H t = none := by
  rcases z : H t with _ | o
  · rfl
  · rw [e _ _ z] at n
    exact nomatch n
theorem cr_sumT {X : Cx} (hc : X.calm = true) : CallR X (.builtin "sum") (fun vs H Q => ∃ (a : Addr) (ns : List Int), vs = [.ref a] ∧ SqT X.K H a (ns.map V.int) ∧ Q (.int ns.sum) H) := by
  intro pins s σ H vs us Q I r h
  obtain ⟨a, ns, rfl, hs, q⟩ := h
  obtain ⟨its, rv, ht, hz⟩ := I.tuple hs
  rw [Vals.ref1 r]
  obtain ⟨xs, e⟩ := rv.ints.allInts.items
  have hn : numsOf (intItems xs).toList = ns := by rw [← e]; exact rv.ints.numsOf
  rw [nums_intItems] at hn
  rw [e] at ht
  refine PySem.W.ktm_sumG (I.ok.hd hc) ht fun h' tk t' hk => ?_
  refine ⟨.int ns.sum, H, I.kept hk, ⟨t', ?_⟩, q⟩
  rw [preSum_eq, List.take_of_length_le (by simp), hn]
theorem rep_flat (n : Nat) (x : Int) : (List.replicate n [V.int x]).flatten = (List.replicate n x).map V.int := by
  rw [List.map_replicate]
  induction n with
  | zero => rfl
  | succ n ih => rw [List.replicate_succ, List.flatten_cons, ih, List.replicate_succ]; rfl
/-- a tuple is no pen -/
theorem PenAt.tupNe {H : Hp} {p u : Addr} {zs : List V} (h : PenAt H p) (hu : H u = some (.tup zs)) : u ≠ p := fun z => by
  subst z
  obtain ⟨_, _, _, e, _⟩ := h
  rw [hu] at e
  exact nomatch e
end Sg

set_option Elab.async false
set_option linter.all false
set_option maxRecDepth 100000
set_option maxHeartbeats 4000000
namespace Sg
open PySem PySem.Spec PyProof.Rows L2
/-! ## how many different tuples of ints a list has -/
theorem nodup_len_le {α : Type} [DecidableEq α] : ∀ (l D : List α), l.Nodup → (∀ x ∈ l, x ∈ D) → l.length ≤ D.length
  | [], _, _, _ => Nat.zero_le _
  | x :: r, D, h, s => by
    obtain ⟨h1, h2⟩ := List.nodup_cons.mp h
    have hx := s x List.mem_cons_self
    have := nodup_len_le r (D.erase x) h2 fun y hy => (List.mem_erase_of_ne (fun e => h1 (by rw [← e]; exact hy))).mpr (s y (List.mem_cons_of_mem _ hy))
    rw [List.length_erase_of_mem hx] at this
    have := List.length_pos_of_mem hx
    rw [List.length_cons]
    omega
theorem shorter {α : Type} [DecidableEq α] : ∀ (l : List α), ¬ l.Nodup → ∃ m : List α, m.length < l.length ∧ ∀ x ∈ l, x ∈ m
  | [], h => absurd List.nodup_nil h
  | x :: r, h => by
    by_cases hx : x ∈ r
    · refine ⟨r, Nat.lt_succ_self _, fun y hy => ?_⟩
      rcases List.mem_cons.mp hy with rfl | hy
      · exact hx
      · exact hy
    · obtain ⟨m, h1, h2⟩ := shorter r fun z => h (List.nodup_cons.mpr ⟨hx, z⟩)
      refine ⟨x :: m, Nat.succ_lt_succ h1, fun y hy => ?_⟩
      rcases List.mem_cons.mp hy with rfl | hy
      · exact List.mem_cons_self
      · exact List.mem_cons_of_mem _ (h2 y hy)
theorem met_nodup {α : Type} [DecidableEq α] {M V : List α} (h : M.Nodup) (h1 : ∀ x ∈ M, x ∈ V) (h2 : ∀ x ∈ V, x ∈ M) : M.length = V.length ↔ V.Nodup := by
  constructor
  · intro e
    by_cases z : V.Nodup
    · exact z
    · obtain ⟨m, l1, l2⟩ := shorter V z
      have := nodup_len_le M m h fun x hx => l2 x (h1 x hx)
      omega
  · intro z
    exact Nat.le_antisymm (nodup_len_le M V h h1) (nodup_len_le V M z h2)
def tLenSetT (K : PySem.W.Frag) (ta : TE) : TE := fun σ H Q => ta σ H fun x H1 => ∃ (l : Addr) (ks : List (Addr × List Int)), x = .ref l ∧ SqL K H1 l (ks.map fun p => V.ref p.1) ∧ (∀ p ∈ ks, SqT K H1 p.1 (p.2.map V.int)) ∧ ks.length < 64 ∧
  ∀ n : Nat, (n = ks.length ↔ (ks.map (·.2)).Nodup) → Q (.int n) H1
theorem pe_lenSetT {X : Cx} {K : PySem.W.Frag} {a : Expr} {ta : TE} {p p2 q pos : Pos} (hK : X.K = K) (hu : X.A.units + 3 < cLine) (g1 : Gl X "len") (m1 : X.mg "len" = none) (g2 : Gl X "set") (m2 : X.mg "set" = none) (ha : PE X a ta) (hc : X.calm = true := by rfl)
    (na : starEach [a] X.env = (false, eval a X.env) :: starEach [] X.env := by rfl) : PE X (.Call (.Name "len" p) [.Call (.Name "set" p2) [a] [] q] [] pos) (tLenSetT K ta) := by
  subst hK
  constructor
  intro pins s σ H Q I h
  refine Call_ ?_
  apply ld_blt I g1 m1 boot_len
  apply callWith_builtin1 _ rfl rfl
  apply args_cons _ rfl
  refine Call_ ?_
  apply ld_blt I g2 m2 boot_set
  apply callWith_type1 _ na rfl
  apply args_cons _ na
  refine thn (ha.run pins s σ H _ I h) ?_
  rintro v s1 ⟨x, H1, I1, r1, l, ks, rfl, hq, hk, hl, q1⟩
  cases r1
  apply args_nil
  obtain ⟨its, rv, pl, hz⟩ := I1.list hq
  refine call_set_tups (P := X.prog) (w := X.w) ks (I1.ok.hd hc) pl.isList (by simpa using refs_of_vals rv) (fun p hp => I1.isT (hk p hp)) hl hu fun h' tk L es ep t R g k => ?_
  apply args_nil
  have I2 : Inv X pins σ H1 { s1 with heap := h', toks := tk } := I1.kept k
  obtain ⟨o, ho, hex, hd⟩ := R.ob
  have sz := SetTR.size (s := { s1 with heap := h', toks := tk }) R
  refine call_len_set ho hex hd (SetTR.fits (s := { s1 with heap := h', toks := tk }) R) (by rw [sz]; have := R.few; omega) ⟨.int (L.length : Nat), H1, I2.tok _, ⟨_, by rw [sz]⟩, q1 L.length ?_⟩
  have mn := met_nodup (M := L.map (·.2)) (V := ks.map (·.2)) R.nd (fun x hx => ?_) (fun x hx => ?_)
  · rw [List.length_map, List.length_map] at mn
    exact mn
  · obtain ⟨p, hp, rfl⟩ := List.mem_map.mp hx
    exact List.mem_map.mpr ⟨p, List.mem_of_mem_take (g.sub p hp), rfl⟩
  · obtain ⟨p, hp, rfl⟩ := List.mem_map.mp hx
    exact g.all p (by rw [List.take_length]; exact hp)
end Sg

set_option Elab.async false
set_option linter.all false
set_option maxRecDepth 100000
set_option maxHeartbeats 4000000
namespace Sg
open PySem PySem.Spec PyProof.Rows L2 StX
/-! ## data compared -/
theorem eqv_ints : ∀ (xs ys : List Int), PyData.eqvAll (iD xs) (iD ys) = decide (xs = ys)
  | [], [] => by simp [PyData.eqvAll]
  | [], _ :: _ => by simp [PyData.eqvAll]
  | _ :: _, [] => by simp [PyData.eqvAll]
  | x :: xs, y :: ys => by
    show PyData.eqvAll (.int x :: iD xs) (.int y :: iD ys) = _
    rw [PyData.eqvAll, eqv_ints xs ys, PyData.eqv]
    by_cases h : x = y
    · subst h; simp
    · simp [h]
theorem eqv_tD (xs ys : List Int) : PyData.eqv (tD xs) (tD ys) = decide (xs = ys) := by
  show PyData.eqv (.tuple (iD xs)) (.tuple (iD ys)) = _
  rw [PyData.eqv, eqv_ints]
theorem eqv_tDs : ∀ (xs ys : List (List Int)), PyData.eqvAll (tDs xs) (tDs ys) = decide (xs = ys)
  | [], [] => by simp [PyData.eqvAll]
  | [], _ :: _ => by simp [PyData.eqvAll]
  | _ :: _, [] => by simp [PyData.eqvAll]
  | x :: xs, y :: ys => by
    show PyData.eqvAll (tD x :: tDs xs) (tD y :: tDs ys) = _
    rw [PyData.eqvAll, eqv_tDs xs ys, eqv_tD]
    by_cases h : x = y
    · subst h; simp
    · simp [h]
theorem lay_iD : ∀ (xs : List Int), PyData.canLayAll0 (iD xs) = true
  | [] => by simp [PyData.canLayAll0]
  | x :: r => by
    show PyData.canLayAll0 (.int x :: iD r) = true
    rw [PyData.canLayAll0, lay_iD r, PyData.canLay0]; rfl
theorem dep_iD : ∀ (xs : List Int), PyData.depthAll (iD xs) = 0
  | [] => by simp [PyData.depthAll]
  | x :: r => by
    show PyData.depthAll (.int x :: iD r) = 0
    rw [PyData.depthAll, dep_iD r, PyData.depth]; rfl
theorem shaped_tD (xs : List Int) : SeqAt.shaped (tD xs) = true := by
  unfold SeqAt.shaped
  have a : (tD xs).canLay0 = true := by show PyData.canLay0 (.tuple (iD xs)) = true; rw [PyData.canLay0, lay_iD]
  have b : (tD xs).depth ≤ 64 := by show PyData.depth (.tuple (iD xs)) ≤ 64; rw [PyData.depth, dep_iD]; decide
  rw [a, decide_eq_true b]; rfl
theorem lay_tDs : ∀ (xs : List (List Int)), PyData.canLayAll0 (tDs xs) = true
  | [] => by simp [PyData.canLayAll0]
  | x :: r => by
    show PyData.canLayAll0 (.tuple (iD x) :: tDs r) = true
    rw [PyData.canLayAll0, lay_tDs r, PyData.canLay0, lay_iD]; rfl
theorem dep_tDs : ∀ (xs : List (List Int)), PyData.depthAll (tDs xs) ≤ 1
  | [] => by simp [PyData.depthAll]
  | x :: r => by
    show PyData.depthAll (.tuple (iD x) :: tDs r) ≤ 1
    rw [PyData.depthAll, PyData.depth, dep_iD]
    exact Nat.max_le.mpr ⟨Nat.le_refl _, dep_tDs r⟩
theorem shaped_tDs (xs : List (List Int)) : SeqAt.shaped (.tuple (tDs xs)) = true := by
  unfold SeqAt.shaped
  have a : (PyData.tuple (tDs xs)).canLay0 = true := by rw [PyData.canLay0, lay_tDs]
  have b : (PyData.tuple (tDs xs)).depth ≤ 64 := by rw [PyData.depth]; have := dep_tDs xs; omega
  rw [a, decide_eq_true b]; rfl
end Sg
namespace Sg
open PySem PySem.Spec PyProof.Rows L2 StX
/-- a call of a def by names alone, in their order -/
def kwI {α : Type} : List α → List α → List α
  | [], ws => ws
  | _ :: _, _ => []
theorem kwI_rel {vs : List V} {us : List Value} {zs : List V} {ws : List Value} (r : Vals vs us) (rz : Vals zs ws) : Vals (kwI vs zs) (kwI us ws) := by
  cases r with
  | nil => exact rz
  | cons a r1 => exact .nil
/-- .. two names, the second one first -/
def kwG {α : Type} : List α → List α → List α
  | [], [a, b] => [b, a]
  | _, _ => []
theorem kw_rel {vs : List V} {us : List Value} {zs : List V} {ws : List Value} (r : Vals vs us) (rz : Vals zs ws) : Vals (kwG vs zs) (kwG us ws) := by
  cases r with
  | nil =>
    cases rz with
    | nil => exact .nil
    | cons a r1 =>
      cases r1 with
      | nil => exact .nil
      | cons b r2 =>
        cases r2 with
        | nil => exact .cons b (.cons a .nil)
        | cons c r3 => exact .nil
  | cons a r1 => exact .nil
section
variable {X : Cx} {CX : CXT} {k : Nat} {f : Addr} {fd : FuncData} {ps ks : List Str} {sp : Sp} {E : XK} {x : Str} {p pos : Pos} {kws : List Keyword} {tk : TA} {g : List Value → List Value → List Value} {gV : List V → List V → List V}
theorem pe_callK0 (F : FnOk X.prog X.w X.K X.mg X.base CX k f fd ps sp) (hr : Room k X.A) (hg : Gl X x) (hm : X.mg x = some (.ref f)) (hk : PySem.W.keepIn X.K (.ref f) = true) (hb : KBinds X.K fd ps ks g gV) (hx : Passes CX X E) (hkw : PK X kws tk)
    (ha : (backToKw pos (keywordEach kws X.env)).all (·.1.isSome) = true := by rfl) (hs : (backToKw pos (keywordEach kws X.env)).filterMap (·.1) = ks := by rfl) (hd : (x == ("__debug__" : Str)) = false := by decide)
    (hp : ((backTo pos (starEach [] X.env)).any (·.1) || (backToKw pos (keywordEach kws X.env)).any (·.1.isNone)) = false := by rfl) : PE X (.Call (.Name x p) [] kws pos) (tCallK sp gV E tNil tk) := by
  refine ⟨fun pins s σ H Q I h => wpAny_Call_Name_kw (ld_glob I hg hm ?_ hd)⟩
  refine PySem.W.callWith_KW0 (h₀ := X.base) I.ok.mod.kin hk ha ?_ hp
  refine thn (hkw.run pos pins s σ H _ I h) fun ws s2 ⟨zs, H2, I2, rz, q2⟩ => ⟨I2.kIn, ?_⟩
  rw [hs]
  exact run_fnk (us := []) (vs := []) F hr hb hx I2 .nil rz q2
end
end Sg

set_option Elab.async false
set_option linter.all false
set_option maxRecDepth 100000
set_option maxHeartbeats 4000000
namespace Sg
open PySem PySem.Spec PyProof.Rows L2
/-! the places of the text -/
def topS (i : Nat) : Stmt := PySem.Challenge.pw_startgaps_k73_works_with_given_bars.main.body.getD i (.Pass ⟨0, 0, 0, 0⟩)
abbrev s_is_int : Stmt := topS 4
theorem sc_is_int : FnScope ["thing"] ["thing"] (defScope s_is_int) := ⟨rfl, rfl, rfl, by decide +kernel, rfl, by decide +kernel, by decide +kernel⟩
abbrev s_is_between : Stmt := topS 5
theorem sc_is_between : FnScope ["thing", "least", "most"] ["thing", "least", "most"] (defScope s_is_between) := ⟨rfl, rfl, rfl, by decide +kernel, rfl, by decide +kernel, by decide +kernel⟩
abbrev s_work_with : Stmt := topS 10
theorem sc_work_with : FnScope ["distances", "stations", "station", "distance", "first", "tick"] ["distances"] (defScope s_work_with) := ⟨rfl, rfl, rfl, by decide +kernel, rfl, by decide +kernel, by decide +kernel⟩
abbrev s_is_bars : Stmt := topS 11
theorem sc_is_bars : FnScope ["thing", "distance", "near", "far"] ["thing"] (defScope s_is_bars) := ⟨rfl, rfl, rfl, by decide +kernel, rfl, by decide +kernel, by decide +kernel⟩
abbrev s_first_free : Stmt := topS 12
theorem sc_first_free : FnScope ["stations", "tick"] ["stations"] (defScope s_first_free) := ⟨rfl, rfl, rfl, by decide +kernel, rfl, by decide +kernel, by decide +kernel⟩
abbrev s_l_cell : Stmt := topS 14
theorem sc_l_cell : FnScope ["_law_script", "_law_k"] ["_law_script", "_law_k"] (defScope s_l_cell) := ⟨rfl, rfl, rfl, by decide +kernel, rfl, by decide +kernel, by decide +kernel⟩
abbrev s_l_pen : Stmt := topS 15
theorem sc_l_pen : FnScope ["_law_cell_here"] ["_law_cell_here"] (defScope s_l_pen) := ⟨rfl, rfl, rfl, by decide +kernel, rfl, by decide +kernel, by decide +kernel⟩
abbrev s_l_draw : Stmt := topS 16
theorem sc_l_draw : FnScope ["_law_pen_here", "_law_many", "_law_found", "_law_mixed"] ["_law_pen_here", "_law_many"] (defScope s_l_draw) := ⟨rfl, rfl, rfl, by decide +kernel, rfl, by decide +kernel, by decide +kernel⟩
abbrev s_l_same : Stmt := topS 17
theorem sc_l_same : FnScope ["_law_found", "_law_due"] ["_law_found", "_law_due"] (defScope s_l_same) := ⟨rfl, rfl, rfl, by decide +kernel, rfl, by decide +kernel, by decide +kernel⟩
abbrev s_l_meet : Stmt := topS 18
theorem sc_l_meet : FnScope ["_law_one", "_law_other", "_law_by", "_law_at", "_law_spot"] ["_law_one", "_law_other", "_law_by"] (defScope s_l_meet) := ⟨rfl, rfl, rfl, by decide +kernel, rfl, by decide +kernel, by decide +kernel⟩
abbrev s_l_bars : Stmt := topS 19
theorem sc_l_bars : FnScope ["_law_one", "_law_other", "_law_by"] ["_law_one", "_law_other"] (defScope s_l_bars) := ⟨rfl, rfl, rfl, by decide +kernel, rfl, by decide +kernel, by decide +kernel⟩
abbrev s_l_is_job : Stmt := topS 20
theorem sc_l_is_job : FnScope ["_law_thing", "_law_one"] ["_law_thing"] (defScope s_l_is_job) := ⟨rfl, rfl, rfl, by decide +kernel, rfl, by decide +kernel, by decide +kernel⟩
abbrev s_l_right : Stmt := topS 21
theorem sc_l_right : FnScope ["_law_some_here", "_law_kept", "_law_told"] ["_law_some_here"] (defScope s_l_right) := ⟨rfl, rfl, rfl, by decide +kernel, rfl, by decide +kernel, by decide +kernel⟩
abbrev s_l_some : Stmt := topS 22
theorem sc_l_some : FnScope ["_law_pen_here", "_law_upto", "_law_found", "_law_by"] ["_law_pen_here", "_law_upto"] (defScope s_l_some) := ⟨rfl, rfl, rfl, by decide +kernel, rfl, by decide +kernel, by decide +kernel⟩
abbrev s_law : Stmt := topS 23
theorem sc_law : FnScope ["_law_script", "_law_by", "_law_k", "_law_pen_here", "_law_turn", "_law_some_here"] ["_law_script"] (defScope s_law) := ⟨rfl, rfl, rfl, by decide +kernel, rfl, by decide +kernel, by decide +kernel⟩
end Sg

set_option Elab.async false
set_option linter.all false
set_option maxRecDepth 100000
set_option maxHeartbeats 4000000
namespace Sg
open PySem PySem.Spec PyProof.Rows L2 StX
section
variable {P : Program} {w : World} {K : PySem.W.Frag} {mg : Str → Option Value} {base : Heap}
/-! ### is_int, is_between: of ints -/
def spIsInt : Sp := fun vs H Q _ => ∃ i : Int, vs = [.int i] ∧ Q (.bl true) H
theorem ok_is_int {f : Addr} {fd : FuncData} {k : Nat} (F : Fun K "is_int" "is_int" s_is_int f fd) (m1 : mg "isinstance" = none) (m2 : mg "int" = none) (m3 : mg "bool" = none) :
    FnOk P w K mg base CX0 (k + 1) f fd ["thing"] spIsInt := by
  refine F.ok sc_is_int (fun vs H Q E h => ?_) (fun cdv A outer s H vs Q E hr h => ?_)
  · obtain ⟨i, rfl, _⟩ := h; rfl
  · obtain ⟨i, rfl, q⟩ := h
    refine ⟨_, pss_one (ps_ret (pe_and
      (pe_callB call_isi (by rfl) m1 (by decide +kernel) (pa_cons (pv 0) (pa_cons (pe_bltn (v := .ty "int") (by rfl) m2 (by decide +kernel) rfl) pa_nil)))
      (pe_one (pe_not (pe_callB call_isi (by rfl) m1 (by decide +kernel) (pa_cons (pv 0) (pa_cons (pe_bltn (v := .ty "bool") (by rfl) m3 (by decide +kernel) rfl) pa_nil))))))), ?_⟩
    refine ⟨.int i, rfl, .int i, .ty "int", _, _, true, rfl, .ty _, .base (.int i), kit_ty (by decide +kernel), true, rfl, iteT ?_⟩
    exact ⟨.int i, rfl, .int i, .ty "bool", _, _, false, rfl, .ty _, .base (.int i), kit_ty (by decide +kernel), false, rfl, q⟩
def spIsBetween : Sp := fun vs H Q _ => ∃ i l m : Int, vs = [.int i, .int l, .int m] ∧ Q (.bl (decide (l ≤ i) && decide (i ≤ m))) H
theorem ok_is_between {f f1 : Addr} {fd fd1 : FuncData} {k : Nat} (F : Fun K "is_between" "is_between" s_is_between f fd)
    (G1 : FnOk P w K mg base CX0 k f1 fd1 ["thing"] spIsInt) (kp1 : PySem.W.keepIn K (.ref f1) = true) (b1 : Binds K fd1 ["thing"] []) (g1 : mg "is_int" = some (.ref f1)) :
    FnOk P w K mg base CX0 (k + 1) f fd ["thing", "least", "most"] spIsBetween := by
  refine F.ok sc_is_between (fun vs H Q E h => ?_) (fun cdv A outer s H vs Q E hr h => ?_)
  · obtain ⟨i, l, m, rfl, _⟩ := h; rfl
  · obtain ⟨i, l, m, rfl, q⟩ := h
    refine ⟨_, pss_one (ps_ret (pe_and (pe_call G1 hr (by rfl) g1 kp1 b1 .nil pass0 (pa_cons (pv 0) pa_nil)) (pe_one (pe_chain op_le op_le (pv 1) (pv 0) (pv 2))))), ?_⟩
    refine ⟨.int i, rfl, i, rfl, true, rfl, iteT ?_⟩
    refine ⟨.int l, rfl, .int i, rfl, l, i, rfl, rfl, decide (l ≤ i), rfl, ?_⟩
    by_cases h1 : l ≤ i
    · rw [decide_eq_true h1] at q ⊢
      exact iteT ⟨.int m, rfl, i, m, rfl, rfl, q⟩
    · rw [decide_eq_false h1] at q ⊢
      exact iteF q
/-! ### the script's cells, the pen -/
def spCell (K : PySem.W.Frag) : Sp := fun vs H Q _ => ∃ (a : Addr) (ns : List Int) (k : Nat), vs = [.ref a, .int k] ∧ SqL K H a (ns.map V.int) ∧ ∀ r : Int, Q (.int r) H
theorem ok_l_cell {f : Addr} {fd : FuncData} {k : Nat} (F : Fun K "_law_cell" "_law_cell" s_l_cell f fd) (m1 : mg "len" = none) :
    FnOk P w K mg base CX0 (k + 1) f fd ["_law_script", "_law_k"] (spCell K) := by
  refine F.ok sc_l_cell (fun vs H Q E h => ?_) (fun cdv A outer s H vs Q E hr h => ?_)
  · obtain ⟨a, ns, j, rfl, _⟩ := h; rfl
  · obtain ⟨a, ns, j, rfl, hS, q⟩ := h
    refine ⟨_, pss_cons (ps_if (pt_cmpR op_lt (pv 1) (pe_callB call_len_seq (by rfl) m1 PySem.boot_len (pa_cons (pv 0) pa_nil)) (nomark _))
      (pss_one (ps_ret (pe_ix ix_list (pv 0) (pv 1) (fun _ _ => rfl)))) pss_nil) (pss_one (ps_ret pe_int)), ?_⟩
    refine ⟨.int j, rfl, .ref a, rfl, a, ns.map V.int, rfl, .inl hS, _, _, rfl, rfl, _, rfl, ite2 (fun e => ?_) (fun e => ?_)⟩
    · have e1 : (j : Int) < ((ns.map V.int).length : Nat) := of_decide_eq_true e
      have e2 : j < ns.length := by rw [List.length_map] at e1; omega
      refine ⟨.ref a, rfl, .int j, rfl, a, ns.map V.int, (j : Int), .int ns[j], rfl, rfl, hS, atI_nat ?_, q _⟩
      rw [List.getElem?_map, List.getElem?_eq_getElem e2]; rfl
    · exact q 0
def spPen : Sp := fun vs H Q _ => ∃ c : Int, vs = [.int c] ∧ ∀ H' p, H p = none → Same H H' → PenAt H' p → Q (.ref p) H'
theorem ok_l_pen {f : Addr} {fd : FuncData} {k : Nat} (F : Fun K "_law_pen" "_law_pen" s_l_pen f fd) (m1 : mg "max" = none) :
    FnOk P w K mg base CX0 (k + 1) f fd ["_law_cell_here"] spPen := by
  refine F.ok sc_l_pen (fun vs H Q E h => ?_) (fun cdv A outer s H vs Q E hr h => ?_)
  · obtain ⟨c, rfl, _⟩ := h; rfl
  · obtain ⟨c, rfl, q⟩ := h
    refine ⟨_, pss_one (ps_ret (pe_lst (pa_cons (pe_callB (call_max2 rfl) (by rfl) m1 (by decide +kernel) (pa_cons pe_int (pa_cons (pe_op op_sub (pv 0) (pe_op op_pow pe_int pe_int)) pa_nil)))
      (pa_cons (pe_op op_add (pe_op op_mod (pv 0) pe_int) pe_int) (pa_cons pe_int pa_nil))))), ?_⟩
    refine ⟨.int c, rfl, 10, 18, rfl, rfl, (by show (0 : Int) ≤ 18 ∧ (18 : Int) ≤ 1000000 ∧ _; decide), c, _, rfl, rfl, _, _, rfl, ?_⟩
    refine ⟨.int c, rfl, c, 2147483629, rfl, rfl, (by show (0 : Int) < 2147483629; decide), _, _, rfl, rfl, ?_⟩
    refine ⟨by show 3 ≤ sizeLine; decide, fun p hp => q _ p hp (same_new hp) ⟨_, _, _, upd_same, ?_⟩⟩
    have h1 := Int.emod_nonneg c (show (2147483629 : Int) ≠ 0 by decide)
    have h2 := Int.emod_lt_of_pos c (show (0 : Int) < 2147483629 by decide)
    constructor <;> omega
/-! ### a draw -/
def spDraw : Sp := fun vs H Q _ => ∃ (p : Addr) (m : Int), vs = [.ref p, .int m] ∧ PenAt H p ∧ 0 < m ∧ m < 1000000 ∧
  ∀ H' (r : Int), 0 ≤ r → r < m → PenAt H' p → But p H H' → Q (.int r) H'
theorem ok_l_draw {f : Addr} {fd : FuncData} {k : Nat} (F : Fun K "_law_draw" "_law_draw" s_l_draw f fd) :
    FnOk P w K mg base CX0 (k + 1) f fd ["_law_pen_here", "_law_many"] spDraw := by
  refine F.ok sc_l_draw (fun vs H Q E h => ?_) (fun cdv A outer s H vs Q E hr h => ?_)
  · obtain ⟨p, m, rfl, _⟩ := h; rfl
  · obtain ⟨p, m, rfl, ⟨a, b, c, hp, hb0, hb1⟩, hm0, hm1, q⟩ := h
    refine ⟨_, pss_cons (ps_if (pt_cmpR op_gt (pe_ix ix_list (pv 0) pe_int (fun _ _ => rfl)) pe_int (nomark _))
        (pss_cons (ps_set (i := 2) sc_l_draw.nd rfl (.inl rfl) (pe_op op_mod (pe_ix ix_list (pv 0) pe_int (fun _ _ => rfl)) (pv 1)))
        (pss_cons (ps_asg (pe_op op_fdiv (pe_ix ix_list (pv 0) pe_int (fun _ _ => rfl)) (pv 1)) (pg_sub (pv 0) pe_int set_list))
        (pss_one (ps_ret (pv 2))))) pss_nil)
      (pss_cons (ps_asg (pe_op op_add (pe_ix ix_list (pv 0) pe_int (fun _ _ => rfl)) pe_int) (pg_sub (pv 0) pe_int set_list))
      (pss_cons (ps_asg (pe_op op_mod (pe_op op_add (pe_op op_add (pe_op op_mul (pe_ix ix_list (pv 0) pe_int (fun _ _ => rfl)) pe_int)
            (pe_op op_mul pe_int (pe_ix ix_list (pv 0) pe_int (fun _ _ => rfl)))) pe_int) pe_int) (pg_sub (pv 0) pe_int set_list))
      (pss_cons (ps_set (i := 3) sc_l_draw.nd rfl (.inl rfl) (pe_op op_mod (pe_op op_add (pe_op op_add (pe_op op_mul (pe_ix ix_list (pv 0) pe_int (fun _ _ => rfl)) (pe_ix ix_list (pv 0) pe_int (fun _ _ => rfl)))
            (pe_op op_mul pe_int (pe_ix ix_list (pv 0) pe_int (fun _ _ => rfl)))) pe_int) pe_int))
      (pss_cons (ps_set (i := 3) sc_l_draw.nd rfl (.inl rfl) (pe_op op_mod (pe_op op_add (pe_op op_mul (pv 3) (pv 3)) (pe_op op_mul pe_int (pv 3))) pe_int))
      (pss_one (ps_ret (pe_op op_mod (pe_op op_fdiv (pv 3) pe_int) (pv 1)))))))), ?_⟩
    refine ⟨.ref p, rfl, p, _, 0, .int a, rfl, rfl, .of hp, atI0, a, 0, rfl, rfl, _, rfl, ite2 (fun e => ?_) (fun e => ?_)⟩
    · have ha : 0 < a := of_decide_eq_true e
      refine ⟨.ref p, rfl, p, _, 0, .int a, rfl, rfl, .of hp, atI0, .int m, rfl, a, m, rfl, rfl, hm0, ?_⟩
      refine ⟨.ref p, rfl, p, _, 0, .int a, rfl, rfl, .of hp, atI0, .int m, rfl, a, m, rfl, rfl, ⟨hm0, (by omega)⟩, ?_⟩
      refine ⟨.ref p, rfl, p, _, 0, 0, rfl, rfl, hp, rfl, ?_⟩
      refine ⟨.int (a % m), rfl, q _ _ (Int.emod_nonneg a (by omega)) (Int.emod_lt_of_pos a hm0) ⟨a / m, b, c, upd_same, hb0, hb1⟩ But.upd⟩
    · refine ⟨.ref p, rfl, p, _, 2, .int c, rfl, rfl, .of hp, atI2, c, 1, rfl, rfl, ?_⟩
      refine ⟨.ref p, rfl, p, _, 2, 2, rfl, rfl, hp, rfl, ?_⟩
      have hp1 : (upd H p (.lst [.int a, .int b, .int (c + 1)])) p = some (.lst [.int a, .int b, .int (c + 1)]) := upd_same
      refine ⟨.ref p, rfl, p, _, 1, .int b, rfl, rfl, .of hp1, atI1, b, 48271, rfl, rfl, .inl ⟨by omega, by omega⟩, ?_⟩
      refine ⟨.ref p, rfl, p, _, 2, .int (c + 1), rfl, rfl, .of hp1, atI2, 1009, c + 1, rfl, rfl, .inl (by decide), ?_⟩
      refine ⟨_, _, rfl, rfl, _, _, rfl, rfl, _, 2147483647, rfl, rfl, (by show (0 : Int) < 2147483647; decide), ?_⟩
      refine ⟨.ref p, rfl, p, _, 1, 1, rfl, rfl, hp1, rfl, ?_⟩
      dsimp only [List.set]
      generalize hb' : (b * 48271 + 1009 * (c + 1) + 7) % 2147483647 = b'
      have g1 : 0 ≤ b' := by rw [← hb']; exact Int.emod_nonneg _ (by decide)
      have g2 : b' < 2147483647 := by rw [← hb']; exact Int.emod_lt_of_pos _ (by decide)
      have hp2 : (upd (upd H p (.lst [.int a, .int b, .int (c + 1)])) p (.lst [.int a, .int b', .int (c + 1)])) p = some (.lst [.int a, .int b', .int (c + 1)]) := upd_same
      refine ⟨.ref p, rfl, p, _, 1, .int b', rfl, rfl, .of hp2, atI1, .ref p, rfl, p, _, 1, .int b', rfl, rfl, .of hp2, atI1, b', b', rfl, rfl, .inl ⟨by omega, by omega⟩, ?_⟩
      refine ⟨.ref p, rfl, p, _, 1, .int b', rfl, rfl, .of hp2, atI1, 69621, b', rfl, rfl, .inl (by decide), ?_⟩
      refine ⟨_, _, rfl, rfl, _, _, rfl, rfl, _, 2147483629, rfl, rfl, (by show (0 : Int) < 2147483629; decide), ?_⟩
      dsimp only
      generalize ht : (b' * b' + 69621 * b' + 11) % 2147483629 = t
      have t1 : 0 ≤ t := by rw [← ht]; exact Int.emod_nonneg _ (by decide)
      have t2 : t < 2147483629 := by rw [← ht]; exact Int.emod_lt_of_pos _ (by decide)
      refine ⟨.int t, rfl, .int t, rfl, t, t, rfl, rfl, .inl ⟨by omega, by omega⟩, .int t, rfl, 40014, t, rfl, rfl, .inl (by decide), _, _, rfl, rfl, _, 2147483587, rfl, rfl, (by show (0 : Int) < 2147483587; decide), ?_⟩
      refine ⟨_, rfl, _, 16, rfl, rfl, ⟨by decide, by decide⟩, .int m, rfl, _, m, rfl, rfl, hm0, ?_⟩
      refine q _ _ (Int.emod_nonneg _ (by omega)) (Int.emod_lt_of_pos _ hm0) ⟨a, b', c + 1, upd_same, by omega, by omega⟩ ?_
      exact But.upd.trans But.upd
/-! ### _law_same -/
theorem ok_l_same {f : Addr} {fd : FuncData} {k : Nat} (F : Fun K "_law_same" "_law_same" s_l_same f fd) (m1 : mg "repr" = none) :
    FnG P w K mg base (k + 1) f fd ["_law_found", "_law_due"] (spSame K) := by
  refine fnG_mk F sc_l_same (fun vs H Q h => ?_) (fun cdv A outer s H vs Q hg hr h => ?_)
  · obtain ⟨a, b, d, rfl, _⟩ := h; rfl
  · obtain ⟨a, b, d, rfl, h1, h2, hd, q⟩ := h
    refine ⟨_, pss_one (ps_ret (pe_cmpR op_eq (pe_callB (call_reprD hg hr) (by rfl) m1 (by decide +kernel) (pa_cons (pv 0) pa_nil))
      (pe_callB (call_reprD hg hr) (by rfl) m1 (by decide +kernel) (pa_cons (pv 1) pa_nil)) (nomark _))), ?_⟩
    refine ⟨.ref a, rfl, a, d, rfl, h1, hd, .ref b, rfl, b, d, rfl, h2, hd, rfl, ?_⟩
    rw [decide_eq_true rfl]
    exact q
end
end Sg


set_option Elab.async false
set_option linter.all false
set_option maxRecDepth 100000
set_option maxHeartbeats 4000000
namespace Sg
open PySem PySem.Spec PyProof.Rows L2 StX
/-! ## the mathematics: a work with given bars -/
theorem asc_eq : ∀ (l m : List Int), l.Pairwise (· < ·) → m.Pairwise (· < ·) → (∀ x, x ∈ l ↔ x ∈ m) → l = m
  | [], [], _, _, _ => rfl
  | [], b :: m, _, _, h => absurd ((h b).mpr List.mem_cons_self) (by simp)
  | a :: l, [], _, _, h => absurd ((h a).mp List.mem_cons_self) (by simp)
  | a :: l, b :: m, h1, h2, h => by
    obtain ⟨a1, a2⟩ := List.pairwise_cons.mp h1
    obtain ⟨b1, b2⟩ := List.pairwise_cons.mp h2
    have e : a = b := by
      rcases List.mem_cons.mp ((h a).mp List.mem_cons_self) with e | e
      · exact e
      · have := b1 a e
        rcases List.mem_cons.mp ((h b).mpr List.mem_cons_self) with e' | e'
        · exact e'.symm
        · have := a1 b e'
          omega
    subst e
    rw [asc_eq l m a2 b2 fun x => ?_]
    constructor
    · intro hx
      rcases List.mem_cons.mp ((h x).mp (List.mem_cons_of_mem _ hx)) with e | e
      · have := a1 x hx
        omega
      · exact e
    · intro hx
      rcases List.mem_cons.mp ((h x).mpr (List.mem_cons_of_mem _ hx)) with e | e
      · have := b1 x hx
        omega
      · exact e
/-- given bars -/
structure Given (ds : List Int) : Prop where
  few : ds.length ≤ 8
  items : ∀ x ∈ ds, 1 ≤ x ∧ x ≤ 20
  asc : ds.Pairwise (· < ·)
theorem Given.lt {ds : List Int} (h : Given ds) {i j : Nat} {x y : Int} (hij : i < j) (hx : ds[i]? = some x) (hy : ds[j]? = some y) : x < y := by
  obtain ⟨hi, rfl⟩ := List.getElem?_eq_some_iff.mp hx
  obtain ⟨hj, rfl⟩ := List.getElem?_eq_some_iff.mp hy
  exact List.pairwise_iff_getElem.mp h.asc i j hi hj hij
abbrev KV := List (Int × Int)
def has (l : KV) (t : Int) : Prop := ∃ s, (t, s) ∈ l
theorem has_iff {l : KV} {t : Int} : has l t ↔ t ∈ l.map (·.1) := by
  constructor
  · rintro ⟨s, h⟩
    exact List.mem_map.mpr ⟨_, h, rfl⟩
  · intro h
    obtain ⟨p, hp, rfl⟩ := List.mem_map.mp h
    exact ⟨p.2, hp⟩
theorem has_app {l m : KV} {t : Int} : has (l ++ m) t ↔ has l t ∨ has m t := by
  constructor
  · rintro ⟨s, h⟩
    rcases List.mem_append.mp h with h | h
    · exact .inl ⟨s, h⟩
    · exact .inr ⟨s, h⟩
  · rintro (⟨s, h⟩ | ⟨s, h⟩)
    · exact ⟨s, List.mem_append_left _ h⟩
    · exact ⟨s, List.mem_append_right _ h⟩
structure Step (ds : List Int) (i : Nat) (l : KV) (F D : Int) : Prop where
  nd : (l.map (·.1)).Nodup
  len : l.length = 2 * i
  lo : ∀ t, 0 ≤ t → t ≤ F → has l t
  up : ∀ p ∈ l, 0 ≤ p.1 ∧ p.1 ≤ F + D
  f1 : -1 ≤ F
  f2 : F < 2 * i
  f3 : 0 < i → 0 ≤ F
  d0 : 0 ≤ D
  d1 : ∀ j x, i ≤ j → ds[j]? = some x → D < x
  d2 : D ≤ 20
  top : 0 < i → has l (F + D)
  st : ∀ p ∈ l, 0 ≤ p.2 ∧ p.2 < i
  two : ∀ p ∈ l, ∀ q ∈ l, p.2 = q.2 → p.1 < q.1 → ds[p.2.toNat]? = some (q.1 - p.1)
  all : ∀ j x, j < i → ds[j]? = some x → ∃ f, (f, ((j : Nat) : Int)) ∈ l ∧ (f + x, ((j : Nat) : Int)) ∈ l
theorem Step.zero {ds : List Int} (h : Given ds) : Step ds 0 [] (-1) 0 :=
  ⟨List.nodup_nil, rfl, fun t h1 h2 => by omega, fun p hp => (nomatch hp), by decide, by decide, (fun z => absurd z (by decide)), by decide, fun j x _ e => by have := h.items x (List.mem_of_getElem? e); omega, by decide, fun z => absurd z (by decide), fun p hp => (nomatch hp), fun p hp => (nomatch hp), fun j x hj => absurd hj (by omega)⟩
/-- the first free tick -/
structure Free (l : KV) (f : Nat) : Prop where
  lo : ∀ u : Nat, u < f → has l (u : Int)
  no : ¬ has l (f : Int)
theorem below_len {l : KV} {f : Nat} (h : ∀ u : Nat, u < f → has l (u : Int)) : f ≤ l.length := by
  have := nodup_len_le ((List.range f).map fun u => ((u : Nat) : Int)) (l.map (·.1)) ?_ fun x hx => ?_
  · rwa [List.length_map, List.length_range, List.length_map] at this
  · rw [List.Nodup, List.pairwise_map]
    exact List.nodup_range.imp fun h e => h (by omega)
  · obtain ⟨u, hu, rfl⟩ := List.mem_map.mp hx
    exact has_iff.mp (h u (List.mem_range.mp hu))
theorem Step.next {ds : List Int} (g : Given ds) {i f : Nat} {l : KV} {F D x : Int} (h : Step ds i l F D) (hf : Free l f) (hx : ds[i]? = some x) :
    Step ds (i + 1) (l ++ [((f : Int), (i : Int)), ((f : Int) + x, (i : Int))]) f x := by
  have fl := below_len hf.lo
  have ff : F < f := by
    rcases Int.lt_or_le F (f : Int) with z | z
    · exact z
    · exact absurd (h.lo f (by omega) z) hf.no
  have dx := h.d1 i x (Nat.le_refl _) hx
  have x20 := g.items x (List.mem_of_getElem? hx)
  have nos : ¬ has l ((f : Int) + x) := by
    rintro ⟨s, hs⟩
    have := (h.up _ hs).2
    simp only at this
    omega
  have hl := h.len
  have d0 := h.d0
  have f2 := h.f2
  refine ⟨?_, ?_, fun t t0 t1 => ?_, fun p hp => ?_, by omega, by omega, (fun _ => by omega), by omega, fun j y hj hy => ?_, by omega, fun _ => ?_, fun p hp => ?_, fun p hp q hq e lt => ?_, fun j y hj hy => ?_⟩
  · rw [List.map_append]
    refine List.nodup_append.mpr ⟨h.nd, ?_, fun a ha b hb e => ?_⟩
    · refine List.nodup_cons.mpr ⟨fun z => ?_, by simp⟩
      have := List.mem_singleton.mp z
      simp only at this
      omega
    · subst e
      have ha' := has_iff.mpr ha
      rcases List.mem_cons.mp hb with e | hb
      · rw [e] at ha'; exact hf.no ha'
      · rw [List.mem_singleton.mp hb] at ha'; exact nos ha'
  · rw [List.length_append]
    show l.length + 2 = _
    omega
  · rcases Int.lt_or_le t f with z | z
    · obtain ⟨u, rfl⟩ : ∃ u : Nat, t = u := ⟨t.toNat, by omega⟩
      exact has_app.mpr (.inl (hf.lo u (by omega)))
    · have e : t = f := by omega
      subst e
      exact has_app.mpr (.inr ⟨_, List.mem_cons_self⟩)
  · rcases List.mem_append.mp hp with z | z
    · have := h.up p z
      omega
    · rcases List.mem_cons.mp z with rfl | z
      · simp only; omega
      · rw [List.mem_singleton.mp z]; simp only; omega
  · exact g.lt (by omega) hx hy
  · exact has_app.mpr (.inr ⟨_, List.mem_cons_of_mem _ List.mem_cons_self⟩)
  · rcases List.mem_append.mp hp with z | z
    · have := h.st p z
      omega
    · rcases List.mem_cons.mp z with rfl | z
      · simp only; omega
      · rw [List.mem_singleton.mp z]; simp only; omega
  · rcases List.mem_append.mp hp with z | z
    · rcases List.mem_append.mp hq with y | y
      · exact h.two p z q y e lt
      · have := h.st p z
        rcases List.mem_cons.mp y with rfl | y
        · simp only at e; omega
        · rw [List.mem_singleton.mp y] at e; simp only at e; omega
    · rcases List.mem_append.mp hq with y | y
      · have := h.st q y
        rcases List.mem_cons.mp z with rfl | z
        · simp only at e; omega
        · rw [List.mem_singleton.mp z] at e; simp only at e; omega
      · have hi : ∀ r, r ∈ [((f : Int), (i : Int)), ((f : Int) + x, (i : Int))] → r = ((f : Int), (i : Int)) ∨ r = ((f : Int) + x, (i : Int)) := fun r hr => by
          rcases List.mem_cons.mp hr with e | hr
          · exact .inl e
          · exact .inr (List.mem_singleton.mp hr)
        rcases hi p z with rfl | rfl <;> rcases hi q y with rfl | rfl
        · simp only at lt; omega
        · simp only [Int.toNat_natCast]
          rw [hx]
          congr 1
          omega
        · simp only at lt; omega
        · simp only at lt; omega
  · by_cases hji : j < i
    · obtain ⟨f', h1, h2⟩ := h.all j y hji hy
      exact ⟨f', List.mem_append_left _ h1, List.mem_append_left _ h2⟩
    · have e : j = i := by omega
      subst e
      rw [hx] at hy
      obtain rfl := Option.some.inj hy
      exact ⟨f, List.mem_append_right _ List.mem_cons_self, List.mem_append_right _ (List.mem_cons_of_mem _ List.mem_cons_self)⟩
/-! ### what stands in a tick -/
def look (l : KV) (t : Int) : Int := match l.find? fun p => decide (p.1 = t) with
  | some p => p.2
  | none => -1
theorem look_mem {t s : Int} : ∀ {l : KV}, (l.map (·.1)).Nodup → (t, s) ∈ l → look l t = s
  | p :: r, nd, h => by
    obtain ⟨n1, n2⟩ := List.nodup_cons.mp nd
    unfold look
    rcases List.mem_cons.mp h with e | h
    · rw [← e, List.find?_cons_of_pos (by simp)]
    · have ne : ¬ p.1 = t := fun e => n1 (List.mem_map.mpr ⟨(t, s), h, e.symm⟩)
      rw [List.find?_cons_of_neg (by simpa using ne)]
      exact look_mem n2 h
theorem look_none {l : KV} {t : Int} (h : ¬ has l t) : look l t = -1 := by
  unfold look
  rw [List.find?_eq_none.mpr fun p hp e => h ⟨p.2, by have := of_decide_eq_true e; rw [← this]; exact hp⟩]
theorem look_in {l : KV} {t : Int} (nd : (l.map (·.1)).Nodup) (h0 : ∀ p ∈ l, 0 ≤ p.2) (h : look l t ≠ -1) : (t, look l t) ∈ l := by
  by_cases z : has l t
  · obtain ⟨s, hs⟩ := z
    rw [look_mem nd hs]
    exact hs
  · exact absurd (look_none z) h
def workOf (l : KV) (n : Nat) : List Int := (List.range n).map fun t => look l ((t : Nat) : Int)
theorem workOf_at {l : KV} {n t : Nat} (h : t < n) : (workOf l n)[t]? = some (look l (t : Int)) := by
  unfold workOf
  rw [List.getElem?_map, List.getElem?_range h]
  rfl
theorem workOf_some {l : KV} {n t : Nat} {x : Int} (h : (workOf l n)[t]? = some x) : t < n ∧ x = look l (t : Int) := by
  have hl := (List.getElem?_eq_some_iff.mp h).1
  have hn : t < n := by unfold workOf at hl; rwa [List.length_map, List.length_range] at hl
  rw [workOf_at hn] at h
  exact ⟨hn, (Option.some.inj h).symm⟩
/-- what is built of all, with its greatest tick -/
structure Done (ds : List Int) (l : KV) (M : Nat) : Prop where
  nd : (l.map (·.1)).Nodup
  zero : has l 0
  top : has l (M : Int)
  up : ∀ p ∈ l, 0 ≤ p.1 ∧ p.1 ≤ M
  most : M ≤ 59
  st : ∀ p ∈ l, 0 ≤ p.2 ∧ p.2 ≤ 9
  two : ∀ p ∈ l, ∀ q ∈ l, p.2 = q.2 → p.1 < q.1 → q.1 - p.1 ∈ ds
  all : ∀ x ∈ ds, ∃ f s, (f, s) ∈ l ∧ (f + x, s) ∈ l
theorem Done.work {ds : List Int} {l : KV} {M : Nat} (h : Done ds l M) : IsWork (workOf l (M + 1)) := by
  have len : (workOf l (M + 1)).length = M + 1 := by unfold workOf; rw [List.length_map, List.length_range]
  have most := h.most
  have nn : ∀ {t : Int}, has l t → look l t ≠ -1 := fun ⟨s, hs⟩ => by
    rw [look_mem h.nd hs]
    have := (h.st _ hs).1
    simp only at this
    omega
  refine ⟨by omega, by omega, fun x hx => ?_, fun x hx => ?_, fun x hx => ?_⟩
  · obtain ⟨t, ht, rfl⟩ := List.mem_map.mp hx
    by_cases z : look l ((t : Nat) : Int) = -1
    · omega
    · have := h.st _ (look_in h.nd (fun p hp => (h.st p hp).1) z)
      simp only at this
      omega
  · obtain ⟨_, rfl⟩ := workOf_some hx
    exact nn h.zero
  · rw [len] at hx
    obtain ⟨_, rfl⟩ := workOf_some hx
    exact nn h.top
theorem Done.bars {ds : List Int} {l : KV} {M : Nat} (g : Given ds) (h : Done ds l M) : nI (barsN (workOf l (M + 1)) (workOf l (M + 1))) = ds := by
  have len : (workOf l (M + 1)).length = M + 1 := by unfold workOf; rw [List.length_map, List.length_range]
  have st0 : ∀ p ∈ l, 0 ≤ p.2 := fun p hp => (h.st p hp).1
  refine asc_eq _ _ ?_ g.asc fun x => ?_
  · rw [List.pairwise_map]
    refine List.Pairwise.imp (R := fun a b : Nat => a < b) (fun h => by omega) ?_
    exact List.Pairwise.filter _ (List.pairwise_lt_range' (s := 1) (n := (workOf l (M + 1)).length - 1) (step := 1) (by decide))
  · constructor
    · intro hx
      obtain ⟨d, hd, rfl⟩ := List.mem_map.mp hx
      obtain ⟨h1, h2⟩ := List.mem_filter.mp hd
      obtain ⟨j, s, e1, e2, ne⟩ := clashB_iff.mp h2
      obtain ⟨_, e1'⟩ := workOf_some e1
      obtain ⟨_, e2'⟩ := workOf_some e2
      have m1 := look_in h.nd st0 (t := ((d + j : Nat) : Int)) (by rw [← e1']; exact ne)
      have m2 := look_in h.nd st0 (t := ((j : Nat) : Int)) (by rw [← e2']; exact ne)
      rw [← e1'] at m1
      rw [← e2'] at m2
      have dp := (List.mem_range'_1.mp h1).1
      have := h.two _ m2 _ m1 rfl (by simp only; omega)
      simp only at this
      rw [show (((d + j : Nat) : Int)) - (j : Nat) = (d : Nat) by omega] at this
      exact this
    · intro hx
      obtain ⟨f, s, m1, m2⟩ := h.all x hx
      have x1 := (g.items x hx).1
      have f1 := h.up _ m1
      have f2 := h.up _ m2
      simp only at f1 f2
      obtain ⟨j, rfl⟩ : ∃ j : Nat, f = j := ⟨f.toNat, by omega⟩
      obtain ⟨d, rfl⟩ : ∃ d : Nat, x = d := ⟨x.toNat, by omega⟩
      refine List.mem_map.mpr ⟨d, List.mem_filter.mpr ⟨List.mem_range'_1.mpr ⟨by omega, by rw [len]; omega⟩, clashB_iff.mpr ⟨j, s, ?_, ?_, ?_⟩⟩, rfl⟩
      · rw [workOf_at (by omega), show (((d + j : Nat)) : Int) = (j : Int) + d by omega, look_mem h.nd m2]
      · rw [workOf_at (by omega), look_mem h.nd m1]
      · have := (h.st _ m1).1
        simp only at this
        omega
end Sg

set_option Elab.async false
set_option linter.all false
set_option maxRecDepth 100000
set_option maxHeartbeats 4000000
namespace Sg
open PySem PySem.Spec PyProof.Rows L2 StX
/-! ## the dict of stations -/
def dl (l : KV) : List (L2.Key × V) := l.map fun p => (Sum.inl p.1, V.int p.2)
theorem valV_dl (t : Int) : ∀ l : KV, valV (dl l) (Sum.inl t) = (l.find? fun p => decide (p.1 = t)).map fun p => V.int p.2
  | [] => rfl
  | p :: r => by
    by_cases e : p.1 = t
    · rw [List.find?_cons_of_pos (by simpa using e)]
      exact valV_pos (p := (Sum.inl p.1, V.int p.2)) (congrArg Sum.inl e)
    · rw [List.find?_cons_of_neg (by simpa using e), ← valV_dl t r]
      exact valV_neg (p := (Sum.inl p.1, V.int p.2)) fun z => e (Sum.inl.inj z)
theorem valV_has {t : Int} {l : KV} : (valV (dl l) (Sum.inl t)).isSome = true ↔ has l t := by
  rw [valV_dl, Option.isSome_map, List.find?_isSome]
  constructor
  · rintro ⟨p, hp, e⟩
    exact ⟨p.2, by rw [← of_decide_eq_true e]; exact hp⟩
  · rintro ⟨s, hs⟩
    exact ⟨_, hs, decide_eq_true rfl⟩
theorem valV_none {t : Int} {l : KV} (h : ¬ has l t) : valV (dl l) (Sum.inl t) = none := by
  rcases z : valV (dl l) (Sum.inl t) with _ | v
  · rfl
  · exact absurd (valV_has.mp (by rw [z]; rfl)) h
theorem valV_look (t : Int) (l : KV) : (valV (dl l) (Sum.inl t)).getD (.int (-1)) = .int (look l t) := by
  rw [valV_dl]
  unfold look
  cases l.find? fun p => decide (p.1 = t) <;> rfl
theorem put_dl {t s : Int} {l : KV} (h : ¬ has l t) : putK (dl l) (Sum.inl t) (.int s) = dl (l ++ [(t, s)]) := by
  rw [putK_new _ (valV_none h)]
  unfold dl
  rw [List.map_append]
  rfl
theorem dl_len (l : KV) : (dl l).length = l.length := List.length_map _
section
variable {P : Program} {w : World} {K : PySem.W.Frag} {mg : Str → Option Value} {base : Heap}
/-! ### _is_bars -/
def spIsBars (K : PySem.W.Frag) : Sp := fun vs H Q _ => ∃ (a : Addr) (ds : List Int), vs = [.ref a] ∧ SqT K H a (ds.map V.int) ∧ Given ds ∧ ∀ H', Same H H' → Q (.bl true) H'
abbrev barsNm : List Str := ["thing", "distance", "near", "far"]
theorem all_true {n : Nat} : (List.replicate n true).all id = true := by rw [List.all_eq_true]; intro y hy; exact (List.mem_replicate.mp hy).2
theorem ok_is_bars {f f1 : Addr} {fd fd1 : FuncData} {k : Nat} (F : Fun K "_is_bars" "_is_bars" s_is_bars f fd) (nM : ∃ t, mg "MOST_BARS" = some (.int 8 t)) (nF : ∃ t, mg "FARTHEST_BAR" = some (.int 20 t))
    (G1 : FnOk P w K mg base CX0 k f1 fd1 ["thing", "least", "most"] spIsBetween) (kp1 : PySem.W.keepIn K (.ref f1) = true) (b1 : Binds K fd1 ["thing", "least", "most"] []) (g1 : mg "is_between" = some (.ref f1))
    (m1 : mg "isinstance" = none) (m2 : mg "tuple" = none) (m3 : mg "len" = none) (m4 : mg "all" = none) (m5 : mg "zip" = none) :
    FnOk P w K mg base CX0 (k + 1) f fd ["thing"] (spIsBars K) := by
  obtain ⟨t1, n1⟩ := nM
  obtain ⟨t2, n2⟩ := nF
  refine F.ok sc_is_bars (fun vs H Q E h => ?_) (fun cdv A outer s H vs Q E hr h => ?_)
  · obtain ⟨a, ds, rfl, _⟩ := h; rfl
  · obtain ⟨a, ds, rfl, hA, g, q⟩ := h
    refine ⟨_, pss_cons (ps_if (PW.pt (pw_or (pt_not (pt_val (pe_callB call_isi (by rfl) m1 (by decide +kernel) (pa_cons (pv 0) (pa_cons (pe_bltn (v := .ty "tuple") (by rfl) m2 (by decide +kernel) rfl) pa_nil)))))
          (pw_or1 (pt_cmpR op_gt (pe_callB call_len_seq (by rfl) m3 PySem.boot_len (pa_cons (pv 0) pa_nil)) (pe_glob (v := .int 8) (by rfl) n1 ⟨_, rfl⟩) (nomark _)))))
        (pss_one (ps_ret pe_bl)) pss_nil)
      (pss_cons (ps_if (pt_not (pt_val (pe_callB (cr_all rfl) (by rfl) m4 (by decide +kernel) (pa_cons
          (pe_lc (own := [("distance", 1)]) (g := gName 1) (tt := tYes) rfl sc_is_bars.nd (pi_tup (pv 0)) (blkOk_by (N := barsNm) (sc := defScope s_is_bars) (by decide +kernel))
            (fun _ _ _ _ _ => pg_name (i := 1) sc_is_bars.nd rfl (Or.inl rfl)) (fun _ _ _ _ _ => pts_nil)
            (fun _ _ _ _ _ => pe_call G1 hr (by rfl) g1 kp1 b1 .nil pass0 (pa_cons (pv 1) (pa_cons pe_int (pa_cons (pe_glob (v := .int 20) (by rfl) n2 ⟨_, rfl⟩) pa_nil))))) pa_nil))))
        (pss_one (ps_ret pe_bl)) pss_nil)
      (pss_one (ps_ret (pe_callB (cr_all rfl) (by rfl) m4 (by decide +kernel) (pa_cons
          (pe_lc (own := [("near", 2), ("far", 3)]) (g := gTup K 2 (gCons (gName 2) (gCons (gName 3) gNil))) (tt := tYes) rfl sc_is_bars.nd (RZ.pi_zipA (by rfl) m5 (pa_cons (pv 0) (pa_cons (pe_slice sl_tupS (pv 0) (po_some pe_int) po_none) pa_nil)))
            (blkOk_by (N := barsNm) (sc := defScope s_is_bars) (by decide +kernel))
            (fun _ _ _ _ _ => pg_tup rfl (pgs_cons (pg_name (i := 2) sc_is_bars.nd rfl (Or.inl rfl)) (pgs_cons (pg_name (i := 3) sc_is_bars.nd rfl (Or.inl rfl)) pgs_nil)))
            (fun _ _ _ _ _ => pts_nil)
            (fun _ _ _ _ _ => pe_cmpR op_lt (pv 2) (pv 3) (nomark _))) pa_nil))))), ?_⟩
    have lm : (ds.map V.int).length = ds.length := List.length_map _
    have few := g.few
    refine ⟨.ref a, rfl, .ref a, .ty "tuple", _, _, true, rfl, .ty _, tyT hA, kit_ty (by decide +kernel), true, rfl, iteF ?_⟩
    refine ⟨.ref a, rfl, a, _, rfl, .inr hA, _, 8, rfl, rfl, _, rfl, ite2 (fun e => ?_) (fun _ => ?_)⟩
    · have := of_decide_eq_true e
      rw [lm] at this
      omega
    refine ⟨.ref a, rfl, a, rfl, ⟨_, hA⟩, fun D hD => ?_⟩
    refine lc_tup (xs := ds.map V.int) (fun i H' => Same H H' ∧ H' D = some (.lst ((List.replicate i true).map V.bl))) ⟨same_new hD, upd_same⟩ (fun i H' _ h => Same.tup h.1 hA) (fun i y H' hy h => ?_) (fun H1 h => ?_)
    · rw [List.getElem?_map] at hy
      obtain ⟨z, hz, rfl⟩ := Option.map_eq_some_iff.mp hy
      have hi := (List.getElem?_eq_some_iff.mp hz).1
      obtain ⟨z1, z2⟩ := g.items z (List.mem_of_getElem? hz)
      refine ⟨rfl, .int z, rfl, z, 1, 20, rfl, ?_⟩
      rw [decide_eq_true (show (1 : Int) ≤ z by omega), decide_eq_true (show z ≤ 20 by omega)]
      refine ⟨_, h.2, ?_, fun y o e => ?_, ?_⟩
      · rw [List.length_map, List.length_replicate]
        exact small1000 (by omega)
      · rw [upd_ne (ne_of_none e hD)]
        exact h.1 _ _ e
      · rw [upd_same, List.replicate_succ', List.map_append]
        rfl
    · refine ⟨D, _, rfl, .of h.2, true, congrArg V.bl all_true, iteF ?_⟩
      have e1 := h.1
      have hcut : cutV (ds.map V.int) (some (1 : Int)) none = (ds.drop 1).map V.int := by
        rw [show (1 : Int) = ((1 : Nat) : Int) from rfl, cut_from, List.map_drop]
      refine ⟨.ref a, rfl, .ref a, rfl, 1, rfl, a, _, rfl, Same.tup e1 hA, fun H2 u e2 hu => ?_⟩
      rw [hcut] at hu
      refine ⟨a, u, _, _, rfl, .inr ⟨Same.tup (e1.trans e2) hA, hu, fun D2 hD2 => ?_⟩⟩
      refine lc_it (walk_zipT (xs := ds.map V.int) (ys := (ds.drop 1).map V.int) (n := ds.length - 1) (by rw [List.length_map, List.length_map, List.length_drop]; omega))
        (fun i H' => Same H2 H' ∧ H' D2 = some (.lst ((List.replicate i true).map V.bl))) ⟨same_new hD2, upd_same⟩ (fun i H' _ h => ⟨Same.tup ((e1.trans e2).trans h.1) hA, Same.tup h.1 hu⟩) (fun i x H' H'' hi h hY => ?_) (fun H' h => ?_)
      · obtain ⟨T, x1, x2, rfl, nT, rfl, f1, f2⟩ := hY
        dsimp only at f1 f2
        rw [List.getElem?_map] at f1 f2
        obtain ⟨z1, hz1, rfl⟩ := Option.map_eq_some_iff.mp f1
        obtain ⟨z2, hz2, rfl⟩ := Option.map_eq_some_iff.mp f2
        rw [List.getElem?_drop] at hz2
        have lt := g.lt (show i < 1 + i by omega) hz1 hz2
        refine ⟨T, _, rfl, .of upd_same, rfl, _, _, rfl, _, _, rfl, rfl, rfl, .int z1, rfl, .int z2, rfl, z1, z2, rfl, rfl, ?_⟩
        dsimp only
        rw [decide_eq_true lt]
        have nTD : D2 ≠ T := ne_of_none h.2 nT
        refine ⟨_, by rw [upd_ne nTD]; exact h.2, ?_, fun y o e => ?_, ?_⟩
        · rw [List.length_map, List.length_replicate]
          exact small1000 (by omega)
        · have e' := h.1 _ _ e
          rw [upd_ne (ne_of_none e hD2), upd_ne (ne_of_none e' nT)]
          exact e'
        · rw [upd_same, List.replicate_succ', List.map_append]
          rfl
      · refine ⟨D2, _, rfl, .of h.2, ?_⟩
        rw [all_true]
        exact q H' ((e1.trans e2).trans h.1)
/-! ### _first_free -/
def spFree : Sp := fun vs H Q _ => ∃ (d : Addr) (l : KV), vs = [.ref d] ∧ H d = some (.dK (dl l)) ∧ ∀ f : Nat, Free l f → Q (.int f) H
theorem ok_first_free {f : Addr} {fd : FuncData} {k : Nat} (F : Fun K "_first_free" "_first_free" s_first_free f fd) : FnOk P w K mg base CX0 (k + 1) f fd ["stations"] spFree := by
  refine F.ok sc_first_free (fun vs H Q E h => ?_) (fun cdv A outer s H vs Q E hr h => ?_)
  · obtain ⟨d, l, rfl, _⟩ := h; rfl
  · obtain ⟨d, l, rfl, hd, q⟩ := h
    have hu2 := hu_of hr
    refine ⟨_, pss_cons (ps_set (i := 1) sc_first_free.nd rfl (.inl rfl) pe_int)
      (pss_cons (ps_while PassesOwn.never (pt_cmp (pc_din hu2 (pv 1) (pv 0)))
        (pss_one (ps_aug (i := 1) sc_first_free.nd rfl (.inl rfl) pe_int ip_add)))
      (pss_one (ps_ret (pv 1)))), ?_⟩
    refine ⟨fun m σ H' => H' = H ∧ ∃ t : Nat, σ = [some (.ref d), some (.int t)] ∧ m = l.length + 1 - t ∧ ∀ u : Nat, u < t → has l (u : Int), ⟨_, rfl, 0, rfl, rfl, fun u hu => absurd hu (by omega)⟩, ?_⟩
    rintro m σ H' ⟨rfl, t, rfl, rfl, lo⟩
    refine ⟨.int t, rfl, .ref d, rfl, d, _, rfl, DGet.k (k := Sum.inl (t : Int)) hd, _, rfl, ite2 (fun e => ?_) (fun e => ?_)⟩
    · have ht := valV_has.mp e
      refine ⟨fun σ' H'' => H'' = H' ∧ σ' = [some (.ref d), some (.int ((t + 1 : Nat) : Int))], ?_, ?_⟩
      · rintro σ' H'' ⟨rfl, rfl⟩
        have lo' : ∀ u : Nat, u < t + 1 → has l (u : Int) := fun u hu => by
          rcases Nat.lt_or_ge u t with z | z
          · exact lo u z
          · rw [show u = t by omega]; exact ht
        have := below_len lo'
        exact ⟨_, by omega, rfl, t + 1, rfl, rfl, lo'⟩
      · exact ⟨_, rfl, t, 1, rfl, rfl, rfl, rfl⟩
    · exact ⟨_, rfl, q t ⟨lo, fun z => e (valV_has.mpr z)⟩⟩
end
end Sg

set_option Elab.async false
set_option linter.all false
set_option maxRecDepth 100000
set_option maxHeartbeats 4000000
namespace Sg
open PySem PySem.Spec PyProof.Rows L2 StX
/-- from all steps to what is built -/
theorem done_of {ds : List Int} (g : Given ds) {l : KV} {F D : Int} (h : Step ds ds.length l F D) (hp : 0 < ds.length) {M : Nat} (hm : has l (M : Int)) (hle : ∀ p ∈ l, p.1 ≤ M) : Done ds l M := by
  have few := g.few
  have f2 := h.f2
  have d2 := h.d2
  obtain ⟨s, hs⟩ := hm
  have m1 := (h.up _ hs).2
  simp only at m1
  have top := h.top hp
  obtain ⟨s', hs'⟩ := top
  have m2 := hle _ hs'
  simp only at m2
  have z : has l 0 := h.lo 0 (by decide) (h.f3 hp)
  refine ⟨h.nd, z, ⟨s, hs⟩, fun p hp => ⟨(h.up p hp).1, hle p hp⟩, by omega, fun p hp => ?_, fun p hp q hq e lt => ?_, fun x hx => ?_⟩
  · have := h.st p hp
    omega
  · exact List.mem_of_getElem? (h.two p hp q hq e lt)
  · obtain ⟨j, hj⟩ := List.mem_iff_getElem?.mp hx
    obtain ⟨f, a1, a2⟩ := h.all j x (List.getElem?_eq_some_iff.mp hj).1 hj
    exact ⟨f, _, a1, a2⟩
/-! ### what is built, as a function -/
theorem Free.uniq {l : KV} {f g : Nat} (a : Free l f) (b : Free l g) : f = g := by
  rcases Nat.lt_trichotomy f g with h | h | h
  · exact absurd (b.lo f h) a.no
  · exact h
  · exact absurd (a.lo g h) b.no
open Classical in
noncomputable def firstF (l : KV) : Nat := if h : ∃ f, Free l f then h.choose else 0
theorem firstF_eq {l : KV} {f : Nat} (h : Free l f) : firstF l = f := by
  unfold firstF
  have hx : ∃ f, Free l f := ⟨f, h⟩
  rw [dif_pos hx]
  exact hx.choose_spec.uniq h
noncomputable def buildTo (ds : List Int) : Nat → KV
  | 0 => []
  | i + 1 => buildTo ds i ++ [((firstF (buildTo ds i) : Int), (i : Int)), ((firstF (buildTo ds i) : Int) + ds.getD i 0, (i : Int))]
noncomputable def lastL (ds : List Int) : KV := if ds = [] then [(0, 0)] else buildTo ds ds.length
open Classical in
noncomputable def topOf (l : KV) : Nat := if h : ∃ M : Nat, has l (M : Int) ∧ ∀ p ∈ l, p.1 ≤ M then h.choose else 0
theorem topOf_eq {l : KV} {M : Nat} (h : has l (M : Int)) (hle : ∀ p ∈ l, p.1 ≤ M) : topOf l = M := by
  unfold topOf
  have hx : ∃ M : Nat, has l (M : Int) ∧ ∀ p ∈ l, p.1 ≤ M := ⟨M, h, hle⟩
  rw [dif_pos hx]
  obtain ⟨⟨s, a⟩, b⟩ := hx.choose_spec
  obtain ⟨s', c⟩ := h
  have h1 := b _ c
  have h2 := hle _ a
  simp only at h1 h2
  omega
noncomputable def withW (ds : List Int) : List Int := workOf (lastL ds) (topOf (lastL ds) + 1)
theorem done_none {ds : List Int} (h : ds = []) : Done ds [(0, 0)] 0 := by
  subst h
  refine ⟨by decide, ⟨0, by decide⟩, ⟨0, by decide⟩, by decide, by decide, by decide, fun p hp q hq _ lt => ?_, fun x hx => nomatch hx⟩
  rw [List.mem_singleton.mp hp, List.mem_singleton.mp hq] at lt
  exact absurd lt (by decide)
theorem last_done {ds : List Int} (g : Given ds) {F D : Int} (h : Step ds ds.length (buildTo ds ds.length) F D) {M : Nat} (hm : has (lastL ds) (M : Int)) (hle : ∀ p ∈ lastL ds, p.1 ≤ M) : Done ds (lastL ds) M := by
  by_cases hds : ds = []
  · have e : lastL ds = [(0, 0)] := by unfold lastL; rw [if_pos hds]
    rw [e] at hm hle ⊢
    have hM : M = 0 := by
      obtain ⟨s, hs⟩ := hm
      have := (Prod.mk.inj (List.mem_singleton.mp hs)).1
      omega
    subst hM
    exact done_none hds
  · have e : lastL ds = buildTo ds ds.length := by unfold lastL; rw [if_neg hds]
    rw [e] at hm hle ⊢
    exact done_of g h (List.length_pos_iff.mpr hds) hm hle
section
variable {P : Program} {w : World} {K : PySem.W.Frag} {mg : Str → Option Value} {base : Heap}
theorem upd_free {H : Hp} {p q : Addr} {o o' u : HO} (hp : H p = some u) (h : H q = some o) (n : q ≠ p) : (upd H p o') q = some o := by rw [upd_ne n]; exact h
/-! ### work_with -/
def spWith (K : PySem.W.Frag) : Sp := fun vs H Q _ => ∃ (a : Addr) (ds : List Int), vs = [.ref a] ∧ SqT K H a (ds.map V.int) ∧ Given ds ∧
  ∀ H' t, Same H H' → H t = none → H' t = some (.tup ((withW ds).map V.int)) → IsWork (withW ds) → nI (barsN (withW ds) (withW ds)) = ds → Q (.ref t) H'
abbrev withN : List Str := ["distances", "stations", "station", "distance", "first", "tick"]
theorem ok_work_with {f f1 f2 : Addr} {fd fd1 fd2 : FuncData} {k : Nat} (F : Fun K "work_with" "work_with" s_work_with f fd) (nN : ∃ t, mg "NOWHERE" = some (.int (-1) t))
    (G1 : FnOk P w K mg base CX0 k f1 fd1 ["thing"] (spIsBars K)) (kp1 : PySem.W.keepIn K (.ref f1) = true) (b1 : Binds K fd1 ["thing"] []) (g1 : mg "_is_bars" = some (.ref f1))
    (G2 : FnOk P w K mg base CX0 k f2 fd2 ["stations"] spFree) (kp2 : PySem.W.keepIn K (.ref f2) = true) (b2 : Binds K fd2 ["stations"] []) (g2 : mg "_first_free" = some (.ref f2))
    (m1 : mg "enumerate" = none) (m2 : mg "tuple" = none) (m3 : mg "range" = none) (m4 : mg "max" = none) (m5 : mg "list" = none) :
    FnOk P w K mg base CX0 (k + 1) f fd ["distances"] (spWith K) := by
  obtain ⟨t1, n1⟩ := nN
  refine F.ok sc_work_with (fun vs H Q E h => ?_) (fun cdv A outer s H vs Q E hr h => ?_)
  · obtain ⟨a, ds, rfl, _⟩ := h; rfl
  · obtain ⟨a, ds, rfl, hA, g, q⟩ := h
    have hu2 := hu_of hr
    refine ⟨_, pss_cons (ps_if (pt_not (pt_val (pe_call G1 hr (by rfl) g1 kp1 b1 .nil pass0 (pa_cons (pv 0) pa_nil)))) (pss_one ps_never) pss_nil)
      (pss_cons (ps_set (i := 1) sc_work_with.nd rfl (.inr rfl) pe_dnewK)
      (pss_cons (ps_for PassesOwn.never rfl (pi_enumT (by rfl) m1 (pa_cons (pv 0) pa_nil))
          (pg_tup rfl (pgs_cons (pg_name (i := 2) sc_work_with.nd rfl (.inl rfl)) (pgs_cons (pg_name (i := 3) sc_work_with.nd rfl (.inl rfl)) pgs_nil)))
        (pss_cons (ps_set (i := 4) sc_work_with.nd rfl (.inl rfl) (pe_call G2 hr (by rfl) g2 kp2 b2 .nil pass0 (pa_cons (pv 1) pa_nil)))
        (pss_cons (ps_dput hu2 (pv 1) (pv 4) (pv 2) rfl)
        (pss_one (ps_dput hu2 (pv 1) (pe_op op_add (pv 4) (pv 3)) (pv 2) rfl)))))
      (pss_cons (ps_expr (pe_dsetd (pv 1) pe_int pe_int ⟨by rfl, by rfl, by rfl, by rfl⟩))
      (pss_one (ps_ret (pe_callTy (call_tuple_ofK (K := K) rfl) (by rfl) m2 (by decide +kernel) (pa_cons
        (pe_lc (own := [("tick", 5)]) (g := gName 5) (tt := tYes) rfl sc_work_with.nd (pi_range1 (by rfl) m3 (pa_cons (pe_op op_add (pe_callB (cr_max rfl) (by rfl) m4 (by decide +kernel) (pa_cons (pe_callTy (call_list_dK rfl) (by rfl) m5 (by decide +kernel) (pa_cons (pv 1) pa_nil)) pa_nil)) pe_int) pa_nil))
          (blkOk_by (N := withN) (sc := defScope s_work_with) (by decide +kernel))
          (fun _ _ _ _ _ => pg_name (i := 5) sc_work_with.nd rfl (Or.inl rfl)) (fun _ _ _ _ _ => pts_nil)
          (fun _ _ _ _ _ => pe_dget2 hu2 (pv 1) (pv 5) (pe_glob (v := .int (-1)) (by rfl) n1 ⟨_, rfl⟩) ⟨by rfl, by rfl, by rfl, by rfl⟩)) pa_nil))))))), ?_⟩
    have lm : (ds.map V.int).length = ds.length := List.length_map _
    have few := g.few
    refine ⟨.ref a, rfl, a, ds, rfl, hA, g, fun H1 e1 => ⟨true, rfl, iteF ?_⟩⟩
    intro d nd
    have nd0 : H d = none := freeS e1 nd
    have e2 : Same H (upd H1 d (.dK [])) := e1.trans (same_new nd)
    have hd2 : (upd H1 d (.dK [])) d = some (.dK (dl [])) := upd_same
    generalize upd H1 d (.dK []) = H2 at e2 hd2 ⊢
    refine ⟨.ref a, rfl, a, _, rfl, Same.tup e2 hA, ?_⟩
    refine for_it (walk_enumT (xs := ds.map V.int)) (fun i σ H' => ∃ v2 v3 v4 v5, σ = [some (.ref a), some (.ref d), v2, v3, v4, v5] ∧ Same H H' ∧ ∃ F D, H' d = some (.dK (dl (buildTo ds i))) ∧ Step ds i (buildTo ds i) F D)
      ⟨_, _, _, _, rfl, e2, -1, 0, hd2, .zero g⟩ (fun i σ H' _ h => ?_) (fun i y σ H' H'' hi h hY => ?_) (fun σ H' h => ?_)
    · obtain ⟨_, _, _, _, _, e, _⟩ := h
      exact Same.tup e hA
    · obtain ⟨v2, v3, v4, v5, rfl, e, F, D, hd3, hS⟩ := h
      have ebt : buildTo ds (i + 1) = buildTo ds i ++ [((firstF (buildTo ds i) : Int), (i : Int)), ((firstF (buildTo ds i) : Int) + ds.getD i 0, (i : Int))] := rfl
      rw [ebt]
      clear ebt
      generalize hbl : buildTo ds i = l at hd3 hS ⊢
      obtain ⟨T, x1, x2, rfl, nT, rfl, f1', f2'⟩ := hY
      dsimp only at f1' f2'
      cases f1'
      rw [List.getElem?_map] at f2'
      obtain ⟨x, hx, rfl⟩ := Option.map_eq_some_iff.mp f2'
      have eT : Same H' (upd H' T (.tup [V.int (i : Nat), .int x])) := same_new nT
      refine ⟨T, _, rfl, .of upd_same, rfl, _, _, rfl, _, _, rfl, rfl, ?_⟩
      have e3 := e.trans eT
      have hd4 := eT _ _ hd3
      generalize upd H' T (.tup [V.int (i : Nat), .int x]) = H3 at e3 hd4 ⊢
      rw [lm] at hi
      have hl := hS.len
      have big : ∀ m : KV, m.length ≤ 17 → (dl m).length < sizeLine := fun m hm => by rw [dl_len]; exact small1000 (by omega)
      refine ⟨.ref d, rfl, d, l, rfl, hd4, fun fr hfr => ?_⟩
      have hN := hS.next g hfr hx
      rw [firstF_eq hfr, show ds.getD i 0 = x from by rw [List.getD_eq_getElem?_getD, hx]; rfl]
      have nd2 := hN.nd
      have nf : ¬ has (l ++ [((fr : Int), (i : Int))]) ((fr : Int) + x) := fun z => by
        rw [List.map_append, List.map_cons, List.map_cons] at nd2
        rw [has_iff, List.map_append] at z
        have h2 := (List.nodup_append.mp nd2)
        rcases List.mem_append.mp z with z | z
        · exact h2.2.2 _ z _ (List.mem_cons_of_mem _ List.mem_cons_self) rfl
        · have h3 := (List.nodup_cons.mp h2.2.1).1
          have e := List.mem_singleton.mp z
          exact h3 (by rw [show ((fr : Int), (i : Int)).fst = (fr : Int) from rfl]; exact List.mem_cons.mpr (.inl (by simpa using e.symm)))
      refine ⟨.int (i : Nat), rfl, .ref d, rfl, .int (fr : Nat), rfl, d, _, rfl, DPut.k (k := Sum.inl (fr : Int)) hd4 (big l (by omega)), ?_⟩
      rw [put_dl hfr.no]
      refine ⟨.int (i : Nat), rfl, .ref d, rfl, .int (fr : Nat), rfl, .int x, rfl, (fr : Nat), x, rfl, rfl, d, _, rfl, DPut.k (k := Sum.inl ((fr : Int) + x)) upd_same (big _ (by rw [List.length_append]; show l.length + 1 ≤ 17; omega)), ?_⟩
      rw [put_dl nf, List.append_assoc]
      refine ⟨_, _, _, _, rfl, fun b o h => ?_, _, _, upd_same, hN⟩
      have n1 : b ≠ d := ne_of_none h nd0
      rw [upd_ne n1, upd_ne n1]
      exact e3 _ _ h
    · obtain ⟨v2, v3, v4, v5, rfl, e, F, D, hd3, hS⟩ := h
      rw [lm] at hS hd3
      have hl := hS.len
      have big : (dl (buildTo ds ds.length)).length < sizeLine := by rw [dl_len]; exact small1000 (by omega)
      refine ⟨.ref d, rfl, d, rfl, .inl ⟨_, .inl hd3⟩, dl (buildTo ds ds.length), Sum.inl 0, hd3, rfl, big, fun v hv => ?a, fun hn => ?b⟩
      case' a =>
        have hds : ds ≠ [] := fun z => by
          subst z
          exact nomatch hv
        have e4 := e
        have hd4 : H' d = some (.dK (dl (lastL ds))) := by unfold lastL; rw [if_neg hds]; exact hd3
        generalize H' = H5 at e4 hd4 ⊢
      case' b =>
        have hds : ds = [] := by
          by_cases z : ds = []
          · exact z
          · have hp := List.length_pos_iff.mpr z
            have h0 := valV_has.mpr (hS.lo 0 (by decide) (hS.f3 hp))
            rw [hn] at h0
            exact nomatch h0
        have e4 : Same H (L2.upd H' d (.dK (putK (dl (buildTo ds ds.length)) (Sum.inl 0) (.int 0)))) := fun b o h => by
          rw [upd_ne (ne_of_none h nd0)]
          exact e _ _ h
        have hd4 : (L2.upd H' d (.dK (putK (dl (buildTo ds ds.length)) (Sum.inl 0) (.int 0)))) d = some (.dK (dl (lastL ds))) := by
          rw [upd_same]
          subst hds
          rfl
        generalize L2.upd H' d (.dK (putK (dl (buildTo ds ds.length)) (Sum.inl 0) (.int 0))) = H5 at e4 hd4 ⊢
      all_goals
        refine ⟨.ref d, rfl, d, _, rfl, hd4, fun kl nkl => ?_⟩
        have ekl := same_new (o := .lst ((dl (lastL ds)).map fun kv => kV kv.1)) nkl
        have hkl : (L2.upd H5 kl (.lst ((dl (lastL ds)).map fun kv => kV kv.1))) kl = some (.lst ((dl (lastL ds)).map fun kv => kV kv.1)) := upd_same
        have hd6 := ekl _ _ hd4
        have e6 := e4.trans ekl
        have hks : ((dl (lastL ds)).map fun kv => kV kv.1) = ((lastL ds).map (·.1)).map V.int := by unfold dl; rw [List.map_map, List.map_map]; rfl
        rw [hks] at hkl hd6 e6 ⊢
        generalize L2.upd H5 kl (.lst (((lastL ds).map (·.1)).map V.int)) = H6 at hkl hd6 e6 ⊢
        have pos : 0 < (lastL ds).length := by
          by_cases z : ds = []
          · unfold lastL; rw [if_pos z]; decide
          · have := List.length_pos_iff.mpr z
            unfold lastL; rw [if_neg z, hl]; omega
        refine ⟨kl, _, rfl, .of hkl, by rw [List.length_map]; exact pos, fun m hm hle => ?_⟩
        have up0 : ∀ p ∈ lastL ds, 0 ≤ p.1 := fun p hp => by
          by_cases z : ds = []
          · unfold lastL at hp; rw [if_pos z] at hp; rw [List.mem_singleton.mp hp]; decide
          · unfold lastL at hp; rw [if_neg z] at hp; exact (hS.up p hp).1
        have hm' := has_iff.mpr hm
        obtain ⟨M, rfl⟩ : ∃ M : Nat, m = M := by
          obtain ⟨s0, hs0⟩ := hm'
          have := up0 _ hs0
          exact ⟨m.toNat, by simp only at this; omega⟩
        have hle' : ∀ p ∈ lastL ds, p.1 ≤ M := fun p hp => hle _ (List.mem_map.mpr ⟨p, hp, rfl⟩)
        have done := last_done g hS hm' hle'
        have hM := topOf_eq hm' hle'
        have m59 := done.most
        have hW : withW ds = workOf (lastL ds) (M + 1) := by unfold withW; rw [hM]
        refine ⟨(M : Nat), 1, rfl, rfl, ((M : Nat) : Int) + 1, rfl, by omega, by omega, fun C hC => ?_⟩
        rw [show (((M : Nat) : Int) + 1).toNat = M + 1 by omega]
        have nCd : d ≠ C := ne_of_none hd6 hC
        refine lc_range (lo := 0) (n := M + 1) (fun i H' => Same H6 H' ∧ H' C = some (.lst ((workOf (lastL ds) i).map V.int))) ⟨same_new hC, upd_same⟩ (fun i H' hi h => ?_) (fun H' h => ?_)
        · obtain ⟨e7, hC7⟩ := h
          have hd7 := e7 _ _ hd6
          refine ⟨rfl, .ref d, rfl, d, rfl, .inl ⟨_, .inl hd7⟩, .int (0 + (i : Nat)), rfl, _, DGet.k (k := Sum.inl (0 + (i : Int))) hd7, ?_⟩
          rw [valV_look]
          refine ⟨_, hC7, ?_, fun b o h => ?_, ?_⟩
          · unfold workOf
            rw [List.length_map, List.length_map, List.length_range]
            exact small1000 (by omega)
          · rw [upd_ne (ne_of_none h hC)]
            exact e7 _ _ h
          · rw [upd_same]
            unfold workOf
            rw [List.range_succ, List.map_append, List.map_append, Int.zero_add]
            rfl
        · obtain ⟨e7, hC7⟩ := h
          refine ⟨C, _, rfl, .inl ⟨.of hC7, fun t nt => q _ t ((e6.trans e7).trans (same_new nt)) (freeS (e6.trans e7) nt) (by rw [hW]; exact upd_same) (by rw [hW]; exact done.work) (by rw [hW]; exact done.bars g)⟩⟩
end
end Sg

set_option Elab.async false
set_option linter.all false
set_option maxRecDepth 100000
set_option maxHeartbeats 4000000
namespace Sg
open PySem PySem.Spec PyProof.Rows L2 StX
section
variable {P : Program} {w : World} {K : PySem.W.Frag} {mg : Str → Option Value} {base : Heap}
/-! ### _law_meet -/
def spMeet (K : PySem.W.Frag) : Sp := fun vs H Q _ => ∃ (a b : Addr) (one other : List Int) (d : Nat), vs = [.ref a, .ref b, .int d] ∧ SqT K H a (one.map V.int) ∧ SqT K H b (other.map V.int) ∧ ∀ H', Same H H' → Q (.bl (clashB one other d)) H'
theorem ok_meet {f : Addr} {fd : FuncData} {k : Nat} (F : Fun K "_law_meet" "_law_meet" s_l_meet f fd) (m1 : mg "enumerate" = none) (m2 : mg "len" = none) :
    FnOk P w K mg base CX0 (k + 1) f fd ["_law_one", "_law_other", "_law_by"] (spMeet K) := by
  refine F.ok sc_l_meet (fun vs H Q E h => ?_) (fun cdv A outer s H vs Q E hr h => ?_)
  · obtain ⟨a, b, one, other, d, rfl, _⟩ := h; rfl
  · obtain ⟨a, b, one, other, d, rfl, hA, hB, q⟩ := h
    refine ⟨_, pss_cons (ps_for PassesOwn.never rfl (pi_enumT (by rfl) m1 (pa_cons (pv 0) pa_nil))
          (pg_tup rfl (pgs_cons (pg_name (i := 3) sc_l_meet.nd rfl (.inl rfl)) (pgs_cons (pg_name (i := 4) sc_l_meet.nd rfl (.inl rfl)) pgs_nil)))
        (pss_one (ps_if (PW.pt (pw_and (pt_cmpR op_ne (pv 4) (pe_un un_neg pe_int) (nomark _)) (pw_and (pt_chain op_le op_lt pe_int (pe_op op_sub (pv 3) (pv 2)) (pe_callB call_len_seq (by rfl) m2 PySem.boot_len (pa_cons (pv 1) pa_nil)))
            (pw_and1 (pt_cmpR op_eq (pe_ix ix_tup (pv 1) (pe_op op_sub (pv 3) (pv 2)) (fun _ _ => rfl)) (pv 4) (nomark _))))))
          (pss_one (ps_ret pe_bl)) pss_nil)))
      (pss_one (ps_ret pe_bl)), ?_⟩
    have l1 : (one.map V.int).length = one.length := List.length_map _
    have l2 : (other.map V.int).length = other.length := List.length_map _
    refine ⟨.ref a, rfl, a, _, rfl, hA, ?_⟩
    refine for_it (walk_enumT (xs := one.map V.int)) (fun i σ H' => ∃ v3 v4, σ = [some (.ref a), some (.ref b), some (.int (d : Nat)), v3, v4] ∧ Same H H' ∧ ∀ j x, d + j < i → one[d + j]? = some x → other[j]? = some x → x = -1)
      ⟨_, _, rfl, fun _ _ z => z, fun j x h => absurd h (by omega)⟩ (fun i σ H' _ h => ?_) (fun i y σ H' H'' hi h hY => ?_) (fun σ H' h => ?_)
    · obtain ⟨_, _, _, e, _⟩ := h
      exact Same.tup e hA
    · obtain ⟨v3, v4, rfl, e, no⟩ := h
      obtain ⟨T, x1, x2, rfl, nT, rfl, f1, f2⟩ := hY
      dsimp only at f1 f2
      cases f1
      rw [List.getElem?_map] at f2
      obtain ⟨x, hx, rfl⟩ := Option.map_eq_some_iff.mp f2
      have eT : Same H' (upd H' T (.tup [V.int (i : Nat), .int x])) := same_new nT
      refine ⟨T, _, rfl, .of upd_same, rfl, _, _, rfl, _, _, rfl, rfl, ?_⟩
      have e2 := e.trans eT
      generalize upd H' T (.tup [V.int (i : Nat), .int x]) = H2 at e2 ⊢
      have hB2 := Same.tup e2 hB
      -- no hit in this tick
      have stay : (∀ j, i = d + j → other[j]? = some x → x = -1) → ∀ j y, d + j < i + 1 → one[d + j]? = some y → other[j]? = some y → y = -1 := fun g j y hj h1 h2 => by
        rcases Nat.lt_or_ge (d + j) i with z | z
        · exact no j y z h1 h2
        · have e : i = d + j := by omega
          subst e
          rw [hx] at h1
          obtain rfl := Option.some.inj h1
          exact g j rfl h2
      refine ⟨.int x, rfl, 1, rfl, rfl, ?_⟩
      by_cases hx1 : x = -1
      · rw [show (!decide (V.int x = V.int (-1))) = false from by rw [hx1, decide_eq_true rfl]; rfl]
        exact ⟨_, rfl, iteF ⟨_, _, rfl, e2, stay fun _ _ _ => hx1⟩⟩
      rw [show (!decide (V.int x = V.int (-1))) = true from by rw [decide_eq_false fun y => hx1 (V.int.inj y)]; rfl]
      refine ⟨_, rfl, iteT ?_⟩
      refine ⟨.int (i : Nat), rfl, .int (d : Nat), rfl, (i : Nat), (d : Nat), rfl, rfl, 0, (i : Int) - (d : Nat), rfl, rfl, _, rfl, ite2 (fun e3 => ?_) (fun e3 => ?_)⟩
      · have h0 : 0 ≤ (i : Int) - (d : Nat) := of_decide_eq_true e3
        obtain ⟨j, hj⟩ : ∃ j : Nat, i = d + j := ⟨i - d, by omega⟩
        have ej : (i : Int) - (d : Nat) = (j : Nat) := by omega
        refine ⟨.ref b, rfl, b, _, rfl, .inr hB2, _, _, rfl, rfl, _, rfl, ite2 (fun e4 => ?_) (fun e4 => ?_)⟩
        · have h4 : (i : Int) - (d : Nat) < ((other.map V.int).length : Nat) := of_decide_eq_true e4
          rw [l2] at h4
          have hjl : j < other.length := by omega
          have gj : (other.map V.int)[j]? = some (.int other[j]) := by rw [List.getElem?_map, List.getElem?_eq_getElem hjl]; rfl
          refine ⟨.ref b, rfl, .int (i : Nat), rfl, .int (d : Nat), rfl, (i : Nat), (d : Nat), rfl, rfl, b, _, (j : Nat), .int other[j], rfl, congrArg V.int ej, hB2, atI_nat gj, .int x, rfl, rfl, _, rfl, ite2 (fun e5 => ?_) (fun e5 => ?_)⟩
          · have e6 := V.int.inj (of_decide_eq_true e5)
            have hit : clashB one other d = true := clashB_iff.mpr ⟨j, x, by rw [← hj]; exact hx, by rw [List.getElem?_eq_getElem hjl, e6], hx1⟩
            have := q H2 e2
            rw [hit] at this
            exact this
          · refine ⟨_, _, rfl, e2, stay fun j' hj' ho => ?_⟩
            have : j' = j := by omega
            subst this
            rw [List.getElem?_eq_getElem hjl] at ho
            exact absurd (decide_eq_true (congrArg V.int (Option.some.inj ho))) e5
        · refine ⟨_, _, rfl, e2, stay fun j' hj' ho => ?_⟩
          have : j' = j := by omega
          subst this
          have := (List.getElem?_eq_some_iff.mp ho).1
          exact absurd (decide_eq_true (by rw [l2]; omega)) e4
      · refine ⟨_, rfl, iteF ⟨_, _, rfl, e2, stay fun j' hj' _ => ?_⟩⟩
        exact absurd (decide_eq_true (by omega)) e3
    · obtain ⟨v3, v4, rfl, e, no⟩ := h
      have none : clashB one other d = false := by
        cases z : clashB one other d with
        | false => rfl
        | true =>
          obtain ⟨j, x, h1, h2, h3⟩ := clashB_iff.mp z
          refine absurd (no j x ?_ h1 h2) h3
          rw [l1]
          exact (List.getElem?_eq_some_iff.mp h1).1
      have := q H' e
      rw [none] at this
      exact this
/-! ### _law_bars -/
def spLBars (K : PySem.W.Frag) : Sp := fun vs H Q _ => ∃ (a b : Addr) (one other : List Int), vs = [.ref a, .ref b] ∧ SqT K H a (one.map V.int) ∧ SqT K H b (other.map V.int) ∧ one.length ≤ 900 ∧
  ∀ H' p, Same H H' → H p = none → H' p = some (.lst ((nI (barsN one other)).map V.int)) → Q (.ref p) H'
theorem ok_lbars {f f2 : Addr} {fd fd2 : FuncData} {k : Nat} (F : Fun K "_law_bars" "_law_bars" s_l_bars f fd)
    (G2 : FnOk P w K mg base CX0 k f2 fd2 ["_law_one", "_law_other", "_law_by"] (spMeet K)) (kp2 : PySem.W.keepIn K (.ref f2) = true) (b2 : Binds K fd2 ["_law_one", "_law_other", "_law_by"] []) (g2 : mg "_law_meet" = some (.ref f2))
    (m2 : mg "range" = none) (m3 : mg "len" = none) : FnOk P w K mg base CX0 (k + 1) f fd ["_law_one", "_law_other"] (spLBars K) := by
  refine F.ok sc_l_bars (fun vs H Q E h => ?_) (fun cdv A outer s H vs Q E hr h => ?_)
  · obtain ⟨a, b, o1, o2, rfl, _⟩ := h; rfl
  · obtain ⟨a, b, one, other, rfl, hA, hB, most, q⟩ := h
    refine ⟨_, pss_one (ps_ret
        (pe_lc (own := [("_law_by", 2)]) (g := gName 2) rfl sc_l_bars.nd (pi_range2 (by rfl) m2 (pa_cons pe_int (pa_cons (pe_callB call_len_seq (by rfl) m3 PySem.boot_len (pa_cons (pv 0) pa_nil)) pa_nil)))
          (blkOk_by (N := ["_law_one", "_law_other", "_law_by"]) (sc := defScope s_l_bars) (by decide +kernel))
          (fun _ _ _ _ _ => pg_name (i := 2) sc_l_bars.nd rfl (Or.inl rfl))
          (fun _ _ _ _ _ => pts_one (pt_val (pe_call G2 hr (by rfl) g2 kp2 b2 .nil pass0 (pa_cons (pv 0) (pa_cons (pv 1) (pa_cons (pv 2) pa_nil))))))
          (fun _ _ _ _ _ => pv 2))), ?_⟩
    refine ⟨.ref a, rfl, a, one.map V.int, rfl, .inr hA, 1, _, rfl, ⟨by decide, by decide, ?_, ?_⟩, fun D hD => ?_⟩
    · rw [List.length_map]; omega
    · rw [List.length_map]; omega
    have en : (((one.map V.int).length : Int) - 1).toNat = one.length - 1 := by rw [List.length_map]; omega
    rw [en]
    refine lc_range (lo := 1) (n := one.length - 1) (fun i H' => Same H H' ∧ H' D = some (.lst (nV (barsTo one other i)))) ⟨same_new hD, upd_same⟩ (fun i H' hi h => ?_) (fun H' h => ?_)
    · refine ⟨rfl, ?_⟩
      have ed : ((1 : Int) + (i : Int)) = ((1 + i : Nat) : Int) := by omega
      refine ⟨.ref a, rfl, .ref b, rfl, .int (1 + i), rfl, a, b, one, other, 1 + i, by rw [ed]; rfl, Same.tup h.1 hA, Same.tup h.1 hB, fun H'' e3 => ?_⟩
      refine ⟨_, rfl, ?_⟩
      have hD3 := e3 _ _ h.2
      cases hc : clashB one other (1 + i) with
      | true =>
        refine iteT ⟨_, rfl, _, hD3, ?_, fun y o e => ?_, ?_⟩
        · rw [List.length_map]
          have := barsTo_len one other i
          exact small1000 (by omega)
        · rw [upd_ne (ne_of_none e hD)]
          exact e3 _ _ (h.1 _ _ e)
        · rw [upd_same, barsTo_yes hc]
      | false =>
        refine iteF ⟨h.1.trans e3, ?_⟩
        rw [barsTo_no hc]
        exact hD3
    · exact q H' D h.1 hD (by rw [← nV_eq]; exact h.2)
/-! ### _law_is_job -/
def spIsJob (K : PySem.W.Frag) : Sp := fun vs H Q _ => ∃ (a : Addr) (ns : List Int), vs = [.ref a] ∧ SqT K H a (ns.map V.int) ∧ IsWork ns ∧ Q (.bl true) H
theorem ok_is_job {f : Addr} {fd : FuncData} {k : Nat} (F : Fun K "_law_is_job" "_law_is_job" s_l_is_job f fd) (m1 : mg "isinstance" = none) (m2 : mg "tuple" = none) (m3 : mg "len" = none) (m4 : mg "int" = none) (m5 : mg "bool" = none) :
    FnOk P w K mg base CX0 (k + 1) f fd ["_law_thing"] (spIsJob K) := by
  refine F.ok sc_l_is_job (fun vs H Q E h => ?_) (fun cdv A outer s H vs Q E hr h => ?_)
  · obtain ⟨a, ns, rfl, _⟩ := h; rfl
  · obtain ⟨a, ns, rfl, hS, hw, q⟩ := h
    refine ⟨_, pss_cons (ps_if (PW.pt (pw_or (pt_not (pt_val (pe_callB call_isi (by rfl) m1 (by decide +kernel) (pa_cons (pv 0) (pa_cons (pe_bltn (v := .ty "tuple") (by rfl) m2 (by decide +kernel) rfl) pa_nil)))))
          (pw_or1 (pt_not (pt_chain op_le op_le pe_int (pe_callB call_len_seq (by rfl) m3 PySem.boot_len (pa_cons (pv 0) pa_nil)) pe_int)))))
        (pss_one (ps_ret pe_bl)) pss_nil)
      (pss_cons (ps_for PassesOwn.never rfl (pi_tup (pv 0)) (pg_name (i := 1) sc_l_is_job.nd rfl (.inl rfl))
        (pss_one (ps_if (PW.pt (pw_or (pt_not (pt_val (pe_callB call_isi (by rfl) m1 (by decide +kernel) (pa_cons (pv 1) (pa_cons (pe_bltn (v := .ty "int") (by rfl) m4 (by decide +kernel) rfl) pa_nil)))))
            (pw_or (pt_val (pe_callB call_isi (by rfl) m1 (by decide +kernel) (pa_cons (pv 1) (pa_cons (pe_bltn (v := .ty "bool") (by rfl) m5 (by decide +kernel) rfl) pa_nil))))
            (pw_or1 (pt_not (pt_chain op_le op_le (pe_un un_neg pe_int) (pv 1) pe_int))))))
          (pss_one (ps_ret pe_bl)) pss_nil)))
      (pss_one (ps_ret (pe_and (pe_cmpR op_ne (pe_ix ix_tup (pv 0) pe_int (fun _ _ => rfl)) (pe_un un_neg pe_int) (nomark _))
        (pe_one (pe_cmpR op_ne (pe_ix ix_tup (pv 0) (pe_un un_neg pe_int) (fun _ _ => rfl)) (pe_un un_neg pe_int) (nomark _))))))), ?_⟩
    have pos := hw.pos
    have most := hw.most
    refine ⟨.ref a, rfl, .ref a, .ty "tuple", _, _, true, rfl, .ty _, tyT hS, kit_ty (by decide +kernel), true, rfl, iteF ?_⟩
    refine ⟨.ref a, rfl, a, ns.map V.int, rfl, .inr hS, 1, _, rfl, rfl, _, rfl, ?_⟩
    have c1 : decide ((1 : Int) ≤ ((ns.map V.int).length : Nat)) = true := decide_eq_true (by rw [List.length_map]; omega)
    rw [c1]
    refine iteT ⟨_, 60, rfl, rfl, _, rfl, ?_⟩
    have c2 : decide ((((ns.map V.int).length : Nat) : Int) ≤ 60) = true := decide_eq_true (by rw [List.length_map]; omega)
    rw [c2]
    refine iteF ⟨.ref a, rfl, a, rfl, ⟨_, hS⟩, ?_⟩
    refine for_tup (xs := ns.map V.int) (fun i σ H' => ∃ v1, σ = [some (.ref a), v1] ∧ H' = H) ⟨_, rfl, rfl⟩ (fun i σ H' _ h => ?_) ?_ ?_
    · obtain ⟨_, _, rfl⟩ := h
      exact hS
    · rintro i x σ H' hx ⟨v1, rfl, rfl⟩
      rw [List.getElem?_map] at hx
      obtain ⟨z, hz, rfl⟩ := Option.map_eq_some_iff.mp hx
      obtain ⟨z1, z2⟩ := hw.items z (List.mem_of_getElem? hz)
      refine ⟨.int z, rfl, .int z, .ty "int", _, _, true, rfl, .ty _, .base (.int z), kit_ty (by decide +kernel), true, rfl, iteF ?_⟩
      refine ⟨.int z, rfl, .int z, .ty "bool", _, _, false, rfl, .ty _, .base (.int z), kit_ty (by decide +kernel), false, rfl, iteF ?_⟩
      refine ⟨1, rfl, .int z, rfl, -1, z, rfl, rfl, _, rfl, ?_⟩
      rw [decide_eq_true z1]
      refine iteT ⟨z, 9, rfl, rfl, _, rfl, ?_⟩
      rw [decide_eq_true z2]
      exact iteF ⟨_, rfl, rfl⟩
    · rintro σ H' ⟨v1, rfl, rfl⟩
      obtain ⟨x, hx⟩ : ∃ x, ns[0]? = some x := ⟨ns[0]'pos, List.getElem?_eq_getElem _⟩
      obtain ⟨y, hy⟩ : ∃ y, ns[ns.length - 1]? = some y := ⟨ns[ns.length - 1]'(by omega), List.getElem?_eq_getElem _⟩
      have gx : (ns.map V.int)[0]? = some (.int x) := by rw [List.getElem?_map, hx]; rfl
      have gy : atI (ns.map V.int) (-1) = some (.int y) := by
        unfold atI
        rw [List.length_map, ixN_end (by omega)]
        show (ns.map V.int)[ns.length - 1]? = _
        rw [List.getElem?_map, hy]
        rfl
      refine ⟨.ref a, rfl, a, _, 0, .int x, rfl, rfl, hS, atI_nat (j := 0) gx, 1, rfl, rfl, ?_⟩
      rw [show (!decide (V.int x = V.int (-1))) = true from by rw [decide_eq_false fun z => hw.head x hx (V.int.inj z)]; rfl]
      refine ⟨true, rfl, iteT ?_⟩
      refine ⟨.ref a, rfl, 1, rfl, a, _, -1, .int y, rfl, rfl, hS, gy, 1, rfl, rfl, ?_⟩
      rw [show (!decide (V.int y = V.int (-1))) = true from by rw [decide_eq_false fun z => hw.last y hy (V.int.inj z)]; rfl]
      exact q
end
end Sg

set_option Elab.async false
set_option linter.all false
set_option maxRecDepth 100000
set_option maxHeartbeats 4000000
namespace Sg
open PySem PySem.Spec PyProof.Rows L2 StX
theorem Given.small {ds : List Int} (g : Given ds) {n : Nat} : SmallAll (iD ds) n 60 :=
  (SmallAll.ints ds fun x hx => by have := g.items x hx; omega).mono (Nat.le_refl _) (by have := g.few; omega)
theorem Given.one {d : Int} (h : 1 ≤ d ∧ d ≤ 20) : Given [d] := ⟨by show (1 : Nat) ≤ 8; decide, fun x hx => by rw [List.mem_singleton.mp hx]; exact h, by simp⟩
theorem Given.back {ds : List Int} (g : Given ds) : Given (ds.reverse.map fun x => 21 - x) := by
  refine ⟨by rw [List.length_map, List.length_reverse]; exact g.few, fun x hx => ?_, ?_⟩
  · obtain ⟨y, hy, rfl⟩ := List.mem_map.mp hx
    have := g.items y (List.mem_reverse.mp hy)
    omega
  · rw [List.pairwise_map, List.pairwise_reverse]
    exact g.asc.imp fun h => by omega
def spLaw (K : PySem.W.Frag) : Sp := fun vs H Q _ => ∃ (a : Addr) (ns : List Int), vs = [.ref a] ∧ SqL K H a (ns.map V.int) ∧ ns.length ≤ 63 ∧ ∀ H', Q (.bl true) H'
section
variable {P : Program} {w : World} {K : PySem.W.Frag} {mg : Str → Option Value} {base : Heap}
/-! ### _law_right -/
def spRight (K : PySem.W.Frag) : Sp := fun vs H Q _ => ∃ (a : Addr) (ds : List Int), vs = [.ref a] ∧ SqT K H a (ds.map V.int) ∧ Given ds ∧ ∀ H', Same H H' → Q (.bl true) H'
theorem ok_right {f f1 f2 f3 fs : Addr} {fd fd1 fd2 fd3 fds : FuncData} {k : Nat} (F : Fun K "_law_right" "_law_right" s_l_right f fd)
    (G1 : FnOk P w K mg base CX0 k f1 fd1 ["distances"] (spWith K)) (kp1 : PySem.W.keepIn K (.ref f1) = true) (b1 : Binds K fd1 ["distances"] []) (g1 : mg "work_with" = some (.ref f1))
    (G2 : FnOk P w K mg base CX0 k f2 fd2 ["_law_thing"] (spIsJob K)) (kp2 : PySem.W.keepIn K (.ref f2) = true) (b2 : Binds K fd2 ["_law_thing"] []) (g2 : mg "_law_is_job" = some (.ref f2))
    (G3 : FnOk P w K mg base CX0 k f3 fd3 ["_law_one", "_law_other"] (spLBars K)) (kp3 : PySem.W.keepIn K (.ref f3) = true) (b3 : Binds K fd3 ["_law_one", "_law_other"] []) (g3 : mg "_law_bars" = some (.ref f3))
    (Gs : FnG P w K mg base k fs fds ["_law_found", "_law_due"] (spSame K)) (kps : PySem.W.keepIn K (.ref fs) = true) (bs : Binds K fds ["_law_found", "_law_due"] []) (gs : mg "_law_same" = some (.ref fs))
    (m1 : mg "repr" = none) (m2 : mg "tuple" = none) : FnG P w K mg base (k + 1) f fd ["_law_some_here"] (spRight K) := by
  refine fnG_mk F sc_l_right (fun vs H Q h => ?_) (fun cdv A outer s H vs Q hgd hr h => ?_)
  · obtain ⟨a, ds, rfl, _⟩ := h; rfl
  · obtain ⟨a, ds, rfl, hA, g, q⟩ := h
    refine ⟨_, pss_cons (ps_par (i := 1) (j := 2) (by rfl) sc_l_right.nd rfl rfl (by decide) rfl rfl (pa_cons (pe_callB (call_reprD hgd hr) (by rfl) m1 (by decide +kernel) (pa_cons (pv 0) pa_nil)) (pa_cons (pe_call G1 hr (by rfl) g1 kp1 b1 .nil pass0 (pa_cons (pv 0) pa_nil)) pa_nil)) (by rfl))
      (pss_cons (ps_if (PW.pt (pw_or (pt_not (pt_val (pe_call G2 hr (by rfl) g2 kp2 b2 .nil pass0 (pa_cons (pv 2) pa_nil))))
          (pw_or (pt_not (pt_val (pe_callG Gs hgd hr (by rfl) gs kps bs (pa_cons (pe_call G1 hr (by rfl) g1 kp1 b1 .nil pass0 (pa_cons (pv 0) pa_nil)) (pa_cons (pv 2) pa_nil)))))
          (pw_or1 (pt_cmpR op_ne (pe_callB (call_reprD hgd hr) (by rfl) m1 (by decide +kernel) (pa_cons (pv 0) pa_nil)) (pv 1) (nomark _))))))
        (pss_one (ps_ret pe_bl)) pss_nil)
      (pss_one (ps_ret (pe_callG Gs hgd hr (by rfl) gs kps bs (pa_cons (pe_callTy call_tuple_of (by rfl) m2 (by decide +kernel) (pa_cons (pe_call G3 hr (by rfl) g3 kp3 b3 .nil pass0 (pa_cons (pv 2) (pa_cons (pv 2) pa_nil))) pa_nil)) (pa_cons (pv 0) pa_nil)))))), ?_⟩
    have sd : Small (tD ds) 2 60 := Small.tuple (n := 1) g.small
    have dp : ∀ {H' : Hp}, Same H H' → Dp K H' (.ref a) (tD ds) := fun e => .tup (Same.tup e hA) (dpInts _)
    refine ⟨.ref a, rfl, a, tD ds, rfl, dp (fun _ _ z => z), sd.shows (by decide) (by decide), ?_⟩
    refine ⟨.ref a, rfl, a, ds, rfl, hA, g, fun H1 t e1 nt ht hw hb => ⟨_, _, rfl, ?_⟩⟩
    have hT1 : SqT K H1 t ((withW ds).map V.int) := .of ht
    refine ⟨.ref t, rfl, t, _, rfl, hT1, hw, true, rfl, iteF ?_⟩
    refine ⟨.ref a, rfl, a, ds, rfl, Same.tup e1 hA, g, fun H2 t2 e2 nt2 ht2 _ _ => ?_⟩
    have e12 := e1.trans e2
    have sw : Small (tD (withW ds)) 2 60 := Small.tuple (n := 1) hw.small
    refine ⟨.ref t, rfl, t2, t, tD (withW ds), rfl, .tup (.of ht2) (dpInts _), .tup (Same.tup e2 hT1) (dpInts _), sw.shows (by decide) (by decide), true, rfl, iteF ?_⟩
    refine ⟨.ref a, rfl, a, tD ds, rfl, dp e12, sd.shows (by decide) (by decide), _, rfl, rfl, ?_⟩
    rw [decide_eq_true rfl]
    refine ⟨_, rfl, iteF ?_⟩
    have hT2 := Same.tup e2 hT1
    have w60 := hw.most
    refine ⟨.ref t, rfl, .ref t, rfl, t, t, withW ds, withW ds, rfl, hT2, hT2, by omega, fun H3 l e3 nl hl => ?_⟩
    rw [hb] at hl
    refine ⟨l, _, rfl, .inl ⟨.of hl, fun u nu => ⟨.ref a, rfl, u, a, tD ds, rfl, .tup (.of upd_same) (dpInts _), dp ((e12.trans e3).trans (same_new nu)), sd.shows (by decide) (by decide), q _ ((e12.trans e3).trans (same_new nu))⟩⟩⟩
/-! ### _law_some -/
def spSome : Sp := fun vs H Q _ => ∃ (p : Addr) (u : Int), vs = [.ref p, .int u] ∧ PenAt H p ∧ 1 ≤ u ∧ u ≤ 20 ∧
  ∀ H' t ds, PenAt H' p → But p H H' → H t = none → H' t = some (.tup (ds.map V.int)) → Given ds → Q (.ref t) H'
theorem ok_some {f f1 : Addr} {fd fd1 : FuncData} {k : Nat} (F : Fun K "_law_some" "_law_some" s_l_some f fd)
    (G1 : FnOk P w K mg base CX0 k f1 fd1 ["_law_pen_here", "_law_many"] spDraw) (kp1 : PySem.W.keepIn K (.ref f1) = true) (b1 : Binds K fd1 ["_law_pen_here", "_law_many"] []) (g1 : mg "_law_draw" = some (.ref f1))
    (m1 : mg "range" = none) (m2 : mg "len" = none) (m3 : mg "tuple" = none) : FnOk P w K mg base CX0 (k + 1) f fd ["_law_pen_here", "_law_upto"] spSome := by
  refine F.ok sc_l_some (fun vs H Q E h => ?_) (fun cdv A outer s H vs Q E hr h => ?_)
  · obtain ⟨p, u, rfl, _⟩ := h; rfl
  · obtain ⟨p, u, rfl, hp, u1, u2, q⟩ := h
    refine ⟨_, pss_cons (ps_set (i := 2) sc_l_some.nd rfl (.inl rfl) (pe_lst pa_nil))
      (pss_cons (ps_for PassesOwn.never rfl (pi_range2 (by rfl) m1 (pa_cons pe_int (pa_cons (pe_op op_add pe_int (pv 1)) pa_nil))) (pg_name (i := 3) sc_l_some.nd rfl (.inl rfl))
        (pss_one (ps_if (PW.pt (pw_and (pt_cmpR op_lt (pe_callB call_len_seq (by rfl) m2 PySem.boot_len (pa_cons (pv 2) pa_nil)) pe_int (nomark _))
            (pw_and1 (pt_cmpR op_eq (pe_call G1 hr (by rfl) g1 kp1 b1 .nil pass0 (pa_cons (pv 0) (pa_cons (pe_op op_add pe_int (pe_op op_fdiv (pv 1) pe_int)) pa_nil))) pe_int (nomark _)))))
          (pss_one (ps_expr (pe_bm PySem.F.plainAttrs_list PySem.F.slot_list_append PySem.F.type_list_append mt_append (pv 2) (pa_cons (pv 3) pa_nil)))) pss_nil)))
      (pss_one (ps_ret (pe_callTy call_tuple_of (by rfl) m3 (by decide +kernel) (pa_cons (pv 2) pa_nil))))), ?_⟩
    refine ⟨by show 0 ≤ sizeLine; decide, fun I nI => ?_⟩
    have c1 : But p H (upd H I (.lst [])) := .of (same_new nI)
    have hI1 : (upd H I (.lst [])) I = some (.lst []) := upd_same
    have p1 := hp.new (o := .lst []) nI
    have nIp : I ≠ p := (hp.ne nI).symm
    generalize upd H I (.lst []) = H1 at c1 hI1 p1 ⊢
    refine ⟨.int u, rfl, 1, u, rfl, rfl, 1, 1 + u, rfl, ⟨by omega, by omega, by omega, by omega⟩, ?_⟩
    refine for_range (lo := 1) (n := (1 + u - 1).toNat) (fun i σ H' => ∃ v3, σ = [some (.ref p), some (.int u), some (.ref I), v3] ∧ PenAt H' p ∧ But p H H' ∧ ∃ ds : List Int, H' I = some (.lst (ds.map V.int)) ∧ ds.length ≤ 8 ∧ (∀ x ∈ ds, 1 ≤ x ∧ x ≤ i) ∧ ds.Pairwise (· < ·))
      ⟨_, rfl, p1, c1, [], hI1, by decide, fun x hx => (nomatch hx), List.Pairwise.nil⟩ ?_ ?_
    · rintro i σ H2 hi ⟨v3, rfl, p2, c2, ds, hI2, l2, i2, a2⟩
      have lm : (ds.map V.int).length = ds.length := List.length_map _
      have keep : ∀ (H' : Hp), PenAt H' p → But p H2 H' → ∃ v3, [some (V.ref p), some (.int u), some (.ref I), some (.int (1 + (i : Nat)))] = [some (.ref p), some (.int u), some (.ref I), v3] ∧ PenAt H' p ∧ But p H H' ∧ ∃ ds : List Int, H' I = some (.lst (ds.map V.int)) ∧ ds.length ≤ 8 ∧ (∀ x ∈ ds, 1 ≤ x ∧ x ≤ ((i + 1 : Nat) : Int)) ∧ ds.Pairwise (· < ·) :=
        fun H' p' b' => ⟨_, rfl, p', c2.trans b', ds, b' _ _ nIp hI2, l2, fun x hx => by have := i2 x hx; omega, a2⟩
      refine ⟨.ref I, rfl, I, _, rfl, .inl (.of hI2), _, 8, rfl, rfl, _, rfl, ite2 (fun e => ?_) (fun e => ?_)⟩
      · have l8 : ds.length < 8 := by
          have := of_decide_eq_true e
          rw [lm] at this
          omega
        refine ⟨.ref p, rfl, .int u, rfl, u, 4, rfl, rfl, ⟨by decide, by decide⟩, 1, u / 4, rfl, rfl, p, 1 + u / 4, rfl, p2, by omega, by omega, fun H3 r _ _ p3 b3 => ?_⟩
        refine ⟨rfl, _, rfl, ite2 (fun _ => ?_) (fun _ => ?_)⟩
        · have hI3 := b3 _ _ nIp hI2
          refine ⟨.ref I, rfl, .inl ⟨rfl, _, .of hI3⟩, .int (1 + (i : Nat)), rfl, I, _, _, rfl, rfl, hI3, ?_, ?_⟩
          · rw [lm]; exact small1000 (by omega)
          refine ⟨_, rfl, p3.upd nIp.symm, fun b o n h => ?_, ds ++ [1 + (i : Int)], ?_, ?_, fun x hx => ?_, ?_⟩
          · rw [upd_ne (ne_of_none h nI)]
            exact b3 _ _ n (c2 _ _ n h)
          · rw [upd_same, List.map_append]; rfl
          · rw [List.length_append]; show ds.length + 1 ≤ 8; omega
          · rcases List.mem_append.mp hx with h | h
            · have := i2 x h; omega
            · rw [List.mem_singleton.mp h]; omega
          · refine List.pairwise_append.mpr ⟨a2, by simp, fun x hx y hy => ?_⟩
            rw [List.mem_singleton.mp hy]
            have := i2 x hx
            omega
        · exact keep H3 p3 b3
      · exact keep H2 p2 (.refl _ _)
    · rintro σ H2 ⟨v3, rfl, p2, c2, ds, hI2, l2, i2, a2⟩
      exact ⟨.ref I, rfl, I, _, rfl, .inl ⟨.of hI2, fun t nt => q _ t ds (p2.new nt) (c2.trans (.of (same_new nt))) (hp.free p2 c2 nt) upd_same ⟨l2, fun x hx => by have := i2 x hx; omega, a2⟩⟩⟩
theorem ok_law {f f1 f2 f3 f4 : Addr} {fd fd1 fd2 fd3 fd4 : FuncData} {k : Nat} (F : Fun K "law" "law" s_law f fd)
    (G1 : FnOk P w K mg base CX0 k f1 fd1 ["_law_script", "_law_k"] (spCell K)) (kp1 : PySem.W.keepIn K (.ref f1) = true) (b1 : Binds K fd1 ["_law_script", "_law_k"] []) (g1 : mg "_law_cell" = some (.ref f1))
    (G2 : FnOk P w K mg base CX0 k f2 fd2 ["_law_cell_here"] spPen) (kp2 : PySem.W.keepIn K (.ref f2) = true) (b2 : Binds K fd2 ["_law_cell_here"] []) (g2 : mg "_law_pen" = some (.ref f2))
    (G3 : FnOk P w K mg base CX0 k f3 fd3 ["_law_pen_here", "_law_upto"] spSome) (kp3 : PySem.W.keepIn K (.ref f3) = true) (b3 : Binds K fd3 ["_law_pen_here", "_law_upto"] []) (g3 : mg "_law_some" = some (.ref f3))
    (G4 : FnG P w K mg base k f4 fd4 ["_law_some_here"] (spRight K)) (kp4 : PySem.W.keepIn K (.ref f4) = true) (b4 : Binds K fd4 ["_law_some_here"] []) (g4 : mg "_law_right" = some (.ref f4))
    (m1 : mg "len" = none) (m2 : mg "range" = none) (m3 : mg "tuple" = none) (m5 : mg "max" = none) (m6 : mg "min" = none) : FnG P w K mg base (k + 1) f fd ["_law_script"] (spLaw K) := by
  refine fnG_mk F sc_law (fun vs H Q h => ?_) (fun cdv A outer s H vs Q hgd hr h => ?_)
  · obtain ⟨a, ns, rfl, _⟩ := h; rfl
  · obtain ⟨a, ns, rfl, hS, hlen, q⟩ := h
    refine ⟨_, pss_cons (ps_for PassesOwn.never rfl (pi_range2 (by rfl) m2 (pa_cons pe_int (pa_cons pe_int pa_nil))) (pg_name (i := 1) sc_law.nd rfl (.inl rfl))
        (pss_one (ps_if (pt_not (pt_val (pe_callG G4 hgd hr (by rfl) g4 kp4 b4 (pa_cons (pe_tup (pa_cons (pv 1) pa_nil)) pa_nil)))) (pss_one (ps_ret pe_bl)) pss_nil)))
      (pss_cons (ps_if (PW.pt (pw_or (pt_not (pt_val (pe_callG G4 hgd hr (by rfl) g4 kp4 b4 (pa_cons (pe_tup pa_nil) pa_nil))))
          (pw_or (pt_not (pt_val (pe_callG G4 hgd hr (by rfl) g4 kp4 b4 (pa_cons (pe_tupRg rfl (by rfl) m3 (prg_2 (by rfl) m2 pe_int pe_int)) pa_nil))))
          (pw_or1 (pt_not (pt_val (pe_callG G4 hgd hr (by rfl) g4 kp4 b4 (pa_cons (pe_tupRg rfl (by rfl) m3 (prg_2 (by rfl) m2 pe_int pe_int)) pa_nil))))))))
        (pss_one (ps_ret pe_bl)) pss_nil)
      (pss_cons (ps_for PassesOwn.never rfl (pi_range1 (by rfl) m2 (pa_cons (pe_callB (call_max2 rfl) (by rfl) m5 (by decide +kernel) (pa_cons pe_int (pa_cons (pe_callB (call_min2 rfl) (by rfl) m6 (by decide +kernel) (pa_cons (pe_callB call_len_seq (by rfl) m1 PySem.boot_len (pa_cons (pv 0) pa_nil)) (pa_cons pe_int pa_nil))) pa_nil))) pa_nil)) (pg_name (i := 2) sc_law.nd rfl (.inl rfl))
          (pss_cons (ps_set (i := 3) sc_law.nd rfl (.inl rfl) (pe_call G2 hr (by rfl) g2 kp2 b2 .nil pass0 (pa_cons (pe_call G1 hr (by rfl) g1 kp1 b1 .nil pass0 (pa_cons (pv 0) (pa_cons (pv 2) pa_nil))) pa_nil)))
          (pss_one (ps_for PassesOwn.never rfl (pi_range1 (by rfl) m2 (pa_cons pe_int pa_nil)) (pg_name (i := 4) sc_law.nd rfl (.inl rfl))
            (pss_cons (ps_set (i := 5) sc_law.nd rfl (.inl rfl) (pe_call G3 hr (by rfl) g3 kp3 b3 .nil pass0 (pa_cons (pv 3) (pa_cons (pe_ix ix_list (pe_lst (pa_cons pe_int (pa_cons pe_int (pa_cons pe_int (pa_cons pe_int pa_nil))))) (pe_op op_mod (pv 4) pe_int) (fun _ _ => rfl)) pa_nil))))
            (pss_one (ps_if (PW.pt (pw_or (pt_not (pt_val (pe_callG G4 hgd hr (by rfl) g4 kp4 b4 (pa_cons (pv 5) pa_nil))))
                (pw_or1 (pt_not (pt_val (pe_callG G4 hgd hr (by rfl) g4 kp4 b4 (pa_cons (pe_callTy call_tuple_of (by rfl) m3 (by decide +kernel) (pa_cons
                  (pe_lc (own := [("_law_by", 1)]) (g := gName 1) (tt := tYes) rfl sc_law.nd (pi_tup (pe_revT (K := K) rfl (pv 5))) (blkOk_by (N := ["_law_script", "_law_by", "_law_k", "_law_pen_here", "_law_turn", "_law_some_here"]) (sc := defScope s_law) (by decide +kernel))
                    (fun _ _ _ _ _ => pg_name (i := 1) sc_law.nd rfl (Or.inl rfl)) (fun _ _ _ _ _ => pts_nil) (fun _ _ _ _ _ => pe_op op_sub pe_int (pv 1))) pa_nil)) pa_nil)))))))
              (pss_one (ps_ret pe_bl)) pss_nil)))))))
      (pss_one (ps_ret pe_bl)))), ?_⟩
    refine ⟨1, 21, rfl, ⟨by decide, by decide, by decide, by decide⟩, ?_⟩
    refine for_range (lo := 1) (n := 20) (fun i σ H' => ∃ v1, σ = [some (.ref a), v1, none, none, none, none] ∧ Same H H') ⟨_, rfl, fun _ _ z => z⟩ ?_ ?_
    · rintro i σ H1 hi ⟨v1, rfl, e1⟩
      refine ⟨.int (1 + (i : Nat)), rfl, by show 1 ≤ sizeLine; decide, fun o no => ⟨o, [1 + (i : Int)], rfl, .of upd_same, .one (by omega), fun H2 e2 => ⟨true, rfl, iteF ⟨_, rfl, (e1.trans (same_new no)).trans e2⟩⟩⟩⟩
    rintro σ H1 ⟨v1, rfl, e1⟩
    refine ⟨by show 0 ≤ sizeLine; decide, fun o1 no1 => ⟨o1, [], rfl, .of upd_same, ⟨by decide, by decide, by decide⟩, fun H2 e2 => ⟨true, rfl, iteF ?_⟩⟩⟩
    have e12 := (e1.trans (same_new no1)).trans e2
    refine ⟨1, 9, rfl, rfl, .of_le (by decide) (by decide) (by decide) (by decide), fun o2 no2 => ⟨o2, [1, 2, 3, 4, 5, 6, 7, 8], rfl, .of upd_same, ⟨by decide, by decide, by decide⟩, fun H3 e3 => ⟨true, rfl, iteF ?_⟩⟩⟩
    have e13 := (e12.trans (same_new no2)).trans e3
    refine ⟨13, 21, rfl, rfl, .of_le (by decide) (by decide) (by decide) (by decide), fun o3 no3 => ⟨o3, [13, 14, 15, 16, 17, 18, 19, 20], rfl, .of upd_same, ⟨by decide, by decide, by decide⟩, fun H4 e4 => ⟨true, rfl, iteF ?_⟩⟩⟩
    have e14 := (e13.trans (same_new no3)).trans e4
    clear e1 e12 e13 e2 e3 e4 no1 no2 no3
    have l63 : ((ns.map V.int).length : Int) ≤ 63 := by rw [List.length_map]; omega
    refine ⟨.ref a, rfl, a, _, rfl, .inl (e14.seq hS), _, 3, rfl, 1, _, rfl, ?_⟩
    obtain ⟨N, hN, hN0, hN4⟩ : ∃ N : Int, (if (if (3 : Int) < ((ns.map V.int).length : Nat) then (3 : Int) else ((ns.map V.int).length : Nat)) > 1 then (if (3 : Int) < ((ns.map V.int).length : Nat) then (3 : Int) else ((ns.map V.int).length : Nat)) else 1) = N ∧ 0 ≤ N ∧ N ≤ 3 := by
      refine ⟨_, rfl, ?_, ?_⟩
      · split <;> split <;> omega
      · split <;> split <;> omega
    rw [hN]
    refine ⟨N, rfl, by omega, by omega, ?_⟩
    refine for_range (lo := 0) (n := N.toNat) (fun i σ H' => ∃ v1 v2 v3 v4 v5, σ = [some (.ref a), v1, v2, v3, v4, v5] ∧ Same H H') ⟨_, _, _, _, _, rfl, e14⟩ ?_ ?_
    · rintro i σ H1 hi ⟨v1, v2, v3, v4, v5, rfl, e1⟩
      refine ⟨.ref a, rfl, .int (0 + i), rfl, a, ns, i, by rw [Int.zero_add]; rfl, e1.seq hS, fun cell => ?_⟩
      refine ⟨cell, rfl, fun H2 p np s2 p2 => ?_⟩
      have npH : H p = none := freeS e1 np
      have o2 : Same H H2 := e1.trans s2
      refine ⟨12, rfl, by decide, by decide, ?_⟩
      refine for_range (lo := 0) (n := 12) (fun j σ H' => ∃ v1 v4 v5, σ = [some (.ref a), v1, some (.int (0 + i)), some (.ref p), v4, v5] ∧ PenAt H' p ∧ But p H H') ⟨_, _, _, rfl, p2, fun b o _ h => o2 b o h⟩ ?_ ?_
      · rintro j σ H3 hj ⟨v1, v4, v5, rfl, p3, c3⟩
        obtain ⟨z, hz, z1, z2⟩ : ∃ z : Int, atI [V.int 20, .int 8, .int 12, .int 16] ((0 + (j : Int)) % 4) = some (.int z) ∧ 1 ≤ z ∧ z ≤ 20 := by
          rcases (show (0 + (j : Int)) % 4 = 0 ∨ (0 + (j : Int)) % 4 = 1 ∨ (0 + (j : Int)) % 4 = 2 ∨ (0 + (j : Int)) % 4 = 3 by omega) with h | h | h | h
          · exact ⟨20, by rw [h]; exact atI0, by decide, by decide⟩
          · exact ⟨8, by rw [h]; exact atI1, by decide, by decide⟩
          · exact ⟨12, by rw [h]; exact atI2, by decide, by decide⟩
          · exact ⟨16, by rw [h]; exact atI_nat (j := 3) rfl, by decide, by decide⟩
        refine ⟨.ref p, rfl, by show 4 ≤ sizeLine; decide, fun l nl => ⟨.int (0 + (j : Nat)), rfl, 0 + (j : Nat), 4, rfl, rfl, by show (0 : Int) < 4; decide, l, _, _, .int z, rfl, rfl, .of upd_same, hz, ?_⟩⟩
        refine ⟨p, z, rfl, p3.new nl, z1, z2, fun H4 t ds p4 b4 nt ht g => ?_⟩
        have c4 : But p H H4 := (c3.trans (.of (same_new nl))).trans b4
        have hT4 : SqT K H4 t (ds.map V.int) := .of ht
        refine ⟨.ref t, rfl, t, ds, rfl, hT4, g, fun H5 e5 => ⟨true, rfl, iteF ?_⟩⟩
        have hT5 := Same.tup e5 hT4
        have p5 := p4.same e5
        refine ⟨.ref t, rfl, t, _, rfl, hT5, fun rv nrv => ?_⟩
        rw [← List.map_reverse]
        have e6 : Same H5 (L2.upd H5 rv (.tup (ds.reverse.map V.int))) := same_new nrv
        have hr6 : (L2.upd H5 rv (.tup (ds.reverse.map V.int))) rv = some (.tup (ds.reverse.map V.int)) := upd_same
        generalize L2.upd H5 rv (.tup (ds.reverse.map V.int)) = H6 at e6 hr6 ⊢
        refine ⟨rv, rfl, ⟨_, .of hr6⟩, fun D hD => ?_⟩
        have few := g.few
        refine lc_tup (xs := ds.reverse.map V.int) (fun m H' => Same H6 H' ∧ H' D = some (.lst (((ds.reverse.take m).map fun x => 21 - x).map V.int))) ⟨same_new hD, upd_same⟩ (fun m H' _ h => .of (h.1 _ _ hr6)) (fun m x H' hx h => ?_) (fun H' h => ?_)
        · rw [List.getElem?_map] at hx
          obtain ⟨y, hy, rfl⟩ := Option.map_eq_some_iff.mp hx
          refine ⟨rfl, .int y, rfl, 21, y, rfl, rfl, _, h.2, ?_, fun b o e => ?_, ?_⟩
          · rw [List.length_map, List.length_map, List.length_take, List.length_reverse]
            exact small1000 (by omega)
          · rw [upd_ne (ne_of_none e hD)]
            exact h.1 _ _ e
          · rw [upd_same, List.take_add_one, hy, List.map_append, List.map_append]
            rfl
        · obtain ⟨e7, hD7⟩ := h
          rw [List.length_map, List.take_length] at hD7
          have e57 := (e5.trans e6).trans e7
          refine ⟨D, _, rfl, .inl ⟨.of hD7, fun t2 nt2 => ⟨t2, ds.reverse.map fun x => 21 - x, rfl, .of upd_same, g.back, fun H8 e8 => ⟨true, rfl, iteF ?_⟩⟩⟩⟩
          have e58 := (e57.trans (same_new nt2)).trans e8
          exact ⟨_, _, _, rfl, p4.same e58, c4.trans (.of e58)⟩
      · rintro σ H3 ⟨v1, v4, v5, rfl, p3, c3⟩
        exact ⟨_, _, _, _, _, rfl, fun b o h => c3 b o (ne_of_none h npH) h⟩
    · rintro σ H1 ⟨v1, v2, v3, v4, v5, rfl, e1⟩
      exact q H1
end
end Sg

set_option Elab.async false
set_option linter.all false
set_option maxRecDepth 100000
set_option maxHeartbeats 4000000
namespace Sg
open PySem PySem.Spec PyProof.Rows L2 StX
theorem all_mk {l : PySem.W.OpenLaw} {w : World} {K : PySem.W.Frag} {h : Heap} {mg : Str → Option Value} {fa fd0 fd1 fd2 fd3 fd4 fd5 fd6 fd7 fd8 fd9 fd10 fd11 fd12 fd13 fd14 : Addr} {tu_NOWHERE tu_MOST_BARS tu_FARTHEST_BAR : Tok} {odd0 and0 odd1 and1 odd2 and2 odd3 and3 odd4 and4 odd5 and5 odd6 and6 odd7 and7 odd8 and8 odd9 and9 odd10 and10 odd11 and11 odd12 and12 odd13 and13 odd14 and14 : Option Addr} {sld0 sld1 sld2 sld3 sld4 sld5 sld6 sld7 sld8 sld9 sld10 sld11 sld12 sld13 sld14 : Array (Option Value)} {ocd0 kVd0 dcd0 pmd0 cdd0 ctd0 ocd1 kVd1 dcd1 pmd1 cdd1 ctd1 ocd2 kVd2 dcd2 pmd2 cdd2 ctd2 ocd3 kVd3 dcd3 pmd3 cdd3 ctd3 ocd4 kVd4 dcd4 pmd4 cdd4 ctd4 ocd5 kVd5 dcd5 pmd5 cdd5 ctd5 ocd6 kVd6 dcd6 pmd6 cdd6 ctd6 ocd7 kVd7 dcd7 pmd7 cdd7 ctd7 ocd8 kVd8 dcd8 pmd8 cdd8 ctd8 ocd9 kVd9 dcd9 pmd9 cdd9 ctd9 ocd10 kVd10 dcd10 pmd10 cdd10 ctd10 ocd11 kVd11 dcd11 pmd11 cdd11 ctd11 ocd12 kVd12 dcd12 pmd12 cdd12 ctd12 ocd13 kVd13 dcd13 pmd13 cdd13 ctd13 ocd14 kVd14 dcd14 pmd14 cdd14 ctd14 : Value} (X : K.In h) (G : h.Ns mainGlobals mg) (hfa : mg "law" = some (.ref fa))
    (ad0 : PySem.W.nsIn K mainGlobals "is_int" = some (some (.ref fd0)))
    (ld0 : K.lookup fd0 = some ⟨ocd0, odd0, .func (PySem.W.fnOf "is_int" "is_int" (defArgs s_is_int) (defBody s_is_int) (defScope s_is_int) .none kVd0 dcd0 pmd0 and0 cdd0 ctd0), sld0⟩)
    (cd0 : PySem.W.codeIn K cdd0 "is_int" = true)
    (kd0 : PySem.W.keepIn K (.ref fd0) = true)
    (ad1 : PySem.W.nsIn K mainGlobals "is_between" = some (some (.ref fd1)))
    (ld1 : K.lookup fd1 = some ⟨ocd1, odd1, .func (PySem.W.fnOf "is_between" "is_between" (defArgs s_is_between) (defBody s_is_between) (defScope s_is_between) .none kVd1 dcd1 pmd1 and1 cdd1 ctd1), sld1⟩)
    (cd1 : PySem.W.codeIn K cdd1 "is_between" = true)
    (kd1 : PySem.W.keepIn K (.ref fd1) = true)
    (ad2 : PySem.W.nsIn K mainGlobals "work_with" = some (some (.ref fd2)))
    (ld2 : K.lookup fd2 = some ⟨ocd2, odd2, .func (PySem.W.fnOf "work_with" "work_with" (defArgs s_work_with) (defBody s_work_with) (defScope s_work_with) .none kVd2 dcd2 pmd2 and2 cdd2 ctd2), sld2⟩)
    (cd2 : PySem.W.codeIn K cdd2 "work_with" = true)
    (kd2 : PySem.W.keepIn K (.ref fd2) = true)
    (ad3 : PySem.W.nsIn K mainGlobals "_is_bars" = some (some (.ref fd3)))
    (ld3 : K.lookup fd3 = some ⟨ocd3, odd3, .func (PySem.W.fnOf "_is_bars" "_is_bars" (defArgs s_is_bars) (defBody s_is_bars) (defScope s_is_bars) .none kVd3 dcd3 pmd3 and3 cdd3 ctd3), sld3⟩)
    (cd3 : PySem.W.codeIn K cdd3 "_is_bars" = true)
    (kd3 : PySem.W.keepIn K (.ref fd3) = true)
    (ad4 : PySem.W.nsIn K mainGlobals "_first_free" = some (some (.ref fd4)))
    (ld4 : K.lookup fd4 = some ⟨ocd4, odd4, .func (PySem.W.fnOf "_first_free" "_first_free" (defArgs s_first_free) (defBody s_first_free) (defScope s_first_free) .none kVd4 dcd4 pmd4 and4 cdd4 ctd4), sld4⟩)
    (cd4 : PySem.W.codeIn K cdd4 "_first_free" = true)
    (kd4 : PySem.W.keepIn K (.ref fd4) = true)
    (ad5 : PySem.W.nsIn K mainGlobals "_law_cell" = some (some (.ref fd5)))
    (ld5 : K.lookup fd5 = some ⟨ocd5, odd5, .func (PySem.W.fnOf "_law_cell" "_law_cell" (defArgs s_l_cell) (defBody s_l_cell) (defScope s_l_cell) .none kVd5 dcd5 pmd5 and5 cdd5 ctd5), sld5⟩)
    (cd5 : PySem.W.codeIn K cdd5 "_law_cell" = true)
    (kd5 : PySem.W.keepIn K (.ref fd5) = true)
    (ad6 : PySem.W.nsIn K mainGlobals "_law_pen" = some (some (.ref fd6)))
    (ld6 : K.lookup fd6 = some ⟨ocd6, odd6, .func (PySem.W.fnOf "_law_pen" "_law_pen" (defArgs s_l_pen) (defBody s_l_pen) (defScope s_l_pen) .none kVd6 dcd6 pmd6 and6 cdd6 ctd6), sld6⟩)
    (cd6 : PySem.W.codeIn K cdd6 "_law_pen" = true)
    (kd6 : PySem.W.keepIn K (.ref fd6) = true)
    (ad7 : PySem.W.nsIn K mainGlobals "_law_draw" = some (some (.ref fd7)))
    (ld7 : K.lookup fd7 = some ⟨ocd7, odd7, .func (PySem.W.fnOf "_law_draw" "_law_draw" (defArgs s_l_draw) (defBody s_l_draw) (defScope s_l_draw) .none kVd7 dcd7 pmd7 and7 cdd7 ctd7), sld7⟩)
    (cd7 : PySem.W.codeIn K cdd7 "_law_draw" = true)
    (kd7 : PySem.W.keepIn K (.ref fd7) = true)
    (ad8 : PySem.W.nsIn K mainGlobals "_law_same" = some (some (.ref fd8)))
    (ld8 : K.lookup fd8 = some ⟨ocd8, odd8, .func (PySem.W.fnOf "_law_same" "_law_same" (defArgs s_l_same) (defBody s_l_same) (defScope s_l_same) .none kVd8 dcd8 pmd8 and8 cdd8 ctd8), sld8⟩)
    (cd8 : PySem.W.codeIn K cdd8 "_law_same" = true)
    (kd8 : PySem.W.keepIn K (.ref fd8) = true)
    (ad9 : PySem.W.nsIn K mainGlobals "_law_meet" = some (some (.ref fd9)))
    (ld9 : K.lookup fd9 = some ⟨ocd9, odd9, .func (PySem.W.fnOf "_law_meet" "_law_meet" (defArgs s_l_meet) (defBody s_l_meet) (defScope s_l_meet) .none kVd9 dcd9 pmd9 and9 cdd9 ctd9), sld9⟩)
    (cd9 : PySem.W.codeIn K cdd9 "_law_meet" = true)
    (kd9 : PySem.W.keepIn K (.ref fd9) = true)
    (ad10 : PySem.W.nsIn K mainGlobals "_law_bars" = some (some (.ref fd10)))
    (ld10 : K.lookup fd10 = some ⟨ocd10, odd10, .func (PySem.W.fnOf "_law_bars" "_law_bars" (defArgs s_l_bars) (defBody s_l_bars) (defScope s_l_bars) .none kVd10 dcd10 pmd10 and10 cdd10 ctd10), sld10⟩)
    (cd10 : PySem.W.codeIn K cdd10 "_law_bars" = true)
    (kd10 : PySem.W.keepIn K (.ref fd10) = true)
    (ad11 : PySem.W.nsIn K mainGlobals "_law_is_job" = some (some (.ref fd11)))
    (ld11 : K.lookup fd11 = some ⟨ocd11, odd11, .func (PySem.W.fnOf "_law_is_job" "_law_is_job" (defArgs s_l_is_job) (defBody s_l_is_job) (defScope s_l_is_job) .none kVd11 dcd11 pmd11 and11 cdd11 ctd11), sld11⟩)
    (cd11 : PySem.W.codeIn K cdd11 "_law_is_job" = true)
    (kd11 : PySem.W.keepIn K (.ref fd11) = true)
    (ad12 : PySem.W.nsIn K mainGlobals "_law_right" = some (some (.ref fd12)))
    (ld12 : K.lookup fd12 = some ⟨ocd12, odd12, .func (PySem.W.fnOf "_law_right" "_law_right" (defArgs s_l_right) (defBody s_l_right) (defScope s_l_right) .none kVd12 dcd12 pmd12 and12 cdd12 ctd12), sld12⟩)
    (cd12 : PySem.W.codeIn K cdd12 "_law_right" = true)
    (kd12 : PySem.W.keepIn K (.ref fd12) = true)
    (ad13 : PySem.W.nsIn K mainGlobals "_law_some" = some (some (.ref fd13)))
    (ld13 : K.lookup fd13 = some ⟨ocd13, odd13, .func (PySem.W.fnOf "_law_some" "_law_some" (defArgs s_l_some) (defBody s_l_some) (defScope s_l_some) .none kVd13 dcd13 pmd13 and13 cdd13 ctd13), sld13⟩)
    (cd13 : PySem.W.codeIn K cdd13 "_law_some" = true)
    (kd13 : PySem.W.keepIn K (.ref fd13) = true)
    (ad14 : PySem.W.nsIn K mainGlobals "law" = some (some (.ref fd14)))
    (ld14 : K.lookup fd14 = some ⟨ocd14, odd14, .func (PySem.W.fnOf "law" "law" (defArgs s_law) (defBody s_law) (defScope s_law) .none kVd14 dcd14 pmd14 and14 cdd14 ctd14), sld14⟩)
    (cd14 : PySem.W.codeIn K cdd14 "law" = true)
    (kd14 : PySem.W.keepIn K (.ref fd14) = true)
    (z_isinstance : PySem.W.nsIn K mainGlobals "isinstance" = some none)
    (z_int : PySem.W.nsIn K mainGlobals "int" = some none)
    (z_bool : PySem.W.nsIn K mainGlobals "bool" = some none)
    (z_tuple : PySem.W.nsIn K mainGlobals "tuple" = some none)
    (z_len : PySem.W.nsIn K mainGlobals "len" = some none)
    (z_all : PySem.W.nsIn K mainGlobals "all" = some none)
    (z_zip : PySem.W.nsIn K mainGlobals "zip" = some none)
    (z_range : PySem.W.nsIn K mainGlobals "range" = some none)
    (z_max : PySem.W.nsIn K mainGlobals "max" = some none)
    (z_min : PySem.W.nsIn K mainGlobals "min" = some none)
    (z_list : PySem.W.nsIn K mainGlobals "list" = some none)
    (z_enumerate : PySem.W.nsIn K mainGlobals "enumerate" = some none)
    (z_repr : PySem.W.nsIn K mainGlobals "repr" = some none)
    (u_NOWHERE : PySem.W.nsIn K mainGlobals "NOWHERE" = some (some (.int (-1) tu_NOWHERE)))
    (u_MOST_BARS : PySem.W.nsIn K mainGlobals "MOST_BARS" = some (some (.int (8) tu_MOST_BARS)))
    (u_FARTHEST_BAR : PySem.W.nsIn K mainGlobals "FARTHEST_BAR" = some (some (.int (20) tu_FARTHEST_BAR))) :
    ∃ fd : FuncData, (∀ (s : Shared) (v : Value), BindsTo s fd ⟨[v], []⟩ [("_law_script", v)]) ∧ ∀ base : Heap, K.In base → base.Ns mainGlobals mg → FnG l.prog w K mg base 8 fa fd ["_law_script"] (spLaw K) := by
  have e := hfa.symm.trans (PySem.W.mg_of X G ad14)
  cases e
  have y_isinstance := PySem.W.mg_none_of X G z_isinstance
  have y_int := PySem.W.mg_none_of X G z_int
  have y_bool := PySem.W.mg_none_of X G z_bool
  have y_tuple := PySem.W.mg_none_of X G z_tuple
  have y_len := PySem.W.mg_none_of X G z_len
  have y_all := PySem.W.mg_none_of X G z_all
  have y_zip := PySem.W.mg_none_of X G z_zip
  have y_range := PySem.W.mg_none_of X G z_range
  have y_max := PySem.W.mg_none_of X G z_max
  have y_min := PySem.W.mg_none_of X G z_min
  have y_list := PySem.W.mg_none_of X G z_list
  have y_enumerate := PySem.W.mg_none_of X G z_enumerate
  have y_repr := PySem.W.mg_none_of X G z_repr
  have Fd0 := fun_mk (st := s_is_int) ld0 cd0 kd0
  have bd0 := Fd0.binds (ps := ["thing"]) fun _ _ _ _ _ _ us hl => match us, hl with | [_], _ => rfl
  have vd0 := PySem.W.mg_of X G ad0
  have Fd1 := fun_mk (st := s_is_between) ld1 cd1 kd1
  have bd1 := Fd1.binds (ps := ["thing", "least", "most"]) fun _ _ _ _ _ _ us hl => match us, hl with | [_, _, _], _ => rfl
  have vd1 := PySem.W.mg_of X G ad1
  have Fd2 := fun_mk (st := s_work_with) ld2 cd2 kd2
  have bd2 := Fd2.binds (ps := ["distances"]) fun _ _ _ _ _ _ us hl => match us, hl with | [_], _ => rfl
  have vd2 := PySem.W.mg_of X G ad2
  have Fd3 := fun_mk (st := s_is_bars) ld3 cd3 kd3
  have bd3 := Fd3.binds (ps := ["thing"]) fun _ _ _ _ _ _ us hl => match us, hl with | [_], _ => rfl
  have vd3 := PySem.W.mg_of X G ad3
  have Fd4 := fun_mk (st := s_first_free) ld4 cd4 kd4
  have bd4 := Fd4.binds (ps := ["stations"]) fun _ _ _ _ _ _ us hl => match us, hl with | [_], _ => rfl
  have vd4 := PySem.W.mg_of X G ad4
  have Fd5 := fun_mk (st := s_l_cell) ld5 cd5 kd5
  have bd5 := Fd5.binds (ps := ["_law_script", "_law_k"]) fun _ _ _ _ _ _ us hl => match us, hl with | [_, _], _ => rfl
  have vd5 := PySem.W.mg_of X G ad5
  have Fd6 := fun_mk (st := s_l_pen) ld6 cd6 kd6
  have bd6 := Fd6.binds (ps := ["_law_cell_here"]) fun _ _ _ _ _ _ us hl => match us, hl with | [_], _ => rfl
  have vd6 := PySem.W.mg_of X G ad6
  have Fd7 := fun_mk (st := s_l_draw) ld7 cd7 kd7
  have bd7 := Fd7.binds (ps := ["_law_pen_here", "_law_many"]) fun _ _ _ _ _ _ us hl => match us, hl with | [_, _], _ => rfl
  have vd7 := PySem.W.mg_of X G ad7
  have Fd8 := fun_mk (st := s_l_same) ld8 cd8 kd8
  have bd8 := Fd8.binds (ps := ["_law_found", "_law_due"]) fun _ _ _ _ _ _ us hl => match us, hl with | [_, _], _ => rfl
  have vd8 := PySem.W.mg_of X G ad8
  have Fd9 := fun_mk (st := s_l_meet) ld9 cd9 kd9
  have bd9 := Fd9.binds (ps := ["_law_one", "_law_other", "_law_by"]) fun _ _ _ _ _ _ us hl => match us, hl with | [_, _, _], _ => rfl
  have vd9 := PySem.W.mg_of X G ad9
  have Fd10 := fun_mk (st := s_l_bars) ld10 cd10 kd10
  have bd10 := Fd10.binds (ps := ["_law_one", "_law_other"]) fun _ _ _ _ _ _ us hl => match us, hl with | [_, _], _ => rfl
  have vd10 := PySem.W.mg_of X G ad10
  have Fd11 := fun_mk (st := s_l_is_job) ld11 cd11 kd11
  have bd11 := Fd11.binds (ps := ["_law_thing"]) fun _ _ _ _ _ _ us hl => match us, hl with | [_], _ => rfl
  have vd11 := PySem.W.mg_of X G ad11
  have Fd12 := fun_mk (st := s_l_right) ld12 cd12 kd12
  have bd12 := Fd12.binds (ps := ["_law_some_here"]) fun _ _ _ _ _ _ us hl => match us, hl with | [_], _ => rfl
  have vd12 := PySem.W.mg_of X G ad12
  have Fd13 := fun_mk (st := s_l_some) ld13 cd13 kd13
  have bd13 := Fd13.binds (ps := ["_law_pen_here", "_law_upto"]) fun _ _ _ _ _ _ us hl => match us, hl with | [_, _], _ => rfl
  have vd13 := PySem.W.mg_of X G ad13
  have Fd14 := fun_mk (st := s_law) ld14 cd14 kd14
  have bd14 := Fd14.binds (ps := ["_law_script"]) fun _ _ _ _ _ _ us hl => match us, hl with | [_], _ => rfl
  have vd14 := PySem.W.mg_of X G ad14
  have N_NOWHERE : ∃ t, mg "NOWHERE" = some (.int (-1) t) := ⟨_, PySem.W.mg_of X G u_NOWHERE⟩
  have N_MOST_BARS : ∃ t, mg "MOST_BARS" = some (.int (8) t) := ⟨_, PySem.W.mg_of X G u_MOST_BARS⟩
  have N_FARTHEST_BAR : ∃ t, mg "FARTHEST_BAR" = some (.int (20) t) := ⟨_, PySem.W.mg_of X G u_FARTHEST_BAR⟩
  refine ⟨PySem.W.fnOf "law" "law" (defArgs s_law) (defBody s_law) (defScope s_law) .none kVd14 dcd14 pmd14 and14 cdd14 ctd14, fun s v => .of_eq rfl, fun base _ _ => ?_⟩
  have Gd0 := ok_is_int (P := l.prog) (w := w) (mg := mg) (base := base) (k := 0) Fd0 y_isinstance y_int y_bool
  have Gd1 := ok_is_between (P := l.prog) (w := w) (mg := mg) (base := base) (k := 1) Fd1 (Gd0.mono (by decide)) kd0 bd0 vd0
  have Gd3 := ok_is_bars (P := l.prog) (w := w) (mg := mg) (base := base) (k := 2) Fd3 N_MOST_BARS N_FARTHEST_BAR (Gd1.mono (by decide)) kd1 bd1 vd1 y_isinstance y_tuple y_len y_all y_zip
  have Gd4 := ok_first_free (P := l.prog) (w := w) (mg := mg) (base := base) (k := 0) Fd4
  have Gd2 := ok_work_with (P := l.prog) (w := w) (mg := mg) (base := base) (k := 3) Fd2 N_NOWHERE (Gd3.mono (by decide)) kd3 bd3 vd3 (Gd4.mono (by decide)) kd4 bd4 vd4 y_enumerate y_tuple y_range y_max y_list
  have Gd5 := ok_l_cell (P := l.prog) (w := w) (mg := mg) (base := base) (k := 0) Fd5 y_len
  have Gd6 := ok_l_pen (P := l.prog) (w := w) (mg := mg) (base := base) (k := 0) Fd6 y_max
  have Gd7 := ok_l_draw (P := l.prog) (w := w) (mg := mg) (base := base) (k := 0) Fd7
  have Gd8 := ok_l_same (P := l.prog) (w := w) (mg := mg) (base := base) (k := 0) Fd8 y_repr
  have Gd9 := ok_meet (P := l.prog) (w := w) (mg := mg) (base := base) (k := 0) Fd9 y_enumerate y_len
  have Gd10 := ok_lbars (P := l.prog) (w := w) (mg := mg) (base := base) (k := 1) Fd10 (Gd9.mono (by decide)) kd9 bd9 vd9 y_range y_len
  have Gd11 := ok_is_job (P := l.prog) (w := w) (mg := mg) (base := base) (k := 0) Fd11 y_isinstance y_tuple y_len y_int y_bool
  have Gd12 := ok_right (P := l.prog) (w := w) (mg := mg) (base := base) (k := 5) Fd12 (Gd2.mono (by decide)) kd2 bd2 vd2 (Gd11.mono (by decide)) kd11 bd11 vd11 (Gd10.mono (by decide)) kd10 bd10 vd10 (Gd8.mono (by decide)) kd8 bd8 vd8 y_repr y_tuple
  have Gd13 := ok_some (P := l.prog) (w := w) (mg := mg) (base := base) (k := 1) Fd13 (Gd7.mono (by decide)) kd7 bd7 vd7 y_range y_len y_tuple
  exact ok_law (P := l.prog) (w := w) (mg := mg) (base := base) (k := 7) Fd14 (Gd5.mono (by decide)) kd5 bd5 vd5 (Gd6.mono (by decide)) kd6 bd6 vd6 (Gd13.mono (by decide)) kd13 bd13 vd13 (Gd12.mono (by decide)) kd12 bd12 vd12 y_len y_range y_tuple y_max y_min
end Sg

set_option Elab.async false
set_option linter.all false
open PySem PySem.W PyProof.Rows
set_option maxRecDepth 100000 in
set_option maxHeartbeats 0 in
theorem PySem.Challenge.cw_startgaps_k73_works_with_given_bars_holds : PySem.Challenge.rw_startgaps_k73_works_with_given_bars.Holds := by
  w_on; o_law; k_head; (case hw => w_witness2)
  k_fill
  refine Sg.walk_law (l := PySem.Challenge.rw_startgaps_k73_works_with_given_bars) (k := 8) (x := "_law_script") (sp := Sg.spLaw) rfl rfl ⟨rfl, by decide, by decide⟩ (fun w h Y => PySem.W.kIn_of Y) ?F (fun K H a ns hl _ hS => ⟨a, ns, rfl, hS, hl, fun _ => rfl⟩)
  case F =>
    intro w mg fa h KX G hmg
    refine' Sg.all_mk KX G hmg ?ad0 ?ld0 ?cd0 ?kd0 ?ad1 ?ld1 ?cd1 ?kd1 ?ad2 ?ld2 ?cd2 ?kd2 ?ad3 ?ld3 ?cd3 ?kd3 ?ad4 ?ld4 ?cd4 ?kd4 ?ad5 ?ld5 ?cd5 ?kd5 ?ad6 ?ld6 ?cd6 ?kd6 ?ad7 ?ld7 ?cd7 ?kd7 ?ad8 ?ld8 ?cd8 ?kd8 ?ad9 ?ld9 ?cd9 ?kd9 ?ad10 ?ld10 ?cd10 ?kd10 ?ad11 ?ld11 ?cd11 ?kd11 ?ad12 ?ld12 ?cd12 ?kd12 ?ad13 ?ld13 ?cd13 ?kd13 ?ad14 ?ld14 ?cd14 ?kd14 ?z_isinstance ?z_int ?z_bool ?z_tuple ?z_len ?z_all ?z_zip ?z_range ?z_max ?z_min ?z_list ?z_enumerate ?z_repr ?u_NOWHERE ?u_MOST_BARS ?u_FARTHEST_BAR
    (case ad0 => k_is)
    (case ld0 => k_is)
    (case cd0 => k_is)
    (case kd0 => k_is)
    (case ad1 => k_is)
    (case ld1 => k_is)
    (case cd1 => k_is)
    (case kd1 => k_is)
    (case ad2 => k_is)
    (case ld2 => k_is)
    (case cd2 => k_is)
    (case kd2 => k_is)
    (case ad3 => k_is)
    (case ld3 => k_is)
    (case cd3 => k_is)
    (case kd3 => k_is)
    (case ad4 => k_is)
    (case ld4 => k_is)
    (case cd4 => k_is)
    (case kd4 => k_is)
    (case ad5 => k_is)
    (case ld5 => k_is)
    (case cd5 => k_is)
    (case kd5 => k_is)
    (case ad6 => k_is)
    (case ld6 => k_is)
    (case cd6 => k_is)
    (case kd6 => k_is)
    (case ad7 => k_is)
    (case ld7 => k_is)
    (case cd7 => k_is)
    (case kd7 => k_is)
    (case ad8 => k_is)
    (case ld8 => k_is)
    (case cd8 => k_is)
    (case kd8 => k_is)
    (case ad9 => k_is)
    (case ld9 => k_is)
    (case cd9 => k_is)
    (case kd9 => k_is)
    (case ad10 => k_is)
    (case ld10 => k_is)
    (case cd10 => k_is)
    (case kd10 => k_is)
    (case ad11 => k_is)
    (case ld11 => k_is)
    (case cd11 => k_is)
    (case kd11 => k_is)
    (case ad12 => k_is)
    (case ld12 => k_is)
    (case cd12 => k_is)
    (case kd12 => k_is)
    (case ad13 => k_is)
    (case ld13 => k_is)
    (case cd13 => k_is)
    (case kd13 => k_is)
    (case ad14 => k_is)
    (case ld14 => k_is)
    (case cd14 => k_is)
    (case kd14 => k_is)
    (case z_isinstance => k_is)
    (case z_int => k_is)
    (case z_bool => k_is)
    (case z_tuple => k_is)
    (case z_len => k_is)
    (case z_all => k_is)
    (case z_zip => k_is)
    (case z_range => k_is)
    (case z_max => k_is)
    (case z_min => k_is)
    (case z_list => k_is)
    (case z_enumerate => k_is)
    (case z_repr => k_is)
    (case u_NOWHERE => k_is)
    (case u_MOST_BARS => k_is)
    (case u_FARTHEST_BAR => k_is)

